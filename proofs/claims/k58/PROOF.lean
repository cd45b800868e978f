import PyProof.Rows.All
import Wide.All
import OpenK.AllK
import Wide.FinOn
import Lean
import PyProof.EqAt
import PyProof.EqKinds
import PyProof.TupleCall
import PySem.Challenge.RW_evenwebs_k58_whole_nets_are_even
import PyProof.P3In
import PyProof.EqLayable
import PyProof.SumAny
import PyProof.NoPylong
import PyProof.FitsBits
import PyProof.Rows.Range3
import PyProof.DictRoads
import PyProof.DictKinds
import PyProof.Rows.FactsT2
import KE.KRevIter
import PyProof.SetScanFacts
import PyProof.SetKind
import PyProof.Rows.SetFrom
import PyProof.Walks
import PyProof.DictValues
import PyProof.FactsAll.set_1
import PyProof.DictWalks
import KE.KDictSum
import PyProof.SetRoads
import PyProof.MeetsSeq2
import PyProof.WalksMore
import PyProof.AutoSeq1
import PyProof.ListRange
import PyProof.Rows.SortShell
import PyProof.TupleOfSeq
import KE.KLam
set_option Elab.async false
set_option linter.all false
set_option maxHeartbeats 4000000
set_option maxRecDepth 100000
set_option bootstrap.genMatcherCode false
set_option genSizeOfSpec false
set_option genSizeOf false
open PySem renaming wpAny_bind→apq,wpAny_pure→apr,boot_len→apJ,wpAny_mono→ap4,wpAny_holding→aqk,wpAny_field→aqq,codeAny_mono→aqt,mem_of_lookup→aqw,wpAny_setState_of→aqz,wpAny_call_entry→aqD,wpAny_seqItems→aqE,wpAny_truthy_bool→aqH,wpAny_askSetting→aqR,codeAny_builtin→aq0,wpAny_passesOwn→aq4,wpAny_pyIter_tuple→aq5,call_meets→aq7,wpAny_pyIter_list→arf,sizeLine_eq→arh,wpAny_call→ari,wpAny_newObj_type→arn,wpAny_callSpecial?_slot→aro,wpAny_of_eq→arq,wpAny_setField_rec→ars,wpAny_isInstance→art,wpAny_Call_Name_kw→arL,wpAny_setField→arR,sub_set_self→arZ,wpAny_setEntries_of→ar0,wpAny_execs_nil→ar9,wpAny_rule→asj,wpAny_onRaise→asm,wpAny_attempt→asn,wpAny_storeSet_of→asD,codeAny_of_tree→asG,isSubtype_type→asH,wpAny_standAt→asP,pushCells_keeps→asW,wpAny_updateSeq_pair→as3,wpAny_pyIter_zip→as4,wpAny_pyIter_enum→as5,hashByValue_scannable→atn,plainId_quiet→ato,weight_type_call_type→ats,codeAny_call_builtin→atu,check_set_init_1→atw,wpAny_runValue→atx,entryFor_alias→aty,wpAny_setEpoch_of→atB,call_len_set→atE,wpAny_pyNext_range_end→at7,wpAny_pyIter_rangeiter→at8,list_append→auj,wpAny_comprehension_free→aul,filterMap_getElem?_range→auA,builtinLookup_eq_fast→auE
open Nat renaming le_refl→aps,ne_of_lt→apz,lt_of_lt_of_le→apG,le_trans→apW,zero_add→ap0,lt_irrefl→aqd,ne_of_gt→aqe,zero_le→aqm,lt_succ_self→aqp,succ_mul→aqx,lt_succ_of_lt→aqC,mod_lt→aqF,le_of_lt→aqG,lt_of_le_of_lt→aqL,le_of_eq→aqM,sub_self→aqW,le_succ→ark,le_add_right→aru,add_zero→arv,testBit_two_pow_sub_one→arx,div_lt_of_lt_mul→arG,mul_le_mul→arH,add_comm→arP,mul_comm→arQ,lt_or_ge→arU,mul_le_mul_right→ar4,mul_one→ar6,mul_pos→ar7,add_left_cancel→asp,not_lt_zero→asv,lt_trichotomy→asw,min_eq_left→asK,div_add_mod→asL,mul_add_div→asM,div_eq_of_lt→asN,mul_add→asO,lt_trans→atb,eq_zero_or_pos→atd,add_mul→atW,le_of_not_lt→auk,eq_of_beq_eq_true→auU,le_of_ble_eq_true→auV,pow_le_pow_right→au0,mul_add_mod→au2,mod_eq_of_lt→au3,lt_or_gt_of_ne→au4,mul_le_mul_left→au5,add_sub_cancel→au7
open PySem.Heap renaming get?_push_of_some→apt,lt_size→apy,get?_push_size→apF,size_push→apY,get?_update_other→arj,get?_update_self→arO
open List renaming mem_cons→apu,mem_map→apv,getElem?_eq_getElem→apw,mem_range→apx,all_eq_true→apA,length_map→apC,getD_eq_getElem?_getD→apD,map_cons→apE,size_toArray→apH,not_mem_nil→apI,getElem?_eq_some_iff→apK,length_cons→apL,getElem?_map→apM,getElem_mem→apR,nil_append→apS,mem_of_getElem?→apT,map_map→apV,mem_of_mem_take→apZ,mem_append→ap1,length_nil→ap3,length_append→ap5,lookup_cons→ap6,mem_cons_of_mem→ap7,getElem?_append_left→ap8,append_assoc→ap9,mem_singleton→aqa,getElem?_set_ne→aqb,mem_cons_self→aqg,getElem?_append_right→aqi,length_range→aqj,mem_append_right→aql,getElem?_set_self→aqn,getElem?_range→aqr,nodup_cons→aqu,length_take→aqv,take_length→aqy,mem_filter→aqB,append_nil→aqJ,replicate_succ→aqK,any_eq_true→aqO,set_cons_succ→aqP,getElem_of_mem→aqQ,map_congr_left→aqS,flatten_cons→aqU,mem_iff_getElem→aqV,pairwise_cons→aqX,range_succ→aqY,map_append→aqZ,foldl_cons→aq6,getElem?_eq_none→aq9,pairwise_iff_getElem→ara,take_append_drop→arb,eraseIdx_eq_take_drop_succ→arc,map_take→ard,forIn_cons→arl,nodup_append→arw,pairwise_map→arz,take_of_length_le→arD,nodup_range→arE,set_cons_zero→arF,filterMap_cons→arJ,mem_filterMap→arK,of_mem_zip→arM,getElem?_take→arT,take_succ_eq_append_getElem→arW,foldl_append→arX,zip_cons_cons→ar1,mem_mapIdx→ar5,getElem_inj→ar8,getElem?_take_of_lt→ase,take_sublist→asf,length_replicate→ash,forIn_nil→asl,take_zero→asq,getElem_range→asr,drop_eq_getElem_cons→ass,getElem_take→asu,mem_of_mem_drop→asy,perm_append_singleton→asA,pairwise_lt_range→asB,map_id→asI,any_eq_false→asQ,length_set→asT,map_nil→asV,getElem?_zip_eq_some→asX,getElem?_mapIdx→as6,getElem?_concat_length→as9,mem_erase_of_ne→ate,length_erase_of_mem→atf,find?_eq_none→ath,ext_getElem→ati,map_filterMap→atj,findIdx?_eq_some_iff_getElem→atl,findIdx?_eq_none_iff→atm,perm_middle→atz,length_eq_zero_iff→atA,perm_ext_iff_of_nodup→atD,cons_append→atH,map_drop→atJ,filter_cons→atN,zipWith_cons_cons→atO,flatMap_cons→atQ,any_cons→atR,any_map→atV,length_filter_le→atX,filter_sublist→atZ,mem_append_left→at5,getElem?_replicate→auc,zipIdx_cons→auo,zipIdx_nil→aup,getElem?_zipWith→auq,length_zipWith→aur,length_mapIdx→aus,drop_eq_nil_of_le→aut,length_pos_of_mem→auv,length_eraseIdx_of_lt→auF,ext_getElem?→auJ,range'_succ→auL,reverse_cons→auO,mem_map_of_mem→auP,zip_append→auQ,getElem?_set→auR,length_reverse→auW,filter_eq_self→auX,flatMap_append→auY,mem_flatMap→auZ,mem_flatten→au6,forall_mem_cons→au8
open PySem.W renaming mg_of→apB,mg_none_of→aqf,kia_one→aqo,cellsFrom_some→asb,kitx_dict→asS,rangeSize_down→as8,kitx_list→aua,callWith_K→aub,codeHd_of_K→auM,km_tabs_of→au9
open Bool renaming and_eq_true→apN,false_ne_true→apP,false_eq_true→apX,eq_iff_iff→aqI,not_true→aq1,or_eq_true→aq8,not_false→arV,false_and→asa,and_self→asE,and_false→asU,true_and→atg,false_or→atU
open Array renaming length_toList→apO,getElem?_toList→ap2,getElem?_eq_getElem→arC,toList_setIfInBounds→asz,toList_push→asC,mem_toList_iff→asR,toList_filterMap→atk,getD_eq_getD_getElem?→auu,foldl_toList→auy,getElem?_eq_none→auG,toList_append→auN,forIn_toList→auS
open Option.some renaming inj→apQ
open PySem.F renaming called_set→apU,slot_tuple_iterator_next→asi,slot_zip_next→aso,plainAttrs_list→as7,entry_type_call→atq,typeCall_set_1→att,entry_set_init→atv,slot_tuple_add→aud,entry_tuple_add→aue,args_tuple_add_2→auf,entry_tuple_iterator_next→aum,args_tuple_iterator_next_1→aun,plain_set_new→auB,sub_list_set→auC,sub_list_frozenset→auD,slot_set_iter→auH,slot_set_and→auK
open PyProof.Rows renaming vals1→aqc,boot_tuple→aqs,callWith_type1→aqT,boot_isinstance→ar2
open Ne renaming symm→aqh
open Int renaming natCast_mul→aqA,emod_nonneg→aq2,emod_lt_of_pos→aq3,toNat_natCast→arN,natCast_add→ar3,one_mul→asJ,le_refl→atG,pow_succ→atL,add_mul→atM,emod_eq_of_lt→auw,natCast_emod→auT
open PySem.Heap.SameBut renaming update→aqN
open PySem.Obj renaming data_mapFields→arp,isFreed_of_fields→asY,cls_mapFields→asZ
open Classical renaming byContradiction→ary
open PySem.SetTable renaming insertAt_perm→arA,toList_insertAt→asx
open PyProof.Rows.F renaming plain_set_update_loop→arB,entry_set_update_loop→asF
open PySem.Value renaming isInt_shape→arI
open PySem.Walks renaming list→arS
open PySem.Around renaming under_plainId→arY,under_plain→atr
open Option renaming isSome_iff_exists→asd,getD_none→auh
open PySem.Code renaming quiet_builtin→atp
open List.cons renaming inj→atF
open List.Pairwise renaming sublist→atY,filterMap→auz,imp_of_mem→au1
open PySem.Calls renaming Name_function_global→at6
open PyProof renaming noPylong_small→at9
open PySem.IsL renaming update→aui
open List.Perm renaming of_eq→auI
open Option renaming some→ζ,none→η
open List renaming range→θ,replicate→π,Nodup→τ
open Bool renaming true→ξ,false→Δ
open PySem renaming Value→Γ,Addr→Θ,mainGlobals→Ξ,Shared→ε,sizeLine→ι,starEach→μ,FuncData→ν,Expr→ο,Program→υ,Heap→χ,World→ψ,SetTable→ω,Around→acr,NameKind→adT,IsTupleKey→adU,Stmt→ad4,backTo→aea,IsPair→aeh,Scope→aeB,keywordEach→agr,Keyword→agI,attributeBase→ahd,Arguments→ahe,IsZip→ahg,cLine→ahl,backToKw→aho,Paired→ahq,GenState→aht,IsRangeIter→ahC,PyData→ahE,BindsTo→ahI,Draws→ahJ,PassesOwn→ahO,TriplesOk→ahQ
open PySem.W renaming nsIn→Ψ,Frag→Ω,OpenLaw→ahp
open PySem.Heap renaming SameBut→aeC,IsTuple→ahK
open PyProof.Rows renaming IntsAre→ag5,AllBare→ahk
open PySem.Shared renaming TypeIs→ahn
noncomputable section
namespace L2
open PySem PySem.Spec PyProof.Rows
abbrev Key:=Sum Int Str
def Oi:Key->Γ->Bool
 |.inl k,v=>Value.isInt k v
 |.inr x,v=>Value.isStrOf x v
def afP(w:ψ):Key->Int
 |.inl k=>hashInt k
 |.inr x=>hashStr w x
theorem lV:∀{k:Key}{v:Γ},Oi k v=ξ->(∃i t,k=Sum.inl i/\v=Value.int i t)\/(∃x t,k=Sum.inr x/\v=Value.str x t)
 |.inl i,v,h=>by
  obtain⟨t,e⟩:=arI (k:=i) (v:=v) h;exact .inl ⟨i,t,rfl,e⟩
 |.inr x,v,h=>by
  obtain⟨t,e⟩:=Value.isStrOf_shape (x:=x) (v:=v) h;exact .inr ⟨x,t,rfl,e⟩
theorem afN(a b:Int):decide ((Sum.inl a:Key)=Sum.inl b)=(a==b):=by
 by_cases e:a=b
 ·subst e;simp
 ·have h:¬(Sum.inl a:Key)=Sum.inl b:=λq=>e (Sum.inl.inj q)
  rw[decide_eq_false h];exact(beq_eq_false_iff_ne.mpr e).symm
theorem afK(a b:Str):decide ((Sum.inr a:Key)=Sum.inr b)=decide (a=b):=by
 by_cases e:a=b
 ·subst e;simp
 ·have h:¬(Sum.inr a:Key)=Sum.inr b:=λq=>e (Sum.inr.inj q)
  rw[decide_eq_false h,decide_eq_false e]
theorem afM(a:Int) (b:Str):decide ((Sum.inl a:Key)=Sum.inr b)=Δ:=decide_eq_false (λq=>nomatch q)
theorem afL(a:Str) (b:Int):decide ((Sum.inr a:Key)=Sum.inl b)=Δ:=decide_eq_false (λq=>nomatch q)
def D4(prog:υ) (w:ψ):PySem.KeyKind prog w Key where
 is:=Oi
 hash:=afP w
 inj:=λv a b ha hb=>by
  rcases lV ha with⟨i,t,rfl,rfl⟩|⟨x,t,rfl,rfl⟩
  ·rcases lV hb with⟨j,u,rfl,e⟩|⟨y,u,rfl,e⟩
   ·injection e with e1 _;rw[e1]
   ·exact nomatch e
  ·rcases lV hb with⟨j,u,rfl,e⟩|⟨y,u,rfl,e⟩
   ·exact nomatch e
   ·injection e with e1 _;rw[e1]
 byValue:=λk v h=>by
  rcases lV h with⟨i,t,rfl,rfl⟩|⟨x,t,rfl,rfl⟩<;>rfl
 pyHash:=λhv h=>by
  rcases lV hv with⟨i,t,rfl,rfl⟩|⟨x,t,rfl,rfl⟩
  ·exact wpAny_pyHash_int h
  ·exact wpAny_pyHash_str h
 eqBool:=λhu hv h=>by
  rcases lV hu with⟨i,t,rfl,rfl⟩|⟨x,t,rfl,rfl⟩
  ·rcases lV hv with⟨j,u,rfl,rfl⟩|⟨y,u,rfl,rfl⟩
   ·rw[afN]at h;exact wpAny_eqBool_int h
   ·rw[afM]at h;exact SeqAt.EqAt.int_str i t y u _ _ _ _ h
  ·rcases lV hv with⟨j,u,rfl,rfl⟩|⟨y,u,rfl,rfl⟩
   ·rw[afL]at h;exact SeqAt.EqAt.str_int x t j u _ _ _ _ h
   ·rw[afK]at h;exact wpAny_eqBool_str h
 «strs»:=λk x t v h=>by
  rcases lV h with⟨i,u,rfl,e⟩|⟨y,u,rfl,e⟩
  ·exact nomatch e
  ·injection e with e1 _
   subst e1;cases v<;>rfl
inductive V where
 |aH|bl (b:Bool)|int (i:Int)|str (x:Str)|jj (b:Array UInt8)|uM (b:UInt64)|ref (a:Θ)|ty (n:String)
 deriving DecidableEq
def RelV:V->Γ->Prop
 |.aH,u=>u=Value.none
 |.bl b,u=>u=Value.bool b
 |.int i,u=>∃t,u=Value.int i t
 |.str x,u=>∃t,u=Value.str x t
 |.jj b,u=>∃t,u=Value.bytes b t
 |.uM b,u=>∃t,u=Value.float b t
 |.ref a,u=>u=Value.ref a
 |.ty n,u=>u=Value.type n
abbrev Vals:List V->List Γ->Prop:=ahq RelV
theorem Vals.length{xs:List V}{us:List Γ}(r:Vals xs us):xs.length=us.length:=Paired.length r
theorem Vals.get:∀{xs:List V}{us:List Γ}{i:Nat}{x:V},Vals xs us->xs[i]? = ζ x->∃u,us[i]? = ζ u/\RelV x u
 |_,_,_,_,.nil,e=>by simp at e
 |_,_,0,_,.cons r _,e=>by simp at e;subst e;exact⟨_,rfl,r⟩
 |_,_,i+1,x,.cons _ t,e=>by
  obtain⟨u,h1,h2⟩:=Vals.get (i:=i) (x:=x) t (by simpa using e)
  exact⟨u,by simpa using h1,h2⟩
theorem Vals.set{x:V}{u:Γ}(r:RelV x u):∀{xs:List V}{us:List Γ}(i:Nat),Vals xs us->Vals (xs.set i x) (us.set i u)
 |_,_,_,.nil=>.nil
 |_,_,0,.cons _ t=>.cons r t
 |_,_,i+1,.cons q t=>.cons q (Vals.set r i t)
theorem Vals.append:∀{xs ys:List V}{us ws:List Γ},Vals xs us->Vals ys ws->Vals (xs++ys) (us++ws)
 |_,_,_,_,.nil,s=>s
 |_,_,_,_,.cons r t,s=>.cons r (Vals.append t s)
theorem Vals.take:∀{xs:List V}{us:List Γ}(n:Nat),Vals xs us->Vals (xs.take n) (us.take n)
 |_,_,0,_=>.nil
 |_,_,_+1,.nil=>.nil
 |_,_,n+1,.cons r t=>.cons r (Vals.take n t)
theorem Vals.drop:∀{xs:List V}{us:List Γ}(n:Nat),Vals xs us->Vals (xs.drop n) (us.drop n)
 |_,_,0,r=>r
 |_,_,_+1,.nil=>.nil
 |_,_,n+1,.cons _ t=>Vals.drop n t
def Ke:Option V->Option Γ->Prop
 |some v,ζ u=>RelV v u
 |none,η=>True
 |_,_=>False
def KV{κ:Type}:List (κ×V)->List (κ×Γ)->Prop:=ahq fun(p:κ×V) (q:κ×Γ)=>p.1=q.1/\RelV p.2 q.2
def kV:Key->V
 |.inl i=>.int i
 |.inr x=>.str x
inductive HO where
 |lst (xs:List V)
 |tup (xs:List V)
 |dK (kvs:List (Key×V))|dT (kvs:List (List Key×V))
 |set (S:Int->Bool) (n:Nat)
 |ins (C dx:Θ) (fs:List (Str×V))
 |own (x:Θ)
 |xd (fs:List (Str×V))
 |met (f x:Θ)
 |tM (lo hi:Int)
 |cY (o:Obj) (u:HO)
 |cX (ps:Array Γ)
 |ext (φ:χ->Prop)
abbrev Hp:=Θ->Option HO
def upd(H:Hp) (a:Θ) (o:HO):Hp:=λb=>if b=a then ζ o else H b
theorem e8{H:Hp}{a:Θ}{o:HO}:upd H a o a=ζ o:=by unfold upd;rw[if_pos rfl]
theorem bX{H:Hp}{a b:Θ}{o:HO}(h:b≠a):upd H a o b=H b:=by unfold upd;rw[if_neg h]
theorem NB{H:Hp}{a b:Θ}{o u:HO}(h:H a=ζ o) (h':H b=ζ u) (d:o≠u):a≠b:=by
 intro e;subst e;rw[h]at h';exact d (apQ h')
theorem dQ{H:Hp}{a b:Θ}{o:HO}(h:H a=ζ o) (h':H b=η):a≠b:=by
 intro e;subst e;rw[h]at h';cases h'
def k9(h:χ) (a:Θ) (items:Array Γ):Prop:=∃o,h.get? a=ζ o/\o.cls=.type "tuple"/\(∃n,o.data=.seq items n)/\o.dict=η
theorem k9.tup{h:χ}{a:Θ}{items:Array Γ}:k9 h a items->IsTup h a items:=fun⟨o,e,c,d,_⟩=>⟨o,e,c,d⟩
theorem k9.new(h:χ) (items:Array Γ):k9 (h.push {cls:=.type "tuple",data:=.seq items}) h.objs.size items:=⟨_,apF _ rfl,rfl,⟨_,rfl⟩,rfl⟩
section
variable (P:υ) (w:ψ)
def fQ(H:Hp) (h:χ) (a:Θ):HO->Prop
 |.lst xs=>xs.length<=ι/\∃(its:List Γ) (n:Nat),Vals xs its/\h.get? a=ζ {cls:=.type "list",data:=.seq its.toArray n}
 |.tup xs=>xs.length<=ι/\∃its:List Γ,Vals xs its/\k9 h a its.toArray
 |.dK kvs=>kvs.length<=ι/\(a==sysModules)=Δ/\∃vs,KV kvs vs/\h.DictOf (D4 P w) a vs
 |.dT kvs=>kvs.length<=ι/\(a==sysModules)=Δ/\∃xs:List (List Key×Θ×Γ),
   ahq (fun(p:List Key×V) (q:List Key×Θ×Γ)=>p.1=q.1/\H q.2.1=ζ (.tup (p.1.map kV))/\RelV p.2 q.2.2) kvs xs /\
   ∃o es ep,h.get? a=ζ o/\o.ExactDict/\o.data=.dict es ep/\es.toList=xs.map (entryOfKey (tupleKind (D4 P w)))/\(xs.map (·.1)).Nodup
 |.set S n=>h.SetOf (intKind P w) a S n
 |.ins C dx fs=>H dx=ζ (.own a)/\fs.length<=1000/\dx≠a/\h.get? a=ζ (PySem.W.instObj C dx) /\
   ∃mA,h.Ns1 dx mA/\(∀f,Ke (fs.lookup f) (mA f))/\PySem.Within mA (fs.map (·.1))
 |.own _=>∃o,h.get? a=ζ o
 |.xd fs=>∃mA,h.Ns1 a mA/\∀f,Ke (fs.lookup f) (mA f)
 |.tM lo hi=>∃t u v,h.get? a=ζ {cls:=.type "range",data:=.fields #[.int lo t,.int hi u,.int 1 v]}
 |.cY o u=>h.get? a=ζ o/\fQ H h a u
 |.cX ps=>h.get? a=ζ {cls:=.none,data:=.fields ps}
 |.met f x=>h.get? a=ζ (PySem.W.methodObj (.ref f) (.ref x))
 |.ext φ=>φ h/\(∃o,h.get? a=ζ o)/\∀h1 h2:χ,φ h1->(∀o,h1.get? a=ζ o->h2.get? a=ζ o)->φ h2
def dJ(H:Hp) (h:χ):Prop:=∀a o,H a=ζ o->fQ P w H h a o
end
section
variable {P:υ}{w:ψ}{H H':Hp}{h h':χ}{a:Θ}{o:HO}
theorem fQ.lt(x:fQ P w H h a o):a<h.objs.size:=by
 cases o with
 |lst xs=>obtain⟨_,_,_,_,e⟩:=x;exact apy e
 |tup xs=>obtain⟨_,_,_,p⟩:=x;exact p.tup.lt
 |dK kvs=>obtain⟨_,_,_,_,o,_,_,e,_⟩:=x;exact apy e
 |dT kvs=>obtain⟨_,_,_,_,o,_,_,e,_⟩:=x;exact apy e
 |set S n=>obtain⟨o,_,_,_,e,_⟩:=x;exact apy e
 |ins C dx fs=>obtain⟨_,_,_,e,_⟩:=x;exact apy e
 |own y=>obtain⟨_,e⟩:=x;exact apy e
 |xd fs=>obtain⟨_,⟨_,_,_,e,_⟩,_⟩:=x;exact apy e
 |tM lo hi=>obtain⟨_,_,_,e⟩:=x;exact apy e
 |cY ob u=>obtain⟨e,_⟩:=x;exact apy e
 |cX ps=>exact apy (show h.get? a=ζ _ from x)
 |met f y=>exact apy (show h.get? a=ζ _ from x)
 |ext φ=>obtain⟨_,⟨_,e⟩,_⟩:=x;exact apy e
theorem Paired.NT{α β:Type}{F G:α->β->Prop}:∀{l₁:List α}{l₂:List β},ahq F l₁ l₂->(∀a b,F a b->G a b)->ahq G l₁ l₂
 |_,_,.nil,_=>.nil
 |_,_,.cons r t,f=>.cons (f _ _ r) (Paired.NT t f)
theorem fQ.stay(x:fQ P w H h a o) (k:∀b u,(b=a\/H b=ζ (.own a))->h.get? b=ζ u->h'.get? b=ζ u)
  (ho:∀b,H b=ζ (.own a)->H' b=ζ (.own a)) (ht:∀b xs,H b=ζ (.tup xs)->H' b=ζ (.tup xs)):fQ P w H' h' a o:=by
 induction o with
 |lst xs=>obtain⟨z,its,n,r,e⟩:=x;exact⟨z,its,n,r,k _ _ (.inl rfl) e⟩
 |tup xs=>obtain⟨z,its,r,ob,e,c⟩:=x;exact⟨z,its,r,ob,k _ _ (.inl rfl) e,c⟩
 |dK kvs=>obtain⟨z,y,vs,r,ob,es,ep,e,c⟩:=x;exact⟨z,y,vs,r,ob,es,ep,k _ _ (.inl rfl) e,c⟩
 |dT kvs =>
  obtain⟨z,y,xs,r,ob,es,ep,e,c⟩:=x;exact⟨z,y,xs,Paired.NT r λp q z=>⟨z.1,ht _ _ z.2.1,z.2.2⟩,ob,es,ep,k _ _ (.inl rfl) e,c⟩
 |set S n=>obtain⟨ob,es,ep,t,e,c⟩:=x;exact⟨ob,es,ep,t,k _ _ (.inl rfl) e,c⟩
 |ins C dx fs =>
  obtain⟨d,z,ne,e,mA,⟨od,es,ep,e2,c⟩,r⟩:=x;exact⟨ho _ d,z,ne,k _ _ (.inl rfl) e,mA,⟨od,es,ep,k _ _ (.inr d) e2,c⟩,r⟩
 |own y=>obtain⟨ob,e⟩:=x;exact⟨ob,k _ _ (.inl rfl) e⟩
 |xd fs=>obtain⟨mA,⟨od,es,ep,e,c⟩,r⟩:=x;exact⟨mA,⟨od,es,ep,k _ _ (.inl rfl) e,c⟩,r⟩
 |tM lo hi=>obtain⟨t,u,v,e⟩:=x;exact⟨t,u,v,k _ _ (.inl rfl) e⟩
 |cY ob u ih=>obtain⟨e,q⟩:=x;exact⟨k _ _ (.inl rfl) e,ih q⟩
 |cX ps =>
  have e:h.get? a=ζ {cls:=.none,data:=.fields ps}:=x;show h'.get? a=ζ {cls:=.none,data:=.fields ps};exact k a _ (.inl rfl) e
 |met f y =>
  have e:h.get? a=ζ (PySem.W.methodObj (.ref f) (.ref y)):=x;show h'.get? a=ζ (PySem.W.methodObj (.ref f) (.ref y));exact k a _ (.inl rfl) e
 |ext φ=>obtain⟨p,⟨o,e⟩,st⟩:=x;exact⟨st _ _ p λo q=>k _ _ (.inl rfl) q,⟨o,k _ _ (.inl rfl) e⟩,st⟩
theorem dJ.lt(x:dJ P w H h) (e:H a=ζ o):a<h.objs.size:=(x a o e).lt
theorem dJ.fresh(x:dJ P w H h) (e:h.objs.size<=a):H a=η:=by
 cases q:H a with
 |none=>rfl
 |some u=>exact absurd (apG (x.lt q) e) (aqd _)
theorem dJ.kept(x:dJ P w H h) (k:∀b u,h.get? b=ζ u->h'.get? b=ζ u):dJ P w H h':=λa o e =>
 (x a o e).stay (λb u _ q=>k b u q) (λ_ q=>q) λ_ _ q=>q
theorem dJ.laid(x:dJ P w H h) (k:∀b u,h.get? b=ζ u->h'.get? b=ζ u) (hp:h.objs.size<=a) (new:fQ P w (upd H a o) h' a o):dJ P w (upd H a o) h':=λb u e=>by
 have hn:=x.fresh hp
 by_cases hb:b=a
 ·subst hb;rw[e8]at e;cases e;exact new
 ·rw[bX hb]at e;exact(x b u e).stay (λc v _ q=>k c v q) (λc q=>by rw[bX (dQ q hn)];exact q) λc xs q=>by rw[bX (dQ q hn)];exact q
end
def Rd(H:Hp) (a:Θ) (u:HO):Prop:=H a=ζ u\/∃o,H a=ζ (.cY o u)
theorem Rd.ok{P:υ}{w:ψ}{H:Hp}{h:χ}{a:Θ}{u:HO}(r:Rd H a u) (x:dJ P w H h):fQ P w H h a u:=by
 rcases r with r|⟨o,r⟩
 ·exact x a u r
 ·obtain⟨_,q⟩:=x a _ r;exact q
def Cf:Option HO->Prop
 |some (.lst _)=>True
 |some (.dK _)=>True
 |some (.dT _)=>True
 |some (.set _ _)=>True
 |some (.ins _ _ _)=>True
 |some (.ext _)=>True
 |_=>False
section
variable {P:υ}{w:ψ}{H:Hp}{h h':χ}{x e:Θ}{o':HO}
theorem dJ.write(ok:dJ P w H h) (mu:Cf (H x)) (he:e=x\/H e=ζ (.own x)) (k:∀b u,b≠e->h.get? b=ζ u->h'.get? b=ζ u) (uD:∃u,h'.get? e=ζ u)
  (new:fQ P w (upd H x o') h' x o'):dJ P w (upd H x o') h':=λb u q=>by
 have Nh:∀c y,H c=ζ (.own y)->c≠x:=λc y r z=>by subst z;rw[r]at mu;exact mu
 have adX:∀c xs,H c=ζ (.tup xs)->c≠x:=λc xs r z=>by subst z;rw[r]at mu;exact mu
 by_cases hb:b=x
 ·subst hb;rw[e8]at q;cases q;exact new
 ·rw[bX hb]at q
  by_cases qC:b=e
  ·have q':H b=ζ (.own x):=by
    rcases he with z|z
    ·exact absurd (qC.trans z) hb
    ·rw[qC];exact z
   rw[q]at q';cases q';obtain⟨v,hv⟩:=uD;exact⟨v,by rw[qC];exact hv⟩
  ·refine(ok b u q).stay (λc v hc r=>k c v ?_ r) (λc r=>by rw[bX (Nh c b r)];exact r) λc xs r=>by rw[bX (adX c xs r)];exact r
   rcases hc with rfl|hc
   ·exact qC
   ·rintro rfl
    rcases he with z|z
    ·exact Nh c b hc z
    ·rw[hc]at z;cases z;exact hb rfl
end
structure Un (fs ex:List Θ) (H H':Hp) (h h':χ):Prop where
 keep:∀b o,h.get? b=ζ o->H b=η->b∉fs->b∉ex->h'.get? b=ζ o
 slot:∀b o,h.get? b=ζ o->H b=η->b∈fs->b∉ex->∃sl,h'.get? b=ζ {o with slots:=sl}
 free:∀b o,h.get? b=ζ o->H b=η->b∉ex->H' b=η
 there:∀b o,h.get? b=ζ o->b∉ex->∃o',h'.get? b=ζ o'
 tups:∀b xs,H b=ζ (.tup xs)->H' b=ζ (.tup xs)
 je:∀b o u,H b=ζ (.cY o u)->H' b=ζ (.cY o u)
 ju:∀b ps,H b=ζ (.cX ps)->∃more,H' b=ζ (.cX (ps++more))
section
variable {fs fs' ex ex':List Θ}{H H1 H2:Hp}{h h1 h2 h':χ}{a x e:Θ}{o:HO}
theorem Un.any(u:Un fs ex H H1 h h1) {b:Θ}{ob:Obj}(q:h.get? b=ζ ob) (n:H b=η) (hx:b∉ex):∃sl,h1.get? b=ζ {ob with slots:=sl}:=by
 by_cases hb:b∈fs
 ·exact u.slot b ob q n hb hx
 ·exact⟨ob.slots,u.keep b ob q n hb hx⟩
theorem Un.kept(k:∀b u,h.get? b=ζ u->h'.get? b=ζ u):Un fs ex H H h h' :=
 ⟨λb ob q _ _ _=>k b ob q,λb ob q _ _ _=>⟨ob.slots,k b ob q⟩,λ_ _ _ n _=>n,λb ob q _=>⟨ob,k b ob q⟩,λ_ _ q=>q,λ_ _ _ q=>q,λ_ ps q=>⟨#[],by rw[q];simp⟩⟩
theorem Un.refl:Un fs ex H H h h:=Un.kept λ_ _ q=>q
theorem Un.laid(k:∀b u,h.get? b=ζ u->h'.get? b=ζ u) (hp:h.objs.size<=a) (hn:H a=η):Un fs ex H (upd H a o) h h' where
 keep:=λb u q _ _ _=>k b u q
 slot:=λb u q _ _ _=>⟨u.slots,k b u q⟩
 free:=λb u q n _=>by rw[bX (apz (apG (apy q) hp))];exact n
 there:=λb u q _=>⟨u,k b u q⟩
 tups:=λb xs q=>by rw[bX (dQ q hn)];exact q
 je:=λb u xs q=>by rw[bX (dQ q hn)];exact q
 ju:=λb ps q=>⟨#[],by rw[bX (dQ q hn),q];simp⟩
theorem Un.write(mu:Cf (H x)) (he:e=x\/H e=ζ (.own x)) (k:∀b u,b≠e->h.get? b=ζ u->h'.get? b=ζ u) (uD:∃u,h'.get? e=ζ u):Un fs ex H (upd H x o) h h':=by
 have hx:∀b,H b=η->b≠x:=λb n z=>by subst z;rw[n]at mu;exact mu
 have hb:∀b,H b=η->b≠e:=λb n z=>by
  subst z
  rcases he with r|r
  ·exact hx b n r
  ·rw[n]at r;cases r
 have hm:∀b u,H b=ζ u->¬Cf (ζ u)->b≠x:=λb u q nm z=>by subst z;rw[q]at mu;exact nm mu
 refine⟨λb u q n _ _=>k b u (hb b n) q,λb u q n _ _=>⟨u.slots,k b u (hb b n) q⟩,λb u q n _=>by rw[bX (hx b n)];exact n,λb u q _=>?_,
  λb xs q=>by rw[bX (hm b _ q λz=>z)];exact q,λb u xs q=>by rw[bX (hm b _ q λz=>z)];exact q,λb ps q=>⟨#[],by rw[bX (hm b _ q λz=>z),q];simp⟩⟩
 by_cases qC:b=e
 ·subst qC;exact uD
 ·exact⟨u,k b u qC q⟩
end
def zh(h:χ) (H:Hp):List Θ:=(θ h.objs.size).filter λa=>(H a).isSome
def lZ(h:χ) (H:Hp):χ:=PySem.W.hideAll h (zh h H)
theorem ahM(h:χ) (H:Hp):(lZ h H).objs.size=h.objs.size:=PySem.W.hideAll_size _ _
theorem ahN{h:χ}{H:Hp}{b:Θ}{o:Obj}(e:h.get? b=ζ o) (n:H b=η):(lZ h H).get? b=ζ o :=
 PySem.W.hideAll_get _ e λhm=>by
  have q:(H b).isSome=ξ:=(aqB.mp hm).2;rw[n]at q;simp at q
theorem acg{h:χ}{H:Hp}{b:Θ}{o:Obj}(e:(lZ h H).get? b=ζ o):h.get? b=ζ o/\H b=η:=by
 have e':h.get? b=ζ o:=PySem.W.of_hideAll (zh h H) e;refine⟨e',?_⟩;cases q:H b with
 |none=>rfl
 |some x =>
  have hm:b∈zh h H:=aqB.mpr ⟨apx.mpr (apy e'),by simp[q]⟩
  have z:(lZ h H).get? b=η:=PySem.W.hideAll_none (zh h H) hm;rw[z]at e;cases e
structure Mod (K:Ω) (mg:Str->Option Γ) (base:χ):Prop where
 lU:K.In base
 glob:base.Ns Ξ mg
 blt:∃mb,base.Ns builtinsNs mb/\∀x:Str,x≠"__name__"->mb x=bootBuiltins x
 nolimit:base.NoLimit
 bmod:∃bm ob,mg "__builtins__"=ζ (.ref bm)/\bm≠builtinsNs/\base.get? bm=ζ ob/\ob.cls=.type "module"/\ob.dict=ζ builtinsNs/\ob.data=.plain
structure Cx where
 prog:υ
 w:ψ
 K:Ω
 mg:Str->Option Γ
 base:χ
 A:acr
 N:List Str
 s₀:ε
 H₀:Hp
 env:Env
 outer:List Env
 stack:List Env
 ex:List Θ
 fn:Str->Bool
 calm:Bool
 pn:List (Θ×Obj)
 xe:Γ->ε->Prop
def frs(l:List Env):List Θ:=l.filterMap (·.frame)
abbrev Cx.fs(X:Cx):List Θ:=frs X.outer
def Ca(sc:aeB) (x:Str):Prop:=sc.names.lookup x=ζ .local\/sc.names.lookup x=ζ .cell\/sc.names.lookup x=ζ .free
def Loc(sc:aeB) (x:Str):Prop:=sc.names.lookup x=ζ .local\/sc.names.lookup x=ζ .cell
def Look(env:Env) (h:χ) (m:Str->Option Γ) (x:Str) (u:Γ):Prop :=
 (env.kindOf x=ζ .local/\m x=ζ u)\/((env.kindOf x=ζ .cell\/env.kindOf x=ζ .free)/\∃c,env.cells.lookup x=ζ c/\h.IsCell c (ζ u))
structure Cx.Ok (X:Cx):Prop where
 mod:Mod X.K X.mg X.base
 kind:X.env.scope.kind=.function
 glob:X.env.globals=Ξ
 blt:X.env.builtins=builtinsNs
 above:X.s₀.heap.objs.size<=X.env.locals
 inj:∀x y c,X.env.cells.lookup x=ζ c->X.env.cells.lookup y=ζ c->x=y
 has:∀x,(X.env.kindOf x=ζ .cell\/X.env.kindOf x=ζ .free)->∃c,X.env.cells.lookup x=ζ c
 pD:∀x c,X.fn x=ξ->X.env.cells.lookup x=ζ c->X.s₀.heap.objs.size<=c
 hd:X.calm=ξ->X.A.handled=η
 frames:X.A.frames=ζ X.stack
 stk:X.stack=X.outer\/(X.stack=X.env::X.outer/\X.env.frame=ζ X.env.locals)
 yg:∀b∈X.ex,b≠X.env.locals/\∀x c,X.env.cells.lookup x=ζ c->c≠b
 bs:∀b o,X.base.get? b=ζ o->X.s₀.heap.get? b=ζ o/\X.H₀ b=η
 iS:X.base.objs.size<=X.s₀.heap.objs.size
 lK:∀b o,X.base.get? b=ζ o->b∉X.ex
 uN:∀b∈X.ex,b∉X.fs
 iD:X.s₀.heap.FunFrames X.base X.outer
 kX:∀b∈X.fs,X.H₀ b=η
structure Inv (X:Cx) (pins:List (Θ×Obj)) (σ:List (Option V)) (H:Hp) (s:ε):Prop where
 ok:X.Ok
 os:s.os=X.s₀.os
 bare:ahk s.gens
 base:Un X.fs X.ex X.H₀ H X.s₀.heap s.heap
 loc:∃m,s.heap.Ns X.env.locals m/\∀(i:Nat) (x:Str) (v:V),X.N[i]? = ζ x->σ[i]? = ζ (ζ v)->Ca X.env.scope x->∃u,RelV v u/\Look X.env s.heap m x u
 cell:∀x c,X.env.cells.lookup x=ζ c->∃v,s.heap.IsCell c v
 free:H X.env.locals=η
 jf:∀x c,X.env.cells.lookup x=ζ c->H c=η
 pin:∀p∈X.pn++pins,s.heap.get? p.1=ζ p.2/\H p.1=η/\p.1≠X.env.locals/\p.1∉X.fs/\∀v,p.2.data≠.cell v
 hok:dJ X.prog X.w H s.heap
 len:σ.length=X.N.length
section
variable {X:Cx}{pins:List (Θ×Obj)}{σ:List (Option V)}{H H':Hp}{s:ε}{h':χ}
theorem Cx.Ok.ad3(ok:X.Ok) {b:Θ}{o:Obj}(e:X.base.get? b=ζ o):b∉X.fs:=λhb=>by
 have:=(ok.iD.mem hb).1;rw[e]at this;cases this
theorem Inv.bs(I:Inv X pins σ H s):∀b o,X.base.get? b=ζ o->s.heap.get? b=ζ o/\H b=η:=λb o e =>
 ⟨I.base.keep b o (I.ok.bs b o e).1 (I.ok.bs b o e).2 (I.ok.ad3 e) (I.ok.lK b o e),I.base.free b o (I.ok.bs b o e).1 (I.ok.bs b o e).2 (I.ok.lK b o e)⟩
theorem Inv.bk(I:Inv X pins σ H s):∀b o,X.base.get? b=ζ o->s.heap.get? b=ζ o:=λb o e=>(I.bs b o e).1
theorem Inv.mod(I:Inv X pins σ H s):Mod X.K X.mg X.base:=I.ok.mod
theorem Inv.fN(I:Inv X pins σ H s):X.K.In s.heap:=I.ok.mod.lU.keeps I.bk
theorem Inv.lt(I:Inv X pins σ H s):X.env.locals<s.heap.objs.size:=let⟨_,hn,_⟩:=I.loc;hn.lt
theorem Inv.sz(I:Inv X pins σ H s):X.s₀.heap.objs.size<=s.heap.objs.size:=apW I.ok.above (aqG I.lt)
theorem Inv.DN(I:Inv X pins σ H s) {a:Θ}(h:s.heap.objs.size<=a):a∉X.fs:=λhb=>by
 obtain⟨_,o,ho,_⟩:=I.ok.iD.mem hb;exact absurd (apG (apy ho) (apW I.sz h)) (aqd _)
theorem Inv.pC(I:Inv X pins σ H s):∀x c,X.env.cells.lookup x=ζ c->c≠X.env.locals:=λx c e z=>by
 obtain⟨v,o,ho,hd⟩:=I.cell x c e;obtain⟨m,⟨o',es,ep,ho',hd',_⟩,_⟩:=I.loc;rw[z,ho']at ho;cases ho;rw[hd']at hd;cases hd
theorem Inv.iD(I:Inv X pins σ H s):s.heap.FunFrames X.base X.outer:=by
 have all:∀(l:List Env),(∀b∈frs l,b∈X.fs)->X.s₀.heap.FunFrames X.base l->s.heap.FunFrames X.base l:=by
  intro l
  induction l with
  |nil=>intro _ _;trivial
  |cons env r ih =>
   intro hs hl;obtain⟨hk,⟨L,o,hf,hn,ho,hd⟩,hr⟩:=hl;have hL:L∈X.fs:=hs L (by unfold frs;rw[arJ,hf];exact aqg)
   obtain⟨sl,e⟩:=I.base.slot L o ho (I.ok.kX L hL) hL λz=>I.ok.uN L z hL
   exact⟨hk,⟨L,_,hf,hn,e,hd⟩,ih (λb hb=>hs b (by unfold frs;rw[arJ,hf];exact ap7 _ hb)) hr⟩
 exact all X.outer (λ_ hb=>hb) I.ok.iD
theorem Inv.stack(I:Inv X pins σ H s):s.heap.FunFrames X.base X.stack:=by
 rcases I.ok.stk with e|⟨e,hf⟩
 ·rw[e];exact I.iD
 ·rw[e];obtain⟨m,hn,_⟩:=I.loc;refine .cons (by rw[I.ok.kind];decide) hf hn ?_ I.iD
  exact Heap.get?_none_of_le (apW I.ok.iS I.ok.above)
theorem Inv.pY(I:Inv X pins σ H s):∀b∈frs X.stack,b∈X.env.locals::X.fs:=λb hb=>by
 rcases I.ok.stk with e|⟨e,hf⟩
 ·rw[e]at hb;exact ap7 _ hb
 ·rw[e]at hb;unfold frs at hb;rw[arJ,hf]at hb;exact hb
theorem Inv.CZ(I:Inv X pins σ H s):∀b∈frs X.stack,H b=η:=λb hb=>by
 rcases apu.mp (I.pY b hb)with e|hb
 ·rw[e];exact I.free
 ·obtain⟨_,o,ho,_⟩:=I.ok.iD.mem hb;exact I.base.free b o ho (I.ok.kX b hb) λz=>I.ok.uN b z hb
theorem Inv.step{g':Array aht}{t':Nat}{d':Drawn}{ch:List Θ}(I:Inv X pins σ H s)
  (hch:∀b∈ch,(b∈X.ex\/X.s₀.heap.objs.size<=b)/\b≠X.env.locals/\(∀x c,X.env.cells.lookup x=ζ c->c≠b)/\∀p∈X.pn++pins,p.1≠b)
  (keep:∀b o,b≠X.env.locals->b∉X.fs->b∉ch->s.heap.get? b=ζ o->H b=η->h'.get? b=ζ o)
  (slot:∀b o,b≠X.env.locals->b∈X.fs->b∉ch->s.heap.get? b=ζ o->H b=η->∃sl,h'.get? b=ζ {o with slots:=sl}) (free:∀b o,b∉ch->s.heap.get? b=ζ o->H b=η->H' b=η)
  (there:∀b o,b∉ch->s.heap.get? b=ζ o->∃o',h'.get? b=ζ o')
  (tups:∀b xs,H b=ζ (.tup xs)->H' b=ζ (.tup xs)) (je:∀b o u,H b=ζ (.cY o u)->H' b=ζ (.cY o u)) (ju:∀b ps,H b=ζ (.cX ps)->∃more,H' b=ζ (.cX (ps++more)))
  (ns:∀m,s.heap.Ns X.env.locals m->h'.Ns X.env.locals m) (hok:dJ X.prog X.w H' h') (hg:ahk g') :
  Inv X pins σ H' {s with heap:=h',gens:=g',drawn:=d',toks:=t'}:=by
 have NC:∀b o,X.s₀.heap.get? b=ζ o->b≠X.env.locals:=λb o e=>apz (apG (apy e) I.ok.above)
 have Ai:∀b o,X.s₀.heap.get? b=ζ o->b∉X.ex->b∉ch:=λb o e hx hb=>by
  rcases(hch b hb).1 with z|z
  ·exact hx z
  ·exact absurd (apG (apy e) z) (aqd _)
 have cellK:∀x c,X.env.cells.lookup x=ζ c->∀v,s.heap.IsCell c v->h'.IsCell c v:=λx c e v ⟨o,ho,hd⟩=>by
  have jT:c∉ch:=λz=>(hch c z).2.2.1 x c e rfl
  by_cases hc:c∈X.fs
  ·obtain⟨sl,q⟩:=slot c o (I.pC x c e) hc jT ho (I.jf x c e);exact⟨_,q,hd⟩
  ·exact⟨o,keep c o (I.pC x c e) hc jT ho (I.jf x c e),hd⟩
 refine⟨I.ok,I.os,hg,⟨λb o e n hb hx=>?_,λb o e n hb hx=>?_,λb o e n hx=>?_,λb o e hx=>?_,λb xs e=>tups b xs (I.base.tups b xs e),λb o xs e=>je b o xs (I.base.je b o xs e),λb ps e=>?_⟩,?_,λx c e=>?_,?_,λx c e=>?_,λp hp=>?_,hok,I.len⟩
 ·exact keep b o (NC b o e) hb (Ai b o e hx) (I.base.keep b o e n hb hx) (I.base.free b o e n hx)
 ·obtain⟨sl,e1⟩:=I.base.slot b o e n hb hx;obtain⟨Xe,e2⟩:=slot b _ (NC b o e) hb (Ai b o e hx) e1 (I.base.free b o e n hx);exact⟨Xe,e2⟩
 ·obtain⟨o',e1⟩:=I.base.there b o e hx;exact free b o' (Ai b o e hx) e1 (I.base.free b o e n hx)
 ·obtain⟨o',e1⟩:=I.base.there b o e hx;exact there b o' (Ai b o e hx) e1
 ·obtain⟨m1,e1⟩:=I.base.ju b ps e;obtain⟨m2,e2⟩:=ju b _ e1;exact⟨m1++m2,by rw[e2,Array.append_assoc]⟩
 ·obtain⟨m,hn,hl⟩:=I.loc;refine⟨m,ns m hn,λi x v e1 e2 e3=>?_⟩
  obtain⟨u,r,l⟩:=hl i x v e1 e2 e3;refine⟨u,r,?_⟩
  rcases l with l|⟨k,c,e,z⟩
  ·exact .inl l
  ·exact .inr ⟨k,c,e,cellK x c e _ z⟩
 ·obtain⟨v,z⟩:=I.cell x c e;exact⟨v,cellK x c e v z⟩
 ·obtain⟨m,⟨o,_,_,ho,_⟩,_⟩:=I.loc;exact free _ o (λz=>(hch _ z).2.1 rfl) ho I.free
 ·obtain⟨v,o,ho,hd⟩:=I.cell x c e;exact free c o (λz=>(hch c z).2.2.1 x c e rfl) ho (I.jf x c e)
 ·obtain⟨e,n,ne,nf,d⟩:=I.pin p hp;have jT:p.1∉ch:=λz=>(hch p.1 z).2.2.2 p hp rfl
  exact⟨keep p.1 p.2 ne nf jT e n,free p.1 p.2 jT e n,ne,nf,d⟩
theorem Inv.un{t':Nat}(I:Inv X pins σ H s) (u:Un X.fs [] H H' s.heap h') (hok:dJ X.prog X.w H' h'):Inv X pins σ H' {s with heap:=h',toks:=t'}:=by
 obtain⟨m,⟨o,es,ep,ho,r⟩,_⟩:=id I.loc;obtain⟨sl,hL⟩:=u.any ho I.free (by simp)
 exact I.step (g':=s.gens) (d':=s.drawn) (ch:=[]) (λ_ z=>nomatch z) (λb o _ hb _ e n=>u.keep b o e n hb (by simp)) (λb o _ hb _ e n=>u.slot b o e n hb (by simp)) (λb o _ e n=>u.free b o e n (by simp)) (λb o _ e=>u.there b o e (by simp)) u.tups u.je u.ju (λm' hm=>by
  obtain⟨o',es',HW,ho',r'⟩:=hm;rw[ho]at ho';cases ho';exact⟨_,es',HW,hL,r'⟩) hok I.bare
theorem Inv.call{g':Array aht}{t':Nat}{d':Drawn}{ch:List Θ}(I:Inv X pins σ H s) (u:Un (frs X.stack) ch H H' s.heap h') (hok:dJ X.prog X.w H' h') (hg:ahk g')
  (hch:∀b∈ch,(b∈X.ex\/X.s₀.heap.objs.size<=b)/\b≠X.env.locals/\(∀x c,X.env.cells.lookup x=ζ c->c≠b)/\∀p∈X.pn++pins,p.1≠b) :
  Inv X pins σ H' {s with heap:=h',gens:=g',drawn:=d',toks:=t'}:=by
 obtain⟨m,⟨o,es,ep,ho,r⟩,_⟩:=id I.loc;obtain⟨sl,hL⟩:=u.any ho I.free λz=>(hch _ z).2.1 rfl
 exact I.step (ch:=ch) hch (λb o hL hb hc e n=>u.keep b o e n (λz=>(apu.mp (I.pY b z)).elim hL hb) hc) (λb o _ _ hc e n=>u.any e n hc) (λb o hc e n=>u.free b o e n hc) (λb o hc e=>u.there b o e hc) u.tups u.je u.ju (λm' hm=>by
  obtain⟨o',es',HW,ho',r'⟩:=hm;rw[ho]at ho';cases ho';exact⟨_,es',HW,hL,r'⟩) hok hg
theorem Inv.turned{t':Nat}{it:Θ}(I:Inv X pins σ H s) (k:∀b o,b≠it->s.heap.get? b=ζ o->h'.get? b=ζ o) (hn:H it=η) (hL:it≠X.env.locals)
  (h1:it∈X.ex\/X.s₀.heap.objs.size<=it) (h2:∀x c,X.env.cells.lookup x=ζ c->c≠it) (h3:∀p∈X.pn++pins,p.1≠it):Inv X pins σ H {s with heap:=h',toks:=t'}:=by
 have Ny:∀b u,H b=ζ u->b≠it:=λb u e z=>by rw[z,hn]at e;cases e
 refine I.step (g':=s.gens) (d':=s.drawn) (ch:=[it]) (λb hb=>?_) (λb o _ _ hc e _=>k b o (λz=>hc (by simp[z])) e) (λb o _ _ hc e _=>⟨o.slots,k b o (λz=>hc (by simp[z])) e⟩) (λ_ _ _ _ n=>n)
  (λb o hc e=>⟨o,k b o (λz=>hc (by simp[z])) e⟩) (λ_ _ e=>e) (λ_ _ _ e=>e) (λb ps e=>⟨#[],by rw[e];simp⟩) (λm hm=>?_) (λb u e=>?_) I.bare
 ·have e:b=it:=by simpa using hb
  subst e;exact⟨h1,hL,h2,h3⟩
 ·obtain⟨o,es,ep,ho,r⟩:=hm;exact⟨o,es,ep,k _ o (aqh hL) ho,r⟩
 ·refine(I.hok b u e).stay (λc v hc q=>k c v ?_ q) (λ_ q=>q) λ_ _ q=>q
  rcases hc with z|z
  ·rw[z];exact Ny b u e
  ·exact Ny c _ z
theorem Inv.tok(I:Inv X pins σ H s) (t:Nat):Inv X pins σ H {s with toks:=t}:=I.un (h':=s.heap) (t':=t) Un.refl I.hok
theorem Inv.kept{t':Nat}(I:Inv X pins σ H s) (k:∀b u,s.heap.get? b=ζ u->h'.get? b=ζ u):Inv X pins σ H {s with heap:=h',toks:=t'}:=I.un (Un.kept k) (I.hok.kept k)
theorem Inv.laid{a:Θ}{o:HO}{t':Nat}(I:Inv X pins σ H s) (k:∀b u,s.heap.get? b=ζ u->h'.get? b=ζ u) (hp:s.heap.objs.size<=a) (new:fQ X.prog X.w (upd H a o) h' a o) :
  Inv X pins σ (upd H a o) {s with heap:=h',toks:=t'}:=I.un (Un.laid k hp (I.hok.fresh hp)) (I.hok.laid k hp new)
theorem Inv.write{x e:Θ}{o:HO}{t':Nat}(I:Inv X pins σ H s) (mu:Cf (H x)) (he:e=x\/H e=ζ (.own x)) (k:∀b u,b≠e->s.heap.get? b=ζ u->h'.get? b=ζ u) (uD:∃u,h'.get? e=ζ u)
  (new:fQ X.prog X.w (upd H x o) h' x o):Inv X pins σ (upd H x o) {s with heap:=h',toks:=t'}:=I.un (Un.write mu he k uD) (I.hok.write mu he k uD new)
theorem Inv.zQ{Dw:List (Θ×Obj)}(I:Inv X pins σ H s) (h:∀p∈Dw,s.heap.get? p.1=ζ p.2/\H p.1=η/\p.1≠X.env.locals/\p.1∉X.fs/\∀v,p.2.data≠.cell v):Inv X Dw σ H s :=
 ⟨I.ok,I.os,I.bare,I.base,I.loc,I.cell,I.free,I.jf,λp hp=>(ap1.mp hp).elim (λz=>I.pin p (at5 _ z)) (h p),I.hok,I.len⟩
theorem Nm{N:List Str}(hN:N.Nodup) {i j:Nat}{x:Str}(a:N[i]? = ζ x) (b:N[j]? = ζ x):i=j:=by
 obtain⟨h1,e1⟩:=apK.mp a;obtain⟨h2,e2⟩:=apK.mp b;exact(ar8 hN).mp (e1.trans e2.symm)
theorem LL{M:Model}{A:acr}{E:Γ->ε->Prop}{i:Nat}{x:Str}{v:V}{u:Γ}{Q:Unit->ε->Prop}(I:Inv X pins σ H s) (hN:X.N.Nodup) (hi:X.N[i]? = ζ x) (hx:Loc X.env.scope x) (r:RelV v u)
  (h:∀s',Inv X pins (σ.set i (ζ v)) H s'->(∃a,aeC a s.heap s'.heap/\(a=X.env.locals\/X.env.cells.lookup x=ζ a))->Q () s') (hf:X.fn x=ξ\/X.env.scope.names.lookup x=ζ .local:=by first|exact .inl rfl|exact .inr rfl|assumption):wpAny M A (storeName X.env x u) Q E s:=by
 obtain⟨m,hn,hl⟩:=id I.loc;have hcls:(X.env.scope.kind == .class||(X.env.scope.kind == .module&&X.env.locals != X.env.globals))=Δ:=by rw[I.ok.kind];rfl
 have O0:i<σ.length:=by rw[I.len];exact(apK.mp hi).1
 have pC:=I.pC;have tracked:∀{a:Θ}{h':χ},(∃o,s.heap.get? a=ζ o/\H a=η)->aeC a s.heap h'->dJ X.prog X.w H h':=fun{a h'} ha hs b ob e=>by
  obtain⟨_,_,hfree⟩:=ha;refine(I.hok b ob e).stay (λc w' hc q=>(hs.2 c ?_).trans q) (λ_ q=>q) λ_ _ q=>q
  rintro rfl
  rcases hc with rfl|hc
  ·rw[hfree]at e;cases e
  ·rw[hfree]at hc;cases hc
 rcases hx with hk|hk
 ·refine wpAny_storeName_local hk hn (λh' hn' hs=>?_) hcls
  obtain⟨oL,_,_,xT,_⟩:=id hn;refine h _ ⟨I.ok,I.os,I.bare,⟨λb o e n hb hx=>?_,λb o e n hb hx=>?_,I.base.free,λb o e hx=>?_,I.base.tups,I.base.je,I.base.ju⟩,⟨_,hn',λj y v' e1 e2 e3=>?_⟩,λy c e=>?_,I.free,I.jf,λp hp=>?_,tracked ⟨oL,xT,I.free⟩ hs,by simpa using I.len⟩ ⟨_,hs,.inl rfl⟩
  ·exact(hs.2 b (apz (apG (apy e) I.ok.above))).trans (I.base.keep b o e n hb hx)
  ·obtain⟨sl,e1⟩:=I.base.slot b o e n hb hx;exact⟨sl,(hs.2 b (apz (apG (apy e) I.ok.above))).trans e1⟩
  ·obtain⟨o',e1⟩:=I.base.there b o e hx;exact⟨o',(hs.2 b (apz (apG (apy e) I.ok.above))).trans e1⟩
  ·by_cases hj:j=i
   ·subst hj;rw[hi]at e1;cases e1;rw[aqn O0]at e2;cases e2;exact⟨u,r,.inl ⟨hk,by simp⟩⟩
   ·rw[aqb (aqh hj)]at e2;obtain⟨u',r',q⟩:=hl j y v' e1 e2 e3;refine⟨u',r',?_⟩
    rcases q with⟨k,e⟩|⟨k,c,e,z⟩
    ·refine .inl ⟨k,?_⟩;have:y≠x:=λe=>hj (Nm hN e1 (e▸hi))
     simp[this,e]
    ·exact .inr ⟨k,c,e,z.sameBut hs (pC y c e)⟩
  ·obtain⟨w',z⟩:=I.cell y c e;exact⟨w',z.sameBut hs (pC y c e)⟩
  ·obtain⟨e,n,ne,nf,d⟩:=I.pin p hp;exact⟨(hs.2 p.1 ne).trans e,n,ne,nf,d⟩
 ·have hfn:X.fn x=ξ:=by
   rcases hf with z|z
   ·exact z
   ·rw[z]at hk;cases hk
  obtain⟨c,hc⟩:=I.ok.has x (.inl hk);obtain⟨w',z⟩:=I.cell x c hc;refine wpAny_storeName_cell I.ok.kind hk hc z (λh' hc' hs=>?_)
  obtain⟨oc,hoc,ahA⟩:=id z;refine h {s with heap:=h'} ⟨I.ok,I.os,I.bare,⟨λb o e n hb hx=>?_,λb o e n hb hx=>?_,I.base.free,λb o e hx=>?_,I.base.tups,I.base.je,I.base.ju⟩,⟨m,hn.sameBut hs (aqh (pC x c hc)),λj y v' e1 e2 e3=>?_⟩,λy c' e=>?_,I.free,I.jf,λp hp=>?_,tracked ⟨oc,hoc,I.jf x c hc⟩ hs,by simpa using I.len⟩ ⟨c,hs,.inr hc⟩
  ·exact(hs.2 b (apz (apG (apy e) (I.ok.pD x c hfn hc)))).trans (I.base.keep b o e n hb hx)
  ·obtain⟨sl,e1⟩:=I.base.slot b o e n hb hx;exact⟨sl,(hs.2 b (apz (apG (apy e) (I.ok.pD x c hfn hc)))).trans e1⟩
  ·obtain⟨o',e1⟩:=I.base.there b o e hx;exact⟨o',(hs.2 b (apz (apG (apy e) (I.ok.pD x c hfn hc)))).trans e1⟩
  ·by_cases hj:j=i
   ·subst hj;rw[hi]at e1;cases e1;rw[aqn O0]at e2;cases e2;exact⟨u,r,.inr ⟨.inl hk,c,hc,hc'⟩⟩
   ·rw[aqb (aqh hj)]at e2;obtain⟨u',r',q⟩:=hl j y v' e1 e2 e3;refine⟨u',r',?_⟩
    rcases q with q|⟨k,c',e,z'⟩
    ·exact .inl q
    ·refine .inr ⟨k,c',e,z'.sameBut hs ?_⟩
     rintro rfl
     exact hj (Nm hN e1 (I.ok.inj _ _ _ e hc▸hi))
  ·by_cases hcc:c'=c
   ·subst hcc;exact⟨_,hc'⟩
   ·obtain⟨w2,z2⟩:=I.cell y c' e;exact⟨w2,z2.sameBut hs hcc⟩
  ·obtain⟨e,n,ne,nf,d⟩:=I.pin p hp;refine⟨(hs.2 p.1 ?_).trans e,n,ne,nf,d⟩;intro q;rw[q,hoc]at e;have q':oc=p.2:=apQ e;exact d w' (by rw[<-q'];exact ahA)
theorem LM{M:Model}{A:acr}{E:Γ->ε->Prop}{i:Nat}{x:Str}{v:V}{u:Γ}{Q:Unit->ε->Prop}(I:Inv X pins σ H s) (hN:X.N.Nodup) (hi:X.N[i]? = ζ x) (hx:Loc X.env.scope x) (r:RelV v u)
  (h:∀s',Inv X pins (σ.set i (ζ v)) H s'->Q () s') (hf:X.fn x=ξ\/X.env.scope.names.lookup x=ζ .local:=by first|exact .inl rfl|exact .inr rfl|assumption):wpAny M A (storeName X.env x u) Q E s :=
 LL I hN hi hx r (λs' I' _=>h s' I') hf
theorem Inv.I0{s':ε}{ch:List Θ}(I:Inv X pins σ H s) (ho:s'.os=s.os) (u:Un (frs X.stack) ch H H' s.heap s'.heap) (hok:dJ X.prog X.w H' s'.heap) (hg:ahk s'.gens)
  (hch:∀b∈ch,(b∈X.ex\/X.s₀.heap.objs.size<=b)/\b≠X.env.locals/\(∀x c,X.env.cells.lookup x=ζ c->c≠b)/\∀p∈X.pn++pins,p.1≠b):Inv X pins σ H' s':=by
 obtain⟨h',g',d',t',o'⟩:=s';have e:o'=s.os:=ho;subst e;exact I.call (g':=g') (t':=t') (d':=d') u hok hg hch
end
abbrev XK:=Γ->Option Θ->Hp->Prop
abbrev St:=List (Option V)
abbrev VK:=V->Hp->Prop
abbrev TE:=St->Hp->VK->Prop
abbrev TT:=St->Hp->(Bool->Hp->Prop)->Prop
abbrev TA:=St->Hp->(List V->Hp->Prop)->Prop
structure Ends where
 nx:St->Hp->Prop
 rt:VK
 bk:St->Hp->Prop:=λ_ _=>False
 ct:St->Hp->Prop:=λ_ _=>False
abbrev TS:=Ends->St->Hp->Prop
def EP(X:Cx) (pins:List (Θ×Obj)) (σ:St) (Q:VK) (u:Γ) (s':ε):Prop:=∃v H',Inv X pins σ H' s'/\RelV v u/\Q v H'
def TP(X:Cx) (pins:List (Θ×Obj)) (σ:St) (Q:Bool->Hp->Prop) (b:Bool) (s':ε):Prop:=∃H',Inv X pins σ H' s'/\Q b H'
def AP(X:Cx) (pins:List (Θ×Obj)) (σ:St) (Q:List V->Hp->Prop) (us:List Γ) (s':ε):Prop:=∃vs H',Inv X pins σ H' s'/\Vals vs us/\Q vs H'
def SP(X:Cx) (pins:List (Θ×Obj)) (D:Ends) (f:Flow) (s':ε):Prop :=
 match f with
 |.next=>∃σ' H',Inv X pins σ' H' s'/\D.nx σ' H'
 |.brk=>∃σ' H',Inv X pins σ' H' s'/\D.bk σ' H'
 |.cont=>∃σ' H',Inv X pins σ' H' s'/\D.ct σ' H'
 |.ret u=>∃v σ' H',Inv X pins σ' H' s'/\RelV v u/\D.rt v H'
def PE(X:Cx) (e:ο) (t:TE):Prop :=
 ∀(pins:List (Θ×Obj)) (s:ε) (σ:St) (H:Hp) (Q:VK),Inv X pins σ H s->t σ H Q->wpAny (model X.prog X.w) X.A (eval e X.env) (EP X pins σ Q) X.xe s
def PT(X:Cx) (e:ο) (t:TT):Prop :=
 ∀(pins:List (Θ×Obj)) (s:ε) (σ:St) (H:Hp) (Q:Bool->Hp->Prop),Inv X pins σ H s->t σ H Q->wpAny (model X.prog X.w) X.A (isTrue e X.env (eval e X.env)) (TP X pins σ Q) X.xe s
def PW(X:Cx) (e:ο) (t:TT):Prop :=
 ∀(whole:Sem Γ) (pins:List (Θ×Obj)) (s:ε) (σ:St) (H:Hp) (Q:Bool->Hp->Prop),Inv X pins σ H s->t σ H Q->wpAny (model X.prog X.w) X.A (isTrue e X.env whole) (TP X pins σ Q) X.xe s
theorem PW.pt{X:Cx}{e:ο}{t:TT}(h:PW X e t):PT X e t:=h _
def PA(X:Cx) (es:List ο) (t:TA):Prop :=
 ∀(pos:Pos) (pins:List (Θ×Obj)) (s:ε) (σ:St) (H:Hp) (Q:List V->Hp->Prop),Inv X pins σ H s->t σ H Q->wpAny (model X.prog X.w) X.A (spliced (aea pos (μ es X.env))) (AP X pins σ Q) X.xe s
def PS(X:Cx) (st:ad4) (t:TS):Prop :=
 ∀(pins:List (Θ×Obj)) (s:ε) (σ:St) (H:Hp) (D:Ends),Inv X pins σ H s->t D σ H->wpAny (model X.prog X.w) X.A (exec st X.env) (SP X pins D) X.xe s
def gA(X:Cx) (st:List ad4) (t:TS):Prop :=
 ∀(pins:List (Θ×Obj)) (s:ε) (σ:St) (H:Hp) (D:Ends),Inv X pins σ H s->t D σ H->wpAny (model X.prog X.w) X.A (execs st X.env) (SP X pins D) X.xe s
theorem bw{α:Type}{t:Sem α}{Q Q':α->ε->Prop}{M:Model}{A:acr}{E:Γ->ε->Prop}{s:ε}(h:wpAny M A t Q E s) (hQ:∀a s,Q a s->Q' a s):wpAny M A t Q' E s:=ap4 h hQ λ_ _ x=>x
section
variable {X:Cx}
def U7(i:Nat):TE:=λσ H Q=>∃v,σ[i]? = ζ (ζ v)/\Q v H
def tC(v:V):TE:=λ_ H Q=>Q v H
theorem MB{i:Nat}{x:Str}{pos:Pos}(hN:X.N[i]? = ζ x) (hv:Ca X.env.scope x) (hd:(x==("__debug__":Str))=Δ:=by decide) (hcd:(x==("__classdict__":Str))=Δ:=by decide):PE X (.Name x pos) (U7 i):=by
 intro pins s σ H Q I h;obtain⟨v,e,h⟩:=h;obtain⟨m,hn,hl⟩:=I.loc;obtain⟨u,r,l⟩:=hl i x v hN e hv;have fin:EP X pins σ Q u s:=⟨v,H,I,r,h⟩
 rcases l with⟨hk,hm⟩|⟨hk,c,hc,hcell⟩
 ·exact wpAny_Name (wpAny_loadName_local I.ok.kind hk hn hm fin) hd
 ·rcases hk with hk|hk
  ·exact wpAny_Name (wpAny_loadName_cell I.ok.kind hk hc hcell fin) hd
  ·exact wpAny_Name (wpAny_loadName_free I.ok.kind hk hc hcell fin hcd) hd
theorem aaN{i j pos}:PE X (.Constant (.int i) j pos) (tC (.int i)):=λ_ _ _ H _ I h=>wpAny_Constant_int ⟨.int i,H,I.tok _,⟨_,rfl⟩,h⟩
theorem aaX{b j pos}:PE X (.Constant (.bool b) j pos) (tC (.bl b)):=λ_ _ _ H _ I h=>Constant_bool ⟨.bl b,H,I,rfl,h⟩
theorem aaK{j pos}:PE X (.Constant .none j pos) (tC .aH):=λ_ _ _ H _ I h=>Constant_none ⟨.aH,H,I,rfl,h⟩
theorem aaF{x j pos}:PE X (.Constant (.str x) j pos) (tC (.str x)):=λ_ _ _ H _ I h=>Calls.Constant_str ⟨.str x,H,I.tok _,⟨_,rfl⟩,h⟩
def Gl(X:Cx) (x:Str):Prop:=X.env.kindOf x=ζ .globalImplicit
theorem Eg{E:Γ->ε->Prop}{pins:List (Θ×Obj)}{s:ε}{σ:St}{H:Hp}{x:Str}{u:Γ}{pos:Pos}{Q:Γ->ε->Prop}(I:Inv X pins σ H s) (hg:Gl X x) (hm:X.mg x=ζ u) (h:Q u s)
  (hd:(x==("__debug__":Str))=Δ:=by decide):wpAny (model X.prog X.w) X.A (eval (.Name x pos) X.env) Q E s :=
 at6 I.ok.kind hg (Calls.loadGlobal_global (by rw[I.ok.glob];exact I.mod.glob.keeps I.bk) hm h) hd
theorem kQ{E:Γ->ε->Prop}{pins:List (Θ×Obj)}{s:ε}{σ:St}{H:Hp}{x:Str}{u:Γ}{pos:Pos}{Q:Γ->ε->Prop}(I:Inv X pins σ H s) (hg:Gl X x) (hm:X.mg x=η) (hv:bootBuiltins x=ζ u) (h:Q u s)
  (hn:x≠"__name__":=by decide) (hd:(x==("__debug__":Str))=Δ:=by decide):wpAny (model X.prog X.w) X.A (eval (.Name x pos) X.env) Q E s:=by
 obtain⟨mb,h1,h2⟩:=I.mod.blt;exact at6 I.ok.kind hg (Calls.loadGlobal_builtin (by rw[I.ok.glob];exact I.mod.glob.keeps I.bk) hm (by rw[I.ok.blt];exact h1.keeps I.bk) ((h2 x hn).trans hv) h) hd
theorem aaP{x:Str}{v:V}{u:Γ}{pos:Pos}(hg:Gl X x) (hm:X.mg x=ζ u) (r:RelV v u) (hd:(x==("__debug__":Str))=Δ:=by decide):PE X (.Name x pos) (tC v) :=
 λ_ _ _ H _ I h=>Eg I hg hm ⟨v,H,I,r,h⟩ hd
theorem aaW{x:Str}{v:V}{u:Γ}{pos:Pos}(hg:Gl X x) (hm:X.mg x=η) (hv:bootBuiltins x=ζ u) (r:RelV v u) (hn:x≠"__name__":=by decide) (hd:(x==("__debug__":Str))=Δ:=by decide):PE X (.Name x pos) (tC v) :=
 λ_ _ _ H _ I h=>kQ I hg hm hv ⟨v,H,I,r,h⟩ hn hd
variable {a b:ο}{ta tb:TE}{pos:Pos}
def tB(t:TE):TT:=λσ H Q=>t σ H λx H1=>∃c,x=.bl c/\Q c H1
theorem YZ{e:ο}{t:TE}(h:PE X e t) (he:∀whole,isTrue e X.env whole=(do let v <-whole;standAt e.pos;holding [v] (truthy v)):=by intro _;rfl):PT X e (tB t):=by
 intro pins s σ H Q I hw;refine isTrue_plain (bw (h pins s σ H _ I hw) λv s1 ⟨x,H1,I1,r1,q1⟩=>?_) (he _)
 obtain⟨d,rfl,q⟩:=q1;cases r1;exact aqH ⟨H1,I1,q⟩
variable {tA zm:TT}{rest:List ο}
def Vw(t u:TT):TT:=λσ H Q=>t σ H λc H1=>if c=ξ then u σ H1 Q else Q Δ H1
def Ve(t u:TT):TT:=λσ H Q=>t σ H λc H1=>if c=ξ then Q ξ H1 else u σ H1 Q
def Vg(t:TT):TT:=λσ H Q=>t σ H λc H1=>Q (!c) H1
theorem YV(ha:PT X a tA):PW X (.BoolOp .And [a] pos) tA:=by
 intro wh pins s σ H Q I h;refine isTrue_and (bw (ha pins s σ H Q I h) λc s1 e=>?_)
 cases c with
 |true=>exact isTrue_and_nil e
 |false=>exact e
theorem YT(ha:PT X a tA):PW X (.BoolOp .Or [a] pos) tA:=by
 intro wh pins s σ H Q I h;refine isTrue_or (bw (ha pins s σ H Q I h) λc s1 e=>?_)
 cases c with
 |false=>exact isTrue_or_nil e
 |true=>exact e
theorem YW(ha:PT X a tA) (hb:PW X (.BoolOp .And (b::rest) pos) zm):PW X (.BoolOp .And (a::b::rest) pos) (Vw tA zm):=by
 intro wh pins s σ H Q I h;refine isTrue_and (bw (ha pins s σ H _ I h) λc s1 ⟨H1,I1,q1⟩=>?_)
 cases c with
 |true=>exact hb wh pins s1 σ H1 Q I1 q1
 |false=>exact⟨H1,I1,q1⟩
theorem YU(ha:PT X a tA) (hb:PW X (.BoolOp .Or (b::rest) pos) zm):PW X (.BoolOp .Or (a::b::rest) pos) (Ve tA zm):=by
 intro wh pins s σ H Q I h;refine isTrue_or (bw (ha pins s σ H _ I h) λc s1 ⟨H1,I1,q1⟩=>?_)
 cases c with
 |true=>exact⟨H1,I1,q1⟩
 |false=>exact hb wh pins s1 σ H1 Q I1 q1
theorem Y3(ha:PT X a tA):PT X (.UnaryOp .Not a pos) (Vg tA):=by
 intro pins s σ H Q I h;exact isTrue_not (ha pins s σ H (λc H1=>Q (!c) H1) I h)
def Vu(ta tb:TE):TE:=λσ H Q=>ta σ H λx H1=>∃c,x=.bl c/\if c=ξ then tb σ H1 Q else Q (.bl Δ) H1
def Vf(ta:TE):TE:=λσ H Q=>ta σ H λx H1=>∃c,x=.bl c/\Q (.bl (!c)) H1
theorem aaI{op}{t:TE}(h:PE X a t):PE X (.BoolOp op [a] pos) t:=λpins s σ H Q I hw=>BoolOp_one (h pins s σ H Q I hw)
theorem aaY(ha:PE X a ta) (hb:PE X (.BoolOp .And (b::rest) pos) tb):PE X (.BoolOp .And (a::b::rest) pos) (Vu ta tb):=by
 intro pins s σ H Q I h;refine BoolOp_and (bw (ha pins s σ H _ I h) λv s1 ⟨x,H1,I1,r1,q1⟩=>?_)
 obtain⟨c,rfl,q1⟩:=q1;cases r1;refine aqH ?_;cases c with
 |true=>exact hb pins s1 σ H1 Q I1 q1
 |false=>exact⟨.bl Δ,H1,I1,rfl,q1⟩
theorem aaJ(ha:PE X a ta):PE X (.UnaryOp .Not a pos) (Vf ta):=by
 intro pins s σ H Q I h;refine UnaryOp_ (bw (ha pins s σ H _ I h) λv s1 ⟨x,H1,I1,r1,q1⟩=>?_)
 obtain⟨c,rfl,q1⟩:=q1;cases r1;exact not_of (aqH ⟨.bl (!c),H1,I1,rfl,q1⟩)
def Vn(t:TT) (ta tb:TE):TE:=λσ H Q=>t σ H λc H1=>if c=ξ then ta σ H1 Q else tb σ H1 Q
theorem aaO{c:ο}(hc:PT X c tA) (ha:PE X a ta) (hb:PE X b tb):PE X (.IfExp c a b pos) (Vn tA ta tb):=by
 intro pins s σ H Q I h;refine wpAny_IfExp (bw (hc pins s σ H _ I h) λd s1 ⟨H1,I1,q1⟩=>?_)
 cases d with
 |true=>exact ha pins s1 σ H1 Q I1 q1
 |false=>exact hb pins s1 σ H1 Q I1 q1
end
def bD(K:Ω) (H:Hp) (a:Θ) (xs:List V):Prop :=
 Rd H a (.lst xs) \/
  ∃(o:Obj) (its:Array Γ) (n:Nat),K.lookup a=ζ o/\o.cls=.type "list"/\o.dict=η/\o.data=.seq its n/\its.size<=ι/\Vals xs its.toList
def cF(K:Ω) (H:Hp) (a:Θ) (xs:List V):Prop :=
 Rd H a (.tup xs) \/
  ∃(o:Obj) (its:Array Γ) (n:Nat),K.lookup a=ζ o/\o.cls=.type "tuple"/\o.data=.seq its n/\its.size<=ι/\Vals xs its.toList
def anl:Γ->Option V
 |.none=>ζ .aH
 |.bool b=>ζ (.bl b)
 |.int i _=>ζ (.int i)
 |.str x _=>ζ (.str x)
 |.bytes b _=>ζ (.jj b)
 |.float b _=>ζ (.uM b)
 |.ref a=>ζ (.ref a)
 |.type n=>ζ (.ty n)
 |_=>η
theorem RelV.abs{x:V}{u:Γ}(r:RelV x u):anl u=ζ x:=by
 cases x with
 |aH=>cases r;rfl
 |bl _=>cases r;rfl
 |int _=>obtain⟨t,rfl⟩:=r;rfl
 |str _=>obtain⟨t,rfl⟩:=r;rfl
 |jj _=>obtain⟨t,rfl⟩:=r;rfl
 |uM _=>obtain⟨t,rfl⟩:=r;rfl
 |ref _=>cases r;rfl
 |ty _=>cases r;rfl
theorem RelV.inj{x y:V}{u:Γ}(r:RelV x u) (q:RelV y u):x=y:=apQ (r.abs.symm.trans q.abs)
theorem Vals.inj:∀{xs ys:List V}{us:List Γ},Vals xs us->Vals ys us->xs=ys
 |_,_,_,.nil,.nil=>rfl
 |_,_,_,.cons r t,.cons r' t'=>by rw[r.inj r',Vals.inj t t']
section
variable {X:Cx}{pins:List (Θ×Obj)}{σ:St}{H:Hp}{s:ε}{a:Θ}{xs ys:List V}
theorem bD.of{K:Ω}(h:H a=ζ (.lst xs)):bD K H a xs:=.inl (.inl h)
theorem cF.of{K:Ω}(h:H a=ζ (.tup xs)):cF K H a xs:=.inl (.inl h)
theorem Inv.list(I:Inv X pins σ H s) (h:bD X.K H a xs):∃its:List Γ,Vals xs its/\PlainL s.heap a its.toArray/\xs.length<=ι:=by
 rcases h with h|⟨o,its,n,hk,hc,hd,hs,hz,r⟩
 ·obtain⟨z,its,n,r,e⟩:=h.ok I.hok;exact⟨its,r,⟨_,n,e,rfl,rfl,rfl⟩,z⟩
 ·refine⟨its.toList,r,⟨o,n,I.fN a o hk,hc,hd,by simpa using hs⟩,?_⟩
  have e:=r.length;simp only[apO]at e;omega
theorem Inv.tuple(I:Inv X pins σ H s) (h:cF X.K H a xs):∃its:List Γ,Vals xs its/\IsTup s.heap a its.toArray/\xs.length<=ι:=by
 rcases h with h|⟨o,its,n,hk,hc,hs,hz,r⟩
 ·obtain⟨z,its,r,p⟩:=h.ok I.hok;exact⟨its,r,p.tup,z⟩
 ·refine⟨its.toList,r,⟨o,I.fN a o hk,hc,n,by simpa using hs⟩,?_⟩
  have e:=r.length;simp only[apO]at e;omega
theorem Inv.N4(I:Inv X pins σ H s) (h:bD X.K H a xs) (h':bD X.K H a ys):xs=ys:=by
 obtain⟨its,r,⟨o,n,e,_,_,d⟩,_⟩:=I.list h;obtain⟨its',r',⟨o',n',e',_,_,d'⟩,_⟩:=I.list h';rw[e]at e';cases e';rw[d]at d'
 injection d' with d1 _
 have:its=its':=by simpa using congrArg Array.toList d1
 subst this;exact r.inj r'
theorem Inv.Lg(I:Inv X pins σ H s) (h:cF X.K H a xs) (h':cF X.K H a ys):xs=ys:=by
 obtain⟨its,r,⟨o,e,_,n,d⟩,_⟩:=I.tuple h;obtain⟨its',r',⟨o',e',_,n',d'⟩,_⟩:=I.tuple h';rw[e]at e';cases e';rw[d]at d'
 injection d' with d1 _
 have:its=its':=by simpa using congrArg Array.toList d1
 subst this;exact r.inj r'
end
abbrev Cx.kq(X:Cx) (E:Γ->ε->Prop):Cx:={X with xe:=E}
abbrev Cx.lJ(X:Cx):Cx:=X.kq λ_ _=>False
theorem Cx.Ok.kq{X:Cx}(ok:X.Ok) (E:Γ->ε->Prop):(X.kq E).Ok :=
 ⟨ok.mod,ok.kind,ok.glob,ok.blt,ok.above,ok.inj,ok.has,ok.pD,ok.hd,ok.frames,ok.stk,ok.yg,ok.bs,ok.iS,ok.lK,ok.uN,ok.iD,ok.kX⟩
theorem Cx.Ok.nO{X:Cx}{E:Γ->ε->Prop}(ok:(X.kq E).Ok):X.Ok :=
 ⟨ok.mod,ok.kind,ok.glob,ok.blt,ok.above,ok.inj,ok.has,ok.pD,ok.hd,ok.frames,ok.stk,ok.yg,ok.bs,ok.iS,ok.lK,ok.uN,ok.iD,ok.kX⟩
section
variable {X:Cx}{pins:List (Θ×Obj)}{σ:St}{H:Hp}{s:ε}{E:Γ->ε->Prop}
theorem Inv.kq(I:Inv X pins σ H s) (E:Γ->ε->Prop):Inv (X.kq E) pins σ H s:=⟨I.ok.kq E,I.os,I.bare,I.base,I.loc,I.cell,I.free,I.jf,I.pin,I.hok,I.len⟩
theorem Inv.nO(I:Inv (X.kq E) pins σ H s):Inv X pins σ H s:=⟨I.ok.nO,I.os,I.bare,I.base,I.loc,I.cell,I.free,I.jf,I.pin,I.hok,I.len⟩
theorem SP.nO{D:Ends}{f:Flow}{s':ε}(h:SP (X.kq E) pins D f s'):SP X pins D f s':=by
 cases f with
 |next=>obtain⟨σ',H',I,q⟩:=h;exact⟨σ',H',I.nO,q⟩
 |brk=>obtain⟨σ',H',I,q⟩:=h;exact⟨σ',H',I.nO,q⟩
 |cont=>obtain⟨σ',H',I,q⟩:=h;exact⟨σ',H',I.nO,q⟩
 |ret u=>obtain⟨v,σ',H',I,r,q⟩:=h;exact⟨v,σ',H',I.nO,r,q⟩
theorem gA.lJ{st:List ad4}{t:TS}(h:gA X.lJ st t):gA X st t:=λpins s σ H D I hw =>
 ap4 (h pins s σ H D (I.kq _) hw) (λ_ _ q=>q.nO) λ_ _ z=>False.elim z
end
section
variable {X:Cx}{st:ad4}{rest:List ad4}{t u:TS}{e:ο}{te:TE}{pos:Pos}
def Vj:TS:=λD σ H=>D.nx σ H
def Vb(t u:TS):TS:=λD σ H=>t {D with nx:=u D} σ H
theorem Y7:gA X [] Vj:=λ_ _ σ H _ I h=>ar9 ⟨σ,H,I,h⟩
theorem Y8(h1:PS X st t) (h2:gA X rest u):gA X (st::rest) (Vb t u):=by
 intro pins s σ H D I h;refine wpAny_execs_cons (bw (h1 pins s σ H {D with nx:=u D} I h) λf s1 q=>?_)
 cases f with
 |next =>
  obtain⟨σ',H',I',q⟩:=q;exact h2 pins s1 σ' H' D I' q
 |ret v=>exact q
 |brk=>exact q
 |cont=>exact q
theorem Y6(h1:PS X st t):gA X [st] t:=by
 intro pins s σ H D I h;refine wpAny_execs_cons (bw (h1 pins s σ H D I h) λf s1 q=>?_)
 cases f with
 |next=>exact ar9 q
 |ret v=>exact q
 |brk=>exact q
 |cont=>exact q
theorem Inv.quiet{pins:List (Θ×Obj)}{σ:St}{H:Hp}{s:ε}(I:Inv X pins σ H s):interactive X.env=Δ:=by simp[interactive,I.ok.kind]
def Vq(te:TE):TS:=λD σ H=>te σ H λ_ H1=>D.nx σ H1
theorem Zf(he:PE X e te) (hs:swapsWith e η pos.line X.env=pure Δ:=by rfl):PS X (.Expr e pos) (Vq te):=by
 intro pins s σ H D I h;exact wpAny_Expr_any (bw (he pins s σ H _ I h) λv s1 ⟨x,H1,I1,r1,q1⟩=>⟨σ,H1,I1,q1⟩) I.quiet hs
def Vc(te:TE):TS:=λD σ H=>te σ H D.rt
theorem Zc(he:PE X e te):PS X (.Return (ζ e) pos) (Vc te):=by
 intro pins s σ H D I h;exact wpAny_Return_some (bw (he pins s σ H _ I h) λv s1 ⟨x,H1,I1,r1,q1⟩=>⟨x,σ,H1,I1,r1,q1⟩)
def Vm(c:TT) (t u:TS):TS:=λD σ H=>c σ H λb H1=>if b=ξ then t D σ H1 else u D σ H1
theorem Zd{c:ο}{a b:List ad4}{tc:TT}(hc:PT X c tc) (ha:gA X a t) (hb:gA X b u):PS X (.If c a b pos) (Vm tc t u):=by
 intro pins s σ H D I h;refine wpAny_If (bw (hc pins s σ H _ I h) λd s1 ⟨H1,I1,q1⟩=>?_)
 cases d with
 |true=>exact ha pins s1 σ H1 D I1 q1
 |false=>exact hb pins s1 σ H1 D I1 q1
end
abbrev TG:=V->St->Hp->(St->Hp->Prop)->Prop
abbrev nH:=List V->St->Hp->(St->Hp->Prop)->Prop
def PG(X:Cx) (target:ο) (t:TG):Prop :=
 ∀(pins:List (Θ×Obj)) (s:ε) (σ:St) (H:Hp) (v:V) (u:Γ) (Q:St->Hp->Prop),Inv X pins σ H s->RelV v u->t v σ H Q ->
  wpAny (model X.prog X.w) X.A (assign target X.env u) (λ_ s'=>∃σ' H',Inv X pins σ' H' s'/\Q σ' H') X.xe s
def pL(X:Cx) (ts:List ο) (t:nH):Prop :=
 ∀(pins:List (Θ×Obj)) (s:ε) (σ:St) (H:Hp) (vs:List V) (us:List Γ) (Q:St->Hp->Prop),Inv X pins σ H s->Vals vs us->t vs σ H Q ->
  wpAny (model X.prog X.w) X.A (assignInOrder ((assignEach ts X.env).map (·.2)) us) (λ_ s'=>∃σ' H',Inv X pins σ' H' s'/\Q σ' H') X.xe s
abbrev Kd:=V->V->V->Hp->(Hp->Prop)->Prop
def R8(X:Cx) (t:Kd):Prop :=
 ∀(pins:List (Θ×Obj)) (s:ε) (σ:St) (H:Hp) (o i v:V) (ov iv u:Γ) (Q:Hp->Prop),Inv X pins σ H s->RelV o ov->RelV i iv->RelV v u->t o i v H Q ->
  wpAny (model X.prog X.w) X.A (setItem ov iv u) (λ_ s'=>∃H',Inv X pins σ H' s'/\Q H') X.xe s
section
variable {X:Cx}{pos:Pos}
def Pw(i:Nat):TG:=λv σ H Q=>Q (σ.set i (ζ v)) H
theorem aaB{i:Nat}{x:Str}(hN:X.N.Nodup) (hi:X.N[i]? = ζ x) (hx:Loc X.env.scope x) (hf:X.fn x=ξ\/X.env.scope.names.lookup x=ζ .local:=by first|exact .inl rfl|exact .inr rfl|assumption):PG X (.Name x pos) (Pw i):=by
 intro pins s σ H v u Q I r h;exact wpAny_assign_Name (LM I hN hi hx r (λs' I'=>⟨_,H,I',h⟩) hf)
def ait:nH:=λvs σ H Q=>vs=[]/\Q σ H
def aiu(t:TG) (u:nH):nH:=λvs σ H Q=>∃v r,vs=v::r/\t v σ H λσ' H'=>u r σ' H' Q
theorem aax:pL X [] ait:=by
 intro pins s σ H vs us Q I r h;obtain⟨e,h⟩:=h;subst e;cases r;exact assignInOrder_nil ⟨σ,H,I,h⟩
theorem aay{e:ο}{es:List ο}{t:TG}{u:nH}(h1:PG X e t) (h2:pL X es u)
  (hs:(assignEach (e::es) X.env).map (·.2)=assign e X.env::(assignEach es X.env).map (·.2):=by rfl):pL X (e::es) (aiu t u):=by
 intro pins s σ H vs us Q I r h;obtain⟨v,vr,e1,h⟩:=h;subst e1;cases r with
 |cons r rr =>
  rw[hs];refine assignInOrder_cons (bw (h1 pins s σ H _ _ _ I r h) λ_ s1 ⟨σ1,H1,I1,q1⟩=>?_)
  exact h2 pins s1 σ1 H1 _ _ Q I1 rr q1
def air(K:Ω) (n:Nat) (t:nH):TG:=λv σ H Q=>∃a xs,v=.ref a/\cF K H a xs/\xs.length=n/\t xs σ H Q
theorem aaz{es:List ο}{k:Nat}{t:nH}{n:Nat}(hc:X.calm=ξ) (h:pL X es t)
  (hn:(assignEach es X.env).length=n:=by rfl) (hst:(assignEach es X.env).findIdx? (·.1)=η:=by rfl):PG X (.Tuple es k pos) (air X.K n t):=by
 intro pins s σ H v u Q I r hw;obtain⟨a,xs,e1,hq,hl,hw⟩:=hw;subst e1;cases r;obtain⟨its,rv,ht,hz⟩:=I.tuple hq;refine assign_Tuple_tuple (I.ok.hd hc) ht (by simp[hn,<-hl,rv.length]) hst λh' hx=>?_
 have I1:Inv X pins σ H {s with heap:=h'}:=I.kept (t':=s.toks) λb o e=>hx b o (apz (apy e)) e
 exact h pins _ σ H xs _ Q I1 (by simpa using rv) hw
def ais(to ti:TE) (t:Kd):TG:=λv σ H Q=>to σ H λo H1=>ti σ H1 λi H2=>t o i v H2 λH3=>Q σ H3
theorem aaA{o i:ο}{to ti:TE}{t:Kd}(ho:PE X o to) (hi:PE X i ti) (hs:R8 X t)
  (ha:∀v,assign (.Subscript o i pos) X.env v=(do
   let ov <-holding [v] (eval o X.env)
   let iv <-holding [v,ov] (eval i X.env)
   standAt pos
   holding [v,ov,iv] (setItem ov iv v)
   release [v,ov,iv] []):=by intro _;rfl):PG X (.Subscript o i pos) (ais to ti t):=by
 intro pins s σ H v u Q I r h;rw[ha];refine apq (aqk (bw (ho pins s σ H _ I h) λov s1 ⟨x,H1,I1,r1,q1⟩=>?_))
 refine apq (aqk (bw (hi pins s1 σ H1 _ I1 q1) λiv s2 ⟨y,H2,I2,r2,q2⟩=>?_))
 refine apq (asP (apq (aqk (bw (hs pins s2 σ H2 x y v ov iv u _ I2 r1 r2 r q2) λ_ s3 ⟨H3,I3,q3⟩=>?_))))
 exact wpAny_release ⟨σ,H3,I3,q3⟩
def LA(te:TE) (g:TG):TS:=λD σ H=>te σ H λx H1=>g x σ H1 D.nx
theorem Zg{tg e:ο}{te:TE}{g:TG}(he:PE X e te) (hg:PG X tg g) (hs:swapsWithSole [tg] e pos.line X.env=pure Δ:=by rfl) (hw:swappedStores [tg] e X.env=pure η:=by rfl)
  (h1:(assignEach [tg] X.env).map (·.2)=[assign tg X.env]:=by rfl):PS X (.Assign [tg] e pos) (LA te g):=by
 intro pins s σ H D I h;refine wpAny_Assign_stores (bw (he pins s σ H _ I h) λv s1 ⟨x,H1,I1,r1,q1⟩=>?_) hs hw
 rw[h1];exact bw (hg pins s1 σ H1 x v _ I1 r1 q1) λ_ s2 q=>q
theorem Zb{i:Nat}{x:Str}{e:ο}{te:TE}{pos':Pos}(hN:X.N.Nodup) (hi:X.N[i]? = ζ x) (hx:Loc X.env.scope x) (he:PE X e te) (hs:swapsWith e (ζ (.Name x pos')) pos.line X.env=pure Δ:=by rfl) (hf:X.fn x=ξ\/X.env.scope.names.lookup x=ζ .local:=by first|exact .inl rfl|exact .inr rfl|assumption) :
  PS X (.Assign [.Name x pos'] e pos) (LA te (Pw i)):=by
 intro pins s σ H D I h;refine wpAny_Assign_Name (bw (he pins s σ H _ I h) λv s1 ⟨y,H1,I1,r1,q1⟩=>?_) hs
 exact LM I1 hN hi hx r1 (λs2 I2=>⟨_,H1,I2,q1⟩) hf
end
section
variable {X:Cx}{pos:Pos}
def U6(c:TT) (tb:TS):TS:=λD σ H=>∃W:Nat->St->Hp->Prop,(∃m,W m σ H)/\∀m σ H,W m σ H ->
 c σ H λb H1=>if b=ξ then ∃N:St->Hp->Prop,(∀σ' H',N σ' H'->∃m',m'<m/\W m' σ' H')/\tb {D with nx:=N,ct:=N,bk:=D.nx} σ H1 else D.nx σ H1
theorem Y9{c:ο}{body:List ad4}{tc:TT}{tb:TS}(hp:ahO (model X.prog X.w) X.A X.env X.xe) (hc:PT X c tc) (hb:gA X body tb):PS X (.While c body [] pos) (U6 tc tb):=by
 intro pins s σ H D I h;obtain⟨W,⟨m0,w0⟩,turn⟩:=h;refine wpAny_While (codeAny_whileLoop (λn s'=>∃σ' H',Inv X pins σ' H' s'/\W n σ' H') ?_ m0 ⟨σ,H,I,w0⟩)
 rintro n s1 ⟨σ1,H1,I1,w1⟩
 refine aq4 hp (bw (hc pins s1 σ1 H1 _ I1 (turn n σ1 H1 w1)) λb s2 ⟨H2,I2,q2⟩=>?_)
 cases b with
 |true =>
  obtain⟨N,hN,q2⟩:=q2;rw[if_pos rfl];refine aq4 hp (bw (hb pins s2 σ1 H2 _ I2 q2) λf s3 q3=>?_)
  cases f with
  |next =>
   obtain⟨σ3,H3,I3,n3⟩:=q3;obtain⟨m',hm,w3⟩:=hN σ3 H3 n3;exact⟨m',hm,σ3,H3,I3,w3⟩
  |cont =>
   obtain⟨σ3,H3,I3,n3⟩:=q3;obtain⟨m',hm,w3⟩:=hN σ3 H3 n3;exact⟨m',hm,σ3,H3,I3,w3⟩
  |brk=>exact q3
  |ret v=>exact q3
 |false =>
  rw[if_neg apP];exact ar9 ⟨σ1,H2,I2,q2⟩
end
structure It where
 go:Nat->Hp->Prop
 vQ:Nat->Hp->V->Hp->Prop
 stop:Nat->Hp->Prop
def gK(X:Cx) (pins:List (Θ×Obj)) (H:Hp) (b:Θ):Prop :=
 H b=η/\b≠X.env.locals/\b∉X.fs/\(b∈X.ex\/X.s₀.heap.objs.size<=b)/\(∀x c,X.env.cells.lookup x=ζ c->c≠b)/\∀p∈X.pn++pins,p.1≠b
theorem Inv.yc{X:Cx}{pins:List (Θ×Obj)}{σ:St}{H H':Hp}{s:ε}{b:Θ}(I:Inv X pins σ H s) (hb:s.heap.objs.size<=b) (hn:H' b=η):gK X pins H' b:=by
 refine⟨hn,aqe (apG I.lt hb),I.DN hb,.inr (apW I.sz hb),λx c e z=>?_,λp hp z=>?_⟩
 ·obtain⟨v,q⟩:=I.cell x c e;exact absurd (apG q.lt (by rw[z];exact hb)) (aqd _)
 ·exact absurd (apG (apy (I.pin p hp).1) (by rw[z];exact hb)) (aqd _)
structure Turn (P:υ) (w:ψ) (K:Ω) (tg:ο) (J:It) (fp:List Θ) (it:Θ) (tn:Nat->χ->Prop):Prop where
 mem:it∈fp
 obj:∀i h,tn i h->∀b∈fp,∃o,h.get? b=ζ o/\∀v,o.data≠.cell v
 keep:∀i h h',tn i h->(∀b∈fp,∀o,h.get? b=ζ o->h'.get? b=ζ o)->tn i h'
 item:∀(X:Cx),X.prog=P->X.w=w->X.K=K->X.calm=ξ->∀(i:Nat) (pins:List (Θ×Obj)) (s:ε) (σ:St) (H:Hp) (E:Γ->ε->Prop),Inv X pins σ H s->(∀b∈fp,gK X pins H b)->tn i s.heap->J.go i H ->
  wpAny (model P w) X.A (pyNext (.ref it)) (λr s1=>∃u,r=ζ u /\
   wpAny (model P w) X.A (letOwnedTupleGo tg (.ref it) u) (λ_ s2=>∃x H',Inv X pins σ H' s2/\RelV x u/\J.vQ i H x H'/\tn (i+1) s2.heap/\∀b∈fp,H' b=η) E s1) E s
 done:∀(X:Cx),X.prog=P->X.w=w->X.K=K->X.calm=ξ->∀(i:Nat) (pins:List (Θ×Obj)) (s:ε) (σ:St) (H:Hp) (E:Γ->ε->Prop),Inv X pins σ H s->(∀b∈fp,gK X pins H b)->tn i s.heap->J.stop i H ->
  wpAny (model P w) X.A (pyNext (.ref it)) (λr s1=>r=η/\Inv X pins σ H s1) E s
 self:∀(A:acr) (i:Nat) (s:ε) (Q:Γ->ε->Prop) (E:Γ->ε->Prop),tn i s.heap->Q (.ref it) s->wpAny (model P w) A (pyIter (.ref it)) Q E s
abbrev TI:=St->Hp->(It->Hp->Prop)->Prop
def Kf(X:Cx) (pins:List (Θ×Obj)) (σ:St) (tg:ο) (R:It->Hp->Prop) (itv:Γ) (s2:ε):Prop :=
 ∃(it:Θ) (fp:List Θ) (tn:Nat->χ->Prop) (J:It) (H':Hp),itv=.ref it/\Inv X pins σ H' s2/\Turn X.prog X.w X.K tg J fp it tn/\tn 0 s2.heap/\(∀b∈fp,gK X pins H' b)/\R J H'
def PI(X:Cx) (tg iter:ο) (wi:TI):Prop :=
 ∀(pins:List (Θ×Obj)) (s:ε) (σ:St) (H:Hp) (R:It->Hp->Prop),Inv X pins σ H s->wi σ H R ->
  wpAny (model X.prog X.w) X.A (eval iter X.env) (λv s1=>wpAny (model X.prog X.w) X.A (pyIter v) (Kf X pins σ tg R) X.xe s1) X.xe s
theorem AQ{M:Model}{A:acr}{E:Γ->ε->Prop}{s:ε}{tg:ο}{it:Θ}{u:Γ}{o:Obj}{n:String}{vs:Array Γ}{Q:Unit->ε->Prop}(ho:s.heap.get? it=ζ o) (hc:o.cls=.type n) (hd:o.data=.fields vs)
    (hn:["enumerate","zip","dict_itemiterator","dict_reverseitemiterator","odict_iterator","itertools.zip_longest","itertools.pairwise"].contains n=Δ) (hQ:Q () s):wpAny M A (letOwnedTupleGo tg (.ref it) u) Q E s:=by
  unfold letOwnedTupleGo;cases tg<;>first
    | exact apr hQ
    | (cases u<;>first
        | exact apr hQ
        | (refine apq (wpAny_load ho ?_)
           rw[hc,hd];show wpAny M A (if(["enumerate","zip","dict_itemiterator","dict_reverseitemiterator","odict_iterator","itertools.zip_longest","itertools.pairwise"].contains n&&vs[0]? == ζ (rawInt _))=ξ then _ else _) Q E s
           rw[if_neg (by intro h;rw[hn,asa]at h;cases h)]
           exact apr hQ))
def Kn(K:Ω) (a:Θ):It :=
 ⟨λi H=>∃xs x,bD K H a xs/\xs[i]? = ζ x,λi H x H'=>H'=H/\∀xs,bD K H a xs->xs[i]? = ζ x,λi H=>∃xs,bD K H a xs/\xs.length<=i⟩
def Km(K:Ω) (a:Θ):It :=
 ⟨λi H=>∃xs x,cF K H a xs/\xs[i]? = ζ x,λi H x H'=>H'=H/\∀xs,cF K H a xs->xs[i]? = ζ x,λi H=>∃xs,cF K H a xs/\xs.length<=i⟩
def yQ(lo:Int) (n:Nat):It:=⟨λi _=>i<n,λi H x H'=>H'=H/\x=.int (lo+i),λi _=>n<=i⟩
theorem UD{P:υ}{w:ψ}{K:Ω}{tg:ο}(a it:Θ):Turn P w K tg (Kn K a) [it] it (λi h=>h.IsListIter it a i) where
 mem:=by simp
 obj:=λi h st b hb=>by
  have e:b=it:=by simpa using hb
  subst e;obtain⟨o,e,c,d⟩:=st;exact⟨o,e,λv z=>by rw[d]at z;cases z⟩
 keep:=λi h h' st k=>st.at λo e=>k it (by simp) o e
 item:=by
  intro X hP hw hK hc i pins s σ H E I hf st hg;subst hP hw hK;obtain⟨xs,x,hq,hx⟩:=hg;obtain⟨its,rv,p,hz⟩:=I.list hq;obtain⟨u,hu,ru⟩:=rv.get hx;obtain⟨f0,f1,f2,f3,f4,f5⟩:=hf it (by simp)
  refine wpAny_pyNext_list_item st p.isList (x:=u) (by simpa using hu) λh' st' sb=>?_
  have I1:Inv X pins σ H {s with heap:=h'}:=I.turned (t':=s.toks) (λb o hb e=>(sb.2 b hb).trans e) f0 f1 f3 f4 f5
  obtain⟨o,e,c,d⟩:=id st';exact⟨u,rfl,AQ (s:={s with heap:=h'}) e c d (by decide) ⟨x,H,I1,ru,⟨rfl,λys hy=>by rw[I.N4 hy hq];exact hx⟩,st',λb hb=>(hf b hb).1⟩⟩
 done:=by
  intro X hP hw hK hc i pins s σ H E I hf st hg;subst hP hw hK;obtain⟨xs,hq,hx⟩:=hg;obtain⟨its,rv,p,hz⟩:=I.list hq;obtain⟨f0,f1,f2,f3,f4,f5⟩:=hf it (by simp)
  have hl:=rv.length;exact wpAny_pyNext_list_end (I.ok.hd hc) st p.isList (by simp;omega) λh' eb=>⟨rfl,I.turned (t':=s.toks) (λb o hb e=>eb b o hb e) f0 f1 f3 f4 f5⟩
 self:=λ_ _ _ _ _ st h=>wpAny_pyIter_listiter st h
theorem UB{P:υ}{w:ψ}{K:Ω}{tg:ο}(a it:Θ):Turn P w K tg (Km K a) [it] it (λi h=>h.IsTupleIter it a i) where
 mem:=by simp
 obj:=λi h st b hb=>by
  have e:b=it:=by simpa using hb
  subst e;obtain⟨o,e,c,d⟩:=st;exact⟨o,e,λv z=>by rw[d]at z;cases z⟩
 keep:=λi h h' st k=>st.at λo e=>k it (by simp) o e
 item:=by
  intro X hP hw hK hc i pins s σ H E I hf st hg;subst hP hw hK;obtain⟨xs,x,hq,hx⟩:=hg;obtain⟨its,rv,p,hz⟩:=I.tuple hq;obtain⟨u,hu,ru⟩:=rv.get hx;obtain⟨f0,f1,f2,f3,f4,f5⟩:=hf it (by simp)
  refine wpAny_pyNext_tuple_item st (show s.heap.IsTuple a its.toArray from p) (x:=u) (by simpa using hu) λh' st' sb=>?_
  have I1:Inv X pins σ H {s with heap:=h'}:=I.turned (t':=s.toks) (λb o hb e=>(sb.2 b hb).trans e) f0 f1 f3 f4 f5
  obtain⟨o,e,c,d⟩:=id st';exact⟨u,rfl,AQ (s:={s with heap:=h'}) e c d (by decide) ⟨x,H,I1,ru,⟨rfl,λys hy=>by rw[I.Lg hy hq];exact hx⟩,st',λb hb=>(hf b hb).1⟩⟩
 done:=by
  intro X hP hw hK hc i pins s σ H E I hf st hg;subst hP hw hK;obtain⟨xs,hq,hx⟩:=hg;obtain⟨its,rv,p,hz⟩:=I.tuple hq;obtain⟨f0,f1,f2,f3,f4,f5⟩:=hf it (by simp)
  have hl:=rv.length;exact wpAny_pyNext_tuple_end (I.ok.hd hc) st (show s.heap.IsTuple a its.toArray from p) (by simp;omega) λh' eb=>⟨rfl,I.turned (t':=s.toks) (λb o hb e=>eb b o hb e) f0 f1 f3 f4 f5⟩
 self:=λ_ _ _ _ _ st h=>wpAny_pyIter_tupleiter st h
theorem UC{P:υ}{w:ψ}{K:Ω}{tg:ο}(it:Θ) (lo:Int) (n:Nat):Turn P w K tg (yQ lo n) [it] it (λi h=>ahC h it (lo+(i:Nat)*1) ((n:Int)-(i:Nat)) 1) where
 mem:=by simp
 obj:=λi h st b hb=>by
  have e:b=it:=by simpa using hb
  subst e;exact⟨_,st,λv z=>by
   have z':Data.fields _=Data.cell v:=z;cases z'⟩
 keep:=λi h h' st k=>k it (by simp) _ st
 item:=by
  intro X hP hw hK hc i pins s σ H E I hf st hg;subst hP hw hK;obtain⟨f0,f1,f2,f3,f4,f5⟩:=hf it (by simp)
  have W:=Walks.range (prog:=X.prog) (w:=X.w) (I.ok.hd hc) it lo 1 n;refine W.item i s _ _ hg st λv h' tk hv st' kk=>?_
  obtain⟨t,rfl⟩:=hv;have I1:Inv X pins σ H {s with heap:=h',toks:=tk}:=I.turned (λb o hb e=>kk b o (by simpa using hb) e) f0 f1 f3 f4 f5
  refine⟨_,rfl,AQ (s:={s with heap:=h',toks:=tk}) (n:="range_iterator") st' rfl rfl (by decide) ⟨.int (lo+i),H,I1,⟨t,?_⟩,⟨rfl,rfl⟩,st',λb hb=>(hf b hb).1⟩⟩
  rw[Int.mul_one]
 done:=by
  intro X hP hw hK hc i pins s σ H E I hf st hg;subst hP hw hK;obtain⟨f0,f1,f2,f3,f4,f5⟩:=hf it (by simp)
  exact at7 (I.ok.hd hc) st (by have:n<=i:=hg;omega) λh' eb=>⟨rfl,I.turned (t':=s.toks) (λb o hb e=>eb b o hb e) f0 f1 f3 f4 f5⟩
 self:=λ_ _ _ _ _ st h=>at8 st h
section
variable {X:Cx}{tg:ο}
def aha(K:Ω) (tl:TE):TI:=λσ H R=>tl σ H λx H1=>∃a,x=.ref a/\(∃xs,bD K H1 a xs)/\R (Kn K a) H1
def ag6(K:Ω) (tl:TE):TI:=λσ H R=>tl σ H λx H1=>∃a,x=.ref a/\(∃xs,cF K H1 a xs)/\R (Km K a) H1
theorem aau{l:ο}{tl:TE}(hl:PE X l tl):PI X tg l (aha X.K tl):=by
 intro pins s σ H R I h;refine bw (hl pins s σ H _ I h) λv s1 ⟨x,H1,I1,r1,q1⟩=>?_
 obtain⟨a,e,⟨xs,hq⟩,q⟩:=q1;subst e;cases r1;obtain⟨its,rv,p,hz⟩:=I1.list hq;refine arf p.isList ?_;refine⟨s1.heap.objs.size,[s1.heap.objs.size],_,_,H1,rfl,I1.kept (t':=s1.toks) λb o e=>apt _ e,UD a _,⟨_,apF _ rfl,rfl,rfl⟩,λb hb=>?_,q⟩
 have e:b=s1.heap.objs.size:=by simpa using hb
 subst e;exact I1.yc (aps _) (I1.hok.fresh (aps _))
theorem aaq{l:ο}{tl:TE}(hl:PE X l tl):PI X tg l (ag6 X.K tl):=by
 intro pins s σ H R I h;refine bw (hl pins s σ H _ I h) λv s1 ⟨x,H1,I1,r1,q1⟩=>?_
 obtain⟨a,e,⟨xs,hq⟩,q⟩:=q1;subst e;cases r1;obtain⟨its,rv,p,hz⟩:=I1.tuple hq;refine aq5 (show s1.heap.IsTuple a its.toArray from p) ?_
 refine⟨s1.heap.objs.size,[s1.heap.objs.size],_,_,H1,rfl,I1.kept (t':=s1.toks) λb o e=>apt _ e,UB a _,⟨_,apF _ rfl,rfl,rfl⟩,λb hb=>?_,q⟩
 have e:b=s1.heap.objs.size:=by simpa using hb
 subst e;exact I1.yc (aps _) (I1.hok.fresh (aps _))
theorem Mn{pins:List (Θ×Obj)}{σ:St}{H:Hp}{s:ε}{R:It->Hp->Prop}{E:Γ->ε->Prop}{lo hi:Int}{t u v:Tok}{tk:Nat}(I:Inv X pins σ H s) (h1:-(2^62)<=lo) (h2:lo<2^62) (h3:-(2^62)<=hi) (h4:hi<2^62)
  (q:R (yQ lo (hi-lo).toNat) H):wpAny (model X.prog X.w) X.A (pyIter (.ref s.heap.objs.size)) (Kf X pins σ tg R) E {s with heap:=s.heap.push {cls:=.type "range",data:=.fields #[.int lo t,.int hi u,.int 1 v]},toks:=tk}:=by
 refine wpAny_pyIter_range (IsRange.new ..) (small_one h1 h2 h3 h4) ?_;have I1:Inv X pins σ H {s with heap:=s.heap.push {cls:=.type "range",data:=.fields #[.int lo t,.int hi u,.int 1 v]},toks:=tk}:=I.kept λb o e=>apt _ e
 refine⟨(s.heap.push {cls:=.type "range",data:=.fields #[.int lo t,.int hi u,.int 1 v]}).objs.size,[(s.heap.push {cls:=.type "range",data:=.fields #[.int lo t,.int hi u,.int 1 v]}).objs.size],_,_,H,rfl,
  I1.kept (t':=tk) λb o e=>apt _ e,UC _ lo (hi-lo).toNat,?_,λb hb=>?_,q⟩
 ·have e1:lo+((0:Nat):Int)*1=lo:=by simp
  have e2:(((hi-lo).toNat:Nat):Int)-((0:Nat):Int)=Builtin.Range.rangeSize lo hi 1:=by rw[rangeSize_one];split<;>omega
  show ahC _ _ (lo+((0:Nat):Int)*1) ((((hi-lo).toNat:Nat):Int)-((0:Nat):Int)) 1;rw[e1,e2];exact apF _ rfl
 ·have e:b=(s.heap.push {cls:=.type "range",data:=.fields #[.int lo t,.int hi u,.int 1 v]}).objs.size:=by simpa using hb
  subst e;exact I1.yc (aps _) (I1.hok.fresh (aps _))
def ag9(ta:TA):TI:=λσ H R=>ta σ H λvs H1=>∃j:Int,vs=[.int j]/\-(2^62)<=j/\j<2^62/\R (yQ 0 j.toNat) H1
def ag8(ta:TA):TI:=λσ H R=>ta σ H λvs H1=>∃i j:Int,vs=[.int i,.int j]/\(-(2^62)<=i/\i<2^62/\-(2^62)<=j/\j<2^62)/\R (yQ i (j-i).toNat) H1
theorem aat{a:ο}{ta:TA}{p pos:Pos}(hg:Gl X "range") (hm:X.mg "range"=η) (ha:PA X [a] ta) (hs:μ [a] X.env=[(Δ,eval a X.env)]:=by rfl):PI X tg (.Call (.Name "range" p) [a] [] pos) (ag9 ta):=by
 intro pins s σ H R I h;refine Call_ (kQ I hg hm boot_range (aqT (bw (ha pos pins s σ H _ I h) λus s1 ⟨vs,H1,I1,r1,q1⟩=>?_) hs rfl))
 obtain⟨j,e,q1,q2,q⟩:=q1;subst e;cases r1 with
 |cons r rr =>
  cases rr;obtain⟨t,rfl⟩:=r;exact call_range_1 (Mn I1 (by omega) (by omega) q1 q2 (by simpa using q))
theorem aas{a b:ο}{ta:TA}{p pos:Pos}(hg:Gl X "range") (hm:X.mg "range"=η) (ha:PA X [a,b] ta) (hs:μ [a,b] X.env=[(Δ,eval a X.env),(Δ,eval b X.env)]:=by rfl) (hs2:μ [b] X.env=[(Δ,eval b X.env)]:=by rfl) :
  PI X tg (.Call (.Name "range" p) [a,b] [] pos) (ag8 ta):=by
 intro pins s σ H R I h;refine Call_ (kQ I hg hm boot_range (aqT (bw (ha pos pins s σ H _ I h) λus s1 ⟨vs,H1,I1,r1,q1⟩=>?_) (by rw[hs,hs2]) (by rw[hs2];rfl)))
 obtain⟨i,j,e,⟨q1,q2,q3,q4⟩,q⟩:=q1;subst e;cases r1 with
 |cons r rr =>
  cases rr with
  |cons r' rr =>
   cases rr;obtain⟨t,rfl⟩:=r;obtain⟨t',rfl⟩:=r';exact call_range_2 (Mn I1 q1 q2 q3 q4 q)
def Vp(wi:TI) (g:TG) (tb:TS):TS:=λD σ H=>wi σ H λJ H1=>∃W:Nat->Nat->St->Hp->Prop,(∃m,W 0 m σ H1)/\∀i m σ H,W i m σ H ->
 (J.stop i H/\D.nx σ H)\/(J.go i H/\∃N:St->Hp->Prop,(∀σ' H',N σ' H'->∃m',m'<m/\W (i+1) m' σ' H')/\∀x H',J.vQ i H x H'->g x σ H' λσ2 H2=>tb {D with nx:=N,ct:=N,bk:=D.nx} σ2 H2)
def wL(fp:List Θ) (h:χ):List (Θ×Obj):=fp.filterMap λb=>(h.get? b).map λo=>(b,o)
theorem An{fp:List Θ}{h:χ}{b:Θ}{o:Obj}(hb:b∈fp) (e:h.get? b=ζ o):(b,o)∈wL fp h:=arK.mpr ⟨b,hb,by rw[e];rfl⟩
theorem acf{fp:List Θ}{h:χ}{p:Θ×Obj}(hp:p∈wL fp h):p.1∈fp/\h.get? p.1=ζ p.2:=by
 obtain⟨b,hb,e⟩:=arK.mp hp;cases q:h.get? b with
 |none=>rw[q]at e;cases e
 |some o =>
  rw[q]at e;have e':(b,o)=p:=apQ e;subst e';exact⟨hb,q⟩
theorem Inv.pinned{pins:List (Θ×Obj)}{σ:St}{H:Hp}{s:ε}{fp:List Θ}(I:Inv X pins σ H s) (hf:∀b∈fp,gK X pins H b) (ho:∀b∈fp,∃o,s.heap.get? b=ζ o/\∀v,o.data≠.cell v):Inv X (pins++wL fp s.heap) σ H s :=
 I.zQ λp hp=>(ap1.mp hp).elim (λz=>I.pin p (aql _ z)) λz=>by
  obtain⟨hb,e⟩:=acf z;obtain⟨f0,f1,f2,_⟩:=hf p.1 hb;obtain⟨o,e',d⟩:=ho p.1 hb;rw[e]at e';cases e';exact⟨e,f0,f1,f2,d⟩
theorem Inv.vV{pins pl:List (Θ×Obj)}{σ:St}{H:Hp}{s:ε}(I:Inv X (pins++pl) σ H s):Inv X pins σ H s:=I.zQ λp hp=>I.pin p (aql _ (at5 _ hp))
theorem Ze{iter:ο}{body:List ad4}{wi:TI}{g:TG}{tb:TS}{pos:Pos}(hp:ahO (model X.prog X.w) X.A X.env X.xe) (hc:X.calm=ξ) (hi:PI X tg iter wi) (hg:PG X tg g) (hb:gA X body tb)
  (hs:∀x,foldedSetIterable iter X.env x=pure x:=by intro _;rfl):PS X (.For tg iter body [] pos) (Vp wi g tb):=by
 intro pins s σ H D I h;refine wpAny_For (bw (hi pins s σ H _ I h) λv s1 h1=>bw h1 λitv s2 h2=>?_) hs
 obtain⟨it,fp,tn,J,H2,e,I2,T,st2,f2,W,⟨m0,w0⟩,turn⟩:=h2;subst e;have pZ:∀{H':Hp},(∀b∈fp,H' b=η)->∀b∈fp,gK X pins H' b:=λhn b hb=>⟨hn b hb,(f2 b hb).2⟩
 refine codeAny_forLoop_any (λn s'=>∃i σ' H',Inv X pins σ' H' s'/\tn i s'.heap/\(∀b∈fp,H' b=η)/\W i n σ' H') ?_ m0 ⟨0,σ,H2,I2,st2,λb hb=>(f2 b hb).1,w0⟩
 rintro n s3 ⟨i,σ3,H3,I3,st3,PJ,w3⟩
 rcases turn i n σ3 H3 w3 with⟨stop,qn⟩|⟨go,N,hN,step⟩
 ·refine aq4 hp (bw (T.done X rfl rfl rfl hc i pins s3 σ3 H3 X.xe I3 (pZ PJ) st3 stop) λr s4 ⟨hr,I4⟩=>?_)
  subst hr;exact ar9 ⟨σ3,H3,I4,qn⟩
 ·refine aq4 hp (bw (T.item X rfl rfl rfl hc i pins s3 σ3 H3 X.xe I3 (pZ PJ) st3 go) λr s4 ⟨u,hr,h4⟩=>?_)
  subst hr;refine aq4 hp (bw h4 λ_ s5 ⟨x,H5,I5,r5,y5,p8,AS⟩=>?_)
  have I5':=I5.pinned (pZ AS) (T.obj _ _ p8);refine aq4 hp (bw (hg _ s5 σ3 H5 x u _ I5' r5 (step x H5 y5)) λ_ s6 ⟨Ti,H6,I6,q6⟩=>?_)
  refine aq4 hp (bw (hb _ s6 Ti H6 _ I6 q6) λf s7 q7=>?_)
  have again:∀{jL:St}{H7:Hp},Inv X (pins++wL fp s5.heap) jL H7 s7->N jL H7->∃m,m<n/\∃i σ' H',Inv X pins σ' H' s7/\tn i s7.heap/\(∀b∈fp,H' b=η)/\W i m σ' H':=fun{jL H7} I7 n7=>by
   obtain⟨m',hm,w7⟩:=hN jL H7 n7;refine⟨m',hm,i+1,jL,H7,I7.vV,T.keep _ _ _ p8 λb hb o e=>(I7.pin (b,o) (aql _ (aql _ (An hb e)))).1,λb hb=>?_,w7⟩
   obtain⟨o,e,d⟩:=T.obj _ _ p8 b hb;exact(I7.pin (b,o) (aql _ (aql _ (An hb e)))).2.1
  cases f with
  |next=>obtain⟨jL,H7,I7,n7⟩:=q7;exact again I7 n7
  |cont=>obtain⟨jL,H7,I7,n7⟩:=q7;exact again I7 n7
  |brk=>obtain⟨jL,H7,I7,q7⟩:=q7;exact⟨jL,H7,I7.vV,q7⟩
  |ret v=>obtain⟨x7,jL,H7,I7,r7,q7⟩:=q7;exact⟨x7,jL,H7,I7.vV,r7,q7⟩
end
abbrev R2:=V->V->Hp->VK->Prop
def bW(X:Cx) (f:Γ->Γ->Sem Γ) (r:R2):Prop :=
 ∀(pins:List (Θ×Obj)) (s:ε) (σ:St) (H:Hp) (x y:V) (v u:Γ) (Q:VK),Inv X pins σ H s->RelV x v->RelV y u->r x y H Q ->
  wpAny (model X.prog X.w) X.A (f v u) (EP X pins σ Q) X.xe s
def d9(X:Cx) (f:Γ) (r:List V->Hp->VK->Prop):Prop :=
 ∀(pins:List (Θ×Obj)) (s:ε) (σ:St) (H:Hp) (xs:List V) (us:List Γ) (Q:VK),Inv X pins σ H s->Vals xs us->r xs H Q ->
  wpAny (model X.prog X.w) X.A (call f us) (EP X pins σ Q) X.xe s
def ano(X:Cx) (r:V->Hp->(Bool->Hp->Prop)->Prop):Prop :=
 ∀(pins:List (Θ×Obj)) (s:ε) (σ:St) (H:Hp) (x:V) (v:Γ) (Q:Bool->Hp->Prop),Inv X pins σ H s->RelV x v->r x H Q ->
  wpAny (model X.prog X.w) X.A (truthy v) (TP X pins σ Q) X.xe s
def zk(r:R2) (ta tb:TE):TE:=λσ H Q=>ta σ H λx H1=>tb σ H1 λy H2=>r x y H2 Q
def rI(C:Int->Int->Prop) (g:Int->Int->V):R2:=λx y H Q=>∃i j,x=.int i/\y=.int j/\C i j/\Q (g i j) H
def kF(g:Int->Int->V):R2:=λx y H Q=>∃i j,x=.int i/\y=.int j/\Q (g i j) H
section
variable {X:Cx}{a b c:ο}{ta tb tc:TE}{pos:Pos}
theorem JZ(ha:PE X a ta) (hb:PE X b tb) {pins:List (Θ×Obj)}{s:ε}{σ:St}{H:Hp}{R:V->V->Hp->Prop}(I:Inv X pins σ H s)
  (h:ta σ H λx H1=>tb σ H1 λy H2=>R x y H2) {Q:Γ->ε->Prop}{f:Γ->Γ->Sem Γ}
  (hf:∀v u s2 x y H2,Inv X pins σ H2 s2->RelV x v->RelV y u->R x y H2->wpAny (model X.prog X.w) X.A (f v u) Q X.xe s2) :
  wpAny (model X.prog X.w) X.A (eval a X.env) (λv s₁=>wpAny (model X.prog X.w) X.A (eval b X.env) (λu s₂=>wpAny (model X.prog X.w) X.A (f v u) Q X.xe s₂) X.xe s₁) X.xe s:=by
 refine bw (ha pins s σ H _ I h) λv s1 ⟨x,H1,I1,r1,q1⟩=>?_
 refine bw (hb pins s1 σ H1 _ I1 q1) λu s2 ⟨y,H2,I2,r2,q2⟩=>?_
 exact hf v u s2 x y H2 I2 r1 r2 q2
theorem MC{op:Operator}{r:R2}(ho:bW X (binaryOp op) r) (ha:PE X a ta) (hb:PE X b tb):PE X (.BinOp a op b pos) (zk r ta tb):=by
 intro pins s σ H Q I h;exact wpAny_BinOp (JZ ha hb I h λv u s2 x y H2 I2 rx ry q=>ho pins s2 σ H2 x y v u Q I2 rx ry q)
theorem z5{f:Γ->Γ->Sem Γ}{C:Int->Int->Prop}{g:Int->Int->Int}
  (rule:∀(i j:Int) (t u:Tok) (s:ε) (Q:Γ->ε->Prop) (E:Γ->ε->Prop),C i j->Q (.int (g i j) s.toks) {s with toks:=s.toks+1}->wpAny (model X.prog X.w) X.A (f (.int i t) (.int j u)) Q E s) :
  bW X f (rI C λi j=>.int (g i j)):=by
 intro pins s σ H x y v u Q I rx ry h;obtain⟨i,j,rfl,rfl,hc,q⟩:=h;obtain⟨t,rfl⟩:=rx;obtain⟨t',rfl⟩:=ry;exact rule i j t t' s _ _ hc ⟨.int (g i j),H,I.tok _,⟨_,rfl⟩,q⟩
theorem DF{f:Γ->Γ->Sem Γ}{g:Int->Int->Int}
  (rule:∀(i j:Int) (t u:Tok) (s:ε) (Q:Γ->ε->Prop) (E:Γ->ε->Prop),Q (.int (g i j) s.toks) {s with toks:=s.toks+1}->wpAny (model X.prog X.w) X.A (f (.int i t) (.int j u)) Q E s) :
  bW X f (kF λi j=>.int (g i j)):=by
 intro pins s σ H x y v u Q I rx ry h;obtain⟨i,j,rfl,rfl,q⟩:=h;obtain⟨t,rfl⟩:=rx;obtain⟨t',rfl⟩:=ry;exact rule i j t t' s _ _ ⟨.int (g i j),H,I.tok _,⟨_,rfl⟩,q⟩
theorem z6{f:Γ->Γ->Sem Γ}{g:Int->Int->Bool}
  (rule:∀(i j:Int) (t u:Tok) (s:ε) (Q:Γ->ε->Prop) (E:Γ->ε->Prop),Q (.bool (g i j)) s->wpAny (model X.prog X.w) X.A (f (.int i t) (.int j u)) Q E s) :
  bW X f (kF λi j=>.bl (g i j)):=by
 intro pins s σ H x y v u Q I rx ry h;obtain⟨i,j,rfl,rfl,q⟩:=h;obtain⟨t,rfl⟩:=rx;obtain⟨t',rfl⟩:=ry;exact rule i j t t' s _ _ ⟨.bl (g i j),H,I,rfl,q⟩
def anB(i j:Int):Prop:=0<j/\j<1073741824
def anA(i j:Int):Prop:=0<=j/\j<=1000000/\i.natAbs<2^64
def Kr(i j:Int):Prop:=(-(2^64)<i/\i<2^64)\/(-(2^64)<j/\j<2^64)
theorem Kr.ok{i j:Int}(h:Kr i j):IntMulOk i j:=by
 rcases h with⟨h1,h2⟩|⟨h1,h2⟩
 ·exact .of_left (intBits_le_64 h1 h2)
 ·exact .of_right (intBits_le_64 h1 h2)
theorem abF:bW X (binaryOp .Add) (kF λi j=>.int (i+j)):=DF λ_ _ _ _ _ _ _ q=>add_int q
theorem abm:bW X (binaryOp .Sub) (kF λi j=>.int (i-j)):=DF λ_ _ _ _ _ _ _ q=>sub_int q
theorem abt:bW X (binaryOp .Mult) (rI Kr λi j=>.int (i*j)):=z5 λ_ _ _ _ _ _ _ hc q=>mul_int q hc.ok
theorem abz:bW X (binaryOp .FloorDiv) (rI anB λi j=>.int (i/j)):=z5 λi j _ _ _ _ _ hc q=>by
 have h1:(0:Int)<j:=hc.1;have h2:j<1073741824:=hc.2;exact floordiv_int (by omega) (by rw[Int.fdiv_eq_ediv_of_nonneg i (by omega)];exact q) (.inl (at9 (by omega)))
theorem abu:bW X (binaryOp .Mod) (rI (λ_ j=>0<j) λi j=>.int (i % j)):=z5 λi j _ _ _ _ _ hc q=>by
 have h1:(0:Int)<j:=hc;exact mod_int' (by omega) (by rw[Int.fmod_eq_emod_of_nonneg i (by omega)];exact q)
theorem abp:bW X (binaryOp .Pow) (rI anA λi j=>.int (i^j.toNat)):=z5 λ_ _ _ _ _ _ _ hc q=>pow_int_small hc.1 hc.2.1 hc.2.2 q
theorem abl:bW X (binaryOp .BitXor) (kF λi j=>.int (Builtin.bitXor i j)):=DF λ_ _ _ _ _ _ _ q=>xor_int q
end
def Dd:V->V->Bool
 |.aH,.aH=>ξ|.aH,.int _=>ξ|.int _,.aH=>ξ|.aH,.bl _=>ξ|.bl _,.aH=>ξ|.aH,.str _=>ξ|.str _,.aH=>ξ
 |.int _,.int _=>ξ|.bl _,.bl _=>ξ|.str _,.str _=>ξ|.jj _,.jj _=>ξ
 |.int _,.str _=>ξ|.str _,.int _=>ξ|.bl _,.str _=>ξ|.str _,.bl _=>ξ
 |_,_=>Δ
def YK:R2:=λx y H Q=>Dd x y=ξ/\Q (.bl (decide (x=y))) H
def YB:R2:=λx y H Q=>Dd x y=ξ/\Q (.bl (!decide (x=y))) H
theorem Qj{i j:Int}:decide (V.int i=V.int j)=(i==j):=by
 rw[aqI];simp
theorem Ql{i j:Bool}:decide (V.bl i=V.bl j)=(i==j):=by
 rw[aqI];simp
theorem Qi{i j:Str}:decide (V.str i=V.str j)=(i==j):=by
 rw[aqI];simp
theorem Qk{i j:Array UInt8}:decide (V.jj i=V.jj j)=(i.toList==j.toList):=by
 rw[aqI];cases i;cases j;simp
section
variable {X:Cx}{a b c:ο}{ta tb tc:TE}{pos:Pos}
theorem dS{pins:List (Θ×Obj)}{σ:St}{H:Hp}{s:ε}{Q:VK}{k k':Bool}(I:Inv X pins σ H s) (q:Q (.bl k) H) (e:k=k'):EP X pins σ Q (.bool k') s:=by
 subst e;exact⟨.bl k,H,I,rfl,q⟩
theorem abA:bW X (compareOp .Eq) YK:=by
 intro pins s σ H x y v u Q I rx ry h;obtain⟨hs,q⟩:=h;cases x with
 |aH =>
  cases rx;cases y with
  |aH=>cases ry;exact PySem.EqNone.eq_none_none (dS I q (by simp))
  |bl j=>cases ry;exact PySem.EqNone.eq_none_bool (dS I q (by simp))
  |int j=>obtain⟨t',rfl⟩:=ry;exact PySem.EqNone.eq_none_int (dS I q (by simp))
  |str j=>obtain⟨t',rfl⟩:=ry;exact PySem.EqNone.eq_none_str (dS I q (by simp))
  |_=>exact absurd (show Δ=ξ from hs) apP
 |bl i =>
  cases rx;cases y with
  |aH=>cases ry;exact PySem.EqNone.eq_bool_none (dS I q (by simp))
  |bl j=>cases ry;exact eq_bool (dS I q Ql)
  |str j=>obtain⟨t',rfl⟩:=ry;exact PySem.EqMixed.eq_bool_str (dS I q (by simp))
  |_=>exact absurd (show Δ=ξ from hs) apP
 |int i =>
  obtain⟨t,rfl⟩:=rx;cases y with
  |aH=>cases ry;exact PySem.EqNone.eq_int_none (dS I q (by simp))
  |int j=>obtain⟨t',rfl⟩:=ry;exact eq_int (dS I q Qj)
  |str j=>obtain⟨t',rfl⟩:=ry;exact PySem.EqMixed.eq_int_str (dS I q (by simp))
  |_=>exact absurd (show Δ=ξ from hs) apP
 |str i =>
  obtain⟨t,rfl⟩:=rx;cases y with
  |aH=>cases ry;exact PySem.EqNone.eq_str_none (dS I q (by simp))
  |bl j=>cases ry;exact PySem.EqMixed.eq_str_bool (dS I q (by simp))
  |int j=>obtain⟨t',rfl⟩:=ry;exact PySem.EqMixed.eq_str_int (dS I q (by simp))
  |str j=>obtain⟨t',rfl⟩:=ry;exact eq_str (dS I q Qi)
  |_=>exact absurd (show Δ=ξ from hs) apP
 |jj i =>
  obtain⟨t,rfl⟩:=rx;cases y with
  |jj j=>obtain⟨t',rfl⟩:=ry;exact PySem.W.eq_bytes (dS I q Qk)
  |_=>exact absurd (show Δ=ξ from hs) apP
 |_=>cases y<;>exact absurd (show Δ=ξ from hs) apP
theorem abr:bW X (compareOp .NotEq) YB:=by
 intro pins s σ H x y v u Q I rx ry h;obtain⟨hs,q⟩:=h;cases x with
 |aH =>
  cases rx;cases y with
  |aH=>cases ry;exact PySem.EqNone.ne_none_none (dS I q (by simp))
  |bl j=>cases ry;exact PySem.EqNone.ne_none_bool (dS I q (by simp))
  |int j=>obtain⟨t',rfl⟩:=ry;exact PySem.EqNone.ne_none_int (dS I q (by simp))
  |str j=>obtain⟨t',rfl⟩:=ry;exact PySem.EqNone.ne_none_str (dS I q (by simp))
  |_=>exact absurd (show Δ=ξ from hs) apP
 |bl i =>
  cases rx;cases y with
  |aH=>cases ry;exact PySem.EqNone.ne_bool_none (dS I q (by simp))
  |bl j=>cases ry;exact ne_bool (dS I q (congrArg not Ql))
  |str j=>obtain⟨t',rfl⟩:=ry;exact PySem.EqMixed.ne_bool_str (dS I q (by simp))
  |_=>exact absurd (show Δ=ξ from hs) apP
 |int i =>
  obtain⟨t,rfl⟩:=rx;cases y with
  |aH=>cases ry;exact PySem.EqNone.ne_int_none (dS I q (by simp))
  |int j=>obtain⟨t',rfl⟩:=ry;exact ne_int (dS I q (congrArg not Qj))
  |str j=>obtain⟨t',rfl⟩:=ry;exact PySem.EqMixed.ne_int_str (dS I q (by simp))
  |_=>exact absurd (show Δ=ξ from hs) apP
 |str i =>
  obtain⟨t,rfl⟩:=rx;cases y with
  |aH=>cases ry;exact PySem.EqNone.ne_str_none (dS I q (by simp))
  |bl j=>cases ry;exact PySem.EqMixed.ne_str_bool (dS I q (by simp))
  |int j=>obtain⟨t',rfl⟩:=ry;exact PySem.EqMixed.ne_str_int (dS I q (by simp))
  |str j=>obtain⟨t',rfl⟩:=ry;exact ne_str (dS I q (congrArg not Qi))
  |_=>exact absurd (show Δ=ξ from hs) apP
 |jj i =>
  obtain⟨t,rfl⟩:=rx;cases y with
  |jj j=>obtain⟨t',rfl⟩:=ry;exact PySem.W.ne_bytes (dS I q (congrArg not Qk))
  |_=>exact absurd (show Δ=ξ from hs) apP
 |_=>cases y<;>exact absurd (show Δ=ξ from hs) apP
theorem abv:bW X (compareOp .Lt) (kF λi j=>.bl (decide (i<j))):=z6 λ_ _ _ _ _ _ _ q=>lt_int q
theorem abw:bW X (compareOp .LtE) (kF λi j=>.bl (decide (i<=j))):=z6 λ_ _ _ _ _ _ _ q=>le_int q
theorem abx:bW X (compareOp .Gt) (kF λi j=>.bl (decide (j<i))):=z6 λ_ _ _ _ _ _ _ q=>gt_int q
theorem aby:bW X (compareOp .GtE) (kF λi j=>.bl (decide (j<=i))):=z6 λ_ _ _ _ _ _ _ q=>ge_int q
theorem abq:bW X (compareOp .IsNot) (λx y H Q=>y=.aH/\Q (.bl (!decide (x=.aH))) H):=by
 intro pins s σ H x y v u Q I rx ry h;obtain⟨rfl,q⟩:=h;cases ry;refine isnot_none_gen (dS I q ?_);cases x<;>first
  |(cases rx;rfl)
  |(obtain⟨t,rfl⟩:=rx;rfl)
theorem Nj(b:ο) {op:CmpOp}(h:op≠.In:=by decide) (h2:op≠.NotIn:=by decide):behindInMarks op b=Δ:=by
 have e1:(op==CmpOp.In)=Δ:=by cases op<;>first|rfl|exact absurd rfl h
 have e2:(op==CmpOp.NotIn)=Δ:=by cases op<;>first|rfl|exact absurd rfl h2
 cases b<;>simp[behindInMarks,e1,e2]
theorem aaS{op:CmpOp}{r:R2}(ho:bW X (compareOp op) r) (ha:PE X a ta) (hb:PE X b tb) (hm:behindInMarks op b=Δ):PE X (.Compare a [op] [b] pos) (zk r ta tb):=by
 intro pins s σ H Q I h;exact wpAny_Compare1 (JZ ha hb I h λv u s2 x y H2 I2 rx ry q=>ho pins s2 σ H2 x y v u Q I2 rx ry q) hm
def Lu(t:TE):TT:=λσ H Q=>t σ H λx H'=>∃k,x=.bl k/\Q k H'
theorem Y4{op:CmpOp}{r:R2}(ho:bW X (compareOp op) r) (ha:PE X a ta) (hb:PE X b tb) (hm:behindInMarks op b=Δ):PT X (.Compare a [op] [b] pos) (Lu (zk r ta tb)):=by
 intro pins s σ H Q I h;refine wpAny_isTrue_Compare1 (bw (ha pins s σ H _ I h) λv s1 ⟨x,H1,I1,r1,q1⟩=>bw (hb pins s1 σ H1 _ I1 q1) λu s2 ⟨y,H2,I2,r2,q2⟩ =>
  bw (ho pins s2 σ H2 x y v u _ I2 r1 r2 q2) λc s3 ⟨z,H3,I3,r3,k,e,q3⟩=>?_) hm
 subst e;cases r3;exact aqH ⟨H3,I3,q3⟩
def Lx(r r':R2) (ta tb tc:TE):TE:=λσ H Q=>ta σ H λx H1=>tb σ H1 λy H2=>r x y H2 λz H3=>∃k,z=.bl k /\
 (if k=ξ then tc σ H3 λw' H4=>r' y w' H4 Q else Q (.bl Δ) H3)
theorem aaT{op op':CmpOp}{r r':R2}(ho:bW X (compareOp op) r) (ho':bW X (compareOp op') r') (ha:PE X a ta) (hb:PE X b tb) (hc:PE X c tc)
  (hm:lastMarks [op,op'] [b,c]=Δ:=by with_unfolding_all rfl):PE X (.Compare a [op,op'] [b,c] pos) (Lx r r' ta tb tc):=by
 intro pins s σ H Q I h;refine Compare_chain (bw (ha pins s σ H _ I h) λv s1 ⟨x,H1,I1,r1,q1⟩=>chain_link (bw (hb pins s1 σ H1 _ I1 q1) λu s2 ⟨y,H2,I2,r2,q2⟩ =>
  bw (ho pins s2 σ H2 x y v u _ I2 r1 r2 q2) λd s3 ⟨z,H3,I3,r3,k,e,q3⟩=>?_)) hm
 subst e;cases r3;refine aqH ?_;cases k with
 |false=>exact ite_ff ⟨.bl Δ,H3,I3,rfl,q3⟩
 |true=>exact ite_tt (chain_last (bw (hc pins s3 σ H3 _ I3 q3) λw' s4 ⟨z',H4,I4,r4,q4⟩=>ho' pins s4 σ H4 y z' u w' Q I4 r2 r4 q4))
theorem Y5{op op':CmpOp}{r r':R2}(ho:bW X (compareOp op) r) (ho':bW X (compareOp op') r') (ha:PE X a ta) (hb:PE X b tb) (hc:PE X c tc)
  (hm:lastMarks [op,op'] [b,c]=Δ:=by with_unfolding_all rfl):PT X (.Compare a [op,op'] [b,c] pos) (Lu (Lx r r' ta tb tc)):=by
 intro pins s σ H Q I h;refine isTrue_chain (bw (ha pins s σ H _ I h) λv s1 ⟨x,H1,I1,r1,q1⟩=>test_link (bw (hb pins s1 σ H1 _ I1 q1) λu s2 ⟨y,H2,I2,r2,q2⟩ =>
  bw (ho pins s2 σ H2 x y v u _ I2 r1 r2 q2) λd s3 ⟨z,H3,I3,r3,k,e,q3⟩=>?_)) hm
 subst e;cases r3;refine aqH ?_;cases k with
 |false =>
  obtain⟨k',e',q'⟩:=q3;cases e';exact ite_ff ⟨H3,I3,q'⟩
 |true =>
  refine ite_tt (test_last (bw (hc pins s3 σ H3 _ I3 q3) λw' s4 ⟨z',H4,I4,r4,q4⟩=>bw (ho' pins s4 σ H4 y z' u w' _ I4 r2 r4 q4) λd' s5 ⟨z2,H5,I5,r5,k2,e2,q5⟩=>?_))
  subst e2;cases r5;exact aqH ⟨H5,I5,q5⟩
def Kc(K:Ω) (x:V) (H:Hp) (k:Bool):Prop :=
 match x with
 |.aH=>k=Δ
 |.bl b=>k=b
 |.int i=>k=(i != 0)
 |.str y=>y.length<=ι/\k=((y.length:Int) != 0)
 |.jj y=>y.size<=ι/\k=((y.size:Int) != 0)
 |.ref p=>(∃xs,bD K H p xs/\k = !xs.isEmpty)\/(∃xs,cF K H p xs/\k = !xs.isEmpty)\/∃kvs,H p=ζ (.dK kvs)/\k = !kvs.isEmpty
 |_=>False
theorem agS{κ:Type}{kvs:List (κ×V)}{vs:List (κ×Γ)}(r:KV kvs vs):(!vs.isEmpty) = !kvs.isEmpty:=by
 cases r<;>rfl
theorem Ow{xs:List V}{its:List Γ}(r:Vals xs its):(!its.toArray.isEmpty) = !xs.isEmpty:=by
 cases r<;>simp
theorem uz:(ι:Nat)<2^63:=by rw[arh];decide
theorem UL:ano X (λx H Q=>∃k,Kc X.K x H k/\Q k H):=by
 intro pins s σ H x v Q I rx h;obtain⟨k,e,q⟩:=h;have hl:=uz;have hs:ι=16777216:=arh;cases x with
 |aH =>
  cases rx;have e':k=Δ:=e;subst e';exact truthy_none ⟨H,I,q⟩
 |bl b =>
  cases rx;have e':k=b:=e;subst e';exact aqH ⟨H,I,q⟩
 |int i =>
  obtain⟨t,rfl⟩:=rx;have e':k=(i != 0):=e;subst e';exact PySem.P.truthy_int ⟨H,I,q⟩
 |str y =>
  obtain⟨t,rfl⟩:=rx;obtain⟨hy,e'⟩:y.length<=ι/\k=((y.length:Int) != 0):=e;subst e';exact PySem.P.truthy_str (by omega) ⟨H,I.tok _,q⟩
 |jj y =>
  obtain⟨t,rfl⟩:=rx;obtain⟨hy,e'⟩:y.size<=ι/\k=((y.size:Int) != 0):=e;subst e';exact PySem.W.truthy_bytes (by omega) ⟨H,I.tok _,q⟩
 |ref p =>
  cases rx;have e':(∃xs,bD X.K H p xs/\k = !xs.isEmpty)\/(∃xs,cF X.K H p xs/\k = !xs.isEmpty)\/∃kvs,H p=ζ (.dK kvs)/\k = !kvs.isEmpty:=e
  rcases e' with⟨xs,hx,e'⟩|⟨xs,hx,e'⟩|⟨kvs,hx,e'⟩
  ·subst e';obtain⟨its,r,pl,hz⟩:=I.list hx;have hlen:=r.length;exact wpAny_truthy_list pl.isList (by simp only[apH];omega) ⟨H,I.tok _,by rw[Ow r];exact q⟩
  ·subst e';obtain⟨its,r,pl,hz⟩:=I.tuple hx;have hlen:=r.length;exact truthy_tuple pl (by simp only[apH];omega) ⟨H,I.tok _,by rw[Ow r];exact q⟩
  ·subst e';obtain⟨hz,hS,vs,r,m⟩:kvs.length<=ι/\(p==sysModules)=Δ/\∃vs,KV kvs vs/\s.heap.DictOf (D4 X.prog X.w) p vs:=I.hok p _ hx;have hlen:kvs.length=vs.length:=Paired.length r;exact wpAny_truthy_dict hS m (by omega) ⟨H,I.tok _,by rw[agS r];exact q⟩
 |_=>exact(show False from e).elim
theorem Y0(ha:PE X a ta) (he:∀whole,isTrue a X.env whole=(do let v <-whole;standAt a.pos;holding [v] (truthy v))) :
  PT X a (λσ H Q=>ta σ H λx H'=>∃k,Kc X.K x H' k/\Q k H'):=by
 intro pins s σ H Q I h;exact isTrue_plain (bw (ha pins s σ H _ I h) λv s1 ⟨x,H1,I1,r1,q1⟩=>UL pins s1 σ H1 x v Q I1 r1 q1) (he _)
theorem abE:bW X (binaryOp .Add) (λx y H Q=>∃i j,x=.str i/\y=.str j/\i.length+j.length<=ι/\Q (.str (i++j)) H):=by
 intro pins s σ H x y v u Q I rx ry h;obtain⟨i,j,rfl,rfl,hz,q⟩:=h;obtain⟨t,rfl⟩:=rx;obtain⟨t',rfl⟩:=ry;exact add_str (λt' tk=>⟨.str (i++j),H,I.tok _,⟨_,rfl⟩,q⟩) hz
theorem aqc{x:V}{us:List Γ}(r:Vals [x] us):∃u,us=[u]/\RelV x u:=by
 cases r with
 |cons r1 r2=>cases r2;exact⟨_,rfl,r1⟩
theorem vals2{x y:V}{us:List Γ}(r:Vals [x,y] us):∃u w',us=[u,w']/\RelV x u/\RelV y w':=by
 cases r with
 |cons r1 r2 =>
  cases r2 with
  |cons r3 r4=>cases r4;exact⟨_,_,rfl,r1,r3⟩
theorem alL(hc:X.calm=ξ):d9 X (.builtin "max") (λxs H Q=>∃i j,xs=[.int i,.int j]/\Q (.int (if j>i then j else i)) H):=by
 intro pins s σ H xs us Q I r h;obtain⟨i,j,rfl,q⟩:=h;obtain⟨u,w',rfl,⟨t,rfl⟩,⟨t',rfl⟩⟩:=vals2 r;refine max_two_ints (I.ok.hd hc) λh' tk k=>⟨_,H,I.kept k,?_,q⟩
 by_cases hj:j>i
 ·rw[if_pos hj,if_pos hj];exact⟨_,rfl⟩
 ·rw[if_neg hj,if_neg hj];exact⟨_,rfl⟩
end
structure Kg (h:χ) (x dx C:Θ) (mA:Str->Option Γ):Prop where
 obj:h.get? x=ζ (PySem.W.instObj C dx)
 ns:h.Ns1 dx mA
 ne:dx≠x
theorem afo{h:χ}{dx:Θ}{mA:Str->Option Γ}(n:h.Ns1 dx mA):∃od,h.get? dx=ζ od/\∀name,PySem.W.lookIn name od=ζ (mA name):=by
 obtain⟨o,es,ep,ho,hd,hk,_,hm⟩:=n;refine⟨o,ho,λname=>?_⟩
 have e:=hm name;unfold nsFind findBy at e;rw[<-Array.find?_toList]at e;unfold PySem.W.lookIn;rw[hd];dsimp only;split
 ·rename_i y q;rw[q]at e;exact congrArg ζ e
 ·rename_i q;rw[q]at e;have a:es.toList.any (·.refKey)=Δ:=by
   rw[asQ];intro y hy;obtain⟨z,t,hkey⟩:=hk y (asR.mp hy);simp[DictEntry.refKey,hkey]
  have a':¬es.toList.any (·.refKey)=ξ:=by rw[a];exact apP
  rw[if_neg a'];exact congrArg ζ e
theorem Kg.look{h:χ}{x dx C:Θ}{mA:Str->Option Γ}(I:Kg h x dx C mA):∃od,PySem.W.InstAt h x (PySem.W.instObj C dx) C (ζ od)/\∀name,PySem.W.lookIn name od=ζ (mA name) :=
 let⟨od,ho,hl⟩:=afo I.ns
 ⟨od,⟨I.obj,rfl,rfl,ho⟩,hl⟩
section
variable {P:υ}{w:ψ}{H H':Hp}{h h':χ}{a C dx:Θ}{fs fs':List (Str×V)}
theorem agX(hok:dJ P w H h) (e:H a=ζ (.ins C dx fs)):∃mA,Kg h a dx C mA/\(∀f,Ke (fs.lookup f) (mA f))/\PySem.Within mA (fs.map (·.1))/\fs.length<=1000/\H dx=ζ (.own a):=by
 obtain⟨d,z,ne,ob,mA,n,r,q⟩:=(show fQ P w H h a (.ins C dx fs)from hok a _ e)
 exact⟨mA,⟨ob,n,ne⟩,r,q,z,d⟩
end
structure Kq (K:Ω) (C:Θ):Prop where
 pg:PySem.W.plainGet K C Str.empty=ξ
 hd:PySem.W.hasDictIn K C=ξ
 po:PySem.W.plainOver K C=ξ
 sa:PySem.W.findIn K (.ref C) "__setattr__"=ζ (ζ (.builtin "object.__setattr__"))
theorem Kq.get{K:Ω}{C:Θ}(c:Kq K C) (f:Str):PySem.W.plainGet K C f=ξ:=c.pg
section
variable {X:Cx}{pins:List (Θ×Obj)}{σ:St}{H:Hp}{s:ε}{A:acr}{E:Γ->ε->Prop}{Q:Γ->ε->Prop}{c:Γ}{b:Bool}
inductive jk (K:Ω) (H:Hp):V->Γ->Prop where
 |aH:jk K H .aH (.type "NoneType")
 |bl (x:Bool):jk K H (.bl x) (.type "bool")
 |int (i:Int):jk K H (.int i) (.type "int")
 |str (x:Str):jk K H (.str x) (.type "str")
 |uM (x:UInt64):jk K H (.uM x) (.type "float")
 |lst {a:Θ}{xs:List V}(e:H a=ζ (.lst xs)):jk K H (.ref a) (.type "list")
 |cY {a:Θ}{o:Obj}{xs:List V}(e:H a=ζ (.cY o (.lst xs))):jk K H (.ref a) (.type "list")
 |tup {a:Θ}{xs:List V}(e:H a=ζ (.tup xs)):jk K H (.ref a) (.type "tuple")
 |dK {a:Θ}{kvs:List (Key×V)}(e:H a=ζ (.dK kvs)):jk K H (.ref a) (.type "dict")
 |dT {a:Θ}{kvs:List (List Key×V)}(e:H a=ζ (.dT kvs)):jk K H (.ref a) (.type "dict")
 |ins {a C dx:Θ}{fs:List (Str×V)}(e:H a=ζ (.ins C dx fs)) (cl:Kq K C) (ha:PySem.W.findIn K (.ref C) "__class__"=ζ (ζ (.builtin "object.__class__")))
   (hn:PySem.W.specialIn K (.builtin "object.__class__") "__get__"=ζ (ζ (.builtin "getset_descriptor.__get__"))) (htk:PySem.W.takesIn K (.builtin "object.__class__")=ζ ξ)
   (hm:PySem.W.mroIn K C (.type "object")=ζ ξ):jk K H (.ref a) (.ref C)
theorem agN{x:V}{u t:Γ}(I:Inv X pins σ H s) (rx:RelV x u) (ty:jk X.K H x t) (e:PySem.W.kitOne X.K t c=ζ b) (h:∀tk,Q (.bool b) {s with toks:=tk}) :
  wpAny (model X.prog X.w) A (call (.builtin "isinstance") [u,c]) Q E s:=by
 cases ty with
 |aH=>cases(show u=Value.none from rx);exact aqo PySem.W.kitx_none I.fN True.intro e (λz=>nomatch z) h
 |bl y=>cases(show u=Value.bool y from rx);exact aqo PySem.W.kitx_bool I.fN True.intro e (λz=>nomatch z) h
 |int i=>obtain⟨t,q⟩:=(show ∃t,u=Value.int i t from rx);cases q;exact aqo PySem.W.kitx_int I.fN True.intro e (λz=>nomatch z) h
 |str y=>obtain⟨t,q⟩:=(show ∃t,u=Value.str y t from rx);cases q;exact aqo PySem.W.kitx_str I.fN True.intro e (λz=>nomatch z) h
 |uM y=>obtain⟨t,q⟩:=(show ∃t,u=Value.float y t from rx);cases q;exact aqo PySem.W.kitx_float I.fN True.intro e (λz=>nomatch z) h
 | @lst a xs ea =>
  cases(show u=Value.ref a from rx)
  obtain⟨_,_,n,_,h1⟩:=(show fQ X.prog X.w H s.heap a (.lst xs)from I.hok a _ ea)
  exact aqo aua I.fN ⟨_,h1,rfl⟩ e (λz=>nomatch z) h
 | @cY a ob xs ea =>
  cases(show u=Value.ref a from rx)
  obtain⟨_,_,_,n,_,h1⟩:=(show fQ X.prog X.w H s.heap a (.cY ob (.lst xs))from I.hok a _ ea)
  exact aqo aua I.fN ⟨_,h1,rfl⟩ e (λz=>nomatch z) h
 | @tup a xs ea =>
  cases(show u=Value.ref a from rx)
  obtain⟨_,_,_,p⟩:=(show fQ X.prog X.w H s.heap a (.tup xs)from I.hok a _ ea)
  obtain⟨o,h1,h2,_⟩:=p;exact aqo PySem.W.kitx_tuple I.fN ⟨o,h1,h2⟩ e (λz=>nomatch z) h
 | @dK a kvs ea =>
  cases(show u=Value.ref a from rx)
  obtain⟨_,_,vs,_,p⟩:=(show fQ X.prog X.w H s.heap a (.dK kvs)from I.hok a _ ea)
  obtain⟨o,es,ep,h1,h2,_⟩:=p;exact aqo asS I.fN ⟨o,h1,h2.1⟩ e (λz=>nomatch z) h
 | @dT a kvs ea =>
  cases(show u=Value.ref a from rx)
  obtain⟨_,_,xs,_,o,es,ep,h1,h2,_⟩:=(show fQ X.prog X.w H s.heap a (.dT kvs)from I.hok a _ ea)
  exact aqo asS I.fN ⟨o,h1,h2.1⟩ e (λz=>nomatch z) h
 | @ins a C dx fs ea cl ha hn htk hm =>
  cases(show u=Value.ref a from rx)
  obtain⟨mA,O,_⟩:=agX I.hok ea;obtain⟨od,J,_⟩:=O.look;exact aqo (PySem.W.kitx_own (cl.get _) cl.hd ha hn htk hm) I.fN J e (λz=>nomatch z) h
end
structure dg (k:Nat) (A:acr):Prop where
 hd:A.handled=η
 dp:A.depth+3*k+5<recursionLimit
 un:A.units+16*k+200<ahl
theorem dg.mono{j k:Nat}{A:acr}(r:dg k A) (h:j<=k):dg j A:=⟨r.hd,by have:=r.dp;omega,by have:=r.un;omega⟩
theorem dg.deeper{k:Nat}{A:acr}(r:dg (k+1) A) (env:Env):dg k (A.deeper env) :=
 ⟨r.hd,by have:=r.dp;show A.depth+1+3*k+5<_;omega,by have:=r.un;show A.units+3+16*k+200<_;omega⟩
theorem dg.depth{k:Nat}{A:acr}(r:dg k A):A.depth<recursionLimit:=by have:=r.dp;omega
theorem dg.units{k:Nat}{A:acr}(r:dg k A):A.units+64<ahl:=by have:=r.un;omega
def Vi:TA:=λ_ H Q=>Q [] H
def Vr(ta:TE) (tr:TA):TA:=λσ H Q=>ta σ H λx H1=>tr σ H1 λxs H2=>Q (x::xs) H2
section
variable {X:Cx}{e:ο}{es:List ο}{te:TE}{t:TA}{pos:Pos}
theorem jB:PA X [] Vi:=λ_ _ _ _ H Q I h=>Calls.spliced_nil ⟨[],H,I,.nil,h⟩
theorem i9(ha:PE X e te) (hr:PA X es t) (hs:μ (e::es) X.env=(Δ,eval e X.env)::μ es X.env:=by rfl):PA X (e::es) (Vr te t):=by
 intro pos pins s σ H Q I h;rw[hs];show wpAny _ _ (spliced ((Δ,eval e X.env)::aea pos (μ es X.env))) _ _ s;refine Calls.spliced_cons (bw (ha pins s σ H _ I h) λu s1 ⟨x,H1,I1,r1,q1⟩=>?_)
 exact bw (hr pos pins s1 σ H1 _ I1 q1) λus s2 ⟨xs,H2,I2,r2,q2⟩=>⟨x::xs,H2,I2,.cons r1 r2,q2⟩
def U8(t:TA):TE:=λσ H Q=>t σ H λxs H1=>xs.length<=ι/\∀p,H1 p=η->Q (.ref p) (upd H1 p (.tup xs))
def Vk(t:TA):TE:=λσ H Q=>t σ H λxs H1=>xs.length<=ι/\∀p,H1 p=η->Q (.ref p) (upd H1 p (.lst xs))
theorem aaE{x1}(h:PA X es t):PE X (.Tuple es x1 pos) (U8 t):=by
 intro pins s σ H Q I hq;refine wpAny_Tuple_spliced (bw (h pos pins s σ H _ I hq) λus s1 ⟨xs,H1,I1,r,z,q⟩=>⟨by rw[<-r.length];exact z,?_⟩)
 have hf:H1 s1.heap.objs.size=η:=I1.hok.fresh (aps _);refine⟨.ref s1.heap.objs.size,upd H1 s1.heap.objs.size (.tup xs),I1.laid (t':=s1.toks) (λb u e=>apt _ e) (aps _) ?_,rfl,q _ hf⟩
 exact⟨z,us,r,⟨_,apF _ rfl,rfl,⟨_,rfl⟩,rfl⟩⟩
theorem MD(h:PA X es t):PE X (.List es pos) (Vk t):=by
 intro pins s σ H Q I hq;refine wpAny_List_spliced (bw (h pos pins s σ H _ I hq) λus s1 ⟨xs,H1,I1,r,z,q⟩=>⟨by rw[<-r.length];exact z,?_⟩)
 have hf:H1 s1.heap.objs.size=η:=I1.hok.fresh (aps _);refine⟨.ref s1.heap.objs.size,upd H1 s1.heap.objs.size (.lst xs),I1.laid (t':=s1.toks) (λb u e=>apt _ e) (aps _) ?_,rfl,q _ hf⟩
 exact⟨z,us,0,r,apF _ rfl⟩
end
abbrev Sp:=List V->Hp->VK->XK->Prop
abbrev pO:=List Env->Hp->ε->XK->Γ->ε->Prop
structure rE (P:υ) (w:ψ) (K:Ω) (mg:Str->Option Γ) (base:χ) (A:acr) (outer:List Env) (s:ε) (H:Hp):Prop where
 frames:A.frames=ζ outer
 mod:Mod K mg base
 bs:∀b o,base.get? b=ζ o->s.heap.get? b=ζ o/\H b=η
 iS:base.objs.size<=s.heap.objs.size
 iD:s.heap.FunFrames base outer
 kX:∀b∈frs outer,H b=η
 hok:dJ P w H s.heap
 bare:ahk s.gens
def CE(outer:List Env) (P:υ) (w:ψ) (H:Hp) (s:ε) (Q:VK) (u:Γ) (s':ε):Prop :=
 ∃v H',s'.os=s.os/\ahk s'.gens/\Un (frs outer) [] H H' s.heap s'.heap/\dJ P w H' s'.heap/\RelV v u/\Q v H'
def CR(CX:pO) (outer:List Env) (P:υ) (w:ψ) (H:Hp) (s:ε) (Q:VK) (E:XK) (r:Result) (s':ε):Prop :=
 match r with
 |.ok (.ret u)=>CE outer P w H s Q u s'
 |.ok _=>False
 |.error e=>CX outer H s E e s'
structure bH (P:υ) (w:ψ) (K:Ω) (mg:Str->Option Γ) (base:χ) (CX:pO) (k:Nat) (f:Θ) (fd:ν) (ps:List Str) (sp:Sp):Prop where
 len:∀vs H Q E,sp vs H Q E->vs.length=ps.length
 run:∀(A:acr) (outer:List Env) (s:ε) (H:Hp) (args:Args) (us:List Γ) (vs:List V) (Q:VK) (E:XK),dg k A->rE P w K mg base A outer s H->ahI s fd args (ps.zip us)->Vals vs us->sp vs H Q E ->
  codeAny (model P w) A (.call (.ref f) args) (CR CX outer P w H s Q E) s
section
variable {X:Cx}{pins:List (Θ×Obj)}{σ:St}{H:Hp}{s s':ε}
theorem Inv.HX(I:Inv X pins σ H s):rE X.prog X.w X.K X.mg X.base X.A X.stack s H :=
 ⟨I.ok.frames,I.ok.mod,I.bs,apW I.ok.iS I.sz,I.stack,I.CZ,I.hok,I.bare⟩
theorem Inv.after{Q:VK}{u:Γ}(I:Inv X pins σ H s) (h:CE X.stack X.prog X.w H s Q u s'):EP X pins σ Q u s':=by
 obtain⟨v,H',os,bare,un,hok,r,q⟩:=h;obtain⟨hh,g,d,t,os'⟩:=s';obtain rfl:os'=s.os:=os;exact⟨v,H',I.call (h':=hh) (g':=g) (d':=d) (t':=t) (ch:=[]) un hok bare (λb z=>absurd z (by simp)),r,q⟩
end
def Ly(sp:Sp) (pe:List V) (E:XK) (t:TA):TE:=λσ H Q=>t σ H λvs H1=>sp (vs++pe) H1 Q E
def Binds(K:Ω) (fd:ν) (ps:List Str) (ds:List Γ):Prop :=
 ∀(s:ε) (us:List Γ),K.In s.heap->(us++ds).length=ps.length->ahI s fd ⟨us,[]⟩ (ps.zip (us++ds))
theorem Binds.all{K:Ω}{fd:ν}{ps:List Str}(h:∀us:List Γ,us.length=ps.length->bindArgs fd ⟨us,[]⟩=pure (ps.zip us)):Binds K fd ps []:=λs us _ hl=>by
 rw[aqJ]at hl ⊢;exact .of_eq (h us hl)
def Passes(CX:pO) (X:Cx) (E:XK):Prop:=∀(pins:List (Θ×Obj)) (σ:St) (H:Hp) (s:ε) (e:Γ) (s':ε),Inv X pins σ H s->CX X.stack H s E e s'->X.xe e s'
section
variable {X:Cx}{CX:pO}{k:Nat}{f C:Θ}{fd:ν}{ps:List Str}{sp:Sp}{pe:List V}{ds:List Γ}{E:XK}{x m:Str}{p pos apos:Pos}{e o:ο}{es:List ο}{ta:TE}{t:TA}
theorem X8{pins:List (Θ×Obj)}{σ:St}{H:Hp}{s:ε}{Q:VK}{us:List Γ}{vs:List V}(F:bH X.prog X.w X.K X.mg X.base CX k f fd ps sp) (hr:dg k X.A) (hb:Binds X.K fd ps ds) (hd:Vals pe ds) (hx:Passes CX X E)
  (I:Inv X pins σ H s) (r:Vals vs us) (h:sp (vs++pe) H Q E):wpAny (model X.prog X.w) X.A (call (.ref f) us) (EP X pins σ Q) X.xe s:=by
 have r2:Vals (vs++pe) (us++ds):=r.append hd;have hl:(us++ds).length=ps.length:=by rw[<-r2.length];exact F.len _ _ _ _ h
 refine ari (aqt (F.run X.A X.stack s H ⟨us,[]⟩ (us++ds) (vs++pe) Q E hr I.HX (hb s us I.fN hl) r2 h) λr s' hq=>?_)
 cases r with
 |error e=>exact hx pins σ H s e s' I hq
 |ok fl =>
  cases fl with
  |ret u=>exact I.after hq
  |next=>exact False.elim hq
  |brk=>exact False.elim hq
  |cont=>exact False.elim hq
theorem aaV(F:bH X.prog X.w X.K X.mg X.base CX k f fd ps sp) (hr:dg k X.A) (hg:Gl X x) (hm:X.mg x=ζ (.ref f)) (hk:PySem.W.keepIn X.K (.ref f)=ξ) (hb:Binds X.K fd ps ds) (hd:Vals pe ds) (hx:Passes CX X E)
  (ha:PA X (e::es) t) (hdb:(x==("__debug__":Str))=Δ:=by decide) (he:μ (e::es) X.env=(Δ,eval e X.env)::μ es X.env:=by rfl) (hpl:(aea pos (μ es X.env)).any (·.1)=Δ:=by rfl) :
  PE X (.Call (.Name x p) (e::es) [] pos) (Ly sp pe E t):=by
 intro pins s σ H Q I h;refine arL (Eg I hg hm ?_ hdb);refine aub (h₀:=X.base) I.ok.mod.lU hk (bw (ha pos pins s σ H _ I h) λus s1 ⟨vs,H1,I1,r,q⟩=>⟨I1.fN,?_⟩) he hpl
 exact X8 F hr hb hd hx I1 r q
end
structure cj (N P:List Str) (sc:aeB):Prop where
 kind:sc.kind=.function
 co:sc.isCoroutine=Δ
 gen:sc.isGenerator=Δ
 nd:N.Nodup
 pre:N.take P.length=P
 par:∀x∈P,sc.names.lookup x=ζ .local\/sc.names.lookup x=ζ .cell
 ad2:∀y∈sc.names,y.2≠.free
theorem RM{kindOf:Str->Option adT}{x:Str}:∀{binds:List (Str×Γ)}{m:Str->Option Γ},(∀v,(x,v)∉binds)->bindL kindOf binds m x=m x
 |[],_,_=>rfl
 |(n,v)::r,m,h=>by
  unfold bindL;rw[RM λw hw=>h w (ap7 _ hw)]
  split
  ·have:x≠n:=by rintro rfl;exact h v aqg
   simp[this]
  ·rfl
theorem RO{kindOf:Str->Option adT}{x:Str}:∀{binds:List (Str×Γ)}{m:Str->Option Γ},(∀v,(x,v)∉binds)->bindC kindOf binds m x=m x
 |[],_,_=>rfl
 |(n,v)::r,m,h=>by
  unfold bindC;rw[RO λw hw=>h w (ap7 _ hw)]
  split
  ·rfl
  ·have:x≠n:=by rintro rfl;exact h v aqg
   simp[this]
theorem RN{kindOf:Str->Option adT}{x:Str}{v:Γ}:∀{P:List Str}{vs:List Γ}{i:Nat}{m:Str->Option Γ},P.Nodup->P[i]? = ζ x->vs[i]? = ζ v->kindOf x=ζ .local ->
  bindL kindOf (P.zip vs) m x=ζ v
 |[],_,_,_,_,h,_,_=>by simp at h
 |_::_,[],_,_,_,_,h,_=>by simp at h
 |p::P,w::vs,0,m,nd,h1,h2,hk=>by
  simp at h1 h2;subst h1;subst h2;show bindL kindOf ((p,w)::P.zip vs) m p=_;unfold bindL;rw[RM λv hv=>(aqu.mp nd).1 (arM hv).1,if_pos hk]
  simp
 |p::P,w::vs,i+1,m,nd,h1,h2,hk=>by
  show bindL kindOf ((p,w)::P.zip vs) m x=_;unfold bindL;exact RN (i:=i) (aqu.mp nd).2 (by simpa using h1) (by simpa using h2) hk
theorem RP{kindOf:Str->Option adT}{x:Str}{v:Γ}:∀{P:List Str}{vs:List Γ}{i:Nat}{m:Str->Option Γ},P.Nodup->P[i]? = ζ x->vs[i]? = ζ v->kindOf x≠ζ .local ->
  bindC kindOf (P.zip vs) m x=ζ v
 |[],_,_,_,_,h,_,_=>by simp at h
 |_::_,[],_,_,_,_,h,_=>by simp at h
 |p::P,w::vs,0,m,nd,h1,h2,hk=>by
  simp at h1 h2;subst h1;subst h2;show bindC kindOf ((p,w)::P.zip vs) m p=_;unfold bindC;rw[RO λv hv=>(aqu.mp nd).1 (arM hv).1,if_neg hk]
  simp
 |p::P,w::vs,i+1,m,nd,h1,h2,hk=>by
  show bindC kindOf ((p,w)::P.zip vs) m x=_;unfold bindC;exact RP (i:=i) (aqu.mp nd).2 (by simpa using h1) (by simpa using h2) hk
def start(N:List Str) (vs:List V):St:=vs.map ζ++π (N.length-vs.length) η
def kY(CX:pO) (P:υ) (w:ψ) (K:Ω) (mg:Str->Option Γ) (base:χ) (N:List Str) (qual:Str) (scope:aeB) (f:Θ) (cd:Γ) (A:acr) (outer:List Env) (s:ε) (H:Hp) (E:XK):Cx where
 prog:=P
 w:=w
 K:=K
 mg:=mg
 base:=base
 A:=A.deeper (envOfC qual scope s.heap.objs.size f cd)
 N:=N
 s₀:=s
 H₀:=H
 env:=envOfC qual scope s.heap.objs.size f cd
 outer:=outer
 stack:=envOfC qual scope s.heap.objs.size f cd::outer
 ex:=[]
 calm:=ξ
 fn:=λ_=>ξ
 pn:=[]
 xe:=λe s'=>wpAny (model P w) (A.deeper (envOfC qual scope s.heap.objs.size f cd)) (leaving (envOfC qual scope s.heap.objs.size f cd) e) (λ_ s''=>CX outer H s E e s'') (λe' s''=>CX outer H s E e' s'') s'
theorem QJ{sc:aeB}{n:Nat}{x:Str}(h:sc.names.lookup x=ζ .cell):∃c,(cellsFrom n sc.names []).lookup x=ζ c:=by
 have q:=asb sc.names n [] (.inl h);exact asd.mp q
theorem agV{CX:pO}{P:υ}{w:ψ}{K:Ω}{mg:Str->Option Γ}{base:χ}{N ps:List Str}{qual:Str}{scope:aeB}{f:Θ}{cd:Γ}{A:acr}{outer:List Env}{s s1:ε}{H:Hp}{E:XK}{us:List Γ}{vs:List V}
  (S:cj N ps scope) (hd:A.handled=η) (e0:rE P w K mg base A outer s H) (hl:vs.length=ps.length) (r:Vals vs us)
  (x:InCallC s s.heap.objs.size (bindL (envOfC qual scope s.heap.objs.size f cd).kindOf (ps.zip us) λ_=>η) (cellsFrom (s.heap.objs.size+1) scope.names []) (bindC (envOfC qual scope s.heap.objs.size f cd).kindOf (ps.zip us) λ_=>η) s1) :
  Inv (kY CX P w K mg base N qual scope f cd A outer s H E) [] (start N vs) H s1:=by
 have hpl:ps.length<=N.length:=by have:=congrArg List.length S.pre;rw[aqv]at this;omega
 obtain⟨h1,tk,rfl,hk⟩:=x.done;have lM:∀b:Θ,b∉(kY CX P w K mg base N qual scope f cd A outer s H E).ex:=λb z=>absurd (show b∈([]:List Θ)from z) (by simp)
 refine⟨⟨e0.mod,S.kind,rfl,rfl,aps _,λy z c h1 h2=>?_,λy hy=>?_,λy c _ h=>?_,λ_=>hd,Around.frames_deeper e0.frames,.inr ⟨rfl,rfl⟩,λb z=>absurd z (lM b),e0.bs,e0.iS,λb _ _=>lM b,λb z=>absurd z (lM b),e0.iD,e0.kX⟩,
  rfl,e0.bare,Un.kept hk,⟨_,x.toInCall.ns,λi y v h1 h2 h3=>?_⟩,λy c h=>⟨_,x.cell y c h⟩,e0.hok.fresh (aps _),λy c h=>?_,λp hp=>absurd (show p∈([]:List (Θ×Obj))from hp) (by simp),e0.hok.kept hk,?_⟩
 ·exact name_of_addr x.apart (aqw h1) (aqw h2)
 ·have hy:scope.names.lookup y=ζ .cell\/scope.names.lookup y=ζ .free:=hy
  rcases hy with hy|hy
  ·exact QJ hy
  ·exact absurd rfl (S.ad2 _ (aqw hy))
 ·exact aqG (x.above y c (aqw h))
 ·have hi:i<vs.length:=by
   unfold start at h2
   by_cases hi:i<vs.length
   ·exact hi
   ·rw[aqi (by simpa using hi)]at h2
    rw[auc]at h2;split at h2<;>cases h2
  have ha:vs[i]? = ζ v:=by
   unfold start at h2;rw[ap8 (by simpa using hi),apM]at h2
   cases e:vs[i]? with
   |none=>rw[e]at h2;cases h2
   |some a=>rw[e]at h2;cases h2;rfl
  obtain⟨u,hu,rv⟩:=r.get ha;have hp:ps[i]? = ζ y:=by
   rw[<-S.pre,ase (by omega)];exact h1
  have NF:ps.Nodup:=by rw[<-S.pre];exact S.nd.sublist (asf _ _)
  refine⟨u,rv,?_⟩
  rcases S.par y (apT hp)with k|k
  ·exact .inl ⟨k,RN NF hp hu k⟩
  ·obtain⟨c,e⟩:=QJ (n:=s.heap.objs.size+1) k;refine .inr ⟨.inl k,c,e,?_⟩;have q:=x.cell y c e;rw[RP NF hp hu (by show scope.names.lookup y≠_;rw[k];decide)]at q
   exact q
 ·exact e0.hok.fresh (aqG (x.above y c (aqw h)))
 ·unfold start;show _=N.length;rw[ap5,apC,ash];omega
theorem PV{CX:pO}{P:υ}{w:ψ}{K:Ω}{mg:Str->Option Γ}{base:χ}{k:Nat}{f:Θ}{name qual:Str}{params:ahe}{body:List ad4}{scope:aeB}{dV kV doc pm cdv ct oc:Γ}{an od:Option Θ}
  {osl:Array (Option Γ)}{N ps:List Str}{sp:Sp}(lk:K.lookup f=ζ ⟨oc,od,.func (PySem.W.fnOf name qual params body scope dV kV doc pm an cdv ct),osl⟩) (hcd:PySem.W.codeIn K cdv qual=ξ) (S:cj N ps scope)
  (len:∀vs H Q E,sp vs H Q E->vs.length=ps.length)
  (hbody:∀(A:acr) (outer:List Env) (s:ε) (H:Hp) (vs:List V) (Q:VK) (E:XK),dg k (A.deeper (envOfC qual scope s.heap.objs.size f cdv))->sp vs H Q E ->
   ∃t,gA (kY CX P w K mg base N qual scope f cdv A outer s H E) body t/\t {nx:=λ_ H'=>Q .aH H',rt:=Q} (start N vs) H) :
  bH P w K mg base CX (k+1) f (PySem.W.fnOf name qual params body scope dV kV doc pm an cdv ct) ps sp:=by
 refine⟨len,λA outer s H args us vs Q E hr e0 hb r kU=>?_⟩
 have hl:=len _ _ _ _ kU;have KX:K.In s.heap:=e0.mod.lU.keeps λb o e=>(e0.bs b o e).1
 have lim:s.heap.NoLimit:=e0.mod.nolimit.keeps λb o e=>(e0.bs b o e).1
 have hkind:∀y∈ps.zip us,scope.names.lookup y.1=ζ .local\/(scope.names.lookup y.1=ζ .cell/\((cellsFrom (s.heap.objs.size+1) scope.names []).lookup y.1).isSome=ξ):=fun⟨n,v⟩ hy=>by
  rcases S.par n (arM hy).1 with q|q
  ·exact .inl q
  ·exact .inr ⟨q,asb _ _ _ (.inl q)⟩
 refine codeAny_call_function hr.depth (KX _ _ lk) rfl S.co S.gen rfl (PySem.W.codeRec_of KX hcd) (hb _ _ _ _ ?_);refine wpAny_newFunctionEnv_cells S.kind hkind λenv he s1 x=>?_
 subst he;refine⟨lim.keeps x.toInCall.keep,codeAny_func ?_⟩;obtain⟨t,ht,hq⟩:=hbody A outer s H vs Q E (hr.deeper _) kU;have I:Inv (kY CX P w K mg base N qual scope f cdv A outer s H E) [] (start N vs) H s1:=agV S hr.hd e0 hl r x;refine ap4 (ht [] s1 (start N vs) H _ I hq) (λfl s' hs=>?_) λe s' hs=>hs
 have fin:∀{σ':St}{H':Hp}{v:V}{u:Γ},Inv (kY CX P w K mg base N qual scope f cdv A outer s H E) [] σ' H' s'->RelV v u->Q v H'->CE outer P w H s Q u s' :=
  fun{σ' H' v u} J rv q=>⟨v,H',J.os,J.bare,J.base,J.hok,rv,q⟩
 cases fl with
 |ret u =>
  obtain⟨v,σ',H',J,rv,q⟩:=hs;exact fin J rv q
 |next =>
  obtain⟨σ',H',J,q⟩:=hs;exact fin (v:=V.aH) (u:=Value.none) J rfl q
 |brk =>
  obtain⟨_,_,_,q⟩:=hs;exact False.elim q
 |cont =>
  obtain⟨_,_,_,q⟩:=hs;exact False.elim q
section
variable {X:Cx}{x:Str}{p pos:Pos}{e:ο}{es:List ο}{t:TA}{id T:String}{r:List V->Hp->VK->Prop}
def Lz(r:List V->Hp->VK->Prop) (t:TA):TE:=λσ H Q=>t σ H λvs H1=>r vs H1 Q
theorem wN(hc:d9 X (.builtin id) r) (hg:Gl X x) (hm:X.mg x=η) (hv:bootBuiltins x=ζ (.builtin id)) (ha:PA X (e::es) t) (hn:x≠"__name__":=by decide) (hdb:(x==("__debug__":Str))=Δ:=by decide)
  (he:μ (e::es) X.env=(Δ,eval e X.env)::μ es X.env:=by rfl) (hpl:(aea pos (μ es X.env)).any (·.1)=Δ:=by rfl):PE X (.Call (.Name x p) (e::es) [] pos) (Lz r t):=by
 intro pins s σ H Q I h;refine arL (kQ I hg hm hv ?_ hn hdb);exact PyProof.Rows.callWith_builtin1 (bw (ha pos pins s σ H _ I h) λus s1 ⟨vs,H1,I1,r1,q1⟩=>hc pins s1 σ H1 vs us Q I1 r1 q1) he hpl
theorem kG(hc:d9 X (.type T) r) (hg:Gl X x) (hm:X.mg x=η) (hv:bootBuiltins x=ζ (.type T)) (ha:PA X (e::es) t) (hn:x≠"__name__":=by decide) (hdb:(x==("__debug__":Str))=Δ:=by decide)
  (he:μ (e::es) X.env=(Δ,eval e X.env)::μ es X.env:=by rfl) (hpl:(aea pos (μ es X.env)).any (·.1)=Δ:=by rfl):PE X (.Call (.Name x p) (e::es) [] pos) (Lz r t):=by
 intro pins s σ H Q I h;refine arL (kQ I hg hm hv ?_ hn hdb);exact aqT (bw (ha pos pins s σ H _ I h) λus s1 ⟨vs,H1,I1,r1,q1⟩=>hc pins s1 σ H1 vs us Q I1 r1 q1) he hpl
end
end L2
namespace HT
open PySem PyProof.Rows
section
variable {prog:υ}{w:ψ}{A:acr}{E:Γ->ε->Prop}{s:ε}
theorem alG{t b:Θ}{vs ws:List Γ}{Q:Γ->ε->Prop}(ht:IsTup s.heap t vs.toArray) (hb:IsTup s.heap b ws.toArray) (hv:vs≠[])
  (h1:ws=[]->Q (.ref t) s) (h2:ws≠[]->Q (.ref s.heap.objs.size) {s with heap:=s.heap.push {cls:=.type "tuple",data:=.seq (vs++ws).toArray} })
  (hsz:vs.length+ws.length<=ι):wpAny (model prog w) A (binaryOp .Add (.ref t) (.ref b)) Q E s:=by
 obtain⟨⟨cls,dd,data,sl⟩,ho,hc,n,hd⟩:=id ht;obtain⟨⟨cls2,dd2,data2,sl2⟩,ho2,hc2,n2,hd2⟩:=id hb;simp only at hc hd hc2 hd2;subst hc hd hc2 hd2;have e:vs.toArray++ws.toArray=(vs++ws).toArray:=by simp
 by_cases hw:ws=[]
 ·exact concat_meets ⟨_,ho,rfl⟩ ⟨_,ho2,rfl⟩ noFill_tuple_add seq_tuple_add aud aue (auf _ _)
   (tuple_addW1 t b vs.toArray ws.toArray n n2 dd dd2 sl sl2 (by simpa using hv) (by simp[hw])) ⟨ho,ho2,h1 hw⟩
 ·refine concat_meets ⟨_,ho,rfl⟩ ⟨_,ho2,rfl⟩ noFill_tuple_add seq_tuple_add aud aue (auf _ _)
   (tuple_addW2 t b vs.toArray ws.toArray n n2 dd dd2 sl sl2 (by simpa using hv) (by simpa using hw) (by rw[apH,apH];exact hsz)) ⟨ho,ho2,?_⟩
  rw[e];exact h2 hw
def fL(n d:Nat):Option Int->Nat
 |none=>d
 |some v=>if v<0 then(v+(n:Int)).toNat else min v.toNat n
theorem XT(n d k:Nat):fL n d (ζ (k:Int))=min k n:=by
 show(if(k:Int)<0 then((k:Int)+(n:Int)).toNat else min (k:Int).toNat n)=min k n
 rw[if_neg (by omega),arN]
end
end HT
namespace L2
open PySem PySem.Spec PyProof.Rows
abbrev TO:=St->Hp->(Option Int->Hp->Prop)->Prop
def PO(X:Cx) (e:Option ο) (t:TO):Prop :=
 ∀(pins:List (Θ×Obj)) (s:ε) (σ:St) (H:Hp) (Q:Option Int->Hp->Prop),Inv X pins σ H s->t σ H Q ->
  wpAny (model X.prog X.w) X.A (evalPart e X.env) (λu s'=>∃o H',Inv X pins σ H' s'/\IsPart u o/\Q o H') X.xe s
def Vh:TO:=λ_ H Q=>Q η H
def Vd(t:TE):TO:=λσ H Q=>t σ H λx H1=>∃i,x=.int i/\Q (ζ i) H1
section
variable {X:Cx}{e:ο}{te:TE}{lo hi:Option ο}{tl th:TO}{pos p2:Pos}
theorem Zx:PO X η Vh:=by
 intro pins s σ H Q I h;rw[evalPart_none];exact apr ⟨η,H,I,.none,h⟩
theorem Zw(h:PE X e te):PO X (ζ e) (Vd te):=by
 intro pins s σ H Q I hw;rw[evalPart_some];refine bw (h pins s σ H _ I hw) λu s1 ⟨x,H1,I1,r1,q1⟩=>?_
 obtain⟨i,rfl,q⟩:=q1;obtain⟨t,rfl⟩:=r1;exact⟨ζ i,H1,I1,.int i t,q⟩
def R6(X:Cx) (r:V->Option Int->Option Int->Hp->VK->Prop):Prop :=
 ∀(pins:List (Θ×Obj)) (s:ε) (σ:St) (H:Hp) (x:V) (v vl vu:Γ) (lo hi:Option Int) (sl:Θ) (Q:VK),Inv X pins σ H s->RelV x v->s.heap.IsSliceOf sl vl vu .none->IsPart vl lo->IsPart vu hi->r x lo hi H Q ->
  ∃T id,typeLookup (.type T) "__getitem__"=pure (ζ (.builtin id))/\s.TypeIs v T/\wpAny (model X.prog X.w) X.A (getItem v (.ref sl)) (EP X pins σ Q) X.xe s
def U9(r:V->Option Int->Option Int->Hp->VK->Prop) (te:TE) (tl th:TO):TE:=λσ H Q=>te σ H λx H1=>tl σ H1 λl H2=>th σ H2 λu H3=>r x l u H3 Q
theorem aaH{r:V->Option Int->Option Int->Hp->VK->Prop}(hr:R6 X r) (he:PE X e te) (hl:PO X lo tl) (hu:PO X hi th):PE X (.Subscript e (.Slice lo hi η p2) pos) (U9 r te tl th):=by
 intro pins s σ H Q I h;refine Subscript_ (bw (he pins s σ H _ I h) λv s1 ⟨x,H1,I1,r1,q1⟩=>?_)
 refine wpAny_Slice (bw (hl pins s1 σ H1 _ I1 q1) λvl s2 ⟨l,H2,I2,pl,q2⟩=>bw (hu pins s2 σ H2 _ I2 q2) λvu s3 ⟨u,H3,I3,pu,q3⟩=>?_)
 rw[evalPart_none];refine apr ?_;have I4:Inv X pins σ H3 {s3 with heap:=s3.heap.push {cls:=.type "slice",data:=.fields #[vl,vu,.none]} }:=I3.kept (t':=s3.toks) λb ob q=>apt _ q
 obtain⟨T,id,hT,ht,hg⟩:=hr pins {s3 with heap:=s3.heap.push {cls:=.type "slice",data:=.fields #[vl,vu,.none]} } σ H3 x v vl vu l u s3.heap.objs.size Q I4 r1 (Heap.IsSliceOf.new ..) pl pu q3
 show wpAny (model X.prog X.w) X.A (subscriptTail e (.Slice lo hi η p2) v (.ref s3.heap.objs.size)) (EP X pins σ Q) X.xe {s3 with heap:=s3.heap.push {cls:=.type "slice",data:=.fields #[vl,vu,.none]} }
 exact tail_any (ops:=[.ref s3.heap.objs.size,v]) ht hT hg (by with_unfolding_all rfl)
def uY(xs:List V) (lo hi:Option Int):List V:=(xs.drop (HT.fL xs.length 0 lo)).take (HT.fL xs.length xs.length hi-HT.fL xs.length 0 lo)
theorem akl(xs:List V) (lo hi:Option Int):(uY xs lo hi).length<=xs.length:=by
 unfold uY;rw[aqv,List.length_drop];omega
def YL(K:Ω):R2:=λx y H Q=>∃a b xs ys,x=.ref a/\y=.ref b/\cF K H a xs/\cF K H b ys/\xs≠[]/\xs.length+ys.length<=ι /\
 (ys=[]->Q (.ref a) H)/\(ys≠[]->∀p,H p=η->Q (.ref p) (upd H p (.tup (xs++ys))))
theorem Vals.DQ{xs:List V}{us:List Γ}(r:Vals xs us):us=[]↔xs=[]:=by
 cases r with
 |nil=>simp
 |cons _ _=>simp
theorem abB:bW X (binaryOp .Add) (YL X.K):=by
 intro pins s σ H x y v u Q I rx ry h;obtain⟨a,b,xs,ys,rfl,rfl,ha,hb,hx,hz,q1,q2⟩:=h;cases rx;cases ry;obtain⟨its,r1,p1,_⟩:=I.tuple ha;obtain⟨its2,r2,p2,_⟩:=I.tuple hb;refine HT.alG p1 p2 (λz=>hx (r1.DQ.mp z)) (λz=>⟨.ref a,H,I,rfl,q1 (r2.DQ.mp z)⟩) (λz=>?_) (by rw[<-r1.length,<-r2.length];exact hz)
 refine⟨.ref s.heap.objs.size,_,I.laid (t':=s.toks) (o:=.tup (xs++ys)) (λb ob q=>apt _ q) (aps _) ?_,rfl,q2 (λw=>z (r2.DQ.mpr w)) _ (I.hok.fresh (aps _))⟩
 exact⟨by rw[ap5];exact hz,_,r1.append r2,k9.new _ _⟩
end
def gu(n:Nat) (i:Int):Option Nat:=if 0<=i then(if i<n then ζ i.toNat else η)else if -(n:Int)<=i then ζ (i+n).toNat else η
def dI{α:Type}(xs:List α) (i:Int):Option α:=(gu xs.length i).bind λj=>xs[j]?
theorem Oq{n:Nat}{i:Int}{j:Nat}(h:gu n i=ζ j):seqIndex? i n=ζ j/\j<n/\-(n:Int)<=i/\i<n:=by
 unfold gu at h
 by_cases h0:0<=i
 ·rw[if_pos h0]at h
  by_cases h1:i<n
  ·rw[if_pos h1]at h;have e:i.toNat=j:=apQ h;exact⟨by rw[seqIndex_of h0 h1,e],by omega,by omega,h1⟩
  ·rw[if_neg h1]at h;cases h
 ·rw[if_neg h0]at h
  by_cases h1:-(n:Int)<=i
  ·rw[if_pos h1]at h;have e:(i+n).toNat=j:=apQ h;exact⟨by rw[seqIndex_neg (by omega) h1,e],by omega,h1,by omega⟩
  ·rw[if_neg h1]at h;cases h
theorem RV{α:Type}{xs:List α}{i:Int}{v:α}(h:dI xs i=ζ v):∃j,seqIndex? i xs.length=ζ j/\xs[j]? = ζ v/\j<xs.length/\-(xs.length:Int)<=i/\i<xs.length:=by
 unfold dI at h;cases e:gu xs.length i with
 |none=>rw[e]at h;cases h
 |some j =>
  rw[e]at h;obtain⟨h1,h2,h3,h4⟩:=Oq e;exact⟨j,h1,h,h2,h3,h4⟩
theorem g8{α:Type}{xs:List α}{j:Nat}{v:α}(h:xs[j]? = ζ v):dI xs (j:Int)=ζ v:=by
 have hj:j<xs.length:=(apK.mp h).1;have e:gu xs.length (j:Int)=ζ j:=by
  unfold gu;rw[if_pos (by omega),if_pos (by omega)];simp
 unfold dI;rw[e];exact h
def R7(b:ο):Prop:=∀o i,subscripted b Δ o i=operate [o,i] (getItem o i)
def yP(X:Cx) (r:R2):Prop :=
 ∀(value slice:ο) (pins:List (Θ×Obj)) (s:ε) (σ:St) (H:Hp) (x y:V) (v u:Γ) (Q:VK),Inv X pins σ H s->RelV x v->RelV y u->r x y H Q ->
  subscripted slice Δ v u=operate [v,u] (getItem v u)->wpAny (model X.prog X.w) X.A (subscriptTail value slice v u) (EP X pins σ Q) X.xe s
def MtR(X:Cx) (id:String) (r:V->List V->Hp->VK->Prop):Prop :=
 ∀(pins:List (Θ×Obj)) (s:ε) (σ:St) (H:Hp) (x:V) (xs:List V) (v:Γ) (us:List Γ) (Q:VK),Inv X pins σ H s->RelV x v->Vals xs us->r x xs H Q ->
  wpAny (model X.prog X.w) X.A (call (.builtin id) (v::us)) (EP X pins σ Q) X.xe s
section
variable {X:Cx}{a b:ο}{ta tb:TE}{pos:Pos}
theorem aaM{r:R2}(hr:yP X r) (ha:PE X a ta) (hb:PE X b tb) (hs:R7 b):PE X (.Subscript a b pos) (zk r ta tb):=by
 intro pins s σ H Q I h;exact Subscript_ (JZ ha hb I h λv u s2 x y H2 I2 rx ry q=>hr a b pins s2 σ H2 x y v u Q I2 rx ry q (hs _ _))
def YH(K:Ω):R2:=λx y H Q=>∃p xs i v,x=.ref p/\y=.int i/\bD K H p xs/\dI xs i=ζ v/\Q v H
def YG(K:Ω):R2:=λx y H Q=>∃p xs i v,x=.ref p/\y=.int i/\cF K H p xs/\dI xs i=ζ v/\Q v H
theorem agH:yP X (YH X.K):=by
 intro value slice pins s σ H x y v u Q I rx ry h hs;obtain⟨p,xs,i,z,rfl,rfl,hq,he,q⟩:=h;cases rx;obtain⟨t,rfl⟩:=ry;obtain⟨its,r,pl,hz⟩:=I.list hq;obtain⟨j,h1,h2,h3,h4,h5⟩:=RV he;obtain⟨w,ew,rw'⟩:=r.get h2;have hl:=r.length;have hn:=uz;have fin:EP X pins σ Q w s:=⟨z,H,I,rw',q⟩
 by_cases h0:0<=i
 ·have hj:i.toNat=j:=by
   rw[seqIndex_of h0 h5]at h1;exact apQ h1
  exact item_listR pl.isList h0 (by omega) (by rw[hj];simpa using ew) fin hs
 ·have hj:(i+(its.toArray.size:Int)).toNat=j:=by
   rw[seqIndex_neg (by omega) h4]at h1
   rw[apH,<-hl];exact apQ h1
  exact subscriptTail_builtinR (x:=w) pl.isList.typeIs slot_list_getitem.lookup
   (wpAny_getItem_list_neg (Q:=λr s'=>r=w/\EP X pins σ Q r s') pl.isList (by omega) (by rw[apH]<;>omega) (by omega) (by rw[hj];simpa using ew) ⟨rfl,fin⟩) hs
theorem agG:yP X (YG X.K):=by
 intro value slice pins s σ H x y v u Q I rx ry h hs;obtain⟨p,xs,i,z,rfl,rfl,hq,he,q⟩:=h;cases rx;obtain⟨t,rfl⟩:=ry;obtain⟨its,r,pl,hz⟩:=I.tuple hq;obtain⟨j,h1,h2,h3,h4,h5⟩:=RV he;obtain⟨w,ew,rw'⟩:=r.get h2;have hl:=r.length;have hn:=uz;have fin:EP X pins σ Q w s:=⟨z,H,I,rw',q⟩;exact subscriptTail_builtinR (x:=w) pl.typeIs slot_tuple_getitem.lookup
  (getItem_tuple (j:=j) (Q:=λr s'=>r=w/\EP X pins σ Q r s') pl (by omega) (by omega) (by rw[apH,<-hl];exact h1) (by simpa using ew) ⟨rfl,fin⟩) hs
theorem afe(its:List Γ) (n j:Nat) (u:Γ):Obj.mapSeq (·.setIfInBounds j u) {cls:=.type "list",data:=.seq its.toArray n}={cls:=.type "list",data:=.seq (its.set j u).toArray n}:=by
 simp[Obj.mapSeq]
theorem Inv.lst{pins:List (Θ×Obj)}{σ:St}{H:Hp}{s:ε}{p:Θ}{xs:List V}(I:Inv X pins σ H s) (h:H p=ζ (.lst xs)) :
  ∃(its:List Γ) (n:Nat),Vals xs its/\s.heap.get? p=ζ {cls:=.type "list",data:=.seq its.toArray n}/\xs.length<=ι:=by
 obtain⟨z,its,n,r,e⟩:=I.hok p _ h;exact⟨its,n,r,e,z⟩
theorem Inv.afi{pins:List (Θ×Obj)}{σ:St}{H:Hp}{s:ε}{p:Θ}{xs ys:List V}{its its':List Γ}{n n':Nat}{f:Obj->Obj}(I:Inv X pins σ H s) (h:H p=ζ (.lst xs))
  (ho:s.heap.get? p=ζ {cls:=.type "list",data:=.seq its.toArray n}) (hf:f {cls:=.type "list",data:=.seq its.toArray n}={cls:=.type "list",data:=.seq its'.toArray n'}) (r:Vals ys its') (hz:ys.length<=ι) (t:Nat) :
  Inv X pins σ (upd H p (.lst ys)) {s with heap:=s.heap.update p f,toks:=t}:=by
 have e:(s.heap.update p f).get? p=ζ {cls:=.type "list",data:=.seq its'.toArray n'}:=by
  rw[arO f ho (by rw[hf]<;>rfl),hf]
 refine I.write (x:=p) (e:=p) (by rw[h];trivial) (.inl rfl) (λb u hb q=>(arj _ _ (aqh hb)).trans q) ⟨_,e⟩ ?_
 exact⟨hz,its',n',r,e⟩
def Yw:V->V->V->Hp->(Hp->Prop)->Prop:=λo i v H Q=>∃p xs k j,o=.ref p/\i=.int k/\H p=ζ (.lst xs)/\gu xs.length k=ζ j/\Q (upd H p (.lst (xs.set j v)))
theorem set_list:R8 X Yw:=by
 intro pins s σ H o i v ov iv u Q I ro ri rv h;obtain⟨p,xs,k,j,rfl,rfl,hp,hj,q⟩:=h;cases ro;obtain⟨t,rfl⟩:=ri;obtain⟨its,n,r,ho,hz⟩:=I.lst hp;obtain⟨h1,h2,h3,h4⟩:=Oq hj;have hl:=r.length;have hn:=uz;have I':Inv X pins σ (upd H p (.lst (xs.set j v))) {s with heap:=s.heap.update p (Obj.mapSeq (·.setIfInBounds j u))} :=
  I.afi hp ho (afe its n j u) (r.set rv j) (by rw[asT];exact hz) s.toks
 by_cases h0:0<=k
 ·have hk:k.toNat=j:=by
   rw[seqIndex_of h0 h4]at h1;exact apQ h1
  exact PySem.W.ki_setAt ho h0 (by omega) (by rw[apH,<-hl];exact h4) (by rw[hk];exact⟨_,I',q⟩)
 ·have hk:(k+(its.toArray.size:Int)).toNat=j:=by
   rw[seqIndex_neg (by omega) h3]at h1
   rw[apH,<-hl];exact apQ h1
  exact PySem.W.ki_setBack ho (by omega) (by rw[apH,<-hl];exact h3) (by omega) (by rw[hk];exact⟨_,I',q⟩)
theorem Wg(lo hi:Option Int) (n:Nat):(sliceBounds lo hi η n).1=((HT.fL n 0 lo:Nat):Int)/\(sliceBounds lo hi η n).2.1=((HT.fL n n hi:Nat):Int)/\(sliceBounds lo hi η n).2.2=1:=by
 refine⟨?_,?_,rfl⟩
 ·cases lo with
  |none=>simp[sliceBounds,HT.fL]
  |some i =>
   simp only[sliceBounds,HT.fL,auh,show(1:Int)>0 by decide,if_true]
   by_cases h:i<0
   ·simp only[h,if_true]<;>omega
   ·simp only[h,if_false]<;>omega
 ·cases hi with
  |none=>simp[sliceBounds,HT.fL]
  |some i =>
   simp only[sliceBounds,HT.fL,auh,show(1:Int)>0 by decide,if_true]
   by_cases h:i<0
   ·simp only[h,if_true]<;>omega
   ·simp only[h,if_false]<;>omega
theorem Wh(its:List Γ) (lo hi:Option Int):slicePick its.toArray lo hi η=((its.drop (HT.fL its.length 0 lo)).take (HT.fL its.length its.length hi-HT.fL its.length 0 lo)).toArray:=by
 obtain⟨h1,h2,h3⟩:=Wg lo hi its.toArray.size;unfold slicePick;rw[h1,h2,h3];simp only[sliceRange_one,pick_run,apH]<;>rfl
def Yt(K:Ω):V->Option Int->Option Int->Hp->VK->Prop:=λx lo hi H Q=>∃a xs,x=.ref a/\bD K H a xs/\∀p,H p=η->Q (.ref p) (upd H p (.lst (uY xs lo hi)))
theorem Wu:R6 X (Yt X.K):=by
 intro pins s σ H x v vl vu lo hi sl Q I rx hs pl pu h;obtain⟨a,xs,rfl,hx,q⟩:=h;cases rx;obtain⟨its,r,ht,hz⟩:=I.list hx;have hlen:=r.length;refine⟨"list",_,slot_list_getitem.lookup,ht.isList.typeIs,?_⟩;refine wpAny_getItem_list_slice ht.isList hs pl pu .none (by simp) ?_ (by rw[apH]<;>omega)
 rw[Wh,<-hlen];refine⟨.ref s.heap.objs.size,_,I.laid (t':=s.toks) (o:=.lst (uY xs lo hi)) (λb ob q=>apt _ q) (aps _) ?_,rfl,q _ (I.hok.fresh (aps _))⟩
 exact⟨apW (akl xs lo hi) hz,_,0,(r.drop (HT.fL xs.length 0 lo)).take (HT.fL xs.length xs.length hi-HT.fL xs.length 0 lo),apF _ rfl⟩
theorem alN:d9 X (.builtin "len") (λxs H Q=>∃p ys,xs=[.ref p]/\(bD X.K H p ys\/cF X.K H p ys)/\Q (.int ys.length) H):=by
 intro pins s σ H xs us Q I r h;obtain⟨p,ys,rfl,hq,q⟩:=h;obtain⟨u,rfl,rx⟩:=aqc r;cases rx;have hn:=uz
 rcases hq with hq|hq
 ·obtain⟨its,r',pl,hz⟩:=I.list hq;have hlen:=r'.length;exact Calls.call_len_list pl.isList (by simp only[apH]<;>omega) ⟨.int ys.length,H,I.tok _,⟨s.toks+1,by rw[apH,hlen]⟩,q⟩
 ·obtain⟨its,r',pl,hz⟩:=I.tuple hq;have hlen:=r'.length;exact len_tuple pl (by simp only[apH]<;>omega) ⟨.int ys.length,H,I.tok _,⟨s.toks+1,by rw[apH,hlen]⟩,q⟩
theorem alM:d9 X (.builtin "len") (λxs H Q=>∃z,xs=[.str z]/\z.length<=ι/\Q (.int z.length) H):=by
 intro pins s σ H xs us Q I r h;obtain⟨z,rfl,hz,q⟩:=h;obtain⟨u,rfl,t,rfl⟩:=aqc r;have hn:=uz;exact len_str (by omega) ⟨.int z.length,H,I.tok _,⟨_,rfl⟩,q⟩
theorem alI:d9 X (.type "tuple") (λxs H Q=>∃p ys,xs=[.ref p]/\((bD X.K H p ys/\∀l,H l=η->Q (.ref l) (upd H l (.tup ys)))\/(cF X.K H p ys/\Q (.ref p) H))):=by
 intro pins s σ H xs us Q I r h;obtain⟨p,ys,rfl,h⟩:=h;obtain⟨u,rfl,rx⟩:=aqc r;cases rx
 rcases h with⟨hq,q⟩|⟨hq,q⟩
 ·obtain⟨its,r',pl,hz⟩:=I.list hq;have hlen:=r'.length;refine call_tuple_list pl.isList (λh' kp=>?_) (by simp only[apH]<;>omega)
  have I1:Inv X pins σ H {s with heap:=h'}:=I.kept (t':=s.toks) kp
  have I2:Inv X pins σ (upd H h'.objs.size (.tup ys)) {s with heap:=h'.push {cls:=.type "tuple",data:=.seq its.toArray} } :=
   I1.laid (t':=s.toks) (λb o e=>apt _ e) (aps _) (show fQ X.prog X.w _ _ _ (.tup ys)from⟨hz,its,r',k9.new _ _⟩)
  exact⟨.ref h'.objs.size,_,I2,rfl,q _ (I1.hok.fresh (aps _))⟩
 ·obtain⟨its,r',pl,hz⟩:=I.tuple hq;exact call_tuple_same pl ⟨.ref p,H,I,rfl,q⟩
def La(K:Ω) (T:String) (x:V) (H:Hp):Prop:=match x with
 |.str _=>T="str"
 |.int _=>T="int"
 |.ref p=>(T="list"/\∃xs,bD K H p xs)\/(T="tuple"/\((∃xs,H p=ζ (.tup xs))\/∃o,K.lookup p=ζ o/\o.cls=.type "tuple"/\o.dict=η)) \/
   (T="dict"/\((∃kvs,H p=ζ (.dK kvs))\/∃kvs,H p=ζ (.dT kvs)))\/(T="set"/\∃S n,H p=ζ (.set S n))
 |_=>False
theorem Ux{pins:List (Θ×Obj)}{σ:St}{H:Hp}{s:ε}{T:String}{x:V}{v:Γ}(I:Inv X pins σ H s) (r:RelV x v) (ty:La X.K T x H) :
  s.TypeIs v T/\∀a,v=.ref a->∃ob,s.heap.get? a=ζ ob/\ob.dict=η:=by
 cases x with
 |str z =>
  obtain⟨t,rfl⟩:=r;cases(show T="str" from ty)
  exact⟨typeIs_str s z t,λ_ e=>nomatch e⟩
 |int i =>
  obtain⟨t,rfl⟩:=r;cases(show T="int" from ty)
  exact⟨typeIs_int s i t,λ_ e=>nomatch e⟩
 |ref p =>
  cases r
  rcases ty with⟨rfl,xs,hq⟩|⟨rfl,⟨xs,hk⟩|⟨o,hk,hc,hd⟩⟩|⟨rfl,hk⟩|⟨rfl,S,n,hk⟩
  ·obtain⟨its,_,pl,_⟩:=I.list hq;refine⟨pl.isList.typeIs,λa e=>?_⟩
   cases e;obtain⟨o,n,e,c,hd,_⟩:=pl;exact⟨o,e,hd⟩
  ·obtain⟨_,its,_,o,e,c,_,hd⟩:=(show fQ X.prog X.w H s.heap p (.tup xs)from I.hok p _ hk)
   refine⟨⟨o,e,c⟩,λa e2=>?_⟩
   cases e2;exact⟨o,e,hd⟩
  ·refine⟨⟨o,I.fN p o hk,hc⟩,λa e=>?_⟩
   cases e;exact⟨o,I.fN _ o hk,hd⟩
  ·have z:∃o,s.heap.get? p=ζ o/\o.ExactDict:=by
    rcases hk with⟨kvs,hk⟩|⟨kvs,hk⟩
    ·obtain⟨_,_,_,_,o,_,_,e,ex,_⟩:=I.hok p _ hk;exact⟨o,e,ex⟩
    ·obtain⟨_,_,_,_,o,_,_,e,ex,_⟩:=I.hok p _ hk;exact⟨o,e,ex⟩
   obtain⟨o,e,ex⟩:=z;refine⟨⟨o,e,ex.1⟩,λa e2=>?_⟩
   cases e2;exact⟨o,e,ex.2.1⟩
  ·obtain⟨o,_,_,_,e,ex,_⟩:=I.hok p _ hk;refine⟨⟨o,e,ex.1⟩,λa e2=>?_⟩
   cases e2;exact⟨o,e,ex.2.1⟩
 |_=>exact False.elim ty
def Vt(K:Ω) (T:String) (r:V->List V->Hp->VK->Prop) (to:TE) (t:TA):TE:=λσ H Q=>to σ H λx H1=>La K T x H1/\t σ H1 λxs H2=>r x xs H2 Q
variable {o e:ο}{es:List ο}{to:TE}{t:TA}{name:Str}{apos cpos:Pos}{T id:String}{r:V->List V->Hp->VK->Prop}
theorem zS(pa:PlainAttrs T) (slot:Slot T name id) (hty:typeOf (.builtin id)=pure (.type "method_descriptor")) (hm:MtR X id r) (ho:PE X o to) (ha:PA X (e::es) t)
  (hbase:ahd o name X.env (eval o X.env)=eval o X.env:=by rfl)
  (hfew:((aea cpos (μ (e::es) X.env)).all (λx=>!x.1)&&(aho cpos (agr [] X.env)).all (λx=>x.1.isSome)
   && decide ((e::es).length+([]:List agI).length+(if([]:List agI).isEmpty then 0 else 1)<30))=ξ:=by rfl)
  (hline:(apos.endLine==cpos.line)=ξ:=by rfl) (hs:μ (e::es) X.env=(Δ,eval e X.env)::μ es X.env:=by rfl) (hplain:(aea cpos (μ es X.env)).any (·.1)=Δ:=by rfl) :
  PE X (.Call (.Attribute o name apos) (e::es) [] cpos) (Vt X.K T r to t):=by
 intro pins s σ H Q I h;refine wpAny_Call_method_late hbase hfew hline rfl (bw (ho pins s σ H _ I h) λv s1 ⟨x,H1,I1,r1,ty,q1⟩=>?_)
 obtain⟨h1,h2⟩:=Ux I1 r1 ty;refine⟨T,id,pa,slot,hty,h1,h2,?_⟩;have hA:=ha cpos pins s1 σ H1 _ I1 q1;rw[hs]at hA ⊢;refine Calls.callWith_builtin (by show(Δ||(aea cpos (μ es X.env)).any (·.1))=Δ;rw[hplain]<;>rfl) (Calls.evalArgs_plain ?_)
 exact bw hA λus s2 ⟨vs,H2,I2,r2,q2⟩=>hm pins s2 σ H2 x vs v us Q I2 r1 r2 q2
end
def Cg(X:Cx) (id:String) (r:V->List V->Hp->VK->Prop):Prop :=
 ∀(pins:List (Θ×Obj)) (s:ε) (σ:St) (H:Hp) (x:V) (xs:List V) (v:Γ) (us:List Γ) (Q:VK),Inv X pins σ H s->RelV x v->Vals xs us->r x xs H Q ->
  wpAny (model X.prog X.w) X.A (call (.builtin id) (v::us)) (EP X pins σ Q) X.xe s
theorem Vals.one:∀{x:V}{us:List Γ},Vals [x] us->∃u,us=[u]/\RelV x u
 |_,_,.cons r .nil=>⟨_,rfl,r⟩
theorem Vals.two:∀{x y:V}{us:List Γ},Vals [x,y] us->∃u v,us=[u,v]/\RelV x u/\RelV y v
 |_,_,_,.cons r (.cons q .nil)=>⟨_,_,rfl,r,q⟩
theorem Vals.eraseIdx:∀{xs:List V}{us:List Γ}(i:Nat),Vals xs us->Vals (xs.eraseIdx i) (us.eraseIdx i)
 |_,_,_,.nil=>.nil
 |_,_,0,.cons _ t=>t
 |_,_,i+1,.cons r t=>.cons r (Vals.eraseIdx i t)
theorem Vals.rep{xs:List V}{us:List Γ}(h:Vals xs us):∀k:Nat,Vals (π k xs).flatten (π k us).flatten
 |0=>.nil
 |k+1=>by
  rw[aqK,aqK,aqU,aqU];exact Vals.append h (Vals.rep h k)
theorem N6{α:Type}:∀(l:List α) (i:Nat),(l.eraseIdx i).length<=l.length
 |[],_=>aps _
 |_::_,0=>ark _
 |_::r,i+1=>Nat.succ_le_succ (N6 r i)
theorem foldl_rep(its:List Γ):∀(k:Nat) (acc:List Γ),
  List.foldl (λx1 x2=>x1++x2) acc.toArray (π k its.toArray)=(acc++(π k its).flatten).toArray
 |0,acc=>by simp
 |k+1,acc=>by
  have e:acc.toArray++its.toArray=(acc++its).toArray:=by simp
  have e2:(acc++its)++(π k its).flatten=acc++(π (k+1) its).flatten:=by
   rw[aqK,aqU,ap9]
  rw[<-e2,<-foldl_rep its k (acc++its),<-e,aqK,aq6]
section
variable {X:Cx}{pins:List (Θ×Obj)}{σ:St}{H:Hp}{s:ε}{l b:Θ}{xs ys zs:List V}
theorem Inv.Ea{its its':List Γ}{n:Nat}{f:Array Γ->Array Γ}{t':Nat}(I:Inv X pins σ H s) (hH:H l=ζ (.lst xs))
  (e:s.heap.get? l=ζ {cls:=.type "list",data:=.seq its.toArray n}) (hf:f its.toArray=its'.toArray) (hv:Vals ys its') (hz:ys.length<=ι) :
  Inv X pins σ (upd H l (.lst ys)) {s with heap:=s.heap.update l (Obj.mapSeq f),toks:=t'}:=by
 have q:=aui e f;rw[hf]at q;refine I.write (x:=l) (e:=l) (by rw[hH];exact trivial) (.inl rfl) (λb' u hb hu=>(arj s.heap (Obj.mapSeq f) (aqh hb)).trans hu) ⟨_,q⟩ ?_
 exact⟨hz,its',_,hv,q⟩
theorem Inv.N3{its:List Γ}{t':Nat}(I:Inv X pins σ H s) (hv:Vals ys its) (hz:ys.length<=ι) :
  Inv X pins σ (upd H s.heap.objs.size (.lst ys)) {s with heap:=s.heap.push {cls:=.type "list",data:=.seq its.toArray},toks:=t'} :=
 I.laid (λ_ _ q=>apt _ q) (aps _) ⟨hz,its,0,hv,apF _ rfl⟩
theorem Inv.fresh(I:Inv X pins σ H s):H s.heap.objs.size=η:=I.hok.fresh (aps _)
theorem Inv.qu(I:Inv X pins σ H s) (hH:H l=ζ (.lst xs)):xs.length<=ι/\∃(its:List Γ) (n:Nat),Vals xs its/\xs.length=its.length/\s.heap.get? l=ζ {cls:=.type "list",data:=.seq its.toArray n}:=by
 obtain⟨z,its,n,r,e⟩:=I.hok l _ hH;exact⟨z,its,n,r,r.length,e⟩
theorem Ni{n:Nat}(h:n<=ι):Builtin.List.listTooLong n=Δ:=by
 unfold Builtin.List.listTooLong;exact decide_eq_false (by omega)
end
section
variable {X:Cx}
def YN:V->List V->Hp->VK->Prop:=λx vs H Q=>∃l xs y,x=.ref l/\vs=[y]/\H l=ζ (.lst xs)/\xs.length<ι/\Q .aH (upd H l (.lst (xs++[y])))
theorem afa:Cg X "list.append" YN:=by
 intro pins s σ H x vs v us Q I rx rv h;obtain⟨l,xs,y,rfl,rfl,hH,hz,q⟩:=h;cases rx;obtain⟨u,rfl,ru⟩:=rv.one;obtain⟨z,its,n,r,hl,e⟩:=I.qu hH;refine aq7 F.slot_list_append ⟨_,e,rfl⟩ F.entry_list_append (F.args_list_append_2 _ _) (auj l its.toArray n u (by rw[apH];omega)) ⟨e,?_⟩
 refine⟨.aH,_,I.Ea (its':=its++[u]) hH e (by simp) (r.append (.cons ru .nil)) ?_,rfl,q⟩
 rw[ap5,List.length_singleton];omega
def YJ:V->List V->Hp->VK->Prop:=λx vs H Q=>∃l b xs zs,x=.ref l/\vs=[.ref b]/\H l=ζ (.lst xs)/\H b=ζ (.lst zs)/\xs.length+zs.length<=ι/\Q .aH (upd H l (.lst (xs++zs)))
theorem ae9:Cg X "list.extend" YJ:=by
 intro pins s σ H x vs v us Q I rx rv h;obtain⟨l,b,xs,zs,rfl,rfl,hH,hB,hz,q⟩:=h;cases rx;obtain⟨u,rfl,ru⟩:=rv.one;cases ru;obtain⟨z,its,n,r,hl,e⟩:=I.qu hH;obtain⟨z2,its2,n2,r2,hl2,e2⟩:=I.qu hB;have hsz:its.toArray.size+its2.toArray.size<=ι:=by rw[apH,apH];omega
 have Gx:¬(!its.toArray.isEmpty&&Builtin.List.listTooLong (its.toArray.size+its2.toArray.size))=ξ:=by
  rw[Ni hsz,asU];exact apP
 refine aq7 F.slot_list_extend ⟨_,e,rfl⟩ F.entry_list_extend (F.args_list_extend_2 _ _)
  (AutoSeq1.list_extend_list_list_0 l its.toArray n b its2.toArray n2 Gx (by rw[apH];omega) (by omega)) ⟨e,e2,?_⟩
 refine⟨.aH,_,I.Ea (its':=its++its2) hH e (by simp) (r.append r2) ?_,rfl,q⟩
 rw[ap5];omega
def YA:V->List V->Hp->VK->Prop:=λx vs H Q=>∃l xs i k y,x=.ref l/\vs=[.int i]/\H l=ζ (.lst xs)/\-(2^63)<=i/\i<2^63/\seqIndex? i xs.length=ζ k/\xs[k]? = ζ y/\Q y (upd H l (.lst (xs.eraseIdx k)))
theorem ae7:Cg X "list.pop" YA:=by
 intro pins s σ H x vs v us Q I rx rv h;obtain⟨l,xs,i,k,y,rfl,rfl,hH,h1,h2,hk,hy,q⟩:=h;cases rx;obtain⟨u,rfl,ru⟩:=rv.one;obtain⟨t,rfl⟩:=ru;obtain⟨z,its,n,r,hl,e⟩:=I.qu hH;obtain⟨w,hw,rw'⟩:=r.get hy;refine aq7 F.slot_list_pop ⟨_,e,rfl⟩ F.entry_list_pop (F.args_list_pop_2 _ _)
  (MeetsSeq.list_pop_at l its.toArray n i t k w (fitsIndex_both h1 h2) (by rw[apH,<-hl];exact hk) (by rw[<-ap2];exact hw) (by rw[apH];omega)) ⟨e,?_⟩
 refine⟨y,_,I.Ea (its':=its.eraseIdx k) hH e ?_ (r.eraseIdx k) ?_,rw',q⟩
 ·show its.toArray.eraseIdxIfInBounds k=(its.eraseIdx k).toArray;rw[List.eraseIdxIfInBounds_toArray]
 ·have:=N6 xs k;omega
def YM:R2:=λx y H Q=>∃l b xs zs,x=.ref l/\y=.ref b/\H l=ζ (.lst xs)/\H b=ζ (.lst zs)/\xs.length+zs.length<=ι/\∀p,H p=η->Q (.ref p) (upd H p (.lst (xs++zs)))
theorem abC:bW X (binaryOp .Add) YM:=by
 intro pins s σ H x y v u Q I rx ry h;obtain⟨l,b,xs,zs,rfl,rfl,hH,hB,hz,q⟩:=h;cases rx;cases ry;obtain⟨z,its,n,r,hl,e⟩:=I.qu hH;obtain⟨z2,its2,n2,r2,hl2,e2⟩:=I.qu hB;refine PySem.P.add_list e e2 ?_ (by rw[apH,apH];omega)
 have ea:its.toArray++its2.toArray=(its++its2).toArray:=by simp
 rw[ea];exact⟨.ref _,_,I.N3 (t':=s.toks) (r.append r2) (by rw[ap5];omega),rfl,q _ I.fresh⟩
def Yz:R2:=λx y H Q=>∃l k xs,x=.ref l/\y=.int k/\H l=ζ (.lst xs)/\-(2^63)<=k/\k<2^63/\xs.length*k.toNat<=ι /\
 ∀p,H p=η->Q (.ref p) (upd H p (.lst (π k.toNat xs).flatten))
theorem len_rep{α:Type}(xs:List α) (k:Nat):(π k xs).flatten.length=k*xs.length:=by
 induction k with
 |zero=>simp
 |succ k ih=>rw[aqK,aqU,ap5,ih,aqx,arP]
theorem abo:bW X (binaryOp .Mult) Yz:=by
 intro pins s σ H x y v u Q I rx ry h;obtain⟨l,k,xs,rfl,rfl,hH,h1,h2,hz,q⟩:=h;cases rx;obtain⟨t,rfl⟩:=ry;obtain⟨z,its,n,r,hl,e⟩:=I.qu hH;have hlen:its.toArray.size*k.toNat<=ι:=by rw[apH,<-hl];exact hz
 have hcap:¬its.toArray.size*k.toNat>(2^63-1)/8:=by
  have:(ι:Nat)<=(2^63-1)/8:=by decide
  omega
 have hfit:¬(!Builtin.List.listFitsIndex k)=ξ:=by
  rw[fitsIndex_both h1 h2];exact apP
 have Gx:¬Builtin.List.listTooLong (its.toArray.size*k.toNat)=ξ:=by
  rw[Ni hlen];exact apP
 have hnew:List.foldl (λx1 x2=>x1++x2) #[] (π (if its.toArray.isEmpty=ξ then 0 else k.toNat) its.toArray)=(π k.toNat its).flatten.toArray:=by
  have f0:∀m:Nat,List.foldl (λx1 x2=>x1++x2) #[] (π m its.toArray)=(π m its).flatten.toArray:=λm=>by
   have:=foldl_rep its m [];rw[apS]at this;exact this
  rw[f0];cases its with
  |nil=>simp
  |cons a r'=>rw[if_neg (by simp)]
 refine wpAny_binaryOp_repeat_ref (T:="list") (U:="int") (by decide) ⟨_,e,rfl⟩ (λs'=>typeIs_int s' k t) noFill_list_mul F.fills_int_mul F.slot_int_rmul repeat_list F.slot_int_index.lookup
  (aq7 F.slot_int_rmul (typeIs_int s k t) F.entry_int_rmul (F.args_int_rmul_2 _ _) (int___rmul___int_list k t l its.toArray n)
   ⟨e,rfl,⟨_,e,rfl⟩,aq7 F.slot_list_mul ⟨_,e,rfl⟩ F.entry_list_mul (F.args_list_mul_2 _ _) (AutoListH.list___mul___list_int_3 l its.toArray n k t hfit hcap Gx) ⟨e,?_⟩⟩)
 rw[hnew];exact⟨.ref _,_,I.N3 (t':=s.toks) (r.rep k.toNat) (by rw[len_rep,arQ];exact hz),rfl,q _ I.fresh⟩
end
section
variable {prog:υ}{w:ψ}{A:acr}{E:Γ->ε->Prop}{s:ε}
set_option maxRecDepth 100000 in
end
end L2
namespace Th
open PySem PySem.W PySem.Calls PyProof.Rows
theorem agW{P:Params}{h:χ}:∀(ns:List Int) (vs:List Γ),WellAll P h vs (ns.map WData.int)->ag5 vs ns:=by
 intro ns
 induction ns with
 |nil =>
  intro vs w;rw[asV]at w;cases w;exact .nil
 |cons n ns ih =>
  intro vs w;rw[apE]at w;cases w with
  |cons a b =>
   cases a;exact .cons _ _ (ih _ b)
theorem Xu{l:OpenLaw}{n:Nat}(hn:l.most=ζ n) {P:Params}{h:χ}{args:List WData}{vals:List Γ}
  (hpre:l.row.toRowW.claim.pre args=ξ) (hwl:WellAll P h vals args) :
  ∃a vs ns,vals=[Value.ref a]/\args=[WData.list (ns.map WData.int)]/\h.get? a=ζ {cls:=.type "list",data:=.seq vs.toArray}/\ag5 vs ns/\ns.length<=n:=by
 have hsh:WShape.hasAll [] args [.list .int]=ξ:=(pre_splitW hpre).1;have hc:l.pre.holds [] {args:=args}=ξ:=(pre_splitW hpre).2;obtain⟨d,r,rfl,h1,h2⟩:=hasAllW_cons hsh;obtain rfl:=hasAllW_nil h2;obtain⟨xs,rfl,h3⟩:=hasW_list h1;obtain⟨ns,rfl⟩:=items_int h3;have hlen:ns.length<=n:=by
  unfold OpenLaw.pre at hc;have h4:(WTm.not (.lt (.lit (.int (n:Int))) (.len (.arg 0)))).holds [] {args:=[.list (ns.map .int)]}=ξ:=by
   have h4:=(holds_andW hc).1;rw[hn]at h4;exact h4
  have h5:=condW_of h4 (w_not (w_lt w_lit (w_len_list (w_arg rfl))));rw[apC]at h5;refine auk λq=>?_
  have q':(n:Int)<((ns.length:Nat):Int):=by omega
  first
   |(rw[decide_eq_true q']at h5;exact absurd h5 (by decide))
   |(simp at h5;omega)
 cases hwl with
 |cons w1 w2 =>
  cases w2;cases w1 with
  |list ho hall=>exact⟨_,_,ns,rfl,rfl,ho,agW ns _ hall,hlen⟩
theorem Zu(l:OpenLaw) (args:List WData):l.row.toRowW.claim.post args (.bool ξ) args=ξ :=
 postW_of (r:=l.row.toRowW) (X:=(ξ==ξ))
  (show WShape.has [] (.bool ξ) .bool=ξ by first|rfl|decide|simp[WShape.has,WShape.arms,WShape.armsAll])
  (show(WTm.eq .res (.lit (.bool ξ))).value [] {args:=args,res:=ζ (.bool ξ),after:=args}=ζ (.bool (ξ==ξ))from w_eq_bool (w_res rfl) w_lit) rfl
theorem al6{l:OpenLaw}{n:Nat}{q:υ}{loose:List Str}{XP:(Str->Option Γ)->χ->Prop}{YP:ψ->χ->Prop}{d:DefRec}
  (hn:l.most=ζ n) (hdf:d.params.defaults=[])
  (call:∀(w:ψ) (s₀ s₁:ε) (mg mb:Str->Option Γ) (fa:Θ) (o:Obj) (pm cd doc:Γ) (a:Θ) (vs:List Γ) (ns:List Int),
   Ground q loose [] XP w s₀ mg mb s₁.heap->YP w s₁.heap ->
   s₁.heap.get? fa=ζ o->o.data=.func (docDef d.name d.params d.body d.scope pm cd doc)->s₁.heap.CodeRec cd d.name->mg d.name=ζ (.ref fa) ->
   s₁.heap.get? a=ζ {cls:=.type "list",data:=.seq vs.toArray}->ag5 vs ns->ns.length<=n->s₁.gens=#[] ->
   codeAny (model l.prog w) callerA (.call (.ref fa) ⟨[.ref a],[]⟩) (λr s'=>r=.ok (.ret (.bool ξ))/\OldK s₁.heap s'.heap/\s'.os=s₁.os/\ahk s'.gens) s₁) :
  WalkO q loose XP YP l.row.toRowW d [] (λf vs=>PySem.call f vs):=by
 intro w s₀ s₁ mg mb G Y fa o pm cd doc dV kV ho hd hcd hD hmg hg args vals as hpre hlay hrd hwl hlo;obtain rfl:dV=.none:=Dflts.none hD hdf;obtain rfl:kV=.none:=Dflts.noKw hD;obtain⟨a,vs,ns,rfl,rfl,hobj,hints,hlen⟩:=Xu hn hpre hwl;refine enter_call (aqt (call w s₀ s₁ mg mb fa o pm cd doc a vs ns G Y ho (fd_plain hd) hcd hmg hobj hints hlen hg) λr s' hq=>?_)
 obtain⟨rfl,h2,h3,h4⟩:=hq;exact⟨.inl ⟨.bool ξ,.bool ξ,[],rfl,λ_=>rfl,.bool ξ,Zu l _,λ_=>⟨List.Pairwise.nil,λ_ hm=>(nomatch hm)⟩⟩,h2,h3,h4⟩
end Th
namespace L2
open PySem PySem.Spec PyProof.Rows
theorem KY:∀{vs:List Γ}{ns:List Int},ag5 vs ns->Vals (ns.map V.int) vs
 |_,_,.nil=>.nil
 |_,_,.cons n t h=>.cons ⟨t,rfl⟩ (KY h)
def cz(s:ad4):ahe:=match s with
 |.FunctionDef _ a _ _ _ _ _ _ _ _=>a
 |_=>{posonlyargs:=[],args:=[],vararg:=η,kwonlyargs:=[],kw_defaults:=[],kwarg:=η,defaults:=[]}
def bY(s:ad4):List ad4:=match s with
 |.FunctionDef _ _ b _ _ _ _ _ _ _=>b
 |_=>[]
def aP(s:ad4):aeB:=match s with
 |.FunctionDef _ _ _ _ _ _ sc _ _ _=>sc
 |_=>{kind:=.function,names:=[],isGenerator:=Δ,isCoroutine:=Δ}
abbrev bB:pO:=λ_ _ _ _ _ _=>False
abbrev E0:XK:=λ_ _ _=>False
theorem abe{X:Cx}:Passes bB X E0:=λ_ _ _ _ _ _ _ h=>h.elim
structure nI (K:Ω) (x qual:Str) (st:ad4) (f:Θ) (fd:ν):Prop where
 ex:∃(oc:Γ) (od:Option Θ) (kV doc pm:Γ) (an:Option Θ) (cdv ct:Γ) (osl:Array (Option Γ)),
  fd=PySem.W.fnOf x qual (cz st) (bY st) (aP st) .none kV doc pm an cdv ct/\K.lookup f=ζ ⟨oc,od,.func fd,osl⟩/\PySem.W.codeIn K cdv qual=ξ
 kp:PySem.W.keepIn K (.ref f)=ξ
section
variable {P:υ}{w:ψ}{K:Ω}{mg:Str->Option Γ}{base:χ}
theorem nI.ok{x qual:Str}{st:ad4}{f:Θ}{fd:ν}{N ps:List Str}{k:Nat}{sp:Sp}(F:nI K x qual st f fd) (S:cj N ps (aP st)) (len:∀vs H Q E,sp vs H Q E->vs.length=ps.length)
  (hbody:∀(cdv:Γ) (A:acr) (outer:List Env) (s:ε) (H:Hp) (vs:List V) (Q:VK) (E:XK),dg k (A.deeper (envOfC qual (aP st) s.heap.objs.size f cdv))->sp vs H Q E ->
   ∃t,gA (kY bB P w K mg base N qual (aP st) f cdv A outer s H E).lJ (bY st) t/\t {nx:=λ_ H'=>Q .aH H',rt:=Q} (start N vs) H):bH P w K mg base bB (k+1) f fd ps sp:=by
 obtain⟨oc,od,kV,doc,pm,an,cdv,ct,osl,rfl,lk,hcd⟩:=F.ex;refine PV lk hcd S len λA outer s H vs Q E hr kU=>?_
 obtain⟨t,h,q⟩:=hbody cdv A outer s H vs Q E hr kU;exact⟨t,h.lJ,q⟩
theorem nI.binds{x qual:Str}{st:ad4}{f:Θ}{fd:ν}{ps:List Str}(F:nI K x qual st f fd)
  (h:∀(kV doc pm:Γ) (an:Option Θ) (cdv ct:Γ) (us:List Γ),us.length=ps.length->bindArgs (PySem.W.fnOf x qual (cz st) (bY st) (aP st) .none kV doc pm an cdv ct) ⟨us,[]⟩=pure (ps.zip us)):Binds K fd ps []:=by
 obtain⟨oc,od,kV,doc,pm,an,cdv,ct,osl,rfl,lk,hcd⟩:=F.ex;exact .all (h kV doc pm an cdv ct)
theorem cI{x qual:Str}{st:ad4}{f:Θ}{oc:Γ}{od an:Option Θ}{osl:Array (Option Γ)}{kV doc pm cdv ct:Γ}(l:K.lookup f=ζ ⟨oc,od,.func (PySem.W.fnOf x qual (cz st) (bY st) (aP st) .none kV doc pm an cdv ct),osl⟩)
  (c:PySem.W.codeIn K cdv qual=ξ) (k:PySem.W.keepIn K (.ref f)=ξ):nI K x qual st f (PySem.W.fnOf x qual (cz st) (bY st) (aP st) .none kV doc pm an cdv ct):=⟨⟨oc,od,kV,doc,pm,an,cdv,ct,osl,rfl,l,c⟩,k⟩
end
theorem ahh{A:acr}{k:Nat}(hr:dg k A):A.units+1<ahl:=aqL (Nat.add_le_add_left (by decide:1<=64) _) hr.units
theorem lX{A B:Prop}(h:B):if Δ=ξ then A else B:=by
 rw[if_neg apP];exact h
theorem lW{A B:Prop}(h:A):if ξ=ξ then A else B:=by
 rw[if_pos rfl];exact h
def fX(X:Cx) (N':List Str) (scope:aeB) (cl:List (Str×Θ)) (C:Θ) (s₀:ε) (H₀:Hp) (ex:List Θ) (pn:List (Θ×Obj)):Cx where
 prog:=X.prog
 w:=X.w
 K:=X.K
 mg:=X.mg
 base:=X.base
 A:=X.A
 N:=N'
 s₀:=s₀
 H₀:=H₀
 env:=compEnvC scope cl C X.env
 outer:=X.stack
 stack:=X.stack
 ex:=ex
 fn:=λx=>scope.names.lookup x==ζ NameKind.cell
 calm:=X.calm
 pn:=pn
 xe:=λ_ _=>False
structure cC (X:Cx) (N':List Str) (pick:List (Option Nat)) (scope:aeB):Prop where
 kind:scope.kind=.function
 nd:N'.Nodup
 names:∀x∈scope.names,x.2=.local->scope.names.lookup x.1=ζ .local
 uniq:(scope.names.map (·.1)).Nodup
 len:pick.length=N'.length
 got:∀(i j:Nat) (x:Str),pick[i]? = ζ (ζ j)->N'[i]? = ζ x->scope.names.lookup x=ζ .free/\X.N[j]? = ζ x
 free:∀x∈scope.names,x.2=.free->X.env.kindOf x.1=ζ .cell\/X.env.kindOf x.1=ζ .free
def lB(pick:List (Option Nat)) (σ:St):St:=pick.map λo=>o.bind λj=>(σ[j]?).bind id
def rB(X:Cx) (ifs:List ο) (t:TT):Prop :=
 ∀(pins:List (Θ×Obj)) (s:ε) (σ:St) (H:Hp) (Q:Bool->Hp->Prop),Inv X pins σ H s->t σ H Q ->
  wpAny (model X.prog X.w) X.A (forIn ifs ξ λc r=>if r=ξ then do let ok <-isTrue c X.env (eval c X.env);pure (ForInStep.yield ok)else pure (ForInStep.yield r)) (TP X pins σ Q) X.xe s
def U5:TT:=λ_ H Q=>Q ξ H
theorem aan{X:Cx}:rB X [] U5:=λpins s σ H Q I h=>wpAny_tests_nil ⟨H,I,h⟩
theorem aam{X:Cx}{c:ο}{t:TT}(h:PT X c t):rB X [c] t:=λpins s σ H Q I q=>wpAny_tests_one (h pins s σ H Q I q)
def Tf(J:It) (g:TG) (tt:TT) (te:TE) (Q:VK) (σ:St) (H:Hp):Prop:=∃W:Nat->Nat->St->List V->Hp->Prop,(∃m,W 0 m σ [] H) /\
  ∀i m σ' ys H,W i m σ' ys H->ys.length<ι /\
    ((J.stop i H/\∀p,H p=η->Q (.ref p) (upd H p (.lst ys))) \/
     (J.go i H/\∃N:St->List V->Hp->Prop,(∀σ2 zs H2,N σ2 zs H2->∃m',m'<m/\W (i+1) m' σ2 zs H2)/\∀x H',J.vQ i H x H'->g x σ' H' λσ2 H2=>tt σ2 H2 λb H3 =>
        if b=ξ then te σ2 H3 λy H4=>N σ2 (ys++[y]) H4 else N σ2 ys H3))
def CY(wi:TI) (pick:List (Option Nat)) (g:TG) (tt:TT) (te:TE):TE:=λσ H Q=>wi σ H λJ H1=>Tf J g tt te Q (lB pick σ) H1
def gb(env:Env):List (Str×adT)->List (Str×Θ)->List (Str×Θ)
 |[],acc=>acc
 |(n,k)::r,acc=>gb env r (if(k==NameKind.free)=ξ then(n,(env.cells.lookup n).getD 0)::acc else acc)
theorem B9{env:Env}:∀(names:List (Str×adT)) (acc:List (Str×Θ)),(∀x∈names,x.2=.free->∃c,env.cells.lookup x.1=ζ c) ->
  (forIn names acc fun(x:Str×adT) cs=>(if(x.2==NameKind.free)=ξ then do let a <-cellOf env x.1;pure (ForInStep.yield ((x.1,a)::cs))else pure (ForInStep.yield cs):Sem (ForInStep (List (Str×Θ)))))=pure (gb env names acc)
 |[],acc,_=>rfl
 |(n,k)::r,acc,h=>by
  rw[arl]
  by_cases hk:(k==NameKind.free)=ξ
  ·obtain⟨c,hc⟩:=h (n,k) aqg (by simpa using hk)
   have e1:cellOf env n=pure c:=by unfold cellOf;rw[show env.cells.lookup n=ζ c from hc]
   simp only[hk,if_true,e1,pure_bind];rw[B9 r _ λx hx=>h x (ap7 _ hx)]
   show _=pure (gb env r (if(k==NameKind.free)=ξ then _ else _))
   rw[if_pos hk,show env.cells.lookup n=ζ c from hc]
   rfl
  ·simp only[hk,apX,if_false,pure_bind];rw[B9 r _ λx hx=>h x (ap7 _ hx)]
   show _=pure (gb env r (if(k==NameKind.free)=ξ then _ else _))
   rw[if_neg hk]
theorem J8{env:Env}{x:Str}{c:Θ}:∀(names:List (Str×adT)) (acc:List (Str×Θ)),(gb env names acc).lookup x=ζ c ->
  ((x,NameKind.free)∈names/\c=(env.cells.lookup x).getD 0)\/acc.lookup x=ζ c
 |[],acc,h=>.inr h
 |(n,k)::r,acc,h=>by
  unfold gb at h
  rcases J8 r _ h with⟨a,b⟩|q
  ·exact .inl ⟨ap7 _ a,b⟩
  ·by_cases hk:(k==NameKind.free)=ξ
   ·rw[if_pos hk,ap6]at q;cases hx:x==n with
    |true =>
     rw[hx]at q;have e1:x=n:=by simpa using hx
     have e2:k=.free:=by simpa using hk
     subst e1;subst e2;exact .inl ⟨aqg,(apQ q).symm⟩
    |false=>rw[hx]at q;exact .inr q
   ·rw[if_neg hk]at q;exact .inr q
theorem J9{env:Env}{x:Str}:∀(names:List (Str×adT)) (acc:List (Str×Θ)),(acc.lookup x).isSome=ξ\/(x,NameKind.free)∈names->((gb env names acc).lookup x).isSome=ξ
 |[],acc,h=>h.elim id λz=>by cases z
 |(n,k)::r,acc,h=>by
  unfold gb;refine J9 r _ ?_
  by_cases hk:(k==NameKind.free)=ξ
  ·rw[if_pos hk,ap6];cases hx:x==n with
   |true=>exact .inl rfl
   |false =>
    refine h.imp id λz=>?_
    rcases apu.mp z with e|z
    ·exact absurd (show(x==n)=ξ by cases e;simp) (by rw[hx];simp)
    ·exact z
  ·rw[if_neg hk];refine h.imp id λz=>?_
   rcases apu.mp z with e|z
   ·exact absurd (show(k==NameKind.free)=ξ by cases e;rfl) hk
   ·exact z
theorem IV{x:Str}{c:Θ}:∀(names:List (Str×adT)) (n:Nat) (acc:List (Str×Θ)),(cellsFrom n names acc).lookup x=ζ c->(n<=c/\(x,NameKind.cell)∈names)\/acc.lookup x=ζ c
 |[],_,_,h=>.inr h
 |(y,k)::r,n,acc,h=>by
  unfold cellsFrom at h
  by_cases hk:(k==NameKind.cell)=ξ
  ·rw[if_pos hk]at h
   rcases IV r _ _ h with⟨a,b⟩|q
   ·exact .inl ⟨apW (ark _) a,ap7 _ b⟩
   ·rw[ap6]at q;cases hx:x==y with
    |true =>
     rw[hx]at q;have e1:x=y:=by simpa using hx
     have e2:k=.cell:=by simpa using hk
     subst e1;subst e2;exact .inl ⟨aqM (apQ q),aqg⟩
    |false=>rw[hx]at q;exact .inr q
  ·rw[if_neg hk]at h
   rcases IV r _ _ h with⟨a,b⟩|q
   ·exact .inl ⟨a,ap7 _ b⟩
   ·exact .inr q
theorem IU:∀(names:List (Str×adT)) (n:Nat) (acc:List (Str×Θ)),(∀x y c,acc.lookup x=ζ c->acc.lookup y=ζ c->x=y)->(∀x c,acc.lookup x=ζ c->c<n) ->
  ∀x y c,(cellsFrom n names acc).lookup x=ζ c->(cellsFrom n names acc).lookup y=ζ c->x=y
 |[],_,_,hi,_,x,y,c,h1,h2=>hi x y c h1 h2
 |(z,k)::r,n,acc,hi,hl,x,y,c,h1,h2=>by
  unfold cellsFrom at h1 h2
  by_cases hk:(k==NameKind.cell)=ξ
  ·rw[if_pos hk]at h1 h2;refine IU r (n+1) ((z,n)::acc) (λx y c e1 e2=>?_) (λx c e=>?_) x y c h1 h2
   ·rw[ap6]at e1 e2;cases hx:x==z with
    |true =>
     rw[hx]at e1;cases hy:y==z with
     |true=>exact(by simpa using hx:x=z).trans (by simpa using hy:y=z).symm
     |false =>
      rw[hy]at e2;have e3:n=c:=apQ e1;exact absurd (e3▸hl y c e2) (aqd _)
    |false =>
     rw[hx]at e1;cases hy:y==z with
     |true =>
      rw[hy]at e2;have e3:n=c:=apQ e2;exact absurd (e3▸hl x c e1) (aqd _)
     |false=>rw[hy]at e2;exact hi x y c e1 e2
   ·rw[ap6]at e;cases hx:x==z with
    |true=>rw[hx]at e;have e3:n=c:=apQ e;exact e3▸aqp n
    |false=>rw[hx]at e;exact aqC (hl x c e)
  ·rw[if_neg hk]at h1 h2;exact IU r n acc hi hl x y c h1 h2
theorem IW{x:Str}{c:Θ}:∀(names:List (Str×adT)) (h:χ) (acc:List (Str×Θ)),(cellsFrom h.objs.size names acc).lookup x=ζ c->acc.lookup x=ζ c\/(h.objs.size<=c/\(pushCells h names).IsCell c η)
 |[],_,_,e=>.inl e
 |(y,k)::r,h,acc,e=>by
  unfold cellsFrom at e;unfold pushCells
  by_cases hk:(k==NameKind.cell)=ξ
  ·rw[if_pos hk]at e ⊢;have e':=e;rw[show h.objs.size+1=(h.push {cls:=.type "cell",data:=.cell η}).objs.size from(apY ..).symm]at e'
   rcases IW r _ _ e' with q|⟨a,q⟩
   ·rw[ap6]at q;cases hx:x==y with
    |true =>
     rw[hx]at q;have e3:h.objs.size=c:=apQ q;subst e3;exact .inr ⟨aps _,_,asW _ _ _ _ (apF _ rfl),rfl⟩
    |false=>rw[hx]at q;exact .inl q
   ·refine .inr ⟨?_,q⟩;rw[apY]at a;omega
  ·rw[if_neg hk]at e ⊢;exact IW r h acc e
theorem Ua{M:Model}{A:acr}{E:Γ->ε->Prop}{s:ε}{scope:aeB}{globals:Θ}{cl:List (Str×Θ)}{qual:Str}{env:Env}{Q:Env->ε->Prop}
  (hQ:∀h',(∀b o,s.heap.get? b=ζ o->h'.get? b=ζ o)->h'.Ns s.heap.objs.size (λ_=>η) ->
   (∀x c,(cellsFrom (s.heap.objs.size+1) scope.names cl).lookup x=ζ c->cl.lookup x=ζ c\/(s.heap.objs.size<c/\h'.IsCell c η)) ->
   Q {scope,locals:=s.heap.objs.size,globals,cells:=cellsFrom (s.heap.objs.size+1) scope.names cl,qual,func:=η,code:=env.code,frame:=env.frame,builtins:=env.builtins} {s with heap:=h'}) :
  wpAny M A (newFunctionEnv scope globals cl [] qual η .none (ζ env)) Q E s:=by
 simp only[newFunctionEnv,Option.isSome_some,if_true];refine apq (wpAny_alloc ?_);refine apq (wpAny_layCells _ (λname kind cells=>by cases hkc:kind==NameKind.cell<;>simp[hkc]) _ _ _ _ ?_)
 rw[show({s with heap:=s.heap.push {cls:=.type "dict",data:=.dict #[]} }:ε).heap.objs.size=s.heap.objs.size+1 from apY ..]
 refine apq (apr (apr ?_));refine hQ _ (λb o e=>asW _ _ b o (apt _ e)) ((Heap.Ns.new s.heap (.type "dict")).keeps (asW _ _)) λx c e=>?_
 have e':=e;rw[show s.heap.objs.size+1=(s.heap.push {cls:=.type "dict",data:=.dict #[]}).objs.size from(apY ..).symm]at e'
 rcases IW scope.names (s.heap.push {cls:=.type "dict",data:=.dict #[]}) cl e' with q|⟨a,q⟩
 ·exact .inl q
 ·refine .inr ⟨?_,q⟩;rw[apY]at a;omega
theorem zE{env:Env}{x:Str}{k':adT}:∀{names:List (Str×adT)},(names.map fun(n,k)=>if(k==NameKind.free&&env.scope.kind == .function&&env.kindOf n==ζ .cell)then(n,NameKind.cell)else(n,k)).lookup x=ζ k' ->
  ∃k,names.lookup x=ζ k/\(k'=k\/(k=.free/\k'=.cell))
 |[],h=>by cases h
 |(n,k)::r,h=>by
  rw[apE]at h
  by_cases hc:(k==NameKind.free&&env.scope.kind == .function&&env.kindOf n==ζ .cell)=ξ
  ·have e:(match((n,k):Str×adT)with|(n,k)=>if(k==NameKind.free&&env.scope.kind == .function&&env.kindOf n==ζ .cell)then(n,NameKind.cell)else(n,k))=(n,NameKind.cell):=if_pos hc
   rw[e,ap6]at h;rw[ap6];cases hx:x==n with
   |true =>
    rw[hx]at h;have hk:k=.free:=by
     simp only[apN]at hc
     simpa using hc.1.1
    exact⟨k,rfl,.inr ⟨hk,(apQ h).symm⟩⟩
   |false=>rw[hx]at h;exact zE h
  ·have e:(match((n,k):Str×adT)with|(n,k)=>if(k==NameKind.free&&env.scope.kind == .function&&env.kindOf n==ζ .cell)then(n,NameKind.cell)else(n,k))=(n,k):=if_neg hc
   rw[e,ap6]at h;rw[ap6];cases hx:x==n with
   |true=>rw[hx]at h;exact⟨k,rfl,.inl (apQ h).symm⟩
   |false=>rw[hx]at h;exact zE h
theorem Dp{env:Env}{x:Str}{k:adT}:∀{names:List (Str×adT)},names.lookup x=ζ k ->
  ∃k',(names.map fun(n,k)=>if(k==NameKind.free&&env.scope.kind == .function&&env.kindOf n==ζ .cell)then(n,NameKind.cell)else(n,k)).lookup x=ζ k'/\(k'=k\/(k=.free/\k'=.cell))
 |[],h=>by cases h
 |(n,j)::r,h=>by
  rw[apE];rw[ap6]at h
  by_cases hc:(j==NameKind.free&&env.scope.kind == .function&&env.kindOf n==ζ .cell)=ξ
  ·have e:(match((n,j):Str×adT)with|(n,k)=>if(k==NameKind.free&&env.scope.kind == .function&&env.kindOf n==ζ .cell)then(n,NameKind.cell)else(n,k))=(n,NameKind.cell):=if_pos hc
   rw[e,ap6];cases hx:x==n with
   |true =>
    rw[hx]at h;have hk:j=.free:=by
     simp only[apN]at hc
     simpa using hc.1.1
    exact⟨.cell,rfl,.inr ⟨(apQ h).symm.trans hk,rfl⟩⟩
   |false=>rw[hx]at h;exact Dp h
  ·have e:(match((n,j):Str×adT)with|(n,k)=>if(k==NameKind.free&&env.scope.kind == .function&&env.kindOf n==ζ .cell)then(n,NameKind.cell)else(n,k))=(n,j):=if_neg hc
   rw[e,ap6];cases hx:x==n with
   |true=>rw[hx]at h;exact⟨j,rfl,.inl (apQ h)⟩
   |false=>rw[hx]at h;exact Dp h
theorem Eb{x:Str}{k:adT}:∀{names:List (Str×adT)},(names.map (·.1)).Nodup->(x,k)∈names->names.lookup x=ζ k
 |[],_,h=>by cases h
 |(n,j)::r,nd,h=>by
  have nd:(n::r.map (·.1)).Nodup:=nd;obtain⟨n1,n2⟩:=aqu.mp nd;rw[ap6]
  rcases apu.mp h with e|h2
  ·cases e;simp
  ·have hx:(x==n)=Δ:=by
    have:x≠n:=by
     intro e;exact n1 (apv.mpr ⟨(x,k),h2,e⟩)
    simpa using this
   rw[hx];exact Eb n2 h2
theorem aln{prog:υ}{w:ψ}{A:acr}{R:Result->ε->Prop}{s:ε}{elt target iter:ο}{ifs:List ο}{scope:aeB}{pos:Pos}{it acc:Γ}{env:Env}(I:Nat->ε->Prop)
  (turn:∀n s,I n s->wpAny (model prog w) A (pyNext it) (λr s₁=>match r with
   |none=>R (.ok .next) s₁
   |some v=>wpAny (model prog w) A (letOwnedTupleGo target it v) (λ_ s₁'=>wpAny (model prog w) A (assign target env v) (λ_ s₂ =>
     wpAny (model prog w) A (forIn ifs ξ λc r=>if r=ξ then do let ok <-isTrue c env (eval c env);pure (ForInStep.yield ok)else pure (ForInStep.yield r)) (λok s₃ =>
      if ok=ξ then wpAny (model prog w) A (eval elt env) (λx s₄ =>
       wpAny (model prog w) A (call (.builtin "list.append") [acc,x]) (λ_ s₅=>∃m,m<n/\I m s₅) (λ_ _=>False) s₄) (λ_ _=>False) s₃
      else ∃m,m<n/\I m s₃) (λ_ _=>False) s₂) (λ_ _=>False) s₁') (λ_ _=>False) s₁) (λ_ _=>False) s)
  (n:Nat) (h:I n s) :
  codeAny (model prog w) A (.compLoop (.ListComp elt [⟨target,iter,ifs,0⟩] scope pos) 0 it acc env) R s:=by
 refine codeAny_loop rfl I (λn s hI=>?_) n h
 show wpAny _ A ((compTurn (.ListComp elt [⟨target,iter,ifs,0⟩] scope pos) 0 it acc env).onRaise (λx=>do noteFrame x env;theTreesLotGoes x)) _ _ s
 refine wpAny_noted ?_;rw[compTurn_list];refine apq (asP (apq (ap4 (turn n s hI) (λr s₁ h₁=>?_) λ_ _ h'=>h'.elim)))
 cases r with
 |none=>exact apr h₁
 |some v =>
  refine apq (ap4 h₁ (λ_ s₁' h₁'=>?_) λ_ _ h'=>h'.elim)
  refine apq (ap4 h₁' (λ_ s₂ h₂=>apq (ap4 h₂ (λok s₃ h₃=>?_) λ_ _ h'=>h'.elim)) λ_ _ h'=>h'.elim)
  cases ok with
  |false=>exact apr ⟨rfl,h₃⟩
  |true =>
   exact apq (apq (ap4 h₃ (λx s₄ h₄=>apq (ap4 h₄ (λ_ s₅ h₅=>apr (apr ⟨rfl,h₅⟩)) λ_ _ h'=>h'.elim)) λ_ _ h'=>h'.elim))
section
variable {X:Cx}{N':List Str}{pick:List (Option Nat)}{scope:aeB}{pins:List (Θ×Obj)}{σ:St}{H₂:Hp}{s₂:ε}{tg:ο}{J:It}{fp:List Θ}{it:Θ}{tn:Nat->χ->Prop}
theorem QE(S:cC X N' pick scope) (I:Inv X pins σ H₂ s₂):closureFor scope X.env=pure (gb X.env scope.names []):=by
 have e:=B9 (env:=X.env) scope.names [] λx hx hk=>I.ok.has x.1 (S.free x hx hk)
 show((forIn scope.names ([]:List (Str×Θ)) fun(x:Str×adT) cs=>(if(x.2==NameKind.free)=ξ then do let a <-cellOf X.env x.1;pure (ForInStep.yield ((x.1,a)::cs))else pure (ForInStep.yield cs):Sem (ForInStep (List (Str×Θ))))) >>= λcs=>pure cs)=_
 rw[e,pure_bind]
theorem yz(S:cC X N' pick scope) (I:Inv X pins σ H₂ s₂) {x:Str}{c:Θ}(h:(gb X.env scope.names []).lookup x=ζ c):(x,NameKind.free)∈scope.names/\X.env.cells.lookup x=ζ c:=by
 rcases J8 _ _ h with⟨a,b⟩|q
 ·refine⟨a,?_⟩;obtain⟨c',hc⟩:=I.ok.has x (S.free _ a rfl);rw[hc]at b ⊢;rw[b];rfl
 ·cases q
theorem yv(S:cC X N' pick scope) (I:Inv X pins σ H₂ s₂) {n:Nat}{x:Str}{c:Θ}(h:(cellsFrom n scope.names (gb X.env scope.names [])).lookup x=ζ c) :
  (n<=c/\scope.names.lookup x=ζ .cell)\/(scope.names.lookup x=ζ .free/\X.env.cells.lookup x=ζ c):=by
 rcases IV _ _ _ h with⟨a,b⟩|q
 ·exact .inl ⟨a,Eb S.uniq b⟩
 ·obtain⟨a,b⟩:=yz S I q;exact .inr ⟨Eb S.uniq a,b⟩
theorem QI(S:cC X N' pick scope) (I:Inv X pins σ H₂ s₂) {n:Nat}{x:Str}{c:Θ}(hx:scope.names.lookup x=ζ .free) (hc:X.env.cells.lookup x=ζ c) :
  (cellsFrom n scope.names (gb X.env scope.names [])).lookup x=ζ c:=by
 have h1:((gb X.env scope.names []).lookup x).isSome=ξ:=J9 _ _ (.inr (aqw hx));obtain⟨c',h2⟩:=asd.mp (asb scope.names n _ (.inr h1))
 rcases yv S I h2 with⟨_,z⟩|⟨_,z⟩
 ·rw[hx]at z;cases z
 ·rw[hc]at z;cases z;exact h2
theorem aiz(I:Inv X pins σ H₂ s₂) {b:Θ}(hb:b∈frs X.stack):b<s₂.heap.objs.size:=by
 rcases apu.mp (I.pY b hb)with e|hb
 ·rw[e];exact I.lt
 ·by_cases q:b<s₂.heap.objs.size
  ·exact q
  ·exact absurd hb (I.DN (Nat.not_lt.mp q))
theorem ali(S:cC X N' pick scope) (I:Inv X pins σ H₂ s₂) (hf:∀b∈fp,gK X pins H₂ b) (hfo:∀b∈fp,b<s₂.heap.objs.size) {n:Nat}{C:Θ}{s₄:ε}(hn:s₂.heap.objs.size<=n) (hC:s₂.heap.objs.size<=C) (hCn:C<n)
  (hos:s₄.os=s₂.os) (hge:s₄.gens=s₂.gens) (kp:∀b o,s₂.heap.get? b=ζ o->s₄.heap.get? b=ζ o) (ns:s₄.heap.Ns C λ_=>η)
  (ce:∀x c,(cellsFrom n scope.names (gb X.env scope.names [])).lookup x=ζ c->(gb X.env scope.names []).lookup x=ζ c\/(n<=c/\s₄.heap.IsCell c η)) :
  Inv (fX X N' scope (cellsFrom n scope.names (gb X.env scope.names [])) C s₂ H₂ fp (X.pn++pins)) [] (lB pick σ) H₂ s₄:=by
 have fr:∀{a:Θ},s₂.heap.objs.size<=a->H₂ a=η:=λh=>I.hok.fresh h
 have old:∀{x:Str}{c:Θ},X.env.cells.lookup x=ζ c->c<s₂.heap.objs.size:=fun{x c} e=>let⟨v,z⟩:=I.cell x c e;z.lt
 have Zv:∀p∈X.pn++pins,p.1<s₂.heap.objs.size:=λp hp=>apy (I.pin p hp).1
 refine⟨⟨I.ok.mod,S.kind,I.ok.glob,I.ok.blt,hC,?inj,?has,?pD,I.ok.hd,I.ok.frames,.inl rfl,?yg,I.bs,apW I.ok.iS I.sz,?lK,?uN,I.stack,I.CZ⟩,
  hos,by rw[hge];exact I.bare,Un.kept kp,⟨_,ns,?loc⟩,?cell,fr hC,?jf,?pin,I.hok.kept kp,?len⟩
 case inj =>
  refine IU _ _ _ (λx y c h1 h2=>?_) λx c h=>?_
  ·exact I.ok.inj x y c (yz S I h1).2 (yz S I h2).2
  ·exact apG (old (yz S I h).2) hn
 case has =>
  intro x hx;have hx:(relabel scope X.env).names.lookup x=ζ .cell\/(relabel scope X.env).names.lookup x=ζ .free:=hx;have go:∀k,scope.names.lookup x=ζ k->k=.cell\/k=.free->∃c,(cellsFrom n scope.names (gb X.env scope.names [])).lookup x=ζ c:=λk hk hq=>by
   rcases hq with rfl|rfl
   ·exact asd.mp (asb _ _ _ (.inl hk))
   ·obtain⟨c,hc⟩:=I.ok.has x (S.free _ (aqw hk) rfl);exact⟨c,QI S I hk hc⟩
  rcases hx with hx|hx
  ·obtain⟨k,hk,e|⟨e,_⟩⟩:=zE hx
   ·exact go k hk (.inl e.symm)
   ·exact go k hk (.inr e)
  ·obtain⟨k,hk,e|⟨_,e⟩⟩:=zE hx
   ·exact go k hk (.inr e.symm)
   ·cases e
 case pD =>
  intro x c hx hc;have hx:scope.names.lookup x=ζ .cell:=by simpa[fX]using hx
  rcases yv S I hc with⟨a,_⟩|⟨a,_⟩
  ·exact apW hn a
  ·rw[hx]at a;cases a
 case yg =>
  intro b hb;refine⟨apz (apG (hfo b hb) hC),λx c hc=>?_⟩
  rcases yv S I hc with⟨a,_⟩|⟨_,a⟩
  ·exact aqe (apG (hfo b hb) (apW hn a))
  ·exact(hf b hb).2.2.2.2.1 x c a
 case lK =>
  intro b o e hb
  rcases(hf b hb).2.2.2.1 with z|z
  ·exact I.ok.lK b o e z
  ·exact absurd (apG (apy e) (apW I.ok.iS z)) (aqd _)
 case uN =>
  intro b hb hs
  rcases apu.mp (I.pY b hs)with e|e
  ·exact(hf b hb).2.1 e
  ·exact(hf b hb).2.2.1 e
 case loc =>
  intro i x v h1 h2 h3;have h1:N'[i]? = ζ x:=h1;have hp:∃j,pick[i]? = ζ (ζ j)/\σ[j]? = ζ (ζ v):=by
   unfold lB at h2;rw[apM]at h2;cases e:pick[i]? with
   |none=>rw[e]at h2;cases h2
   |some o =>
    rw[e]at h2;cases o with
    |none=>cases h2
    |some j =>
     refine⟨j,rfl,?_⟩;have h2':(σ[j]?).bind id=ζ v:=apQ h2;cases e2:σ[j]? with
     |none=>rw[e2]at h2';cases h2'
     |some q=>rw[e2]at h2';exact congrArg ζ h2'
  obtain⟨j,hj,hv⟩:=hp;obtain⟨hfr,hN⟩:=S.got i j x hj h1;have hk:=S.free _ (aqw hfr) rfl;obtain⟨m,hm,hl⟩:=I.loc;obtain⟨u,ru,lk⟩:=hl j x v hN hv (.inr hk);refine⟨u,ru,?_⟩
  rcases lk with⟨z,_⟩|⟨_,c,hc,hcell⟩
  ·rcases hk with q|q<;>(rw[show X.env.kindOf x=_ from z]at q;cases q)
  ·refine .inr ⟨?_,c,QI S I hfr hc,hcell.keeps kp⟩;show(relabel scope X.env).names.lookup x=ζ .cell\/(relabel scope X.env).names.lookup x=ζ .free;obtain⟨k',hk',e|⟨_,e⟩⟩:=Dp (env:=X.env) hfr
   ·exact .inr (by rw[<-e];exact hk')
   ·exact .inl (by rw[<-e];exact hk')
 case cell =>
  intro x c hc
  rcases ce x c hc with z|⟨_,z⟩
  ·obtain⟨v,q⟩:=I.cell x c (yz S I z).2;exact⟨v,q.keeps kp⟩
  ·exact⟨η,z⟩
 case jf =>
  intro x c hc
  rcases yv S I hc with⟨a,_⟩|⟨_,a⟩
  ·exact fr (apW hn a)
  ·exact I.jf x c a
 case pin =>
  intro p hp;have hp:p∈X.pn++pins:=by simpa[fX]using hp
  obtain⟨e,n0,ne,nf,d⟩:=I.pin p hp;refine⟨kp _ _ e,n0,apz (apG (Zv p hp) hC),λz=>?_,d⟩
  rcases apu.mp (I.pY _ z)with e|e
  ·exact ne e
  ·exact nf e
 case len =>
  unfold lB;rw[apC];exact S.len
end
section
variable {X:Cx}{N':List Str}{pick:List (Option Nat)}{scope:aeB}{pins:List (Θ×Obj)}{σ:St}{H₂:Hp}{s₂:ε}{tg:ο}{J:It}{fp:List Θ}{it:Θ}{tn:Nat->χ->Prop}
 {elt iter:ο}{ifs:List ο}{pos:Pos}{g:TG}{tt:TT}{te:TE}
theorem Qw{E:Γ->ε->Prop}{RR:Γ->Θ->Result->ε->Prop}{Qv:V->Hp->Prop}(S:cC X N' pick scope) (hc:X.calm=ξ) (jm:Inv X pins σ H₂ s₂) (T:Turn X.prog X.w X.K tg J fp it tn) (st:tn 0 s₂.heap) (hf:∀b∈fp,gK X pins H₂ b)
    (hg:∀cl C s₀ H₀ ex pn,PG (fX X N' scope cl C s₀ H₀ ex pn) tg g) (hi:∀cl C s₀ H₀ ex pn,rB (fX X N' scope cl C s₀ H₀ ex pn) ifs tt) (he:∀cl C s₀ H₀ ex pn,PE (fX X N' scope cl C s₀ H₀ ex pn) elt te)
    {W:Nat->Nat->St->List V->Hp->Prop}{m0:Nat}(h0:W 0 m0 (lB pick σ) [] H₂)
    (turn:∀i m σ' ys H,W i m σ' ys H->ys.length<ι /\
      ((J.stop i H/\∀p,H p=η->Qv (.ref p) (upd H p (.lst ys))) \/
       (J.go i H/\∃N:St->List V->Hp->Prop,(∀σ2 zs H2,N σ2 zs H2->∃m',m'<m/\W (i+1) m' σ2 zs H2)/\∀x H',J.vQ i H x H'->g x σ' H' λσ2 H2=>tt σ2 H2 λb H3 =>
          if b=ξ then te σ2 H3 λy H4=>N σ2 (ys++[y]) H4 else N σ2 ys H3)))
    (fin:∀(D C:Θ) (H':Hp) (s':ε) (m:Str->Option Γ),Inv X pins σ H' s'->gK X pins H' C->s'.heap.Ns C m->Qv (.ref D) H'->RR (.ref D) C (.ok .next) s') :
    wpAny (model X.prog X.w) X.A (newList []) (λacc s₃=>wpAny (model X.prog X.w) X.A (newFunctionEnv scope X.env.globals (gb X.env scope.names []) [] X.env.qual η .none (ζ X.env)) (λcenv s₄ =>
      codeAny (model X.prog X.w) X.A (.compStart (.ListComp elt [⟨tg,iter,ifs,0⟩] scope pos) 0 (.ref it) acc {cenv with scope:=relabel scope X.env}) (RR acc cenv.locals) s₄) E s₃) E s₂:=by
  have hfo:∀b∈fp,b<s₂.heap.objs.size:=λb hb=>let⟨o,e,_⟩:=T.obj 0 _ st b hb;apy e
  refine arn (Ua λh₄ kp ns ce=>?_)
  generalize GK:s₂.heap.push {cls:=.type "list",dict:=η,data:=.seq ([]:List Γ).toArray}=H3 at kp ns ce ⊢
  have hC:H3.objs.size=s₂.heap.objs.size+1:=by rw[<-GK,apY]
  have xM:∀b o,s₂.heap.get? b=ζ o->h₄.get? b=ζ o:=λb o e=>kp b o (GK▸apt _ e)
  have hD:h₄.get? s₂.heap.objs.size=ζ {cls:=.type "list",data:=.seq ([]:List Γ).toArray}:=kp _ _ (GK▸apF _ rfl);have oU:s₂.heap.objs.size<=H3.objs.size:=by rw[hC];exact ark _
  have hDC:s₂.heap.objs.size≠H3.objs.size:=by rw[hC];exact apz (aqp _)
  generalize hcl:cellsFrom (H3.objs.size+1) scope.names (gb X.env scope.names [])=cl at ce
  have Kl:Inv (fX X N' scope cl H3.objs.size s₂ H₂ fp (X.pn++pins)) [] (lB pick σ) H₂ {s₂ with heap:=h₄}:=by
    subst hcl;exact ali S jm hf hfo (n:=H3.objs.size+1) (apW oU (ark _)) oU (aqp _) rfl rfl xM ns λx c e=>ce x c e
  have GC:∀x c,cl.lookup x=ζ c->c≠s₂.heap.objs.size:=λx c e=>by
    subst hcl
    rcases yv S jm e with⟨a,_⟩|⟨_,a⟩
    · refine aqe (apG ?_ a)
      rw[hC];exact aqC (aqp _)
    · obtain⟨v,z⟩:=jm.cell x c a
      exact apz z.lt
  have ahY:∀x c,X.env.cells.lookup x=ζ c->c≠H3.objs.size:=λx c e=>by
    obtain⟨v,z⟩:=jm.cell x c e;exact apz (apG z.lt oU)
  generalize gC:fX X N' scope cl H3.objs.size s₂ H₂ fp (X.pn++pins)=X' at Kl
  have y9:X'.prog=X.prog:=by subst gC;rfl
  have xw:X'.w=X.w:=by subst gC;rfl
  have xK:X'.K=X.K:=by subst gC;rfl
  have xA:X'.A=X.A:=by subst gC;rfl
  have KA:X'.calm=ξ:=by subst gC;exact hc
  have za:X'.env.locals=H3.objs.size:=by subst gC;rfl
  have TF:X'.env.cells=cl:=by subst gC;rfl
  have Tz:X'.env=compEnvC scope cl H3.objs.size X.env:=by subst gC;rfl
  have CJ:X'.fs=frs X.stack:=by subst gC;rfl
  have CK:X'.ex=fp:=by subst gC;rfl
  have CI:X'.s₀=s₂:=by subst gC;rfl
  have Kz:X'.pn=X.pn++pins:=by subst gC;rfl
  have Tv:X'.xe=λ_ _=>False:=by subst gC;rfl
  have T8:X'.H₀=H₂:=by subst gC;rfl
  have hg':PG X' tg g:=by subst gC;exact hg _ _ _ _ _ _
  have hi':rB X' ifs tt:=by subst gC;exact hi _ _ _ _ _ _
  have he':PE X' elt te:=by subst gC;exact he _ _ _ _ _ _
  have pZ:∀{H':Hp}{pl:List (Θ×Obj)},(∀b∈fp,H' b=η)->(∀p∈pl,s₂.heap.objs.size<=p.1)->∀b∈fp,gK X' pl H' b:=fun{H' pl} hn hp b hb=>by
    have hlt:=hfo b hb;obtain⟨_,f1,f2,f3,f4,f5⟩:=hf b hb;refine⟨hn b hb,by rw[za];exact apz (apG hlt oU),?_,.inl (by rw[CK];exact hb),λx c e=>?_,λp eY=>?_⟩
    · rw[CJ]
      intro z
      rcases apu.mp (jm.pY b z)with e|e
      · exact f1 e
      · exact f2 e
    · have:=Kl.ok.yg b (by rw[CK];exact hb)
      exact this.2 x c e
    · rcases ap1.mp eY with z|z
      · rw[Kz]at z;exact f5 p z
      · exact aqe (apG hlt (hp p z))
  have Mz:∀{H':Hp}{s':ε}{σ':St}{o:Obj},Inv X' [] σ' H' s'->s'.heap.get? s₂.heap.objs.size=ζ o->H' s₂.heap.objs.size=η->(∀v,o.data≠.cell v)->Inv X' [(s₂.heap.objs.size,o)] σ' H' s':=fun{H' s' σ' o} I e hn hnc =>
    I.zQ λp hp=>by
      obtain rfl:p=(s₂.heap.objs.size,o):=by simpa using hp
      refine⟨e,hn,by rw[za];exact hDC,?_,hnc⟩
      rw[CJ];intro z;exact absurd (aiz jm z) (aqd _)
  have Cm:H₂ s₂.heap.objs.size=η:=jm.hok.fresh (aps _)
  let Iv:Nat->ε->Prop:=λn s'=>∃(i:Nat) (σ':St) (ys:List V) (H':Hp) (its:List Γ) (k:Nat),Inv X' [(s₂.heap.objs.size,{cls:=.type "list",data:=.seq its.toArray k})] σ' H' s'/\Vals ys its/\tn i s'.heap/\(∀b∈fp,H' b=η)/\W i n σ' ys H'
  have loop:codeAny (model X.prog X.w) X.A (.compLoop (.ListComp elt [⟨tg,iter,ifs,0⟩] scope pos) 0 (.ref it) (.ref s₂.heap.objs.size) X'.env) (RR (.ref s₂.heap.objs.size) H3.objs.size) {s₂ with heap:=h₄}:=by
    refine aln Iv ?_ m0 ⟨0,_,[],H₂,[],_,Mz Kl hD Cm (λv q=>nomatch q),.nil,T.keep _ _ _ st λb _ o e=>xM b o e,λb hb=>(hf b hb).1,h0⟩
    rintro n s5 ⟨i,yU,ys,H5,its,k,I5,rv,p8,AS,w5⟩
    obtain⟨hlen,tr⟩:=turn i n yU ys H5 w5;have p5:∀{o:Obj},∀p∈[(s₂.heap.objs.size,o)],s₂.heap.objs.size<=p.1:=fun{o} p hp=>by
      obtain rfl:p=(s₂.heap.objs.size,o):=by simpa using hp
      exact aps _
    rw[<-xA]
    rcases tr with⟨stop,qf⟩|⟨go,N,hN,step⟩
    · have dn:=T.done X' y9 xw xK KA i _ s5 yU H5 (λ_ _=>False) I5 (pZ AS p5) p8 stop
      rw[xA]at dn ⊢;refine ap4 dn (λr s6 h6=>?_) λ_ _ z=>z
      obtain⟨rfl,I6⟩:=h6;show RR (.ref s₂.heap.objs.size) H3.objs.size (.ok .next) s6;obtain⟨eD,nD,_⟩:=I6.pin _ (aql _ aqg);have pU:Un (frs X.stack) fp H₂ H5 s₂.heap s6.heap:=by
        have:=I6.base;rw[CJ,CK,CI,T8]at this;exact this
      have lt:∀{b:Θ}{o:Obj},s₂.heap.get? b=ζ o->b≠s₂.heap.objs.size:=λe=>apz (apy e)
      have Uv:Un (frs X.stack) fp H₂ (upd H5 s₂.heap.objs.size (.lst ys)) s₂.heap s6.heap :=
        ⟨pU.keep,pU.slot,λb o e n hx=>by rw[bX (lt e)];exact pU.free b o e n hx,pU.there,λb xs e=>by rw[bX (dQ e Cm)];exact pU.tups b xs e,
          λb o u e=>by rw[bX (dQ e Cm)];exact pU.je b o u e,λb ps e=>by rw[bX (dQ e Cm)];exact pU.ju b ps e⟩
      have ahz:dJ X.prog X.w (upd H5 s₂.heap.objs.size (.lst ys)) s6.heap:=λb u e=>by
        by_cases hb:b=s₂.heap.objs.size
        · subst hb
          rw[e8]at e;cases e;exact⟨aqG hlen,its,k,rv,eD⟩
        · rw[bX hb]at e
          have:=I6.hok b u e;rw[y9,xw]at this;exact this.stay (λ_ _ _ q=>q) (λc q=>by rw[bX (dQ q nD)];exact q) λc xs q=>by rw[bX (dQ q nD)];exact q
      have I7:Inv X pins σ (upd H5 s₂.heap.objs.size (.lst ys)) s6:=by
        refine jm.I0 (ch:=fp) ?_ Uv ahz I6.bare λb hb=>?_
        · have:=I6.os;rw[CI]at this;exact this
        · obtain⟨_,f1,f2,f3,f4,f5⟩:=hf b hb
          exact⟨f3,f1,f4,f5⟩
      obtain⟨m6,n6,_⟩:=I6.loc;rw[za]at n6;have hC6:H5 H3.objs.size=η:=by have:=I6.free;rw[za]at this;exact this
      refine fin _ _ _ s6 m6 I7 ⟨by rw[bX (aqh hDC)];exact hC6,?_,?_,.inr (apW jm.sz oU),ahY,λp hp=>?_⟩ n6 (qf _ nD)
      · exact aqe (apG jm.lt oU)
      · intro z
        exact absurd z (jm.DN oU)
      · exact apz (apG (apy (jm.pin p hp).1) oU)
    · have itm:=T.item X' y9 xw xK KA i _ s5 yU H5 (λ_ _=>False) I5 (pZ AS p5) p8 go
      refine ap4 itm (λr s6 h6=>?_) λ_ _ z=>z
      obtain⟨u,rfl,h6⟩:=h6;refine ap4 h6 (λ_ s7 h7=>?_) λ_ _ z=>z
      obtain⟨x,H7,I7,rx,y7,C0,fr7⟩:=h7;have I7':=I7.pinned (pZ fr7 p5) (T.obj _ _ C0);have mp:∀{α:Type}{t:Sem α}{Q:α->ε->Prop}{s:ε},wpAny (model X'.prog X'.w) X'.A t Q X'.xe s->wpAny (model X.prog X.w) X'.A t Q (λ_ _=>False) s:=fun{α t Q s} h=>by
        rw[y9,xw,Tv]at h;exact h
      refine ap4 (mp (hg' _ s7 yU H7 x u _ I7' rx (step x H7 y7))) (λ_ s8 h8=>?_) λ_ _ z=>z
      obtain⟨vP,H8,I8,q8⟩:=h8;refine ap4 (mp (hi' _ s8 vP H8 _ I8 q8)) (λok s9 h9=>?_) λ_ _ z=>z
      obtain⟨H9,I9,q9⟩:=h9;have Oj:∀{σ':St}{H':Hp}{s':ε},Inv X' ([(s₂.heap.objs.size,{cls:=.type "list",data:=.seq its.toArray k})]++wL fp s7.heap) σ' H' s'->tn (i+1) s'.heap/\∀b∈fp,H' b=η:=fun{σ' H' s'} I=>by
        refine⟨T.keep _ _ _ C0 λb hb o e=>(I.pin (b,o) (aql _ (aql _ (An hb e)))).1,λb hb=>?_⟩
        obtain⟨o,e,d⟩:=T.obj _ _ C0 b hb;exact(I.pin (b,o) (aql _ (aql _ (An hb e)))).2.1
      cases ok with
      | false =>
        rw[if_neg apP]at q9 ⊢;obtain⟨m',hm,w9⟩:=hN _ _ _ q9;obtain⟨t9,f9⟩:=Oj I9;exact⟨m',hm,i+1,vP,ys,H9,its,k,I9.vV,rv,t9,f9,w9⟩
      | true =>
        rw[if_pos rfl]at q9 ⊢;refine ap4 (mp (he' _ s9 vP H9 _ I9 q9)) (λv wC h10=>?_) λ_ _ z=>z
        obtain⟨y,Se,Sd,ry,ug⟩:=h10;obtain⟨m',hm,gR⟩:=hN _ _ _ ug;obtain⟨Vz,f10⟩:=Oj Sd;have Sb:=Sd.vV;obtain⟨eD,nD,fD,nfD,dD⟩:=Sb.pin _ (aql _ aqg);have hl:=rv.length;refine aq7 F.slot_list_append ⟨_,eD,rfl⟩ F.entry_list_append (F.args_list_append_2 _ _) (auj s₂.heap.objs.size its.toArray k v (by rw[apH];omega)) ⟨eD,?_⟩
        have q:=aui eD (·.push v);have I11:Inv X' [] vP Se {wC with heap:=wC.heap.update s₂.heap.objs.size (Obj.mapSeq (·.push v))}:=by
          refine(Sb.zQ (Dw:=[]) λp hp=>by cases hp).turned (t':=wC.toks) (it:=s₂.heap.objs.size) (λb o hb e=>(arj wC.heap (Obj.mapSeq (·.push v)) (aqh hb)).trans e) nD fD (.inr (by rw[CI];exact aps _)) (λx c hc=>GC x c (by rw[<-TF];exact hc)) λp hp=>?_
          have hp:p∈X.pn++pins:=by rw[aqJ,Kz]at hp;exact hp
          exact apz (apy (jm.pin p hp).1)
        rw[show its.toArray.push v=(its++[v]).toArray by simp]at q
        refine⟨m',hm,i+1,vP,ys++[y],Se,its++[v],_,Mz I11 q nD (λv q=>nomatch q),rv.append (.cons ry .nil),?_,f10,gR⟩
        refine T.keep _ _ _ Vz λb hb o e=>(arj wC.heap (Obj.mapSeq (·.push v)) ?_).trans e
        exact aqe (hfo b hb)
  have e4:({scope:=relabel scope X.env,locals:=H3.objs.size,globals:=X.env.globals,cells:=cl,qual:=X.env.qual,func:=η,code:=X.env.code,frame:=X.env.frame,builtins:=X.env.builtins}:Env)=X'.env:=by rw[Tz];rfl
  have LO:tn 0 h₄:=T.keep _ _ _ st λb _ o e=>xM b o e
  have goal:codeAny (model X.prog X.w) X.A (.compStart (.ListComp elt [⟨tg,iter,ifs,0⟩] scope pos) 0 (.ref it) (.ref s₂.heap.objs.size) X'.env) (RR (.ref s₂.heap.objs.size) H3.objs.size) {s₂ with heap:=h₄} :=
    codeAny_compStart_list loop (T.self _ 0 _ _ _ LO loop)
  rw[<-e4]at goal;exact goal
theorem Inv.gone{H':Hp}{s':ε}{h':χ}{C:Θ}(I:Inv X pins σ H' s') (f:gK X pins H' C) (hs:aeC C s'.heap h'):Inv X pins σ H' {s' with heap:=h'}:=by
 obtain⟨f0,f1,f2,f3,f4,f5⟩:=f;exact I.turned (t':=s'.toks) (λb o hb e=>(hs.2 b hb).trans e) f0 f1 f3 f4 f5
theorem aaR{wi:TI}(S:cC X N' pick scope) (hc:X.calm=ξ) (hit:PI X tg iter wi)
  (hg:∀cl C s₀ H₀ ex pn,PG (fX X N' scope cl C s₀ H₀ ex pn) tg g) (hi:∀cl C s₀ H₀ ex pn,rB (fX X N' scope cl C s₀ H₀ ex pn) ifs tt) (he:∀cl C s₀ H₀ ex pn,PE (fX X N' scope cl C s₀ H₀ ex pn) elt te)
  (hs:∀x,foldedSetIterable iter X.env x=pure x:=by intro _;rfl) :
  PE X (.ListComp elt [⟨tg,iter,ifs,0⟩] scope pos) (CY wi pick g tt te):=by
 intro pins s σ H Q I h;rw[eval_ListComp];refine aul (use:=η) rfl hs (QE S I) S.kind S.names (bw (hit pins s σ H _ I h) λv s1 h1=>bw h1 λitv s2 h2=>?_)
 obtain⟨it,fp,tn,J,H2,rfl,I2,T,st2,f2,W,⟨m0,w0⟩,turn⟩:=h2;refine Qw (RR:=λacc C=>compPost (model X.prog X.w) X.A X.xe η (EP X pins σ Q) acc C) (Qv:=Q) S hc I2 T st2 f2 hg hi he w0 turn ?_
 intro D C H' s' m I' f' n' q';exact⟨m,n',λh' hs'=>⟨.ref D,H',I'.gone f' hs',rfl,q'⟩⟩
def Va(i:Nat) (t:TE):TS:=λD σ H=>t σ H λv H1=>D.nx (σ.set i (ζ v)) H1
theorem Za{wi:TI}{i:Nat}{y:Str}{py spos:Pos}(hsw:swapsWith (.ListComp elt [⟨tg,iter,ifs,0⟩] scope pos) (ζ (.Name y py)) spos.line X.env=pure ξ) (hN:X.N.Nodup) (hy:X.N[i]? = ζ y) (hl:X.env.scope.names.lookup y=ζ .local)
  (S:cC X N' pick scope) (hc:X.calm=ξ) (hit:PI X tg iter wi)
  (hg:∀cl C s₀ H₀ ex pn,PG (fX X N' scope cl C s₀ H₀ ex pn) tg g) (hi:∀cl C s₀ H₀ ex pn,rB (fX X N' scope cl C s₀ H₀ ex pn) ifs tt) (he:∀cl C s₀ H₀ ex pn,PE (fX X N' scope cl C s₀ H₀ ex pn) elt te)
  (hs:∀x,foldedSetIterable iter X.env x=pure x:=by intro _;rfl) :
  PS X (.Assign [.Name y py] (.ListComp elt [⟨tg,iter,ifs,0⟩] scope pos) spos) (Va i (CY wi pick g tt te)):=by
 intro pins s σ H D I h;rw[exec_Assign_Name_used _ _ _ _ hsw];refine apq (asP (apq ?_));show wpAny _ X.A (do let _ <-comprehension (.ListComp elt [⟨tg,iter,ifs,0⟩] scope pos) scope X.env _ (newList []) Δ (eval iter X.env) (ζ (assign (.Name y py) X.env))) _ _ s
 refine apq (ap4 (aul (use:=ζ (assign (.Name y py) X.env)) (Q:=λ_ s'=>SP X pins D .next s') rfl hs (QE S I) S.kind S.names
  (bw (hit pins s σ H _ I h) λv s1 h1=>bw h1 λitv s2 h2=>?_)) (λ_ s' hq=>apr (apr hq)) λ_ _ e=>e)
 obtain⟨it,fp,tn,J,H2,rfl,I2,T,st2,f2,W,⟨m0,w0⟩,turn⟩:=h2;refine Qw (RR:=λacc C=>compPost (model X.prog X.w) X.A X.xe (ζ (assign (.Name y py) X.env)) (λ_ s'=>SP X pins D .next s') acc C) (Qv:=λv H1=>D.nx (σ.set i (ζ v)) H1) S hc I2 T st2 f2 hg hi he w0 turn ?_
 intro Da C H' s' m I' f' n' q';show wpAny _ X.A (assign (.Name y py) X.env (.ref Da)) _ _ _;refine wpAny_assign_Name (LL I' hN hy (.inl hl) (v:=.ref Da) rfl (λs'' yR ⟨a,sb,ha⟩=>?_) (.inr hl))
 have hCa:C≠a:=by
  rcases ha with e|e
  ·rw[e];exact f'.2.1
  ·exact aqh (f'.2.2.2.2.1 _ _ e)
 exact⟨m,n'.sameBut sb hCa,λh' hs'=>⟨_,H',yR.gone f' hs',q'⟩⟩
end
def Qy(XN:List Str) (xn:List (Str×adT)) (N':List Str) (pick:List (Option Nat)) (names:List (Str×adT)):Bool :=
 decide N'.Nodup&&names.all (λx=>decide (names.lookup x.1=ζ x.2))&&decide ((names.map (·.1)).Nodup)&&(pick.length==N'.length) &&
 (pick.zip N').all (λq=>match q.1 with|none=>ξ|some j=>decide (names.lookup q.2=ζ NameKind.free)&&decide (XN[j]? = ζ q.2)) &&
 names.all (λx=>decide (x.2≠NameKind.free)||(decide (xn.lookup x.1=ζ NameKind.cell)||decide (xn.lookup x.1=ζ NameKind.free)))
theorem cC.of{X:Cx}{N':List Str}{pick:List (Option Nat)}{scope:aeB}(hk:scope.kind=.function) (h:Qy X.N X.env.scope.names N' pick scope.names=ξ):cC X N' pick scope:=by
 unfold Qy at h;simp only[apN,apA,decide_eq_true_eq,beq_iff_eq,aq8]at h;obtain⟨⟨⟨⟨⟨h1,h2⟩,h3⟩,h4⟩,h5⟩,h6⟩:=h;refine⟨hk,h1,λx hx e=>by rw[<-e];exact h2 x hx,h3,h4,λi j x hp hN=>?_,λx hx e=>?_⟩
 ·have hm:(ζ j,x)∈pick.zip N':=by
   have:(pick.zip N')[i]? = ζ (ζ j,x):=by rw[asX];exact⟨hp,hN⟩
   exact apT this
  exact h5 _ hm |> λz=>by simpa using z
 ·rcases h6 x hx with z|z|z
  ·exact absurd e z
  ·exact .inl z
  ·exact .inr z
end L2
namespace PySem
open Sem (wp)
section
variable {prog:υ}{w:ψ}{A:acr}{E:Γ->ε->Prop}{s:ε}
theorem aec{it l:Θ}{i:Nat}{items:Array Γ}{x:Γ}{Q:Γ->ε->Prop}(hit:s.heap.IsTupleIter it l i)
  (hl:s.heap.IsTuple l items) (hx:items[i]? = ζ x)
  (hQ:∀h',h'.IsTupleIter it l (i+1)->aeC it s.heap h'->Q x {s with heap:=h'}) :
  wpAny (model prog w) A (Builtin.SmallTypes.nextOf (.ref it)) Q E s:=by
 obtain⟨o,ho,hc,hd⟩:=id hit;obtain⟨ol,iB,_,nl,hdl⟩:=hl;unfold Builtin.SmallTypes.nextOf;refine apq (aro (name:=Str.ofString "__next__") hit.typeIs asi
  (aqD asi hit.typeIs aum ?_ (aun _)))
 show wpAny _ _ (field (.ref it) 0 >>= _) _ _ s;refine apq (aqq ho hd (x:=.ref l) rfl ?_);show wpAny _ _ (if(Value.ref l==Value.none)=ξ then _ else _) _ _ s
 rw[if_neg (show ¬((Value.ref l==Value.none)=ξ)from apP)]
 show wpAny _ _ (field (.ref it) 1 >>= _) _ _ s;refine apq (aqq ho hd (x:=.int i 0) rfl ?_);show wpAny _ _ (seqItems? (.ref l) >>= _) _ _ s;refine apq (aqE iB hdl ?_);simp only[arN,hx];refine apq (arR ho hd (by simp) (apr ⟨x,rfl,apr (hQ _ ?_ (aqN ..))⟩))
 exact⟨_,arO _ ho (asY (arp hd _)),(asZ ..).trans hc,by
  rw[arp hd];simp[rawInt]⟩
theorem aed{it l:Θ}{i:Nat}{items:Array Γ}{Q:Γ->ε->Prop}(hh:A.handled=η)
  (hit:s.heap.IsTupleIter it l i) (hl:s.heap.IsTuple l items) (hx:items[i]? = η)
  (hE:∀h' e,Heap.ExtBut it s.heap h'->(∃o,h'.get? e=ζ o/\o.cls=.type "StopIteration")->E (.ref e) {s with heap:=h'}) :
  wpAny (model prog w) A (Builtin.SmallTypes.nextOf (.ref it)) Q E s:=by
 obtain⟨o,ho,hc,hd⟩:=id hit;obtain⟨ol,iB,_,nl,hdl⟩:=hl;unfold Builtin.SmallTypes.nextOf;refine apq (aro (name:=Str.ofString "__next__") hit.typeIs asi
  (aqD asi hit.typeIs aum ?_ (aun _)))
 show wpAny _ _ (field (.ref it) 0 >>= _) _ _ s;refine apq (aqq ho hd (x:=.ref l) rfl ?_);show wpAny _ _ (if(Value.ref l==Value.none)=ξ then _ else _) _ _ s
 rw[if_neg (show ¬((Value.ref l==Value.none)=ξ)from apP)]
 show wpAny _ _ (field (.ref it) 1 >>= _) _ _ s;refine apq (aqq ho hd (x:=.int i 0) rfl ?_);show wpAny _ _ (seqItems? (.ref l) >>= _) _ _ s;refine apq (aqE iB hdl ?_);simp only[arN,hx];refine apq (asj (apq (arR ho hd (by simp) ?_)))
 show wpAny _ _ (newExc (.type "StopIteration") [] >>= _) _ _ _;refine apq ?_;simp only[newExc,newTuple];refine apq (arn ?_ (by size_fits))
 refine apq (m:=firstArgMember _ _) (arq (a:=Value.none) (by first|rfl|(simp only[firstArgMember];rfl)) ?_)
 refine arn ?_ (by size_fits)
 simp only[raiseNew];refine apq (wpAny_handled ?_)
 first|rw[show A.in1.handled=η from hh]|rw[hh]
 refine apq (apr (wpAny_throw ?_));exact hE _ _ (((aqN ..).extBut.push _).push _) ⟨_,apF _ rfl,rfl⟩
theorem Draws.tuple{prog:υ}{w:ψ}{A:acr}(hh:A.handled=η) (it l:Θ) (hne:l≠it) (items:Array Γ) :
  ahJ prog w A it [it,l] items.size (λi v=>items[i]? = ζ v) (λi h=>h.IsTupleIter it l i/\h.IsTuple l items) where
 live:=λ_ _ st=>let⟨o,ho,_⟩:=st.1;⟨o,ho⟩
 frame:=λ_ _ _ st hk=>⟨st.1.at λo e=>hk it (by simp) o e,let⟨o,e,r⟩:=st.2;⟨o,hk l (by simp) o e,r⟩⟩
 item:=λi s Q E hi st hQ=>by
  refine aec st.1 st.2 (x:=items[i]) (by simp[hi]) λh' xV hs'=>?_
  exact hQ _ h' s.toks (by simp[hi]) ⟨xV,let⟨o,e,r⟩:=st.2;⟨o,hs'.extBut _ _ hne e,r⟩⟩ hs'
 done:=λs Q E st hE=>aed hh st.1 st.2 (by simp) hE
structure ZA (z TI TO i1 i2:Θ) (f1 f2:List Θ):Prop where
 TIz:TI≠z
 TOz:TO≠z
 TITO:TI≠TO
 TIi1:TI≠i1
 TIi2:TI≠i2
 m1:i1∈f1
 m2:i2∈f2
 z1:z∉f1
 z2:z∉f2
 o1:TO∉f1
 o2:TO∉f2
 x1:i1∉f2
 x2:i2∉f1
theorem Tt{z TI TO i1 i2:Θ}{f1 f2:List Θ}{n1 n2 k:Nat}{P1 P2:Nat->Γ->Prop}{S1 S2:Nat->χ->Prop}{a b:Γ}{Q:Γ->ε->Prop}(D:ZA z TI TO i1 i2 f1 f2) (D1:ahJ prog w A i1 f1 n1 P1 S1) (D2:ahJ prog w A i2 f2 n2 P2 S2)
  (hz:ahg s.heap z TI TO .none) (hTI:aeh s.heap TI (.ref i1) (.ref i2)) (hTO:aeh s.heap TO a b)
  (h1:S1 k s.heap) (h2:S2 k s.heap) (hx:k<n1) (hy:k<n2)
  (hQ:∀x y h' tk,P1 k x->P2 k y->ahg h' z TI TO (rawInt s.heap.objs.size)->aeh h' TO x y->S1 (k+1) h'->S2 (k+1) h'->aeh h' s.heap.objs.size x y ->
   (∀c o,c≠z->c≠TO->c≠i1->c≠i2->s.heap.get? c=ζ o->h'.get? c=ζ o)->Q (.ref s.heap.objs.size) {s with heap:=h',toks:=tk}) :
  wpAny (model prog w) A (Builtin.«zip.__next__» ⟨[.ref z],[]⟩) (λfin s'=>∃v,fin=.done (.ret v)/\Q v s') E s:=by
 have Ac:i1≠z:=λe=>D.z1 (e▸D.m1)
 have DM:i2≠z:=λe=>D.z2 (e▸D.m2)
 have DP:TO≠i1:=λe=>D.o1 (e▸D.m1)
 have Nx:TO≠i2:=λe=>D.o2 (e▸D.m2)
 have n12:i1≠i2:=λe=>D.x1 (e▸D.m2)
 show wpAny _ _ (field (.ref z) 2 >>= _) _ _ _;refine apq (aqq hz rfl (x:=.bool Δ) rfl ?_);show wpAny _ _ (field (.ref z) 3 >>= _) _ _ _;refine apq (aqq hz rfl (x:=.ref TI) rfl ?_);refine apq (aqE hTI rfl ?_);show wpAny _ _ (Builtin.SmallTypes.ownedTupleIsFree (.ref z) >>= _) _ _ _;refine apq ?_;unfold Builtin.SmallTypes.ownedTupleIsFree;refine apq (aqq hz rfl (x:=.none) rfl (apr ?_));simp only[if_true];refine apq (asj ?_);refine apq (aqq hz rfl (x:=.ref TO) rfl ?_);refine apq (ars hz (by simp) λh₁ oJ hs₁=>?_)
 replace oJ:ahg h₁ z TI TO .ellipsis:=oJ
 refine apq ?_;simp only[auo,aup,arl,asl];refine apq (apq (asm ?_));show wpAny _ _ (Builtin.SmallTypes.nextOf (.ref i1) >>= _) _ _ _;refine apq (D1.item k _ _ _ hx (D1.frame _ _ _ h1 λc hc o e=>hs₁.extBut _ _ (λq=>D.z1 (q▸hc)) e) λx h₂ tk₂ px Po hs₂=>apr ?_)
 have x6:aeh h₂ TO a b:=hs₂.extBut _ _ DP (hs₁.extBut _ _ D.TOz hTO);refine apq (aqE x6 rfl ?_);refine apq (as3 x6 λh₃ AM jF=>?_)
 replace AM:aeh h₃ TO x b:=AM
 refine apq (wpAny_letGo (apr ?_));refine apq (apq (asm ?_));show wpAny _ _ (Builtin.SmallTypes.nextOf (.ref i2) >>= _) _ _ _;refine apq (D2.item k _ _ _ hy (D2.frame _ _ _ h2 λc hc o e=>jF.extBut _ _ (λq=>D.o2 (q▸hc)) (hs₂.extBut _ _ (λq=>D.x1 (q▸hc)) (hs₁.extBut _ _ (λq=>D.z2 (q▸hc)) e))) λy h₄ tk₄ py ain oN=>apr ?_)
 have Pc:aeh h₄ TO x b:=oN.extBut _ _ Nx AM;refine apq (aqE Pc rfl ?_);refine apq (as3 Pc λh₅ AL oM=>?_)
 replace AL:aeh h₅ TO x y:=AL
 refine apq (wpAny_letGo (apr (apr ?_)));refine apq (aqE AL rfl ?_);refine apq (wpAny_newTuple ?_);have hsz:h₅.objs.size=s.heap.objs.size:=by rw[oM.1,oN.1,jF.1,hs₂.1,hs₁.1]
 have OG:ahg h₅ z TI TO .ellipsis:=oM.extBut _ _ D.TOz.symm (oN.extBut _ _ DM.symm (jF.extBut _ _ D.TOz.symm (hs₂.extBut _ _ Ac.symm oJ)));have ahH:∀c o,c≠z->c≠TO->c≠i1->c≠i2->s.heap.get? c=ζ o->h₅.get? c=ζ o:=λc o c1 c2 c3 c4 e =>
  oM.extBut _ _ c2 (oN.extBut _ _ c4 (jF.extBut _ _ c2 (hs₂.extBut _ _ c3 (hs₁.extBut _ _ c1 e))))
 have aio:S1 (k+1) h₅:=D1.frame _ _ _ Po λc hc o e=>oM.extBut _ _ (λq=>D.o1 (q▸hc)) (oN.extBut _ _ (λq=>D.x2 (q▸hc)) (jF.extBut _ _ (λq=>D.o1 (q▸hc)) e))
 have aim:S2 (k+1) h₅:=D2.frame _ _ _ ain λc hc o e=>oM.extBut _ _ (λq=>D.o2 (q▸hc)) e
 have OJ:z<h₅.objs.size:=apy OG;show wpAny _ _ (Builtin.SmallTypes.ownedTupleHandOut (.ref z) (.ref h₅.objs.size) >>= _) _ _ _;refine apq ?_;unfold Builtin.SmallTypes.ownedTupleHandOut;have ahc:ahg (h₅.push {cls:=.type "tuple",data:=.seq #[x,y]}) z TI TO .ellipsis:=apt _ OG;refine apq (ars ahc (by simp) λahb Gn OP=>?_)
 replace Gn:ahg ahb z TI TO (rawInt h₅.objs.size):=Gn
 refine ars Gn (by simp) λAF AG OO=>?_
 replace AG:ahg AF z TI TO (rawInt h₅.objs.size):=AG
 have up:∀c o,c≠z->h₅.get? c=ζ o->AF.get? c=ζ o:=λc o c1 e=>OO.extBut _ _ c1 (OP.extBut _ _ c1 (apt _ e))
 have Pa:aeh AF h₅.objs.size x y:=OO.extBut _ _ (aqe OJ) (OP.extBut _ _ (aqe OJ) (apF _ rfl));rw[hsz]at AG Pa;refine apr ⟨_,rfl,?_⟩;show Q (.ref h₅.objs.size) _;rw[hsz];exact hQ x y AF _ px py AG (up _ _ D.TOz AL) (D1.frame _ _ _ aio λc hc o e=>up c o (λq=>D.z1 (q▸hc)) e) (D2.frame _ _ _ aim λc hc o e=>up c o (λq=>D.z2 (q▸hc)) e) Pa λc o c1 c2 c3 c4 e=>up c o c1 (ahH c o c1 c2 c3 c4 e)
theorem Tu{z TI TO i1 i2:Θ}{f1 f2:List Θ}{n1 n2 k:Nat}{P1 P2:Nat->Γ->Prop}{S1 S2:Nat->χ->Prop}{a b:Γ}{Q:Fin->ε->Prop}(D:ZA z TI TO i1 i2 f1 f2) (D1:ahJ prog w A i1 f1 n1 P1 S1) (D2:ahJ prog w A i2 f2 n2 P2 S2)
  (hz:ahg s.heap z TI TO .none) (hTI:aeh s.heap TI (.ref i1) (.ref i2)) (hTO:aeh s.heap TO a b)
  (h1:S1 k s.heap) (h2:S2 k s.heap) (hend:k=n1\/(k<n1/\k=n2))
  (hE:∀h' tk e,(∀c o,c≠z->c≠TO->c≠i1->c≠i2->s.heap.get? c=ζ o->h'.get? c=ζ o)->(∃o,h'.get? e=ζ o/\o.cls=.type "StopIteration")->E (.ref e) {s with heap:=h',toks:=tk}) :
  wpAny (model prog w) A (Builtin.«zip.__next__» ⟨[.ref z],[]⟩) Q E s:=by
 have Ac:i1≠z:=λe=>D.z1 (e▸D.m1)
 have DM:i2≠z:=λe=>D.z2 (e▸D.m2)
 have DP:TO≠i1:=λe=>D.o1 (e▸D.m1)
 have Nx:TO≠i2:=λe=>D.o2 (e▸D.m2)
 show wpAny _ _ (field (.ref z) 2 >>= _) _ _ _;refine apq (aqq hz rfl (x:=.bool Δ) rfl ?_);show wpAny _ _ (field (.ref z) 3 >>= _) _ _ _;refine apq (aqq hz rfl (x:=.ref TI) rfl ?_);refine apq (aqE hTI rfl ?_);show wpAny _ _ (Builtin.SmallTypes.ownedTupleIsFree (.ref z) >>= _) _ _ _;refine apq ?_;unfold Builtin.SmallTypes.ownedTupleIsFree;refine apq (aqq hz rfl (x:=.none) rfl (apr ?_));simp only[if_true];refine apq (asj ?_);refine apq (aqq hz rfl (x:=.ref TO) rfl ?_);refine apq (ars hz (by simp) λh₁ oJ hs₁=>?_)
 replace oJ:ahg h₁ z TI TO .ellipsis:=oJ
 refine apq ?_;simp only[auo,aup,arl,asl];refine apq (apq (asm ?_));show wpAny _ _ (Builtin.SmallTypes.nextOf (.ref i1) >>= _) _ _ _;have Pp:S1 k h₁:=D1.frame _ _ _ h1 λc hc o e=>hs₁.extBut _ _ (λq=>D.z1 (q▸hc)) e
 rcases hend with rfl|⟨hlt,rfl⟩
 ·refine apq (D1.done _ _ _ Pp λh₂ e hs₂ he=>?_)
  obtain⟨oe,qA,hce⟩:=he;have OI:ahg h₂ z TI TO .ellipsis:=hs₂ _ _ Ac.symm oJ;have GA:e≠z:=λx=>by subst x;rw[OI]at qA;cases qA;simp at hce
  refine ars OI (by simp) λh₃ _ jF=>hE h₃ _ e (λc o c1 _ c3 _ x=>jF.extBut _ _ c1 (hs₂ _ _ c3 (hs₁.extBut _ _ c1 x))) ⟨oe,jF.extBut _ _ GA qA,hce⟩
 ·refine apq (D1.item k _ _ _ hlt Pp λx h₂ tk₂ px Po hs₂=>apr ?_)
  have x6:aeh h₂ TO a b:=hs₂.extBut _ _ DP (hs₁.extBut _ _ D.TOz hTO);refine apq (aqE x6 rfl ?_);refine apq (as3 x6 λh₃ AM jF=>?_)
  refine apq (wpAny_letGo (apr ?_));refine apq (apq (asm ?_));show wpAny _ _ (Builtin.SmallTypes.nextOf (.ref i2) >>= _) _ _ _;refine apq (D2.done _ _ _ (D2.frame _ _ _ h2 λc hc o e=>jF.extBut _ _ (λq=>D.o2 (q▸hc)) (hs₂.extBut _ _ (λq=>D.x1 (q▸hc)) (hs₁.extBut _ _ (λq=>D.z2 (q▸hc)) e))) λh₄ e oN he=>?_)
  obtain⟨oe,qA,hce⟩:=he;have OH:ahg h₄ z TI TO .ellipsis:=oN _ _ DM.symm (jF.extBut _ _ D.TOz.symm (hs₂.extBut _ _ Ac.symm oJ));have GA:e≠z:=λx=>by subst x;rw[OH]at qA;cases qA;simp at hce
  refine ars OH (by simp) λh₅ _ oM=>hE h₅ _ e (λc o c1 c2 c3 c4 x=>oM.extBut _ _ c1 (oN _ _ c4 (jF.extBut _ _ c2 (hs₂.extBut _ _ c3 (hs₁.extBut _ _ c1 x))))) ⟨oe,oM.extBut _ _ GA qA,hce⟩
theorem YR{z TI TO i1 i2:Θ}{f1 f2:List Θ}{n1 n2 k:Nat}{P1 P2:Nat->Γ->Prop}{S1 S2:Nat->χ->Prop}{a b:Γ}{Q:Option Γ->ε->Prop}(D:ZA z TI TO i1 i2 f1 f2) (D1:ahJ prog w A.in1 i1 f1 n1 P1 S1) (D2:ahJ prog w A.in1 i2 f2 n2 P2 S2)
  (hz:ahg s.heap z TI TO .none) (hTI:aeh s.heap TI (.ref i1) (.ref i2)) (hTO:aeh s.heap TO a b)
  (h1:S1 k s.heap) (h2:S2 k s.heap) (hx:k<n1) (hy:k<n2)
  (hQ:∀x y h' tk,P1 k x->P2 k y->ahg h' z TI TO (rawInt s.heap.objs.size)->aeh h' TO x y->S1 (k+1) h'->S2 (k+1) h'->aeh h' s.heap.objs.size x y ->
   (∀c o,c≠z->c≠TO->c≠i1->c≠i2->s.heap.get? c=ζ o->h'.get? c=ζ o)->Q (ζ (.ref s.heap.objs.size)) {s with heap:=h',toks:=tk}) :
  wpAny (model prog w) A (pyNext (.ref z)) Q E s:=by
 have hT:s.TypeIs (.ref z) "zip":=⟨_,hz,rfl⟩;unfold pyNext;exact apq (asn (aro (name:=Str.ofString "__next__") hT aso
  (aqD aso hT F.entry_zip_next
   (Tt D D1 D2 hz hTI hTO h1 h2 hx hy λx y h' tk a0 b0 a1 a2 a3 a4 a5 a7=>apr (hQ x y h' tk a0 b0 a1 a2 a3 a4 a5 a7)) (F.args_zip_next_1 _))))
theorem YS{z TI TO i1 i2:Θ}{f1 f2:List Θ}{n1 n2 k:Nat}{P1 P2:Nat->Γ->Prop}{S1 S2:Nat->χ->Prop}{a b:Γ}{Q:Option Γ->ε->Prop}(D:ZA z TI TO i1 i2 f1 f2) (D1:ahJ prog w A.in1 i1 f1 n1 P1 S1) (D2:ahJ prog w A.in1 i2 f2 n2 P2 S2)
  (hz:ahg s.heap z TI TO .none) (hTI:aeh s.heap TI (.ref i1) (.ref i2)) (hTO:aeh s.heap TO a b)
  (h1:S1 k s.heap) (h2:S2 k s.heap) (hend:k=n1\/(k<n1/\k=n2))
  (hQ:∀h' tk,(∀c o,c≠z->c≠TO->c≠i1->c≠i2->s.heap.get? c=ζ o->h'.get? c=ζ o)->Q η {s with heap:=h',toks:=tk}):wpAny (model prog w) A (pyNext (.ref z)) Q E s:=by
 have hT:s.TypeIs (.ref z) "zip":=⟨_,hz,rfl⟩;unfold pyNext;refine apq (asn (aro (name:=Str.ofString "__next__") hT aso
  (aqD aso hT F.entry_zip_next (Tu D D1 D2 hz hTI hTO h1 h2 hend λh' tk e hk he=>?_) (F.args_zip_next_1 _))))
 obtain⟨o,ho,hc⟩:=he;refine apq (art (T:="StopIteration") (b:=ξ) ⟨o,ho,hc⟩ isSubtype_stop ?_);exact apr (hQ _ _ hk)
abbrev yZ(h:χ) (l1:Θ):χ:=h.push {cls:=.type "tuple_iterator",data:=.fields #[.ref l1,.int 0 0]}
abbrev yY(h:χ) (l1 l2:Θ):χ:=(yZ h l1).push {cls:=.type "tuple_iterator",data:=.fields #[.ref l2,.int 0 0]}
abbrev yX(h:χ) (l1 l2:Θ):χ:=(yY h l1 l2).push {cls:=.type "tuple",data:=.seq #[.ref h.objs.size,.ref (yZ h l1).objs.size]}
abbrev yW(h:χ) (l1 l2:Θ):χ:=(yX h l1 l2).push {cls:=.type "tuple",data:=.seq #[.none,.none]}
abbrev rF(h:χ) (l1 l2:Θ):χ:=(yW h l1 l2).push {cls:=.type "zip",data:=.fields #[.none,.bool Δ,.bool Δ,.ref (yY h l1 l2).objs.size,.ref (yX h l1 l2).objs.size]}
theorem anu{h:χ}{a:Θ}{xs:Array Γ}(x:h.IsTuple a xs) (o:Obj):(h.push o).IsTuple a xs:=let⟨q,e,r⟩:=x;⟨q,apt _ e,r⟩
theorem afb(l1 l2:Θ) (xs ys:Array Γ) :
  Meets (Builtin.«zip.__new__» ⟨[.type "zip",.ref l1,.ref l2],[]⟩) (λ_ R s=>s.heap.IsTuple l1 xs/\s.heap.IsTuple l2 ys /\
   R (.ok (.ret (.ref (yW s.heap l1 l2).objs.size))) {s with heap:=rF s.heap l1 l2}) :=
 .of_wp λprog w A R s h=>by
  obtain⟨hp,g,d,tk,os⟩:=s;obtain⟨hl1,hl2,h⟩:=h;have hsub:=sub_zip;have uG:ahK (Shared.heap ⟨hp,g,d,tk,os⟩) l1 xs:=hl1;have uF:ahK (Shared.heap ⟨hp.push {cls:=.type "tuple_iterator",data:=.fields #[.ref l1,.int 0 0]},g,d,tk,os⟩) l2 ys:=anu hl2 _
  wp_walk using aq5 uG,aq5 uF
  exact⟨_,rfl,h⟩
theorem alH{l1 l2:Θ}{xs ys:Array Γ}{Q:Γ->ε->Prop}(hl1:s.heap.IsTuple l1 xs) (hl2:s.heap.IsTuple l2 ys)
  (h:∀h',ahg h' (s.heap.objs.size+4) (s.heap.objs.size+2) (s.heap.objs.size+3) .none->aeh h' (s.heap.objs.size+2) (.ref s.heap.objs.size) (.ref (s.heap.objs.size+1)) ->
   aeh h' (s.heap.objs.size+3) .none .none->h'.IsTupleIter s.heap.objs.size l1 0->h'.IsTupleIter (s.heap.objs.size+1) l2 0 ->
   (∀c o,s.heap.get? c=ζ o->h'.get? c=ζ o)->Q (.ref (s.heap.objs.size+4)) {s with heap:=h'}) :
  wpAny (model prog w) A (call (.type "zip") [.ref l1,.ref l2]) Q E s:=by
 refine callType_new F.called_zip (by decide) (F.typeCall_zip_2 _ _) (F.newCall_zip_2 _ _) (λobj=>F.args_object_init_3 obj _ _) F.entry_zip_new
  (afb l1 l2 xs ys) ⟨hl1,hl2,?_⟩
 have z1:(yZ s.heap l1).objs.size=s.heap.objs.size+1:=apY ..;have z2:(yY s.heap l1 l2).objs.size=s.heap.objs.size+2:=by rw[apY,z1]
 have z3:(yX s.heap l1 l2).objs.size=s.heap.objs.size+3:=by rw[apY,z2]
 have z4:(yW s.heap l1 l2).objs.size=s.heap.objs.size+4:=by rw[apY,z3]
 have g5:(rF s.heap l1 l2).get? (yW s.heap l1 l2).objs.size=ζ _:=apF _ rfl;have g4:(rF s.heap l1 l2).get? (yX s.heap l1 l2).objs.size=ζ _:=apt _ (apF _ rfl);have g3:(rF s.heap l1 l2).get? (yY s.heap l1 l2).objs.size=ζ _:=apt _ (apt _ (apF _ rfl));have g2:(rF s.heap l1 l2).get? (yZ s.heap l1).objs.size=ζ _:=apt _ (apt _ (apt _ (apF _ rfl)));have g1:(rF s.heap l1 l2).get? s.heap.objs.size=ζ _:=apt _ (apt _ (apt _ (apt _ (apF _ rfl))));show _/\_;rw[z2,z3,z4]at g5;rw[z1,z2]at g3;rw[z3]at g4;rw[z1]at g2;rw[z4];exact⟨⟨_,g5,rfl⟩,h _ g5 g3 g4 ⟨_,g1,rfl,rfl⟩ ⟨_,g2,rfl,rfl⟩ λc o x =>
  apt _ (apt _ (apt _ (apt _ (apt _ x))))⟩
open AutoSeq1 (wpAny_loadPart')
theorem afc(l:Θ) (items:Array Γ) (n:Nat) (dct:Option Θ) (sl:Array (Option Γ)) :
  Meets (Builtin.«enumerate.__new__» ⟨[.type "enumerate",.ref l],[]⟩) (λ_ R s=>s.heap.get? l=ζ {cls:=.type "tuple",dict:=dct,data:=.seq items n,slots:=sl} /\
   R (.ok (.ret (.ref (s.heap.push {cls:=.type "tuple_iterator",data:=.fields #[.ref l,.int 0 0]}).objs.size)))
    {s with heap:=(s.heap.push {cls:=.type "tuple_iterator",data:=.fields #[.ref l,.int 0 0]}).push {cls:=.type "enumerate",data:=.fields #[.none,.bool Δ,.ref s.heap.objs.size,rawInt 0,.none,.none]} }) :=
 .of_wp λprog w A R s h=>by
  obtain⟨hp,g,d,tk,os⟩:=s;obtain⟨hl,h⟩:=h;have hsub:=sub_enumerate;have hL:ahK (Shared.heap ⟨hp,g,d,tk,os⟩) l items:=⟨_,hl,rfl,n,rfl⟩
  wp_walk using wpAny_loadPart' hl
  refine wpAny_stack_any λst=>apr ?_
  split
  ·rename_i c _ _ _ _ _;cases(c==Value.type "enumerate")
   ·wp_walk using wpAny_loadPart' hl,aq5 hL
    exact⟨_,rfl,h⟩
   ·wp_walk using wpAny_loadPart' hl,aq5 hL
    exact⟨_,rfl,h⟩
  ·wp_walk using wpAny_loadPart' hl,aq5 hL
   exact⟨_,rfl,h⟩
theorem alP{l:Θ}{items:Array Γ}{Q:Γ->ε->Prop}(hL:s.heap.IsTuple l items)
  (h:∀h',IsEnum h' (s.heap.objs.size+1) s.heap.objs.size 0 .none->h'.IsTupleIter s.heap.objs.size l 0->h'.objs.size=s.heap.objs.size+2 ->
   (∀b o,s.heap.get? b=ζ o->h'.get? b=ζ o)->Q (.ref (s.heap.objs.size+1)) {s with heap:=h'}) :
  wpAny (model prog w) A (call (.type "enumerate") [.ref l]) Q E s:=by
 obtain⟨⟨c,dct,dt,sl⟩,hl,hc,n,hd⟩:=hL
 replace hc:c=.type "tuple":=hc
 replace hd:dt=.seq items n:=hd
 subst hc hd;refine callType_new F.called_enumerate (by decide) (F.typeCall_enumerate_1 _) (F.newCall_enumerate_1 _) (λobj=>F.args_object_init_2 obj _) F.entry_enumerate_new
  (afc l items n dct sl) ⟨hl,?_⟩
 have hz:(s.heap.push {cls:=.type "tuple_iterator",data:=.fields #[.ref l,.int 0 0]}).objs.size=s.heap.objs.size+1:=apY ..;show _/\_;rw[hz];have he:IsEnum ((s.heap.push {cls:=.type "tuple_iterator",data:=.fields #[.ref l,.int 0 0]}).push
   {cls:=.type "enumerate",data:=.fields #[.none,.bool Δ,.ref s.heap.objs.size,rawInt 0,.none,.none]}) (s.heap.objs.size+1) s.heap.objs.size 0 .none:=by
  have:=apF (s.heap.push {cls:=.type "tuple_iterator",data:=.fields #[.ref l,.int 0 0]})
   (o:={cls:=.type "enumerate",data:=.fields #[.none,.bool Δ,.ref s.heap.objs.size,rawInt 0,.none,.none]}) rfl
  rw[hz]at this;exact this
 refine⟨⟨_,he,rfl⟩,h _ he ⟨_,apt _ (apF _ rfl),rfl,rfl⟩ (by rw[apY,hz]) λb o x=>apt _ (apt _ x)⟩
end
end PySem
namespace L2
open PySem PySem.Spec PyProof.Rows
section
variable {X:Cx}{pins:List (Θ×Obj)}{σ:St}{H:Hp}{s:ε}{K:Ω}
theorem aiD{a b:Θ}{xs:List V}(I:Inv X pins σ H s) (f:gK X pins H b) (q:cF X.K H a xs):a≠b:=by
 rintro rfl
 rcases q with(q|⟨o,q⟩)|⟨o,its,n,q,_⟩
 ·rw[f.1]at q;cases q
 ·rw[f.1]at q;cases q
 ·have e:=I.ok.mod.lU a o q
  rcases f.2.2.2.1 with z|z
  ·exact I.ok.lK _ _ e z
  ·exact absurd (apG (apy e) (apW I.ok.iS z)) (aqd _)
theorem aiE{a b:Θ}{xs:List V}(I:Inv X pins σ H s) (f:gK X pins H b) (q:bD X.K H a xs):a≠b:=by
 rintro rfl
 rcases q with(q|⟨o,q⟩)|⟨o,its,n,q,_⟩
 ·rw[f.1]at q;cases q
 ·rw[f.1]at q;cases q
 ·have e:=I.ok.mod.lU a o q
  rcases f.2.2.2.1 with z|z
  ·exact I.ok.lK _ _ e z
  ·exact absurd (apG (apy e) (apW I.ok.iS z)) (aqd _)
theorem Inv.Lc{h':χ}{t':Nat}{ch:List Θ}{T:Θ}{vs:List V}{us:List Γ}(I:Inv X pins σ H s) (hf:∀b∈ch,gK X pins H b) (k:∀b o,b∉ch->s.heap.get? b=ζ o->h'.get? b=ζ o)
  (hT:s.heap.objs.size<=T) (th:∀b∈ch,∃o,h'.get? b=ζ o) (rv:Vals vs us) (hz:vs.length<=ι) (tup:k9 h' T us.toArray):Inv X pins σ (upd H T (.tup vs)) {s with heap:=h',toks:=t'}:=by
 have hn:H T=η:=I.hok.fresh hT;have jT:∀b u,H b=ζ u->b∉ch:=λb u e z=>by rw[(hf b z).1]at e;cases e
 refine I.step (g':=s.gens) (d':=s.drawn) (ch:=ch) (λb hb=>?_) (λb o _ _ hc e _=>k b o hc e) (λb o _ _ hc e _=>⟨o.slots,k b o hc e⟩) (λb o _ e n=>?_)
  (λb o hc e=>⟨o,k b o hc e⟩) (λb xs e=>by rw[bX (dQ e hn)];exact e) (λb o u e=>by rw[bX (dQ e hn)];exact e) (λb ps e=>⟨#[],by rw[bX (dQ e hn),e];simp⟩) (λm hm=>?_) (λb u e=>?_) I.bare
 ·obtain⟨f0,f1,f2,f3,f4,f5⟩:=hf b hb;exact⟨f3,f1,f4,f5⟩
 ·rw[bX (apz (apG (apy e) hT))];exact n
 ·obtain⟨o,es,ep,ho,r⟩:=hm;exact⟨o,es,ep,k _ o (λz=>(hf _ z).2.1 rfl) ho,r⟩
 ·by_cases hb:b=T
  ·subst hb;rw[e8]at e;cases e;exact⟨hz,us,rv,tup⟩
  ·rw[bX hb]at e;refine(I.hok b u e).stay (λc v hc q=>k c v ?_ q) (λc q=>by rw[bX (dQ q hn)];exact q) λc xs q=>by rw[bX (dQ q hn)];exact q
   rcases hc with z|z
   ·rw[z];exact jT b u e
   ·exact jT c _ z
theorem Inv.Ld{h':χ}{t':Nat}{ch:List Θ}(I:Inv X pins σ H s) (hf:∀b∈ch,gK X pins H b) (k:∀b o,b∉ch->s.heap.get? b=ζ o->h'.get? b=ζ o):Inv X pins σ H {s with heap:=h',toks:=t'}:=by
 have jT:∀b u,H b=ζ u->b∉ch:=λb u e z=>by rw[(hf b z).1]at e;cases e
 refine I.step (g':=s.gens) (d':=s.drawn) (ch:=ch) (λb hb=>?_) (λb o _ _ hc e _=>k b o hc e) (λb o _ _ hc e _=>⟨o.slots,k b o hc e⟩) (λb o _ e n=>n)
  (λb o hc e=>⟨o,k b o hc e⟩) (λb xs e=>e) (λb o u e=>e) (λb ps e=>⟨#[],by rw[e];simp⟩) (λm hm=>?_) (λb u e=>?_) I.bare
 ·obtain⟨f0,f1,f2,f3,f4,f5⟩:=hf b hb;exact⟨f3,f1,f4,f5⟩
 ·obtain⟨o,es,ep,ho,r⟩:=hm;exact⟨o,es,ep,k _ o (λz=>(hf _ z).2.1 rfl) ho,r⟩
 ·refine(I.hok b u e).stay (λc v hc q=>k c v ?_ q) (λc q=>q) λc xs q=>q
  rcases hc with z|z
  ·rw[z];exact jT b u e
  ·exact jT c _ z
end
structure Cb (P:υ) (w:ψ) (K:Ω) (Sq:Hp->Θ->List V->Prop) (kj:χ->Θ->Θ->Nat->Prop) (vO:χ->Θ->Array Γ->Prop):Prop where
 get:∀{X:Cx}{pins:List (Θ×Obj)}{σ:St}{H:Hp}{s:ε}{a:Θ}{xs:List V},X.K=K->Inv X pins σ H s->Sq H a xs->∃its:List Γ,Vals xs its/\vO s.heap a its.toArray/\xs.length<=ι
 inj:∀{X:Cx}{pins:List (Θ×Obj)}{σ:St}{H:Hp}{s:ε}{a:Θ}{xs ys:List V},X.K=K->Inv X pins σ H s->Sq H a xs->Sq H a ys->xs=ys
 ne:∀{X:Cx}{pins:List (Θ×Obj)}{σ:St}{H:Hp}{s:ε}{a b:Θ}{xs:List V},X.K=K->Inv X pins σ H s->gK X pins H b->Sq H a xs->a≠b
 l8:∀(A:acr) (it l:Θ) (items:Array Γ),A.handled=η->l≠it->ahJ P w A it [it,l] items.size (λi v=>items[i]? = ζ v) (λi h=>kj h it l i/\vO h l items)
 obj:∀{h:χ}{it l:Θ}{i:Nat},kj h it l i->∃o,h.get? it=ζ o/\∀v,o.data≠.cell v
 at':∀{h h':χ}{it l:Θ}{i:Nat},kj h it l i->(∀o,h.get? it=ζ o->h'.get? it=ζ o)->kj h' it l i
theorem L3{P:υ}{w:ψ}{K:Ω}:Cb P w K (cF K) (λh it l i=>h.IsTupleIter it l i) (λh a xs=>h.IsTuple a xs) where
 get:=λe I q=>by subst e;obtain⟨its,r,p,z⟩:=I.tuple q;exact⟨its,r,p,z⟩
 inj:=λe I q q'=>by subst e;exact I.Lg q q'
 ne:=λe I f q=>by subst e;exact aiD I f q
 l8:=λA it l items hh hne=>Draws.tuple hh it l hne items
 obj:=λst=>by obtain⟨o,e,c,d⟩:=st;exact⟨o,e,λv z=>by rw[d]at z;cases z⟩
 at':=λst k=>st.at k
theorem L4{P:υ}{w:ψ}{K:Ω}:Cb P w K (bD K) (λh it l i=>h.IsListIter it l i) (λh a xs=>h.IsList a xs) where
 get:=λe I q=>by subst e;obtain⟨its,r,p,z⟩:=I.list q;exact⟨its,r,p.isList,z⟩
 inj:=λe I q q'=>by subst e;exact I.N4 q q'
 ne:=λe I f q=>by subst e;exact aiE I f q
 l8:=λA it l items hh hne=>Draws.list hh it l hne items
 obj:=λst=>by obtain⟨o,e,c,d⟩:=st;exact⟨o,e,λv z=>by rw[d]at z;cases z⟩
 at':=λst k=>st.at k
def Ci(Sq:Hp->Θ->List V->Prop) (a1 a2:Θ):It :=
  ⟨λi H=>∃xs ys x y,Sq H a1 xs/\Sq H a2 ys/\xs[i]? = ζ x/\ys[i]? = ζ y,
   λi H v H'=>∃t x y,v=.ref t/\H t=η/\H'=upd H t (.tup [x,y])/\∀xs ys,Sq H a1 xs->Sq H a2 ys->xs[i]? = ζ x/\ys[i]? = ζ y,
   λi H=>∃xs ys,Sq H a1 xs/\Sq H a2 ys/\(i=xs.length\/(i<xs.length/\i=ys.length))⟩
def Cj(Sq:Hp->Θ->List V->Prop) (a:Θ):It :=
  ⟨λi H=>∃xs x,Sq H a xs/\xs[i]? = ζ x,
   λi H v H'=>∃t x,v=.ref t/\H t=η/\H'=upd H t (.tup [.int i,x])/\∀xs,Sq H a xs->xs[i]? = ζ x,
   λi H=>∃xs,Sq H a xs/\i=xs.length⟩
theorem zg{xs:List V}{us:List Γ}{i:Nat}{u:Γ}(r:Vals xs us) (h:us.toArray[i]? = ζ u):∃x,xs[i]? = ζ x/\RelV x u:=by
 have h':us[i]? = ζ u:=by simpa using h
 have hi:i<xs.length:=by rw[r.length];exact(apK.mp h').1
 obtain⟨u',e,q⟩:=r.get (i:=i) (x:=xs[i]) (apw hi);rw[h']at e;cases e;exact⟨xs[i],apw hi,q⟩
theorem Le{P:υ}{w:ψ}{K:Ω}{Sq:Hp->Θ->List V->Prop}{kj:χ->Θ->Θ->Nat->Prop}{vO:χ->Θ->Array Γ->Prop}(S:Cb P w K Sq kj vO) {es:List ο}{k:Nat}{pt:Pos}(a1 a2 z TI TO i1 i2:Θ)
  (n1:TI≠z) (n2:TO≠z) (n3:TI≠TO) (n4:TI≠i1) (n5:TI≠i2) (n6:TO≠i1) (n7:TO≠i2) (n8:i1≠z) (n9:i2≠z) (ug:i1≠i2) :
  Turn P w K (.Tuple es k pt) (Ci Sq a1 a2) [z,TI,TO,i1,i2] z (λi h=>ahg h z TI TO .none/\aeh h TI (.ref i1) (.ref i2)/\(∃a b,aeh h TO a b)/\kj h i1 a1 i/\kj h i2 a2 i) where
 mem:=by simp
 obj:=λi h st b hb=>by
  obtain⟨hz,hTI,⟨a,b',hTO⟩,h1,h2⟩:=st;simp only[apu,apI,or_false]at hb
  rcases hb with rfl|rfl|rfl|rfl|rfl
  ·exact⟨_,hz,λv q=>nomatch q⟩
  ·exact⟨_,hTI,λv q=>nomatch q⟩
  ·exact⟨_,hTO,λv q=>nomatch q⟩
  ·exact S.obj h1
  ·exact S.obj h2
 keep:=λi h h' st kp=>by
  obtain⟨hz,hTI,⟨a,b,hTO⟩,h1,h2⟩:=st;exact⟨kp _ (by simp) _ hz,kp _ (by simp) _ hTI,⟨a,b,kp _ (by simp) _ hTO⟩,S.at' h1 λo e=>kp _ (by simp) o e,S.at' h2 λo e=>kp _ (by simp) o e⟩
 item:=by
  intro X hP hw hK hc i pins s σ H E I hf st hg;subst hP hw;obtain⟨xs,ys,x,y,q1,q2,hx,hy⟩:=hg;obtain⟨hz,hTI,⟨a,b,hTO⟩,h1,h2⟩:=st;obtain⟨us,r1,p1,l1⟩:=S.get hK I q1;obtain⟨vs,r2,p2,l2⟩:=S.get hK I q2;have ne1:∀{b:Θ},b∈[z,TI,TO,i1,i2]->a1≠b:=λhb=>S.ne hK I (hf _ hb) q1
  have ne2:∀{b:Θ},b∈[z,TI,TO,i1,i2]->a2≠b:=λhb=>S.ne hK I (hf _ hb) q2
  have hx':i<us.toArray.size:=by have:=(apK.mp hx).1;have:=r1.length;simp;omega
  have hy':i<vs.toArray.size:=by have:=(apK.mp hy).1;have:=r2.length;simp;omega
  have D:ZA z TI TO i1 i2 [i1,a1] [i2,a2]:=⟨n1,n2,n3,n4,n5,by simp,by simp,by simp only[apu,apI,or_false,not_or];exact⟨n8.symm,(ne1 (by simp)).symm⟩,by simp only[apu,apI,or_false,not_or];exact⟨n9.symm,(ne2 (by simp)).symm⟩,
   by simp only[apu,apI,or_false,not_or];exact⟨n6,(ne1 (by simp)).symm⟩,by simp only[apu,apI,or_false,not_or];exact⟨n7,(ne2 (by simp)).symm⟩,
   by simp only[apu,apI,or_false,not_or];exact⟨ug,(ne2 (by simp)).symm⟩,by simp only[apu,apI,or_false,not_or];exact⟨ug.symm,(ne1 (by simp)).symm⟩⟩
  refine YR D (S.l8 X.A.in1 i1 a1 us.toArray (I.ok.hd hc) (ne1 (by simp))) (S.l8 X.A.in1 i2 a2 vs.toArray (I.ok.hd hc) (ne2 (by simp))) hz hTI hTO ⟨h1,p1⟩ ⟨h2,p2⟩ hx' hy' λu v h' tk pu pv hz' Pd s1 s2 hT kp=>?_
  refine⟨_,rfl,?_⟩;refine wpAny_letOwnedTupleGo_zip (s:={s with heap:=h',toks:=tk}) hz' λh'' OL lY=>?_
  obtain⟨x',ex,rx⟩:=zg r1 pu;obtain⟨y',ey,ry⟩:=zg r2 pv;have lt:∀{c:Θ}{o:Obj},s.heap.get? c=ζ o->c≠s.heap.objs.size:=λe=>apz (apy e)
  have xM:∀c o,c∉[z,TO,i1,i2]->s.heap.get? c=ζ o->h''.get? c=ζ o:=λc o hcn e=>by
   simp only[apu,apI,or_false,not_or]at hcn;exact lY.extBut _ _ hcn.1 (kp c o hcn.1 hcn.2.1 hcn.2.2.1 hcn.2.2.2 e)
  have hT2:k9 h'' s.heap.objs.size [u,v].toArray:=⟨_,lY.extBut _ _ (lt hz).symm hT,rfl,⟨_,rfl⟩,rfl⟩;have I2:Inv X pins σ (upd H s.heap.objs.size (.tup [x',y'])) {s with heap:=h'',toks:=tk}:=by
   refine I.Lc (ch:=[z,TO,i1,i2]) (us:=[u,v]) (λb hb=>hf b ?_) xM (aps _) (λb hb=>?_) (.cons rx (.cons ry .nil)) (by show 2<=ι;decide) hT2
   ·simp only[apu,apI,or_false]at hb ⊢
    rcases hb with rfl|rfl|rfl|rfl<;>simp
   ·simp only[apu,apI,or_false]at hb
    rcases hb with rfl|rfl|rfl|rfl
    ·exact⟨_,OL⟩
    ·exact⟨_,lY.extBut _ _ n2 Pd⟩
    ·obtain⟨o,e,_⟩:=S.obj s1.1;exact⟨_,lY.extBut _ _ n8 e⟩
    ·obtain⟨o,e,_⟩:=S.obj s2.1;exact⟨_,lY.extBut _ _ n9 e⟩
  refine⟨.ref s.heap.objs.size,_,I2,rfl,⟨_,x',y',rfl,I.hok.fresh (aps _),rfl,λxs' ys' w1 w2=>?_⟩,⟨OL,?_,⟨_,_,lY.extBut _ _ n2 Pd⟩,S.at' s1.1 λo e=>lY.extBut _ _ n8 e,S.at' s2.1 λo e=>lY.extBut _ _ n9 e⟩,λb hb=>?_⟩
  ·rw[S.inj hK I w1 q1,S.inj hK I w2 q2];exact⟨ex,ey⟩
  ·exact lY.extBut _ _ n1 (kp _ _ n1 n3 n4 n5 hTI)
  ·have hb':b≠s.heap.objs.size:=by
    simp only[apu,apI,or_false]at hb
    rcases hb with rfl|rfl|rfl|rfl|rfl
    ·exact lt hz
    ·exact lt hTI
    ·exact lt hTO
    ·obtain⟨o,e,_⟩:=S.obj h1;exact lt e
    ·obtain⟨o,e,_⟩:=S.obj h2;exact lt e
   rw[bX hb'];exact(hf b hb).1
 done:=by
  intro X hP hw hK hc i pins s σ H E I hf st hg;subst hP hw;obtain⟨xs,ys,q1,q2,hend⟩:=hg;obtain⟨hz,hTI,⟨a,b,hTO⟩,h1,h2⟩:=st;obtain⟨us,r1,p1,l1⟩:=S.get hK I q1;obtain⟨vs,r2,p2,l2⟩:=S.get hK I q2;have ne1:∀{b:Θ},b∈[z,TI,TO,i1,i2]->a1≠b:=λhb=>S.ne hK I (hf _ hb) q1
  have ne2:∀{b:Θ},b∈[z,TI,TO,i1,i2]->a2≠b:=λhb=>S.ne hK I (hf _ hb) q2
  have D:ZA z TI TO i1 i2 [i1,a1] [i2,a2]:=⟨n1,n2,n3,n4,n5,by simp,by simp,by simp only[apu,apI,or_false,not_or];exact⟨n8.symm,(ne1 (by simp)).symm⟩,by simp only[apu,apI,or_false,not_or];exact⟨n9.symm,(ne2 (by simp)).symm⟩,
   by simp only[apu,apI,or_false,not_or];exact⟨n6,(ne1 (by simp)).symm⟩,by simp only[apu,apI,or_false,not_or];exact⟨n7,(ne2 (by simp)).symm⟩,
   by simp only[apu,apI,or_false,not_or];exact⟨ug,(ne2 (by simp)).symm⟩,by simp only[apu,apI,or_false,not_or];exact⟨ug.symm,(ne1 (by simp)).symm⟩⟩
  have e1:=r1.length;have e2:=r2.length;refine YS D (S.l8 X.A.in1 i1 a1 us.toArray (I.ok.hd hc) (ne1 (by simp))) (S.l8 X.A.in1 i2 a2 vs.toArray (I.ok.hd hc) (ne2 (by simp))) hz hTI hTO (k:=i) ⟨h1,p1⟩ ⟨h2,p2⟩ (by simp only[apH];omega) λh' tk kp=>?_
  refine⟨rfl,I.Ld (ch:=[z,TO,i1,i2]) (λb hb=>hf b ?_) λc o hcn e=>?_⟩
  ·simp only[apu,apI,or_false]at hb ⊢
   rcases hb with rfl|rfl|rfl|rfl<;>simp
  ·simp only[apu,apI,or_false,not_or]at hcn;exact kp c o hcn.1 hcn.2.1 hcn.2.2.1 hcn.2.2.2 e
 self:=λA i s Q E st h=>as4 st.1 h
theorem Lf{P:υ}{w:ψ}{K:Ω}{Sq:Hp->Θ->List V->Prop}{kj:χ->Θ->Θ->Nat->Prop}{vO:χ->Θ->Array Γ->Prop}(S:Cb P w K Sq kj vO) {es:List ο}{k:Nat}{pt:Pos}(a e it:Θ) (n1:e≠it) :
  Turn P w K (.Tuple es k pt) (Cj Sq a) [e,it] e (λi h=>(∃old,IsEnum h e it i old)/\kj h it a i) where
 mem:=by simp
 obj:=λi h st b hb=>by
  obtain⟨⟨old,hz⟩,h1⟩:=st;simp only[apu,apI,or_false]at hb
  rcases hb with rfl|rfl
  ·exact⟨_,hz,λv q=>nomatch q⟩
  ·exact S.obj h1
 keep:=λi h h' st kp=>by
  obtain⟨⟨old,hz⟩,h1⟩:=st;exact⟨⟨old,kp _ (by simp) _ hz⟩,S.at' h1 λo e=>kp _ (by simp) o e⟩
 item:=by
  intro X hP hw hK hc i pins s σ H E I hf st hg;subst hP hw;obtain⟨xs,x,q1,hx⟩:=hg;obtain⟨⟨old,hz⟩,h1⟩:=st;obtain⟨us,r1,p1,l1⟩:=S.get hK I q1;have ne1:∀{b:Θ},b∈[e,it]->a≠b:=λhb=>S.ne hK I (hf _ hb) q1
  have hx':i<us.toArray.size:=by have:=(apK.mp hx).1;have:=r1.length;simp;omega
  have W:=WalksT.enumerateD (A:=X.A) (S.l8 X.A.in1 it a us.toArray (I.ok.hd hc) (ne1 (by simp))) e n1 (by simp only[apu,apI,or_false,not_or];exact⟨n1,(ne1 (by simp)).symm⟩) (by simp)
  refine wpAny_pyNext_enum_itemD (S.l8 X.A.in1 it a us.toArray (I.ok.hd hc) (ne1 (by simp))) hz ⟨h1,p1⟩ hx' n1 (by simp only[apu,apI,or_false,not_or];exact⟨n1,(ne1 (by simp)).symm⟩) λu0 h' tk0 YY ho0 hs0 hT0 hsz0 hk0=>?_
  have hilt:it<s.heap.objs.size:=by obtain⟨o,e3,_⟩:=S.obj h1;exact apy e3
  have hT:s.heap.objs.size<=s.heap.objs.size:=aps _;have mid:(∃x,IsEnumOut h' e it ((i:Int)+1) x s.heap.objs.size)/\_/\s.heap.objs.size≠e/\s.heap.objs.size≠it:=⟨⟨_,ho0⟩,hs0,aqe (apy hz),aqe hilt⟩;have kp:∀b o,b∉[e,it]->s.heap.get? b=ζ o->h'.get? b=ζ o:=λb o hb y=>hk0 b o (λe'=>hb (by simp[e'])) (λe'=>hb (by simp[e'])) y
  refine⟨_,rfl,?_⟩;refine W.go es k pt i s.heap.objs.size {s with heap:=h',toks:=tk0+1} _ _ mid λh'' st'' Of=>?_
  obtain⟨x',ex,rx⟩:=zg r1 YY;have lt:∀{c:Θ}{o:Obj},s.heap.get? c=ζ o->c≠s.heap.objs.size:=λq=>apz (apy q)
  have hT2:k9 h'' s.heap.objs.size [.int i tk0,u0].toArray:=⟨_,Of _ _ (W.apart _ _ _ mid) hT0,rfl,⟨_,rfl⟩,rfl⟩;have I2:Inv X pins σ (upd H s.heap.objs.size (.tup [.int i,x'])) {s with heap:=h'',toks:=tk0+1}:=by
   refine I.Lc (ch:=[e,it]) (us:=[.int i tk0,u0]) hf (λc o hcn e1=>Of _ _ hcn (kp c o hcn e1)) hT (λb hb=>?_) (.cons ⟨tk0,rfl⟩ (.cons rx .nil)) (by show 2<=ι;decide) hT2
   simp only[apu,apI,or_false]at hb
   rcases hb with rfl|rfl
   ·obtain⟨⟨o2,e2⟩,_⟩:=st'';exact⟨_,e2⟩
   ·obtain⟨_,e2,_⟩:=st'';obtain⟨o,e3,_⟩:=S.obj e2;exact⟨o,e3⟩
  refine⟨.ref s.heap.objs.size,_,I2,rfl,⟨_,x',rfl,I.hok.fresh hT,rfl,λxs' w1=>?_⟩,⟨?_,st''.2.1⟩,λb hb=>?_⟩
  ·rw[S.inj hK I w1 q1];exact ex
  ·obtain⟨⟨o2,e2⟩,_⟩:=st'';exact⟨o2,by simpa using e2⟩
  ·have hb':b≠s.heap.objs.size:=by
    simp only[apu,apI,or_false]at hb
    rcases hb with rfl|rfl
    ·exact lt hz
    ·obtain⟨o,e3,_⟩:=S.obj h1;exact lt e3
   rw[bX hb'];exact(hf b hb).1
 done:=by
  intro X hP hw hK hc i pins s σ H E I hf st hg;subst hP hw;obtain⟨xs,q1,hend⟩:=hg;obtain⟨⟨old,hz⟩,h1⟩:=st;obtain⟨us,r1,p1,l1⟩:=S.get hK I q1;have ne1:∀{b:Θ},b∈[e,it]->a≠b:=λhb=>S.ne hK I (hf _ hb) q1
  have W:=WalksT.enumerateD (A:=X.A) (S.l8 X.A.in1 it a us.toArray (I.ok.hd hc) (ne1 (by simp))) e n1 (by simp only[apu,apI,or_false,not_or];exact⟨n1,(ne1 (by simp)).symm⟩) (by simp)
  have ei:i=us.toArray.size:=by rw[apH,<-r1.length];exact hend
  subst ei;refine W.done s _ _ ⟨⟨old,hz⟩,h1,p1⟩ λh' tk kp=>⟨rfl,I.Ld (ch:=[e,it]) hf kp⟩
 self:=λA i s Q E st h=>by
  obtain⟨⟨old,hz⟩,h1⟩:=st;exact as5 hz h
section
variable {X:Cx}{es':List ο}{kt:Nat}{pt:Pos}
def OE(Sq:Hp->Θ->List V->Prop) (ta:TA):TI:=λσ H R=>ta σ H λvs H1=>∃a b,vs=[.ref a,.ref b]/\(∃xs ys,Sq H1 a xs/\Sq H1 b ys)/\R (Ci Sq a b) H1
def OF(Sq:Hp->Θ->List V->Prop) (ta:TA):TI:=λσ H R=>ta σ H λvs H1=>∃a,vs=[.ref a]/\(∃xs,Sq H1 a xs)/\R (Cj Sq a) H1
theorem yV{pins:List (Θ×Obj)}{σ:St}{H:Hp}{s:ε}{n:Nat}(I:Inv X pins σ H s) (hn:s.heap.objs.size=n):∀b∈[n+4,n+2,n+3,n,n+1],gK X pins H b:=λb hb=>by
 have:s.heap.objs.size<=b:=by
  simp only[apu,apI,or_false]at hb
  rcases hb with rfl|rfl|rfl|rfl|rfl<;>rw[hn]
  ·exact aru _ _
  ·exact aru _ _
  ·exact aru _ _
  ·exact aps _
  ·exact aru _ _
 exact I.yc this (I.hok.fresh this)
theorem aao{a b:ο}{ta:TA}{p pos:Pos}(hg:Gl X "zip") (hm:X.mg "zip"=η) (ha:PA X [a,b] ta) (hs:μ [a,b] X.env=[(Δ,eval a X.env),(Δ,eval b X.env)]:=by rfl) (hs2:μ [b] X.env=[(Δ,eval b X.env)]:=by rfl) :
  PI X (.Tuple es' kt pt) (.Call (.Name "zip" p) [a,b] [] pos) (OE (cF X.K) ta):=by
 intro pins s σ H R I h;refine Call_ (kQ I hg hm boot_zip (aqT (bw (ha pos pins s σ H _ I h) λus s1 ⟨vs,H1,I1,r1,q1⟩=>?_) (by rw[hs,hs2]) (by rw[hs2];rfl)))
 obtain⟨a1,a2,e,⟨xs,ys,q1,q2⟩,q⟩:=q1;subst e;cases r1 with
 |cons r rr =>
  cases rr with
  |cons r' rr =>
   cases rr;cases r;cases r';obtain⟨us,ru,pu,lu⟩:=I1.tuple q1;obtain⟨vs,rv,pv,lv⟩:=I1.tuple q2;refine alH pu pv λh' hz hTI hTO t1 t2 kp=>as4 hz ?_
   generalize hn:s1.heap.objs.size=n at hz hTI hTO t1 t2
   have ne:∀{i j:Nat},i≠j->n+i≠n+j:=λh e=>h (asp e)
   have lN:∀{i:Nat},i≠0->n+i≠n:=λh e=>h (asp (e.trans (arv n).symm))
   refine⟨n+4,_,_,_,H1,rfl,I1.kept (t':=s1.toks) kp,Le L3 a1 a2 (n+4) (n+2) (n+3) n (n+1) (ne (by decide)) (ne (by decide)) (ne (by decide)) (lN (by decide)) (ne (by decide)) (lN (by decide)) (ne (by decide)) (lN (by decide)).symm (ne (by decide)) (lN (by decide)).symm,⟨hz,hTI,⟨_,_,hTO⟩,t1,t2⟩,yV I1 hn,q⟩
theorem aap{a b:ο}{ta:TA}{p pos:Pos}(hg:Gl X "zip") (hm:X.mg "zip"=η) (ha:PA X [a,b] ta) (hs:μ [a,b] X.env=[(Δ,eval a X.env),(Δ,eval b X.env)]:=by rfl) (hs2:μ [b] X.env=[(Δ,eval b X.env)]:=by rfl) :
  PI X (.Tuple es' kt pt) (.Call (.Name "zip" p) [a,b] [] pos) (OE (bD X.K) ta):=by
 intro pins s σ H R I h;refine Call_ (kQ I hg hm boot_zip (aqT (bw (ha pos pins s σ H _ I h) λus s1 ⟨vs,H1,I1,r1,q1⟩=>?_) (by rw[hs,hs2]) (by rw[hs2];rfl)))
 obtain⟨a1,a2,e,⟨xs,ys,q1,q2⟩,q⟩:=q1;subst e;cases r1 with
 |cons r rr =>
  cases rr with
  |cons r' rr =>
   cases rr;cases r;cases r';obtain⟨us,ru,pu,lu⟩:=I1.list q1;obtain⟨vs,rv,pv,lv⟩:=I1.list q2;refine call_zip_2 pu.isList pv.isList λh' hz hTI hTO t1 t2 _ kp=>as4 hz ?_
   generalize hn:s1.heap.objs.size=n at hz hTI hTO t1 t2
   have ne:∀{i j:Nat},i≠j->n+i≠n+j:=λh e=>h (asp e)
   have lN:∀{i:Nat},i≠0->n+i≠n:=λh e=>h (asp (e.trans (arv n).symm))
   refine⟨n+4,_,_,_,H1,rfl,I1.kept (t':=s1.toks) kp,Le L4 a1 a2 (n+4) (n+2) (n+3) n (n+1) (ne (by decide)) (ne (by decide)) (ne (by decide)) (lN (by decide)) (ne (by decide)) (lN (by decide)) (ne (by decide)) (lN (by decide)).symm (ne (by decide)) (lN (by decide)).symm,⟨hz,hTI,⟨_,_,hTO⟩,t1,t2⟩,yV I1 hn,q⟩
theorem aav{a:ο}{ta:TA}{p pos:Pos}(hg:Gl X "enumerate") (hm:X.mg "enumerate"=η) (ha:PA X [a] ta) (hs:μ [a] X.env=[(Δ,eval a X.env)]:=by rfl) :
  PI X (.Tuple es' kt pt) (.Call (.Name "enumerate" p) [a] [] pos) (OF (cF X.K) ta):=by
 intro pins s σ H R I h;refine Call_ (kQ I hg hm boot_enumerate (aqT (bw (ha pos pins s σ H _ I h) λus s1 ⟨vs,H1,I1,r1,q1⟩=>?_) hs rfl))
 obtain⟨a1,e,⟨xs,q1⟩,q⟩:=q1;subst e;cases r1 with
 |cons r rr =>
  cases rr;cases r;obtain⟨us,ru,pu,lu⟩:=I1.tuple q1;refine alP pu λh' hz t1 _ kp=>as5 hz ?_
  generalize hn:s1.heap.objs.size=n at hz t1
  refine⟨n+1,_,_,_,H1,rfl,I1.kept (t':=s1.toks) kp,Lf L3 a1 (n+1) n (aqe (aqp _)),⟨⟨_,hz⟩,t1⟩,λb hb=>?_,q⟩
  refine yV I1 hn b ?_;simp only[apu,apI,or_false]at hb
  rcases hb with rfl|rfl<;>simp
end
section
variable {X:Cx}
theorem Li{A:acr}{bs:List Bool}{its:List Γ}(r:Vals (bs.map V.bl) its):TruthOf X.prog X.w A (λi v=>its.toArray[i]? = ζ v) (λi=>bs.getD i Δ):=by
 intro i v s Q E hP hQ;obtain⟨x,ex,rx⟩:=zg r hP;rw[apM]at ex;cases e:bs[i]? with
 |none=>rw[e]at ex;cases ex
 |some b =>
  rw[e]at ex;cases ex;cases rx;refine aqH ?_;have:bs.getD i Δ=b:=by rw[apD,e];rfl
  have hQ:Q (bs.getD i Δ) s:=hQ;rw[this]at hQ;exact hQ
theorem range_all(bs:List Bool):((θ bs.length).all λi=>bs.getD i Δ)=bs.all id:=by
 rw[aqI,apA,apA]
 constructor
 ·intro h b hb;obtain⟨i,hi,e⟩:=aqV.mp hb;have:=h i (apx.mpr hi);rw[apD,apw hi]at this;rw[<-e];exact this
 ·intro h i hi;have hi:=apx.mp hi;rw[apD,apw hi];exact h _ (apR hi)
theorem range_any(bs:List Bool):((θ bs.length).any λi=>bs.getD i Δ)=bs.any id:=by
 rw[aqI,aqO,aqO]
 constructor
 ·rintro ⟨i,hi,h⟩
  have hi:=apx.mp hi;rw[apD,apw hi]at h;exact⟨_,apR hi,h⟩
 ·rintro ⟨b,hb,h⟩
  obtain⟨i,hi,e⟩:=aqV.mp hb;refine⟨i,apx.mpr hi,?_⟩;rw[apD,apw hi,e];exact h
theorem J7{pins:List (Θ×Obj)}{σ:St}{H:Hp}{s:ε}{h':χ}{tk:Nat}{o:Obj}(I:Inv X pins σ H s) (kp:∀b q,b∉[s.heap.objs.size]->(s.heap.push o).get? b=ζ q->h'.get? b=ζ q):Inv X pins σ H {s with heap:=h',toks:=tk} :=
 I.kept λb q e=>kp b q (by simp only[apu,apI,or_false];exact apz (apy e)) (apt _ e)
theorem alR(hc:X.calm=ξ):d9 X (.builtin "all") (λxs H Q=>∃(p:Θ) (bs:List Bool),xs=[.ref p]/\bD X.K H p (bs.map V.bl)/\Q (.bl (bs.all id)) H):=by
 intro pins s σ H xs us Q I r h;obtain⟨p,bs,rfl,hp,q⟩:=h;obtain⟨u,rfl,ru⟩:=aqc r;cases ru;obtain⟨its,rv,pl,hz⟩:=I.list hp;have hL:=pl.isList;have xS:p≠s.heap.objs.size:=by obtain⟨o,e,_⟩:=hL;exact apz (apy e)
 refine call_all_walk (arf hL ⟨s.heap.objs.size,_,_,its.toArray.size,_,_,λi=>bs.getD i Δ,rfl,arS (A:=X.A.in1) (I.ok.hd hc) s.heap.objs.size p xS its.toArray,⟨⟨_,apF _ rfl,rfl,rfl⟩,hL.push _⟩,Li rv,λh' tk kp=>?_⟩)
 have hl:=rv.length;rw[apC]at hl;have I1:Inv X pins σ H {s with heap:=h',toks:=tk}:=J7 I kp
 refine⟨.bl (bs.all id),H,I1,?_,q⟩;show Value.bool _=Value.bool _;rw[apH,<-hl,range_all]
theorem alQ(hc:X.calm=ξ):d9 X (.builtin "any") (λxs H Q=>∃(p:Θ) (bs:List Bool),xs=[.ref p]/\bD X.K H p (bs.map V.bl)/\Q (.bl (bs.any id)) H):=by
 intro pins s σ H xs us Q I r h;obtain⟨p,bs,rfl,hp,q⟩:=h;obtain⟨u,rfl,ru⟩:=aqc r;cases ru;obtain⟨its,rv,pl,hz⟩:=I.list hp;have hL:=pl.isList;have xS:p≠s.heap.objs.size:=by obtain⟨o,e,_⟩:=hL;exact apz (apy e)
 refine call_any_walk (arf hL ⟨s.heap.objs.size,_,_,its.toArray.size,_,_,λi=>bs.getD i Δ,rfl,arS (A:=X.A.in1) (I.ok.hd hc) s.heap.objs.size p xS its.toArray,⟨⟨_,apF _ rfl,rfl,rfl⟩,hL.push _⟩,Li rv,λh' tk kp=>?_⟩)
 have hl:=rv.length;rw[apC]at hl;have I1:Inv X pins σ H {s with heap:=h',toks:=tk}:=J7 I kp
 refine⟨.bl (bs.any id),H,I1,?_,q⟩;show Value.bool _=Value.bool _;rw[apH,<-hl,range_any]
def tyName(H:Hp):V->String->Prop
 |.aH,n=>n="NoneType"
 |.bl _,n=>n="bool"
 |.int _,n=>n="int"
 |.str _,n=>n="str"
 |.ref a,n=>(n="list"/\((∃xs,H a=ζ (.lst xs))\/∃o xs,H a=ζ (.cY o (.lst xs))))\/(n="tuple"/\∃xs,H a=ζ (.tup xs))\/(n="dict"/\((∃k,H a=ζ (.dK k))\/∃k,H a=ζ (.dT k)))
 |_,_=>False
theorem Uy{K:Ω}{H:Hp}{x:V}{n:String}(h:tyName H x n):jk K H x (.type n):=by
 cases x with
 |aH=>cases(show n="NoneType" from h);exact .aH
 |bl b=>cases(show n="bool" from h);exact .bl b
 |int b=>cases(show n="int" from h);exact .int b
 |str b=>cases(show n="str" from h);exact .str b
 |ref a =>
  rcases h with⟨rfl,⟨xs,e⟩|⟨o,xs,e⟩⟩|⟨rfl,xs,e⟩|⟨rfl,⟨k,e⟩|⟨k,e⟩⟩
  ·exact .lst e
  ·exact .cY e
  ·exact .tup e
  ·exact .dK e
  ·exact .dT e
 |_=>exact False.elim h
def wg(n T:String):Bool:=n==T||(n=="bool"&&T=="int")
def afJ(n T:String):Option Bool:=if(Value.type n==Value.type T)=ξ then ζ ξ else if PySem.W.kitMeta T=ξ then(fastBuiltinMro n).map (·.contains (Value.type T))else η
theorem Og{K:Ω}{n T:String}(hn:n∈["NoneType","bool","int","str","list","tuple","dict"]) (hT:T∈["bool","int","str","list","tuple","dict"]):PySem.W.kitOne K (.type n) (.type T)=ζ (wg n T):=by
 show afJ n T=ζ (wg n T);simp only[apu,apI,or_false]at hn hT
 rcases hn with rfl|rfl|rfl|rfl|rfl|rfl|rfl<;>rcases hT with rfl|rfl|rfl|rfl|rfl|rfl<;>decide +kernel
theorem Uz{H:Hp}{x:V}{n:String}(h:tyName H x n):n∈["NoneType","bool","int","str","list","tuple","dict"]:=by
 cases x with
 |aH=>cases(show n="NoneType" from h);simp
 |bl b=>cases(show n="bool" from h);simp
 |int b=>cases(show n="int" from h);simp
 |str b=>cases(show n="str" from h);simp
 |ref a=>rcases h with⟨rfl,_⟩|⟨rfl,_⟩|⟨rfl,_⟩<;>simp
 |_=>exact False.elim h
theorem alO:d9 X (.builtin "isinstance") (λxs H Q=>∃x n T,xs=[x,.ty T]/\tyName H x n/\T∈["bool","int","str","list","tuple","dict"]/\Q (.bl (wg n T)) H):=by
 intro pins s σ H xs us Q I r h;obtain⟨x,n,T,rfl,hx,hT,q⟩:=h;obtain⟨u,v,rfl,ru,rv⟩:=Vals.two r;cases(show v=Value.type T from rv)
 exact agN I ru (Uy hx) (Og (Uz hx) hT) λtk=>⟨.bl _,H,I.tok tk,rfl,q⟩
end
def ai7(ea C:Θ):χ->Prop:=λh=>∃o,h.get? ea=ζ o/\o.cls=.ref C
def ajk(a:Θ):χ->Prop:=PySem.W.KitAt a "dict"
structure Def (K:Ω) (mg:Str->Option Γ) (x:Str) (st:ad4) (ps:List Str) (f:Θ) (fd:ν):Prop where
 fn:nI K x x st f fd
 at':mg x=ζ (.ref f)
 bd:Binds K fd ps []
section
variable {X:Cx}
theorem aaQ{x:Str}{st:ad4}{ps:List Str}{f:Θ}{fd:ν}{k:Nat}{sp:Sp}{e:ο}{es:List ο}{t:TA}{p pos:Pos}(D:Def X.K X.mg x st ps f fd) (G:bH X.prog X.w X.K X.mg X.base bB k f fd ps sp) (hr:dg k X.A) (ha:PA X (e::es) t) (hg:Gl X x:=by rfl)
  (hdb:(x==("__debug__":Str))=Δ:=by decide) (he:μ (e::es) X.env=(Δ,eval e X.env)::μ es X.env:=by rfl) (hpl:(aea pos (μ es X.env)).any (·.1)=Δ:=by rfl) :
  PE X (.Call (.Name x p) (e::es) [] pos) (Ly sp [] E0 t):=aaV G hr hg D.at' D.fn.kp D.bd .nil abe ha hdb he hpl
theorem aaD{x:Str}{n:String}{pos:Pos}(hg:Gl X x) (hm:X.mg x=η) (hv:bootBuiltins x=ζ (.type n)) (hn:x≠"__name__":=by decide) (hd:(x==("__debug__":Str))=Δ:=by decide):PE X (.Name x pos) (tC (.ty n)):=aaW hg hm hv rfl hn hd
end
def isStar:ο->Bool
 |.Starred _ _=>ξ
 |_=>Δ
theorem cR{a:ο}{es:List ο}{env:Env}(h:isStar a=Δ):μ (a::es) env=(Δ,eval a env)::μ es env:=by
 cases a<;>first|(cases h;done)|(simp only[μ];done)
def noStar(es:List ο):Bool:=es.all λa=>!isStar a
theorem e9{es:List ο}{env:Env}{pos:Pos}(h:noStar es=ξ):(aea pos (μ es env)).any (·.1)=Δ:=by
 induction es with
 |nil=>simp only[μ];rfl
 |cons a es ih =>
  have h:(!isStar a&&noStar es)=ξ:=h;rw[apN]at h;rw[cR (by simpa using h.1)]
  have:=ih h.2
  simpa[aea]using this
theorem p7{a:ο}{env:Env}(h:isStar a=Δ):μ [a] env=[(Δ,eval a env)]:=by
 rw[cR h];simp only[μ]
theorem LN{a b:ο}{env:Env}(h:isStar a=Δ) (g:isStar b=Δ):μ [a,b] env=[(Δ,eval a env),(Δ,eval b env)]:=by
 rw[cR h,p7 g]
theorem zo{a:ο}{env:Env}{pos:Pos}(h:isStar a=Δ):((aea pos (μ [a] env)).all (λx=>!x.1)&&(aho pos (agr [] env)).all (λx=>x.1.isSome)
   && decide ([a].length+([]:List agI).length+(if([]:List agI).isEmpty then 0 else 1)<30))=ξ:=by
 rw[p7 h];simp[aea,aho,agr]
inductive D where
 |aH|bl (b:Bool)|int (i:Int)|str (x:Str)|ty (n:String)|tup (l:List D)|lst (l:List D)|ref (k:Nat)|cH (l:List Int)|fn (x:Str) (n:Nat)|exc (x:Str)|iQ|dct (ks:List (Int×Int))|lam (k:Nat) (e:ο) (ns:List Str) (l:List D)
inductive Cell where
 |lst (l:List D)
mutual
def noRef:D->Bool
 |.tup l=>bN l
 |.lst l=>bN l
 |.ref _=>Δ
 |.aH=>ξ
 |.bl _=>ξ
 |.int _=>ξ
 |.str _=>ξ
 |.ty _=>ξ
 |.cH _=>ξ
 |.fn _ _=>ξ
 |.exc _=>ξ
 |.iQ=>ξ
 |.dct _=>ξ
 |.lam _ _ _ _=>Δ
def bN:List D->Bool
 |[]=>ξ
 |d::l=>noRef d&&bN l
end
mutual
def eX:D->Bool
 |.tup l=>dZ l
 |.lst l=>dZ l
 |.lam _ _ _ _=>Δ
 |.ref _=>ξ
 |.aH=>ξ
 |.bl _=>ξ
 |.int _=>ξ
 |.str _=>ξ
 |.ty _=>ξ
 |.cH _=>ξ
 |.fn _ _=>ξ
 |.exc _=>ξ
 |.iQ=>ξ
 |.dct _=>ξ
def dZ:List D->Bool
 |[]=>ξ
 |d::l=>eX d&&dZ l
end
mutual
theorem Nt:∀d:D,noRef d=ξ->eX d=ξ
 |.tup l,h=>by unfold noRef at h;unfold eX;exact Af l h
 |.lst l,h=>by unfold noRef at h;unfold eX;exact Af l h
 |.lam _ _ _ _,h=>by unfold noRef at h;cases h
 |.ref _,h=>by unfold noRef at h;cases h
 |.aH,_=>by unfold eX;rfl
 |.bl _,_=>by unfold eX;rfl
 |.int _,_=>by unfold eX;rfl
 |.str _,_=>by unfold eX;rfl
 |.ty _,_=>by unfold eX;rfl
 |.cH _,_=>by unfold eX;rfl
 |.fn _ _,_=>by unfold eX;rfl
 |.exc _,_=>by unfold eX;rfl
 |.iQ,_=>by unfold eX;rfl
 |.dct _,_=>by unfold eX;rfl
theorem Af:∀l:List D,bN l=ξ->dZ l=ξ
 |[],_=>by unfold dZ;rfl
 |d::l,h=>by
  unfold bN at h;rw[apN]at h;unfold dZ;rw[Nt d h.1,Af l h.2];rfl
end
theorem xm:∀{l m:List D},bN (l++m)=(bN l&&bN m)
 |[],m=>by simp[bN]
 |d::l,m=>by simp[bN,xm (l:=l),Bool.and_assoc]
theorem Nq:∀{l:List D}{i:Nat}{d:D},bN l=ξ->noRef d=ξ->bN (l.set i d)=ξ
 |[],i,d,h,g=>h
 |b::l,0,d,h,g=>by simp_all[bN]
 |b::l,i+1,d,h,g=>by
  simp only[bN,apN]at h;simp only[aqP,bN,apN];exact⟨h.1,Nq h.2 g⟩
theorem iz:∀{l:List D},bN l=ξ↔∀d∈l,noRef d=ξ
 |[]=>by simp[bN]
 |d::l=>by simp[bN,iz (l:=l)]
theorem Ae{l:List Int}:bN (l.map D.int)=ξ:=iz.mpr λd h=>by
 obtain⟨i,_,rfl⟩:=apv.mp h;rfl
inductive R (α:Type) where
 |ok (a:α) (c:List Cell)
 |bad
def R.bind{α β:Type}(r:R α) (f:α->List Cell->R β):R β:=match r with
 |.ok a c=>f a c
 |.bad=>.bad
@[simp] theorem R.aA{α β:Type}{a:α}{c:List Cell}{f:α->List Cell->R β}:(R.ok a c).bind f=f a c:=rfl
@[simp] theorem R.apk{α β:Type}{f:α->List Cell->R β}:(R.bad:R α).bind f=.bad:=rfl
def qy:List Str:=["greatest_among","web_of","other_web","turned_at","pairs_web","field_web","net_web"]
def Aw(x:Str):Str:=x++".<locals>."++"<lambda>"
def qK(c:Θ) (q:Str):χ->Prop:=λh=>h.CodeRec (.ref c) q
def qx(a:Θ) (o:Obj):χ->Prop:=λh=>h.get? a=ζ o
def yO(e:ο) (o:Obj) (q:Str) (c:Θ) (cl:List (Str×Θ)):Prop:=match e with
 |.Lambda params body scope _=>∃pm ctv,o=PySem.W.kla_obj "<lambda>" q params body scope cl pm c ctv
 |_=>False
def xO:HO->Bool
 |.cX _=>ξ
 |_=>Δ
def iU(H:Hp) (cl:List (Str×Θ)):List Str->List V->Prop
 |[],xs=>xs=[]
 |x::ns,xs=>∃v r c oc u,xs=v::r/\cl.lookup x=ζ c/\H c=ζ (.cY oc (.own 0))/\oc.data=.cell (ζ u)/\RelV v u/\iU H cl ns r
def yT(cl:List (Str×Θ)) (ns:List Str):Prop:=(∀x y c,cl.lookup x=ζ c->cl.lookup y=ζ c->x=y)/\∀x c,cl.lookup x=ζ c->x∈ns
def TabAt(H:Hp) (P:Θ) (q:Str):Prop:=∃ps,H P=ζ (.cX ps)/\ahQ ps.toList/\∀pos cv,codeAmong pos ps.toList=ζ cv->∃c,cv=.ref c/\H c=ζ (.ext (qK c q))
def rA(K:Ω) (H:Hp):Prop:=∀x∈qy,∀c P,PySem.W.tabIn K x=ζ (c,P)->TabAt H P (Aw x)
theorem iU.mono{H H':Hp}{cl:List (Str×Θ)}:∀{ns:List Str}{xs:List V},(∀c o,H c=ζ (.cY o (.own 0))->H' c=ζ (.cY o (.own 0)))->iU H cl ns xs->iU H' cl ns xs
 |[],_,_,h=>h
 |x::ns,xs,k,h=>by
  obtain⟨v,r,c,oc,u,e,h0,h1,h2,h3,h4⟩:=h;exact⟨v,r,c,oc,u,e,h0,k _ _ h1,h2,h3,iU.mono k h4⟩
theorem iU.get{H:Hp}{cl:List (Str×Θ)}:∀{ns:List Str}{xs:List V}{i:Nat}{x:Str},iU H cl ns xs->ns[i]? = ζ x->∃v c oc u,xs[i]? = ζ v/\cl.lookup x=ζ c/\H c=ζ (.cY oc (.own 0))/\oc.data=.cell (ζ u)/\RelV v u
 |[],_,_,_,_,e=>by cases e
 |_::ns,xs,0,_,h,e=>by
  obtain⟨v,r,c,oc,u,rfl,h0,h1,h2,h3,h4⟩:=h;cases e;exact⟨v,c,oc,u,rfl,h0,h1,h2,h3⟩
 |_::ns,xs,i+1,x,h,e=>by
  obtain⟨v,r,c,oc,u,rfl,h0,h1,h2,h3,h4⟩:=h;exact iU.get (i:=i) h4 e
theorem iU.length{H:Hp}{cl:List (Str×Θ)}:∀{ns:List Str}{xs:List V},iU H cl ns xs->xs.length=ns.length
 |[],xs,h=>by cases(show xs=[]from h);rfl
 |_::ns,xs,h=>by
  obtain⟨v,r,c,oc,u,rfl,h0,h1,h2,h3,h4⟩:=h;simp[iU.length h4]
theorem TabAt.mono{H H':Hp}{P:Θ}{q:Str}(h:TabAt H P q) (k1:∀ps,H P=ζ (.cX ps)->H' P=ζ (.cX ps)) (k2:∀c φ,H c=ζ (.ext φ)->H' c=ζ (.ext φ)):TabAt H' P q:=by
 obtain⟨ps,h1,h2,h3⟩:=h;exact⟨ps,k1 ps h1,h2,λpos cv e=>let⟨c,e1,e2⟩:=h3 pos cv e;⟨c,e1,k2 _ _ e2⟩⟩
theorem rA.mono{K:Ω}{H H':Hp}(h:rA K H) (k1:∀P ps,H P=ζ (.cX ps)->H' P=ζ (.cX ps)) (k2:∀c φ,H c=ζ (.ext φ)->H' c=ζ (.ext φ)):rA K H':=λx hx c P e=>(h x hx c P e).mono (k1 P) k2
def yL(K:Ω) (ρ:List Θ) (H:Hp) (a:Θ) (xs:List V):Prop:=(Rd H a (.lst xs)/\a∉ρ)\/bD K (λ_=>η) a xs
mutual
def Rel(K:Ω) (ρ:List Θ) (H:Hp):D->V->Prop
 |.aH,v=>v=.aH
 |.bl b,v=>v=.bl b
 |.int i,v=>v=.int i
 |.str x,v=>v=.str x
 |.ty n,v=>v=.ty n
 |.tup l,v=>∃a xs,v=.ref a/\H a=ζ (.tup xs)/\aK K ρ H l xs
 |.lst l,v=>∃a xs,v=.ref a/\(H a=ζ (.lst xs)/\a∉ρ)/\aK K ρ H l xs
 |.ref k,v=>∃a,v=.ref a/\ρ[k]? = ζ a
 |.cH l,v=>∃a,v=.ref a/\yL K ρ H a (l.map V.int)
 |.fn x n,v=>∃a,v=.ref a/\Ψ K Ξ x=ζ (ζ (.ref a))
 |.iQ,v=>∃a,v=.ref a/\H a=ζ (.ext (ajk a))
 |.dct ks,v=>∃a kvs,v=.ref a/\H a=ζ (.dT kvs)/\∀p:Int×Int,((kvs.any λkv=>decide (kv.1=[Sum.inl p.1,Sum.inl p.2]))=decide (p∈ks))
 |.exc x,v=>∃a C,v=.ref a/\Ψ K Ξ x=ζ (ζ (.ref C))/\H a=ζ (.ext (ai7 a C))
 |.lam _ e ns l,v=>∃a o q c cl xs,v=.ref a/\H a=ζ (.ext (qx a o))/\yO e o q c cl/\H c=ζ (.ext (qK c q))/\yT cl ns/\iU H cl ns xs/\aK K ρ H l xs
def aK(K:Ω) (ρ:List Θ) (H:Hp):List D->List V->Prop
 |[],xs=>xs=[]
 |d::l,xs=>∃x r,xs=x::r/\Rel K ρ H d x/\aK K ρ H l r
end
theorem yL.sql{K:Ω}{ρ:List Θ}{H:Hp}{a:Θ}{xs:List V}(h:yL K ρ H a xs):bD K H a xs:=by
 rcases h with⟨h,_⟩|(h|h)
 ·exact .inl h
 ·rcases h with h|⟨o,h⟩<;>cases h
 ·exact .inr h
def anz(K:Ω) (ρ:List Θ) (H:Hp) (a:Θ):Cell->Prop
 |.lst l=>bN l=ξ/\∃xs,H a=ζ (.lst xs)/\aK K ρ H l xs
structure Wd (K:Ω) (ρ:List Θ) (H:Hp) (c:List Cell):Prop where
 nd:ρ.Nodup
 len:ρ.length=c.length
 fP:∀(k:Nat) (a:Θ) (cl:Cell),ρ[k]? = ζ a->c[k]? = ζ cl->anz K ρ H a cl
 tab:rA K H
structure Ext (ρ:List Θ) (H:Hp) (ρ':List Θ) (H':Hp):Prop where
 pre:∀(k:Nat) (a:Θ),ρ[k]? = ζ a->ρ'[k]? = ζ a
 keep:∀a o,H a=ζ o->a∉ρ->xO o=Δ->H' a=ζ o/\a∉ρ'
theorem Ext.refl{ρ:List Θ}{H:Hp}:Ext ρ H ρ H:=⟨λ_ _ h=>h,λ_ _ h n _=>⟨h,n⟩⟩
theorem Ext.trans{ρ aL c8:List Θ}{H H1 H2:Hp}(x:Ext ρ H aL H1) (y:Ext aL H1 c8 H2):Ext ρ H c8 H2 :=
 ⟨λk a h=>y.pre k a (x.pre k a h),λa o h n t=>let⟨h1,n1⟩:=x.keep a o h n t;y.keep a o h1 n1 t⟩
section
variable {K:Ω}{ρ ρ':List Θ}{H H':Hp}{c c':List Cell}
theorem Wd.at'(W:Wd K ρ H c) {a:Θ}(h:a∈ρ):∃xs,H a=ζ (.lst xs):=by
 obtain⟨k,hk,e⟩:=aqV.mp h;have hc:k<c.length:=by rw[<-W.len];exact hk
 have q:=W.fP k a c[k] (by rw[apw hk,e]) (apw hc)
 cases hcl:c[k]with
 |lst l=>rw[hcl]at q;obtain⟨_,xs,h,_⟩:=q;exact⟨xs,h⟩
theorem Wd.noT(W:Wd K ρ H c) {a:Θ}{xs:List V}(h:H a=ζ (.tup xs)):a∉ρ:=λm=>by
 obtain⟨ys,e⟩:=W.at' m;rw[e]at h;cases h
theorem Wd.nil(W:Wd K ρ H c) {a:Θ}(h:H a=η):a∉ρ:=λm=>by
 obtain⟨ys,e⟩:=W.at' m;rw[e]at h;cases h
theorem rJ(W:Wd K ρ H c) (x:Ext ρ H ρ' H') {a:Θ}{xs:List V}(h:H a=ζ (.tup xs)):H' a=ζ (.tup xs):=(x.keep a _ h (W.noT h) rfl).1
theorem D9(x:Ext ρ H ρ' H') {a:Θ}{xs:List V}(h:H a=ζ (.lst xs)/\a∉ρ):H' a=ζ (.lst xs)/\a∉ρ':=x.keep a _ h.1 h.2 rfl
theorem LQ(x:Ext ρ H ρ' H') {a:Θ}{xs:List V}(h:yL K ρ H a xs):yL K ρ' H' a xs:=by
 rcases h with⟨h,n⟩|h
 ·rcases h with h|⟨o,h⟩
  ·exact .inl ⟨.inl (x.keep a _ h n rfl).1,(x.keep a _ h n rfl).2⟩
  ·exact .inl ⟨.inr ⟨o,(x.keep a _ h n rfl).1⟩,(x.keep a _ h n rfl).2⟩
 ·exact .inr h
mutual
theorem Rel.mono(W:Wd K ρ H c) (x:Ext ρ H ρ' H'):∀(d:D) (v:V),Rel K ρ H d v->Rel K ρ' H' d v
 |.aH,v,h=>h
 |.bl b,v,h=>h
 |.int i,v,h=>h
 |.str y,v,h=>h
 |.ty n,v,h=>h
 |.tup l,v,h=>by
  obtain⟨a,xs,e,s,r⟩:=h;exact⟨a,xs,e,rJ W x s,aK.mono W x l xs r⟩
 |.lst l,v,h=>by
  obtain⟨a,xs,e,s,r⟩:=h;exact⟨a,xs,e,D9 x s,aK.mono W x l xs r⟩
 |.ref k,v,h=>by
  obtain⟨a,e,s⟩:=h;exact⟨a,e,x.pre k a s⟩
 |.cH l,v,h=>by
  obtain⟨a,e,s⟩:=h;exact⟨a,e,LQ x s⟩
 |.fn a n,v,h=>h
 |.iQ,v,h=>by
  obtain⟨a,e,q⟩:=h;exact⟨a,e,(x.keep a _ q (λm=>by obtain⟨ys,z⟩:=W.at' m;rw[z]at q;cases q) rfl).1⟩
 |.dct ks,v,h=>by
  obtain⟨a,kvs,e,q,z⟩:=h;exact⟨a,kvs,e,(x.keep a _ q (λm=>by obtain⟨ys,z⟩:=W.at' m;rw[z]at q;cases q) rfl).1,z⟩
 |.exc y,v,h=>by
  obtain⟨a,C,e,n,q⟩:=h;exact⟨a,C,e,n,(x.keep a _ q (λm=>by obtain⟨ys,z⟩:=W.at' m;rw[z]at q;cases q) rfl).1⟩
 |.lam _ y ns l,v,h=>by
  obtain⟨a,o,q,c,cl,xs,e,h1,h2,h3,h4,h5,h6⟩:=h;have nr:∀(b:Θ) (u:HO),H b=ζ u->(∀ys,u≠.lst ys)->b∉ρ:=λb u q n m=>by obtain⟨ys,z⟩:=W.at' m;rw[z]at q;exact n ys (apQ q).symm
  exact⟨a,o,q,c,cl,xs,e,(x.keep a _ h1 (nr a _ h1 λ_ z=>nomatch z) rfl).1,h2,(x.keep c _ h3 (nr c _ h3 λ_ z=>nomatch z) rfl).1,h4,h5.mono (λb o z=>(x.keep b _ z (nr b _ z λ_ z=>nomatch z) rfl).1),aK.mono W x l xs h6⟩
theorem aK.mono(W:Wd K ρ H c) (x:Ext ρ H ρ' H'):∀(l:List D) (xs:List V),aK K ρ H l xs->aK K ρ' H' l xs
 |[],xs,h=>h
 |d::l,xs,h=>by
  obtain⟨y,r,e,h1,h2⟩:=h;exact⟨y,r,e,Rel.mono W x d y h1,aK.mono W x l r h2⟩
end
theorem aK.length:∀{l:List D}{xs:List V},aK K ρ H l xs->xs.length=l.length
 |[],xs,h=>by cases(show xs=[]from h);rfl
 |d::l,xs,h=>by
  obtain⟨y,r,rfl,h1,h2⟩:=h;simp only[apL,aK.length h2]
theorem aK.get:∀{l:List D}{xs:List V}{i:Nat}{d:D},aK K ρ H l xs->l[i]? = ζ d->∃x,xs[i]? = ζ x/\Rel K ρ H d x
 |[],_,_,_,_,e=>by cases e
 |_::l,_,0,_,h,e=>by
  obtain⟨y,r,rfl,h1,h2⟩:=h;cases e;exact⟨y,rfl,h1⟩
 |_::l,_,i+1,_,h,e=>by
  obtain⟨y,r,rfl,h1,h2⟩:=h;exact aK.get (i:=i) h2 e
theorem aK.append:∀{l m:List D}{xs ys:List V},aK K ρ H l xs->aK K ρ H m ys->aK K ρ H (l++m) (xs++ys)
 |[],m,xs,ys,h,g=>by cases(show xs=[]from h);exact g
 |d::l,m,xs,ys,h,g=>by
  obtain⟨y,r,rfl,h1,h2⟩:=h;exact⟨y,r++ys,rfl,h1,aK.append h2 g⟩
theorem aK.set:∀{l:List D}{xs:List V}{d:D}{x:V}(i:Nat),aK K ρ H l xs->Rel K ρ H d x->aK K ρ H (l.set i d) (xs.set i x)
 |[],xs,d,x,i,h,g=>by cases(show xs=[]from h);exact rfl
 |b::l,xs,d,x,0,h,g=>by
  obtain⟨y,r,rfl,h1,h2⟩:=h;exact⟨x,r,rfl,g,h2⟩
 |b::l,xs,d,x,i+1,h,g=>by
  obtain⟨y,r,rfl,h1,h2⟩:=h;exact⟨y,r.set i x,rfl,h1,aK.set i h2 g⟩
theorem aK.take:∀{l:List D}{xs:List V}(n:Nat),aK K ρ H l xs->aK K ρ H (l.take n) (xs.take n)
 |l,xs,0,h=>by simp only[asq];exact rfl
 |[],xs,n+1,h=>by cases(show xs=[]from h);exact rfl
 |d::l,xs,n+1,h=>by
  obtain⟨y,r,rfl,h1,h2⟩:=h;exact⟨y,r.take n,rfl,h1,aK.take n h2⟩
theorem aK.drop:∀{l:List D}{xs:List V}(n:Nat),aK K ρ H l xs->aK K ρ H (l.drop n) (xs.drop n)
 |l,xs,0,h=>h
 |[],xs,n+1,h=>by cases(show xs=[]from h);exact rfl
 |d::l,xs,n+1,h=>by
  obtain⟨y,r,rfl,h1,h2⟩:=h;exact aK.drop n h2
theorem aK.ints{l:List Int}:aK K ρ H (l.map D.int) (l.map V.int):=by
 induction l with
 |nil=>exact rfl
 |cons a l ih=>exact⟨_,_,rfl,rfl,ih⟩
theorem aK.Ay:∀{l:List Int}{xs:List V},aK K ρ H (l.map D.int) xs->xs=l.map V.int
 |[],xs,h=>h
 |a::l,xs,h=>by
  obtain⟨y,r,rfl,h1,h2⟩:=h;cases(show y=V.int a from h1)
  rw[aK.Ay h2];rfl
theorem aK.JV:∀{l:List Bool}{xs:List V},aK K ρ H (l.map D.bl) xs->xs=l.map V.bl
 |[],xs,h=>h
 |a::l,xs,h=>by
  obtain⟨y,r,rfl,h1,h2⟩:=h;cases(show y=V.bl a from h1)
  rw[aK.JV h2];rfl
theorem Ext.fresh{p:Θ}{o:HO}(W:Wd K ρ H c) (h:H p=η):Ext ρ H ρ (upd H p o) :=
 ⟨λ_ _ e=>e,λa u e n _=>⟨by rw[bX (dQ e h)];exact e,n⟩⟩
theorem Wd.fresh{p:Θ}{o:HO}(W:Wd K ρ H c) (h:H p=η):Wd K ρ (upd H p o) c :=
 ⟨W.nd,W.len,λk a cl e1 e2=>by
  have q:=W.fP k a cl e1 e2;cases cl with
  |lst l =>
   obtain⟨nr,xs,e,r⟩:=q;exact⟨nr,xs,by rw[bX (dQ e h)];exact e,aK.mono W (Ext.fresh W h) l xs r⟩,
  W.tab.mono (λP ps e=>by rw[bX (dQ e h)];exact e) (λb φ e=>by rw[bX (dQ e h)];exact e)⟩
theorem Ext.cell{p:Θ}{o:HO}(W:Wd K ρ H c) (h:H p=η):Ext ρ H (ρ++[p]) (upd H p o) :=
 ⟨λk a e=>by rw[ap8 (apK.mp e).1];exact e,λa u e n _=>⟨by rw[bX (dQ e h)];exact e,by
  rw[ap1]
  rintro (z|z)
  ·exact n z
  ·exact dQ e h (by simpa using z)⟩⟩
theorem Wd.cell{p:Θ}{l:List D}{xs:List V}(W:Wd K ρ H c) (h:H p=η) (nr:bN l=ξ) (r:aK K ρ H l xs):Wd K (ρ++[p]) (upd H p (.lst xs)) (c++[.lst l]):=by
 have X:=Ext.cell (o:=.lst xs) W h;refine⟨?_,by simp[W.len],λk a cl e1 e2=>?_,W.tab.mono (λP ps e=>by rw[bX (dQ e h)];exact e) (λb φ e=>by rw[bX (dQ e h)];exact e)⟩
 ·rw[arw];refine⟨W.nd,by simp,?_⟩
  intro a ha b hb;rw[aqa]at hb;subst hb;exact λz=>W.nil h (z▸ha)
 ·by_cases hk:k<c.length
  ·rw[ap8 hk]at e2;rw[ap8 (by rw[W.len];exact hk)]at e1
   have q:=W.fP k a cl e1 e2;cases cl with
   |lst l' =>
    obtain⟨ua,ys,e,r'⟩:=q;exact⟨ua,ys,by rw[bX (dQ e h)];exact e,aK.mono W X l' ys r'⟩
  ·have hk':k=c.length:=by
    have:=(apK.mp e2).1;simp at this;omega
   subst hk';rw[aqi (aps _),aqW]at e2;rw[aqi (by rw[W.len];exact aps _),W.len,aqW]at e1
   cases e1;cases e2;exact⟨nr,xs,e8,aK.mono W X l xs r⟩
theorem Ext.write{k:Nat}{p:Θ}{o:HO}(h:ρ[k]? = ζ p):Ext ρ H ρ (upd H p o) :=
 ⟨λ_ _ e=>e,λa u e n _=>⟨by rw[bX (λz=>n (by rw[z];exact apT h))];exact e,n⟩⟩
theorem Wd.write{k:Nat}{p:Θ}{l:List D}{xs:List V}(W:Wd K ρ H c) (h:ρ[k]? = ζ p) (nr:bN l=ξ) (r:aK K ρ H l xs):Wd K ρ (upd H p (.lst xs)) (c.set k (.lst l)):=by
 have X:=Ext.write (H:=H) (o:=.lst xs) h;obtain⟨ys,hy⟩:=W.at' (apT h);refine⟨W.nd,by simp[W.len],λj a cl e1 e2=>?_,W.tab.mono (λP ps e=>by rw[bX (NB e hy λz=>nomatch z)];exact e) (λb φ e=>by rw[bX (NB e hy λz=>nomatch z)];exact e)⟩
 by_cases hj:j=k
 ·subst hj;rw[h]at e1;cases e1;have hl:j<c.length:=by rw[<-W.len];exact(apK.mp h).1
  rw[aqn hl]at e2;cases e2;exact⟨nr,xs,e8,aK.mono W X l xs r⟩
 ·rw[aqb (aqh hj)]at e2;have q:=W.fP j a cl e1 e2;have hap:a≠p:=by
   intro e;subst e;have h1:=(apK.mp h);have h2:=(apK.mp e1);exact hj ((ar8 W.nd (h₀:=h2.1) (h₁:=h1.1)).mp (h2.2.trans h1.2.symm))
  cases cl with
  |lst l' =>
   obtain⟨ua,ys,e,r'⟩:=q;exact⟨ua,ys,by rw[bX hap];exact e,aK.mono W X l' ys r'⟩
mutual
theorem Rel.low(h:∀a,a∈ρ'->a∈ρ):∀(d:D) (v:V),noRef d=ξ->Rel K ρ H d v->Rel K ρ' H d v
 |.aH,v,_,r=>r
 |.bl b,v,_,r=>r
 |.int i,v,_,r=>r
 |.str y,v,_,r=>r
 |.ty n,v,_,r=>r
 |.tup l,v,n,r=>by
  obtain⟨a,xs,e,s,r⟩:=r;exact⟨a,xs,e,s,aK.low h l xs n r⟩
 |.lst l,v,n,r=>by
  obtain⟨a,xs,e,s,r⟩:=r;exact⟨a,xs,e,⟨s.1,λq=>s.2 (h a q)⟩,aK.low h l xs n r⟩
 |.ref k,v,n,r=>by cases n
 |.cH l,v,n,r=>by
  obtain⟨a,e,s⟩:=r;refine⟨a,e,?_⟩
  rcases s with⟨s,z⟩|s
  ·exact .inl ⟨s,λq=>z (h a q)⟩
  ·exact .inr s
 |.fn a m,v,n,r=>r
 |.exc y,v,n,r=>r
 |.iQ,v,n,r=>r
 |.dct _,v,n,r=>r
 |.lam _ _ _ _,v,n,r=>by cases n
theorem aK.low(h:∀a,a∈ρ'->a∈ρ):∀(l:List D) (xs:List V),bN l=ξ->aK K ρ H l xs->aK K ρ' H l xs
 |[],xs,_,r=>r
 |d::l,xs,n,r=>by
  obtain⟨y,ys,e,h1,h2⟩:=r;have n:(noRef d&&bN l)=ξ:=n;rw[apN]at n;exact⟨y,ys,e,Rel.low h d y n.1 h1,aK.low h l ys n.2 h2⟩
end
theorem Wd.cut{n:Nat}(W:Wd K ρ H c) (hn:n<=c.length):Wd K (ρ.take n) H (c.take n):=by
 have sub:∀a,a∈ρ.take n->a∈ρ:=λa h=>apZ h
 refine⟨W.nd.sublist (asf _ _),by simp[W.len],λk a cl e1 e2=>?_,W.tab⟩
 rw[arT]at e1 e2;split at e1
 ·rename_i hk;rw[if_pos hk]at e2;have q:=W.fP k a cl e1 e2;cases cl with
  |lst l =>
   obtain⟨nr,xs,e,r⟩:=q;exact⟨nr,xs,e,aK.low sub l xs nr r⟩
 ·cases e1
theorem Ext.cut{n:Nat}(x:Ext ρ H ρ' H') (hn:ρ.length<=n):Ext ρ H (ρ'.take n) H' :=
 ⟨λk a e=>by rw[arT,if_pos (apG (apK.mp e).1 hn)];exact x.pre k a e,λa o e z t=>let⟨h1,h2⟩:=x.keep a o e z t;⟨h1,λq=>h2 (apZ q)⟩⟩
theorem Ext.len(W:Wd K ρ H c) (W':Wd K ρ' H' c') (x:Ext ρ H ρ' H'):c.length<=c'.length:=by
 rw[<-W.len,<-W'.len]
 by_cases h:ρ.length<=ρ'.length
 ·exact h
 ·exfalso;have h':ρ'.length<ρ.length:=Nat.lt_of_not_le h;have e:=x.pre ρ'.length ρ[ρ'.length] (apw h');rw[aq9 (aps _)]at e;cases e
end
abbrev Ev:=List (Option D)
def post{α β:Type}(K:Ω) (Rl:List Θ->Hp->α->β->Prop) (r:R α) (ρ:List Θ) (H:Hp) (Q:β->Hp->Prop):Prop:=match r with
 |.ok a c=>∀ρ' H' b,Wd K ρ' H' c->Ext ρ H ρ' H'->Rl ρ' H' a b->Q b H'
 |.bad=>False
structure dU (K:Ω) (ρ:List Θ) (H:Hp) (e:Ev) (σ:St):Prop where
 get:∀(i:Nat) (d:D),e[i]? = ζ (ζ d)->∃v,σ[i]? = ζ (ζ v)/\Rel K ρ H d v
 len:e.length=σ.length
def tD{α β:Type}(K:Ω) (Rl:List Θ->Hp->α->β->Prop) (d:Ev->List Cell->R α):St->Hp->(β->Hp->Prop)->Prop :=
 λσ H Q=>∃ρ e c,Wd K ρ H c/\dU K ρ H e σ/\post K Rl (d e c) ρ H Q
section
variable {α β γ δ:Type}{K:Ω}{ρ ρ':List Θ}{H H':Hp}{c:List Cell}{e:Ev}{σ:St}{Rl:List Θ->Hp->α->β->Prop}{Rm:List Θ->Hp->γ->δ->Prop}
theorem dU.mono(V:dU K ρ H e σ) (W:Wd K ρ H c) (x:Ext ρ H ρ' H'):dU K ρ' H' e σ :=
 ⟨λi d h=>let⟨v,h1,h2⟩:=V.get i d h;⟨v,h1,Rel.mono W x d v h2⟩,V.len⟩
theorem dU.set(V:dU K ρ H e σ) {d:D}{v:L2.V}(r:Rel K ρ H d v) (i:Nat):dU K ρ H (e.set i (ζ d)) (σ.set i (ζ v)):=by
 refine⟨λj b h=>?_,by simp[V.len]⟩
 by_cases hj:j=i
 ·subst hj;have hl:j<e.length:=by
   have:=(apK.mp h).1
   simpa using this
  rw[aqn hl]at h;cases h;exact⟨v,by rw[aqn (by rw[<-V.len];exact hl)],r⟩
 ·rw[aqb (aqh hj)]at h ⊢;exact V.get j b h
theorem post.ext{r:R α}{Q:β->Hp->Prop}(p:post K Rl r ρ H Q) (x:Ext ρ H ρ' H'):post K Rl r ρ' H' Q:=by
 cases r with
 |ok a c=>exact λc8 H2 b W y r=>p c8 H2 b W (x.trans y) r
 |bad=>exact p
theorem post.bind{r:R α}{f:α->List Cell->R γ}{Q:δ->Hp->Prop}{S:β->Hp->Prop}(p:post K Rm (r.bind f) ρ H Q)
  (h:∀a c1 ρ' H' b,r=.ok a c1->Wd K ρ' H' c1->Ext ρ H ρ' H'->Rl ρ' H' a b->post K Rm (f a c1) ρ' H' Q->S b H'):post K Rl r ρ H S:=by
 cases r with
 |ok a c1=>exact λρ' H' b W x r=>h a c1 ρ' H' b rfl W x r (post.ext (r:=f a c1) p x)
 |bad=>exact p
theorem post.here{a:α}{b:β}{Q:β->Hp->Prop}(p:post K Rl (.ok a c) ρ H Q) (W:Wd K ρ H c) (r:Rl ρ H a b):Q b H:=p ρ H b W Ext.refl r
end
abbrev bh(X:Cx) (e:ο) (d:Ev->List Cell->R D):Prop:=PE X e (tD X.K (Rel X.K) d)
abbrev iT(X:Cx) (e:ο) (d:Ev->List Cell->R Bool):Prop:=PT X e (tD X.K (λ_ _ a b=>a=b) d)
abbrev vM(X:Cx) (e:ο) (d:Ev->List Cell->R Bool):Prop:=PW X e (tD X.K (λ_ _ a b=>a=b) d)
abbrev eZ(X:Cx) (es:List ο) (d:Ev->List Cell->R (List D)):Prop:=PA X es (tD X.K (aK X.K) d)
section
variable {X:Cx}{e:ο}{es:List ο}{st:ad4}{sts:List ad4}
theorem PE.imp{t t':TE}(h:PE X e t) (i:∀σ H Q,t' σ H Q->t σ H Q):PE X e t':=λpins s σ H Q I q=>h pins s σ H Q I (i _ _ _ q)
theorem PT.imp{t t':TT}(h:PT X e t) (i:∀σ H Q,t' σ H Q->t σ H Q):PT X e t':=λpins s σ H Q I q=>h pins s σ H Q I (i _ _ _ q)
theorem PW.imp{t t':TT}(h:PW X e t) (i:∀σ H Q,t' σ H Q->t σ H Q):PW X e t':=λwh pins s σ H Q I q=>h wh pins s σ H Q I (i _ _ _ q)
theorem PA.imp{t t':TA}(h:PA X es t) (i:∀σ H Q,t' σ H Q->t σ H Q):PA X es t':=λpos pins s σ H Q I q=>h pos pins s σ H Q I (i _ _ _ q)
theorem PS.imp{t t':TS}(h:PS X st t) (i:∀D σ H,t' D σ H->t D σ H):PS X st t':=λpins s σ H D I q=>h pins s σ H D I (i _ _ _ q)
theorem gA.imp{t t':TS}(h:gA X sts t) (i:∀D σ H,t' D σ H->t D σ H):gA X sts t':=λpins s σ H D I q=>h pins s σ H D I (i _ _ _ q)
end
def ak(i:Nat):Ev->List Cell->R D:=λe c=>match e[i]? with
 |some (ζ d)=>.ok d c
 |_=>.bad
def dC(d:D):Ev->List Cell->R D:=λ_ c=>.ok d c
section
variable {X:Cx}
theorem av(i:Nat) {x:Str}{pos:Pos}(hN:X.N[i]? = ζ x:=by rfl) (hv:Ca X.env.scope x:=by first|exact Or.inl rfl|exact Or.inr (Or.inl rfl)|exact Or.inr (Or.inr rfl)) (hd:(x==("__debug__":Str))=Δ:=by decide)
  (hcd:(x==("__classdict__":Str))=Δ:=by decide):bh X (.Name x pos) (ak i):=(MB hN hv hd hcd).imp λσ H Q h=>by
 obtain⟨ρ,e,c,W,V,p⟩:=h;unfold ak at p;cases q:e[i]? with
 |none=>rw[q]at p;exact p.elim
 |some o =>
  rw[q]at p;cases o with
  |none=>exact p.elim
  |some d =>
   obtain⟨v,hv,r⟩:=V.get i d q;exact⟨v,hv,p.here W r⟩
theorem tV{e:ο}{v:V}{d:D}(h:PE X e (tC v)) (r:∀ρ H,Rel X.K ρ H d v):bh X e (dC d):=h.imp λσ H Q h=>by
 obtain⟨ρ,e,c,W,V,p⟩:=h;exact post.here (r:=r ρ H) p W
theorem aX{i j pos}:bh X (.Constant (.int i) j pos) (dC (.int i)):=tV aaN λ_ _=>rfl
theorem jA{b j pos}:bh X (.Constant (.bool b) j pos) (dC (.bl b)):=tV aaX λ_ _=>rfl
theorem tU{j pos}:bh X (.Constant .none j pos) (dC .aH):=tV aaK λ_ _=>rfl
theorem wQ{x j pos}:bh X (.Constant (.str x) j pos) (dC (.str x)):=tV aaF λ_ _=>rfl
theorem wO{x:Str}{n:String}{pos:Pos}(hg:Gl X x) (hm:X.mg x=η) (hv:bootBuiltins x=ζ (.type n)) (hn:x≠"__name__":=by decide) (hd:(x==("__debug__":Str))=Δ:=by decide):bh X (.Name x pos) (dC (.ty n)):=tV (aaD hg hm hv hn hd) λ_ _=>rfl
theorem DA{x:Str}{i:Int}{t:Tok}{pos:Pos}(hg:Gl X x) (hm:X.mg x=ζ (.int i t)) (hd:(x==("__debug__":Str))=Δ:=by decide):bh X (.Name x pos) (dC (.int i)):=tV (aaP (v:=.int i) hg hm ⟨t,rfl⟩ hd) λ_ _=>rfl
end
end L2
namespace L2
open PySem PySem.Spec PyProof.Rows
def au(f:D->D->List Cell->R D) (a b:Ev->List Cell->R D):Ev->List Cell->R D:=λe c=>(a e c).bind λx c=>(b e c).bind λy c=>f x y c
def r2(K:Ω) (f:D->D->List Cell->R D):R2:=λv u H Q=>∃ρ x y c,Wd K ρ H c/\Rel K ρ H x v/\Rel K ρ H y u/\post K (Rel K) (f x y c) ρ H Q
def r1(K:Ω) (f:D->List Cell->R D):V->Hp->VK->Prop:=λv H Q=>∃ρ x c,Wd K ρ H c/\Rel K ρ H x v/\post K (Rel K) (f x c) ρ H Q
def rN(K:Ω) (f:List D->List Cell->R D):List V->Hp->VK->Prop:=λvs H Q=>∃ρ xs c,Wd K ρ H c/\aK K ρ H xs vs/\post K (Rel K) (f xs c) ρ H Q
def aF(f:List D->List Cell->R D) (a:Ev->List Cell->R (List D)):Ev->List Cell->R D:=λe c=>(a e c).bind λxs c=>f xs c
section
variable {X:Cx}{a b:ο}{da db dd:Ev->List Cell->R D}{pos:Pos}{K:Ω}{σ:St}{H:Hp}{Q:VK}{f:D->D->List Cell->R D}
theorem zj(h:tD K (Rel K) (au f da db) σ H Q):tD K (Rel K) da σ H λv H1=>tD K (Rel K) db σ H1 λu H2=>r2 K f v u H2 Q:=by
 obtain⟨ρ,e,c,W,V,p⟩:=h;refine⟨ρ,e,c,W,V,post.bind p λx c1 aL H1 v _ W1 X1 r1 p1=>⟨aL,e,c1,W1,V.mono W X1,post.bind p1 λy c2 c8 H2 u _ W2 X2 r2 p2=>⟨c8,x,y,c2,W2,Rel.mono W1 X2 _ _ r1,r2,p2⟩⟩⟩
theorem Ls{g:List D->List Cell->R D}{ds:Ev->List Cell->R (List D)}(h:tD K (Rel K) (aF g ds) σ H Q):tD K (aK K) ds σ H λvs H1=>rN K g vs H1 Q:=by
 obtain⟨ρ,e,c,W,V,p⟩:=h;exact⟨ρ,e,c,W,V,post.bind p λx c1 aL H1 v _ W1 X1 r1 p1=>⟨aL,x,c1,W1,r1,p1⟩⟩
theorem aO{op:Operator}(ho:bW X (binaryOp op) (r2 X.K f)) (ha:bh X a da) (hb:bh X b db):bh X (.BinOp a op b pos) (au f da db):=(MC ho ha hb).imp λσ H Q h=>zj h
theorem tW{op:CmpOp}(ho:bW X (compareOp op) (r2 X.K f)) (ha:bh X a da) (hb:bh X b db) (hm:behindInMarks op b=Δ:=by first|exact Nj _|rfl):bh X (.Compare a [op] [b] pos) (au f da db):=(aaS ho ha hb hm).imp λσ H Q h=>zj h
theorem cD(hr:yP X (r2 X.K f)) (ha:bh X a da) (hb:bh X b db) (hs:R7 b:=by exact λ_ _=>rfl):bh X (.Subscript a b pos) (au f da db):=(aaM hr ha hb hs).imp λσ H Q h=>zj h
def qI(f g:D->D->List Cell->R D) (a b d:Ev->List Cell->R D):Ev->List Cell->R D:=λe c=>(a e c).bind λx c=>(b e c).bind λy c=>(f x y c).bind λz c=>match z with
 |.bl ξ=>(d e c).bind λu c=>g y u c
 |.bl Δ=>.ok (.bl Δ) c
 |_=>.bad
end
def aq:Ev->List Cell->R (List D):=λ_ c=>.ok [] c
def ao(a:Ev->List Cell->R D) (r:Ev->List Cell->R (List D)):Ev->List Cell->R (List D):=λe c=>(a e c).bind λx c=>(r e c).bind λxs c=>.ok (x::xs) c
def cP(a:Ev->List Cell->R (List D)):Ev->List Cell->R D:=λe c=>(a e c).bind λxs c=>if xs.length<=ι then .ok (.tup xs) c else .bad
def cy(a:Ev->List Cell->R (List D)):Ev->List Cell->R D:=λe c=>(a e c).bind λxs c=>if xs.length<=ι then .ok (.lst xs) c else .bad
def ff(a:Ev->List Cell->R (List D)):Ev->List Cell->R D:=λe c=>(a e c).bind λxs c=>if xs.length<=ι/\bN xs=ξ then .ok (.ref c.length) (c++[.lst xs])else .bad
section
variable {X:Cx}{a:ο}{es:List ο}{da:Ev->List Cell->R D}{ds:Ev->List Cell->R (List D)}{pos:Pos}{K:Ω}{ρ:List Θ}{H:Hp}{c:List Cell}{Q:VK}{xs:List D}{vs:List V}
theorem aB:eZ X [] aq:=jB.imp λσ H Q h=>by
 obtain⟨ρ,e,c,W,V,p⟩:=h;exact post.here (b:=[]) p W rfl
theorem ay(ha:bh X a da) (hr:eZ X es ds) (hs:μ (a::es) X.env=(Δ,eval a X.env)::μ es X.env:=by exact cR rfl):eZ X (a::es) (ao da ds):=(i9 ha hr hs).imp λσ H Q h=>by
 obtain⟨ρ,e,c,W,V,p⟩:=h;refine⟨ρ,e,c,W,V,post.bind p λx c1 aL H1 v _ W1 X1 r1 p1=>⟨aL,e,c1,W1,V.mono W X1,post.bind p1 λy c2 c8 H2 u _ W2 X2 r2 p2=>?_⟩⟩
 exact p2.here W2 ⟨v,u,rfl,Rel.mono W1 X2 _ _ r1,r2⟩
theorem DR(W:Wd K ρ H c) (r:aK K ρ H xs vs) (p:post K (Rel K) (.ok (.tup xs) c) ρ H Q):∀q,H q=η->Q (.ref q) (upd H q (.tup vs)):=λq hq =>
 p ρ _ _ (W.fresh hq) (Ext.fresh W hq) ⟨q,vs,rfl,e8,aK.mono W (Ext.fresh W hq) _ _ r⟩
theorem uc(W:Wd K ρ H c) (r:aK K ρ H xs vs) (p:post K (Rel K) (.ok (.lst xs) c) ρ H Q):∀q,H q=η->Q (.ref q) (upd H q (.lst vs)):=λq hq =>
 p ρ _ _ (W.fresh hq) (Ext.fresh W hq) ⟨q,vs,rfl,⟨e8,W.nil hq⟩,aK.mono W (Ext.fresh W hq) _ _ r⟩
theorem DS(W:Wd K ρ H c) (nr:bN xs=ξ) (r:aK K ρ H xs vs) (p:post K (Rel K) (.ok (.ref c.length) (c++[.lst xs])) ρ H Q):∀q,H q=η->Q (.ref q) (upd H q (.lst vs)):=λq hq =>
 p (ρ++[q]) _ _ (W.cell hq nr r) (Ext.cell W hq) ⟨q,rfl,by rw[aqi (by rw[W.len];exact aps _),W.len,aqW];rfl⟩
theorem i8{x1}(h:eZ X es ds):bh X (.Tuple es x1 pos) (cP ds):=(aaE h).imp λσ H Q h=>by
 obtain⟨ρ,e,c,W,V,p⟩:=h;refine⟨ρ,e,c,W,V,post.bind p λx c1 aL H1 v _ W1 X1 r1 p1=>?_⟩
 split at p1
 ·rename_i hl;exact⟨by rw[r1.length];exact hl,DR W1 r1 p1⟩
 ·exact p1.elim
theorem gg(h:eZ X es ds):bh X (.List es pos) (cy ds):=(MD h).imp λσ H Q h=>by
 obtain⟨ρ,e,c,W,V,p⟩:=h;refine⟨ρ,e,c,W,V,post.bind p λx c1 aL H1 v _ W1 X1 r1 p1=>?_⟩
 split at p1
 ·rename_i hl;exact⟨by rw[r1.length];exact hl,uc W1 r1 p1⟩
 ·exact p1.elim
theorem kH(h:eZ X es ds):bh X (.List es pos) (ff ds):=(MD h).imp λσ H Q h=>by
 obtain⟨ρ,e,c,W,V,p⟩:=h;refine⟨ρ,e,c,W,V,post.bind p λx c1 aL H1 v _ W1 X1 r1 p1=>?_⟩
 split at p1
 ·rename_i hl;exact⟨by rw[r1.length];exact hl.1,DS W1 hl.2 r1 p1⟩
 ·exact p1.elim
end
def br:D->D->List Cell->R D:=λx y c=>match x,y with
 |.int i,.int j=>.ok (.int (i+j)) c
 |.str a,.str b=>if a.length+b.length<=ι then .ok (.str (a++b)) c else .bad
 |.tup l,.tup m=>if l.length≠0/\l.length+m.length<=ι then .ok (.tup (l++m)) c else .bad
 |_,_=>.bad
def bz:D->D->List Cell->R D:=λx y c=>match x,y with
 |.int i,.int j=>.ok (.int (i-j)) c
 |_,_=>.bad
def aW:D->D->List Cell->R D:=λx y c=>match x,y with
 |.int i,.int j=>if(-(2^64)<i/\i<2^64)\/(-(2^64)<j/\j<2^64)then .ok (.int (i*j)) c else .bad
 |_,_=>.bad
def gi:D->D->List Cell->R D:=λx y c=>match x,y with
 |.int i,.int j=>if 0<j/\j<1073741824 then .ok (.int (i/j)) c else .bad
 |_,_=>.bad
def ck:D->D->List Cell->R D:=λx y c=>match x,y with
 |.int i,.int j=>if 0<j then .ok (.int (i % j)) c else .bad
 |_,_=>.bad
def tR:D->D->List Cell->R D:=λx y c=>match x,y with
 |.int i,.int j=>if 0<=j/\j<=1000000/\i.natAbs<2^64 then .ok (.int (i^j.toNat)) c else .bad
 |_,_=>.bad
def qL(p:Int->Int->Bool):D->D->List Cell->R D:=λx y c=>match x,y with
 |.int i,.int j=>.ok (.bl (p i j)) c
 |_,_=>.bad
section
variable {X:Cx}
theorem dP:bW X (binaryOp .Add) (r2 X.K br):=by
 intro pins s σ H v u vv uu Q I rv ru h;obtain⟨ρ,x,y,c,W,rx,ry,p⟩:=h;unfold br at p;split at p
 ·cases rx;cases ry;exact abF pins s σ H _ _ vv uu Q I rv ru ⟨_,_,rfl,rfl,p.here W rfl⟩
 ·split at p
  ·rename_i hl;cases rx;cases ry;exact abE pins s σ H _ _ vv uu Q I rv ru ⟨_,_,rfl,rfl,hl,p.here W rfl⟩
  ·exact p.elim
 ·split at p
  ·rename_i hl;obtain⟨a,xs,rfl,sa,ra⟩:=rx;obtain⟨b,ys,rfl,sb,rb⟩:=ry;refine abB pins s σ H _ _ vv uu Q I rv ru ⟨a,b,xs,ys,rfl,rfl,cF.of sa,cF.of sb,λz=>hl.1 ?_,by rw[ra.length,rb.length];exact hl.2,λz=>?_,λ_=>DR W (ra.append rb) p⟩
   ·rw[<-ra.length,z];rfl
   ·refine p.here W ⟨a,xs++ys,rfl,by rw[z,aqJ];exact sa,ra.append rb⟩
  ·exact p.elim
 ·exact p.elim
theorem eV:bW X (binaryOp .Sub) (r2 X.K bz):=by
 intro pins s σ H v u vv uu Q I rv ru h;obtain⟨ρ,x,y,c,W,rx,ry,p⟩:=h;unfold bz at p;split at p
 ·cases rx;cases ry;exact abm pins s σ H _ _ vv uu Q I rv ru ⟨_,_,rfl,rfl,p.here W rfl⟩
 ·exact p.elim
theorem eF:bW X (binaryOp .Mult) (r2 X.K aW):=by
 intro pins s σ H v u vv uu Q I rv ru h;obtain⟨ρ,x,y,c,W,rx,ry,p⟩:=h;unfold aW at p;split at p
 ·split at p
  ·rename_i hl;cases rx;cases ry;exact abt pins s σ H _ _ vv uu Q I rv ru ⟨_,_,rfl,rfl,hl,p.here W rfl⟩
  ·exact p.elim
 ·exact p.elim
theorem t7:bW X (binaryOp .FloorDiv) (r2 X.K gi):=by
 intro pins s σ H v u vv uu Q I rv ru h;obtain⟨ρ,x,y,c,W,rx,ry,p⟩:=h;unfold gi at p;split at p
 ·split at p
  ·rename_i hl;cases rx;cases ry;exact abz pins s σ H _ _ vv uu Q I rv ru ⟨_,_,rfl,rfl,hl,p.here W rfl⟩
  ·exact p.elim
 ·exact p.elim
theorem iN:bW X (binaryOp .Mod) (r2 X.K ck):=by
 intro pins s σ H v u vv uu Q I rv ru h;obtain⟨ρ,x,y,c,W,rx,ry,p⟩:=h;unfold ck at p;split at p
 ·split at p
  ·rename_i hl;cases rx;cases ry;exact abu pins s σ H _ _ vv uu Q I rv ru ⟨_,_,rfl,rfl,hl,p.here W rfl⟩
  ·exact p.elim
 ·exact p.elim
theorem M1:bW X (binaryOp .Pow) (r2 X.K tR):=by
 intro pins s σ H v u vv uu Q I rv ru h;obtain⟨ρ,x,y,c,W,rx,ry,p⟩:=h;unfold tR at p;split at p
 ·split at p
  ·rename_i hl;cases rx;cases ry;exact abp pins s σ H _ _ vv uu Q I rv ru ⟨_,_,rfl,rfl,hl,p.here W rfl⟩
  ·exact p.elim
 ·exact p.elim
theorem Aa{f:Γ->Γ->Sem Γ}{q:Int->Int->Bool}(h:bW X f (kF λi j=>.bl (q i j))):bW X f (r2 X.K (qL q)):=by
 intro pins s σ H v u vv uu Q I rv ru hh;obtain⟨ρ,x,y,c,W,rx,ry,p⟩:=hh;unfold qL at p;split at p
 ·cases rx;cases ry;exact h pins s σ H _ _ vv uu Q I rv ru ⟨_,_,rfl,rfl,p.here W rfl⟩
 ·exact p.elim
abbrev jE:=qL λi j=>decide (i<j)
abbrev lT:=qL λi j=>decide (i<=j)
abbrev uH:=qL λi j=>decide (j<i)
abbrev Pr:=qL λi j=>decide (j<=i)
theorem DL:bW X (compareOp .Lt) (r2 X.K jE):=Aa abv
theorem z9:bW X (compareOp .LtE) (r2 X.K lT):=Aa abw
theorem M6:bW X (compareOp .Gt) (r2 X.K uH):=Aa abx
theorem acZ:bW X (compareOp .GtE) (r2 X.K Pr):=Aa aby
end
def HU:D->D->Option Bool
 |.aH,.aH=>ζ ξ|.aH,.int _=>ζ Δ|.int _,.aH=>ζ Δ|.aH,.bl _=>ζ Δ|.bl _,.aH=>ζ Δ|.aH,.str _=>ζ Δ|.str _,.aH=>ζ Δ
 |.int i,.int j=>ζ (decide (i=j))|.bl a,.bl b=>ζ (decide (a=b))|.str x,.str y=>ζ (decide (x=y))
 |.int _,.str _=>ζ Δ|.str _,.int _=>ζ Δ|.bl _,.str _=>ζ Δ|.str _,.bl _=>ζ Δ
 |_,_=>η
def cB:D->D->List Cell->R D:=λx y c=>match HU x y with
 |some b=>.ok (.bl b) c
 |none=>.bad
def fD:D->D->List Cell->R D:=λx y c=>match HU x y with
 |some b=>.ok (.bl (!b)) c
 |none=>.bad
def iP:D->Bool
 |.aH=>ξ
 |_=>Δ
def kR:D->D->List Cell->R D:=λx y c=>match y with
 |.aH=>.ok (.bl (!iP x)) c
 |_=>.bad
section
variable {X:Cx}{K:Ω}{ρ:List Θ}{H:Hp}{c:List Cell}
theorem Qe{x y:D}{v u:V}{b:Bool}(rx:Rel K ρ H x v) (ry:Rel K ρ H y u) (h:HU x y=ζ b):Dd v u=ξ/\decide (v=u)=b:=by
 cases x<;>cases y<;>first
  |(cases rx;cases ry;cases h;refine⟨rfl,?_⟩;simp;done)
  |(cases h;done)
theorem ja:bW X (compareOp .Eq) (r2 X.K cB):=by
 intro pins s σ H v u vv uu Q I rv ru h;obtain⟨ρ,x,y,c,W,rx,ry,p⟩:=h;unfold cB at p;split at p
 ·rename_i b hb;obtain⟨h1,h2⟩:=Qe rx ry hb;exact abA pins s σ H _ _ vv uu Q I rv ru ⟨h1,by rw[h2];exact p.here W rfl⟩
 ·exact p.elim
theorem t6:bW X (compareOp .NotEq) (r2 X.K fD):=by
 intro pins s σ H v u vv uu Q I rv ru h;obtain⟨ρ,x,y,c,W,rx,ry,p⟩:=h;unfold fD at p;split at p
 ·rename_i b hb;obtain⟨h1,h2⟩:=Qe rx ry hb;exact abr pins s σ H _ _ vv uu Q I rv ru ⟨h1,by rw[h2];exact p.here W rfl⟩
 ·exact p.elim
theorem agP{x:D}{v:V}(rx:Rel K ρ H x v):decide (v=.aH)=iP x:=by
 cases x<;>first
  |(cases rx;rfl;done)
  |(cases rx;simp[iP];done)
  |(obtain⟨a,xs,rfl,_⟩:=rx;simp[iP];done)
  |(obtain⟨a,rfl,_⟩:=rx;simp[iP];done)
  |(obtain⟨a,o,q,c,cl,xs,rfl,_⟩:=rx;simp[iP];done)
theorem M4:bW X (compareOp .IsNot) (r2 X.K kR):=by
 intro pins s σ H v u vv uu Q I rv ru h;obtain⟨ρ,x,y,c,W,rx,ry,p⟩:=h;unfold kR at p;split at p
 ·cases ry;exact abq pins s σ H _ _ vv uu Q I rv ru ⟨rfl,by rw[agP rx];exact p.here W rfl⟩
 ·exact p.elim
theorem aba{a b d:ο}{da db dd:Ev->List Cell->R D}{pos:Pos}{op op':CmpOp}{f g:D->D->List Cell->R D}(ho:bW X (compareOp op) (r2 X.K f)) (ho':bW X (compareOp op') (r2 X.K g)) (ha:bh X a da) (hb:bh X b db) (hd:bh X d dd)
  (h1:lastMarks [op,op'] [b,d]=Δ:=by with_unfolding_all rfl) :
  bh X (.Compare a [op,op'] [b,d] pos) (qI f g da db dd):=(aaT ho ho' ha hb hd h1).imp λσ H Q h=>by
 obtain⟨ρ,e,c,W,V,p⟩:=h;refine⟨ρ,e,c,W,V,post.bind p λx c1 aL H1 v _ W1 X1 r1 p1=>⟨aL,e,c1,W1,V.mono W X1,post.bind p1 λy c2 c8 H2 u _ W2 X2 r2 p2=>⟨c8,x,y,c2,W2,Rel.mono W1 X2 _ _ r1,r2,post.bind p2 λz c3 pQ H3 w _ W3 X3 r3 p3=>?_⟩⟩⟩
 have V3:=(V.mono W X1).mono W1 (X2.trans X3);cases z with
 |bl k =>
  cases r3;refine⟨k,rfl,?_⟩;cases k with
  |true =>
   refine lW ⟨pQ,e,c3,W3,V3,post.bind p3 λt c4 pP H4 w4 _ W4 X4 r4 p4=>⟨pP,y,t,c4,W4,Rel.mono W2 (X3.trans X4) _ _ r2,r4,p4⟩⟩
  |false=>exact lX (p3.here W3 rfl)
 |_=>exact p3.elim
end
def fS(c:List Cell):D->Option (List D)
 |.tup l=>ζ l
 |.lst l=>ζ l
 |.cH l=>ζ (l.map D.int)
 |.ref k=>match c[k]? with
  |some (.lst l)=>ζ l
  |none=>η
 |_=>η
def aE:D->D->List Cell->R D:=λx y c=>match y with
 |.int i=>match fS c x with
  |some l=>match dI l i with
   |some d=>.ok d c
   |none=>.bad
  |none=>.bad
 |_=>.bad
section
variable {X:Cx}{K:Ω}{ρ:List Θ}{H:Hp}{c:List Cell}
theorem Dc{x:D}{v:V}{l:List D}(W:Wd K ρ H c) (rx:Rel K ρ H x v) (h:fS c x=ζ l):∃a xs,v=.ref a/\(bD K H a xs\/cF K H a xs)/\aK K ρ H l xs:=by
 cases x with
 |tup m =>
  cases h;obtain⟨a,xs,e,s,r⟩:=rx;exact⟨a,xs,e,.inr (cF.of s),r⟩
 |lst m =>
  cases h;obtain⟨a,xs,e,s,r⟩:=rx;exact⟨a,xs,e,.inl (bD.of s.1),r⟩
 |cH m =>
  cases h;obtain⟨a,e,s⟩:=rx;exact⟨a,_,e,.inl s.sql,aK.ints⟩
 |ref k =>
  obtain⟨a,e,s⟩:=rx;unfold fS at h;dsimp only at h;cases hc:c[k]? with
  |none=>rw[hc]at h;cases h
  |some cl =>
   cases cl with
   |lst m =>
    rw[hc]at h;cases h;obtain⟨_,xs,hx,r⟩:=W.fP k a _ s hc;exact⟨a,xs,e,.inl (bD.of hx),r⟩
 |_=>cases h
theorem al7{l:List D}{xs:List V}{i:Int}{d:D}(r:aK K ρ H l xs) (h:dI l i=ζ d):∃v,dI xs i=ζ v/\Rel K ρ H d v:=by
 unfold dI at h ⊢;rw[r.length];cases e:gu l.length i with
 |none=>rw[e]at h;cases h
 |some j =>
  rw[e]at h;exact r.get (i:=j) h
theorem cE:yP X (r2 X.K aE):=by
 intro value slice pins s σ H v u vv uu Q I rv ru h hs;obtain⟨ρ,x,y,c,W,rx,ry,p⟩:=h;unfold aE at p;split at p
 ·split at p
  ·rename_i l hl;split at p
   ·rename_i d hd;cases ry;obtain⟨a,xs,rfl,sq,r⟩:=Dc W rx hl;obtain⟨w,hw,rw'⟩:=al7 r hd
    rcases sq with sq|sq
    ·exact agH value slice pins s σ H _ _ vv uu Q I rv ru ⟨a,xs,_,w,rfl,rfl,sq,hw,p.here W rw'⟩ hs
    ·exact agG value slice pins s σ H _ _ vv uu Q I rv ru ⟨a,xs,_,w,rfl,rfl,sq,hw,p.here W rw'⟩ hs
   ·exact p.elim
  ·exact p.elim
 ·exact p.elim
end
def rK(c:List Cell):D->Option Bool
 |.aH=>ζ Δ
 |.bl b=>ζ b
 |.int i=>ζ (i != 0)
 |.tup l=>ζ (!l.isEmpty)
 |.lst l=>ζ (!l.isEmpty)
 |.ref k=>match c[k]? with
  |some (.lst l)=>ζ (!l.isEmpty)
  |none=>η
 |_=>η
def BX(a:Ev->List Cell->R D):Ev->List Cell->R Bool:=λe c=>(a e c).bind λx c=>match rK c x with
 |some b=>.ok b c
 |none=>.bad
def aQ(a:Ev->List Cell->R D):Ev->List Cell->R Bool:=λe c=>(a e c).bind λx c=>match x with
 |.bl b=>.ok b c
 |_=>.bad
def iF(a b:Ev->List Cell->R Bool):Ev->List Cell->R Bool:=λe c=>(a e c).bind λx c=>if x=ξ then b e c else .ok Δ c
def iE(a b:Ev->List Cell->R Bool):Ev->List Cell->R Bool:=λe c=>(a e c).bind λx c=>if x=ξ then .ok ξ c else b e c
def d8(a:Ev->List Cell->R Bool):Ev->List Cell->R Bool:=λe c=>(a e c).bind λx c=>.ok (!x) c
def iR(a b:Ev->List Cell->R D):Ev->List Cell->R D:=λe c=>(a e c).bind λx c=>match x with
 |.bl k=>if k=ξ then b e c else .ok (.bl Δ) c
 |_=>.bad
def IK(a:Ev->List Cell->R D):Ev->List Cell->R D:=λe c=>(a e c).bind λx c=>match x with
 |.bl k=>.ok (.bl (!k)) c
 |_=>.bad
def uX(t:Ev->List Cell->R Bool) (a b:Ev->List Cell->R D):Ev->List Cell->R D:=λe c=>(t e c).bind λx c=>if x=ξ then a e c else b e c
section
variable {X:Cx}{a b c':ο}{da db:Ev->List Cell->R D}{ta tb:Ev->List Cell->R Bool}{pos:Pos}{rest:List ο}
theorem UK{K:Ω}{ρ:List Θ}{H:Hp}{c:List Cell}{x:D}{v:V}{k:Bool}(W:Wd K ρ H c) (rx:Rel K ρ H x v) (h:rK c x=ζ k):Kc K v H k:=by
 have emp:∀{l:List D}{xs:List V},aK K ρ H l xs->l.isEmpty=xs.isEmpty:=fun{l xs} r=>by
  have:=r.length;cases l<;>cases xs<;>simp_all
 cases x with
 |aH=>cases rx;cases h;exact rfl
 |bl b=>cases rx;cases h;exact rfl
 |int i=>cases rx;cases h;exact rfl
 |tup l =>
  obtain⟨a,xs,rfl,s,r⟩:=rx;cases h;exact .inr (.inl ⟨xs,cF.of s,by rw[emp r]⟩)
 |lst l =>
  obtain⟨a,xs,rfl,s,r⟩:=rx;cases h;exact .inl ⟨xs,bD.of s.1,by rw[emp r]⟩
 |ref j =>
  obtain⟨a,rfl,s⟩:=rx;unfold rK at h;dsimp only at h;cases hc:c[j]? with
  |none=>rw[hc]at h;cases h
  |some cl =>
   cases cl with
   |lst m =>
    rw[hc]at h;cases h;obtain⟨_,xs,hx,r⟩:=W.fP j a _ s hc;exact .inl ⟨xs,bD.of hx,by rw[emp r]⟩
 |_=>cases h
theorem aaZ(ha:bh X a da) (he:∀whole,isTrue a X.env whole=(do let v <-whole;standAt a.pos;holding [v] (truthy v)):=by intro _;rfl):iT X a (BX da):=(Y0 ha he).imp λσ H Q h=>by
 obtain⟨ρ,e,c,W,V,p⟩:=h;refine⟨ρ,e,c,W,V,post.bind p λx c1 aL H1 v _ W1 X1 r1 p1=>?_⟩
 split at p1
 ·rename_i k hk;exact⟨k,UK W1 r1 hk,p1.here W1 rfl⟩
 ·exact p1.elim
theorem JY(h:tD X.K (λ_ _ a b=>a=b) (aQ da) σ H Q):tD X.K (Rel X.K) da σ H λx H'=>∃k,x=.bl k/\Q k H':=by
 obtain⟨ρ,e,c,W,V,p⟩:=h;refine⟨ρ,e,c,W,V,post.bind p λx c1 aL H1 v _ W1 X1 r1 p1=>?_⟩
 cases x with
 |bl k=>cases r1;exact⟨k,rfl,p1.here W1 rfl⟩
 |_=>exact p1.elim
theorem jQ(ha:bh X a da) (he:∀whole,isTrue a X.env whole=(do let v <-whole;standAt a.pos;holding [v] (truthy v)):=by intro _;rfl):iT X a (aQ da):=(YZ ha he).imp λσ H Q h=>JY h
theorem eN{op:CmpOp}{f:D->D->List Cell->R D}(ho:bW X (compareOp op) (r2 X.K f)) (ha:bh X a da) (hb:bh X b db) (hm:behindInMarks op b=Δ:=by first|exact Nj _|rfl):iT X (.Compare a [op] [b] pos) (aQ (au f da db)) :=
 (Y4 ho ha hb hm).imp λσ H Q h=>zj (Q:=λx H'=>∃k,x=.bl k/\Q k H') (JY h)
theorem aa9{d:ο}{dd:Ev->List Cell->R D}{op op':CmpOp}{f g:D->D->List Cell->R D}(ho:bW X (compareOp op) (r2 X.K f)) (ho':bW X (compareOp op') (r2 X.K g)) (ha:bh X a da) (hb:bh X b db) (hd:bh X d dd)
  (h1:lastMarks [op,op'] [b,d]=Δ:=by with_unfolding_all rfl):iT X (.Compare a [op,op'] [b,d] pos) (aQ (qI f g da db dd)):=(Y5 ho ho' ha hb hd h1).imp λσ H Q h=>by
 obtain⟨ρ,e,c,W,V,p⟩:=JY h;refine⟨ρ,e,c,W,V,post.bind p λx c1 aL H1 v _ W1 X1 r1 p1=>⟨aL,e,c1,W1,V.mono W X1,post.bind p1 λy c2 c8 H2 u _ W2 X2 r2 p2=>⟨c8,x,y,c2,W2,Rel.mono W1 X2 _ _ r1,r2,post.bind p2 λz c3 pQ H3 w _ W3 X3 r3 p3=>?_⟩⟩⟩
 have V3:=(V.mono W X1).mono W1 (X2.trans X3);cases z with
 |bl k =>
  cases r3;refine⟨k,rfl,?_⟩;cases k with
  |true =>
   refine lW ⟨pQ,e,c3,W3,V3,post.bind p3 λt c4 pP H4 w4 _ W4 X4 r4 p4=>⟨pP,y,t,c4,W4,Rel.mono W2 (X3.trans X4) _ _ r2,r4,p4⟩⟩
  |false=>exact lX (p3.here W3 rfl)
 |_=>exact p3.elim
theorem zV(ha:iT X a ta):vM X (.BoolOp .And [a] pos) ta:=YV ha
theorem zT(ha:iT X a ta):vM X (.BoolOp .Or [a] pos) ta:=YT ha
theorem zU(ha:iT X a ta) (hb:vM X (.BoolOp .And (b::rest) pos) tb):vM X (.BoolOp .And (a::b::rest) pos) (iF ta tb):=(YW ha hb).imp λσ H Q h=>by
 obtain⟨ρ,e,c,W,V,p⟩:=h;refine⟨ρ,e,c,W,V,post.bind p λx c1 aL H1 v _ W1 X1 r1 p1=>?_⟩
 cases r1;cases x with
 |true=>exact lW ⟨aL,e,c1,W1,V.mono W X1,p1⟩
 |false=>exact lX (post.here (a:=Δ) p1 W1 rfl)
theorem wU(ha:iT X a ta) (hb:vM X (.BoolOp .Or (b::rest) pos) tb):vM X (.BoolOp .Or (a::b::rest) pos) (iE ta tb):=(YU ha hb).imp λσ H Q h=>by
 obtain⟨ρ,e,c,W,V,p⟩:=h;refine⟨ρ,e,c,W,V,post.bind p λx c1 aL H1 v _ W1 X1 r1 p1=>?_⟩
 cases r1;cases x with
 |true=>exact lW (post.here (a:=ξ) p1 W1 rfl)
 |false=>exact lX ⟨aL,e,c1,W1,V.mono W X1,p1⟩
theorem jP(ha:iT X a ta):iT X (.UnaryOp .Not a pos) (d8 ta):=(Y3 ha).imp λσ H Q h=>by
 obtain⟨ρ,e,c,W,V,p⟩:=h;refine⟨ρ,e,c,W,V,post.bind p λx c1 aL H1 v _ W1 X1 r1 p1=>?_⟩
 cases r1;exact p1.here W1 rfl
theorem tT{op}(h:bh X a da):bh X (.BoolOp op [a] pos) da:=aaI h
theorem tX(ha:bh X a da) (hb:bh X (.BoolOp .And (b::rest) pos) db):bh X (.BoolOp .And (a::b::rest) pos) (iR da db):=(aaY ha hb).imp λσ H Q h=>by
 obtain⟨ρ,e,c,W,V,p⟩:=h;refine⟨ρ,e,c,W,V,post.bind p λx c1 aL H1 v _ W1 X1 r1 p1=>?_⟩
 cases x with
 |bl k =>
  cases r1;refine⟨k,rfl,?_⟩;cases k with
  |true=>exact lW ⟨aL,e,c1,W1,V.mono W X1,p1⟩
  |false=>exact lX (post.here (a:=D.bl Δ) p1 W1 rfl)
 |_=>exact p1.elim
theorem aa1(ha:bh X a da):bh X (.UnaryOp .Not a pos) (IK da):=(aaJ ha).imp λσ H Q h=>by
 obtain⟨ρ,e,c,W,V,p⟩:=h;refine⟨ρ,e,c,W,V,post.bind p λx c1 aL H1 v _ W1 X1 r1 p1=>?_⟩
 cases x with
 |bl k=>cases r1;exact⟨k,rfl,p1.here W1 rfl⟩
 |_=>exact p1.elim
theorem MF(ht:iT X c' ta) (ha:bh X a da) (hb:bh X b db):bh X (.IfExp c' a b pos) (uX ta da db):=(aaO ht ha hb).imp λσ H Q h=>by
 obtain⟨ρ,e,c,W,V,p⟩:=h;refine⟨ρ,e,c,W,V,post.bind p λx c1 aL H1 v _ W1 X1 r1 p1=>?_⟩
 cases r1;cases x with
 |true=>exact lW ⟨aL,e,c1,W1,V.mono W X1,p1⟩
 |false=>exact lX ⟨aL,e,c1,W1,V.mono W X1,p1⟩
end
inductive Fl where
 |nx (e:Ev)|rt (d:D)|bk (e:Ev)|ct (e:Ev)
abbrev aa:=List Cell
abbrev af:=Ev->List Cell->R D
abbrev ah:=Ev->List Cell->R Fl
abbrev ai:=Ev->List Cell->R Bool
abbrev aj:=Ev->List Cell->R (List D)
inductive FV where
 |nx (σ:St)|rt (v:V)|bk (σ:St)|ct (σ:St)
def jl(K:Ω) (ρ:List Θ) (H:Hp):Fl->FV->Prop
 |.nx e,f=>∃σ,f=.nx σ/\dU K ρ H e σ
 |.rt d,f=>∃v,f=.rt v/\Rel K ρ H d v
 |.bk e,f=>∃σ,f=.bk σ/\dU K ρ H e σ
 |.ct e,f=>∃σ,f=.ct σ/\dU K ρ H e σ
def En(Z:Ends):FV->Hp->Prop
 |.nx σ,H=>Z.nx σ H
 |.rt v,H=>Z.rt v H
 |.bk σ,H=>Z.bk σ H
 |.ct σ,H=>Z.ct σ H
def Lv(K:Ω) (d:ah):TS:=λZ σ H=>tD K (jl K) d σ H (En Z)
abbrev ki(X:Cx) (st:ad4) (d:ah):Prop:=PS X st (Lv X.K d)
abbrev bT(X:Cx) (st:List ad4) (d:ah):Prop:=gA X st (Lv X.K d)
def b8:ah:=λe c=>.ok (.nx e) c
def aD(a b:ah):ah:=λe c=>(a e c).bind λf c=>match f with
 |.nx e=>b e c
 |f=>.ok f c
def aM(a:af):ah:=λe c=>(a e c).bind λx c=>.ok (.rt x) c
def eL(a:af):ah:=λe c=>(a e c).bind λ_ c=>.ok (.nx e) c
def bU(t:ai) (a b:ah):ah:=λe c=>(t e c).bind λx c=>if x=ξ then a e c else b e c
def aG(i:Nat) (a:af):ah:=λe c=>(a e c).bind λx c=>.ok (.nx (e.set i (ζ x))) c
def Dj:ah:=λ_ _=>.bad
section
variable {X:Cx}{st:ad4}{rest:List ad4}{t u:ah}{e:ο}{da:af}{pos:Pos}
theorem fC:bT X [] b8:=Y7.imp λZ σ H h=>by
 obtain⟨ρ,e,c,W,V,p⟩:=h;exact p.here W ⟨σ,rfl,V⟩
theorem aV(h1:ki X st t) (h2:bT X rest u):bT X (st::rest) (aD t u):=(Y8 h1 h2).imp λZ σ H h=>by
 obtain⟨ρ,e,c,W,V,p⟩:=h;refine⟨ρ,e,c,W,V,post.bind p λf c1 aL H1 b _ W1 X1 r1 p1=>?_⟩
 cases f with
 |nx e1=>obtain⟨σ1,rfl,V1⟩:=r1;exact⟨aL,e1,c1,W1,V1,p1⟩
 |rt d=>obtain⟨v,rfl,V1⟩:=r1;exact post.here (Q:=En Z) (show post X.K (jl X.K) (.ok (Fl.rt d) c1) aL H1 (En Z)from p1) W1 ⟨_,rfl,V1⟩
 |bk e1=>obtain⟨σ1,rfl,V1⟩:=r1;exact post.here (Q:=En Z) (show post X.K (jl X.K) (.ok (Fl.bk e1) c1) aL H1 (En Z)from p1) W1 ⟨_,rfl,V1⟩
 |ct e1=>obtain⟨σ1,rfl,V1⟩:=r1;exact post.here (Q:=En Z) (show post X.K (jl X.K) (.ok (Fl.ct e1) c1) aL H1 (En Z)from p1) W1 ⟨_,rfl,V1⟩
theorem aT(h1:ki X st t):bT X [st] t:=Y6 h1
theorem Xs:ki X st Dj:=λ_ _ _ _ _ _ h=>by
 obtain⟨ρ,e,c,W,V,p⟩:=h;exact p.elim
theorem bG(he:bh X e da):ki X (.Return (ζ e) pos) (aM da):=(Zc he).imp λZ σ H h=>by
 obtain⟨ρ,e,c,W,V,p⟩:=h;refine⟨ρ,e,c,W,V,post.bind p λx c1 aL H1 v _ W1 X1 r1 p1=>p1.here W1 ⟨v,rfl,r1⟩⟩
theorem kC(he:bh X e da) (hs:swapsWith e η pos.line X.env=pure Δ:=by rfl):ki X (.Expr e pos) (eL da):=(Zf he hs).imp λZ σ H h=>by
 obtain⟨ρ,e,c,W,V,p⟩:=h;refine⟨ρ,e,c,W,V,post.bind p λx c1 aL H1 v _ W1 X1 r1 p1=>p1.here W1 ⟨σ,rfl,V.mono W X1⟩⟩
theorem fk{c':ο}{a b:List ad4}{tc:ai}(hc:iT X c' tc) (ha:bT X a t) (hb:bT X b u):ki X (.If c' a b pos) (bU tc t u):=(Zd hc ha hb).imp λZ σ H h=>by
 obtain⟨ρ,e,c,W,V,p⟩:=h;refine⟨ρ,e,c,W,V,post.bind p λx c1 aL H1 v _ W1 X1 r1 p1=>?_⟩
 cases r1;cases x with
 |true=>exact lW ⟨aL,e,c1,W1,V.mono W X1,p1⟩
 |false=>exact lX ⟨aL,e,c1,W1,V.mono W X1,p1⟩
theorem bE{i:Nat}{x:Str}{pos':Pos}(he:bh X e da) (hN:X.N.Nodup:=by decide +kernel) (hi:X.N[i]? = ζ x:=by rfl) (hx:Loc X.env.scope x:=by first|exact Or.inl rfl|exact Or.inr rfl) (hs:swapsWith e (ζ (.Name x pos')) pos.line X.env=pure Δ:=by rfl)
  (hf:X.fn x=ξ\/X.env.scope.names.lookup x=ζ .local:=by first|exact .inl rfl|exact .inr rfl):ki X (.Assign [.Name x pos'] e pos) (aG i da):=(Zb hN hi hx he hs).imp λZ σ H h=>by
 obtain⟨ρ,e,c,W,V,p⟩:=h;refine⟨ρ,e,c,W,V,post.bind p λx c1 aL H1 v _ W1 X1 r1 p1=>p1.here W1 ⟨_,rfl,(V.mono W X1).set r1 i⟩⟩
end
abbrev Gd:=D->Ev->aa->R Ev
def zl(K:Ω) (g:Gd):TG:=λv σ H Q=>∃ρ x e c,Wd K ρ H c/\dU K ρ H e σ/\Rel K ρ H x v/\post K (λρ H e σ=>dU K ρ H e σ) (g x e c) ρ H Q
def Vo(K:Ω) (g:List D->Ev->aa->R Ev):nH:=λvs σ H Q=>∃ρ xs e c,Wd K ρ H c/\dU K ρ H e σ/\aK K ρ H xs vs/\post K (λρ H e σ=>dU K ρ H e σ) (g xs e c) ρ H Q
abbrev pM(X:Cx) (e:ο) (g:Gd):Prop:=PG X e (zl X.K g)
abbrev Ce(X:Cx) (es:List ο) (g:List D->Ev->aa->R Ev):Prop:=pL X es (Vo X.K g)
def az(i:Nat):Gd:=λx e c=>.ok (e.set i (ζ x)) c
def eO:List D->Ev->aa->R Ev:=λxs e c=>match xs with
 |[]=>.ok e c
 |_=>.bad
def cu(g:Gd) (r:List D->Ev->aa->R Ev):List D->Ev->aa->R Ev:=λxs e c=>match xs with
 |x::xs=>(g x e c).bind λe c=>r xs e c
 |_=>.bad
def eG(n:Nat) (g:List D->Ev->aa->R Ev):Gd:=λx e c=>match x with
 |.tup l=>if l.length=n then g l e c else .bad
 |_=>.bad
theorem PG.imp{X:Cx}{e:ο}{t t':TG}(h:PG X e t) (i:∀v σ H Q,t' v σ H Q->t v σ H Q):PG X e t':=λpins s σ H x u Q I r q=>h pins s σ H x u Q I r (i _ _ _ _ q)
theorem pL.imp{X:Cx}{es:List ο}{t t':nH}(h:pL X es t) (i:∀v σ H Q,t' v σ H Q->t v σ H Q):pL X es t':=λpins s σ H x u Q I r q=>h pins s σ H x u Q I r (i _ _ _ _ q)
section
variable {X:Cx}{pos:Pos}
theorem bx{i:Nat}{x:Str}(hN:X.N.Nodup:=by decide +kernel) (hi:X.N[i]? = ζ x:=by rfl) (hx:Loc X.env.scope x:=by first|exact Or.inl rfl|exact Or.inr rfl) (hf:X.fn x=ξ\/X.env.scope.names.lookup x=ζ .local:=by first|exact .inl rfl|exact .inr rfl):pM X (.Name x pos) (az i) :=
 (aaB hN hi hx hf).imp λv σ H Q h=>by
  obtain⟨ρ,x,e,c,W,V,r,p⟩:=h;exact p.here W (V.set r i)
theorem uI:Ce X [] eO:=aax.imp λv σ H Q h=>by
 obtain⟨ρ,xs,e,c,W,V,r,p⟩:=h;cases xs with
 |nil=>exact⟨r,p.here W V⟩
 |cons x xs=>exact p.elim
theorem jH{e:ο}{es:List ο}{g:Gd}{u:List D->Ev->aa->R Ev}(h1:pM X e g) (h2:Ce X es u) (hs:(assignEach (e::es) X.env).map (·.2)=assign e X.env::(assignEach es X.env).map (·.2):=by rfl):Ce X (e::es) (cu g u) :=
 (aay h1 h2 hs).imp λv σ H Q h=>by
  obtain⟨ρ,xs,e,c,W,V,r,p⟩:=h;cases xs with
  |nil=>exact p.elim
  |cons x xs =>
   obtain⟨y,ys,rfl,rx,rs⟩:=r;exact⟨y,ys,rfl,ρ,x,e,c,W,V,rx,post.bind p λe1 c1 aL H1 σ1 _ W1 X1 V1 p1=>⟨aL,xs,e1,c1,W1,V1,aK.mono W X1 _ _ rs,p1⟩⟩
theorem uJ{es:List ο}{k:Nat}{g:List D->Ev->aa->R Ev}{n:Nat}(h:Ce X es g) (hc:X.calm=ξ:=by rfl) (hn:(assignEach es X.env).length=n:=by rfl) (hst:(assignEach es X.env).findIdx? (·.1)=η:=by rfl):pM X (.Tuple es k pos) (eG n g) :=
 (aaz hc h hn hst).imp λv σ H Q h=>by
  obtain⟨ρ,x,e,c,W,V,r,p⟩:=h;cases x with
  |tup l =>
   obtain⟨a,xs,rfl,s,rs⟩:=r;unfold eG at p;dsimp only at p;split at p
   ·rename_i hl;exact⟨a,xs,rfl,cF.of s,rs.length.trans hl,ρ,l,e,c,W,V,rs,p⟩
   ·exact p.elim
  |_=>exact p.elim
def iZ(a:af) (g:Gd):ah:=λe c=>(a e c).bind λx c=>(g x e c).bind λe c=>.ok (.nx e) c
theorem wA{tg e:ο}{da:af}{g:Gd}(he:bh X e da) (hg:pM X tg g) (hs:swapsWithSole [tg] e pos.line X.env=pure Δ:=by rfl) (hw:swappedStores [tg] e X.env=pure η:=by rfl)
  (h1:(assignEach [tg] X.env).map (·.2)=[assign tg X.env]:=by rfl):ki X (.Assign [tg] e pos) (iZ da g):=(Zg he hg hs hw h1).imp λZ σ H h=>by
 obtain⟨ρ,e,c,W,V,p⟩:=h;refine⟨ρ,e,c,W,V,post.bind p λx c1 aL H1 v _ W1 X1 r1 p1=>⟨aL,x,e,c1,W1,V.mono W X1,r1,post.bind p1 λe2 c2 c8 H2 σ2 _ W2 X2 V2 p2=>p2.here W2 ⟨σ2,rfl,V2⟩⟩⟩
def lD:D->D->D->aa->R Unit:=λo i v c=>match o,i with
 |.ref k,.int i=>match c[k]? with
  |some (.lst l)=>match gu l.length i with
   |some j=>if noRef v=ξ then .ok () (c.set k (.lst (l.set j v)))else .bad
   |none=>.bad
  |none=>.bad
 |_,_=>.bad
def l5(o i:af):Gd:=λx e c=>(o e c).bind λo c=>(i e c).bind λi c=>(lD o i x c).bind λ_ c=>.ok e c
theorem AR{o i:ο}{dO di:af}(ho:bh X o dO) (hi:bh X i di)
  (ha:∀v,assign (.Subscript o i pos) X.env v=(do
   let ov <-holding [v] (eval o X.env)
   let iv <-holding [v,ov] (eval i X.env)
   standAt pos
   holding [v,ov,iv] (setItem ov iv v)
   release [v,ov,iv] []):=by intro _;rfl):pM X (.Subscript o i pos) (l5 dO di):=(aaA ho hi set_list ha).imp λv σ H Q h=>by
 obtain⟨ρ,x,e,c,W,V,rx,p⟩:=h;refine⟨ρ,e,c,W,V,post.bind p λo c1 aL H1 ov _ W1 X1 r1 p1=>⟨aL,e,c1,W1,V.mono W X1,post.bind p1 λi c2 c8 H2 iv _ W2 X2 r2 p2=>?_⟩⟩
 have V2:=(V.mono W X1).mono W1 X2;have XW:=Rel.mono W (X1.trans X2) _ _ rx;have ro:=Rel.mono W1 X2 _ _ r1;unfold lD at p2;split at p2
 ·rename_i k i _ _;split at p2
  ·rename_i l hl;split at p2
   ·rename_i j hj;split at p2
    ·rename_i hv;obtain⟨a,rfl,ha⟩:=ro;cases r2;obtain⟨nr,ys,hy,rl⟩:=W2.fP k a _ ha hl;refine⟨a,ys,i,j,rfl,rfl,hy,by rw[rl.length];exact hj,?_⟩
     exact p2 c8 _ σ (W2.write ha (Nq nr hv) (rl.set j XW)) (Ext.write ha) (V2.mono W2 (Ext.write ha))
    ·exact p2.elim
   ·exact p2.elim
  ·exact p2.elim
 ·exact p2.elim
end
structure Src where
 items:List D
 stays:aa->Prop
def JS(K:Ω) (ρ:List Θ) (H:Hp) (s:Src) (J:It):Prop :=
 ∀ρ' H' c',Wd K ρ' H' c'->Ext ρ H ρ' H'->s.stays c'->∀i:Nat,
  (∀d,s.items[i]? = ζ d->J.go i H'/\∀x H2,J.vQ i H' x H2->Wd K ρ' H2 c'/\Ext ρ' H' ρ' H2/\Rel K ρ' H2 d x)/\(i=s.items.length->J.stop i H')
def Lw(K:Ω) (d:Ev->aa->R Src):TI:=tD K (JS K) d
abbrev PId(X:Cx) (tg iter:ο) (d:Ev->aa->R Src):Prop:=PI X tg iter (Lw X.K d)
theorem PI.imp{X:Cx}{tg iter:ο}{t t':TI}(h:PI X tg iter t) (i:∀σ H Q,t' σ H Q->t σ H Q):PI X tg iter t':=λpins s σ H Q I q=>h pins s σ H Q I (i _ _ _ q)
def dj(a:af):Ev->aa->R Src:=λe c=>(a e c).bind λx c=>match x with
 |.lst l=>.ok ⟨l,λ_=>True⟩ c
 |.cH l=>.ok ⟨l.map D.int,λ_=>True⟩ c
 |.ref k=>match c[k]? with
  |some (.lst l)=>.ok ⟨l,λc=>c[k]? = ζ (.lst l)⟩ c
  |none=>.bad
 |_=>.bad
def cL(a:af):Ev->aa->R Src:=λe c=>(a e c).bind λx c=>match x with
 |.tup l=>.ok ⟨l,λ_=>True⟩ c
 |_=>.bad
def bf(lo hi:Int):List D:=(θ (hi-lo).toNat).map fun(i:Nat)=>D.int (lo+(i:Int))
def bg(a:aj):Ev->aa->R Src:=λe c=>(a e c).bind λxs c=>match xs with
 |[.int j]=>if -(2^62)<=j/\j<2^62 then .ok ⟨bf 0 j,λ_=>True⟩ c else .bad
 |_=>.bad
def j9(a:aj):Ev->aa->R Src:=λe c=>(a e c).bind λxs c=>match xs with
 |[.int i,.int j]=>if -(2^62)<=i/\i<2^62/\-(2^62)<=j/\j<2^62 then .ok ⟨bf i j,λ_=>True⟩ c else .bad
 |_=>.bad
def l9(a:aj):Ev->aa->R Src:=λe c=>(a e c).bind λxs c=>match xs with
 |[.tup l]=>.ok ⟨l.mapIdx λi x=>.tup [.int i,x],λ_=>True⟩ c
 |_=>.bad
section
variable {X:Cx}{tg:ο}{K:Ω}{ρ:List Θ}{H:Hp}
theorem Ge{l:List D}{a:Θ}{st:aa->Prop}(h:∀ρ' H' c',Wd K ρ' H' c'->Ext ρ H ρ' H'->st c'->∃xs,bD K H' a xs/\aK K ρ' H' l xs):JS K ρ H ⟨l,st⟩ (Kn K a):=by
 intro ρ' H' c' W E s i;obtain⟨xs,q,r⟩:=h ρ' H' c' W E s;refine⟨λd hd=>?_,λe=>⟨xs,q,by rw[r.length];exact aqM e.symm⟩⟩
 obtain⟨x,hx,rx⟩:=r.get hd;refine⟨⟨xs,x,q,hx⟩,λy H2 hy=>?_⟩
 obtain⟨rfl,hy⟩:=hy;have:=hy xs q;rw[hx]at this;cases this;exact⟨W,Ext.refl,rx⟩
theorem agC{l:List D}{a:Θ}{st:aa->Prop}(h:∀ρ' H' c',Wd K ρ' H' c'->Ext ρ H ρ' H'->st c'->∃xs,cF K H' a xs/\aK K ρ' H' l xs):JS K ρ H ⟨l,st⟩ (Km K a):=by
 intro ρ' H' c' W E s i;obtain⟨xs,q,r⟩:=h ρ' H' c' W E s;refine⟨λd hd=>?_,λe=>⟨xs,q,by rw[r.length];exact aqM e.symm⟩⟩
 obtain⟨x,hx,rx⟩:=r.get hd;refine⟨⟨xs,x,q,hx⟩,λy H2 hy=>?_⟩
 obtain⟨rfl,hy⟩:=hy;have:=hy xs q;rw[hx]at this;cases this;exact⟨W,Ext.refl,rx⟩
theorem zD{lo hi:Int}{i:Nat}{d:D}(h:(bf lo hi)[i]? = ζ d):i<(hi-lo).toNat/\d=.int (lo+i):=by
 unfold bf at h;rw[apM]at h;cases q:(θ (hi-lo).toNat)[i]? with
 |none=>rw[q]at h;cases h
 |some j =>
  rw[q]at h;have h1:=(apK.mp q);obtain⟨h2,h3⟩:=h1;rw[asr]at h3;subst h3;cases h;exact⟨by simpa using h2,rfl⟩
theorem Oo{lo hi:Int}{st:aa->Prop}:JS K ρ H ⟨bf lo hi,st⟩ (yQ lo (hi-lo).toNat):=by
 intro ρ' H' c' W E s i;refine⟨λd hd=>?_,λe=>?_⟩
 ·obtain⟨h1,rfl⟩:=zD hd;refine⟨h1,λx H2 hy=>?_⟩
  obtain⟨rfl,rfl⟩:=hy;exact⟨W,Ext.refl,rfl⟩
 ·have:(bf lo hi).length=(hi-lo).toNat:=by simp[bf]
  show(hi-lo).toNat<=i;rw[e];exact aqM this.symm
theorem j4{l:ο}{dl:af}(hl:bh X l dl):PId X tg l (dj dl):=(aau hl).imp λσ H Q h=>by
 obtain⟨ρ,e,c,W,V,p⟩:=h;refine⟨ρ,e,c,W,V,post.bind p λx c1 aL H1 v _ W1 X1 r1 p1=>?_⟩
 cases x with
 |lst l =>
  obtain⟨a,xs,rfl,s,rs⟩:=r1;exact⟨a,rfl,⟨xs,bD.of s.1⟩,p1.here W1 (Ge λρ' H' c' W' E _=>⟨xs,bD.of (D9 E s).1,aK.mono W1 E _ _ rs⟩)⟩
 |cH l =>
  obtain⟨a,rfl,s⟩:=r1;exact⟨a,rfl,⟨_,s.sql⟩,p1.here W1 (Ge λρ' H' c' W' E _=>⟨_,(LQ E s).sql,aK.ints⟩)⟩
 |ref k =>
  obtain⟨a,rfl,ha⟩:=r1;dsimp only at p1;split at p1
  ·rename_i l hl;obtain⟨_,xs,hx,rs⟩:=W1.fP k a _ ha hl;refine⟨a,rfl,⟨xs,bD.of hx⟩,p1.here W1 (Ge λρ' H' c' W' E st=>?_)⟩
   obtain⟨_,ys,hy,rs'⟩:=W'.fP k a _ (E.pre k a ha) st;exact⟨ys,bD.of hy,rs'⟩
  ·exact p1.elim
 |_=>exact p1.elim
theorem j3{l:ο}{dl:af}(hl:bh X l dl):PId X tg l (cL dl):=(aaq hl).imp λσ H Q h=>by
 obtain⟨ρ,e,c,W,V,p⟩:=h;refine⟨ρ,e,c,W,V,post.bind p λx c1 aL H1 v _ W1 X1 r1 p1=>?_⟩
 cases x with
 |tup l =>
  obtain⟨a,xs,rfl,s,rs⟩:=r1;exact⟨a,rfl,⟨xs,cF.of s⟩,p1.here W1 (agC λρ' H' c' W' E _=>⟨xs,cF.of (rJ W1 E s),aK.mono W1 E _ _ rs⟩)⟩
 |_=>exact p1.elim
theorem dF{a:ο}{da:aj}{p pos:Pos}(ha:eZ X [a] da) (hm:X.mg "range"=η) (hg:Gl X "range":=by rfl) (hs:μ [a] X.env=[(Δ,eval a X.env)]:=by exact p7 rfl):PId X tg (.Call (.Name "range" p) [a] [] pos) (bg da) :=
 (aat hg hm ha hs).imp λσ H Q h=>by
  obtain⟨ρ,e,c,W,V,p⟩:=h;refine⟨ρ,e,c,W,V,post.bind p λx c1 aL H1 v _ W1 X1 r1 p1=>?_⟩
  split at p1
  ·rename_i j _;split at p1
   ·rename_i hj;obtain⟨y,ys,rfl,ry,rs⟩:=r1;cases ry;cases rs;refine⟨j,rfl,hj.1,hj.2,p1.here W1 ?_⟩;have:=Oo (K:=X.K) (ρ:=aL) (H:=H1) (lo:=0) (hi:=j) (st:=λ_=>True)
    rw[Int.sub_zero]at this;exact this
   ·exact p1.elim
  ·exact p1.elim
theorem Gm{a b:ο}{da:aj}{p pos:Pos}(ha:eZ X [a,b] da) (hm:X.mg "range"=η) (hg:Gl X "range":=by rfl) (hs:μ [a,b] X.env=[(Δ,eval a X.env),(Δ,eval b X.env)]:=by exact LN rfl rfl) (hs2:μ [b] X.env=[(Δ,eval b X.env)]:=by exact p7 rfl):PId X tg (.Call (.Name "range" p) [a,b] [] pos) (j9 da) :=
 (aas hg hm ha hs hs2).imp λσ H Q h=>by
  obtain⟨ρ,e,c,W,V,p⟩:=h;refine⟨ρ,e,c,W,V,post.bind p λx c1 aL H1 v _ W1 X1 r1 p1=>?_⟩
  split at p1
  ·rename_i i j _;split at p1
   ·rename_i hj;obtain⟨y,ys,rfl,ry,z,zs,rfl,rz,rs⟩:=r1;cases ry;cases rz;cases rs;exact⟨i,j,rfl,hj,p1.here W1 Oo⟩
   ·exact p1.elim
  ·exact p1.elim
theorem agB{l m:List D}{a b:Θ}{st:aa->Prop}(h:∀ρ' H' c',Wd K ρ' H' c'->Ext ρ H ρ' H'->st c'->∃xs ys,cF K H' a xs/\cF K H' b ys/\aK K ρ' H' l xs/\aK K ρ' H' m ys):JS K ρ H ⟨List.zipWith (λx y=>.tup [x,y]) l m,st⟩ (Ci (cF K) a b):=by
 intro ρ' H' c' W E s i;obtain⟨xs,ys,q1,q2,r1,r2⟩:=h ρ' H' c' W E s;refine⟨λd hd=>?_,λe=>⟨xs,ys,q1,q2,?_⟩⟩
 ·have hd:(List.zipWith (λx y=>D.tup [x,y]) l m)[i]? = ζ d:=hd
  rw[auq]at hd;cases e1:l[i]? with
  |none=>rw[e1]at hd;cases hd
  |some x =>
   cases e2:m[i]? with
   |none=>rw[e1,e2]at hd;cases hd
   |some y =>
    rw[e1,e2]at hd;cases hd;obtain⟨v,hv,rv⟩:=r1.get e1;obtain⟨u,hu,ru⟩:=r2.get e2;refine⟨⟨xs,ys,v,u,q1,q2,hv,hu⟩,λz H2 hz=>?_⟩
    obtain⟨t,v',u',rfl,ht,rfl,hz⟩:=hz;obtain⟨z1,z2⟩:=hz xs ys q1 q2;rw[hv]at z1;rw[hu]at z2;cases z1;cases z2;exact⟨W.fresh ht,Ext.fresh W ht,t,[v,u],rfl,e8,v,[u],rfl,Rel.mono W (Ext.fresh W ht) _ _ rv,u,[],rfl,Rel.mono W (Ext.fresh W ht) _ _ ru,rfl⟩
 ·have e:i=(List.zipWith (λx y=>D.tup [x,y]) l m).length:=e
  rw[aur]at e;rw[r1.length,r2.length];omega
theorem agE{l:List D}{a:Θ}{st:aa->Prop}(h:∀ρ' H' c',Wd K ρ' H' c'->Ext ρ H ρ' H'->st c'->∃xs,cF K H' a xs/\aK K ρ' H' l xs):JS K ρ H ⟨l.mapIdx λi x=>.tup [.int i,x],st⟩ (Cj (cF K) a):=by
 intro ρ' H' c' W E s i;obtain⟨xs,q,r⟩:=h ρ' H' c' W E s;refine⟨λd hd=>?_,λe=>⟨xs,q,?_⟩⟩
 ·have hd:(l.mapIdx λi x=>D.tup [.int i,x])[i]? = ζ d:=hd
  rw[as6]at hd;cases e1:l[i]? with
  |none=>rw[e1]at hd;cases hd
  |some x =>
   rw[e1]at hd;cases hd;obtain⟨v,hv,rv⟩:=r.get e1;refine⟨⟨xs,v,q,hv⟩,λz H2 hz=>?_⟩
   obtain⟨t,v',rfl,ht,rfl,hz⟩:=hz;have z1:=hz xs q;rw[hv]at z1;cases z1;exact⟨W.fresh ht,Ext.fresh W ht,t,[.int i,v],rfl,e8,.int i,[v],rfl,rfl,v,[],rfl,Rel.mono W (Ext.fresh W ht) _ _ rv,rfl⟩
 ·have e:i=(l.mapIdx λi x=>D.tup [.int i,x]).length:=e
  rw[aus]at e;rw[r.length];exact e
theorem OD{es:List ο}{k:Nat}{pt:Pos}{a:ο}{da:aj}{p pos:Pos}(ha:eZ X [a] da) (hm:X.mg "enumerate"=η) (hg:Gl X "enumerate":=by rfl) (hs:μ [a] X.env=[(Δ,eval a X.env)]:=by exact p7 rfl) :
  PId X (.Tuple es k pt) (.Call (.Name "enumerate" p) [a] [] pos) (l9 da):=(aav hg hm ha hs).imp λσ H Q h=>by
 obtain⟨ρ,e,c,W,V,p⟩:=h;refine⟨ρ,e,c,W,V,post.bind p λx c1 aL H1 v _ W1 X1 r1 p1=>?_⟩
 split at p1
 ·obtain⟨y,ys,rfl,ry,rs⟩:=r1;cases rs;obtain⟨a1,xs,rfl,s1,t1⟩:=ry;exact⟨a1,rfl,⟨xs,cF.of s1⟩,p1.here W1 (agE λρ' H' c' W' E _=>⟨xs,cF.of (rJ W1 E s1),aK.mono W1 E _ _ t1⟩)⟩
 ·exact p1.elim
open Classical in
def dR(st:aa->Prop) (g:Gd) (b:ah):List D->ah
 |[],e,c=>if st c then .ok (.nx e) c else .bad
 |x::xs,e,c=>if st c then(g x e c).bind λe c=>(b e c).bind λf c=>match f with
   |.nx e=>dR st g b xs e c
   |.ct e=>dR st g b xs e c
   |.bk e=>.ok (.nx e) c
   |.rt d=>.ok (.rt d) c
  else .bad
def bQ(s:Ev->aa->R Src) (g:Gd) (b:ah):ah:=λe c=>(s e c).bind λs c=>dR s.stays g b s.items e c
theorem eB{iter:ο}{body:List ad4}{ds:Ev->aa->R Src}{g:Gd}{db:ah}{pos:Pos}(hi:PId X tg iter ds) (hg:pM X tg g) (hb:bT X body db) (hp:ahO (model X.prog X.w) X.A X.env X.xe:=by exact PassesOwn.never) (hc:X.calm=ξ:=by rfl)
  (hs:∀x,foldedSetIterable iter X.env x=pure x:=by intro _;rfl):ki X (.For tg iter body [] pos) (bQ ds g db):=(Ze hp hc hi hg hb hs).imp λZ σ H h=>by
 obtain⟨ρ,e,c,W,V,p⟩:=h;refine⟨ρ,e,c,W,V,post.bind p λs c1 aL H1 J _ W1 X1 j1 p1=>?_⟩
 refine⟨λi m σ H=>∃ρ e c,Wd X.K ρ H c/\Ext aL H1 ρ H/\dU X.K ρ H e σ/\i<=s.items.length/\m=s.items.length-i/\post X.K (jl X.K) (dR s.stays g db (s.items.drop i) e c) ρ H (En Z),
  ⟨_,aL,e,c1,W1,Ext.refl,V.mono W X1,aqm _,rfl,p1⟩,?_⟩
 rintro i m σ2 H2 ⟨c8,e2,c2,W2,X2,V2,hi2,rfl,p2⟩
 by_cases hl:i<s.items.length
 ·rw[ass hl]at p2;unfold dR at p2;split at p2
  ·rename_i hst;obtain⟨go,yl⟩:=(j1 c8 H2 c2 W2 X2 hst i).1 _ (apw hl);refine .inr ⟨go,λσ' H'=>∃ρ e c,Wd X.K ρ H' c/\Ext aL H1 ρ H'/\dU X.K ρ H' e σ'/\i+1<=s.items.length/\post X.K (jl X.K) (dR s.stays g db (s.items.drop (i+1)) e c) ρ H' (En Z),?_,λx H3 hy=>?_⟩
   ·rintro σ' H' ⟨ρ,e,c,w,x,v,l,q⟩
    exact⟨s.items.length-(i+1),by omega,ρ,e,c,w,x,v,l,rfl,q⟩
   ·obtain⟨W3,X3,r3⟩:=yl x H3 hy;refine⟨c8,_,e2,c2,W3,V2.mono W2 X3,r3,post.bind (post.ext p2 X3) λe4 c4 pP H4 Tj _ W4 X4 V4 p4=>?_⟩
    refine⟨pP,e4,c4,W4,V4,post.bind p4 λf c5 jo H5 b _ W5 X5 r5 p5=>?_⟩
    have yK:=((X2.trans X3).trans X4).trans X5;cases f with
    |nx e1=>obtain⟨σ1,rfl,V1⟩:=r5;exact⟨jo,e1,c5,W5,yK,V1,hl,p5⟩
    |ct e1=>obtain⟨σ1,rfl,V1⟩:=r5;exact⟨jo,e1,c5,W5,yK,V1,hl,p5⟩
    |bk e1=>obtain⟨σ1,rfl,V1⟩:=r5;exact post.here (Q:=En Z) (show post X.K (jl X.K) (.ok (Fl.nx e1) c5) jo H5 (En Z)from p5) W5 ⟨_,rfl,V1⟩
    |rt d=>obtain⟨v,rfl,V1⟩:=r5;exact post.here (Q:=En Z) (show post X.K (jl X.K) (.ok (Fl.rt d) c5) jo H5 (En Z)from p5) W5 ⟨_,rfl,V1⟩
  ·exact p2.elim
 ·obtain rfl:i=s.items.length:=by omega
  rw[aut (aps _)]at p2;unfold dR at p2;split at p2
  ·rename_i hst;exact .inl ⟨(j1 c8 H2 c2 W2 X2 hst _).2 rfl,post.here (Q:=En Z) p2 W2 ⟨σ2,rfl,V2⟩⟩
  ·exact p2.elim
def gP(t:ai) (b:ah):Nat->ah
 |0,_,_=>.bad
 |n+1,e,c=>(t e c).bind λk c=>if k=ξ then(b e c).bind λf c=>match f with
   |.nx e=>gP t b n e c
   |.ct e=>gP t b n e c
   |.bk e=>.ok (.nx e) c
   |.rt d=>.ok (.rt d) c
  else .ok (.nx e) c
theorem L5{n:Nat}{c':ο}{body:List ad4}{dt:ai}{db:ah}{pos:Pos}(ht:iT X c' dt) (hb:bT X body db) (hp:ahO (model X.prog X.w) X.A X.env X.xe:=by exact PassesOwn.never):ki X (.While c' body [] pos) (gP dt db n):=(Y9 hp ht hb).imp λZ σ H h=>by
 obtain⟨ρ,e,c,W,V,p⟩:=h;refine⟨λm σ H=>∃ρ e c,Wd X.K ρ H c/\dU X.K ρ H e σ/\post X.K (jl X.K) (gP dt db m e c) ρ H (En Z),⟨n,ρ,e,c,W,V,p⟩,?_⟩
 rintro m σ2 H2 ⟨c8,e2,c2,W2,V2,p2⟩
 cases m with
 |zero=>exact p2.elim
 |succ m =>
  unfold gP at p2;refine⟨c8,e2,c2,W2,V2,post.bind p2 λk c3 pQ H3 b _ W3 X3 r3 p3=>?_⟩
  cases r3;cases k with
  |true =>
   refine lW ⟨λσ H=>∃ρ e c,Wd X.K ρ H c/\dU X.K ρ H e σ/\post X.K (jl X.K) (gP dt db m e c) ρ H (En Z),λσ' H' q=>⟨m,aqp _,q⟩,?_⟩
   refine⟨pQ,e2,c3,W3,V2.mono W2 X3,post.bind p3 λf c5 jo H5 b _ W5 X5 r5 p5=>?_⟩
   cases f with
   |nx e1=>obtain⟨σ1,rfl,V1⟩:=r5;exact⟨jo,e1,c5,W5,V1,p5⟩
   |ct e1=>obtain⟨σ1,rfl,V1⟩:=r5;exact⟨jo,e1,c5,W5,V1,p5⟩
   |bk e1=>obtain⟨σ1,rfl,V1⟩:=r5;exact post.here (Q:=En Z) (show post X.K (jl X.K) (.ok (Fl.nx e1) c5) jo H5 (En Z)from p5) W5 ⟨_,rfl,V1⟩
   |rt d=>obtain⟨v,rfl,V1⟩:=r5;exact post.here (Q:=En Z) (show post X.K (jl X.K) (.ok (Fl.rt d) c5) jo H5 (En Z)from p5) W5 ⟨_,rfl,V1⟩
  |false=>exact lX (post.here (Q:=En Z) (show post X.K (jl X.K) (.ok (Fl.nx e2) c3) pQ H3 (En Z)from p3) W3 ⟨_,rfl,V2.mono W2 X3⟩)
end
def dB(pick:List (Option Nat)) (e:Ev):Ev:=pick.map λo=>o.bind λj=>(e[j]?).bind id
open Classical in
def bO(st:aa->Prop) (g:Gd) (t:ai) (el:af):List D->Ev->List D->aa->R (List D)
 |[],e,acc,c=>if st c then .ok acc c else .bad
 |x::xs,e,acc,c=>if st c then(g x e c).bind λe c=>(t e c).bind λk c=>if k=ξ then(el e c).bind λy c=>bO st g t el xs e (acc++[y]) c else bO st g t el xs e acc c else .bad
def aS(s:Ev->aa->R Src) (pick:List (Option Nat)) (g:Gd) (t:ai) (el:af):af:=λe c=>(s e c).bind λs c =>
 if s.items.length<ι then(bO s.stays g t el s.items (dB pick e) [] c).bind λl c=>.ok (.lst l) c else .bad
def aJ:ai:=λ_ c=>.ok ξ c
abbrev Cd(X:Cx) (ifs:List ο) (t:ai):Prop:=rB X ifs (tD X.K (λ_ _ a b=>a=b) t)
section
variable {X:Cx}{N':List Str}{pick:List (Option Nat)}{scope:aeB}{tg elt iter:ο}{ifs:List ο}{pos:Pos}{ds:Ev->aa->R Src}{g:Gd}{dt:ai}{de:af}
theorem dz:Cd X [] aJ:=λpins s σ H Q I h=>by
 obtain⟨ρ,e,c,W,V,p⟩:=h;exact aan pins s σ H Q I (post.here (b:=ξ) p W rfl)
theorem Dz{c':ο}(h:iT X c' dt):Cd X [c'] dt:=aam h
theorem dU.picked{K:Ω}{ρ:List Θ}{H:Hp}{e:Ev}{σ:St}(V:dU K ρ H e σ):dU K ρ H (dB pick e) (lB pick σ):=by
 refine⟨λi d h=>?_,by simp[dB,lB]⟩
 unfold dB at h;unfold lB;rw[apM]at h ⊢;cases q:pick[i]? with
 |none=>rw[q]at h;cases h
 |some o =>
  rw[q]at h;cases o with
  |none=>cases h
  |some j =>
   have h':(e[j]?).bind id=ζ d:=apQ h;cases q2:e[j]? with
   |none=>rw[q2]at h';cases h'
   |some z =>
    rw[q2]at h';have h'':z=ζ d:=h';subst h'';obtain⟨v,hv,r⟩:=V.get j d q2;exact⟨v,by simp[hv],r⟩
theorem alm{K:Ω}{aL:List Θ}{H1:Hp}{c1:aa}{e:Ev}{σ:St}{s:Src}{J:It}{Q:VK}(W1:Wd K aL H1 c1) (V1:dU K aL H1 e σ) (j1:JS K aL H1 s J) (hn:s.items.length<ι)
  (p1:post K (Rel K) ((bO s.stays g dt de s.items e [] c1).bind λl c=>.ok (.lst l) c) aL H1 Q):Tf J (zl K g) (tD K (λ_ _ a b=>a=b) dt) (tD K (Rel K) de) Q σ H1:=by
 refine⟨λi m σ ys H=>∃ρ e acc c,Wd K ρ H c/\Ext aL H1 ρ H/\dU K ρ H e σ/\aK K ρ H acc ys/\acc.length<=i/\i<=s.items.length/\m=s.items.length-i/\post K (Rel K) ((bO s.stays g dt de (s.items.drop i) e acc c).bind λl c=>.ok (.lst l) c) ρ H Q,
  ⟨_,aL,e,[],c1,W1,Ext.refl,V1,rfl,aps _,aqm _,rfl,p1⟩,?_⟩
 rintro i m σ2 ys H2 ⟨c8,e2,acc,c2,W2,X2,V2,r2,ha,hi2,rfl,p2⟩
 refine⟨by rw[r2.length];omega,?_⟩
 by_cases hl:i<s.items.length
 ·rw[ass hl]at p2;unfold bO at p2;split at p2
  ·rename_i hst;obtain⟨go,yl⟩:=(j1 c8 H2 c2 W2 X2 hst i).1 _ (apw hl);refine .inr ⟨go,λσ' ys' H'=>∃ρ e acc c,Wd K ρ H' c/\Ext aL H1 ρ H'/\dU K ρ H' e σ'/\aK K ρ H' acc ys'/\acc.length<=i+1/\i+1<=s.items.length/\post K (Rel K) ((bO s.stays g dt de (s.items.drop (i+1)) e acc c).bind λl c=>.ok (.lst l) c) ρ H' Q,?_,λx H3 hy=>?_⟩
   ·rintro σ' ys' H' ⟨ρ,e,acc,c,w,x,v,r,a,l,q⟩
    exact⟨s.items.length-(i+1),by omega,ρ,e,acc,c,w,x,v,r,a,l,rfl,q⟩
   ·obtain⟨W3,X3,r3⟩:=yl x H3 hy;have assoc:∀{α β γ:Type}(r:R α) (f:α->aa->R β) (g:β->aa->R γ),(r.bind f).bind g=r.bind λa c=>(f a c).bind g:=λr f g=>by cases r<;>rfl
    rw[assoc]at p2;refine⟨c8,_,e2,c2,W3,V2.mono W2 X3,r3,post.bind (post.ext p2 X3) λe4 c4 pP H4 Tj _ W4 X4 V4 p4=>?_⟩
    rw[assoc]at p4;refine⟨pP,e4,c4,W4,V4,post.bind p4 λk c5 jo H5 b _ W5 X5 r5 p5=>?_⟩
    cases r5;have yK:=((X2.trans X3).trans X4).trans X5;have Mr:=aK.mono W2 ((X3.trans X4).trans X5) _ _ r2;cases k with
    |true =>
     refine lW ?_;rw[if_pos rfl,assoc]at p5;refine⟨jo,e4,c5,W5,V4.mono W4 X5,post.bind p5 λy c6 Tn H6 v _ W6 X6 r6 p6=>?_⟩
     refine⟨Tn,e4,acc++[y],c6,W6,yK.trans X6,(V4.mono W4 X5).mono W5 X6,(aK.mono W5 X6 _ _ Mr).append ⟨v,[],rfl,r6,rfl⟩,by simp;exact ha,hl,p6⟩
    |false =>
     refine lX ?_;rw[if_neg apP]at p5;exact⟨jo,e4,acc,c5,W5,yK,V4.mono W4 X5,Mr,Nat.le_succ_of_le ha,hl,p5⟩
  ·exact p2.elim
 ·obtain rfl:i=s.items.length:=by omega
  rw[aut (aps _)]at p2;unfold bO at p2;split at p2
  ·rename_i hst;exact .inl ⟨(j1 c8 H2 c2 W2 X2 hst _).2 rfl,uc W2 r2 p2⟩
  ·exact p2.elim
theorem Qx{σ:St}{H:Hp}{Q:VK}{K:Ω}(h:tD K (Rel K) (aS ds pick g dt de) σ H Q):CY (Lw K ds) pick (zl K g) (tD K (λ_ _ a b=>a=b) dt) (tD K (Rel K) de) σ H Q:=by
 obtain⟨ρ,e,c,W,V,p⟩:=h;refine⟨ρ,e,c,W,V,post.bind p λs c1 aL H1 J _ W1 X1 j1 p1=>?_⟩
 split at p1
 ·rename_i hn;exact alm W1 (V.mono W X1).picked j1 hn p1
 ·exact p1.elim
theorem dc(S:cC X N' pick scope) (hit:PId X tg iter ds)
  (hg:∀cl C s₀ H₀ ex pn,pM (fX X N' scope cl C s₀ H₀ ex pn) tg g) (hi:∀cl C s₀ H₀ ex pn,Cd (fX X N' scope cl C s₀ H₀ ex pn) ifs dt) (he:∀cl C s₀ H₀ ex pn,bh (fX X N' scope cl C s₀ H₀ ex pn) elt de)
  (hc:X.calm=ξ:=by rfl) (hs:∀x,foldedSetIterable iter X.env x=pure x:=by intro _;rfl) :
  bh X (.ListComp elt [⟨tg,iter,ifs,0⟩] scope pos) (aS ds pick g dt de):=(aaR S hc hit hg hi he hs).imp λσ H Q h=>Qx h
theorem Xr{i:Nat}{y:Str}{py spos:Pos}(S:cC X N' pick scope) (hit:PId X tg iter ds)
  (hg:∀cl C s₀ H₀ ex pn,pM (fX X N' scope cl C s₀ H₀ ex pn) tg g) (hi:∀cl C s₀ H₀ ex pn,Cd (fX X N' scope cl C s₀ H₀ ex pn) ifs dt) (he:∀cl C s₀ H₀ ex pn,bh (fX X N' scope cl C s₀ H₀ ex pn) elt de)
  (hsw:swapsWith (.ListComp elt [⟨tg,iter,ifs,0⟩] scope pos) (ζ (.Name y py)) spos.line X.env=pure ξ:=by rfl) (hN:X.N.Nodup:=by decide +kernel) (hy:X.N[i]? = ζ y:=by rfl) (hl:X.env.scope.names.lookup y=ζ .local:=by rfl)
  (hc:X.calm=ξ:=by rfl) (hs:∀x,foldedSetIterable iter X.env x=pure x:=by intro _;rfl) :
  ki X (.Assign [.Name y py] (.ListComp elt [⟨tg,iter,ifs,0⟩] scope pos) spos) (aG i (aS ds pick g dt de)):=(Za (g:=zl X.K g) (tt:=tD X.K (λ_ _ a b=>a=b) dt) (te:=tD X.K (Rel X.K) de) hsw hN hy hl S hc hit hg hi he hs).imp λZ σ H h=>by
 refine Qx (g:=g) (dt:=dt) (de:=de) ?_;obtain⟨ρ,e,c,W,V,p⟩:=h;refine⟨ρ,e,c,W,V,post.bind p λx c1 aL H1 v _ W1 X1 r1 p1=>p1.here W1 ⟨_,rfl,(V.mono W X1).set r1 i⟩⟩
end
def bM(K:Ω) (n:Nat) (m:List D->aa->R D):Sp:=λvs H Q _=>∃ρ xs c,Wd K ρ H c/\aK K ρ H xs vs/\xs.length=n/\post K (Rel K) (m xs c) ρ H Q
def aC(n:Nat) (m:List D->aa->R D) (a:aj):af:=λe c=>(a e c).bind λxs c=>if xs.length=n then m xs c else .bad
def cT(n:Nat) (xs:List D):Ev:=xs.map ζ++π (n-xs.length) η
def dH(own:Bool) (n:Nat) (v:D) (c:aa):R D:=match v with
 |.ref k=>match c[k]? with
  |some (.lst l)=>if n<=k then(if own=ξ then .ok (.ref n) (c.take n++[.lst l])else .ok (.lst l) (c.take n))else .bad
  |none=>.bad
 |v=>if noRef v=ξ then .ok v (c.take n)else .bad
def bK(n:Nat) (own:Bool) (d:ah):List D->aa->R D:=λxs c=>(d (cT n xs) c).bind λf c'=>match f with
 |.rt v=>dH own c.length v c'
 |.nx _=>dH own c.length .aH c'
 |_=>.bad
section
variable {P:υ}{w:ψ}{K:Ω}{mg:Str->Option Γ}{base:χ}
theorem BJ{own:Bool}{ρ aL:List Θ}{H H1:Hp}{c c1:aa}{v:D}{x:V}{Q:VK}(W:Wd K ρ H c) (W1:Wd K aL H1 c1) (X1:Ext ρ H aL H1) (r:Rel K aL H1 v x) (p:post K (Rel K) (dH own c.length v c1) ρ H Q):Q x H1:=by
 have hn:=Ext.len W W1 X1;have Wc:=W1.cut hn;have Xc:=X1.cut (n:=c.length) (aqM W.len);unfold dH at p;split at p
 ·rename_i k;split at p
  ·rename_i l hl;split at p
   ·rename_i hk;obtain⟨a,rfl,ha⟩:=r;obtain⟨nr,xs,hx,rl⟩:=W1.fP k a _ ha hl;have na:a∉aL.take c.length:=by
     intro h;obtain⟨j,hj,e⟩:=aqV.mp h;have hj2:j<c.length:=by simp at hj;omega
     rw[asu]at e;have hk1:=apK.mp ha;have hjl:j<aL.length:=by simp at hj;omega
     have:=(ar8 W1.nd (h₀:=hjl) (h₁:=hk1.1)).mp (e.trans hk1.2.symm);omega
    have sub:∀b,b∈aL.take c.length->b∈aL:=λb h=>apZ h
    split at p
    ·have lr:(aL.take c.length).length=c.length:=by simp[W1.len];omega
     refine p (aL.take c.length++[a]) H1 (.ref a) ?_ ?_ ⟨a,rfl,?_⟩
     ·refine⟨?_,by simp[W1.len],λj b cl e1 e2=>?_,W1.tab⟩
      ·rw[arw];refine⟨Wc.nd,by simp,?_⟩
       intro y hy z hz;rw[aqa]at hz;subst hz;exact λq=>na (q▸hy)
      ·by_cases hj:j<c.length
       ·rw[ap8 (by rw[lr];exact hj)]at e1
        rw[ap8 (by simp;omega)]at e2
        have q:=Wc.fP j b cl e1 e2;cases cl with
        |lst l' =>
         obtain⟨ua,ys,hy,r'⟩:=q;refine⟨ua,ys,hy,aK.low (ρ:=aL) (λz hz=>?_) l' ys ua ?_⟩
         ·rcases ap1.mp hz with hz|hz
          ·exact sub z hz
          ·rw[aqa]at hz;subst hz;exact apT ha
         ·have HZ:aL[j]? = ζ b:=by rw[arT,if_pos hj]at e1;exact e1
          have e2':c1[j]? = ζ (.lst l'):=by rw[arT,if_pos hj]at e2;exact e2
          obtain⟨_,zs,hz,rz⟩:=W1.fP j b _ HZ e2';rw[hy]at hz;cases hz;exact rz
       ·have hj':j=c.length:=by
         have:=(apK.mp e1).1;rw[ap5,lr]at this;simp at this;omega
        subst hj';rw[aqi (by rw[lr];exact aps _),lr,aqW]at e1
        rw[aqi (by simp;omega),show c.length-(List.take c.length c1).length=0 by simp;omega]at e2
        cases e1;cases e2;refine⟨nr,xs,hx,aK.low (ρ:=aL) (λz hz=>?_) l xs nr rl⟩
        rcases ap1.mp hz with hz|hz
        ·exact sub z hz
        ·rw[aqa]at hz;subst hz;exact apT ha
     ·refine⟨λj b e=>?_,λb o e z t=>?_⟩
      ·have q:=Xc.pre j b e;rw[ap8 (apK.mp q).1];exact q
      ·obtain⟨h1,h2⟩:=X1.keep b o e z t;refine⟨h1,λq=>h2 ?_⟩
       rcases ap1.mp q with q|q
       ·exact sub b q
       ·rw[aqa]at q;subst q;exact apT ha
     ·rw[aqi (by rw[lr];exact aps _),lr,aqW];rfl
    ·exact p (aL.take c.length) H1 (.ref a) Wc Xc ⟨a,xs,rfl,⟨hx,na⟩,aK.low sub l xs nr rl⟩
   ·exact p.elim
  ·exact p.elim
 ·split at p
  ·rename_i hv;exact p _ H1 x Wc Xc (Rel.low (λb h=>apZ h) _ _ hv r)
  ·exact p.elim
theorem dU.start{ρ:List Θ}{H:Hp}{xs:List D}{vs:List V}{N:List Str}(r:aK K ρ H xs vs):dU K ρ H (cT N.length xs) (start N vs):=by
 have hl:=r.length;refine⟨λi d h=>?_,by simp[cT,L2.start,hl]⟩
 unfold cT at h;unfold L2.start
 by_cases hi:i<xs.length
 ·rw[ap8 (by simpa using hi),apM]at h
  cases q:xs[i]? with
  |none=>rw[q]at h;cases h
  |some x =>
   rw[q]at h;cases h;obtain⟨v,hv,rv⟩:=r.get q;exact⟨v,by rw[ap8 (by simp[hl];exact hi),apM,hv];rfl,rv⟩
 ·rw[aqi (by simpa using auk hi)]at h
  have:=apT h;rw[List.mem_replicate]at this;cases this.2
theorem cO{x qual:Str}{st:ad4}{f:Θ}{fd:ν}{N ps:List Str}{k n m:Nat}{own:Bool}{d:ah}(F:nI K x qual st f fd) (S:cj N ps (aP st)) (hN:N.length=n) (hm:ps.length=m)
  (hb:∀(cdv:Γ) (A:acr) (outer:List Env) (s:ε) (H:Hp) (E:XK),dg k (A.deeper (envOfC qual (aP st) s.heap.objs.size f cdv))->bT (kY bB P w K mg base N qual (aP st) f cdv A outer s H E).lJ (bY st) d) :
  bH P w K mg base bB (k+1) f fd ps (bM K m (bK n own d)):=by
 subst hN;subst hm;refine F.ok S (λvs H Q E h=>?_) (λcdv A outer s H vs Q E hr h=>⟨_,hb cdv A outer s H E hr,?_⟩)
 ·obtain⟨ρ,xs,c,W,r,hl,p⟩:=h;exact r.length.trans hl
 ·obtain⟨ρ,xs,c,W,r,hl,p⟩:=h;refine⟨ρ,cT N.length xs,c,W,dU.start r,post.bind p λfl c1 aL H1 b _ W1 X1 r1 p1=>?_⟩
  cases fl with
  |nx e1 =>
   obtain⟨σ1,rfl,V1⟩:=r1;exact BJ (v:=.aH) (x:=.aH) (H1:=H1) W W1 X1 rfl (by
    unfold bK at p;exact id (α:=post K (Rel K) (dH own c.length .aH c1) ρ H Q) (by
     rename_i he;rw[he]at p;exact p))
  |rt d =>
   obtain⟨v,rfl,V1⟩:=r1;exact BJ (v:=d) (x:=v) (H1:=H1) W W1 X1 V1 (by
    unfold bK at p;rename_i he;rw[he]at p;exact p)
  |bk e1=>exact p1.elim
  |ct e1=>exact p1.elim
end
section
variable {X:Cx}
theorem bu{x:Str}{st:ad4}{ps:List Str}{f:Θ}{fd:ν}{k n:Nat}{m:List D->aa->R D}{e:ο}{es:List ο}{da:aj}{p pos:Pos}(D:Def X.K X.mg x st ps f fd) (G:bH X.prog X.w X.K X.mg X.base bB k f fd ps (bM X.K n m)) (hr:dg k X.A) (ha:eZ X (e::es) da) (hg:Gl X x:=by rfl)
  (hdb:(x==("__debug__":Str))=Δ:=by decide) (he:μ (e::es) X.env=(Δ,eval e X.env)::μ es X.env:=by exact cR rfl) (hpl:(aea pos (μ es X.env)).any (·.1)=Δ:=by exact e9 rfl) :
  bh X (.Call (.Name x p) (e::es) [] pos) (aC n m da):=(aaQ D G hr ha hg hdb he hpl).imp λσ H Q h=>by
 obtain⟨ρ,e,c,W,V,q⟩:=h;refine⟨ρ,e,c,W,V,post.bind q λxs c1 aL H1 vs _ W1 X1 r1 p1=>?_⟩
 split at p1
 ·rename_i hl;exact⟨aL,xs,c1,W1,by rw[aqJ];exact r1,hl,p1⟩
 ·exact p1.elim
theorem cg{id:String}{x:Str}{p pos:Pos}{e:ο}{es:List ο}{da:aj}{f:List D->aa->R D}(hc:d9 X (.builtin id) (rN X.K f)) (hm:X.mg x=η) (hv:bootBuiltins x=ζ (.builtin id)) (ha:eZ X (e::es) da) (hg:Gl X x:=by rfl) (hn:x≠"__name__":=by decide) (hdb:(x==("__debug__":Str))=Δ:=by decide)
  (he:μ (e::es) X.env=(Δ,eval e X.env)::μ es X.env:=by exact cR rfl) (hpl:(aea pos (μ es X.env)).any (·.1)=Δ:=by exact e9 rfl):bh X (.Call (.Name x p) (e::es) [] pos) (aF f da):=(wN hc hg hm hv ha hn hdb he hpl).imp λσ H Q h=>Ls h
theorem kI{T:String}{x:Str}{p pos:Pos}{e:ο}{es:List ο}{da:aj}{f:List D->aa->R D}(hc:d9 X (.type T) (rN X.K f)) (hm:X.mg x=η) (hv:bootBuiltins x=ζ (.type T)) (ha:eZ X (e::es) da) (hg:Gl X x:=by rfl) (hn:x≠"__name__":=by decide) (hdb:(x==("__debug__":Str))=Δ:=by decide)
  (he:μ (e::es) X.env=(Δ,eval e X.env)::μ es X.env:=by exact cR rfl) (hpl:(aea pos (μ es X.env)).any (·.1)=Δ:=by exact e9 rfl):bh X (.Call (.Name x p) (e::es) [] pos) (aF f da):=(kG hc hg hm hv ha hn hdb he hpl).imp λσ H Q h=>Ls h
end
def aY:List D->aa->R D:=λxs c=>match xs with
 |[x]=>match fS c x with
  |some l=>.ok (.int l.length) c
  |none=>match x with
   |.str z=>if z.length<=ι then .ok (.int z.length) c else .bad
   |_=>.bad
 |_=>.bad
def Lb:D->Option String
 |.aH=>ζ "NoneType"
 |.bl _=>ζ "bool"
 |.int _=>ζ "int"
 |.str _=>ζ "str"
 |.tup _=>ζ "tuple"
 |.lst _=>ζ "list"
 |.ref _=>ζ "list"
 |_=>η
def cK:List D->aa->R D:=λxs c=>match xs with
 |[.iQ,.ty T]=>if T∈["bool","int","str","list","tuple","dict"]then .ok (.bl (wg "dict" T)) c else .bad
 |[x,.ty T]=>match Lb x with
  |some n=>if T∈["bool","int","str","list","tuple","dict"]then .ok (.bl (wg n T)) c else .bad
  |none=>.bad
 |_=>.bad
def pG:List D->Option (List Bool)
 |[]=>ζ []
 |.bl b::l=>(pG l).map (b :: ·)
 |_=>η
def jZ:List D->Option (List Int)
 |[]=>ζ []
 |.int i::l=>(jZ l).map (i :: ·)
 |_=>η
theorem JW(l:List Bool):pG (l.map D.bl)=ζ l:=by
 induction l with
 |nil=>rfl
 |cons a l ih=>simp[pG,ih]
theorem xQ(l:List Int):jZ (l.map D.int)=ζ l:=by
 induction l with
 |nil=>rfl
 |cons a l ih=>simp[jZ,ih]
theorem JX:∀{l:List D}{bs:List Bool},pG l=ζ bs->l=bs.map D.bl
 |[],bs,h=>by cases h;rfl
 |d::l,bs,h=>by
  cases d with
  |bl b =>
   unfold pG at h;cases q:pG l with
   |none=>rw[q]at h;cases h
   |some r=>rw[q]at h;cases h;rw[JX q];rfl
  |_=>cases h
theorem Az:∀{l:List D}{bs:List Int},jZ l=ζ bs->l=bs.map D.int
 |[],bs,h=>by cases h;rfl
 |d::l,bs,h=>by
  cases d with
  |int b =>
   unfold jZ at h;cases q:jZ l with
   |none=>rw[q]at h;cases h
   |some r=>rw[q]at h;cases h;rw[Az q];rfl
  |_=>cases h
def qd(f:List Bool->Bool):List D->aa->R D:=λxs c=>match xs with
 |[.lst l]=>match pG l with
  |some bs=>.ok (.bl (f bs)) c
  |none=>.bad
 |_=>.bad
def fZ:=qd λbs=>bs.all id
def yH:=qd λbs=>bs.any id
def um:List D->aa->R D:=λxs c=>match xs with
 |[.int i,.int j]=>.ok (.int (if j>i then j else i)) c
 |_=>.bad
def cW:List D->aa->R D:=λxs c=>match xs with
 |[x]=>match fS c x with
  |some l=>.ok (.tup l) c
  |none=>.bad
 |_=>.bad
section
variable {X:Cx}{K:Ω}{ρ:List Θ}{H:Hp}{c:aa}
theorem c7:d9 X (.builtin "len") (rN X.K aY):=by
 intro pins s σ H vs us Q I rv h;obtain⟨ρ,xs,c,W,rx,p⟩:=h;unfold aY at p;split at p
 ·rename_i x;obtain⟨v,r,rfl,hx,hr⟩:=rx;cases hr;split at p
  ·rename_i l hl;obtain⟨a,ys,rfl,sq,r⟩:=Dc W hx hl;exact alN pins s σ H _ us Q I rv ⟨a,ys,rfl,sq,by rw[r.length];exact p.here W rfl⟩
  ·split at p
   ·split at p
    ·rename_i hz;cases hx;exact alM pins s σ H _ us Q I rv ⟨_,rfl,hz,p.here W rfl⟩
    ·exact p.elim
   ·exact p.elim
 ·exact p.elim
theorem UA{x:D}{v:V}{n:String}(W:Wd K ρ H c) (rx:Rel K ρ H x v) (h:Lb x=ζ n):tyName H v n:=by
 cases x with
 |aH=>cases rx;cases h;exact rfl
 |bl b=>cases rx;cases h;exact rfl
 |int b=>cases rx;cases h;exact rfl
 |str b=>cases rx;cases h;exact rfl
 |tup l=>obtain⟨a,xs,rfl,s,r⟩:=rx;cases h;exact .inr (.inl ⟨rfl,xs,s⟩)
 |lst l=>obtain⟨a,xs,rfl,s,r⟩:=rx;cases h;exact .inl ⟨rfl,.inl ⟨xs,s.1⟩⟩
 |ref k =>
  obtain⟨a,rfl,s⟩:=rx;cases h;obtain⟨xs,e⟩:=W.at' (apT s);exact .inl ⟨rfl,.inl ⟨xs,e⟩⟩
 |_=>cases h
theorem yw:d9 X (.builtin "isinstance") (rN X.K cK):=by
 intro pins s σ H vs us Q I rv h;obtain⟨ρ,xs,c,W,rx,p⟩:=h;unfold cK at p;split at p
 ·split at p
  ·rename_i hT;obtain⟨v,r,rfl,⟨a,rfl,hH⟩,u,r',rfl,hu,hr⟩:=rx;cases hr;cases hu;obtain⟨u1,u2,rfl,r1,r2⟩:=Vals.two rv;cases r1;cases r2;obtain⟨hp,_,_⟩:=I.hok a _ hH;exact aqo asS I.fN hp (Og (n:="dict") (by simp) hT) (λz=>nomatch z) λtk=>⟨.bl _,H,I.tok _,rfl,p.here W rfl⟩
  ·exact p.elim
 ·split at p
  ·rename_i n hn;split at p
   ·rename_i hT;obtain⟨v,r,rfl,hx,u,r',rfl,hu,hr⟩:=rx;cases hr;cases hu;exact alO pins s σ H _ us Q I rv ⟨v,n,_,rfl,UA W hx hn,hT,p.here W rfl⟩
   ·exact p.elim
  ·exact p.elim
 ·exact p.elim
theorem yx(hc:X.calm=ξ:=by rfl):d9 X (.builtin "all") (rN X.K fZ):=by
 intro pins s σ H vs us Q I rv h;obtain⟨ρ,xs,c,W,rx,p⟩:=h;unfold fZ qd at p;split at p
 ·split at p
  ·rename_i bs hb;obtain⟨v,r,rfl,⟨a,ys,rfl,s1,r1⟩,hr⟩:=rx;cases hr;rw[JX hb]at r1;cases r1.JV;exact alR hc pins s σ H _ us Q I rv ⟨a,bs,rfl,bD.of s1.1,p.here W rfl⟩
  ·exact p.elim
 ·exact p.elim
theorem alx(hc:X.calm=ξ:=by rfl):d9 X (.builtin "any") (rN X.K yH):=by
 intro pins s σ H vs us Q I rv h;obtain⟨ρ,xs,c,W,rx,p⟩:=h;unfold yH qd at p;split at p
 ·split at p
  ·rename_i bs hb;obtain⟨v,r,rfl,⟨a,ys,rfl,s1,r1⟩,hr⟩:=rx;cases hr;rw[JX hb]at r1;cases r1.JV;exact alQ hc pins s σ H _ us Q I rv ⟨a,bs,rfl,bD.of s1.1,p.here W rfl⟩
  ·exact p.elim
 ·exact p.elim
theorem alw(hc:X.calm=ξ:=by rfl):d9 X (.builtin "max") (rN X.K um):=by
 intro pins s σ H vs us Q I rv h;obtain⟨ρ,xs,c,W,rx,p⟩:=h;unfold um at p;split at p
 ·obtain⟨v,r,rfl,hx,u,r',rfl,hu,hr⟩:=rx;cases hr;cases hx;cases hu;exact alL hc pins s σ H _ us Q I rv ⟨_,_,rfl,p.here W rfl⟩
 ·exact p.elim
theorem k6:d9 X (.type "tuple") (rN X.K cW):=by
 intro pins s σ H vs us Q I rv h;obtain⟨ρ,xs,c,W,rx,p⟩:=h;unfold cW at p;split at p
 ·rename_i x;obtain⟨v,r,rfl,hx,hr⟩:=rx;cases hr;split at p
  ·rename_i l hl;obtain⟨a,ys,rfl,sq,r⟩:=Dc W hx hl;refine alI pins s σ H _ us Q I rv ⟨a,ys,rfl,?_⟩
   rcases sq with sq|sq
   ·exact .inl ⟨sq,DR W r p⟩
   ·refine .inr ⟨sq,?_⟩;cases x with
    |tup m=>cases hl;exact p.here W hx
    |lst m =>
     obtain⟨b,zs,e,s1,_⟩:=hx;cases e;exfalso
     rcases sq with sq|⟨o,its,n,hk,hcl,_⟩
     ·rcases sq with sq|⟨o,sq⟩<;>(rw[s1.1]at sq;cases sq)
     ·have:=I.bs a o (I.ok.mod.lU a o hk);rw[s1.1]at this;cases this.2
    |cH m =>
     exfalso;obtain⟨b,e,s1⟩:=hx;cases e;obtain⟨i1,_,pl,_⟩:=I.list s1.sql;obtain⟨i2,_,pt,_⟩:=I.tuple sq;obtain⟨o1,e1,c1,_⟩:=pl.isList;obtain⟨o2,e2,c2,_⟩:=pt;rw[e1]at e2;cases e2;rw[c1]at c2;exact absurd c2 (by decide)
    |ref k =>
     exfalso;obtain⟨b,e,s1⟩:=hx;cases e;obtain⟨zs,hz⟩:=W.at' (apT s1)
     rcases sq with sq|⟨o,its,n,hk,hcl,_⟩
     ·rcases sq with sq|⟨o,sq⟩<;>(rw[hz]at sq;cases sq)
     ·have:=I.bs a o (I.ok.mod.lU a o hk);rw[hz]at this;cases this.2
    |_=>cases hl
  ·exact p.elim
 ·exact p.elim
end
def gx(o a:af):af:=λe c=>(o e c).bind λx c=>match x with
 |.ref k=>(a e c).bind λy c=>match c[k]? with
  |some (.lst l)=>if l.length<ι/\noRef y=ξ then .ok .aH (c.set k (.lst (l++[y])))else .bad
  |none=>.bad
 |_=>.bad
theorem wV{X:Cx}{o e:ο}{dO da:af}{apos cpos:Pos}(ho:bh X o dO) (ha:bh X e da)
  (hbase:ahd o "append" X.env (eval o X.env)=eval o X.env:=by rfl)
  (hfew:((aea cpos (μ [e] X.env)).all (λx=>!x.1)&&(aho cpos (agr [] X.env)).all (λx=>x.1.isSome)
   && decide ([e].length+([]:List agI).length+(if([]:List agI).isEmpty then 0 else 1)<30))=ξ:=by exact zo rfl)
  (hline:(apos.endLine==cpos.line)=ξ:=by rfl) (hs:μ [e] X.env=(Δ,eval e X.env)::μ [] X.env:=by exact cR rfl) (hplain:(aea cpos (μ [] X.env)).any (·.1)=Δ:=by exact e9 rfl) :
  bh X (.Call (.Attribute o "append" apos) [e] [] cpos) (gx dO da) :=
 (zS as7 PySem.F.slot_list_append PySem.F.type_list_append afa ho (i9 ha jB hs) hbase hfew hline hs hplain).imp λσ H Q h=>by
  obtain⟨ρ,e,c,W,V,p⟩:=h;refine⟨ρ,e,c,W,V,post.bind p λx c1 aL H1 v _ W1 X1 r1 p1=>?_⟩
  cases x with
  |ref k =>
   obtain⟨a,rfl,ha⟩:=r1;obtain⟨xs,hx⟩:=W1.at' (apT ha);refine⟨.inl ⟨rfl,xs,bD.of hx⟩,aL,e,c1,W1,V.mono W X1,post.bind p1 λy c2 c8 H2 u _ W2 X2 r2 p2=>?_⟩
   split at p2
   ·rename_i l hl;split at p2
    ·rename_i hh;obtain⟨nr,ys,hy,rl⟩:=W2.fP k a _ (X2.pre k a ha) hl;refine⟨a,ys,u,rfl,rfl,hy,by rw[rl.length];exact hh.1,?_⟩
     refine p2 c8 _ .aH (W2.write (X2.pre k a ha) (by rw[xm,nr];simp[bN,hh.2]) (rl.append ⟨u,[],rfl,r2,rfl⟩)) (Ext.write (X2.pre k a ha)) rfl
    ·exact p2.elim
   ·exact p2.elim
  |_=>exact p1.elim
section
variable (e:Ev) (c:aa) (a b d:af) (ta tb:ai) (s t:ah) (l:aj) (g:Gd) (gs:List D->Ev->aa->R Ev)
@[simp] theorem bA(i:Nat):ak i e c=match e[i]? with|some (ζ d)=>.ok d c|_=>.bad:=rfl
@[simp] theorem iH(d:D):dC d e c=.ok d c:=rfl
@[simp] theorem ez(f:D->D->aa->R D):au f a b e c=(a e c).bind λx c=>(b e c).bind λy c=>f x y c:=rfl
@[simp] theorem fK(f:List D->aa->R D):aF f l e c=(l e c).bind λxs c=>f xs c:=rfl
@[simp] theorem an1(f g:D->D->aa->R D):qI f g a b d e c=(a e c).bind λx c=>(b e c).bind λy c=>(f x y c).bind λz c=>match z with
 |.bl ξ=>(d e c).bind λu c=>g y u c
 |.bl Δ=>.ok (.bl Δ) c
 |_=>.bad:=rfl
@[simp] theorem bI:aq e c=.ok [] c:=rfl
@[simp] theorem bJ:ao a l e c=(a e c).bind λx c=>(l e c).bind λxs c=>.ok (x::xs) c:=rfl
@[simp] theorem zb:cP l e c=(l e c).bind λxs c=>if xs.length<=ι then .ok (.tup xs) c else .bad:=rfl
@[simp] theorem KH:cy l e c=(l e c).bind λxs c=>if xs.length<=ι then .ok (.lst xs) c else .bad:=rfl
@[simp] theorem TY:ff l e c=(l e c).bind λxs c=>if xs.length<=ι/\bN xs=ξ then .ok (.ref c.length) (c++[.lst xs])else .bad:=rfl
@[simp] theorem zf:aQ a e c=(a e c).bind λx c=>match x with|.bl b=>.ok b c|_=>.bad:=rfl
@[simp] theorem anE:BX a e c=(a e c).bind λx c=>match rK c x with|some b=>.ok b c|none=>.bad:=rfl
@[simp] theorem an3:iF ta tb e c=(ta e c).bind λx c=>if x=ξ then tb e c else .ok Δ c:=rfl
@[simp] theorem anI:iE ta tb e c=(ta e c).bind λx c=>if x=ξ then .ok ξ c else tb e c:=rfl
@[simp] theorem CM:d8 ta e c=(ta e c).bind λx c=>.ok (!x) c:=rfl
@[simp] theorem KN:iR a b e c=(a e c).bind λx c=>match x with|.bl k=>if k=ξ then b e c else .ok (.bl Δ) c|_=>.bad:=rfl
@[simp] theorem anJ:IK a e c=(a e c).bind λx c=>match x with|.bl k=>.ok (.bl (!k)) c|_=>.bad:=rfl
@[simp] theorem T3:uX ta a b e c=(ta e c).bind λx c=>if x=ξ then a e c else b e c:=rfl
@[simp] theorem x_call(n:Nat) (m:List D->aa->R D):aC n m l e c=(l e c).bind λxs c=>if xs.length=n then m xs c else .bad:=rfl
@[simp] theorem anK:b8 e c=.ok (.nx e) c:=rfl
@[simp] theorem an2:Dj e c=.bad:=rfl
@[simp] theorem iG:aD s t e c=(s e c).bind λf c=>match f with|.nx e=>t e c|f=>.ok f c:=rfl
@[simp] theorem gO:aM a e c=(a e c).bind λx c=>.ok (.rt x) c:=rfl
@[simp] theorem ko:eL a e c=(a e c).bind λ_ c=>.ok (.nx e) c:=rfl
@[simp] theorem iV:bU ta s t e c=(ta e c).bind λx c=>if x=ξ then s e c else t e c:=rfl
@[simp] theorem gm(i:Nat):aG i a e c=(a e c).bind λx c=>.ok (.nx (e.set i (ζ x))) c:=rfl
@[simp] theorem KL:iZ a g e c=(a e c).bind λx c=>(g x e c).bind λe c=>.ok (.nx e) c:=rfl
@[simp] theorem T4(i:Nat) (x:D):az i x e c=.ok (e.set i (ζ x)) c:=rfl
@[simp] theorem anU:eO [] e c=.ok e c:=rfl
@[simp] theorem anV(x:D) (xs:List D):cu g gs (x::xs) e c=(g x e c).bind λe c=>gs xs e c:=rfl
@[simp] theorem anT(n:Nat) (xs:List D):eG n gs (.tup xs) e c=if xs.length=n then gs xs e c else .bad:=rfl
@[simp] theorem KJ(x:D):l5 a b x e c=(a e c).bind λo c=>(b e c).bind λi c=>(lD o i x c).bind λ_ c=>.ok e c:=rfl
@[simp] theorem fJ(sr:Ev->aa->R Src):bQ sr g s e c=(sr e c).bind λq c=>dR q.stays g s q.items e c:=rfl
@[simp] theorem e7(n:Nat) (own:Bool) (xs:List D):bK n own s xs c=(s (cT n xs) c).bind λf c'=>match f with
 |.rt v=>dH own c.length v c'
 |.nx _=>dH own c.length .aH c'
 |_=>.bad:=rfl
@[simp] theorem TJ(n:Nat) (xs:List D):cT n xs=xs.map ζ++π (n-xs.length) η:=rfl
@[simp] theorem er(sr:Ev->aa->R Src) (pick:List (Option Nat)):aS sr pick g ta a e c=(sr e c).bind λq c =>
 if q.items.length<ι then(bO q.stays g ta a q.items (dB pick e) [] c).bind λl c=>.ok (.lst l) c else .bad:=rfl
@[simp] theorem nL:aJ e c=.ok ξ c:=rfl
@[simp] theorem lz(i j:Int):br (.int i) (.int j) c=.ok (.int (i+j)) c:=rfl
@[simp] theorem an4(x y:List D):br (.tup x) (.tup y) c=if x.length≠0/\x.length+y.length<=ι then .ok (.tup (x++y)) c else .bad:=rfl
@[simp] theorem zc(i j:Int):bz (.int i) (.int j) c=.ok (.int (i-j)) c:=rfl
theorem KG(i j:Int):aW (.int i) (.int j) c=if(-(2^64)<i/\i<2^64)\/(-(2^64)<j/\j<2^64)then .ok (.int (i*j)) c else .bad:=rfl
theorem T6(i j:Int):gi (.int i) (.int j) c=if 0<j/\j<1073741824 then .ok (.int (i/j)) c else .bad:=rfl
theorem TV(i j:Int):ck (.int i) (.int j) c=if 0<j then .ok (.int (i % j)) c else .bad:=rfl
theorem TN(i j:Int):tR (.int i) (.int j) c=if 0<=j/\j<=1000000/\i.natAbs<2^64 then .ok (.int (i^j.toNat)) c else .bad:=rfl
@[simp] theorem an0(p:Int->Int->Bool) (i j:Int):qL p (.int i) (.int j) c=.ok (.bl (p i j)) c:=rfl
@[simp] theorem T5(i j:Int):cB (.int i) (.int j) c=.ok (.bl (decide (i=j))) c:=rfl
@[simp] theorem anM(i j:Int):fD (.int i) (.int j) c=.ok (.bl (!decide (i=j))) c:=rfl
@[simp] theorem anZ(i j:Bool):cB (.bl i) (.bl j) c=.ok (.bl (decide (i=j))) c:=rfl
@[simp] theorem anN(i j:Bool):fD (.bl i) (.bl j) c=.ok (.bl (!decide (i=j))) c:=rfl
@[simp] theorem anY(i j:Str):cB (.str i) (.str j) c=.ok (.bl (decide (i=j))) c:=rfl
@[simp] theorem anL(i j:Str):fD (.str i) (.str j) c=.ok (.bl (!decide (i=j))) c:=rfl
@[simp] theorem anS(x:D):kR x .aH c=.ok (.bl (!iP x)) c:=rfl
@[simp] theorem aou:iP .aH=ξ:=rfl
@[simp] theorem n_bl(b:Bool):iP (.bl b)=Δ:=rfl
@[simp] theorem aow(b:Int):iP (.int b)=Δ:=rfl
@[simp] theorem aot(b:Str):iP (.str b)=Δ:=rfl
@[simp] theorem aos(b:List D):iP (.tup b)=Δ:=rfl
@[simp] theorem aov(b:List D):iP (.lst b)=Δ:=rfl
@[simp] theorem CO(xs:List D) (i:Int):aE (.tup xs) (.int i) c=match dI xs i with|some d=>.ok d c|none=>.bad:=rfl
@[simp] theorem rG(xs:List D) (i:Int):aE (.lst xs) (.int i) c=match dI xs i with|some d=>.ok d c|none=>.bad:=rfl
@[simp] theorem CN(xs:List D):aY [.tup xs] c=.ok (.int xs.length) c:=rfl
@[simp] theorem KI(xs:List D):aY [.lst xs] c=.ok (.int xs.length) c:=rfl
@[simp] theorem anR(xs:List Int):aY [.cH xs] c=.ok (.int xs.length) c:=by
 show R.ok (D.int ((xs.map D.int).length:Nat)) c=_;rw[apC]
@[simp] theorem TX(i j:Int):um [.int i,.int j] c=.ok (.int (if j>i then j else i)) c:=rfl
@[simp] theorem aof:noRef .aH=ξ:=rfl
@[simp] theorem r_bl(b:Bool):noRef (.bl b)=ξ:=rfl
@[simp] theorem aoh(b:Int):noRef (.int b)=ξ:=rfl
@[simp] theorem aoe(b:Str):noRef (.str b)=ξ:=rfl
@[simp] theorem Mp(b:List D):noRef (.tup b)=bN b:=by simp[noRef]
@[simp] theorem Mq(b:List D):noRef (.lst b)=bN b:=by simp[noRef]
@[simp] theorem aog:bN []=ξ:=by simp[bN]
@[simp] theorem aoi(d:D) (b:List D):bN (d::b)=(noRef d&&bN b):=by simp[bN]
@[simp] theorem q_bl(own:Bool) (n:Nat) (b:Bool):dH own n (.bl b) c=.ok (.bl b) (c.take n):=rfl
@[simp] theorem aom(own:Bool) (n:Nat):dH own n .aH c=.ok .aH (c.take n):=rfl
@[simp] theorem aoo(own:Bool) (n:Nat) (b:Int):dH own n (.int b) c=.ok (.int b) (c.take n):=rfl
@[simp] theorem aol(own:Bool) (n:Nat) (b:Str):dH own n (.str b) c=.ok (.str b) (c.take n):=rfl
@[simp] theorem wG(own:Bool) (n:Nat) (b:List D):dH own n (.tup b) c=if bN b=ξ then .ok (.tup b) (c.take n)else .bad:=by
 show(if noRef (.tup b)=ξ then R.ok (D.tup b) (c.take n)else R.bad)=_
 rw[Mp]
@[simp] theorem aon(own:Bool) (n:Nat) (b:List D):dH own n (.lst b) c=if bN b=ξ then .ok (.lst b) (c.take n)else .bad:=by
 show(if noRef (.lst b)=ξ then R.ok (D.lst b) (c.take n)else R.bad)=_
 rw[Mq]
@[simp] theorem gM:bg l e c=(l e c).bind λxs c=>match xs with
 |[.int j]=>if -(2^62)<=j/\j<2^62 then .ok ⟨bf 0 j,λ_=>True⟩ c else .bad
 |_=>.bad:=rfl
@[simp] theorem anH:j9 l e c=(l e c).bind λxs c=>match xs with
 |[.int i,.int j]=>if -(2^62)<=i/\i<2^62/\-(2^62)<=j/\j<2^62 then .ok ⟨bf i j,λ_=>True⟩ c else .bad
 |_=>.bad:=rfl
@[simp] theorem ze:dj a e c=(a e c).bind λx c=>match x with
 |.lst l=>.ok ⟨l,λ_=>True⟩ c
 |.cH l=>.ok ⟨l.map D.int,λ_=>True⟩ c
 |.ref k=>match c[k]? with
  |some (.lst l)=>.ok ⟨l,λc=>c[k]? = ζ (.lst l)⟩ c
  |none=>.bad
 |_=>.bad:=rfl
@[simp] theorem zd:cL a e c=(a e c).bind λx c=>match x with
 |.tup l=>.ok ⟨l,λ_=>True⟩ c
 |_=>.bad:=rfl
end
section
variable (g:Gd) (s:ah) (t:ai) (a:af) (e:Ev) (c:aa)
@[simp] theorem aiJ:dR (λ_=>True) g s [] e c=.ok (.nx e) c:=by simp[dR]
@[simp] theorem l6(x:D) (xs:List D):dR (λ_=>True) g s (x::xs) e c=(g x e c).bind λe c=>(s e c).bind λf c=>match f with
   |.nx e=>dR (λ_=>True) g s xs e c
   |.ct e=>dR (λ_=>True) g s xs e c
   |.bk e=>.ok (.nx e) c
   |.rt d=>.ok (.rt d) c:=by
 conv=>lhs;unfold dR
 exact if_pos trivial
@[simp] theorem apg(acc:List D):bO (λ_=>True) g t a [] e acc c=.ok acc c:=by simp[bO]
@[simp] theorem kg(x:D) (xs acc:List D):bO (λ_=>True) g t a (x::xs) e acc c=(g x e c).bind λe c=>(t e c).bind λk c=>if k=ξ then(a e c).bind λy c=>bO (λ_=>True) g t a xs e (acc++[y]) c else bO (λ_=>True) g t a xs e acc c:=by
 conv=>lhs;unfold bO
 exact if_pos trivial
end
@[simp] theorem gz{α:Type}(a:α) (l:List α):(a::l)[0]? = ζ a:=rfl
@[simp] theorem gs{α:Type}(a:α) (l:List α) (n:Nat):(a::l)[n+1]? = l[n]?:=rfl
@[simp] theorem rq{α:Type}(a:α) (l:List α):dI (a::l) 0=ζ a:=by simp[dI,gu]
@[simp] theorem at1{α:Type}(a b:α) (l:List α):dI (a::b::l) 1=ζ b:=by
 unfold dI gu;rw[if_pos (by decide),if_pos (by simp;omega)]
 rfl
@[simp] theorem at2{α:Type}(a b d:α) (l:List α):dI (a::b::d::l) 2=ζ d:=by
 unfold dI gu;rw[if_pos (by decide),if_pos (by simp;omega)]
 rfl
@[simp] theorem at3{α:Type}(a b d f:α) (l:List α):dI (a::b::d::f::l) 3=ζ f:=by
 unfold dI gu;rw[if_pos (by decide),if_pos (by simp;omega)]
 rfl
@[simp] theorem at4{α:Type}(a b d f h:α) (l:List α):dI (a::b::d::f::h::l) 4=ζ h:=by
 unfold dI gu;rw[if_pos (by decide),if_pos (by simp;omega)]
 rfl
theorem eK{n:Nat}(h:n<=1000):n<=ι:=apW h (by decide)
@[simp] theorem sl0:(0:Nat)<=ι:=aqm _
@[simp] theorem sl1:(1:Nat)<=ι:=by decide
@[simp] theorem sl2:(2:Nat)<=ι:=by decide
@[simp] theorem sl3:(3:Nat)<=ι:=by decide
@[simp] theorem sl4:(4:Nat)<=ι:=by decide
@[simp] theorem sl5:(5:Nat)<=ι:=by decide
@[simp] theorem sl6:(6:Nat)<=ι:=by decide
@[simp] theorem zp:(0:Nat)<ι:=by decide
@[simp] theorem st1:(1:Nat)<ι:=by decide
@[simp] theorem st2:(2:Nat)<ι:=by decide
@[simp] theorem st3:(3:Nat)<ι:=by decide
@[simp] theorem LO:(4:Nat)<ι:=by decide
@[simp] theorem p8:(5:Nat)<ι:=by decide
@[simp] theorem aoX(i:Int) (c:aa):cK [.int i,.ty "int"] c=.ok (.bl ξ) c:=rfl
@[simp] theorem aoY(i:Int) (c:aa):cK [.int i,.ty "bool"] c=.ok (.bl Δ) c:=rfl
@[simp] theorem aoV(i:Int) (c:aa):cK [.int i,.ty "str"] c=.ok (.bl Δ) c:=rfl
@[simp] theorem aoU(i:Int) (c:aa):cK [.int i,.ty "tuple"] c=.ok (.bl Δ) c:=rfl
@[simp] theorem aoW(i:Int) (c:aa):cK [.int i,.ty "list"] c=.ok (.bl Δ) c:=rfl
@[simp] theorem ao2(i:Bool) (c:aa):cK [.bl i,.ty "int"] c=.ok (.bl ξ) c:=rfl
@[simp] theorem ao3(i:Bool) (c:aa):cK [.bl i,.ty "bool"] c=.ok (.bl ξ) c:=rfl
@[simp] theorem ao0(i:Bool) (c:aa):cK [.bl i,.ty "str"] c=.ok (.bl Δ) c:=rfl
@[simp] theorem aoZ(i:Bool) (c:aa):cK [.bl i,.ty "tuple"] c=.ok (.bl Δ) c:=rfl
@[simp] theorem ao1(i:Bool) (c:aa):cK [.bl i,.ty "list"] c=.ok (.bl Δ) c:=rfl
@[simp] theorem aoI(i:Str) (c:aa):cK [.str i,.ty "int"] c=.ok (.bl Δ) c:=rfl
@[simp] theorem aoJ(i:Str) (c:aa):cK [.str i,.ty "bool"] c=.ok (.bl Δ) c:=rfl
@[simp] theorem aoG(i:Str) (c:aa):cK [.str i,.ty "str"] c=.ok (.bl ξ) c:=rfl
@[simp] theorem aoF(i:Str) (c:aa):cK [.str i,.ty "tuple"] c=.ok (.bl Δ) c:=rfl
@[simp] theorem aoH(i:Str) (c:aa):cK [.str i,.ty "list"] c=.ok (.bl Δ) c:=rfl
@[simp] theorem aoN(c:aa):cK [.aH,.ty "int"] c=.ok (.bl Δ) c:=rfl
@[simp] theorem aoO(c:aa):cK [.aH,.ty "bool"] c=.ok (.bl Δ) c:=rfl
@[simp] theorem aoL(c:aa):cK [.aH,.ty "str"] c=.ok (.bl Δ) c:=rfl
@[simp] theorem aoK(c:aa):cK [.aH,.ty "tuple"] c=.ok (.bl Δ) c:=rfl
@[simp] theorem aoM(c:aa):cK [.aH,.ty "list"] c=.ok (.bl Δ) c:=rfl
@[simp] theorem aoD(i:List D) (c:aa):cK [.tup i,.ty "int"] c=.ok (.bl Δ) c:=rfl
@[simp] theorem aoE(i:List D) (c:aa):cK [.tup i,.ty "bool"] c=.ok (.bl Δ) c:=rfl
@[simp] theorem aoB(i:List D) (c:aa):cK [.tup i,.ty "str"] c=.ok (.bl Δ) c:=rfl
@[simp] theorem aoA(i:List D) (c:aa):cK [.tup i,.ty "tuple"] c=.ok (.bl ξ) c:=rfl
@[simp] theorem aoC(i:List D) (c:aa):cK [.tup i,.ty "list"] c=.ok (.bl Δ) c:=rfl
@[simp] theorem aoS(i:List D) (c:aa):cK [.lst i,.ty "int"] c=.ok (.bl Δ) c:=rfl
@[simp] theorem aoT(i:List D) (c:aa):cK [.lst i,.ty "bool"] c=.ok (.bl Δ) c:=rfl
@[simp] theorem aoQ(i:List D) (c:aa):cK [.lst i,.ty "str"] c=.ok (.bl Δ) c:=rfl
@[simp] theorem aoP(i:List D) (c:aa):cK [.lst i,.ty "tuple"] c=.ok (.bl Δ) c:=rfl
@[simp] theorem aoR(i:List D) (c:aa):cK [.lst i,.ty "list"] c=.ok (.bl ξ) c:=rfl
section
variable (c:aa) {i j:Int}
theorem Am(h1:-18446744073709551616<i) (h2:i<18446744073709551616):aW (.int i) (.int j) c=.ok (.int (i*j)) c:=by
 rw[KG,if_pos];exact .inl ⟨by omega,by omega⟩
theorem mul_r(h1:-18446744073709551616<j) (h2:j<18446744073709551616):aW (.int i) (.int j) c=.ok (.int (i*j)) c:=by
 rw[KG,if_pos];exact .inr ⟨by omega,by omega⟩
theorem qE(h1:0<j) (h2:j<1073741824):gi (.int i) (.int j) c=.ok (.int (i/j)) c:=by
 rw[T6,if_pos ⟨h1,h2⟩]
theorem jW(h1:0<j):ck (.int i) (.int j) c=.ok (.int (i % j)) c:=by
 rw[TV,if_pos h1]
theorem Mw(h1:0<=j) (h2:j<=1000000) (h3:i.natAbs<18446744073709551616):tR (.int i) (.int j) c=.ok (.int (i^j.toNat)) c:=by
 rw[TN,if_pos ⟨h1,h2,h3⟩]
end
section
variable {g:Gd}{s:ah}{t:ai}{a:af}
theorem pB{c:aa}(inv:Ev->Prop) (F:D->Bool) (G:D->D):∀(items:List D) (e:Ev) (acc:List D),inv e ->
  (∀x∈items,∀e,inv e->∃e',g x e c=.ok e' c/\inv e'/\t e' c=.ok (F x) c/\(F x=ξ->a e' c=.ok (G x) c)) ->
  bO (λ_=>True) g t a items e acc c=.ok (acc++(items.filter F).map G) c
 |[],e,acc,_,_=>by simp
 |x::xs,e,acc,hi,h=>by
  obtain⟨e',h1,h2,h3,h4⟩:=h x aqg e hi;rw[kg,h1,R.aA,h3,R.aA];cases hF:F x with
  |true =>
   rw[if_pos rfl,h4 hF,R.aA,pB inv F G xs e' _ h2 λy hy=>h y (ap7 _ hy)]
   simp[hF]
  |false =>
   rw[if_neg apP,pB inv F G xs e' _ h2 λy hy=>h y (ap7 _ hy)]
   simp[hF]
theorem PK(inv:Ev->Prop):∀(items:List D) (e:Ev) (c:aa),inv e ->
  (∀x∈items,∀e c,inv e->∃e' e'' c' c'',g x e c=.ok e' c'/\s e' c'=.ok (.nx e'') c''/\inv e'') ->
  ∃e' c',inv e'/\dR (λ_=>True) g s items e c=.ok (.nx e') c'
 |[],e,c,hi,_=>⟨e,c,hi,by simp⟩
 |x::xs,e,c,hi,h=>by
  obtain⟨e',e'',c',c'',h1,h2,h3⟩:=h x aqg e c hi;obtain⟨e3,c3,i3,h4⟩:=PK inv xs e'' c'' h3 λy hy=>h y (ap7 _ hy)
  exact⟨e3,c3,i3,by rw[l6,h1,R.aA,h2];exact h4⟩
theorem oX(inv:Ev->aa->Prop):∀(items:List D) (e:Ev) (c:aa),inv e c ->
  (∀x∈items,∀e c,inv e c->∃e' e'' c' c'',g x e c=.ok e' c'/\s e' c'=.ok (.nx e'') c''/\inv e'' c'') ->
  ∃e' c',inv e' c'/\dR (λ_=>True) g s items e c=.ok (.nx e') c'
 |[],e,c,hi,_=>⟨e,c,hi,by simp⟩
 |x::xs,e,c,hi,h=>by
  obtain⟨e',e'',c',c'',h1,h2,h3⟩:=h x aqg e c hi;obtain⟨e3,c3,i3,h4⟩:=oX inv xs e'' c'' h3 λy hy=>h y (ap7 _ hy)
  exact⟨e3,c3,i3,by rw[l6,h1,R.aA,h2];exact h4⟩
end
theorem lO{lo hi:Int}{d:D}(h:d∈bf lo hi):∃i:Int,d=.int i/\lo<=i/\i<hi:=by
 unfold bf at h;obtain⟨k,hk,rfl⟩:=apv.mp h;have:=apx.mp hk;exact⟨lo+k,rfl,by omega,by omega⟩
theorem fM{lo hi:Int}:(bf lo hi).length=(hi-lo).toNat:=by simp[bf]
def d7(c:aa):D->Option (List D)
 |.lst l=>ζ l
 |.ref k=>match c[k]? with
  |some (.lst l)=>ζ l
  |none=>η
 |_=>η
def kB(c:aa):D->aa->Prop
 |.ref k=>λc'=>c'[k]? = c[k]?
 |_=>λ_=>True
def fu:D->D->aa->R D:=λx y c=>match d7 c x,d7 c y with
 |some l,ζ m=>if l.length+m.length<=ι then .ok (.lst (l++m)) c else .bad
 |_,_=>.bad
def cutD(xs:List D) (lo hi:Option Int):List D:=(xs.drop (HT.fL xs.length 0 lo)).take (HT.fL xs.length xs.length hi-HT.fL xs.length 0 lo)
def gD(a:af) (lo hi:Ev->aa->R (Option Int)):af:=λe c=>(a e c).bind λx c=>(lo e c).bind λl c=>(hi e c).bind λu c=>match d7 c x with
 |some xs=>.ok (.lst (cutD xs l u)) c
 |none=>.bad
def gE:Ev->aa->R (Option Int):=λ_ c=>.ok η c
def gw(a:af):Ev->aa->R (Option Int):=λe c=>(a e c).bind λx c=>match x with
 |.int i=>.ok (ζ i) c
 |_=>.bad
def qF(a:aj):Ev->aa->R Src:=λe c=>(a e c).bind λxs c=>match xs with
 |[.tup l,.tup m]=>.ok ⟨List.zipWith (λx y=>.tup [x,y]) l m,λ_=>True⟩ c
 |[x,y]=>match d7 c x,d7 c y with
  |some l,ζ m=>.ok ⟨List.zipWith (λx y=>.tup [x,y]) l m,λc'=>kB c x c'/\kB c y c'⟩ c
  |_,_=>.bad
 |_=>.bad
section
variable {X:Cx}{K:Ω}{ρ ρ':List Θ}{H H':Hp}{c c':aa}
theorem lS{x:D}{v:V}{l:List D}(W:Wd K ρ H c) (rx:Rel K ρ H x v) (h:d7 c x=ζ l):∃a xs,v=.ref a/\H a=ζ (.lst xs)/\aK K ρ H l xs:=by
 cases x with
 |lst m =>
  cases h;obtain⟨a,xs,e,s,r⟩:=rx;exact⟨a,xs,e,s.1,r⟩
 |ref k =>
  obtain⟨a,e,s⟩:=rx;unfold d7 at h;dsimp only at h;cases hc:c[k]? with
  |none=>rw[hc]at h;cases h
  |some cl =>
   cases cl with
   |lst m =>
    rw[hc]at h;cases h;obtain⟨_,xs,hx,r⟩:=W.fP k a _ s hc;exact⟨a,xs,e,hx,r⟩
 |_=>cases h
theorem NW{x:D}{v:V}{l:List D}(W:Wd K ρ H c) (W':Wd K ρ' H' c') (E:Ext ρ H ρ' H') (rx:Rel K ρ H x v) (h:d7 c x=ζ l) (st:kB c x c') {a:Θ}(e:v=.ref a):∃xs,bD K H' a xs/\aK K ρ' H' l xs:=by
 have XX:=Rel.mono W E x v rx;have h':d7 c' x=ζ l:=by
  cases x with
  |lst m=>exact h
  |ref k =>
   have st:c'[k]? = c[k]?:=st;unfold d7 at h ⊢;dsimp only at h ⊢;rw[st];exact h
  |_=>cases h
 obtain⟨b,xs,e2,hx,r⟩:=lS W' XX h';rw[e]at e2;cases e2;exact⟨xs,bD.of hx,r⟩
theorem xg:bW X (binaryOp .Add) (r2 X.K fu):=by
 intro pins s σ H v u vv uu Q I rv ru h;obtain⟨ρ,x,y,c,W,rx,ry,p⟩:=h;unfold fu at p;split at p
 ·rename_i l m hl hm;split at p
  ·rename_i hz;obtain⟨a,xs,rfl,ha,ra⟩:=lS W rx hl;obtain⟨b,ys,rfl,hb,rb⟩:=lS W ry hm;exact abC pins s σ H _ _ vv uu Q I rv ru ⟨a,b,xs,ys,rfl,rfl,ha,hb,by rw[ra.length,rb.length];exact hz,uc W (ra.append rb) p⟩
  ·exact p.elim
 ·exact p.elim
abbrev Cc(X:Cx) (e:Option ο) (d:Ev->aa->R (Option Int)):Prop:=PO X e (tD X.K (λ_ _ a b=>a=b) d)
theorem PO.imp{e:Option ο}{t t':TO}(h:PO X e t) (i:∀σ H Q,t' σ H Q->t σ H Q):PO X e t':=λpins s σ H Q I q=>h pins s σ H Q I (i _ _ _ q)
theorem wJ:Cc X η gE:=Zx.imp λσ H Q h=>by
 obtain⟨ρ,e,c,W,Vv,p⟩:=h;exact p.here W rfl
theorem wI{e:ο}{d:af}(h:bh X e d):Cc X (ζ e) (gw d):=(Zw h).imp λσ H Q h=>by
 obtain⟨ρ,e,c,W,Vv,p⟩:=h;refine⟨ρ,e,c,W,Vv,post.bind p λx c1 aL H1 v _ W1 X1 r1 p1=>?_⟩
 cases x with
 |int i=>cases r1;exact⟨i,rfl,p1.here W1 rfl⟩
 |_=>exact p1.elim
theorem akj{l:List D}{xs:List V}{lo hi:Option Int}(r:aK K ρ H l xs):aK K ρ H (cutD l lo hi) (uY xs lo hi):=by
 unfold cutD uY;rw[r.length];exact(r.drop _).take _
theorem wR{e:ο}{lo hi:Option ο}{p2 pos:Pos}{da:af}{dl dh:Ev->aa->R (Option Int)}(he:bh X e da) (hl:Cc X lo dl) (hh:Cc X hi dh):bh X (.Subscript e (.Slice lo hi η p2) pos) (gD da dl dh) :=
 (aaH Wu he hl hh).imp λσ H Q h=>by
  obtain⟨ρ,e,c,W,Vv,p⟩:=h;refine⟨ρ,e,c,W,Vv,post.bind p λx c1 aL H1 v _ W1 X1 r1 p1=>⟨aL,e,c1,W1,Vv.mono W X1,post.bind p1 λl c2 c8 H2 l' _ W2 X2 r2 p2=>⟨c8,e,c2,W2,(Vv.mono W X1).mono W1 X2,post.bind p2 λu c3 pQ H3 u' _ W3 X3 r3 p3=>?_⟩⟩⟩
  cases r2;cases r3;have rx:=Rel.mono W1 (X2.trans X3) _ _ r1;split at p3
  ·rename_i xs hs;obtain⟨a,ys,rfl,ha,r⟩:=lS W3 rx hs;exact⟨a,ys,rfl,bD.of ha,uc W3 (akj r) p3⟩
  ·exact p3.elim
theorem PI.or{tg iter:ο}{t t':TI}(h:PI X tg iter t) (h':PI X tg iter t'):PI X tg iter (λσ H R=>t σ H R\/t' σ H R):=λpins s σ H R I q=>q.elim (h pins s σ H R I) (h' pins s σ H R I)
theorem agA{l m:List D}{a b:Θ}{st:aa->Prop}(h:∀ρ' H' c',Wd K ρ' H' c'->Ext ρ H ρ' H'->st c'->∃xs ys,bD K H' a xs/\bD K H' b ys/\aK K ρ' H' l xs/\aK K ρ' H' m ys):JS K ρ H ⟨List.zipWith (λx y=>.tup [x,y]) l m,st⟩ (Ci (bD K) a b):=by
 intro ρ' H' c' W E s i;obtain⟨xs,ys,q1,q2,r1,r2⟩:=h ρ' H' c' W E s;refine⟨λd hd=>?_,λe=>⟨xs,ys,q1,q2,?_⟩⟩
 ·have hd:(List.zipWith (λx y=>D.tup [x,y]) l m)[i]? = ζ d:=hd
  rw[auq]at hd;cases e1:l[i]? with
  |none=>rw[e1]at hd;cases hd
  |some x =>
   cases e2:m[i]? with
   |none=>rw[e1,e2]at hd;cases hd
   |some y =>
    rw[e1,e2]at hd;cases hd;obtain⟨v,hv,rv⟩:=r1.get e1;obtain⟨u,hu,ru⟩:=r2.get e2;refine⟨⟨xs,ys,v,u,q1,q2,hv,hu⟩,λz H2 hz=>?_⟩
    obtain⟨t,v',u',rfl,ht,rfl,hz⟩:=hz;obtain⟨z1,z2⟩:=hz xs ys q1 q2;rw[hv]at z1;rw[hu]at z2;cases z1;cases z2;exact⟨W.fresh ht,Ext.fresh W ht,t,[v,u],rfl,e8,v,[u],rfl,Rel.mono W (Ext.fresh W ht) _ _ rv,u,[],rfl,Rel.mono W (Ext.fresh W ht) _ _ ru,rfl⟩
 ·have e:i=(List.zipWith (λx y=>D.tup [x,y]) l m).length:=e
  rw[aur]at e;rw[r1.length,r2.length];omega
theorem ag2{es:List ο}{k:Nat}{pt:Pos}{a b:ο}{da:aj}{p pos:Pos}(ha:eZ X [a,b] da) (hm:X.mg "zip"=η) (hg:Gl X "zip":=by rfl) (hs:μ [a,b] X.env=[(Δ,eval a X.env),(Δ,eval b X.env)]:=by exact LN rfl rfl) (hs2:μ [b] X.env=[(Δ,eval b X.env)]:=by exact p7 rfl) :
  PId X (.Tuple es k pt) (.Call (.Name "zip" p) [a,b] [] pos) (qF da):=((aao hg hm ha hs hs2).or (aap hg hm ha hs hs2)).imp λσ H Q h=>by
 obtain⟨ρ,e,c,W,Vv,p⟩:=h;cases hd:da e c with
 |bad=>unfold qF at p;rw[hd]at p;exact p.elim
 |ok xs c1 =>
  have p0:=p;unfold qF at p0;rw[hd,R.aA]at p0;split at p0
  ·left
   refine⟨ρ,e,c,W,Vv,?_⟩;rw[hd];intro aL H1 vs W1 X1 r1;obtain⟨y,ys,rfl,ry,z,zs,rfl,rz,rs⟩:=r1;cases rs;obtain⟨a1,xs,rfl,s1,t1⟩:=ry;obtain⟨a2,ys,rfl,s2,t2⟩:=rz;exact⟨a1,a2,rfl,⟨xs,ys,cF.of s1,cF.of s2⟩,post.here (post.ext p0 X1) W1 (agB λρ' H' c' W' E _=>⟨xs,ys,cF.of (rJ W1 E s1),cF.of (rJ W1 E s2),aK.mono W1 E _ _ t1,aK.mono W1 E _ _ t2⟩)⟩
  ·rename_i x y _;split at p0
   ·rename_i l m hl hm'
    right
    refine⟨ρ,e,c,W,Vv,?_⟩;rw[hd];intro aL H1 vs W1 X1 r1;obtain⟨v,ys,rfl,ry,u,zs,rfl,rz,rs⟩:=r1;cases rs;obtain⟨a1,xs,rfl,s1,t1⟩:=lS W1 ry hl;obtain⟨a2,ys,rfl,s2,t2⟩:=lS W1 rz hm';refine⟨a1,a2,rfl,⟨xs,ys,bD.of s1,bD.of s2⟩,post.here (post.ext p0 X1) W1 (agA λρ' H' c' W' E st=>?_)⟩
    obtain⟨xs',q1,q2⟩:=NW W1 W' E ry hl st.1 rfl;obtain⟨ys',q3,q4⟩:=NW W1 W' E rz hm' st.2 rfl;exact⟨xs',ys',q1,q3,q2,q4⟩
   ·exact p0.elim
  ·exact p0.elim
end
section
variable (e:Ev) (c:aa) (a:af) (lo hi:Ev->aa->R (Option Int)) (l:aj)
@[simp] theorem TL:gD a lo hi e c=(a e c).bind λx c=>(lo e c).bind λl c=>(hi e c).bind λu c=>match d7 c x with
 |some xs=>.ok (.lst (cutD xs l u)) c
 |none=>.bad:=rfl
@[simp] theorem TR:gE e c=.ok η c:=rfl
@[simp] theorem TQ:gw a e c=(a e c).bind λx c=>match x with
 |.int i=>.ok (ζ i) c
 |_=>.bad:=rfl
@[simp] theorem anD:qF l e c=(l e c).bind λxs c=>match xs with
 |[.tup l,.tup m]=>.ok ⟨List.zipWith (λx y=>.tup [x,y]) l m,λ_=>True⟩ c
 |[x,y]=>match d7 c x,d7 c y with
  |some l,ζ m=>.ok ⟨List.zipWith (λx y=>.tup [x,y]) l m,λc'=>kB c x c'/\kB c y c'⟩ c
  |_,_=>.bad
 |_=>.bad:=rfl
@[simp] theorem aoz(x:List D):d7 c (.lst x)=ζ x:=rfl
end
section
variable {g:Gd}{s:ah}{t:ai}{a:af}
theorem IS{c:aa}(st:aa->Prop) (hst:st c) (inv:Ev->Prop) (F:D->Bool) (G:D->D):∀(items:List D) (e:Ev) (acc:List D),inv e ->
  (∀x∈items,∀e,inv e->∃e',g x e c=.ok e' c/\inv e'/\t e' c=.ok (F x) c/\(F x=ξ->a e' c=.ok (G x) c)) ->
  bO st g t a items e acc c=.ok (acc++(items.filter F).map G) c
 |[],e,acc,_,_=>by
  unfold bO;rw[if_pos hst];simp
 |x::xs,e,acc,hi,h=>by
  obtain⟨e',h1,h2,h3,h4⟩:=h x aqg e hi;unfold bO;rw[if_pos hst,h1,R.aA,h3,R.aA];cases hF:F x with
  |true =>
   rw[if_pos rfl,h4 hF,R.aA,IS st hst inv F G xs e' _ h2 λy hy=>h y (ap7 _ hy)]
   simp[hF]
  |false =>
   rw[if_neg apP,IS st hst inv F G xs e' _ h2 λy hy=>h y (ap7 _ hy)]
   simp[hF]
theorem J5{dO da:af}{e:Ev}{c:aa}{acc:List D}{y:D}(ho:dO e (c++[.lst acc])=.ok (.ref c.length) (c++[.lst acc])) (ha:da e (c++[.lst acc])=.ok y (c++[.lst acc])) (hy:noRef y=ξ) (hl:acc.length+1<=1000000) :
  gx dO da e (c++[.lst acc])=.ok .aH (c++[.lst (acc++[y])]):=by
 have h1:acc.length<ι:=apG (by omega:acc.length<1000000) (by decide)
 unfold gx;rw[ho,R.aA];dsimp only;rw[ha,R.aA];have e1:(c++[Cell.lst acc])[c.length]? = ζ (.lst acc):=by simp
 have e2:(c++[Cell.lst acc]).set c.length (.lst (acc++[y]))=c++[.lst (acc++[y])]:=by simp
 rw[e1];dsimp only;rw[if_pos ⟨h1,hy⟩,e2]
end
mutual
def eT:D->Option ahE
 |.aH=>ζ .none
 |.bl b=>ζ (.bool b)
 |.int i=>ζ (.int i)
 |.str x=>if PyData.strOk x=ξ then ζ (.str x)else η
 |.tup l=>match fF l with
  |some r=>ζ (.tuple r)
  |none=>η
 |.lst l=>match fF l with
  |some r=>ζ (.list r)
  |none=>η
 |.ty _=>η
 |.ref _=>η
 |.cH _=>η
 |.fn _ _=>η
 |.exc _=>η
 |.iQ=>η
 |.dct _=>η
 |.lam _ _ _ _=>η
def fF:List D->Option (List ahE)
 |[]=>ζ []
 |d::l=>match eT d,fF l with
  |some a,ζ r=>ζ (a::r)
  |_,_=>η
end
def fO(c:aa):D->Option ahE
 |.ref k=>match c[k]? with
  |some (.lst l)=>match fF l with
   |some r=>ζ (.list r)
   |none=>η
  |none=>η
 |d=>eT d
def Qc:D->D->aa->R D:=λx y c=>match fO c x,fO c y with
 |some p,ζ q=>if p.depth<=64/\q.depth<=64 then .ok (.bl (p.eqv q)) c else .bad
 |_,_=>.bad
def iA:D->D->aa->R D:=λx y c=>match fO c x,fO c y with
 |some p,ζ q=>if p.depth<=64/\q.depth<=64 then .ok (.bl (!p.eqv q)) c else .bad
 |_,_=>.bad
def inD:D->D->aa->R D:=λx y c=>match fO c x,fO c y with
 |some p,ζ (.list ys)=>if p.depth<=62 then .ok (.bl (ys.any λz=>z.eqv p)) c else .bad
 |some p,ζ (.tuple ys)=>if p.depth<=62 then .ok (.bl (ys.any λz=>z.eqv p)) c else .bad
 |_,_=>.bad
def xh:D->D->aa->R D:=λx y c=>match fO c x,fO c y with
 |some p,ζ (.list ys)=>if p.depth<=62 then .ok (.bl (!ys.any λz=>z.eqv p)) c else .bad
 |some p,ζ (.tuple ys)=>if p.depth<=62 then .ok (.bl (!ys.any λz=>z.eqv p)) c else .bad
 |_,_=>.bad
section
variable {X:Cx}{pins:List (Θ×Obj)}{σ:St}{ρ:List Θ}{H:Hp}{s:ε}{c:aa}
mutual
theorem iL(I:Inv X pins σ H s):∀(d:D) (v:V) (u:Γ) (p:ahE),Rel X.K ρ H d v->RelV v u->eT d=ζ p->(∃as,Reads s.heap u p as)/\p.canLay0=ξ
 |.aH,v,u,p,r,ru,e=>by
  cases r;cases ru;cases e;exact⟨⟨_,.none⟩,by simp[PyData.canLay0]⟩
 |.bl b,v,u,p,r,ru,e=>by
  cases r;cases ru;cases e;exact⟨⟨_,.bool b⟩,by simp[PyData.canLay0]⟩
 |.int i,v,u,p,r,ru,e=>by
  cases r;obtain⟨t,rfl⟩:=ru;cases e;exact⟨⟨_,.int i t⟩,by simp[PyData.canLay0]⟩
 |.str x,v,u,p,r,ru,e=>by
  cases r;obtain⟨t,rfl⟩:=ru;unfold eT at e;split at e
  ·rename_i hx;cases e;exact⟨⟨_,.str x t⟩,by simpa[PyData.canLay0]using hx⟩
  ·cases e
 |.tup l,v,u,p,r,ru,e=>by
  obtain⟨a,xs,rfl,ha,rs⟩:=r;cases ru;unfold eT at e;split at e
  ·rename_i q hq;cases e;obtain⟨its,vs,⟨o,h1,h2,n,h3⟩,_⟩:=I.tuple (cF.of ha);obtain⟨⟨as,ra⟩,hc⟩:=zF I l xs its q rs vs hq;exact⟨⟨_,.tuple h1 h2 h3 (by simpa using ra)⟩,by simpa[PyData.canLay0]using hc⟩
  ·cases e
 |.lst l,v,u,p,r,ru,e=>by
  obtain⟨a,xs,rfl,ha,rs⟩:=r;cases ru;unfold eT at e;split at e
  ·rename_i q hq;cases e;obtain⟨its,vs,pl,_⟩:=I.list (bD.of ha.1);obtain⟨o,h1,h2,n,h3⟩:=pl.isList;obtain⟨⟨as,ra⟩,hc⟩:=zF I l xs its q rs vs hq;exact⟨⟨_,.list h1 h2 h3 (by simpa using ra)⟩,by simpa[PyData.canLay0]using hc⟩
  ·cases e
 |.ty _,v,u,p,r,ru,e=>by simp[eT]at e
 |.ref _,v,u,p,r,ru,e=>by simp[eT]at e
 |.cH _,v,u,p,r,ru,e=>by simp[eT]at e
 |.fn _ _,v,u,p,r,ru,e=>by simp[eT]at e
 |.exc _,v,u,p,r,ru,e=>by simp[eT]at e
 |.iQ,v,u,p,r,ru,e=>by simp[eT]at e
 |.dct _,v,u,p,r,ru,e=>by simp[eT]at e
 |.lam _ _ _ _,v,u,p,r,ru,e=>by simp[eT]at e
theorem zF(I:Inv X pins σ H s):∀(l:List D) (vs:List V) (us:List Γ) (ps:List ahE),aK X.K ρ H l vs->Vals vs us->fF l=ζ ps->(∃as,ReadsAll s.heap us ps as)/\PyData.canLayAll0 ps=ξ
 |[],vs,us,ps,r,ru,e=>by
  cases r;cases ru;cases e;exact⟨⟨_,.nil⟩,by simp[PyData.canLayAll0]⟩
 |d::l,vs,us,ps,r,ru,e=>by
  obtain⟨x,xs,rfl,r1,r2⟩:=r;cases ru with
  |cons q1 q2 =>
   unfold fF at e;split at e
   ·rename_i a r e1 e2;cases e;obtain⟨⟨as,ra⟩,ca⟩:=iL I d x _ a r1 q1 e1;obtain⟨⟨bs,rb⟩,cb⟩:=zF I l xs _ r r2 q2 e2;exact⟨⟨_,.cons ra rb⟩,by simp[PyData.canLayAll0,ca,cb]⟩
   ·cases e
end
theorem kE(I:Inv X pins σ H s) (W:Wd X.K ρ H c) {d:D}{v:V}{u:Γ}{p:ahE}(r:Rel X.K ρ H d v) (ru:RelV v u) (e:fO c d=ζ p):(∃as,Reads s.heap u p as)/\p.canLay0=ξ:=by
 cases d with
 |ref k =>
  unfold fO at e;dsimp only at e;cases hc:c[k]? with
  |none=>rw[hc]at e;cases e
  |some cl =>
   cases cl with
   |lst l =>
    rw[hc]at e;dsimp only at e;split at e
    ·rename_i q hq;cases e;obtain⟨a,rfl,s1⟩:=r;cases ru;obtain⟨_,xs,hx,rs⟩:=W.fP k a _ s1 hc;obtain⟨its,vs,pl,_⟩:=I.list (bD.of hx);obtain⟨o,h1,h2,n,h3⟩:=pl.isList;obtain⟨⟨as,ra⟩,hc⟩:=zF I l xs its q rs vs hq;exact⟨⟨_,.list h1 h2 h3 (by simpa using ra)⟩,by simpa[PyData.canLay0]using hc⟩
    ·cases e
 |aH=>exact iL I _ v u p r ru e
 |bl b=>exact iL I _ v u p r ru e
 |int b=>exact iL I _ v u p r ru e
 |str b=>exact iL I _ v u p r ru e
 |tup b=>exact iL I _ v u p r ru e
 |lst b=>exact iL I _ v u p r ru e
 |ty b=>exact iL I _ v u p r ru e
 |cH b=>exact iL I _ v u p r ru e
 |fn b n=>exact iL I _ v u p r ru e
 |exc b=>exact iL I _ v u p r ru e
 |dct b=>exact iL I _ v u p r ru e
 |iQ=>exact iL I _ v u p r ru e
 |lam k y ns l=>exact iL I _ v u p r ru e
theorem M3(hu:X.A.units+64<ahl):bW X (compareOp .NotEq) (r2 X.K iA):=by
 intro pins s σ H v u vv uu Q I rv ru h;obtain⟨ρ,x,y,c,W,rx,ry,p⟩:=h;unfold iA at p;split at p
 ·rename_i a b ha hb;split at p
  ·rename_i hd;obtain⟨⟨as,ra⟩,ca⟩:=kE I W rx rv ha;obtain⟨⟨bs,rb⟩,cb⟩:=kE I W ry ru hb;exact PySem.SeqAt.compareNe_shaped ra rb (by simp[PySem.SeqAt.shaped,ca,hd.1]) (by simp[PySem.SeqAt.shaped,cb,hd.2]) hu ⟨.bl _,H,I,rfl,p.here W rfl⟩
  ·exact p.elim
 ·exact p.elim
theorem AD{A:acr}{p:ahE}{ys:List ahE}(hu:A.units+64<ahl) (hd:p.depth<=62):A.units+1+min (PyData.depthAll ys) p.depth<ahl:=by
 have:=Nat.min_le_right (PyData.depthAll ys) p.depth;omega
theorem M5(hu:X.A.units+64<ahl):bW X (compareOp .In) (r2 X.K inD):=by
 intro pins s σ H v u vv uu Q I rv ru h;obtain⟨ρ,x,y,c,W,rx,ry,p⟩:=h;unfold inD at p;split at p
 ·rename_i a ys ha hb;split at p
  ·rename_i hd;obtain⟨⟨as,ra⟩,ca⟩:=kE I W rx rv ha;obtain⟨⟨bs,rb⟩,cb⟩:=kE I W ry ru hb;exact PySem.SeqAt.in_list_reads rb ra (by simpa[PyData.canLay0]using cb) ca (AD hu hd) ⟨.bl _,H,I,rfl,p.here W rfl⟩
  ·exact p.elim
 ·rename_i a ys ha hb;split at p
  ·rename_i hd;obtain⟨⟨as,ra⟩,ca⟩:=kE I W rx rv ha;obtain⟨⟨bs,rb⟩,cb⟩:=kE I W ry ru hb;exact PySem.SeqAt.in_tuple_reads rb ra (by simpa[PyData.canLay0]using cb) ca (AD hu hd) ⟨.bl _,H,I,rfl,p.here W rfl⟩
  ·exact p.elim
 ·exact p.elim
theorem acs(hu:X.A.units+64<ahl):bW X (compareOp .NotIn) (r2 X.K xh):=by
 intro pins s σ H v u vv uu Q I rv ru h;obtain⟨ρ,x,y,c,W,rx,ry,p⟩:=h;unfold xh at p;split at p
 ·rename_i a ys ha hb;split at p
  ·rename_i hd;obtain⟨⟨as,ra⟩,ca⟩:=kE I W rx rv ha;obtain⟨⟨bs,rb⟩,cb⟩:=kE I W ry ru hb;exact PySem.SeqAt.notIn_list_reads rb ra (by simpa[PyData.canLay0]using cb) ca (AD hu hd) ⟨.bl _,H,I,rfl,p.here W rfl⟩
  ·exact p.elim
 ·rename_i a ys ha hb;split at p
  ·rename_i hd;obtain⟨⟨as,ra⟩,ca⟩:=kE I W rx rv ha;obtain⟨⟨bs,rb⟩,cb⟩:=kE I W ry ru hb;exact PySem.SeqAt.notIn_tuple_reads rb ra (by simpa[PyData.canLay0]using cb) ca (AD hu hd) ⟨.bl _,H,I,rfl,p.here W rfl⟩
  ·exact p.elim
 ·exact p.elim
end
theorem uC{A:acr}{k:Nat}(hr:dg k A):A.units+64<ahl:=by have:=hr.un;omega
section
variable (c:aa)
@[simp] theorem apd:eT .aH=ζ .none:=by simp only[eT]
@[simp] theorem apf(b:Bool):eT (.bl b)=ζ (.bool b):=by simp only[eT]
@[simp] theorem ape(i:Int):eT (.int i)=ζ (.int i):=by simp only[eT]
@[simp] theorem apc:fF []=ζ []:=by simp only[fF]
theorem Qm(l:List Int):fF (l.map D.int)=ζ (l.map PyData.int):=by
 induction l with
 |nil=>simp
 |cons a l ih=>simp[fF,ih]
end
end L2
namespace L2
open PySem PySem.Spec PyProof.Rows
section
variable {X:Cx}
theorem Zq:∀(is:List Int),preSum (λi=>is.getD i 0) is.length=is.sum
 |is=>by
  have key:∀j,j<=is.length->preSum (λi=>is.getD i 0) j=(is.take j).sum:=by
   intro j
   induction j with
   |zero=>intro _;simp[preSum]
   |succ j ih =>
    intro hj;rw[preSum,ih (by omega),List.take_add_one]
    have:is[j]? = ζ (is.getD j 0):=by
     rw[apD,apw (by omega)];rfl
    rw[this];simp
  rw[key is.length (aps _),aqy]
theorem Uo{is:List Int}{its:List Γ}(h:Vals (is.map V.int) its) (i:Nat) (v:Γ) (hv:its.toArray[i]? = ζ v):∃t,v=.int (is.getD i 0) t:=by
 have hl:=h.length;rw[apC]at hl;have hi:i<is.length:=by
  have:=(Array.getElem?_eq_some_iff.mp hv).1;simp at this;omega
 obtain⟨u,e,r⟩:=h.get (i:=i) (x:=V.int is[i]) (by simp[apM,hi])
 rw[List.getElem?_toArray]at hv;rw[hv]at e;cases e;obtain⟨t,rfl⟩:=r;exact⟨t,by rw[apD,apw hi];rfl⟩
theorem alJ(hc:X.calm=ξ):d9 X (.builtin "sum") (λxs H Q=>∃(p:Θ) (is:List Int),xs=[.ref p]/\bD X.K H p (is.map V.int)/\Q (.int is.sum) H):=by
 intro pins s σ H xs us Q I r h;obtain⟨p,is,rfl,hp,q⟩:=h;obtain⟨u,rfl,ru⟩:=aqc r;cases ru;obtain⟨its,rv,pl,hz⟩:=I.list hp;have hL:=pl.isList;have xS:p≠s.heap.objs.size:=by obtain⟨o,e,_⟩:=hL;exact apz (apy e)
 have hl:=rv.length;rw[apC]at hl;refine call_sum_walkAnyS (arf hL ⟨s.heap.objs.size,_,_,_,its.toArray.size,_,_,λi=>is.getD i 0,rfl,(arS (A:=X.A.in1) (I.ok.hd hc) s.heap.objs.size p xS its.toArray).toS,⟨⟨_,apF _ rfl,rfl,rfl⟩,hL.push _⟩,λb hb=>?_,λi v hv=>Uo rv i v hv,λs' t' hm=>?_⟩)
 ·obtain⟨o,e,_⟩:=hL
  rcases apu.mp hb with rfl|hb
  ·exact apy (apF _ rfl)
  ·obtain rfl:=aqa.mp hb;exact apy (apt _ e)
 ·obtain⟨h',g',d',tk',os'⟩:=s';have e1:g'=s.gens:=hm.gens;have e2:d'=s.drawn:=hm.drawn;have e3:os'=s.os:=hm.os;subst e1 e2 e3;have I1:Inv X pins σ H {s with heap:=h',toks:=tk'}:=J7 I λb o hb e=>hm.heap b o hb e
  refine⟨.int is.sum,H,I1,?_,q⟩;refine⟨t',?_⟩;rw[apH,<-hl,Zq]
end
def jv:List D->aa->R D:=λxs c=>match xs with
 |[.lst l]=>match jZ l with
  |some is=>.ok (.int is.sum) c
  |none=>.bad
 |_=>.bad
theorem IY{X:Cx}(hc:X.calm=ξ:=by rfl):d9 X (.builtin "sum") (rN X.K jv):=by
 intro pins s σ H vs us Q I rv h;obtain⟨ρ,xs,c,W,rx,p⟩:=h;unfold jv at p;split at p
 ·split at p
  ·rename_i is hb;obtain⟨v,r,rfl,⟨a,ys,rfl,s1,r1⟩,hr⟩:=rx;cases hr;rw[Az hb]at r1;cases r1.Ay;exact alJ hc pins s σ H _ us Q I rv ⟨a,is,rfl,bD.of s1.1,p.here W rfl⟩
  ·exact p.elim
 ·exact p.elim
theorem vals3{a b c:V}{us:List Γ}(h:Vals [a,b,c] us):∃u v w,us=[u,v,w]/\RelV a u/\RelV b v/\RelV c w:=by
 cases h with
 |cons h1 h =>
  cases h with
  |cons h2 h =>
   cases h with
   |cons h3 h=>cases h;exact⟨_,_,_,rfl,h1,h2,h3⟩
theorem Yp{K:Ω}{ρ:List Θ}{H:Hp}{a b c:D}{vs:List V}(h:aK K ρ H [a,b,c] vs):∃u v w,vs=[u,v,w]/\Rel K ρ H a u/\Rel K ρ H b v/\Rel K ρ H c w:=by
 obtain⟨u,r,rfl,h1,v,r',rfl,h2,w,r'',rfl,h3,h4⟩:=h;cases h4;exact⟨u,v,w,rfl,h1,h2,h3⟩
section
variable (c:aa)
@[simp] theorem sum_ints(l:List Int):jv [.lst (l.map D.int)] c=.ok (.int l.sum) c:=by
 unfold jv;simp[xQ]
end
def Ck(hi:Int) (n:Nat):It:=⟨λi _=>i<n,λi H x H'=>H'=H/\x=.int (hi-i),λi _=>n<=i⟩
theorem UE{P:υ}{w:ψ}{K:Ω}{tg:ο}(it:Θ) (hi:Int) (n:Nat):Turn P w K tg (Ck hi n) [it] it (λi h=>ahC h it (hi+(i:Nat)*(-1)) ((n:Int)-(i:Nat)) (-1)) where
 mem:=by simp
 obj:=λi h st b hb=>by
  have e:b=it:=by simpa using hb
  subst e;exact⟨_,st,λv z=>by
   have z':Data.fields _=Data.cell v:=z;cases z'⟩
 keep:=λi h h' st k=>k it (by simp) _ st
 item:=by
  intro X hP hw hK hc i pins s σ H E I hf st hg;subst hP hw hK;obtain⟨f0,f1,f2,f3,f4,f5⟩:=hf it (by simp)
  have W:=Walks.range (prog:=X.prog) (w:=X.w) (I.ok.hd hc) it hi (-1) n;refine W.item i s _ _ hg st λv h' tk hv st' kk=>?_
  obtain⟨t,rfl⟩:=hv;have I1:Inv X pins σ H {s with heap:=h',toks:=tk}:=I.turned (λb o hb e=>kk b o (by simpa using hb) e) f0 f1 f3 f4 f5
  refine⟨_,rfl,AQ (s:={s with heap:=h',toks:=tk}) (n:="range_iterator") st' rfl rfl (by decide) ⟨.int (hi-i),H,I1,⟨t,?_⟩,⟨rfl,rfl⟩,st',λb hb=>(hf b hb).1⟩⟩
  congr 1
  omega
 done:=by
  intro X hP hw hK hc i pins s σ H E I hf st hg;subst hP hw hK;obtain⟨f0,f1,f2,f3,f4,f5⟩:=hf it (by simp)
  exact at7 (I.ok.hd hc) st (by have:n<=i:=hg;omega) λh' eb=>⟨rfl,I.turned (t':=s.toks) (λb o hb e=>eb b o hb e) f0 f1 f3 f4 f5⟩
 self:=λ_ _ _ _ _ st h=>at8 st h
theorem as8(a b:Int):Builtin.Range.rangeSize a b (-1)=if b<a then a-b else 0:=by
 unfold Builtin.Range.rangeSize;rw[if_neg (by decide)]
 simp only[show(-(-1):Int)=1 by decide,Int.ediv_one]
 split<;>omega
theorem small_down{hi lo:Int}(h1:-(2^62)<=lo) (h2:lo<2^62) (h3:-(2^62)<=hi) (h4:hi<2^62):Builtin.Range.small hi lo (-1)=ξ:=by
 unfold Builtin.Range.small;rw[as8];simp only[Builtin.Range.rangeFitsLong,apN,aq8,decide_eq_true_eq,beq_iff_eq,show ¬((-1:Int)>0) by decide,if_false]
 split<;>omega
def jJ(hi lo:Int):List D:=(θ (hi-lo).toNat).map fun(i:Nat)=>D.int (hi-(i:Int))
def uS(a:aj):Ev->aa->R Src:=λe c=>(a e c).bind λxs c=>match xs with
 |[.int i,.int j,.int s]=>if s = -1/\-(2^62)<=i/\i<2^62/\-(2^62)<=j/\j<2^62 then .ok ⟨jJ i j,λ_=>True⟩ c else .bad
 |_=>.bad
section
variable {X:Cx}{tg:ο}{K:Ω}{ρ:List Θ}{H:Hp}
theorem ajj{pins:List (Θ×Obj)}{σ:St}{H:Hp}{s:ε}{R:It->Hp->Prop}{E:Γ->ε->Prop}{lo hi:Int}{t u v:Tok}{tk:Nat}(I:Inv X pins σ H s) (h1:-(2^62)<=lo) (h2:lo<2^62) (h3:-(2^62)<=hi) (h4:hi<2^62)
  (q:R (Ck hi (hi-lo).toNat) H):wpAny (model X.prog X.w) X.A (pyIter (.ref s.heap.objs.size)) (Kf X pins σ tg R) E {s with heap:=s.heap.push {cls:=.type "range",data:=.fields #[.int hi t,.int lo u,.int (-1) v]},toks:=tk}:=by
 refine wpAny_pyIter_range (IsRange.new ..) (small_down h1 h2 h3 h4) ?_;have I1:Inv X pins σ H {s with heap:=s.heap.push {cls:=.type "range",data:=.fields #[.int hi t,.int lo u,.int (-1) v]},toks:=tk}:=I.kept λb o e=>apt _ e
 refine⟨(s.heap.push {cls:=.type "range",data:=.fields #[.int hi t,.int lo u,.int (-1) v]}).objs.size,[(s.heap.push {cls:=.type "range",data:=.fields #[.int hi t,.int lo u,.int (-1) v]}).objs.size],_,_,H,rfl,
  I1.kept (t':=tk) λb o e=>apt _ e,UE _ hi (hi-lo).toNat,?_,λb hb=>?_,q⟩
 ·have e1:hi+((0:Nat):Int)*(-1)=hi:=by simp
  have e2:(((hi-lo).toNat:Nat):Int)-((0:Nat):Int)=Builtin.Range.rangeSize hi lo (-1):=by rw[as8];split<;>omega
  show ahC _ _ (hi+((0:Nat):Int)*(-1)) ((((hi-lo).toNat:Nat):Int)-((0:Nat):Int)) (-1);rw[e1,e2];exact apF _ rfl
 ·have e:b=(s.heap.push {cls:=.type "range",data:=.fields #[.int hi t,.int lo u,.int (-1) v]}).objs.size:=by simpa using hb
  subst e;exact I1.yc (aps _) (I1.hok.fresh (aps _))
theorem agF{lo hi:Int}{st:aa->Prop}:JS K ρ H ⟨jJ hi lo,st⟩ (Ck hi (hi-lo).toNat):=by
 intro ρ' H' c' W E s i;refine⟨λd hd=>?_,λe=>?_⟩
 ·have hd:(jJ hi lo)[i]? = ζ d:=hd;unfold jJ at hd;rw[apM,Option.map_eq_some_iff]at hd;obtain⟨k,hk,rfl⟩:=hd;obtain⟨h1,h2⟩:=apK.mp hk;rw[asr]at h2;subst h2;have h1:i<(hi-lo).toNat:=by simpa using h1
  refine⟨h1,λx H2 hy=>?_⟩
  obtain⟨rfl,rfl⟩:=hy;exact⟨W,Ext.refl,rfl⟩
 ·have:(jJ hi lo).length=(hi-lo).toNat:=by simp[jJ]
  show(hi-lo).toNat<=i;rw[e];exact aqM this.symm
def ag7(ta:TA):TI:=λσ H R=>ta σ H λvs H1=>∃i j:Int,vs=[.int i,.int j,.int (-1)]/\(-(2^62)<=i/\i<2^62/\-(2^62)<=j/\j<2^62)/\R (Ck i (i-j).toNat) H1
theorem aar{a b c:ο}{ta:TA}{p pos:Pos}(hg:Gl X "range") (hm:X.mg "range"=η) (ha:PA X [a,b,c] ta) (hs:μ [a,b,c] X.env=(Δ,eval a X.env)::μ [b,c] X.env:=by exact cR rfl) (hs2:(aea pos (μ [b,c] X.env)).any (·.1)=Δ:=by exact e9 rfl) :
  PI X tg (.Call (.Name "range" p) [a,b,c] [] pos) (ag7 ta):=by
 intro pins s σ H R I h;refine Call_ (kQ I hg hm boot_range (aqT (bw (ha pos pins s σ H _ I h) λus s1 ⟨vs,H1,I1,r1,q1⟩=>?_) hs hs2))
 obtain⟨i,j,e,⟨q1,q2,q3,q4⟩,q⟩:=q1;subst e;obtain⟨u,v,w,rfl,⟨t1,rfl⟩,⟨t2,rfl⟩,⟨t3,rfl⟩⟩:=vals3 r1;exact call_range_3 (by decide) (ajj I1 q3 q4 q1 q2 q) (.inl (at9 (by decide)))
theorem ag3{a b c:ο}{da:aj}{p pos:Pos}(ha:eZ X [a,b,c] da) (hm:X.mg "range"=η) (hg:Gl X "range":=by rfl) (hs:μ [a,b,c] X.env=(Δ,eval a X.env)::μ [b,c] X.env:=by exact cR rfl) (hs2:(aea pos (μ [b,c] X.env)).any (·.1)=Δ:=by exact e9 rfl):PId X tg (.Call (.Name "range" p) [a,b,c] [] pos) (uS da) :=
 (aar hg hm ha hs hs2).imp λσ H Q h=>by
  obtain⟨ρ,e,c,W,V,p⟩:=h;refine⟨ρ,e,c,W,V,post.bind p λx c1 aL H1 v _ W1 X1 r1 p1=>?_⟩
  split at p1
  ·rename_i i j s _;split at p1
   ·rename_i hj;obtain⟨rfl,hj⟩:=hj;obtain⟨u,v,w,rfl,ru,rv,rw'⟩:=Yp r1;cases ru;cases rv;cases rw';exact⟨i,j,rfl,hj,p1.here W1 agF⟩
   ·exact p1.elim
  ·exact p1.elim
end
section
variable (e:Ev) (c:aa) (l:aj)
@[simp] theorem anG:uS l e c=(l e c).bind λxs c=>match xs with
 |[.int i,.int j,.int s]=>if s = -1/\-(2^62)<=i/\i<2^62/\-(2^62)<=j/\j<2^62 then .ok ⟨jJ i j,λ_=>True⟩ c else .bad
 |_=>.bad:=rfl
end
theorem aK.rep{K:Ω}{ρ:List Θ}{H:Hp}{l:List D}{xs:List V}(r:aK K ρ H l xs):∀n:Nat,aK K ρ H (π n l).flatten (π n xs).flatten
 |0=>rfl
 |n+1=>by
  rw[aqK,aqK,aqU,aqU];exact aK.append r (aK.rep r n)
def kD:D->D->aa->R D:=λx y c=>match x,y with
 |.lst l,.int k=>if -(2^63)<=k/\k<2^63/\l.length*k.toNat<=ι/\bN l=ξ then .ok (.ref c.length) (c++[.lst (π k.toNat l).flatten])else .bad
 |_,_=>.bad
theorem Nr{l:List D}(h:bN l=ξ):∀n:Nat,bN (π n l).flatten=ξ
 |0=>by simp
 |n+1=>by rw[aqK,aqU,xm,h,Nr h n];rfl
theorem M0{X:Cx}:bW X (binaryOp .Mult) (r2 X.K kD):=by
 intro pins s σ H v u vv uu Q I rv ru h;obtain⟨ρ,x,y,c,W,rx,ry,p⟩:=h;unfold kD at p;split at p
 ·split at p
  ·rename_i hl;obtain⟨a,xs,rfl,sa,ra⟩:=rx;cases ry;exact abo pins s σ H _ _ vv uu Q I rv ru ⟨a,_,xs,rfl,rfl,sa.1,hl.1,hl.2.1,by rw[ra.length];exact hl.2.2.1,DS W (Nr hl.2.2.2 _) (aK.rep ra _) p⟩
  ·exact p.elim
 ·exact p.elim
def jg(o a:af):af:=λe c=>(o e c).bind λx c=>match x with
 |.ref k=>(a e c).bind λy c=>match y with
  |.lst m=>match c[k]? with
   |some (.lst l)=>if l.length+m.length<=ι/\bN m=ξ then .ok .aH (c.set k (.lst (l++m)))else .bad
   |none=>.bad
  |_=>.bad
 |_=>.bad
theorem DB{X:Cx}{o e:ο}{dO da:af}{apos cpos:Pos}(ho:bh X o dO) (ha:bh X e da)
  (hbase:ahd o "extend" X.env (eval o X.env)=eval o X.env:=by rfl)
  (hfew:((aea cpos (μ [e] X.env)).all (λx=>!x.1)&&(aho cpos (agr [] X.env)).all (λx=>x.1.isSome)
   && decide ([e].length+([]:List agI).length+(if([]:List agI).isEmpty then 0 else 1)<30))=ξ:=by exact zo rfl)
  (hline:(apos.endLine==cpos.line)=ξ:=by rfl) (hs:μ [e] X.env=(Δ,eval e X.env)::μ [] X.env:=by exact cR rfl) (hplain:(aea cpos (μ [] X.env)).any (·.1)=Δ:=by exact e9 rfl) :
  bh X (.Call (.Attribute o "extend" apos) [e] [] cpos) (jg dO da) :=
 (zS as7 PySem.F.slot_list_extend PySem.F.type_list_extend ae9 ho (i9 ha jB hs) hbase hfew hline hs hplain).imp λσ H Q h=>by
  obtain⟨ρ,e,c,W,V,p⟩:=h;refine⟨ρ,e,c,W,V,post.bind p λx c1 aL H1 v _ W1 X1 r1 p1=>?_⟩
  cases x with
  |ref k =>
   obtain⟨a,rfl,ha⟩:=r1;obtain⟨xs,hx⟩:=W1.at' (apT ha);refine⟨.inl ⟨rfl,xs,bD.of hx⟩,aL,e,c1,W1,V.mono W X1,post.bind p1 λy c2 c8 H2 u _ W2 X2 r2 p2=>?_⟩
   cases y with
   |lst m =>
    obtain⟨b,zs,rfl,sb,rb⟩:=r2;dsimp only at p2;split at p2
    ·rename_i l hl;split at p2
     ·rename_i hh;obtain⟨nr,ys,hy,rl⟩:=W2.fP k a _ (X2.pre k a ha) hl;refine⟨a,b,ys,zs,rfl,rfl,hy,sb.1,by rw[rl.length,rb.length];exact hh.1,?_⟩
      refine p2 c8 _ .aH (W2.write (X2.pre k a ha) (by rw[xm,nr,hh.2];rfl) (rl.append rb)) (Ext.write (X2.pre k a ha)) rfl
     ·exact p2.elim
    ·exact p2.elim
   |_=>exact p2.elim
  |_=>exact p1.elim
section
variable (e:Ev) (c:aa) (o a:af)
@[simp] theorem TM(m:List D) (k:Int):kD (.lst m) (.int k) c=if -(2^63)<=k/\k<2^63/\m.length*k.toNat<=ι/\bN m=ξ then .ok (.ref c.length) (c++[.lst (π k.toNat m).flatten])else .bad:=rfl
end
theorem oY{α:Type}{st:aa->Prop}{g:Gd}{s:ah}(C:Nat->aa) (E:Nat->α->Ev):∀(items:List D) (k:Nat) (v:α),(∀i,i<=items.length->st (C (k+i))) ->
  (∀i x,items[i]? = ζ x->∀v,∃e',g x (E (k+i) v) (C (k+i))=.ok e' (C (k+i))/\∃v',s e' (C (k+i))=.ok (.nx (E (k+i+1) v')) (C (k+i+1))) ->
  ∃v',dR st g s items (E k v) (C k)=.ok (.nx (E (k+items.length) v')) (C (k+items.length))
 |[],k,v,hst,_=>⟨v,by
   have:=hst 0 (aps _);rw[arv]at this;unfold dR;rw[if_pos this];rfl⟩
 |x::xs,k,v,hst,h=>by
  obtain⟨e',h1,v',h2⟩:=h 0 x rfl v;obtain⟨v2,h3⟩:=oY C E xs (k+1) v' (λi hi=>by
   have:=hst (i+1) (by simp only[apL];omega)
   rwa[show k+(i+1)=k+1+i by omega]at this) (λi y hy v=>by
   have:=h (i+1) y (by simpa using hy) v
   rwa[show k+(i+1)=k+1+i by omega]at this)
  refine⟨v2,?_⟩;unfold dR;rw[if_pos (by have:=hst 0 (aqm _);exact this)]
  rw[arv]at h1 h2;rw[h1,R.aA,h2];simp only[R.aA];rw[h3,apL,show k+(xs.length+1)=k+1+xs.length by omega]
theorem uL{α:Type}{g:Gd}{s:ah}(C:Nat->aa) (E:Nat->α->Ev) {N:Int}{n:Nat}(hN:N=n) (v:α)
  (h:∀i,i<n->∀v,∃e',g (.int (i:Nat)) (E i v) (C i)=.ok e' (C i)/\∃v',s e' (C i)=.ok (.nx (E (i+1) v')) (C (i+1))) :
  ∃v',dR (λ_=>True) g s (bf 0 N) (E 0 v) (C 0)=.ok (.nx (E n v')) (C n):=by
 have hl:(bf 0 N).length=n:=by rw[fM];omega
 have:=oY (st:=λ_=>True) C E (bf 0 N) 0 v (λ_ _=>trivial) (λi x hx v=>by
  obtain⟨h1,rfl⟩:=zD hx;rw[ap0,Int.zero_add];exact h i (by omega) v)
 rwa[hl,ap0]at this
theorem Gi{c:aa}{l:List D}{i:Int}{j:Nat}{d:D}(hi:i=j) (h:l[j]? = ζ d):aE (.ref c.length) (.int i) (c++[.lst l])=.ok d (c++[.lst l]):=by
 subst hi;unfold aE fS;simp only[as9];have:=g8 (xs:=l) (j:=j) (v:=d) h;rw[this]
theorem LZ{c:aa}{l:List D}{i:Int}{j:Nat}{d:D}(hi:i=j) (h:j<l.length) (hd:noRef d=ξ):lD (.ref c.length) (.int i) d (c++[.lst l])=.ok () (c++[.lst (l.set j d)]):=by
 subst hi;unfold lD;simp[gu,h,hd]
def allInts:List ο->Option (List Int)
 |[]=>ζ []
 |e::r=>match e with
  |.Constant (.int i) _ _=>(allInts r).map (i :: ·)
  |_=>η
def fG(l:List Int):aj:=λ_ c=>.ok (l.map D.int) c
theorem oi{X:Cx}:∀{es:List ο}{l:List Int},allInts es=ζ l->eZ X es (fG l)
 |[],l,h=>by cases h;exact aB
 |e::es,l,h=>by
  unfold allInts at h;split at h
  ·rename_i i j pos;cases q:allInts es with
   |none=>rw[q]at h;cases h
   |some r =>
    rw[q]at h;cases h;exact ay aX (oi q) (cR rfl)
  ·cases h
@[simp] theorem x_ints(l:List Int) (e:Ev) (c:aa):fG l e c=.ok (l.map D.int) c:=rfl
abbrev Up(l:List Nat):Prop:=l.Pairwise (· < ·)
theorem getD_list(xs:Array Nat) (i d:Nat):xs.getD i d=xs.toList.getD i d:=by
 simp[auu,apD]
theorem vS{l:List Nat}(h:Up l) {i k:Nat}(hik:i<k) (hk:k<l.length):l.getD i 0<l.getD k 0:=by
 have:=ara.mp h i k (by omega) hk hik
 simpa[apD,apw hk,apw (show i<l.length by omega)]using this
def Parts(l:List Nat) (j p:Nat):Prop:=p<=l.length/\(∀i,i<p->l.getD i 0<j)/\∀i,p<=i->i<l.length->j<=l.getD i 0
theorem J1{xs:Array Nat}{j:Nat}(h:Up xs.toList):∀fuel lo hi,lo<=hi->hi<=xs.toList.length->hi-lo<=fuel->(∀i,i<lo->xs.toList.getD i 0<j)->(∀i,hi<=i->i<xs.toList.length->j<=xs.toList.getD i 0) ->
  Parts xs.toList j (SetTable.below.go xs j fuel lo hi)
 |0,lo,hi,h1,h2,h3,h4,h5=>⟨by unfold SetTable.below.go;omega,λi hi'=>h4 i (by unfold SetTable.below.go at hi';exact hi'),λi hi'=>h5 i (by unfold SetTable.below.go at hi';omega)⟩
 |fuel+1,lo,hi,h1,h2,h3,h4,h5=>by
  unfold SetTable.below.go
  by_cases hl:lo<hi
  ·rw[if_pos hl];dsimp only;have hm:(lo+hi)/2<xs.toList.length:=by omega
   have he:xs.getD ((lo+hi)/2) j=xs.toList.getD ((lo+hi)/2) 0:=by
    rw[getD_list];simp[apD,apw hm]
   rw[he]
   by_cases hc:xs.toList.getD ((lo+hi)/2) 0<j
   ·rw[if_pos hc];refine J1 h fuel _ _ (by omega) h2 (by omega) (λi hi'=>?_) h5
    by_cases hq:i=(lo+hi)/2
    ·rw[hq];exact hc
    ·exact atb (vS h (show i<(lo+hi)/2 by omega) hm) hc
   ·rw[if_neg hc];refine J1 h fuel _ _ (by omega) (by omega) (by omega) h4 (λi hi' hl'=>?_)
    by_cases hq:i=(lo+hi)/2
    ·rw[hq];omega
    ·exact apW (by omega) (aqG (vS h (show(lo+hi)/2<i by omega) hl'))
  ·rw[if_neg hl];exact⟨by omega,h4,λi hi'=>h5 i (by omega)⟩
theorem B8{xs:Array Nat}(h:Up xs.toList) (j:Nat):Parts xs.toList j (SetTable.below xs j):=by
 unfold SetTable.below;exact J1 h _ _ _ (aqm _) (by simp) (by simp) (λi hi=>absurd hi (asv _)) (λi h1 h2=>by simp at h2;omega)
theorem al0{xs:Array Nat}(h:Up xs.toList):SetTable.below xs 0=0:=by
 obtain⟨_,h2,_⟩:=B8 h 0
 rcases atd (SetTable.below xs 0)with e|e
 ·exact e
 ·exact absurd (h2 0 e) (asv _)
theorem al1{xs:Array Nat}(h:Up xs.toList) {i:Nat}(hi:i<xs.toList.length):SetTable.below xs (xs.toList.getD i 0+1)=i+1:=by
 obtain⟨h1,h2,h3⟩:=B8 h (xs.toList.getD i 0+1)
 rcases asw (SetTable.below xs (xs.toList.getD i 0+1)) (i+1)with e|e|e
 ·have:=h3 i (by omega) hi;omega
 ·exact e
 ·have a:=h2 (i+1) e;have b:=vS h (show i<i+1 by omega) (show i+1<xs.toList.length by omega)
  omega
theorem J0{xs:Array Nat}(h:Up xs.toList) {j:Nat}(hj:j∈xs.toList):xs[SetTable.below xs j]? = ζ j:=by
 obtain⟨i,hi,e⟩:=aqQ hj;obtain⟨h1,h2,h3⟩:=B8 h j;have e':xs.toList.getD i 0=j:=by rw[apD,apw hi];exact e
 have hp:SetTable.below xs j=i:=by
  rcases asw (SetTable.below xs j) i with q|q|q
  ·have a:=h3 (SetTable.below xs j) (aps _) (by omega)
   have b:=vS h q hi;omega
  ·exact q
  ·have a:=h2 i q;omega
 rw[hp,<-ap2,apw hi,e]
theorem K0{xs:Array Nat}(h:Up xs.toList) {j:Nat}(hj:j∉xs.toList):Up (SetTable.insertAt xs (SetTable.below xs j) j).toList:=by
 rw[asx];obtain⟨h1,h2,h3⟩:=B8 h j
 generalize SetTable.below xs j=p at h1 h2 h3
 have ht:∀a∈xs.toList.take p,a<j:=by
  intro a ha;obtain⟨i,hi,e⟩:=aqQ ha;have hi':i<p/\i<xs.toList.length:=by simp at hi ⊢;omega
  have:=h2 i hi'.1;rw[asu]at e;rw[apD,apw hi'.2]at this
  simpa[<-e]using this
 have hd:∀a∈xs.toList.drop p,j<a:=by
  intro a ha;have hm:a∈xs.toList:=asy ha;obtain⟨i,hi,e⟩:=aqQ ha;have hi':p+i<xs.toList.length:=by simp at hi ⊢;omega
  have:=h3 (p+i) (by omega) hi'
  rw[List.getElem_drop]at e;rw[apD,apw hi']at this;have hle:j<=a:=by simpa[<-e]using this
  exact Nat.lt_of_le_of_ne hle λq=>hj (q▸hm)
 refine List.pairwise_append.mpr ⟨h.sublist (asf _ _),aqX.mpr ⟨hd,h.sublist (List.drop_sublist _ _)⟩,λa ha b hb=>?_⟩
 rcases apu.mp hb with rfl|hb
 ·exact ht a ha
 ·exact atb (ht a ha) (hd b hb)
theorem Dy:∀(n:Nat) (l:List Nat),(∀j,j<n->j∈l)->n<=l.length
 |0,_,_=>aqm _
 |n+1,l,h=>by
  have hn:=h n (aqp _);have:=Dy n (l.erase n) λj hj=>(ate (by omega)).mpr (h j (by omega))
  rw[atf hn]at this;have:=auv hn;omega
def gy(mask:Nat):Nat->Nat->Nat->Nat->Nat->Nat->Bool
 |0,_,_,_,_,_=>Δ
 |n+1,j,more,i,q,acc =>
  if acc |||(1 <<< j)=2^(mask+1)-1 then ξ
  else if more>0 then gy mask n (j+1) (more-1) i q (acc |||(1 <<< j))
  else gy mask n ((i*5+1+q/32) % (mask+1)) (SetTable.runEnd mask ((i*5+1+q/32) % (mask+1))-(i*5+1+q/32) % (mask+1)) ((i*5+1+q/32) % (mask+1)) (q/32) (acc |||(1 <<< j))
def B3(mask:Nat):Bool:=(θ 128).all λh=>gy mask (10*(mask+15)) (h % (mask+1)) (SetTable.runEnd mask (h % (mask+1))-h % (mask+1)) (h % (mask+1)) h 0
def pA(mask:Nat):Nat->Nat->Nat->Nat->Bool
 |0,_,_,_=>Δ
 |n+1,i,q,acc =>
  if acc |||((2^(SetTable.runEnd mask i+1-i)-1) <<< i)=2^(mask+1)-1 then ξ
  else pA mask n ((i*5+1+q/32) % (mask+1)) (q/32) (acc |||((2^(SetTable.runEnd mask i+1-i)-1) <<< i))
def IQ(mask:Nat):Bool:=(θ 128).all λh=>pA mask (mask+15) (h % (mask+1)) h 0
theorem ale:B3 7=ξ:=by decide +kernel
theorem alf:B3 31=ξ:=by decide +kernel
theorem alg:B3 127=ξ:=by decide +kernel
theorem alc:IQ 31=ξ:=by decide +kernel
theorem ald:IQ 127=ξ:=by decide +kernel
theorem B7(acc j k:Nat):(acc |||(1 <<< j)).testBit k=(acc.testBit k||decide (k=j)):=by
 rw[Nat.testBit_or,Nat.one_shiftLeft,Nat.testBit_two_pow]
 by_cases h:j=k
 ·subst h;simp
 ·simp[h,aqh h]
theorem B0{mask:Nat}:∀n j more i q acc,gy mask n j more i q acc=ξ->∀k,acc.testBit k=ξ->k<=mask
 |0,_,_,_,_,_,h,_,_=>by cases h
 |n+1,j,more,i,q,acc,h,k,hk=>by
  have hk':(acc |||(1 <<< j)).testBit k=ξ:=by rw[B7,hk];rfl
  unfold gy at h;split at h
  ·rename_i e;rw[e,arx]at hk';have:=of_decide_eq_true hk';omega
  ·split at h
   ·exact B0 _ _ _ _ _ _ h k hk'
   ·exact B0 _ _ _ _ _ _ h k hk'
theorem C2{t:ω}(hd:t.dummies=#[]) (j:Nat):t.slot j=.empty\/∃i,t.slot j=.live i:=by
 unfold SetTable.slot;dsimp only;split
 ·exact .inr ⟨_,rfl⟩
 ·rw[hd];exact .inl rfl
theorem GO{t:ω}{h:Int}(hd:t.dummies=#[]):∀n (p:SetTable.Probe) acc fuel,gy t.mask n p.j p.more p.i p.perturb acc=ξ->p.dummy=η->n<=fuel ->
  (∀k,acc.testBit k=ξ->t.slot k≠.empty)->(∃j,j<=t.mask/\t.slot j=.empty) ->
  ∃j,SetTable.probe.go t (λ_=>h+1) h fuel p=ζ (.empty j η)/\t.slot j=.empty/\j<=t.mask
 |0,_,_,_,h,_,_,_,_=>by simp[gy]at h
 |n+1,p,acc,0,_,_,h,_,_=>by omega
 |n+1,p,acc,fuel+1,hc,hn,hf,ha,hj=>by
  have hle:p.j<=t.mask:=by
   have hk':(acc |||(1 <<< p.j)).testBit p.j=ξ:=by rw[B7];simp
   unfold gy at hc;split at hc
   ·rename_i e;rw[e,arx]at hk';have:=of_decide_eq_true hk';omega
   ·split at hc
    ·exact B0 _ _ _ _ _ _ hc _ hk'
    ·exact B0 _ _ _ _ _ _ hc _ hk'
  unfold SetTable.probe.go
  rcases C2 hd p.j with e|⟨i,e⟩
  ·rw[e];dsimp only;exact⟨p.j,by rw[hn],e,hle⟩
  ·rw[e];dsimp only;have hne:(h+1==h)=Δ:=by simp;omega
   rw[hne];simp only[apX,if_false];have ha':∀k,(acc |||(1 <<< p.j)).testBit k=ξ->t.slot k≠.empty:=by
    intro k hk;rw[B7,aq8,decide_eq_true_eq]at hk
    rcases hk with hk|rfl
    ·exact ha k hk
    ·rw[e];intro q;cases q
   unfold gy at hc;split at hc
   ·rename_i ef;obtain⟨j0,h0,e0⟩:=hj;exact absurd e0 (ha' j0 (by rw[ef,arx];exact decide_eq_true (by omega)))
   ·split at hc
    ·rename_i hm;have qD:t.advance p={p with j:=p.j+1,more:=p.more-1}:=by unfold SetTable.advance;rw[if_pos hm]
     rw[qD];exact GO hd n _ _ fuel hc hn (by omega) ha' hj
    ·rename_i hm;have qD:t.advance p={p with j:=(p.i*5+1+p.perturb/32) % (t.mask+1),more:=SetTable.runEnd t.mask ((p.i*5+1+p.perturb/32) % (t.mask+1))-(p.i*5+1+p.perturb/32) % (t.mask+1),i:=(p.i*5+1+p.perturb/32) % (t.mask+1),perturb:=p.perturb/32}:=by
      unfold SetTable.advance;rw[if_neg hm];rfl
     rw[qD];exact GO hd n _ _ fuel hc hn (by omega) ha' hj
theorem RL{n:Nat}(h:n<128):SetTable.bits (n:Int)=n:=by
 unfold SetTable.bits;have:((n:Int) % (2^64:Int))=n:=auw (by omega) (by omega)
 rw[this];rfl
def qh(m:Nat):Prop:=m=7\/m=31\/m=127
theorem ala{m:Nat}(h:qh m) {n:Nat}(hn:n<128):gy m (10*(m+15)) (n % (m+1)) (SetTable.runEnd m (n % (m+1))-n % (m+1)) (n % (m+1)) n 0=ξ:=by
 have:B3 m=ξ:=h.elim (λe=>e▸ale) λh=>h.elim (λe=>e▸alf) λe=>e▸alg
 exact apA.mp this n (apx.mpr hn)
theorem aiA{t:ω}{n:Nat}(hd:t.dummies=#[]) (hm:qh t.mask) (hn:n<128) (hs:t.place.toList.length<=t.mask) (hu:Up t.place.toList) :
  ∃j,t.freeSlot (n:Int)=ζ (j,Δ)/\j∉t.place.toList/\j<=t.mask:=by
 have hmem:∀j,t.slot j=.empty->j∉t.place.toList:=by
  intro j e hj;unfold SetTable.slot at e;dsimp only at e;rw[J0 hu hj]at e;simp at e
 have ahS:∀j,j∉t.place.toList->t.slot j=.empty:=by
  intro j hj
  rcases C2 hd j with e|⟨i,e⟩
  ·exact e
  ·unfold SetTable.slot at e;dsimp only at e;split at e
   ·rename_i q;have:=eq_of_beq q;rw[<-ap2]at this;exact absurd (apT this) hj
   ·split at e<;>cases e
 have hex:∃j,j<=t.mask/\t.slot j=.empty:=by
  by_cases q:∃j,j<=t.mask/\j∉t.place.toList
  ·obtain⟨j,a,b⟩:=q;exact⟨j,a,ahS j b⟩
  ·have:=Dy (t.mask+1) t.place.toList λj hj=>ary λx=>q ⟨j,by omega,x⟩
   omega
 have hb:=RL hn;obtain⟨j,e,e1,e2⟩:=GO (t:=t) (h:=(n:Int)) hd (10*(t.mask+15)) (t.probeStart n) 0 (10*SetTable.turns t.mask)
  (by show gy _ _ (SetTable.bits n % _) (SetTable.runEnd t.mask (SetTable.bits n % (t.mask+1))-SetTable.bits n % (t.mask+1)) (SetTable.bits n % _) (SetTable.bits n) _=ξ;rw[hb];exact ala hm hn) rfl (aps _) (λk hk=>by simp at hk) hex
 refine⟨j,?_,hmem j e1,e2⟩;unfold SetTable.freeSlot SetTable.probe;rw[e];rfl
theorem Yb(c i k:Nat):((2^c-1) <<< i).testBit k=decide (i<=k/\k<i+c):=by
 rw[Nat.testBit_shiftLeft,arx]
 by_cases h:i<=k
 ·simp only[ge_iff_le,h,decide_true,atg,true_and];exact decide_eq_decide.mpr (by omega)
 ·simp[h]
theorem Eh{mask:Nat}{owner:Array (Option Nat)}:∀n i q acc fuel,pA mask n i q acc=ξ->n<=fuel->(∀k,k<=mask->acc.testBit k=ξ->owner.getD k (ζ 0)≠η) ->
  (∃j,j<=mask/\owner.getD j (ζ 0)=η)->∃j,SetTable.layClean.free mask owner fuel i q=ζ j/\owner.getD j (ζ 0)=η
 |0,_,_,_,_,h,_,_,_=>by simp[pA]at h
 |n+1,i,q,acc,0,_,h,_,_=>by omega
 |n+1,i,q,acc,fuel+1,hc,hf,ha,hj=>by
  unfold SetTable.layClean.free;cases hr:(θ (SetTable.runEnd mask i+1-i)).find? (λk=>(owner.getD (i+k) (ζ 0)).isNone)with
  |some k =>
   dsimp only;have:=List.find?_some hr;exact⟨i+k,rfl,by simpa using this⟩
  |none =>
   dsimp only;have hno:=ath.mp hr;have ha':∀k,k<=mask->(acc |||((2^(SetTable.runEnd mask i+1-i)-1) <<< i)).testBit k=ξ->owner.getD k (ζ 0)≠η:=by
    intro k hk hb;rw[Nat.testBit_or,Yb,aq8,decide_eq_true_eq]at hb
    rcases hb with hb|hb
    ·exact ha k hk hb
    ·intro e;have:=hno (k-i) (apx.mpr (by omega))
     rw[show i+(k-i)=k by omega,e]at this
     exact this rfl
   unfold pA at hc;split at hc
   ·rename_i ef;obtain⟨j0,h0,e0⟩:=hj;exact absurd e0 (ha' j0 h0 (by rw[ef,arx];exact decide_eq_true (by omega)))
   ·exact Eh n _ _ _ fuel hc (by omega) ha' hj
def jC(m:Nat):Prop:=m=31\/m=127
theorem alb{m:Nat}(h:jC m) {n:Nat}(hn:n<128):pA m (m+15) (n % (m+1)) n 0=ξ:=by
 have:IQ m=ξ:=h.elim (λe=>e▸alc) λe=>e▸ald
 exact apA.mp this n (apx.mpr hn)
theorem GR:∀(l:List (Option Nat)) (j k:Nat),j<l.length->l.getD j (ζ 0)=η->((l.set j (ζ k)).filterMap id).Perm (k::l.filterMap id)
 |[],_,_,h,_=>absurd h (asv _)
 |x::l,0,k,_,e=>by
  have:x=η:=by simpa using e
  subst this;simp
 |x::l,j+1,k,h,e=>by
  have ih:=GR l j k (by simpa using h) (by simpa using e)
  rw[aqP];cases x with
  |none=>simpa using ih
  |some a =>
   simp only[arJ,id];exact(ih.cons a).trans (List.Perm.swap _ _ _)
theorem GS:∀(l:List (Option Nat)),(∀j,j<l.length->l.getD j (ζ 0)≠η)->(l.filterMap id).length=l.length
 |[],_=>rfl
 |x::l,h=>by
  cases x with
  |none=>exact absurd rfl (h 0 (by simp))
  |some a =>
   have:=GS l λj hj=>by simpa using h (j+1) (by simpa using hj)
   simp[this]
def rC(mask:Nat) (owner:Array (Option Nat)) (k:Nat):Prop:=owner.toList.length=mask+1/\(owner.toList.filterMap id).Perm (θ k)
theorem jG(xs:Array (Option Nat)) (i:Nat) (d:Option Nat):xs.getD i d=xs.toList.getD i d:=by
 simp[auu,apD]
theorem afx{mask:Nat}{owner:Array (Option Nat)}{k n:Nat}(hm:jC mask) (hn:n<128) (I:rC mask owner k) (hk:k<=mask) :
  ∃j,SetTable.layClean.free mask owner (SetTable.turns mask) (SetTable.bits n % (mask+1)) (SetTable.bits n)=ζ j/\rC mask (owner.setIfInBounds j (ζ k)) (k+1):=by
 obtain⟨h1,h2⟩:=I;have hex:∃j,j<=mask/\owner.getD j (ζ 0)=η:=by
  by_cases q:∃j,j<=mask/\owner.getD j (ζ 0)=η
  ·exact q
  ·have:=GS owner.toList λj hj e=>q ⟨j,by omega,by rw[jG];exact e⟩
   have h3:=h2.length_eq;rw[aqj]at h3;omega
 obtain⟨j,e,e1⟩:=Eh (mask+15) _ _ 0 (SetTable.turns mask) (alb hm hn) (aps _) (λk _ hb=>by simp at hb) hex
 refine⟨j,by rw[RL hn];exact e,by simpa using h1,?_⟩
 rw[jG]at e1;have hj:j<owner.toList.length:=by
  rcases arU j owner.toList.length with q|q
  ·exact q
  ·rw[apD,aq9 q]at e1;cases e1
 rw[asz];refine(GR _ j k hj e1).trans ?_;rw[aqY];exact(h2.cons k).trans (asA k _).symm
theorem N8{mask:Nat}(hm:jC mask):∀(hs:List Int) (owner:Array (Option Nat)) (k:Nat),(∀h∈hs,∃n:Nat,h=n/\n<128)->rC mask owner k->k+hs.length<=mask ->
  ∃ow,hs.foldl (λacc h=>(do
   let(owner,k) <-acc
   let j <-SetTable.layClean.free mask owner (SetTable.turns mask) (SetTable.bits h % (mask+1)) (SetTable.bits h)
   pure (owner.setIfInBounds j (ζ k),k+1):Option (Array (Option Nat)×Nat))) (ζ (owner,k))=ζ (ow,k+hs.length)/\rC mask ow (k+hs.length)
 |[],owner,k,_,I,_=>⟨owner,rfl,I⟩
 |h::hs,owner,k,hh,I,hl=>by
  obtain⟨n,e,hn⟩:=hh h (.head _);subst e;simp only[apL]at hl;obtain⟨j,e,I'⟩:=afx hm hn I (by omega)
  obtain⟨ow,e',yR⟩:=N8 hm hs _ (k+1) (λh x=>hh h (.tail _ x)) I' (by omega)
  refine⟨ow,?_,by rw[apL,show k+(hs.length+1)=k+1+hs.length by omega];exact yR⟩
  rw[aq6,apL,show k+(hs.length+1)=k+1+hs.length by omega,<-e']
  congr 1
  show(do let j <-SetTable.layClean.free mask owner (SetTable.turns mask) (SetTable.bits n % (mask+1)) (SetTable.bits n);pure (owner.setIfInBounds j (ζ k),k+1):Option (Array (Option Nat)×Nat))=_
  rw[e];rfl
theorem afz{mask:Nat}(hm:jC mask) (hs:Array Int) (hh:∀h∈hs.toList,∃n:Nat,h=n/\n<128) (hl:hs.toList.length<=mask) :
  ∃ow,SetTable.layClean mask hs=ζ ow/\rC mask ow hs.toList.length:=by
 obtain⟨ow,e,I⟩:=N8 hm hs.toList (Array.replicate (mask+1) η) 0 hh ⟨by simp,by simp⟩ (by omega)
 rw[ap0]at e I;refine⟨ow,?_,I⟩;unfold SetTable.layClean;rw[<-auy];exact congrArg (Option.map (λx:Array (Option Nat)×Nat=>x.1)) e
theorem Ds(l:List (Option Nat)):(θ l.length).filterMap (λj=>l.getD j η)=l.filterMap id:=by
 have:l=(θ l.length).map (λj=>l.getD j η):=by
  apply ati
  ·simp
  ·intro i h1 h2;simp[apD,apw h1]
 conv=>rhs;rw[this]
 rw[List.filterMap_map];rfl
theorem afI{mask:Nat}(hm:jC mask) (f mv:Nat) (led plain:Bool) (hs:Array Int) (hh:∀h∈hs.toList,∃n:Nat,h=n/\n<128) (hl:hs.toList.length<=mask) :
  ∃place order,SetTable.laid mask f mv led plain hs=ζ ({mask:=mask,place:=place,dummies:=#[],finger:=f,led:=led,moves:=mv,plain:=plain},order)/\Up place.toList/\(∀j∈place.toList,j<=mask)/\place.size=hs.size/\order.toList.Perm (θ hs.size):=by
 obtain⟨ow,e,h1,h2⟩:=afz hm hs hh hl;refine⟨(((θ (mask+1)).filterMap λj=>(ow.getD j η).map (j,·)).map (·.1)).toArray,(((θ (mask+1)).filterMap λj=>(ow.getD j η).map (j,·)).map (·.2)).toArray,?_,?_,?_,?_,?_⟩
 ·unfold SetTable.laid;rw[e];rfl
 ·show Up ((((θ (mask+1)).filterMap λj=>(ow.getD j η).map (j,·)).map (·.1)).toArray).toList
  show List.Pairwise _ _;rw[arz];refine auz _ (λa a' hlt b hb b' hb'=>?_) asB
  cases ha:ow.getD a η<;>rw[ha]at hb<;>simp at hb
  cases ha':ow.getD a' η<;>rw[ha']at hb'<;>simp at hb'
  rw[<-hb,<-hb'];exact hlt
 ·intro j hj;simp only[apv,arK,apx]at hj;obtain⟨⟨a,b⟩,⟨c,hc,hq⟩,rfl⟩:=hj;cases ha:ow.getD c η<;>rw[ha]at hq<;>simp at hq
  obtain⟨rfl,_⟩:=hq;omega
 ·have:((θ (mask+1)).filterMap λj=>(ow.getD j η).map (j,·)).length=(ow.toList.filterMap id).length:=by
   rw[<-Ds,h1,<-apC (f:=Prod.snd),atj]
   congr 1
   congr 1
   funext j
   rw[jG];cases ow.toList.getD j η<;>rfl
  rw[apH,apC,this,h2.length_eq,aqj];simp
 ·show(((θ (mask+1)).filterMap λj=>(ow.getD j η).map (j,·)).map (·.2)).Perm _
  have:(((θ (mask+1)).filterMap λj=>(ow.getD j η).map (j,·)).map (·.2))=ow.toList.filterMap id:=by
   rw[<-Ds,h1,atj]
   congr 1
   funext j
   rw[jG];cases ow.toList.getD j η<;>rfl
  rw[this]
  simpa using h2
structure pK (t:ω) (n:Nat):Prop where
 size:t.place.size=n
 up:Up t.place.toList
 le:∀j∈t.place.toList,j<=t.mask
 dm:t.dummies=#[]
 mask:(t.mask=7/\n<=4)\/(t.mask=31/\n<=18)\/(t.mask=127/\n<=76)
 plain:t.plain=ξ
theorem pK.fits{t:ω}{n:Nat}(h:pK t n):t.fits n=ξ:=by
 have:=h.mask;simp only[SetTable.fits,SetTable.fill,h.size,h.dm,apN,beq_self_eq_true,true_and,decide_eq_true_eq];simp only[apH,ap3];omega
theorem UT(led:Bool):pK (.fresh 0 0 led) 0:=⟨rfl,.nil,λj h=>by simp[SetTable.fresh]at h,rfl,.inl ⟨rfl,by omega⟩,rfl⟩
def HS(es:List (Int×Γ)):Prop:=∀e∈es,∃n:Nat,e.1=n/\n<128
theorem afy{t:ω}{es:Array (Int×Γ)}{x:Γ}{m:Nat}(I:pK t es.size) (hm:m<128) (hn:es.size<64) :
  ∃es1 t1,layNew t es (m:Int) x=(es1,t1,Δ,Δ)/\es1.size=es.size+1/\t1.led=t.led/\t1.plain=ξ/\t1.place.size=es1.size/\Up t1.place.toList/\(∀j∈t1.place.toList,j<=t1.mask)/\t1.dummies=#[]/\t1.mask=t.mask/\t1.fits es1.size=ξ:=by
 have hk:=I.mask;have hok:qh t.mask:=by unfold qh;omega
 have hsz:=I.size;obtain⟨j,e,h1,h2⟩:=aiA (t:=t) I.dm hok hm (by simp[hsz];omega) I.up
 have hnd:(if SetTable.has t.dummies j then SetTable.eraseAt t.dummies (SetTable.below t.dummies j)else t.dummies)=#[]:=by
  rw[I.dm];rfl
 have hs1:(SetTable.insertAt es (SetTable.below t.place j) ((m:Int),x)).size=es.size+1:=by
  rw[<-apO,(arA ..).length_eq];simp
 have hs2:(SetTable.insertAt t.place (SetTable.below t.place j) j).size=es.size+1:=by
  rw[<-apO,(arA ..).length_eq];simp[hsz]
 have hfit:(t.put j).1.fits (es.size+1)=ξ:=by
  simp only[SetTable.put,SetTable.fits,SetTable.fill,hnd,hs2,apN,beq_self_eq_true,true_and,decide_eq_true_eq];simp only[apH,ap3];omega
 refine⟨SetTable.insertAt es (SetTable.below t.place j) ((m:Int),x),(t.put j).1,?_,hs1,rfl,I.plain,?_,?_,?_,hnd,rfl,?_⟩
 ·unfold layNew;rw[e];dsimp only;have hp:(t.put j).2=SetTable.below t.place j:=rfl;rw[hp,hs1];unfold SetTable.orStandIn;rw[hfit];rfl
 ·rw[hs1];exact hs2
 ·exact K0 I.up h1
 ·intro k hk';have:k∈(t.place.push j).toList:=(arA t.place (SetTable.below t.place j) j).mem_iff.mp hk';rw[asC,ap1,aqa]at this
  rcases this with q|rfl
  ·exact I.le k q
  ·exact h2
 ·rw[hs1];exact hfit
theorem Yq{t:ω}{es:Array (Int×Γ)}(hp:t.plain=ξ) (hh:HS es.toList) (hm:(t.mask=7/\es.size=5)\/(t.mask=31/\es.size=19)) :
  ∃j7 t2,relayAll t es (SetTable.grown es.size)=(j7,t2,Δ)/\j7.size=es.size/\pK t2 j7.size/\t2.led=t.led:=by
 have hw:∃m,SetTable.sizeAbove (SetTable.grown es.size)-1=m/\((m=31/\es.size=5)\/(m=127/\es.size=19)):=by
  rcases hm with⟨_,e⟩|⟨_,e⟩
  ·rw[e];exact⟨31,by decide,.inl ⟨rfl,rfl⟩⟩
  ·rw[e];exact⟨127,by decide,.inr ⟨rfl,rfl⟩⟩
 obtain⟨m,ew,hq⟩:=hw;have hs:(es.map (·.1)).toList=es.toList.map (·.1):=by simp
 obtain⟨place,order,e,u1,u2,u3,u4⟩:=afI (mask:=m) (by unfold jC;omega) t.finger (t.movedTo m) t.led t.plain (es.map (·.1)) (λh hx=>by
  rw[hs,apv]at hx;obtain⟨y,hy,rfl⟩:=hx;exact hh y hy) (by rw[hs,apC,apO];omega)
 rw[Array.size_map]at u3 u4;have hes:(order.filterMap (es[·]?)).size=es.size:=by
  rw[<-apO,atk];exact((u4.filterMap _).trans (by rw[auA])).length_eq
 have hfit:SetTable.fits {mask:=m,place:=place,dummies:=#[],finger:=t.finger,led:=t.led,moves:=t.movedTo m,plain:=t.plain} es.size=ξ:=by
  simp only[SetTable.fits,SetTable.fill,u3,apN,beq_self_eq_true,true_and,decide_eq_true_eq];simp only[apH,ap3];omega
 refine⟨order.filterMap (es[·]?),{mask:=m,place:=place,dummies:=#[],finger:=t.finger,led:=t.led,moves:=t.movedTo m,plain:=t.plain},?_,hes,?_,?_⟩
 rotate_left
 ·rw[hes];exact⟨u3,u1,u2,rfl,.inr (by show(m=31/\_)\/(m=127/\_);omega),hp⟩
 ·rfl
 ·unfold relayAll SetTable.relaid;rw[ew,e];dsimp only;rw[hes,hfit];have hc:coversAll order es.size=ξ:=by unfold coversAll;exact List.isPerm_iff.mpr u4
  rw[hc];rfl
theorem aiw{t t1:ω}{n:Nat}(I:pK t n) (hm:t1.mask=t.mask) (hs:t1.place.size=n+1) (hd:t1.dummies=#[]) (hn:n<64) :
  (t1.tooFull=ξ->(t1.mask=7/\n+1=5)\/(t1.mask=31/\n+1=19))/\(t1.tooFull=Δ->((t1.mask=7/\n+1<=4)\/(t1.mask=31/\n+1<=18)\/(t1.mask=127/\n+1<=76))):=by
 have hk:=I.mask;have hz:(#[]:Array Nat).size=0:=rfl;simp only[SetTable.tooFull,SetTable.fill,hs,hd,hm,hz,decide_eq_true_eq,decide_eq_false_iff_not];omega
theorem AK{n:Nat}(h:n<128):hashInt (n:Int)=n:=by
 have:((θ 128).all λn=>hashInt (n:Int)==(n:Int))=ξ:=by decide +kernel
 exact eq_of_beq (apA.mp this n (apx.mpr h))
def fH(w:ψ):Bool:=w.params.followText "set-order"
def gf(ns:List Nat) (x:Nat):List Nat:=if x∈ns then ns else ns++[x]
def gG(l:List (Int×Γ)) (ns:List Nat):Prop:=(l.map (·.1)).Perm (ns.map λn:Nat=>(n:Int))/\∀e∈l,∃(n:Nat) (tk:Tok),e=((n:Int),.int n tk)/\n<128
def dw(w:ψ) (h:χ) (a:Θ) (ns:List Nat):Prop:=∃o es ep t,h.get? a=ζ o/\o.ExactSet/\o.data=.set es ep t/\pK t es.size/\t.led = !fH w/\gG es.toList ns
theorem gG.hs{l:List (Int×Γ)}{ns:List Nat}(h:gG l ns):HS l:=λe he=>by
 obtain⟨n,tk,rfl,hn⟩:=h.2 e he;exact⟨n,rfl,hn⟩
theorem gG.len{l:List (Int×Γ)}{ns:List Nat}(h:gG l ns):l.length=ns.length:=by
 have:=h.1.length_eq;simpa using this
theorem gG.mem{l:List (Int×Γ)}{ns:List Nat}(h:gG l ns) (n:Nat):n∈ns↔∃e∈l,e.1=(n:Int):=by
 constructor
 ·intro hn;have:(n:Int)∈l.map (·.1):=h.1.mem_iff.mpr (apv.mpr ⟨n,hn,rfl⟩);obtain⟨e,he,q⟩:=apv.mp this;exact⟨e,he,q⟩
 ·rintro ⟨e,he,q⟩
  have:(n:Int)∈ns.map (λn:Nat=>(n:Int)):=h.1.mem_iff.mp (apv.mpr ⟨e,he,q⟩)
  obtain⟨m,hm,r⟩:=apv.mp this;have:m=n:=by omega
  exact this▸hm
theorem gG.perm{l l':List (Int×Γ)}{ns:List Nat}(h:gG l ns) (p:l'.Perm l):gG l' ns:=⟨(p.map _).trans h.1,λe he=>h.2 e (p.mem_iff.mp he)⟩
theorem gG.push{l:List (Int×Γ)}{ns:List Nat}(h:gG l ns) {m:Nat}(hm:m<128) (tk:Tok):gG (l++[((m:Int),.int m tk)]) (ns++[m]):=by
 refine⟨?_,λe he=>?_⟩
 ·rw[aqZ,aqZ];exact h.1.append_right _
 ·rcases ap1.mp he with he|he
  ·exact h.2 e he
  ·rw[aqa]at he;exact⟨m,tk,he,hm⟩
section
variable {prog:υ}{w:ψ}{A:acr}{E:Γ->ε->Prop}{s:ε}
theorem gG.els{l:List (Int×Γ)}{ns:List Nat}(h:gG l ns):ElemsOf (intKind prog w) l:=λe he=>by
 obtain⟨n,tk,rfl,hn⟩:=h.2 e he;exact⟨⟨n,by simp[intKind,Value.isInt],(AK hn).symm⟩,rfl⟩
theorem zO{h:χ}{a:Θ}{o:Obj}{es es':Array (Int×Γ)}{ep:Nat}{t t':ω}(ho:h.get? a=ζ o) (hd:o.data=.set es ep t) :
  (h.update a (Obj.putSet es' t')).get? a=ζ {o with data:=.set es' (ep+1) t'}:=by
 have:=arO (Obj.putSet es' t') ho (by rw[putSet_of es' t' hd];rfl)
 rwa[putSet_of es' t' hd]at this
theorem L0{a:Θ}{ns:List Nat}{m:Nat}{tk:Tok}{Q:Bool->ε->Prop}(hm:m<128) (hS:dw w s.heap a ns) (hn:ns.length<64)
  (h:∀b h',aeC a s.heap h'->dw w h' a (gf ns m)->Q b {s with heap:=h'}):wpAny (model prog w) A (setAddHashed a (.int m tk) (hashInt m)) Q E s:=by
 obtain⟨o,es,ep,t,ho,hex,hd,hI,hl,hs⟩:=hS;have hsz:es.size=ns.length:=by rw[<-apO];exact hs.len
 have hel:ElemsOf (intKind prog w) es.toList:=hs.els;have hkey:(intKind prog w).is (m:Int) (.int m tk)=ξ:=by simp[intKind,Value.isInt]
 unfold setAddHashed setAddHashedIn;refine aqk (apq (aqz ho hd hI.fits ?_));dsimp only;rw[byScan_of (knd:=intKind prog w) rfl (by unfold scanBound;omega) hel]
 simp only[↓reduceIte];unfold setAddByScan;refine apq (apq (asj (apq (wpAny_setScan_of (knd:=intKind prog w) hkey ho hd hI.fits hel ?_))));have hfind:∀e∈es.toList,(intKind prog w).is (m:Int) e.2=ξ->e.1=(m:Int):=λe he q=>by
  obtain⟨n,tk',rfl,_⟩:=hs.2 e he;obtain⟨t',q⟩:=arI (show Value.isInt (m:Int) (.int (n:Int) tk')=ξ from q)
  injection q
 cases hr:es.toList.findIdx? (λe=>(intKind prog w).is (m:Int) e.2)with
 |some j =>
  dsimp only;obtain⟨hj,hpj,_⟩:=atl.mp hr;have hmem:m∈ns:=(hs.mem m).mpr ⟨_,apR hj,hfind _ (apR hj) hpj⟩;refine apr (apr ?_);exact h Δ s.heap (Heap.SameBut.refl a s.heap) (by unfold gf;rw[if_pos hmem];exact⟨o,es,ep,t,ho,hex,hd,hI,hl,hs⟩)
 |none =>
  dsimp only;have hmem:m∉ns:=λhq=>by
   obtain⟨e,he,q⟩:=(hs.mem m).mp hq;have:=atm.mp hr e he;obtain⟨n,tk',rfl,_⟩:=hs.2 e he;have e:n=m:=by dsimp only at q;omega
   subst e;simp[intKind,Value.isInt]at this
  have hst:gf ns m=ns++[m]:=by unfold gf;rw[if_neg hmem]
  rw[hst]at h;rw[AK hm];have kW:=layNew_perm t es (m:Int) (.int m tk);obtain⟨es1,t1,e1,q1,q2,q3,q4,q5,q6,q7,q8,q9⟩:=afy (x:=.int m tk) hI hm (by omega)
  rw[e1]at kW ⊢;dsimp only at kW ⊢;rw[asC]at kW;have hs1:gG es1.toList (ns++[m]):=(hs.push hm tk).perm kW;refine apq (apr ?_);rw[q3];simp only[↓reduceIte];refine apq ?_;rw[atn 8 (x:=.int m tk) rfl];refine apr ?_;dsimp only[plainKind];simp only[↓reduceIte];refine apq (asD ho hd ?_ (fits_of_scanBound (by unfold scanBound;omega)))
  have oR:=zO (es':=es1) (t':=t1) ho hd;have gv:=aqN s.heap a (Obj.putSet es1 t1);have hcs:=aiw hI q8 (q4.trans q1) q7 (by omega)
  cases hf:t1.tooFull with
  |false =>
   simp only[arV,asU,apX,↓reduceIte];refine apr (apr (h ξ _ gv ⟨_,es1,ep+1,t1,oR,hex,rfl,⟨q4,q5,q6,q7,?_,q3⟩,q2.trans hl,hs1⟩));rw[q1];exact hcs.2 hf
  |true =>
   simp only[arV,asE,↓reduceIte];have hp2:=relayAll_perm t1 es1 (SetTable.grown es1.size);obtain⟨j7,t2,e2,r1,r2,r3⟩:=Yq q3 hs1.hs (by rw[q1];exact hcs.1 hf)
   rw[e2]at hp2 ⊢;dsimp only at hp2 ⊢;refine apq (apr ?_);refine apq (asD oR rfl ?_ (fits_of_scanBound (by unfold scanBound;omega)))
   exact apr (apr (h ξ _ (gv.trans (aqN _ a _)) ⟨_,j7,ep+1+1,t2,zO oR rfl,hex,rfl,r2,r3.trans (q2.trans hl),hs1.perm hp2⟩))
end
def dY(xs:List Nat):List Nat:=xs.foldl gf []
theorem aiL{xs:List Nat}{i:Nat}(h:i<xs.length):dY (xs.take (i+1))=gf (dY (xs.take i)) xs[i]:=by
 unfold dY;rw[arW h,arX];rfl
theorem PL:∀(xs ns:List Nat),ns.length<=(xs.foldl gf ns).length
 |[],ns=>aps _
 |x::xs,ns=>by
  have:=PL xs (gf ns x);have h:ns.length<=(gf ns x).length:=by unfold gf;split<;>simp
  rw[aq6];omega
theorem aiM(xs:List Nat) (i:Nat):(dY (xs.take i)).length<=(dY xs).length:=by
 have:dY xs=(xs.drop i).foldl gf (dY (xs.take i)):=by
  unfold dY;rw[<-arX,arb]
 rw[this];exact PL _ _
theorem dw.at{w:ψ}{h h':χ}{a:Θ}{ns:List Nat}(x:dw w h a ns) (k:∀o,h.get? a=ζ o->h'.get? a=ζ o):dw w h' a ns :=
 let⟨o,es,ep,t,ho,r⟩:=x;⟨o,es,ep,t,k o ho,r⟩
section
variable {prog:υ}{w:ψ}{A:acr}{s:ε}{E:Γ->ε->Prop}
theorem LY{R:Result->ε->Prop}{I:Θ}{fp wr:List Θ}{G:Array aht->Array aht->Prop}{P:Nat->Γ->Prop}{St:Nat->ε->Prop}{xs:List Nat}
  (W:WalksS prog w A.in1 I fp wr G xs.length P St) (S:Θ) (hSf:S∉fp) (hval:∀(i:Nat) v,(hi:i<xs.length)->P i v->∃t,v=Value.int (xs[i]:Nat) t) (hx:∀x∈xs,x<128) (h64:(dY xs).length<64) :
  ∀(k i:Nat) (s:ε),xs.length-i=k->i<=xs.length->St i s->dw w s.heap S (dY (xs.take i)) ->
   (∀s',Moved (S::wr) G s s'->dw w s'.heap S (dY xs)->R (.ok (.ret .none)) s') ->
   codeAny (model prog w) A (.builtin "set.update.loop" ⟨[.ref S,.ref I],[]⟩) R s:=by
 have AN:S∉wr:=λh=>hSf (W.sub _ h)
 have hup:∀b∈wr,b∈S::wr:=λb hb=>.tail _ hb
 intro k
 induction k with
 |zero =>
  intro i s hk hi st hS hR;cases(show i=xs.length by omega)
  refine aq0 asF ?_;rw[arY arB _];show wpAny _ A.in1 (pyNext (.ref I) >>= _) _ _ s;refine apq (W.done s _ _ st λs' hm=>?_)
  rw[aqy]at hS;exact apr (hR s' (hm.mono hup) (hS.at λo e=>hm.heap S _ AN e))
 |succ k ih =>
  intro i s hk hi st hS hR;have hlt:i<xs.length:=by omega
  refine aq0 asF ?_;rw[arY arB _];show wpAny _ A.in1 (pyNext (.ref I) >>= _) _ _ s;refine apq (W.item i s _ _ hlt st λv s' hP st' hm=>?_)
  obtain⟨t,rfl⟩:=hval i v hlt hP;have hS':dw w s'.heap S (dY (xs.take i)):=hS.at λo e=>hm.heap S _ AN e
  show wpAny _ A.in1 (holding [Value.int (xs[i]:Nat) t] (setAdd S (.int (xs[i]:Nat) t)) >>= _) _ _ s';refine apq (aqk ?_);unfold setAdd;refine aqk (apq ((intKind prog w).pyHash (k:=(xs[i]:Nat)) (by simp[intKind,Value.isInt]) ?_))
  have hl:(dY (xs.take i)).length<64:=aqL (aiM xs i) h64;refine L0 (s:={s' with toks:=s'.toks+1}) (hx _ (apR hlt)) hS' hl λb h' gv jd=>?_
  rw[<-aiL hlt]at jd;refine apr ⟨ato arB _,ih (i+1) _ (by omega) hlt (W.frame _ s' _ _ st' (ark _) λb hb o e=>?_) jd λs'' Gw GG=>?_⟩
  ·rw[gv.2 b (λq:b=S=>hSf (q▸hb))];exact e
  ·refine hR s'' (Moved.trans W.gtrans ((hm.mono hup).then_heap (ark _) λb o hb e=>?_) Gw) GG
   rw[gv.2 b (λq:b=S=>hb (q▸.head _))];exact e
def cQ(w:ψ):Obj:={cls:=.type "set",dict:=η,data:=.set #[] 0 (.fresh 0 0 (!fH w))}
theorem HY(w:ψ) {h:χ}{a:Θ}(e:h.get? a=ζ (cQ w)):dw w h a [] :=
 ⟨_,#[],0,_,e,⟨rfl,rfl,rfl⟩,rfl,UT _,rfl,.refl _,λe he=>by cases he⟩
theorem C6(a:Γ) {Q₁:Γ->ε->Prop}(h:Q₁ (.ref s.heap.objs.size) {s with heap:=s.heap.push (cQ w)}) :
  codeAny (model prog w) A (.call (.builtin "set.__new__") ⟨[.type "set",a],[]⟩) (wants Q₁ E) s:=by
 refine asG (show wpAny _ A.in1 (do checkBuiltinCall "set.__new__" ⟨[.type "set",a],[]⟩;again (.builtin "set.__new__" ⟨[.type "set",a],[]⟩)) _ _ s from ?_)
 refine apq (arq (PySem.F.newCall_set_1 a) (apr ⟨ato auB _,aq0 PySem.F.entry_set_new ?_⟩));rw[arY auB _];unfold Builtin.«set.__new__» Builtin.Frozenset.newClass;have hsub:=arZ;obtain⟨hp,g,d,tk,os⟩:=s;dsimp only;wp_walk;refine aqR (apr ?_);dsimp only;simp only[newObj];exact apq (wpAny_alloc (apr (apr h)))
set_option maxHeartbeats 3200000 in
theorem Xl{l:Θ}{items:Array Γ}{xs:List Nat}{Q:Γ->ε->Prop}(hh:A.handled=η) (hl:s.heap.IsList l items) (hi:ag5 items.toList (xs.map λn:Nat=>(n:Int))) (hx:∀x∈xs,x<128) (h64:(dY xs).length<64)
  (h:∀(h':χ) (tk:Nat),dw w h' s.heap.objs.size (dY xs)->(∀b o,b<s.heap.objs.size->s.heap.get? b=ζ o->h'.get? b=ζ o)->Q (.ref s.heap.objs.size) {s with heap:=h',toks:=tk}) :
  wpAny (model prog w) A (call (.type "set") [.ref l]) Q E s:=by
 obtain⟨c,tl,OY⟩:=apU.mro;have hmade:=apU.made;have hsub:=apU.sub;refine ari (asG (show wpAny _ _ (callAny (.type "set") _) _ _ _ from ?_))
 refine apr ⟨atp _ (by decide +kernel),aq0 atq ?_⟩
 rw[atr (ats "set" [.ref l] []) rfl];have h1:=apU.notType;have h2:=apU.canCreate;have hct:=att (.ref l)
 repeat any_goals (first|assumption|wp_step)
 refine aqt (C6 (.ref l) (E:=E) (Q₁:=λobj s₁=>obj=.ref s.heap.objs.size/\s₁={s with heap:=s.heap.push (cQ w)}) ⟨rfl,rfl⟩) λr s₁ hr=>?_
 cases r with
 |error e=>exact hr
 |ok fl =>
  cases fl with
  |ret obj =>
   obtain⟨rfl,rfl⟩:=hr;have hS:(s.heap.push (cQ w)).get? s.heap.objs.size=ζ (cQ w):=apF _ rfl;have hT:ahn {s with heap:=s.heap.push (cQ w)} (.ref s.heap.objs.size) "set":=⟨_,hS,rfl⟩
   have hli:=apU.init.lookup;have hbi:=apU.init.bind (.ref s.heap.objs.size)
   repeat any_goals (first|assumption|wp_step)
   refine aqt (atu (R:=wants (λr s₂=>r=.none/\∃h' tk,s₂={s with heap:=h',toks:=tk}/\dw w h' s.heap.objs.size (dY xs) /\
     (∀b o,b<s.heap.objs.size->s.heap.get? b=ζ o->h'.get? b=ζ o)) E) apU.init.plain atv (atw hT ?_)) λr₂ s₂ j5=>?_
   ·obtain⟨ol,iB,hcl,nl,hdl⟩:=hl;obtain⟨M7,wZ,MZ,wW⟩:=ol;simp only at hcl hdl;subst hcl;subst hdl;have oQ:(s.heap.push (cQ w)).get? l=ζ {cls:=.type "list",dict:=wZ,data:=.seq items nl,slots:=wW}:=apt _ iB;have OQ:=auC;have OR:=auD;have hne:(Value.type "list"==Value.type "dict")=Δ:=by decide
    have hl1:(s.heap.push (cQ w)).IsList l items:=⟨_,oQ,rfl,nl,rfl⟩;unfold cQ at hS hT oQ ⊢;unfold Builtin.«set.__init__» noKeywords Builtin.Frozenset.updateFrom
    generalize x9:pyIter=PI
    wp_walk
    subst x9;refine arf hl1 (apq (atx ?_));have hlS:l<s.heap.objs.size:=apy iB;have hlen:items.size=xs.length:=by have:=hi.length;simpa using this
    have xU:l≠(s.heap.push (cQ w)).objs.size:=by rw[apY];exact apz (aqC hlS)
    have hSf:s.heap.objs.size∉[(s.heap.push (cQ w)).objs.size,l]:=by
     rw[apY];simp only[apu,apI,or_false,not_or];exact⟨apz (aqp _),aqe hlS⟩
    have W:=(arS (prog:=prog) (w:=w) (A:=A.in1.in1.in1) (by simp[hh]) (s.heap.push (cQ w)).objs.size l xU items).toS
    rw[hlen]at W;refine LY (xs:=xs) W s.heap.objs.size hSf (λi v hi' hv=>?_) hx h64 xs.length 0 _ (by omega) (aqm _) ⟨⟨_,apF _ rfl,rfl,rfl⟩,hl1.push _⟩ (HY w (apt _ hS)) λs' hm hS'=>?_
    ·obtain⟨t,e⟩:=IntsAre.int_at hi i v (by rw[ap2];exact hv)
     exact⟨t,by rw[e];simp[apD,apw hi']⟩
    ·obtain⟨h',g',d',tk',os'⟩:=s';cases(show g'=s.gens from hm.gens)
     cases(show d'=s.drawn from hm.drawn)
     cases(show os'=s.os from hm.os)
     refine apr (apr ⟨rfl,h',tk',rfl,hS',λb o hb e=>?_⟩)
     exact hm.heap b o (by rw[apY];simp only[apu,apI,or_false,not_or];exact⟨apz hb,apz (aqC hb)⟩) (apt _ (apt _ e))
   ·cases r₂ with
    |error e=>exact j5
    |ok ye =>
     cases ye with
     |ret r =>
      obtain⟨rfl,h',tk,rfl,hS',hk'⟩:=j5
      repeat any_goals (first|assumption|wp_step)
      exact h _ _ hS' hk'
     |_=>exact j5.elim
  |_=>exact hr.elim
end
theorem rP:Slot "set_iterator" "__next__" "set_iterator.__next__" :=
 .of (owner:="set_iterator") (n:="__next__") (by rw[typeLookup_type,auE];kernel_rfl) (by decide +kernel) (by decide +kernel)
  (by decide +kernel) (by first|exact .inl (by decide +kernel)|exact .inr (by decide +kernel)) (by rw[asH];kernel_rfl)
theorem LB:Slot "set_iterator" "__iter__" "set_iterator.__iter__" :=
 .of (owner:="set_iterator") (n:="__iter__") (by rw[typeLookup_type,auE];kernel_rfl) (by decide +kernel) (by decide +kernel)
  (by decide +kernel) (by first|exact .inl (by decide +kernel)|exact .inr (by decide +kernel)) (by rw[asH];kernel_rfl)
theorem LG:entryFor table "set_iterator.__next__"=ζ Builtin.«set_iterator.__next__»:=entryFor_of_tree (by kernel_rfl)
theorem VG:entryFor table "set_iterator.__iter__"=ζ Builtin.«dict_keyiterator.__iter__» :=
 aty (id':="dict_keyiterator.__iter__") (by kernel_rfl) rfl (by decide +kernel) (by kernel_rfl)
theorem VF:entryFor table "set.__iter__"=ζ Builtin.«frozenset.__iter__» :=
 aty (id':="frozenset.__iter__") (by kernel_rfl) rfl (by decide +kernel) (by kernel_rfl)
theorem LC:Manifest.owners.lookup (String.ofList ['r','o','t','a','r','e','t','i','_','t','e','s'].reverse)=ζ Manifest.sig_set_iterator:=by kernel_rfl
theorem LH(a:Γ):argsOk "set_iterator.__next__" ⟨[a],[]⟩:=by
 unfold argsOk;rw[signature?_of (id:="set_iterator.__next__") (n:=['_','_','t','x','e','n','_','_']) (o:=['r','o','t','a','r','e','t','i','_','t','e','s']) (by kernel_rfl) LC];kernel_rfl
theorem VI(a:Γ):argsOk "set_iterator.__iter__" ⟨[a],[]⟩:=by
 unfold argsOk;rw[signature?_of (id:="set_iterator.__iter__") (n:=['_','_','r','e','t','i','_','_']) (o:=['r','o','t','a','r','e','t','i','_','t','e','s']) (by kernel_rfl) LC];kernel_rfl
theorem BK{α:Type}{l:List α}{i:Nat}(h:i<l.length):([l[i]]++l.eraseIdx i).Perm l:=by
 rw[arc];have e:l=l.take i++l[i]::l.drop (i+1):=by rw[<-ass h,arb]
 conv=>rhs;rw[e]
 exact(atz (a:=l[i]) (l₁:=l.take i) (l₂:=l.drop (i+1))).symm
theorem MA{α:Type}(next:Nat->Nat):∀(fuel k:Nat) (left:List α) (out:Array α),fuel=left.length->(pickOrder.go next fuel k left out).toList.Perm (out.toList++left)
 |0,k,left,out,h=>by
  have:left=[]:=atA.mp h.symm;subst this;unfold pickOrder.go;simp
 |fuel+1,k,left,out,h=>by
  unfold pickOrder.go;have hlt:next k % left.length<left.length:=aqF _ (by omega)
  rw[apw hlt];dsimp only;refine(MA next fuel _ _ _ (by rw[auF hlt];omega)).trans ?_
  rw[asC,ap9];exact(BK hlt).append_left _
def gW(w:ψ) (a:Θ) (ep:Nat) (es:Array (Int×Γ)):Array (Int×Γ):=if fH w then pickOrder (w.params.setOrder a ep) es else es
theorem wX(w:ψ) (a:Θ) (ep:Nat) (es:Array (Int×Γ)):(gW w a ep es).toList.Perm es.toList:=by
 unfold gW;split
 ·unfold pickOrder
  simpa using MA (w.params.setOrder a ep) es.size 0 es.toList #[] (by simp)
 ·exact .rfl
def iX(b:Bool) (place:Array Nat):Nat->Nat
 |0=>0
 |i+1=>if b then 0 else place.toList.getD i 0+1
def ly(h:χ) (it a:Θ) (sl i n ep:Nat):Prop:=∃o,h.get? it=ζ o/\o.cls=.type "set_iterator"/\o.data=.fields #[.int sl 0,.int i 0,.ref a,.int n 0,.int ep 0]
theorem ly.typeIs{s:ε}{it a:Θ}{sl i n ep:Nat}(h:ly s.heap it a sl i n ep):s.TypeIs (.ref it) "set_iterator":=let⟨o,ho,hc,_⟩:=h;⟨o,ho,hc⟩
theorem ly.at{h h':χ}{it a:Θ}{sl i n ep:Nat}(x:ly h it a sl i n ep) (k:∀o,h.get? it=ζ o->h'.get? it=ζ o):ly h' it a sl i n ep:=let⟨o,ho,r⟩:=x;⟨o,k o ho,r⟩
def gH(w:ψ) (h:χ) (a:Θ) (es:Array (Int×Γ)) (ep:Nat) (t:ω):Prop:=∃o,h.get? a=ζ o/\o.ExactSet/\o.data=.set es ep t/\pK t es.size/\t.led = !fH w
theorem gH.at{w:ψ}{h h':χ}{a:Θ}{es:Array (Int×Γ)}{ep:Nat}{t:ω}(x:gH w h a es ep t) (k:∀o,h.get? a=ζ o->h'.get? a=ζ o):gH w h' a es ep t:=let⟨o,ho,r⟩:=x;⟨o,k o ho,r⟩
section
variable {prog:υ}{w:ψ}{A:acr}{E:Γ->ε->Prop}{s:ε}
theorem LX{a:Θ}{es:Array (Int×Γ)}{ep i:Nat}{t:ω}{Q:Option (Γ×Nat)->ε->Prop}(hS:gH w s.heap a es ep t) (hi:i<=es.size)
  (h:Q ((gW w a ep es)[i]?.map λe=>(e.2,iX (fH w) t.place (i+1))) s):wpAny (model prog w) A (setNext a (iX (fH w) t.place i) i ep) Q E s:=by
 obtain⟨o,ho,hex,hd,hI,hl⟩:=hS;unfold setNext;refine apq (aqz ho hd hI.fits ?_);dsimp only;refine apq ?_;unfold setsByText;refine apq (aqR (apr ?_));show wpAny _ _ (if fH w=ξ then _ else _) _ _ _
 unfold gW at h;cases hb:fH w with
 |true =>
  rw[hb]at h;simp only[if_true,bne_self_eq_false,apX,if_false]at h ⊢;refine apq ?_;unfold setWalk;refine apq (aqz ho hd hI.fits ?_);dsimp only;refine apq ?_;unfold setsByText;refine apq (aqR (apr ?_));show wpAny _ _ (if fH w=ξ then _ else _) _ _ _
  rw[hb];simp only[if_true];refine apq (aqR (apr (apr ?_)));have e:iX ξ t.place (i+1)=iX ξ t.place i:=by cases i<;>rfl
  rw[e]at h;exact h
 |false =>
  rw[hb]at h hl;simp only[apX,if_false]at h ⊢;show wpAny _ _ (if(!t.plain&&decide (es.size>1))=ξ then _ else _) _ _ _
  rw[hI.plain];simp only[aq1,asa,apX,if_false];refine apq (arq (a:=()) ?_ ?_)
  ·show(if(!t.led && !es.isEmpty)=ξ then _ else _)=_
   rw[hl];rfl
  have hbl:SetTable.below t.place (iX Δ t.place i)=i:=by
   cases i with
   |zero=>exact al0 hI.up
   |succ i=>exact al1 hI.up (by rw[apO,hI.size];omega)
  rw[hbl];refine apr ?_
  rcases arU i es.size with hlt|hge
  ·have hp:i<t.place.size:=by rw[hI.size];exact hlt
   rw[arC hlt]at h ⊢;rw[arC hp];have e:iX Δ t.place (i+1)=t.place[i]+1:=by
    simp[iX,apD,apw (show i<t.place.toList.length by simpa using hp)]
   rw[e]at h;exact h
  ·rw[auG hge]at h ⊢;exact h
end
section
variable {prog:υ}{w:ψ}{A:acr}{E:Γ->ε->Prop}{s:ε}
theorem agL{it a:Θ}{es:Array (Int×Γ)}{ep i:Nat}{t:ω}{v:Int×Γ}{Q:Option Γ->ε->Prop}(hit:ly s.heap it a (iX (fH w) t.place i) i es.size ep) (hS:gH w s.heap a es ep t) (hi:i<es.size)
  (hv:(gW w a ep es)[i]? = ζ v) (hQ:∀h',ly h' it a (iX (fH w) t.place (i+1)) (i+1) es.size ep->aeC it s.heap h'->Q (ζ v.2) {s with heap:=h'}) :
  wpAny (model prog w) A (pyNext (.ref it)) Q E s:=by
 obtain⟨o,ho,hc,hd⟩:=id hit;obtain⟨oS,hoS,O3,hdS,hI,hl⟩:=id hS;unfold pyNext;refine apq (asn (aro (name:=Str.ofString "__next__") hit.typeIs rP (aqD rP hit.typeIs LG ?_ (LH _))));unfold Builtin.«set_iterator.__next__»;refine apq (apr ?_);refine apq (wpAny_fieldsOf ho hd ?_);dsimp only;refine apq (ar0 hoS hdS hI.fits ?_);rw[if_neg (by simp)]
 refine apq (LX (ep:=ep) (i:=i) hS (aqG hi) ?_);rw[hv];dsimp only[Option.map];refine apq (arR ho hd (by simp) ?_)
 have g1:=arO (Obj.mapFields (·.setIfInBounds 0 (rawInt ((iX (fH w) t.place (i+1):Nat):Int)))) ho (asY (arp hd _));have d1:=arp hd (·.setIfInBounds 0 (rawInt ((iX (fH w) t.place (i+1):Nat):Int)));refine apq (arR g1 d1 (by simp) ?_)
 have g2:=arO (Obj.mapFields (·.setIfInBounds 1 (rawInt ((i:Int)+1)))) g1 (asY (arp d1 _));have d2:=arp d1 (·.setIfInBounds 1 (rawInt ((i:Int)+1)));refine apr ⟨_,rfl,apr (hQ _ ⟨_,g2,?_,?_⟩ ((aqN ..).trans (aqN ..)))⟩
 ·exact(asZ ..).trans ((asZ ..).trans hc)
 ·rw[d2];simp[rawInt]
theorem agM{it a:Θ}{es:Array (Int×Γ)}{ep:Nat}{t:ω}{Q:Option Γ->ε->Prop}(hh:A.handled=η) (hit:ly s.heap it a (iX (fH w) t.place es.size) es.size es.size ep) (hS:gH w s.heap a es ep t)
  (hQ:∀h',Heap.ExtBut it s.heap h'->Q η {s with heap:=h'}):wpAny (model prog w) A (pyNext (.ref it)) Q E s:=by
 obtain⟨o,ho,hc,hd⟩:=id hit;obtain⟨oS,hoS,O3,hdS,hI,hl⟩:=id hS;unfold pyNext;refine apq (asn (aro (name:=Str.ofString "__next__") hit.typeIs rP (aqD rP hit.typeIs LG ?_ (LH _))));unfold Builtin.«set_iterator.__next__»;refine apq (apr ?_);refine apq (wpAny_fieldsOf ho hd ?_);dsimp only;refine apq (ar0 hoS hdS hI.fits ?_);rw[if_neg (by simp)]
 refine apq (LX (ep:=ep) (i:=es.size) hS (aps _) ?_);have hv:(gW w a ep es)[es.size]? = η:=by
  have:=(wX w a ep es).length_eq;rw[apO,apO]at this;exact auG (by omega)
 rw[hv];dsimp only[Option.map];refine apq (arR ho hd (by simp) ?_)
 show wpAny _ _ (newExc (.type "StopIteration") [] >>= _) _ _ _;refine apq ?_;simp only[newExc,newTuple];refine apq (arn ?_ (by size_fits))
 refine apq (m:=firstArgMember _ _) (arq (a:=Value.none) (by first|rfl|(simp only[firstArgMember];rfl)) (arn ?_ (by size_fits)))
 simp only[raiseNew];refine apq (wpAny_handled ?_);rw[show A.in1.handled=η from hh]
 refine apq (apr (wpAny_throw ?_));refine apq (art (b:=ξ) (T:="StopIteration") ⟨_,apF _ rfl,rfl⟩ isSubtype_stop ?_);exact apr (hQ _ (((aqN ..).extBut.push _).push _))
theorem agJ{it a:Θ}{sl i n ep:Nat}{Q:Γ->ε->Prop}(hit:ly s.heap it a sl i n ep) (h:Q (.ref it) s):wpAny (model prog w) A (pyIter (.ref it)) Q E s:=by
 refine wpAny_pyIter_slot hit.typeIs LB (aqD LB hit.typeIs VG (show wpAny _ _ (ret (.ref it)) _ _ s from ?_) (VI _))
 exact apr ⟨_,rfl,"set_iterator",_,hit.typeIs,rP.lookup,h⟩
theorem Xi(hh:A.handled=η) (I a:Θ) (hne:a≠I) (es:Array (Int×Γ)) (ep:Nat) (t:ω) :
  Walks prog w A I [I,a] [I] es.size (λi v=>(gW w a ep es)[i]?.map (·.2)=ζ v) (λi h=>ly h I a (iX (fH w) t.place i) i es.size ep/\gH w h a es ep t) where
 sub:=λb hb=>by simp at hb;simp[hb]
 frame:=λ_ _ _ st hk=>⟨st.1.at λo e=>hk I (by simp) o e,st.2.at λo e=>hk a (by simp) o e⟩
 item:=λi s Q E hi st hQ=>by
  have hl:=(wX w a ep es).length_eq;rw[apO,apO]at hl;have hv:(gW w a ep es)[i]? = ζ (gW w a ep es)[i]:=arC (by omega)
  refine agL st.1 st.2 hi hv λh' xV hs'=>hQ _ h' s.toks (by rw[hv];rfl) ⟨xV,st.2.at λo e=>?_⟩ λb o hb e=>hs'.extBut b o (λh=>hb (by simp[h])) e
  exact hs'.extBut a o hne e
 done:=λs Q E st hQ=>agM hh st.1 st.2 λh' he'=>hQ h' s.toks λb o hb e=>he' b o (λh=>hb (by simp[h])) e
 self:=λ_ _ _ _ st hQ=>agJ st.1 hQ
theorem gH.typeIs{a:Θ}{es:Array (Int×Γ)}{ep:Nat}{t:ω}(h:gH w s.heap a es ep t):s.TypeIs (.ref a) "set":=let⟨o,ho,hx,_⟩:=h;⟨o,ho,hx.1⟩
theorem Xn{a:Θ}{es:Array (Int×Γ)}{ep:Nat}{t:ω}{Q:Γ->ε->Prop}(hS:gH w s.heap a es ep t)
  (hQ:Q (.ref s.heap.objs.size) {s with heap:=s.heap.push {cls:=.type "set_iterator",data:=.fields #[.int 0 0,.int 0 0,.ref a,.int es.size 0,.int ep 0]} }):wpAny (model prog w) A (pyIter (.ref a)) Q E s:=by
 obtain⟨oS,hoS,O3,hdS,hI,hl⟩:=id hS;refine wpAny_pyIter_slot hS.typeIs auH (aqD auH hS.typeIs VF ?_ (PySem.F.args_set_iter_1 _));unfold Builtin.«frozenset.__iter__» Builtin.Frozenset.slot0;refine apq (apq (apr (apr ?_)));unfold Builtin.Frozenset.sizeOf;refine apq (apq (ar0 hoS hdS hI.fits (apr ?_)));refine apq ?_;unfold setDrawn;refine apq (aqz hoS hdS hI.fits ?_);dsimp only;refine apq ?_;unfold setsByText;refine apq (aqR (apr (apr ?_)));have e:(!fH w&&(!t.plain&&decide (es.size>1)))=Δ:=by rw[hI.plain];simp
 show wpAny _ _ (if(!fH w&&(!t.plain&&decide (es.size>1)))=ξ then _ else _) _ _ _
 rw[e];simp only[apX,if_false];refine apq (apr ?_);refine apq (atB hoS hdS hI.fits ?_);refine apq ?_;refine arn (apr ⟨_,rfl,"set_iterator",_,⟨_,apF _ rfl,rfl⟩,rP.lookup,?_⟩);exact hQ
end
open PySem.W
def oH(x:Nat):List Nat->List Nat
 |[]=>[x]
 |y::l=>if x<y then x::y::l else if x=y then y::l else y::oH x l
def cM:List Nat->List Nat
 |[]=>[]
 |x::l=>oH x (cM l)
theorem D5{x y:Nat}:∀{l:List Nat},y∈oH x l↔y=x\/y∈l
 |[]=>by simp[oH]
 |z::l=>by
  unfold oH;split
  ·simp
  ·split
   ·rename_i h;subst h;simp
   ·simp only[apu,D5 (l:=l)]
    constructor
    ·rintro (h|h|h)<;>simp[h]
    ·rintro (h|h|h)<;>simp[h]
theorem K3{x:Nat}:∀{l:List Nat},Up l->Up (oH x l)
 |[],_=>by simp[oH]
 |z::l,h=>by
  obtain⟨h1,h2⟩:=aqX.mp h;unfold oH;split
  ·rename_i hx;exact aqX.mpr ⟨λb hb=>by
    rcases apu.mp hb with rfl|hb
    ·exact hx
    ·exact atb hx (h1 b hb),h⟩
  ·split
   ·exact h
   ·refine aqX.mpr ⟨λb hb=>?_,K3 h2⟩
    rcases D5.mp hb with rfl|hb
    ·omega
    ·exact h1 b hb
theorem nN:∀l:List Nat,Up (cM l)
 |[]=>.nil
 |x::l=>K3 (nN l)
theorem kL{y:Nat}:∀{l:List Nat},y∈cM l↔y∈l
 |[]=>by simp[cM]
 |x::l=>by simp[cM,D5,kL (l:=l)]
theorem up_eq:∀{l m:List Nat},Up l->Up m->(∀x,x∈l↔x∈m)->l=m
 |[],[],_,_,_=>rfl
 |[],y::m,_,_,h=>absurd ((h y).mpr (.head _)) (by simp)
 |x::l,[],_,_,h=>absurd ((h x).mp (.head _)) (by simp)
 |x::l,y::m,h1,h2,h=>by
  obtain⟨a1,a2⟩:=aqX.mp h1;obtain⟨b1,b2⟩:=aqX.mp h2;have e:x=y:=by
   rcases apu.mp ((h x).mp (.head _))with e|hx
   ·exact e
   ·rcases apu.mp ((h y).mpr (.head _))with e|hy
    ·exact e.symm
    ·have:=a1 y hy;have:=b1 x hx;omega
  subst e;rw[up_eq a2 b2 λz=>?_]
  constructor
  ·intro hz
   rcases apu.mp ((h z).mp (.tail _ hz))with e|q
   ·subst e;exact absurd (a1 z hz) (aqd _)
   ·exact q
  ·intro hz
   rcases apu.mp ((h z).mpr (.tail _ hz))with e|q
   ·subst e;exact absurd (b1 z hz) (aqd _)
   ·exact q
theorem NS{ns:List Nat}{x y:Nat}:y∈gf ns x↔y∈ns\/y=x:=by
 unfold gf;split
 ·rename_i h;exact⟨.inl,λq=>q.elim id λe=>e▸h⟩
 ·simp
theorem ND{ns:List Nat}{x:Nat}(h:ns.Nodup):(gf ns x).Nodup:=by
 unfold gf;split
 ·exact h
 ·rename_i hx;refine arw.mpr ⟨h,by simp,λa ha b hb=>?_⟩
  rw[aqa]at hb;subst hb;exact λe=>hx (e▸ha)
theorem xy:∀{xs ns:List Nat}{y:Nat},y∈xs.foldl gf ns↔y∈ns\/y∈xs
 |[],ns,y=>by simp
 |x::xs,ns,y=>by
  rw[aq6,xy,NS,apu,or_assoc]
theorem xr:∀{xs ns:List Nat},ns.Nodup->(xs.foldl gf ns).Nodup
 |[],_,h=>h
 |x::xs,_,h=>xr (xs:=xs) (ND h)
theorem VZ{xs:List Nat}{zs:List Int}(h1:zs.Perm ((dY xs).map λn:Nat=>(n:Int))) (h2:zs.Pairwise (·<=·)):zs=(cM xs).map λn:Nat=>(n:Int):=by
 have hz:∀z∈zs,∃n:Nat,z=n:=λz hz=>by
  obtain⟨n,_,e⟩:=apv.mp (h1.mem_iff.mp hz);exact⟨n,e.symm⟩
 have e:zs=(zs.map Int.toNat).map λn:Nat=>(n:Int):=by
  rw[apV]
  conv=>lhs;rw[<-asI zs]
  refine aqS λz hq=>?_
  obtain⟨n,rfl⟩:=hz z hq;simp
 have hp:(zs.map Int.toNat).Perm (dY xs):=by
  have:=h1.map Int.toNat;rw[apV]at this;refine this.trans (auI ?_)
  conv=>rhs;rw[<-asI (dY xs)]
  exact aqS λn _=>by simp
 have hnd:(zs.map Int.toNat).Nodup:=hp.nodup_iff.mpr (xr .nil);have hup:Up (zs.map Int.toNat):=by
  have hle:(zs.map Int.toNat).Pairwise (·<=·):=by
   rw[arz];exact h2.imp fun{a b} h=>by omega
  refine(hle.and hnd).imp fun{a b} h=>?_
  have h2:a≠b:=h.2;omega
 rw[e,up_eq hup (nN xs) λx=>by
  rw[hp.mem_iff,kL];unfold dY;rw[xy];simp]
theorem xo:∀{l:List Nat},Up l->l.Nodup:=fun{l} h=>h.imp fun{a b} h=>apz h
theorem wj(xs:List Nat):(cM xs).length=(dY xs).length:=by
 have hp:(cM xs).Perm (dY xs):=by
  refine(atD (xo (nN xs)) (xr .nil)).mpr λx=>?_
  rw[kL,xy];simp
 exact hp.length_eq
theorem K4{l:List Nat}(h:Up l):∀i,i<l.length->i<=l.getD i 0
 |0,_=>aqm _
 |i+1,hi=>by
  have a:=K4 h i (by omega)
  have b:=vS h (show i<i+1 by omega) hi
  omega
theorem K2{l:List Nat}(h:Up l) {m:Nat}(hm:∀x∈l,x<m):l.length<=m:=by
 rcases atd l.length with e|e
 ·omega
 ·have a:=K4 h (l.length-1) (by omega)
  have hi:l.length-1<l.length:=by omega
  have b:l.getD (l.length-1) 0<m:=hm _ (by rw[apD,apw hi];exact apR hi)
  omega
theorem Oz:∀{l:List (Int×Γ)},(∀e∈l,∃(n:Nat) (tk:Tok),e=((n:Int),.int n tk)/\n<128)->ag5 (l.map (·.2)) (l.map (·.1))
 |[],_=>.nil
 |e::l,h=>by
  obtain⟨n,tk,rfl,_⟩:=h e (.head _);exact .cons _ _ (Oz λe he=>h e (.tail _ he))
section
variable {prog:υ}{w:ψ}{A:acr}{E:Γ->ε->Prop}{s:ε}
theorem ahL{r:Θ}{Q:Bool->ε->Prop}(hT:s.TypeIs (.ref r) "set") (h:Q Δ s):wpAny (model prog w) A (Builtin.List.listLengthHint (.ref r)) Q E s:=by
 unfold Builtin.List.listLengthHint;refine apq (wpAny_specialOf hT PySem.F.slot_set_len.lookup ?_)
 generalize hid:("set.__len__":String)=id0
 wp_delta
 rw[show splitId id0=ζ ("set","__len__")from by subst hid;decide +kernel]
 subst hid;refine apq (art (T:="set") (b:=ξ) hT arZ ?_);refine wpAny_ite_split (λq=>absurd q (by decide)) λ_=>wpAny_ite_split (λ_=>?_) λq=>absurd (by decide +kernel) q
 exact apq (wpAny_typeOf hT (apr h))
theorem gH.lt{h:χ}{a:Θ}{es:Array (Int×Γ)}{ep:Nat}{t:ω}(x:gH w h a es ep t):a<h.objs.size:=let⟨_,ho,_⟩:=x;apy ho
theorem VQ{a:Θ}{es:Array (Int×Γ)}{ep:Nat}{t:ω}:KdlSrc prog w "set" a a es.size (λi v=>(gW w a ep es)[i]?.map (·.2)=ζ v) (λh=>gH w h a es ep t) where
 type:=λ_ h=>h.typeIs
 there:=λ_ h=>⟨h.lt,h.lt⟩
 keep:=λ_ _ h k=>h.at λo e=>k a (.inl rfl) o e
 notList:=by decide
 notTuple:=by decide
 hint:=λ_ _ _ _ h q=>ahL h.typeIs q
 iter:=λ_ s hh h=>⟨_,_,(λ_ _ q=>Xn h q),Xi hh _ a (apz h.lt) es ep t,⟨⟨_,apF _ rfl,rfl,rfl⟩,h.at λo e=>apt _ e⟩⟩
theorem VY{a:Θ}{xs:List Nat}{Q:Γ->ε->Prop}(hh:A.handled=η) (hS:dw w s.heap a (dY xs)) (hn:(dY xs).length<64)
  (h:∀(h1 h':χ) (tk c:Nat) (out:Array Γ),(∀b o,s.heap.get? b=ζ o->h1.get? b=ζ o)->(∀b o,h1.get? b=ζ o->h'.get? b=ζ o)->h'.get? h1.objs.size=ζ (seqObj "list" out c) ->
   ag5 out.toList ((cM xs).map λn:Nat=>(n:Int))->Q (.ref h1.objs.size) {s with heap:=h',toks:=tk}) :
  wpAny (model prog w) A (call (.builtin "sorted") [.ref a]) Q E s:=by
 obtain⟨o,es,ep,t,ho,hex,hd,hI,hl,hs⟩:=hS;have hlen:es.size<64:=by
  have h1:=hs.len;rw[apO]at h1;omega
 have hok:gH w s.heap a es ep t:=⟨o,ho,hex,hd,hI,hl⟩;refine Calls.call_function_entry kind_sorted plain_sorted entry_sorted (args_sorted1 _) ?_;unfold Builtin.«sorted»;refine apq (m:=checkCount "sorted" 1 1 _) (apr ?_);refine apq (kdu_collect (A:=A.in1) (VQ (prog:=prog)) hh hok (by rw[arh];omega) λh1 tk acc hk hacc=>?_)
 have ajf:acc.toList=(gW w a ep es).toList.map (·.2):=by
  have hlo:=(wX w a ep es).length_eq;rw[apO,apO]at hlo;apply auJ;intro i
  rcases arU i acc.size with q|q
  ·have h3:=hacc.2 i acc[i] (arC q);rw[apM,ap2,ap2,h3,arC q]
  ·have h4:=hacc.1;rw[aq9 (by simpa using q),aq9 (by simp;omega)]
 have hp:=wX w a ep es;have hI2:ag5 acc.toList ((gW w a ep es).toList.map (·.1)):=by
  rw[ajf];exact Oz λe he=>hs.2 e (hp.mem_iff.mp he)
 have hal:acc.toList.length<64:=by rw[apO,hacc.1];exact hlen
 refine apq (wpAny_newList ?_ (by rw[arh];omega))
 have xT:(h1.push (seqObj "list" acc.toList.toArray 0)).get? h1.objs.size=ζ (seqObj "list" acc.toList.toArray 0):=apF _ rfl;refine apq (aqk (aqD slot_list_sort ⟨_,xT,rfl⟩ entry_list_sort (list_sort_tree (s:={s with heap:=h1.push (seqObj "list" acc.toList.toArray 0),toks:=tk}) xT hI2 hal λout zs a1 a2 a3=>⟨_,rfl,?_⟩) (args_list_sort _)))
 refine apr ⟨_,rfl,?_⟩;have hz:=VZ (a2.trans ((hp.map _).trans hs.1)) a3;rw[hz]at a1;have hne:∀b o,h1.get? b=ζ o->b≠h1.objs.size:=λb o e=>apz (apy e)
 have g1:=get?_update_seq xT (λ_=>#[])
 have g2:=get?_update_seq (apt (seqObj "list" #[] 0) (apt (seqObj "tuple" acc.toList.toArray 0) g1)) λ_=>out
 refine h h1 _ tk _ out hk (λb o e=>?_) g2 a1
 have q:=aqh (hne b o e);exact(arj _ _ q).trans (apt _ (apt _ ((arj _ _ q).trans (apt _ e))))
end
abbrev nV(ns:List Nat):List V:=ns.map λn:Nat=>V.int n
abbrev nD(ns:List Nat):List D:=ns.map λn:Nat=>D.int n
def jx(w:ψ) (a:Θ) (ns:List Nat):χ->Prop:=λh=>dw w h a (dY ns)
theorem CP:∀{ns:List Nat}{us:List Γ},Vals (nV ns) us->ag5 us (ns.map λn:Nat=>(n:Int))
 |[],_,.nil=>.nil
 |n::ns,_,.cons ⟨t,e⟩ r=>by subst e;exact .cons _ _ (CP r)
theorem Sa:∀{ns:List Nat}{us:List Γ},ag5 us (ns.map λn:Nat=>(n:Int))->Vals (nV ns) us
 |[],_,.nil=>.nil
 |n::ns,_,.cons _ t r=>.cons ⟨t,rfl⟩ (Sa r)
section
variable {X:Cx}
def Yv(X:Cx):List V->Hp->VK->Prop:=λxs H Q=>∃a ns,xs=[.ref a]/\bD X.K H a (nV ns)/\(cM ns).length<64/\(∀x∈ns,x<128)/\∀p,H p=η->Q (.ref p) (upd H p (.ext (jx X.w p ns)))
theorem Qs(hc:X.calm=ξ:=by rfl):d9 X (.type "set") (Yv X):=by
 intro pins s σ H xs us Q I rv h;obtain⟨a,ns,rfl,sq,hb,hx,q⟩:=h;obtain⟨u,rfl,ru⟩:=aqc rv;cases ru;obtain⟨its,ri,pl,hz⟩:=I.list sq;refine Xl (xs:=ns) (I.ok.hd hc) pl.isList (by simpa using CP ri) hx (by rw[<-wj];exact hb) λh' tk hS kp=>?_
 have hf:H s.heap.objs.size=η:=I.hok.fresh (aps _);have jd:=hS;obtain⟨o,es,ep,t,ho,_⟩:=jd;refine⟨.ref s.heap.objs.size,upd H s.heap.objs.size (.ext (jx X.w s.heap.objs.size ns)),I.laid (t':=tk) (λb u e=>kp b u (apy e) e) (aps _) ?_,rfl,q _ hf⟩
 exact⟨hS,⟨o,ho⟩,λh1 h2 x k=>x.at k⟩
def Ys(X:Cx):List V->Hp->VK->Prop:=λxs H Q=>∃a ns,xs=[.ref a]/\H a=ζ (.ext (jx X.w a ns))/\(cM ns).length<64/\∀p,H p=η->Q (.ref p) (upd H p (.lst (nV (cM ns))))
theorem ak5(hc:X.calm=ξ:=by rfl):d9 X (.builtin "sorted") (Ys X):=by
 intro pins s σ H xs us Q I rv h;obtain⟨a,ns,rfl,hH,hn,q⟩:=h;obtain⟨u,rfl,ru⟩:=aqc rv;cases ru;obtain⟨hS,_,_⟩:=I.hok a _ hH;refine VY (I.ok.hd hc) hS (by rw[<-wj];exact hn) λh1 h' tk c out k1 k2 hp hI=>?_
 have I1:Inv X pins σ H {s with heap:=h1,toks:=tk}:=I.kept k1
 have hf:H h1.objs.size=η:=I1.hok.fresh (aps _);refine⟨.ref h1.objs.size,upd H h1.objs.size (.lst (nV (cM ns))),I1.laid (t':=tk) k2 (aps _) ⟨?_,out.toList,c,Sa hI,by simpa using hp⟩,rfl,q _ hf⟩
 simp only[apC];rw[arh];omega
def jU(l:List D):Option (List Nat):=match jZ l with
 |some ns=>if ns.all (λn=>decide (0<=n/\n<128))=ξ/\(cM (ns.map Int.toNat)).length<64 then ζ (ns.map Int.toNat)else η
 |none=>η
theorem DV{l:List D}{ns:List Nat}(h:jU l=ζ ns):l=nD ns/\(cM ns).length<64/\∀x∈ns,x<128:=by
 unfold jU at h;split at h
 ·rename_i zs hz;split at h
  ·rename_i hc;cases h;refine⟨?_,hc.2,λx hx=>?_⟩
   ·rw[Az hz];unfold nD;rw[apV];refine aqS λz hq=>?_
    have:=of_decide_eq_true (apA.mp hc.1 z hq);show D.int z=D.int (z.toNat:Int)
    congr 1;omega
   ·obtain⟨z,hq,rfl⟩:=apv.mp hx;have:=of_decide_eq_true (apA.mp hc.1 z hq);omega
  ·cases h
 ·cases h
theorem DW{ns:List Nat}(h:(cM ns).length<64) (hx:∀x∈ns,x<128):jU (nD ns)=ζ ns:=by
 unfold jU;have e:nD ns=(ns.map λn:Nat=>(n:Int)).map D.int:=by simp[nD]
 rw[e,xQ];dsimp only;have e:(ns.map λn:Nat=>(n:Int)).map Int.toNat=ns:=by
  rw[apV];have:(Int.toNat ∘ λn:Nat=>(n:Int))=id:=by funext n;simp
  rw[this,asI]
 rw[e,if_pos ⟨apA.mpr λz hz=>by
  obtain⟨n,hn,rfl⟩:=apv.mp hz;have:=hx n hn;exact decide_eq_true (by omega),h⟩]
theorem Dq{K:Ω}{ρ:List Θ}{H:Hp}{ns:List Nat}{xs:List V}(h:aK K ρ H (nD ns) xs):xs=nV ns:=by
 have e:nD ns=(ns.map λn:Nat=>(n:Int)).map D.int:=by simp[nD]
 rw[e]at h;rw[aK.Ay h];simp[nV]
theorem Yo{K:Ω}{ρ:List Θ}{H:Hp}(ns:List Nat):aK K ρ H (nD ns) (nV ns):=by
 have e:nD ns=(ns.map λn:Nat=>(n:Int)).map D.int:=by simp[nD]
 have e':nV ns=(ns.map λn:Nat=>(n:Int)).map V.int:=by simp[nV]
 rw[e,e'];exact aK.ints
theorem xj(ns:List Nat):bN (nD ns)=ξ:=by
 have e:nD ns=(ns.map λn:Nat=>(n:Int)).map D.int:=by simp[nD]
 rw[e];exact Ae
def qG(a:aj):af:=λe c=>(a e c).bind λxs c=>match xs with
 |[x]=>match d7 c x with
  |some l=>match jU l with
   |some ns=>.ok (.lst (nD (cM ns))) c
   |none=>.bad
  |none=>.bad
 |_=>.bad
theorem aaG{e:ο}{da:aj}{p1 p2 q1 q2:Pos}{f:List D->aa->R D}(ha:eZ X [e] da) (hm:X.mg "sorted"=η) (hm2:X.mg "set"=η) (hg:Gl X "sorted") (g6:Gl X "set") (hc:X.calm=ξ)
  (he:μ [e] X.env=(Δ,eval e X.env)::μ [] X.env)
  (hf:∀xs c ρ H (Q:VK) vs,Wd X.K ρ H c->aK X.K ρ H xs vs->post X.K (Rel X.K) (f xs c) ρ H Q->∃a ns,vs=[.ref a]/\bD X.K H a (nV ns)/\(cM ns).length<64/\(∀x∈ns,x<128) /\
   ∀p,H p=η->∀q,upd H p (.ext (jx X.w p ns)) q=η->Q (.ref q) (upd (upd H p (.ext (jx X.w p ns))) q (.lst (nV (cM ns))))) :
  bh X (.Call (.Name "sorted" p1) [.Call (.Name "set" p2) [e] [] q2] [] q1) (aF f da):=by
 have xR:PE X (.Call (.Name "set" p2) [e] [] q2) _:=kG (Qs hc) g6 hm2 (by decide +kernel) ha (by decide) (by decide) he (by exact e9 rfl)
 refine(wN (ak5 hc) hg hm (by decide +kernel) (i9 xR jB (cR rfl)) (by decide) (by decide) (by exact cR rfl) (by exact e9 rfl)).imp λσ H Q h=>?_
 obtain⟨ρ,e,c,W,V,p⟩:=h;refine⟨ρ,e,c,W,V,post.bind p λxs c1 aL H1 vs ex W1 X1 r1 p1=>?_⟩
 obtain⟨a,ns,rfl,sq,h64,hx,q⟩:=hf xs c1 aL H1 Q vs W1 r1 p1;exact⟨a,ns,rfl,sq,h64,hx,λp hp=>⟨p,ns,rfl,e8,h64,λq' hq=>q p hp q' hq⟩⟩
def LU:List D->aa->R D:=λxs c=>match xs with
 |[x]=>match d7 c x with
  |some l=>match jU l with
   |some ns=>.ok (.lst (nD (cM ns))) c
   |none=>.bad
  |none=>.bad
 |_=>.bad
theorem aa0{e:ο}{da:aj}{p1 p2 q1 q2:Pos}(ha:eZ X [e] da) (hm:X.mg "sorted"=η) (hm2:X.mg "set"=η) (hg:Gl X "sorted":=by rfl) (g6:Gl X "set":=by rfl) (hc:X.calm=ξ:=by rfl)
  (he:μ [e] X.env=(Δ,eval e X.env)::μ [] X.env:=by exact cR rfl):bh X (.Call (.Name "sorted" p1) [.Call (.Name "set" p2) [e] [] q2] [] q1) (qG da) :=
 aaG (f:=LU) ha hm hm2 hg g6 hc he λxs c ρ H Q vs W r p=>by
  unfold LU at p;split at p
  ·rename_i x;obtain⟨v,rr,rfl,hx,hr⟩:=r;cases hr;split at p
   ·rename_i l hl;split at p
    ·rename_i ns hn;obtain⟨rfl,h64,hx'⟩:=DV hn;obtain⟨a,ys,rfl,ha',rl⟩:=lS W hx hl;cases Dq rl;refine⟨a,ns,rfl,bD.of ha',h64,hx',λq hq q' hq'=>?_⟩
     exact uc (W.fresh hq) (Yo _) (post.ext p (Ext.fresh W hq)) q' hq'
    ·exact p.elim
   ·exact p.elim
  ·exact p.elim
end
section
variable (a:aj) (e:Ev) (c:aa)
@[simp] theorem anF:qG a e c=(a e c).bind λxs c=>match xs with
 |[x]=>match d7 c x with
  |some l=>match jU l with
   |some ns=>.ok (.lst (nD (cM ns))) c
   |none=>.bad
  |none=>.bad
 |_=>.bad:=rfl
end
section
variable {prog:υ}{w:ψ}{A:acr}{E:Γ->ε->Prop}{s:ε}
theorem Xo{a:Θ}{ns:List Nat}{m:Nat}{tk:Tok}{Q:Option Nat->ε->Prop}(hm:m<128) (hS:dw w s.heap a ns) (hn:ns.length<64)
  (h:∀r:Option Nat,r.isSome=decide (m∈ns)->Q r s):wpAny (model prog w) A (setFind a (.int m tk) (m:Int)) Q E s:=by
 obtain⟨o,es,ep,t,ho,hex,hd,hI,hl,hs⟩:=hS;have hsz:es.size=ns.length:=by rw[<-apO];exact hs.len
 have hS':s.heap.SetOf (intKind prog w) a (λk=>es.toList.any λe=>(intKind prog w).is k e.2) es.size:=⟨o,es,ep,t,ho,hex,hd,hs.els,λk=>by rw[aqO],by unfold scanBound;omega,hI.fits,rfl⟩
 have hkey:(intKind prog w).is (m:Int) (.int m tk)=ξ:=by simp[intKind,Value.isInt]
 have:=wpAny_setFind_of (A:=A) (E:=E) (Q:=Q) hkey rfl hS' λr hr=>h r (by
  rw[hr,aqI,aqO,decide_eq_true_eq,hs.mem m]
  constructor
  ·rintro ⟨e,he,q⟩
   obtain⟨n,tk',rfl,_⟩:=hs.2 e he;obtain⟨t',q⟩:=arI (show Value.isInt (m:Int) (.int (n:Int) tk')=ξ from q)
   exact⟨_,he,by injection q⟩
  ·rintro ⟨e,he,q⟩
   obtain⟨n,tk',rfl,_⟩:=hs.2 e he;have e:n=m:=by dsimp only at q;omega
   subst e;exact⟨_,he,by simp[intKind,Value.isInt]⟩)
 have e:(intKind prog w).hash (m:Int)=(m:Int):=AK hm
 rwa[e]at this
theorem Ui{a r:Θ}{others:List Θ}{es:Array (Int×Γ)}{ep:Nat}{t:ω}{Q:Array (Int×Γ)->ε->Prop}(hS:gH w s.heap a es ep t) (h:Q (gW w a ep es) s):wpAny (model prog w) A (setWalkUnseen a others (ζ r)) Q E s:=by
 obtain⟨o,ho,hex,hd,hI,hl⟩:=hS;have key:wpAny (model prog w) A (setWalk a) Q E s:=by
  unfold setWalk;refine apq (aqz ho hd hI.fits ?_);dsimp only;refine apq ?_;unfold setsByText;refine apq (aqR (apr ?_));show wpAny _ _ (if fH w=ξ then _ else _) _ _ _
  unfold gW at h;cases hb:fH w with
  |true =>
   rw[hb]at h;simp only[if_true]at h ⊢;exact apq (aqR (apr h))
  |false =>
   rw[hb]at h hl;simp only[apX,if_false]at h ⊢;show wpAny _ _ (if(!t.plain&&decide (es.size>1))=ξ then _ else _) _ _ _
   rw[hI.plain];simp only[aq1,asa,apX,if_false];refine apq (arq (a:=()) ?_ (apr h));show(if(!t.led&&decide (es.size>1))=ξ then _ else _)=_
   rw[hl];rfl
 unfold setWalkUnseen;refine apq (aqz ho hd hI.fits ?_);dsimp only;refine apq ?_;unfold setsByText;refine apq (aqR (apr ?_));show wpAny _ _ (if(fH w||(t.led&&t.plain)||decide (es.size<=1))=ξ then _ else _) _ _ _
 have e:(fH w||(t.led&&t.plain)||decide (es.size<=1))=ξ:=by rw[hl,hI.plain];cases fH w<;>simp
 rw[if_pos e]
 first|exact key|exact apq key
theorem xq:∀{l m:List Nat},l.Nodup->(∀x∈l,x∈m)->l.length<=m.length
 |[],m,_,_=>aqm _
 |x::l,m,h,hs=>by
  obtain⟨h1,h2⟩:=aqu.mp h;have hx:=hs x (.head _);have:=xq (m:=m.erase x) h2 λy hy=>(ate (λe:y=x=>h1 (by rw[<-e];exact hy))).mpr (hs y (.tail _ hy))
  rw[atf hx]at this;have:=auv hx;rw[apL];omega
theorem amf{asked walked r:Θ}{ns ms:List Nat}{es:Array (Int×Γ)}{ep:Nat}{t:ω}{Q:Unit->ε->Prop}(id:String) (hra:asked≠r) (hrw:walked≠r) (ha:dw w s.heap asked ns) (hw:gH w s.heap walked es ep t) (hs:gG es.toList ms) (hr:dw w s.heap r []) (hn:ns.length<64)
  (h:∀(h':χ) (rs:List Nat),dw w h' r rs->rs.Nodup->(∀x,x∈rs↔x∈ns/\x∈ms)->(∀b o,b≠r->s.heap.get? b=ζ o->h'.get? b=ζ o)->Q () {s with heap:=h'}) :
  wpAny (model prog w) A (forIn (gW w walked ep es) PUnit.unit fun(p:Int×Γ) (_:PUnit)=>do
   holding [p.2] (do if(<-setFind asked p.2 p.1).isSome=ξ then(do let _ <-setAddHashed r p.2 p.1;pure PUnit.unit)else pure PUnit.unit)
   Builtin.Frozenset.unchanged id walked ep
   pure (ForInStep.yield PUnit.unit)) Q E s:=by
 have hp:=wX w walked ep es;refine PySem.MeetsSeq2.wpAny_forIn_array _ (λrest _ s'=>∃(h':χ) (rs:List Nat) (done:List (Int×Γ)),s'={s with heap:=h'}/\(gW w walked ep es).toList=done++rest/\dw w h' r rs/\rs.Nodup/\(∀x:Nat,x∈rs↔x∈ns/\∃e∈done,e.1=(x:Int))/\(∀b o,b≠r->s.heap.get? b=ζ o->h'.get? b=ζ o)) _ ?_ ?_ _ _
  ⟨s.heap,[],[],rfl,rfl,hr,.nil,λx=>by simp,λ_ _ _ e=>e⟩
 ·rintro ⟨hx,x⟩ rest u s' ⟨h',rs,done,rfl,hl,hR,hnd,hmem,hk⟩
  have hin:(hx,x)∈es.toList:=hp.mem_iff.mp (by rw[hl];simp)
  obtain⟨n,tk,e,Gv⟩:=hs.2 _ hin;cases e;have ha':dw w h' asked ns:=ha.at λo e=>hk asked o hra e
  have hw':gH w h' walked es ep t:=hw.at λo e=>hk walked o hrw e
  have hrl:rs.length<64:=aqL (xq hnd λx hx=>((hmem x).mp hx).1) hn
  have tail:∀(Q':ForInStep PUnit->ε->Prop) (h2:χ),(∀b o,b≠r->s.heap.get? b=ζ o->h2.get? b=ζ o)->Q' (.yield PUnit.unit) {s with heap:=h2} ->
    wpAny (model prog w) A (Builtin.Frozenset.unchanged id walked ep >>= λ_=>pure (ForInStep.yield PUnit.unit)) Q' E {s with heap:=h2}:=by
   intro Q' h2 q4 q;obtain⟨o,ho,_,hd,hI,_⟩:=hw.at λo e=>q4 walked o hrw e
   unfold Builtin.Frozenset.unchanged;refine apq (apq (atB ho hd hI.fits ?_));rw[if_neg (by simp)]
   exact apr (apr q)
  dsimp only;refine apq (aqk (apq (Xo (s:={s with heap:=h'}) Gv ha' hn λres hres=>?_)))
  by_cases hq:n∈ns
  ·have Gs:res.isSome=ξ:=by rw[hres];exact decide_eq_true hq
   rw[if_pos Gs];have hh:hashInt (n:Int)=n:=AK Gv;have key:=L0 (prog:=prog) (A:=A) (E:=E) (s:={s with heap:=h'}) (tk:=tk) (Q:=λ_ s'=>∃h2,s'={s with heap:=h2}/\dw w h2 r (gf rs n)/\∀b o,b≠r->s.heap.get? b=ζ o->h2.get? b=ζ o) Gv hR hrl
    λbb h2 gv jd=>⟨h2,rfl,jd,λb o hb e=>by rw[gv.2 b hb];exact hk b o hb e⟩
   rw[hh]at key;refine apq (ap4 key (λbb s2 q=>?_) λ_ _ q=>q)
   obtain⟨h2,rfl,jd,hk2⟩:=q;refine apr (tail _ h2 hk2 ⟨h2,gf rs n,done++[((n:Int),Value.int n tk)],rfl,by rw[hl];simp,jd,ND hnd,λx=>?_,hk2⟩)
   rw[NS,hmem x]
   constructor
   ·rintro (⟨a1,e,he,q⟩|rfl)
    ·exact⟨a1,e,by simp[he],q⟩
    ·exact⟨hq,((x:Int),Value.int x tk),by simp,rfl⟩
   ·rintro ⟨a1,e,he,q⟩
    rcases ap1.mp he with he|he
    ·exact .inl ⟨a1,e,he,q⟩
    ·rw[aqa]at he;subst he
     right
     dsimp only at q;omega
  ·have Gs:¬(res.isSome=ξ):=by rw[hres];simpa using hq
   rw[if_neg Gs];refine apr (tail _ h' hk ⟨h',rs,done++[((n:Int),Value.int n tk)],rfl,by rw[hl];simp,hR,hnd,λx=>?_,hk⟩)
   rw[hmem x]
   constructor
   ·rintro ⟨a1,e,he,q⟩
    exact⟨a1,e,by simp[he],q⟩
   ·rintro ⟨a1,e,he,q⟩
    rcases ap1.mp he with he|he
    ·exact⟨a1,e,he,q⟩
    ·rw[aqa]at he;subst he;have e2:x=n:=by dsimp only at q;omega
     exact absurd (e2▸a1) hq
 ·rintro u s' ⟨h',rs,done,rfl,hl,hR,hnd,hmem,hk⟩
  rw[aqJ]at hl;refine h h' rs hR hnd (λx=>?_) hk
  rw[hmem x,hs.mem x,<-hl]
  constructor
  ·rintro ⟨a1,e,he,q⟩;exact⟨a1,e,hp.mem_iff.mp he,q⟩
  ·rintro ⟨a1,e,he,q⟩;exact⟨a1,e,hp.mem_iff.mpr he,q⟩
theorem amg(id:String) {a b:Θ}{ns ms:List Nat}{Q:Γ->ε->Prop}(hne:(Value.ref b==Value.ref a)=Δ) (ha:dw w s.heap a ns) (hb:dw w s.heap b ms) (hn:ns.length<64) (hm:ms.length<64) (hnd:ns.Nodup) (hmd:ms.Nodup)
  (h:∀(h':χ) (rs:List Nat),dw w h' s.heap.objs.size rs->rs.Nodup->(∀x,x∈rs↔x∈ns/\x∈ms)->(∀b o,s.heap.get? b=ζ o->h'.get? b=ζ o)->Q (.ref s.heap.objs.size) {s with heap:=h'}) :
  wpAny (model prog w) A (Builtin.Frozenset.intersection id a (.ref b)) Q E s:=by
 have hTa:s.TypeIs (.ref a) "set":=by obtain⟨o,_,_,_,ho,hx,_⟩:=ha;exact⟨o,ho,hx.1⟩
 have hTb:s.TypeIs (.ref b) "set":=by obtain⟨o,_,_,_,ho,hx,_⟩:=hb;exact⟨o,ho,hx.1⟩
 unfold Builtin.Frozenset.intersection;rw[if_neg (by rw[hne];exact apP)]
 refine apq ?_;unfold Builtin.Frozenset.baseOf;refine apq (art hTa arZ (apr ?_));simp only[if_true];refine apq ?_;unfold newSet setsByText;refine apq (apq (aqR (apr ?_)));dsimp only;simp only[newObj];refine apq (wpAny_alloc (apr ?_));show wpAny _ _ (Builtin.Frozenset.addrOf (.ref s.heap.objs.size) >>= _) _ _ {s with heap:=s.heap.push (cQ w)}
 refine apq (apr ?_);have ah5:ahn {s with heap:=s.heap.push (cQ w)} (.ref b) "set":=by obtain⟨o,_,_,_,ho,hx,_⟩:=hb;exact⟨o,apt _ ho,hx.1⟩
 refine apq (aqk (apq ?_));unfold Builtin.Frozenset.isAnySet;refine apq (art (T:="set") (b:=ξ) ah5 arZ ?_);show wpAny _ _ (pure ξ) _ _ _;refine apr ?_;rw[if_pos rfl];refine apq (apr ?_);have ha1:dw w (s.heap.push (cQ w)) a ns:=ha.at λo e=>apt _ e
 have hb1:dw w (s.heap.push (cQ w)) b ms:=hb.at λo e=>apt _ e
 have hr1:dw w (s.heap.push (cQ w)) s.heap.objs.size []:=HY w (apF _ rfl);have O8:a≠s.heap.objs.size:=by obtain⟨o,_,_,_,ho,_⟩:=ha;exact apz (apy ho)
 have O7:b≠s.heap.objs.size:=by obtain⟨o,_,_,_,ho,_⟩:=hb;exact apz (apy ho)
 have go:∀(asked walked:Θ) (ns' ms':List Nat),asked≠s.heap.objs.size->walked≠s.heap.objs.size->dw w (s.heap.push (cQ w)) asked ns'->dw w (s.heap.push (cQ w)) walked ms'->ns'.length<64->(∀x,(x∈ns'/\x∈ms')↔(x∈ns/\x∈ms)) ->
   wpAny (model prog w) A (do
    let was <-setEpoch walked
    let arr <-setWalkUnseen walked [asked,s.heap.objs.size] (ζ s.heap.objs.size)
    forIn arr PUnit.unit fun(p:Int×Γ) (_:PUnit)=>do
     holding [p.2] (do if(<-setFind asked p.2 p.1).isSome=ξ then(do let _ <-setAddHashed s.heap.objs.size p.2 p.1;pure PUnit.unit)else pure PUnit.unit)
     Builtin.Frozenset.unchanged id walked was
     pure (ForInStep.yield PUnit.unit)
    pure ()) (λ_ s'=>wpAny (model prog w) A (pure (Value.ref s.heap.objs.size)) Q E s') E {s with heap:=s.heap.push (cQ w)}:=by
  intro asked walked ns' ms' n1 n2 h1 h2 hl hmm;obtain⟨o,es,ep,t,ho,hex,hd,hI,OZ,hs⟩:=h2;refine apq (atB ho hd hI.fits ?_);refine apq (Ui (es:=es) (ep:=ep) (t:=t) ⟨o,ho,hex,hd,hI,OZ⟩ ?_);refine apq (amf (s:={s with heap:=s.heap.push (cQ w)}) id n1 n2 h1 ⟨o,ho,hex,hd,hI,OZ⟩ hs hr1 hl λh' rs q1 q2 q3 q4=>?_)
  refine apr (apr (h h' rs q1 q2 (λx=>(q3 x).trans (hmm x)) λb' o' e=>q4 b' o' (apz (apy e)) (apt _ e)))
 obtain⟨oa,esa,epa,ta,hoa,_,hda,hIa,_,_⟩:=_root_.id ha1;obtain⟨ob,esb,epb,tb,hob,_,hdb,hIb,_,_⟩:=_root_.id hb1;unfold Builtin.Frozenset.sizeOf;refine apq (apq (ar0 hob hdb hIb.fits (apr ?_)));refine apq (apq (ar0 hoa hda hIa.fits (apr ?_)))
 by_cases hsz:esb.size>esa.size
 ·simp only[if_pos hsz];exact go b a ms ns O7 O8 hb1 ha1 hm λx=>⟨fun⟨u,v⟩=>⟨v,u⟩,fun⟨u,v⟩=>⟨v,u⟩⟩
 ·simp only[if_neg hsz];exact go a b ns ms O8 O7 ha1 hb1 hn λx=>Iff.rfl
theorem VH:entryFor table "set.__and__"=ζ Builtin.«frozenset.__and__» :=
 aty (id':="frozenset.__and__") (by kernel_rfl) rfl (by decide +kernel) (by kernel_rfl)
theorem RW{v:Γ}{Q:Bool->ε->Prop}(hT:s.TypeIs v "set") (h:Q ξ s):wpAny (model prog w) A (Builtin.Frozenset.isAnySet v) Q E s:=by
 unfold Builtin.Frozenset.isAnySet;refine apq (art (T:="set") (b:=ξ) hT arZ ?_);exact apr h
theorem Xp{a b:Θ}{ns ms:List Nat}{Q:Γ->ε->Prop}(hab:a≠b) (ha:dw w s.heap a ns) (hb:dw w s.heap b ms) (hn:ns.length<64) (hm:ms.length<64) (hnd:ns.Nodup) (hmd:ms.Nodup)
  (h:∀(h':χ) (rs:List Nat),dw w h' s.heap.objs.size rs->rs.Nodup->(∀x,x∈rs↔x∈ns/\x∈ms)->(∀b o,s.heap.get? b=ζ o->h'.get? b=ζ o)->Q (.ref s.heap.objs.size) {s with heap:=h'}) :
  wpAny (model prog w) A (binaryOp .BitAnd (.ref a) (.ref b)) Q E s:=by
 have hTa:s.TypeIs (.ref a) "set":=by obtain⟨o,_,_,_,ho,hx,_⟩:=ha;exact⟨o,ho,hx.1⟩
 have hTb:s.TypeIs (.ref b) "set":=by obtain⟨o,_,_,_,ho,hx,_⟩:=hb;exact⟨o,ho,hx.1⟩
 refine wpAny_binaryOp_same hTa hTb PySem.F.fills_set_and auK (aqD auK hTa VH ?_ (PySem.F.args_set_and_2 _ _));unfold Builtin.«frozenset.__and__»;show wpAny _ _ (Builtin.Frozenset.slot1 "__and__" ⟨[.ref a,.ref b],[]⟩ >>= _) _ _ _;refine apq (apq (apr (apr ?_)));dsimp only;simp only[apX,if_false];refine apq (apq (RW hTa ?_));refine RW hTb ?_;simp only[aq1,apX,if_false];refine apq (apr ?_);refine apq (amg _ (by simpa using aqh hab) ha hb hn hm hnd hmd λh' rs q1 q2 q3 q4=>?_)
 exact apr ⟨_,rfl,(λe=>by cases e),h h' rs q1 q2 q3 q4⟩
end
theorem sub_tuple_set:isSubtype (.type "tuple") (.type "set")=pure Δ:=by rw[asH];kernel_rfl
theorem sub_tuple_frozenset:isSubtype (.type "tuple") (.type "frozenset")=pure Δ:=by rw[asH];kernel_rfl
section
variable {prog:υ}{w:ψ}{A:acr}{s:ε}{E:Γ->ε->Prop}
set_option maxHeartbeats 3200000 in
theorem Xj{l:Θ}{items:Array Γ}{xs:List Nat}{Q:Γ->ε->Prop}(hh:A.handled=η) (hl:s.heap.IsTuple l items) (hi:ag5 items.toList (xs.map λn:Nat=>(n:Int))) (hx:∀x∈xs,x<128) (h64:(dY xs).length<64)
  (h:∀(h':χ) (tk:Nat),dw w h' s.heap.objs.size (dY xs)->(∀b o,b<s.heap.objs.size->s.heap.get? b=ζ o->h'.get? b=ζ o)->Q (.ref s.heap.objs.size) {s with heap:=h',toks:=tk}) :
  wpAny (model prog w) A (call (.type "set") [.ref l]) Q E s:=by
 obtain⟨c,tl,OY⟩:=apU.mro;have hmade:=apU.made;have hsub:=apU.sub;refine ari (asG (show wpAny _ _ (callAny (.type "set") _) _ _ _ from ?_))
 refine apr ⟨atp _ (by decide +kernel),aq0 atq ?_⟩
 rw[atr (ats "set" [.ref l] []) rfl];have h1:=apU.notType;have h2:=apU.canCreate;have hct:=att (.ref l)
 repeat any_goals (first|assumption|wp_step)
 refine aqt (C6 (.ref l) (E:=E) (Q₁:=λobj s₁=>obj=.ref s.heap.objs.size/\s₁={s with heap:=s.heap.push (cQ w)}) ⟨rfl,rfl⟩) λr s₁ hr=>?_
 cases r with
 |error e=>exact hr
 |ok fl =>
  cases fl with
  |ret obj =>
   obtain⟨rfl,rfl⟩:=hr;have hS:(s.heap.push (cQ w)).get? s.heap.objs.size=ζ (cQ w):=apF _ rfl;have hT:ahn {s with heap:=s.heap.push (cQ w)} (.ref s.heap.objs.size) "set":=⟨_,hS,rfl⟩
   have hli:=apU.init.lookup;have hbi:=apU.init.bind (.ref s.heap.objs.size)
   repeat any_goals (first|assumption|wp_step)
   refine aqt (atu (R:=wants (λr s₂=>r=.none/\∃h' tk,s₂={s with heap:=h',toks:=tk}/\dw w h' s.heap.objs.size (dY xs) /\
     (∀b o,b<s.heap.objs.size->s.heap.get? b=ζ o->h'.get? b=ζ o)) E) apU.init.plain atv (atw hT ?_)) λr₂ s₂ j5=>?_
   ·obtain⟨ol,iB,hcl,nl,hdl⟩:=hl;obtain⟨M7,wZ,MZ,wW⟩:=ol;simp only at hcl hdl;subst hcl;subst hdl;have oQ:(s.heap.push (cQ w)).get? l=ζ {cls:=.type "tuple",dict:=wZ,data:=.seq items nl,slots:=wW}:=apt _ iB;have OQ:=sub_tuple_set;have OR:=sub_tuple_frozenset;have hne:(Value.type "tuple"==Value.type "dict")=Δ:=by decide
    have hl1:(s.heap.push (cQ w)).IsTuple l items:=⟨_,oQ,rfl,nl,rfl⟩;unfold cQ at hS hT oQ ⊢;unfold Builtin.«set.__init__» noKeywords Builtin.Frozenset.updateFrom
    generalize x9:pyIter=PI
    wp_walk
    subst x9;refine aq5 hl1 (apq (atx ?_));have hlS:l<s.heap.objs.size:=apy iB;have hlen:items.size=xs.length:=by have:=hi.length;simpa using this
    have xU:l≠(s.heap.push (cQ w)).objs.size:=by rw[apY];exact apz (aqC hlS)
    have hSf:s.heap.objs.size∉[(s.heap.push (cQ w)).objs.size,l]:=by
     rw[apY];simp only[apu,apI,or_false,not_or];exact⟨apz (aqp _),aqe hlS⟩
    have W:=(Walks.tuple (prog:=prog) (w:=w) (A:=A.in1.in1.in1) (by simp[hh]) (s.heap.push (cQ w)).objs.size l xU items).toS
    rw[hlen]at W;refine LY (xs:=xs) W s.heap.objs.size hSf (λi v hi' hv=>?_) hx h64 xs.length 0 _ (by omega) (aqm _) ⟨⟨_,apF _ rfl,rfl,rfl⟩,hl1.at λo e=>apt _ e⟩ (HY w (apt _ hS)) λs' hm hS'=>?_
    ·obtain⟨t,e⟩:=IntsAre.int_at hi i v (by rw[ap2];exact hv)
     exact⟨t,by rw[e];simp[apD,apw hi']⟩
    ·obtain⟨h',g',d',tk',os'⟩:=s';cases(show g'=s.gens from hm.gens)
     cases(show d'=s.drawn from hm.drawn)
     cases(show os'=s.os from hm.os)
     refine apr (apr ⟨rfl,h',tk',rfl,hS',λb o hb e=>?_⟩)
     exact hm.heap b o (by rw[apY];simp only[apu,apI,or_false,not_or];exact⟨apz hb,apz (aqC hb)⟩) (apt _ (apt _ e))
   ·cases r₂ with
    |error e=>exact j5
    |ok ye =>
     cases ye with
     |ret r =>
      obtain⟨rfl,h',tk,rfl,hS',hk'⟩:=j5
      repeat any_goals (first|assumption|wp_step)
      exact h _ _ hS' hk'
     |_=>exact j5.elim
  |_=>exact hr.elim
end
def C8(w:ψ) (a:Θ) (rs:List Nat):χ->Prop:=λh=>dw w h a rs
def pF(ns ms:List Nat):Nat:=((cM ns).filter λx=>decide (x∈ms)).length
theorem RJ{ns ms rs:List Nat}(hn:rs.Nodup) (h:∀x,x∈rs↔x∈ns/\x∈ms):rs.length=pF ns ms:=by
 have hp:rs.Perm ((cM ns).filter λx=>decide (x∈ms)):=by
  refine(atD hn ((xo (nN ns)).filter _)).mpr λx=>?_
  rw[h x,aqB,kL,decide_eq_true_eq]
 exact hp.length_eq
section
variable {X:Cx}
def Yx(X:Cx):List V->Hp->VK->Prop:=λxs H Q=>∃a ns,xs=[.ref a]/\(bD X.K H a (nV ns)\/cF X.K H a (nV ns))/\(cM ns).length<64/\(∀x∈ns,x<128)/\∀p,H p=η->Q (.ref p) (upd H p (.ext (jx X.w p ns)))
theorem IM(hc:X.calm=ξ:=by rfl):d9 X (.type "set") (Yx X):=by
 intro pins s σ H xs us Q I rv h;obtain⟨a,ns,rfl,sq,hb,hx,q⟩:=h
 rcases sq with sq|sq
 ·exact Qs hc pins s σ H _ us Q I rv ⟨a,ns,rfl,sq,hb,hx,q⟩
 ·obtain⟨u,rfl,ru⟩:=aqc rv;cases ru;obtain⟨its,ri,pl,hz⟩:=I.tuple sq;refine Xj (xs:=ns) (I.ok.hd hc) (show s.heap.IsTuple a its.toArray from pl) (by simpa using CP ri) hx (by rw[<-wj];exact hb) λh' tk hS kp=>?_
  have hf:H s.heap.objs.size=η:=I.hok.fresh (aps _);have jd:=hS;obtain⟨o,es,ep,t,ho,_⟩:=jd;refine⟨.ref s.heap.objs.size,upd H s.heap.objs.size (.ext (jx X.w s.heap.objs.size ns)),I.laid (t':=tk) (λb u e=>kp b u (apy e) e) (aps _) ?_,rfl,q _ hf⟩
  exact⟨hS,⟨o,ho⟩,λh1 h2 x k=>x.at k⟩
def YO(X:Cx):R2:=λx y H Q=>∃a b ns ms,x=.ref a/\y=.ref b/\a≠b/\H a=ζ (.ext (jx X.w a ns))/\H b=ζ (.ext (jx X.w b ms))/\(cM ns).length<64/\(cM ms).length<64 /\
 ∀p rs,H p=η->rs.length=pF ns ms->rs.length<64->Q (.ref p) (upd H p (.ext (C8 X.w p rs)))
theorem abD:bW X (binaryOp .BitAnd) (YO X):=by
 intro pins s σ H x y v u Q I rx ry h;obtain⟨a,b,ns,ms,rfl,rfl,hab,ha,hb,h1,h2,q⟩:=h;cases rx;cases ry;obtain⟨hA,_,_⟩:=I.hok a _ ha;obtain⟨hB,_,_⟩:=I.hok b _ hb;rw[wj]at h1 h2;refine Xp hab hA hB h1 h2 (xr .nil) (xr .nil) λh' rs q1 q2 q3 q4=>?_
 have hmem:∀x,x∈rs↔x∈ns/\x∈ms:=λx=>by
  rw[q3 x];unfold dY;rw[xy,xy];simp
 have hf:H s.heap.objs.size=η:=I.hok.fresh (aps _);have hl:rs.length<64:=aqL (xq q2 λx hx=>((q3 x).mp hx).1) h1
 have YQ:=q1;obtain⟨o,es,ep,t,ho,_⟩:=YQ;refine⟨.ref s.heap.objs.size,upd H s.heap.objs.size (.ext (C8 X.w s.heap.objs.size rs)),I.laid (t':=s.toks) q4 (aps _) ⟨q1,⟨o,ho⟩,λh1 h2 x k=>x.at k⟩,rfl,q _ rs hf (RJ q2 hmem) hl⟩
def YD(X:Cx):List V->Hp->VK->Prop:=λxs H Q=>∃a rs,xs=[.ref a]/\H a=ζ (.ext (C8 X.w a rs))/\rs.length<64/\Q (.int (rs.length:Nat)) H
theorem ak8:d9 X (.builtin "len") (YD X):=by
 intro pins s σ H xs us Q I rv h;obtain⟨a,rs,rfl,hH,hn,q⟩:=h;obtain⟨u,rfl,ru⟩:=aqc rv;cases ru;obtain⟨hS,_,_⟩:=I.hok a _ hH;obtain⟨o,es,ep,t,ho,hex,hd,hI,hl,hs⟩:=hS;have he:es.size=rs.length:=by rw[<-apO];exact hs.len
 refine atE ho hex hd hI.fits (by rw[he];omega) ⟨.int (rs.length:Nat),H,I.tok _,⟨_,by rw[he]⟩,q⟩
def jD(c:aa):D->Option (List Nat)
 |.tup l=>jU l
 |x=>match d7 c x with
  |some l=>jU l
  |none=>η
theorem DX{K:Ω}{ρ:List Θ}{H:Hp}{c:aa}{x:D}{v:V}{ns:List Nat}(W:Wd K ρ H c) (r:Rel K ρ H x v) (h:jD c x=ζ ns):∃a,v=.ref a/\(bD K H a (nV ns)\/cF K H a (nV ns))/\(cM ns).length<64/\∀x∈ns,x<128:=by
 unfold jD at h;split at h
 ·obtain⟨rfl,h64,hx⟩:=DV h;obtain⟨a,xs,rfl,ha,rl⟩:=r;cases Dq rl;exact⟨a,rfl,.inr (cF.of ha),h64,hx⟩
 ·split at h
  ·rename_i l hl;obtain⟨rfl,h64,hx⟩:=DV h;obtain⟨a,ys,rfl,ha,rl⟩:=lS W r hl;cases Dq rl;exact⟨a,rfl,.inl (bD.of ha),h64,hx⟩
  ·cases h
def uV(a b:aj):af:=λe c=>(a e c).bind λxs c=>match xs with
 |[x]=>match jD c x with
  |some ns=>(b e c).bind λys c=>match ys with
   |[y]=>match jD c y with
    |some ms=>.ok (.int (pF ns ms:Nat)) c
    |none=>.bad
   |_=>.bad
  |none=>.bad
 |_=>.bad
theorem aa6{a b:ο}{da db:aj}{p0 p1 p2 q0 q1 q2 q3:Pos}(ha:eZ X [a] da) (hb:eZ X [b] db) (hm:X.mg "len"=η) (hm2:X.mg "set"=η) (hg:Gl X "len":=by rfl) (g6:Gl X "set":=by rfl) (hc:X.calm=ξ:=by rfl)
  (he:μ [a] X.env=(Δ,eval a X.env)::μ [] X.env:=by exact cR rfl) (he2:μ [b] X.env=(Δ,eval b X.env)::μ [] X.env:=by exact cR rfl) :
  bh X (.Call (.Name "len" p0) [.BinOp (.Call (.Name "set" p1) [a] [] q1) .BitAnd (.Call (.Name "set" p2) [b] [] q2) q3] [] q0) (uV da db):=by
 have h1:PE X (.Call (.Name "set" p1) [a] [] q1) _:=kG (IM hc) g6 hm2 (by decide +kernel) ha (by decide) (by decide) he (by exact e9 rfl)
 have h2:PE X (.Call (.Name "set" p2) [b] [] q2) _:=kG (IM hc) g6 hm2 (by decide +kernel) hb (by decide) (by decide) he2 (by exact e9 rfl)
 have h3:PE X (.BinOp (.Call (.Name "set" p1) [a] [] q1) .BitAnd (.Call (.Name "set" p2) [b] [] q2) q3) _:=MC abD h1 h2;refine(wN ak8 hg hm (by decide +kernel) (i9 h3 jB (cR rfl)) (by decide) (by decide) (by exact cR rfl) (by exact e9 rfl)).imp λσ H Q h=>?_
 obtain⟨ρ,e,c,W,V,p⟩:=h;refine⟨ρ,e,c,W,V,post.bind p λxs c1 aL H1 vs ex W1 X1 r1 p1=>?_⟩
 clear ex;split at p1
 ·rename_i x;obtain⟨v,r,rfl,hx,hr⟩:=r1;cases hr;split at p1
  ·rename_i ns hn;obtain⟨ad,rfl,sq,h64,hx'⟩:=DX W1 hx hn;refine⟨ad,ns,rfl,sq,h64,hx',λpa hpa=>?_⟩
   refine⟨aL,e,c1,W1.fresh hpa,(V.mono W X1).mono W1 (Ext.fresh W1 hpa),post.bind (post.ext p1 (Ext.fresh W1 hpa)) λys c2 c8 H2 vs2 ex2 W2 X2 r2 p2=>?_⟩
   clear ex2;split at p2
   ·rename_i y;obtain⟨v2,r',rfl,hy,hr'⟩:=r2;cases hr';split at p2
    ·rename_i ms hm';obtain⟨bd,rfl,VT,Pn,hy'⟩:=DX W2 hy hm';refine⟨bd,ms,rfl,VT,Pn,hy',λpb Gu=>?_⟩
     have ahu:pa∉aL:=W1.nil hpa;have GL:H2 pa=ζ (.ext (jx X.w pa ns)):=(X2.keep pa _ e8 ahu rfl).1;have hne:pa≠pb:=λz=>by rw[z,Gu]at GL;cases GL
     refine⟨pa,pb,ns,ms,rfl,rfl,hne,by rw[bX hne];exact GL,e8,h64,Pn,λpr rs oO hl ahG=>?_⟩
     refine⟨pr,rs,rfl,e8,ahG,?_⟩;rw[hl];have W3:=W2.fresh (o:=.ext (jx X.w pb ms)) Gu;exact p2 c8 _ _ (W3.fresh oO) ((Ext.fresh W2 Gu).trans (Ext.fresh W3 oO)) rfl
    ·exact p2.elim
   ·exact p2.elim
  ·exact p1.elim
 ·exact p1.elim
end
@[simp] theorem anQ(a b:aj) (e:Ev) (c:aa):uV a b e c=(a e c).bind λxs c=>match xs with
 |[x]=>match jD c x with
  |some ns=>(b e c).bind λys c=>match ys with
   |[y]=>match jD c y with
    |some ms=>.ok (.int (pF ns ms:Nat)) c
    |none=>.bad
   |_=>.bad
  |none=>.bad
 |_=>.bad:=rfl
section
variable {X:Cx}
theorem ad5{l:List D}(h:bN l=ξ) (n:Nat):bN (l.take n)=ξ:=iz.mpr λd hd=>iz.mp h d (apZ hd)
theorem ad7{l:List D}(h:bN l=ξ) (n:Nat):bN (l.drop n)=ξ:=iz.mpr λd hd=>iz.mp h d (asy hd)
end
mutual
def eH(c:aa) (n:Nat):D->Option D
 |.ref k=>match c[k]? with
  |some (.lst l)=>if n<=k then ζ (.lst l)else η
  |none=>η
 |.lst l=>match gS c n l with
  |some m=>ζ (.lst m)
  |none=>η
 |.tup l=>match gS c n l with
  |some m=>ζ (.tup m)
  |none=>η
 |.aH=>ζ .aH
 |.bl b=>ζ (.bl b)
 |.int i=>ζ (.int i)
 |.str x=>ζ (.str x)
 |.ty x=>ζ (.ty x)
 |.cH x=>ζ (.cH x)
 |.fn x m=>ζ (.fn x m)
 |.exc x=>ζ (.exc x)
 |.iQ=>ζ .iQ
 |.dct ks=>ζ (.dct ks)
 |.lam _ _ _ _=>η
def gS(c:aa) (n:Nat):List D->Option (List D)
 |[]=>ζ []
 |d::l=>match eH c n d,gS c n l with
  |some a,ζ m=>ζ (a::m)
  |_,_=>η
end
section
variable {K:Ω}{aL:List Θ}{H1:Hp}{c1:aa}{n:Nat}
mutual
theorem Lo(W1:Wd K aL H1 c1):∀(d:D) (v:V) (d':D),Rel K aL H1 d v->eH c1 n d=ζ d'->Rel K (aL.take n) H1 d' v
 |.ref k,v,d',r,h=>by
  unfold eH at h;split at h
  ·rename_i l hl;split at h
   ·rename_i hk;cases h;obtain⟨a,rfl,ha⟩:=r;obtain⟨nr,xs,hx,rl⟩:=W1.fP k a _ ha hl;refine⟨a,xs,rfl,⟨hx,λq=>?_⟩,aK.low (λb h=>apZ h) l xs nr rl⟩
    obtain⟨j,hj,e⟩:=aqV.mp q;rw[asu]at e;have hk1:=apK.mp ha;have hjl:j<aL.length:=by simp at hj;omega
    have:=(ar8 W1.nd (h₀:=hjl) (h₁:=hk1.1)).mp (e.trans hk1.2.symm);simp at hj;omega
   ·cases h
  ·cases h
 |.lst l,v,d',r,h=>by
  unfold eH at h;split at h
  ·rename_i m hm;cases h;obtain⟨a,xs,rfl,s,rl⟩:=r;exact⟨a,xs,rfl,⟨s.1,λq=>s.2 (apZ q)⟩,CU W1 l xs m rl hm⟩
  ·cases h
 |.tup l,v,d',r,h=>by
  unfold eH at h;split at h
  ·rename_i m hm;cases h;obtain⟨a,xs,rfl,s,rl⟩:=r;exact⟨a,xs,rfl,s,CU W1 l xs m rl hm⟩
  ·cases h
 |.aH,v,d',r,h=>by unfold eH at h;cases h;exact Rel.low (λb h=>apZ h) _ _ rfl r
 |.bl b,v,d',r,h=>by unfold eH at h;cases h;exact Rel.low (λb h=>apZ h) _ _ rfl r
 |.int i,v,d',r,h=>by unfold eH at h;cases h;exact Rel.low (λb h=>apZ h) _ _ rfl r
 |.str x,v,d',r,h=>by unfold eH at h;cases h;exact Rel.low (λb h=>apZ h) _ _ rfl r
 |.ty x,v,d',r,h=>by unfold eH at h;cases h;exact Rel.low (λb h=>apZ h) _ _ rfl r
 |.cH x,v,d',r,h=>by unfold eH at h;cases h;exact Rel.low (λb h=>apZ h) _ _ rfl r
 |.fn x m,v,d',r,h=>by unfold eH at h;cases h;exact Rel.low (λb h=>apZ h) _ _ rfl r
 |.exc x,v,d',r,h=>by unfold eH at h;cases h;exact Rel.low (λb h=>apZ h) _ _ rfl r
 |.iQ,v,d',r,h=>by unfold eH at h;cases h;exact Rel.low (λb h=>apZ h) _ _ rfl r
 |.dct ks,v,d',r,h=>by unfold eH at h;cases h;exact Rel.low (λb h=>apZ h) _ _ rfl r
 |.lam _ _ _ _,v,d',r,h=>by unfold eH at h;cases h
theorem CU(W1:Wd K aL H1 c1):∀(l:List D) (xs:List V) (m:List D),aK K aL H1 l xs->gS c1 n l=ζ m->aK K (aL.take n) H1 m xs
 |[],xs,m,r,h=>by unfold gS at h;cases h;exact r
 |d::l,xs,m,r,h=>by
  unfold gS at h;split at h
  ·rename_i a m' ha hm;cases h;obtain⟨y,ys,rfl,r1,r2⟩:=r;exact⟨y,ys,rfl,Lo W1 d y a r1 ha,CU W1 l ys m' r2 hm⟩
  ·cases h
end
end
def oZ(n:Nat) (v:D) (c:aa):R D:=match eH c n v with
 |some d=>.ok d (c.take n)
 |none=>.bad
def l7(n:Nat) (d:ah):List D->aa->R D:=λxs c=>(d (cT n xs) c).bind λf c'=>match f with
 |.rt v=>oZ c.length v c'
 |.nx _=>oZ c.length .aH c'
 |_=>.bad
theorem P8{K:Ω}{ρ aL:List Θ}{H H1:Hp}{c c1:aa}{v:D}{x:V}{Q:VK}(W:Wd K ρ H c) (W1:Wd K aL H1 c1) (X1:Ext ρ H aL H1) (r:Rel K aL H1 v x) (p:post K (Rel K) (oZ c.length v c1) ρ H Q):Q x H1:=by
 have hn:=Ext.len W W1 X1;have Wc:=W1.cut hn;have Xc:=X1.cut (n:=c.length) (aqM W.len);unfold oZ at p;split at p
 ·rename_i d hd;exact p _ H1 x Wc Xc (Lo W1 v x d r hd)
 ·exact p.elim
section
variable {P:υ}{w:ψ}{K:Ω}{mg:Str->Option Γ}{base:χ}
theorem aiQ{x qual:Str}{st:ad4}{f:Θ}{fd:ν}{N ps:List Str}{k n m:Nat}{d:ah}(F:nI K x qual st f fd) (S:cj N ps (aP st)) (hN:N.length=n) (hm:ps.length=m)
  (hb:∀(cdv:Γ) (A:acr) (outer:List Env) (s:ε) (H:Hp) (E:XK),dg k (A.deeper (envOfC qual (aP st) s.heap.objs.size f cdv))->bT (kY bB P w K mg base N qual (aP st) f cdv A outer s H E).lJ (bY st) d) :
  bH P w K mg base bB (k+1) f fd ps (bM K m (l7 n d)):=by
 subst hN;subst hm;refine F.ok S (λvs H Q E h=>?_) (λcdv A outer s H vs Q E hr h=>⟨_,hb cdv A outer s H E hr,?_⟩)
 ·obtain⟨ρ,xs,c,W,r,hl,p⟩:=h;exact r.length.trans hl
 ·obtain⟨ρ,xs,c,W,r,hl,p⟩:=h;refine⟨ρ,cT N.length xs,c,W,dU.start r,post.bind p λfl c1 aL H1 b _ W1 X1 r1 p1=>?_⟩
  cases fl with
  |nx e1 =>
   obtain⟨σ1,rfl,V1⟩:=r1;exact P8 (v:=.aH) (x:=.aH) (H1:=H1) W W1 X1 rfl (by unfold l7 at p;rename_i he;rw[he]at p;exact p)
  |rt d =>
   obtain⟨v,rfl,V1⟩:=r1;exact P8 (v:=d) (x:=v) (H1:=H1) W W1 X1 V1 (by unfold l7 at p;rename_i he;rw[he]at p;exact p)
  |bk e1=>exact p1.elim
  |ct e1=>exact p1.elim
end
@[simp] theorem anW(n:Nat) (d:ah) (xs:List D) (c:aa):l7 n d xs c=(d (cT n xs) c).bind λf c'=>match f with
 |.rt v=>oZ c.length v c'
 |.nx _=>oZ c.length .aH c'
 |_=>.bad:=rfl
end L2
namespace L2
open PySem PySem.Spec PyProof.Rows PySem.SeqAt
section
variable {X:Cx}
def HV(k:Int):Γ->Bool
 |.int i _=>i==k
 |_=>Δ
theorem KZ:∀{ns:List Int}{us:List Γ},Vals (ns.map V.int) us->us.length=ns.length/\∀(i:Nat) (u:Γ),us[i]? = ζ u->∃t,u=.int (ns.getD i 0) t
 |[],_,.nil=>⟨rfl,λi u h=>by simp at h⟩
 |n::ns,_,.cons ⟨t,e⟩ r=>by
  subst e;obtain⟨h1,h2⟩:=KZ r;refine⟨by simp[h1],λi u h=>?_⟩
  cases i with
  |zero=>simp at h;exact⟨t,by rw[<-h];rfl⟩
  |succ i=>simpa using h2 i u (by simpa using h)
end
section
variable {X:Cx}{e sx:ο}{te:TE}{lo hi:Option ο}{tl th ts:TO}{pos p2:Pos}
def gV(i j:Int):List Int:=(θ (j-i).toNat).map λk:Nat=>i+(k:Int)
theorem Um{f:Nat->Int}{acc:Array Γ}{n:Nat}(h:ItemsOf (λk v=>∃t,v=.int (f k) t) acc n):Vals (((θ n).map f).map V.int) acc.toList:=by
 have hl:acc.toList.length=n:=by rw[apO];exact h.1
 have key:∀(us:List Γ) (o:Nat),(∀(k:Nat) (u:Γ),us[k]? = ζ u->∃t,u=.int (f (o+k)) t)->Vals (((List.range' o us.length).map f).map V.int) us:=by
  intro us
  induction us with
  |nil=>intro o _;exact .nil
  |cons u us ih =>
   intro o hu;rw[apL,auL];obtain⟨t,e⟩:=hu 0 u rfl;refine .cons ⟨t,e⟩ (ih (o+1) λk v hv=>?_)
   have:=hu (k+1) v (by simpa using hv)
   rwa[show o+(k+1)=o+1+k by omega]at this
 have:=key acc.toList 0 λk u hu=>by
  have:=h.2 k u (by rw[<-ap2];exact hu)
  rwa[ap0]
 rwa[hl,<-List.range_eq_range']at this
def YF(X:Cx):List V->Hp->VK->Prop:=λxs H Q=>∃p i j,xs=[.ref p]/\H p=ζ (.tM i j)/\(0<=i/\i<j/\j<1000)/\∀l,H l=η->Q (.ref l) (upd H l (.lst ((gV i j).map V.int)))
theorem Qu(hc:X.calm=ξ:=by rfl):d9 X (.type "list") (YF X):=by
 intro pins s σ H xs us Q I rv h;obtain⟨p,i,j,rfl,hH,hb,q⟩:=h;obtain⟨u,rfl,ru⟩:=aqc rv;cases ru;obtain⟨t,u,v,hr⟩:=I.hok p _ hH;have hn:Builtin.Range.rangeSize i j 1=((j-i).toNat:Nat):=by
  unfold Builtin.Range.rangeSize;rw[if_pos (by decide),if_pos hb.2.1,Int.ediv_one]
  omega
 have hsm:Builtin.Range.small i j 1=ξ:=small_one (by omega) (by omega) (by omega) (by omega)
 refine call_list_range (I.ok.hd hc) hr hsm hn (by omega) λh' tk acc c' kp hg hit=>?_
 have xV:ItemsOf (λk v=>∃t,v=Value.int ((λk:Nat=>i+(k:Int)) k) t) acc (j-i).toNat:=⟨hit.1,λk v hv=>by
  have:=hit.2 k v hv
  simpa using this⟩
 refine⟨.ref s.heap.objs.size,upd H s.heap.objs.size (.lst ((gV i j).map V.int)),I.laid (t':=tk) kp (aps _) ⟨?_,acc.toList,c',Um xV,by rw[Array.toArray_toList];exact hg⟩,rfl,q _ (I.hok.fresh (aps _))⟩
 simp only[gV,apC,aqj];rw[arh];omega
end
open AutoSeq1 (wpAny_loadPart')
theorem aiK{M:Model}{A:acr}{E:Γ->ε->Prop}{s:ε}{β:Type}(f:Nat->β->Sem (ForInStep β)) (I:List Nat->β->ε->Prop) (Q:β->ε->Prop)
  (turn:∀x rest b s,I (x::rest) b s->wpAny M A (f x b) (λr s'=>match r with|.yield b'=>I rest b' s'|.done b'=>Q b' s') E s)
  (fin:∀b s,I [] b s->Q b s) (r:Std.Legacy.Range) (b:β) (h:I (List.range' r.start r.size r.step) b s):wpAny M A (forIn r b f) Q E s:=by
 rw[Std.Legacy.Range.forIn_eq_forIn_range'];exact wpAny_forIn_list f I Q turn fin _ b h
theorem UG(l:Θ) (items:Array Γ) (n:Nat) (dd:Option Θ) (sl:Array (Option Γ)) (x:Γ) (e:Γ->Bool) (j:Nat) (hj:j<items.size)
  (hit:e items[j]=ξ) (hno:∀m (hm:m<items.size),m<j->e items[m]=Δ) :
  Meets (Builtin.«tuple.index» ⟨[.ref l,x],[]⟩)
   (λA R s=>s.heap.get? l=ζ {cls:=.type "tuple",dict:=dd,data:=.seq items n,slots:=sl}/\(∀y,y∈items->EqAt A.in1 s y x (e y))/\R (.ok (.ret (.int j s.toks))) {s with toks:=s.toks+1}) :=
 .of_wp λprog w A R s h=>by
  obtain⟨hp,g,d,tk,os⟩:=s;obtain⟨hl,he,h⟩:=h
  wp_walk using wpAny_loadPart' hl,aiK _ (λrest b s'=>b.1=η/\s'=⟨hp,g,d,tk,os⟩/\∃k,k<=j/\rest=List.range' k (items.size-k)) _
  case turn =>
   rintro y rest b s' ⟨hb,rfl,k,hk,hr⟩
   have hk':k<items.size:=by omega
   rw[show items.size-k=(items.size-(k+1))+1 by omega,auL]at hr
   obtain⟨rfl,rfl⟩:=atF hr;rw[arC hk'];refine apq (he _ (Array.getElem_mem hk') prog w _ _ ?_)
   rcases arU y j with q|q
   ·rw[hno y hk' q];exact apr ⟨rfl,rfl,y+1,q,rfl⟩
   ·have e1:y=j:=by omega
    subst e1;rw[hit]
    wp_walk
    exact⟨_,rfl,h⟩
  case fin =>
   rintro ⟨b1,b2⟩ s' ⟨hb,rfl,k,hk,hr⟩
   have:=congrArg List.length hr;rw[List.length_range',ap3]at this;omega
  case h =>
   refine⟨rfl,rfl,0,aqm _,?_⟩;simp[Std.Legacy.Range.size]
section
variable {X:Cx}
def YI(K:Ω):V->List V->Hp->VK->Prop:=λx vs H Q=>∃l,∃ns:List Int,∃k:Int,∃j,x=.ref l/\vs=[.int k]/\cF K H l (ns.map V.int)/\ns.findIdx? (λi=>i==k)=ζ j/\Q (.int (j:Nat)) H
theorem ae8:Cg X "tuple.index" (YI X.K):=by
 intro pins s σ H x vs v us Q I rx rv h;obtain⟨l,ns,k,j,rfl,rfl,hH,hj,q⟩:=h;cases rx;obtain⟨u,rfl,ru⟩:=rv.one;obtain⟨tk,rfl⟩:=ru;obtain⟨its,r,pt,z⟩:=I.tuple hH;obtain⟨⟨cls,dd,data,sl⟩,ho,hc,n,hd⟩:=id pt;simp only at hc hd;subst hc hd;obtain⟨hlen,hat⟩:=KZ r;rw[atl]at hj;obtain⟨h1,h2,h3⟩:=hj;have ek:∀(m:Nat) (hm:m<its.toArray.size) (hn:m<ns.length),HV k its.toArray[m]=(ns[m]==k):=λm hm hn=>by
  obtain⟨t,et⟩:=hat m its.toArray[m] (by simp)
  rw[et];simp[HV,apD,apw hn]
 refine aq7 F.slot_tuple_index ⟨_,ho,rfl⟩ F.entry_tuple_index (F.args_tuple_index_2 _ _) (UG l its.toArray n dd sl (.int k tk) (HV k) j (by simpa[hlen]using h1) (by rw[ek j _ h1];exact h2)
  (λm hm hlt=>by rw[ek m hm (by omega)];have:=h3 m hlt;simpa using this)) ⟨ho,λy hy=>?_,?_⟩
 ·rw[List.mem_toArray]at hy;obtain⟨i,hi,ei⟩:=aqQ hy;obtain⟨t,et⟩:=hat i y (by rw[apw hi,ei])
  rw[et];exact EqAt.int_int _ _ _ _
 ·exact⟨.int (j:Nat),H,I.tok _,⟨s.toks,rfl⟩,q⟩
def uW(o a:af):af:=λe c=>(o e c).bind λx c=>match x with
 |.tup l=>(a e c).bind λy c=>match y,jZ l with
  |.int k,ζ ns=>match ns.findIdx? (λi=>i==k)with
   |some j=>.ok (.int (j:Nat)) c
   |none=>.bad
  |_,_=>.bad
 |_=>.bad
theorem aa7{o e:ο}{dO da:af}{apos cpos:Pos}(ho:bh X o dO) (ha:bh X e da)
  (hbase:ahd o "index" X.env (eval o X.env)=eval o X.env:=by rfl)
  (hfew:((aea cpos (μ [e] X.env)).all (λx=>!x.1)&&(aho cpos (agr [] X.env)).all (λx=>x.1.isSome)
   && decide ([e].length+([]:List agI).length+(if([]:List agI).isEmpty then 0 else 1)<30))=ξ:=by exact zo rfl)
  (hline:(apos.endLine==cpos.line)=ξ:=by rfl) (hs:μ [e] X.env=(Δ,eval e X.env)::μ [] X.env:=by exact cR rfl) (hplain:(aea cpos (μ [] X.env)).any (·.1)=Δ:=by exact e9 rfl) :
  bh X (.Call (.Attribute o "index" apos) [e] [] cpos) (uW dO da) :=
 (zS PySem.F.plainAttrs_tuple PySem.F.slot_tuple_index PySem.F.type_tuple_index ae8 ho (i9 ha jB hs) hbase hfew hline hs hplain).imp λσ H Q h=>by
  obtain⟨ρ,e,c,W,V,p⟩:=h;refine⟨ρ,e,c,W,V,post.bind p λx c1 aL H1 v _ W1 X1 r1 p1=>?_⟩
  cases x with
  |tup l =>
   obtain⟨a,xs,rfl,hx,rl⟩:=r1;refine⟨.inr (.inl ⟨rfl,.inl ⟨xs,hx⟩⟩),aL,e,c1,W1,V.mono W X1,post.bind p1 λy c2 c8 H2 u _ W2 X2 r2 p2=>?_⟩
   split at p2
   ·rename_i k ns hb _;cases r2;rw[Az hb]at rl;cases rl.Ay;split at p2
    ·rename_i j hj;exact⟨a,ns,k,j,rfl,rfl,cF.of (rJ W1 X2 hx),hj,p2.here W2 rfl⟩
    ·exact p2.elim
   ·exact p2.elim
  |_=>exact p1.elim
def Yy:List V->Hp->VK->Prop:=λxs H Q=>∃j,xs=[.int j]/\∀p,H p=η->Q (.ref p) (upd H p (.tM 0 j))
theorem Qt:d9 X (.type "range") Yy:=by
 intro pins s σ H xs us Q I rv h;obtain⟨j,rfl,q⟩:=h;obtain⟨u,rfl,ru⟩:=aqc rv;obtain⟨t,rfl⟩:=ru;refine call_range_1 ⟨.ref s.heap.objs.size,upd H s.heap.objs.size (.tM 0 j),I.laid (t':=s.toks+1+1) (λb o e=>apt _ e) (aps _) ?_,rfl,q _ (I.hok.fresh (aps _))⟩
 exact⟨_,_,_,apF _ rfl⟩
def qH(a:aj):af:=λe c=>(a e c).bind λxs c=>match xs with
 |[.int j]=>if 0<j/\j<1000 then .ok (.lst ((gV 0 j).map D.int)) c else .bad
 |_=>.bad
theorem aa3{a:ο}{da:aj}{p1 p2 q1 q2:Pos}(ha:eZ X [a] da) (hm:X.mg "list"=η) (hm2:X.mg "range"=η) (hg:Gl X "list":=by rfl) (g6:Gl X "range":=by rfl) (hc:X.calm=ξ:=by rfl)
  (he:μ [a] X.env=(Δ,eval a X.env)::μ [] X.env:=by exact cR rfl) (hb:(aea q2 (μ [] X.env)).any (·.1)=Δ:=by exact e9 rfl):bh X (.Call (.Name "list" p1) [.Call (.Name "range" p2) [a] [] q2] [] q1) (qH da):=by
 have hr:PE X (.Call (.Name "range" p2) [a] [] q2) _:=kG Qt g6 hm2 (by decide +kernel) ha (by decide) (by decide) he hb
 refine(kG (Qu hc) hg hm (by decide +kernel) (i9 hr jB (cR rfl)) (by decide) (by decide) (by exact cR rfl) (by exact e9 rfl)).imp λσ H Q h=>?_
 obtain⟨ρ,e,c,W,V,p⟩:=h;refine⟨ρ,e,c,W,V,post.bind p λxs c1 aL H1 vs ex W1 X1 r1 p1=>?_⟩
 clear ex;split at p1
 ·rename_i j;obtain⟨v,r,rfl,hx,hr2⟩:=r1;cases hr2;cases hx;split at p1
  ·rename_i hb;refine⟨j,rfl,λp hp=>⟨p,0,j,rfl,e8,⟨atG _,hb.1,hb.2⟩,λl hl=>?_⟩⟩
   exact uc (W1.fresh hp) aK.ints (post.ext p1 (Ext.fresh W1 hp)) l hl
  ·exact p1.elim
 ·exact p1.elim
def YE(X:Cx):List V->Hp->VK->Prop:=λxs H Q=>∃a ns,xs=[.ref a]/\H a=ζ (.ext (jx X.w a ns))/\(cM ns).length<64/\Q (.int ((cM ns).length:Nat)) H
theorem ak9:d9 X (.builtin "len") (YE X):=by
 intro pins s σ H xs us Q I rv h;obtain⟨a,ns,rfl,hH,hn,q⟩:=h;obtain⟨u,rfl,ru⟩:=aqc rv;cases ru;obtain⟨hS,_,_⟩:=I.hok a _ hH;obtain⟨o,es,ep,t,ho,hex,hd,hI,hl,hs⟩:=hS;have he:es.size=(cM ns).length:=by rw[<-apO,wj];exact hs.len
 refine atE ho hex hd hI.fits (by rw[he];omega) ⟨.int ((cM ns).length:Nat),H,I.tok _,⟨_,by rw[he]⟩,q⟩
def uU(a:aj):af:=λe c=>(a e c).bind λxs c=>match xs with
 |[x]=>match jD c x with
  |some ns=>.ok (.int ((cM ns).length:Nat)) c
  |none=>.bad
 |_=>.bad
theorem aa5{a:ο}{da:aj}{p0 p1 q0 q1:Pos}(ha:eZ X [a] da) (hm:X.mg "len"=η) (hm2:X.mg "set"=η) (hg:Gl X "len":=by rfl) (g6:Gl X "set":=by rfl) (hc:X.calm=ξ:=by rfl)
  (he:μ [a] X.env=(Δ,eval a X.env)::μ [] X.env:=by exact cR rfl) :
  bh X (.Call (.Name "len" p0) [.Call (.Name "set" p1) [a] [] q1] [] q0) (uU da):=by
 have h1:PE X (.Call (.Name "set" p1) [a] [] q1) _:=kG (IM hc) g6 hm2 (by decide +kernel) ha (by decide) (by decide) he (by exact e9 rfl)
 refine(wN ak9 hg hm (by decide +kernel) (i9 h1 jB (cR rfl)) (by decide) (by decide) (by exact cR rfl) (by exact e9 rfl)).imp λσ H Q h=>?_
 obtain⟨ρ,e,c,W,V,p⟩:=h;refine⟨ρ,e,c,W,V,post.bind p λxs c1 aL H1 vs ex W1 X1 r1 p1=>?_⟩
 clear ex;split at p1
 ·rename_i x;obtain⟨v,r,rfl,hx,hr⟩:=r1;cases hr;split at p1
  ·rename_i ns hn;obtain⟨ad,rfl,sq,h64,hx'⟩:=DX W1 hx hn;refine⟨ad,ns,rfl,sq,h64,hx',λpa hpa=>⟨pa,ns,rfl,e8,h64,?_⟩⟩
   exact(post.ext p1 (Ext.fresh W1 hpa)).here (W1.fresh hpa) rfl
  ·exact p1.elim
 ·exact p1.elim
end
section
variable (o a:af) (b:aj) (e:Ev) (c:aa)
@[simp] theorem anO:qH b e c=(b e c).bind λxs c=>match xs with
 |[.int j]=>if 0<j/\j<1000 then .ok (.lst ((gV 0 j).map D.int)) c else .bad
 |_=>.bad:=rfl
end
def nK:D->D->aa->R D:=λx y c=>match x,y with
 |.int i,.int j=>.ok (.int (Builtin.bitXor i j)) c
 |_,_=>.bad
def kc(o a:af):af:=λe c=>(o e c).bind λx c=>match x with
 |.ref k=>(a e c).bind λi c=>match i,c[k]? with
  |.int i,ζ (.lst l)=>if 0<=i/\i<l.length/\l.length<1000 then(match l[i.toNat]? with|some d=>.ok d (c.set k (.lst (l.eraseIdx i.toNat)))|none=>.bad)else .bad
  |_,_=>.bad
 |_=>.bad
def yq(a:aj):af:=λe c=>(a e c).bind λxs c=>match xs with
 |[.int j]=>if 0<j/\j<1000 then .ok (.ref c.length) (c++[.lst ((gV 0 j).map D.int)])else .bad
 |_=>.bad
section
variable {X:Cx}
theorem ach:bW X (binaryOp .BitXor) (r2 X.K nK):=by
 intro pins s σ H v u vv uu Q I rv ru h;obtain⟨ρ,x,y,c,W,rx,ry,p⟩:=h;unfold nK at p;split at p
 ·cases rx;cases ry;exact abl pins s σ H _ _ vv uu Q I rv ru ⟨_,_,rfl,rfl,p.here W rfl⟩
 ·exact p.elim
theorem ME{o a:ο}{dO da:af}{apos cpos:Pos}(ho:bh X o dO) (ha:bh X a da)
  (hbase:ahd o "pop" X.env (eval o X.env)=eval o X.env:=by rfl)
  (hfew:((aea cpos (μ [a] X.env)).all (λx=>!x.1)&&(aho cpos (agr [] X.env)).all (λx=>x.1.isSome)
   && decide ([a].length+([]:List agI).length+(if([]:List agI).isEmpty then 0 else 1)<30))=ξ:=by exact zo rfl)
  (hline:(apos.endLine==cpos.line)=ξ:=by rfl) (hs:μ [a] X.env=(Δ,eval a X.env)::μ [] X.env:=by exact cR rfl) (hplain:(aea cpos (μ [] X.env)).any (·.1)=Δ:=by exact e9 rfl) :
  bh X (.Call (.Attribute o "pop" apos) [a] [] cpos) (kc dO da) :=
 (zS as7 PySem.F.slot_list_pop PySem.F.type_list_pop ae7 ho (i9 ha jB hs) hbase hfew hline hs hplain).imp λσ H Q h=>by
  obtain⟨ρ,e,c,W,V,p⟩:=h;refine⟨ρ,e,c,W,V,post.bind p λx c1 aL H1 v _ W1 X1 r1 p1=>?_⟩
  cases x with
  |ref k =>
   obtain⟨ad,rfl,hk⟩:=r1;obtain⟨xs,hx⟩:=W1.at' (apT hk);refine⟨.inl ⟨rfl,xs,bD.of hx⟩,aL,e,c1,W1,V.mono W X1,post.bind p1 λi c2 c8 H2 ui _ W2 X2 r2 p2=>?_⟩
   split at p2
   ·rename_i i' l hl _;split at p2
    ·rename_i hh;cases r2;have hk2:=X2.pre k ad hk;obtain⟨nr,ys,hy,rl⟩:=W2.fP k ad _ hk2 hl;split at p2
     ·rename_i d hd;obtain⟨y,hy1,ry⟩:=rl.get hd;have hlen:=rl.length;refine⟨ad,ys,i',i'.toNat,y,rfl,rfl,hy,by omega,by omega,?_,hy1,?_⟩
      ·have e0:(if i'<0 then i'+(ys.length:Int)else i')=i':=if_neg (by omega)
       unfold seqIndex?;simp only[e0];rw[if_pos (by simp only[apN,decide_eq_true_eq];omega)]
      ·rw[arc]at p2 ⊢;refine p2 c8 _ y (W2.write hk2 ?_ ((rl.take _).append (rl.drop _))) (Ext.write hk2) (Rel.mono W2 (Ext.write hk2) _ _ ry);rw[xm,ad5 nr,ad7 nr];rfl
     ·exact p2.elim
    ·exact p2.elim
   ·exact p2.elim
  |_=>exact p1.elim
theorem aa2{a:ο}{da:aj}{p1 p2 q1 q2:Pos}(ha:eZ X [a] da) (hm:X.mg "list"=η) (hm2:X.mg "range"=η) (hg:Gl X "list":=by rfl) (g6:Gl X "range":=by rfl) (hc:X.calm=ξ:=by rfl)
  (he:μ [a] X.env=(Δ,eval a X.env)::μ [] X.env:=by exact cR rfl) (hb:(aea q2 (μ [] X.env)).any (·.1)=Δ:=by exact e9 rfl):bh X (.Call (.Name "list" p1) [.Call (.Name "range" p2) [a] [] q2] [] q1) (yq da):=by
 have hr:PE X (.Call (.Name "range" p2) [a] [] q2) _:=kG Qt g6 hm2 (by decide +kernel) ha (by decide) (by decide) he hb
 refine(kG (Qu hc) hg hm (by decide +kernel) (i9 hr jB (cR rfl)) (by decide) (by decide) (by exact cR rfl) (by exact e9 rfl)).imp λσ H Q h=>?_
 obtain⟨ρ,e,c,W,V,p⟩:=h;refine⟨ρ,e,c,W,V,post.bind p λxs c1 aL H1 vs ex W1 X1 r1 p1=>?_⟩
 clear ex;split at p1
 ·rename_i j;obtain⟨v,r,rfl,hx,hr2⟩:=r1;cases hr2;cases hx;split at p1
  ·rename_i hb;refine⟨j,rfl,λp hp=>⟨p,0,j,rfl,e8,⟨atG _,hb.1,hb.2⟩,λl hl=>?_⟩⟩
   have nr:bN ((gV 0 j).map D.int)=ξ:=iz.mpr λd hd=>by
    obtain⟨i,_,rfl⟩:=apv.mp hd;rfl
   exact DS (W1.fresh hp) nr aK.ints (post.ext p1 (Ext.fresh W1 hp)) l hl
  ·exact p1.elim
 ·exact p1.elim
end
section
variable (o a:af) (b:aj) (e:Ev) (c:aa)
@[simp] theorem TH(i j:Int):nK (.int i) (.int j) c=.ok (.int (Builtin.bitXor i j)) c:=rfl
@[simp] theorem TZ:yq b e c=(b e c).bind λxs c=>match xs with
 |[.int j]=>if 0<j/\j<1000 then .ok (.ref c.length) (c++[.lst ((gV 0 j).map D.int)])else .bad
 |_=>.bad:=rfl
end
theorem Lj{l c:Int}{t u:Tok}{v:Γ}:∀(xs:List Γ),ahQ xs->ahQ (xs++[.int l t,.int c u,v])
 |[],_=>trivial
 |.int _ _ :: .int _ _::_::rest,h=>Lj (l:=l) (c:=c) (t:=t) (u:=u) (v:=v) rest h
theorem RY{pos p:Pos}{v cv:Γ}:∀(xs:List Γ),ahQ xs->codeAmong p (xs++[rawInt pos.line,rawInt pos.col,v])=ζ cv->codeAmong p xs=ζ cv\/cv=v
 |[],_,h=>by
  simp only[apS,rawInt,codeAmong]at h;split at h
  ·exact .inr (apQ h).symm
  ·cases h
 |.int a _ :: .int b _::x::rest,ht,h=>by
  simp only[atH,codeAmong]at h ⊢;split at h
  ·rename_i hc;rw[if_pos hc];exact .inl h
  ·rename_i hc;rw[if_neg hc];exact RY rest ht h
structure ant (H H':Hp) (n:Nat) (P:Θ) (q:Str) (e:ο) (cl:List (Str×Θ)) (a:Θ):Prop where
 at':∃o c,H' a=ζ (.ext (qx a o))/\yO e o q c cl/\H' c=ζ (.ext (qK c q))
 keep:∀b u,H b=ζ u->xO u=Δ->H' b=ζ u
 new:∀b,b<n->H b=η->H' b=η
 tabs:∀b ps,b≠P->H b=ζ (.cX ps)->H' b=ζ (.cX ps)
 tab:TabAt H' P q
section
variable {X:Cx}{pins:List (Θ×Obj)}{σ:St}{H:Hp}{s:ε}
theorem QC{h1 h2:χ}{c:Θ}{q:Str}(x:h1.CodeRec (.ref c) q) (k:∀o,h1.get? c=ζ o->h2.get? c=ζ o):h2.CodeRec (.ref c) q:=by
 obtain⟨c',oc,vs,t,e,h,r⟩:=x;cases e;exact⟨_,oc,vs,t,rfl,k _ h,r⟩
theorem afH{c P:Θ}{q:Str}{params:ahe}{body:ο}{scope:aeB}{pos:Pos}{clos:List (Str×Θ)}{Q:Γ->ε->Prop}
  (I:Inv X pins σ H s) (hcode:X.env.code=.ref c) (hq:X.env.qual++"<lambda>"=q) (hC:PySem.W.codeHdIn X.K c P=ξ) (hT:TabAt H P q) (hcl:closureFor scope X.env=pure clos) (hdef:defaultsOf params X.env=([],[]))
  (h:∀a H' s',Inv X pins σ H' s'->s.heap.objs.size<=a->ant H H' s.heap.objs.size P q (.Lambda params body scope pos) clos a->Q (.ref a) s') :
  wpAny (model X.prog X.w) X.A (eval (.Lambda params body scope pos) X.env) Q X.xe s:=by
 obtain⟨ps,hP,ht,hcs⟩:=hT;have x8:s.heap.get? P=ζ (PySem.W.tabObj ps):=I.hok P _ hP;have hns:s.heap.Ns Ξ X.mg:=I.mod.glob.keeps I.bk;obtain⟨bm,ob,b1,b2,b3,b4,b5,b6⟩:=I.mod.bmod;have yG:=I.bk _ _ b3;have hgP:Ξ≠P:=λz=>by
  obtain⟨o,es,ep,e,hd,_⟩:=hns;rw[z,x8]at e;cases e;cases hd
 have hbP:bm≠P:=λz=>by rw[z,x8]at yG;cases yG;cases b4
 have hbG:bm≠Ξ:=λz=>by
  obtain⟨o,es,ep,e,hd,_⟩:=hns;rw[z,e]at yG;cases yG;rw[hd]at b6;cases b6
 have hB:s.heap.BuiltinsAt X.mg P:=⟨bm,ob,b1,b2,hbG,hbP,yG,b4,b5,b6⟩;have C:PySem.W.CodeHd s.heap c P:=auM I.fN hC;refine PySem.W.kla_eval hdef ?_;rw[hq];have Pe:P<s.heap.objs.size:=apy x8;cases hf:codeAmong pos ps.toList with
 |some cv =>
  obtain⟨c',rfl,hc'⟩:=hcs pos cv hf;refine PySem.W.kla_makeFunctionHit hcl I.ok.glob hns hcode C x8 ht hf hB λctv h' tk hk hsz=>?_
  generalize ho:({cls:=.type "function",data:=.func (PySem.W.kla_fn "<lambda>" q params body scope clos ((X.mg "__name__").getD .none) (.ref c') ctv)}:Obj)=o
  have hof:o.isFreed=Δ:=by rw[<-ho];rfl
  have hn:H h'.objs.size=η:=I.hok.fresh hsz;have nb:∀b u,H b=ζ u->b≠h'.objs.size:=λb u e=>dQ e hn
  refine h h'.objs.size (upd H h'.objs.size (.ext (qx h'.objs.size o))) _ (I.laid (t':=tk) (λb u e=>apt _ (hk b u e)) hsz ?_) hsz ⟨⟨o,c',e8,⟨_,ctv,ho.symm⟩,by rw[bX (nb _ _ hc')];exact hc'⟩,λb u e _=>by rw[bX (nb b u e)];exact e,λb hb e=>by rw[bX (apz (apG hb hsz))];exact e,λb ps' _ e=>by rw[bX (nb b _ e)];exact e,⟨ps,by rw[bX (nb _ _ hP)];exact hP,ht,λp v e=>let⟨d,e1,e2⟩:=hcs p v e;⟨d,e1,by rw[bX (nb _ _ e2)];exact e2⟩⟩⟩
  exact⟨apF _ hof,⟨_,apF _ hof⟩,λh1 h2 e k=>k _ e⟩
 |none =>
  refine PySem.W.kla_makeFunction hcl I.ok.glob hns hcode C x8 ht hf hgP hB λc' ctv h' tk hx hge hlt hrec htb=>?_
  generalize ho:PySem.W.kla_obj "<lambda>" q params body scope clos ((X.mg "__name__").getD .none) c' ctv=o
  have hsz:s.heap.objs.size<=h'.objs.size:=apW hge (aqG hlt);have hof:o.isFreed=Δ:=by rw[<-ho];rfl
  have hnc:H c'=η:=I.hok.fresh hge;have hna:H h'.objs.size=η:=I.hok.fresh hsz;have hca:c'≠h'.objs.size:=apz hlt;have hPc:P≠c':=apz (apG Pe hge);have hPa:P≠h'.objs.size:=apz (apG Pe hsz)
  generalize hps:ps ++ #[rawInt pos.line,rawInt pos.col,.ref c']=ps' at htb
  let H':Hp:=upd (upd (upd H P (.cX ps')) c' (.ext (qK c' q))) h'.objs.size (.ext (qx h'.objs.size o))
  have rq:∀b,b≠P->b≠c'->b≠h'.objs.size->H' b=H b:=λb n1 n2 n3=>by
   show upd (upd (upd H P (.cX ps')) c' _) h'.objs.size _ b=_;rw[bX n3,bX n2,bX n1]
  have g7:H' P=ζ (.cX ps'):=by
   show upd (upd (upd H P (.cX ps')) c' _) h'.objs.size _ P=_;rw[bX hPa,bX hPc,e8]
  have J4:H' c'=ζ (.ext (qK c' q)):=by
   show upd (upd (upd H P (.cX ps')) c' _) h'.objs.size _ c'=_;rw[bX hca,e8]
  have RS:H' h'.objs.size=ζ (.ext (qx h'.objs.size o)):=e8;have old:∀b u,H b=ζ u->xO u=Δ->H' b=ζ u:=λb u e t=>by
   rw[rq b (λz=>by rw[z,hP]at e;cases e;cases t) (dQ e hnc) (dQ e hna)];exact e
  have kp:∀b ob,b≠P->s.heap.get? b=ζ ob->(h'.push o).get? b=ζ ob:=λb ob n e=>apt _ (hx b ob n e)
  have ahx:dJ X.prog X.w H' (h'.push o):=λb u e=>by
   by_cases h1:b=h'.objs.size
   ·subst h1;rw[RS]at e;cases e;exact⟨apF _ hof,⟨_,apF _ hof⟩,λh1 h2 e k=>k _ e⟩
   ·by_cases h2:b=c'
    ·subst h2;rw[J4]at e;cases e;obtain⟨d,oc,vs,t,e0,e1,e2⟩:=id hrec;cases e0;refine⟨QC hrec λo e=>apt _ e,⟨oc,apt _ e1⟩,λh1 h2 x k=>QC x k⟩
    ·by_cases h3:b=P
     ·subst h3;rw[g7]at e;cases e;exact apt _ htb
     ·rw[rq b h3 h2 h1]at e;refine(I.hok b u e).stay (λd w hd z=>kp d w ?_ z) (λd z=>?_) λd xs z=>?_
      ·rcases hd with hd|hd
       ·rw[hd];exact h3
       ·intro z2;rw[z2,hP]at hd;cases hd
      ·exact old d _ z rfl
      ·exact old d _ z rfl
  have I':Inv X pins σ H' {s with heap:=h'.push o,toks:=tk}:=by
   refine I.step (g':=s.gens) (d':=s.drawn) (ch:=[]) (λ_ z=>nomatch z) (λb ob _ _ _ e n=>kp b ob (λz=>by rw[z,hP]at n;cases n) e) (λb ob _ _ _ e n=>⟨ob.slots,kp b ob (λz=>by rw[z,hP]at n;cases n) e⟩) (λb ob _ e n=>?_) (λb ob _ e=>?_) (λb xs e=>old b _ e rfl) (λb o' u e=>old b _ e rfl) (λb ps2 e=>?_) (λm hm=>?_) ahx I.bare
   ·have hb:=apy e;rw[rq b (λz=>by rw[z,hP]at n;cases n) (apz (apG hb hge)) (apz (apG hb hsz))]
    exact n
   ·by_cases hb:b=P
    ·subst hb;exact⟨_,apt _ htb⟩
    ·exact⟨ob,kp b ob hb e⟩
   ·by_cases hb:b=P
    ·subst hb;rw[hP]at e;cases e;exact⟨#[rawInt pos.line,rawInt pos.col,.ref c'],by rw[g7,hps]⟩
    ·refine⟨#[],?_⟩;rw[rq b hb (dQ e hnc) (dQ e hna),e];simp
   ·have hLP:X.env.locals≠P:=λz=>by have:=I.free;rw[z,hP]at this;cases this
    obtain⟨ol,es,ep,e,r⟩:=hm;exact⟨ol,es,ep,kp _ _ hLP e,r⟩
  refine h h'.objs.size H' _ I' hsz ⟨⟨o,c',RS,⟨_,ctv,ho.symm⟩,J4⟩,old,λb hb e=>?_,λb ps2 nb e=>?_,⟨ps',g7,?_,λp v e=>?_⟩⟩
  ·rw[rq b (λz=>by rw[z,hP]at e;cases e) (apz (apG hb hge)) (apz (apG hb hsz))];exact e
  ·rw[rq b nb (dQ e hnc) (dQ e hna)];exact e
  ·rw[<-hps,auN];exact Lj _ ht
  ·rw[<-hps,auN]at e
   rcases RY ps.toList ht e with e|e
   ·obtain⟨d,e1,e2⟩:=hcs p v e;exact⟨d,e1,old d _ e2 rfl⟩
   ·exact⟨c',e,J4⟩
end
def fW(H:Hp) (F:Θ->Option Obj):Hp:=λb=>match F b with
 |some o=>ζ (.cY o (.own 0))
 |none=>H b
def c9(H:Hp) (F:Θ->Option Obj):Hp:=λb=>match F b with
 |some _=>η
 |none=>H b
section
variable {H H':Hp}{F:Θ->Option Obj}{b:Θ}{o:Obj}{u:HO}
theorem oW(h:F b=ζ o):fW H F b=ζ (.cY o (.own 0)):=by unfold fW;rw[h]
theorem jI(h:F b=η):fW H F b=H b:=by unfold fW;rw[h]
theorem rH(h:F b=ζ o):c9 H F b=η:=by unfold c9;rw[h]
theorem jt(h:F b=η):c9 H F b=H b:=by unfold c9;rw[h]
theorem Kp(hF:∀b o,F b=ζ o->H b=η) (h:H b=ζ u):F b=η:=by
 cases e:F b with
 |none=>rfl
 |some o=>rw[hF b o e]at h;cases h
theorem j6(hF:∀b o,F b=ζ o->H b=η) (h:H b=ζ u):fW H F b=ζ u:=by rw[jI (Kp hF h)];exact h
end
section
variable {X:Cx}{pins:List (Θ×Obj)}{σ:St}{H H':Hp}{s s':ε}{F:Θ->Option Obj}
structure Ko (X:Cx) (H:Hp) (s:ε) (F:Θ->Option Obj):Prop where
 heap:∀b o,F b=ζ o->s.heap.get? b=ζ o
 free:∀b o,F b=ζ o->H b=η
 high:∀b o,F b=ζ o->X.s₀.heap.objs.size<=b
 loc:∀b o,F b=ζ o->b≠X.env.locals
theorem PB{P:υ}{w:ψ}{h:χ}(hok:dJ P w H h) (hF:∀b o,F b=ζ o->H b=η) (hh:∀b o,F b=ζ o->h.get? b=ζ o):dJ P w (fW H F) h:=λb u e=>by
 cases hb:F b with
 |some o =>
  rw[oW hb]at e;cases e;exact⟨hh b o hb,o,hh b o hb⟩
 |none =>
  rw[jI hb]at e;exact(hok b u e).stay (λ_ _ _ z=>z) (λc z=>j6 hF z) λc xs z=>j6 hF z
theorem PC(I:Inv X pins σ H s) (Z:Ko X H s F):rE X.prog X.w X.K X.mg X.base X.A X.stack s (fW H F):=by
 have e:=I.HX;have sz:X.base.objs.size<=X.s₀.heap.objs.size:=I.ok.iS;refine⟨e.frames,e.mod,λb o h=>?_,e.iS,e.iD,λb hb=>?_,PB I.hok Z.free Z.heap,e.bare⟩
 ·obtain⟨h1,h2⟩:=e.bs b o h;refine⟨h1,?_⟩;cases hb:F b with
  |none=>rw[jI hb];exact h2
  |some ob=>exact absurd (apG (apy h) (apW sz (Z.high b ob hb))) (aqd _)
 ·cases hF:F b with
  |none=>rw[jI hF];exact e.kX b hb
  |some ob =>
   exfalso
   rcases apu.mp (I.pY b hb)with z|z
   ·exact Z.loc b ob hF z
   ·obtain⟨_,o2,ho,_⟩:=I.ok.iD.mem z;exact absurd (apG (apy ho) (Z.high b ob hF)) (aqd _)
theorem Ut{fs:List Θ}{h h':χ}{P:υ}{w:ψ}(hF:∀b o,F b=ζ o->H b=η) (hh:∀b o,F b=ζ o->h.get? b=ζ o) (hfs:∀b o,F b=ζ o->b∉fs) (un:Un fs [] (fW H F) H' h h') (hok:dJ P w H' h'):Un fs [] H (c9 H' F) h h'/\dJ P w (c9 H' F) h':=by
 have fz:∀b o,F b=ζ o->H' b=ζ (.cY o (.own 0)):=λb o e=>un.je b o _ (oW e)
 have nn:∀{b:Θ}{u:HO},H b=ζ u->F b=η:=λe=>Kp hF e
 refine⟨⟨λb o e n hb hx=>?_,λb o e n hb hx=>?_,λb o e n hx=>?_,un.there,λb xs e=>?_,λb o u e=>?_,λb ps e=>?_⟩,λb u e=>?_⟩
 ·cases hb':F b with
  |none=>exact un.keep b o e (by rw[jI hb'];exact n) hb hx
  |some ob =>
   have e1:=hh b ob hb';rw[e]at e1;cases e1;exact(hok b _ (fz b o hb')).1
 ·cases hb':F b with
  |none=>exact un.slot b o e (by rw[jI hb'];exact n) hb hx
  |some ob=>exact absurd hb (hfs b ob hb')
 ·cases hb':F b with
  |none=>rw[jt hb'];exact un.free b o e (by rw[jI hb'];exact n) hx
  |some ob=>exact rH hb'
 ·rw[jt (nn e)];exact un.tups b xs (j6 hF e)
 ·rw[jt (nn e)];exact un.je b o u (j6 hF e)
 ·obtain⟨more,z⟩:=un.ju b ps (j6 hF e);exact⟨more,by rw[jt (nn e)];exact z⟩
 ·cases hb:F b with
  |some ob=>rw[rH hb]at e;cases e
  |none =>
   rw[jt hb]at e;have st:∀{c:Θ}{v:HO},H' c=ζ v->(∀o,v≠.cY o (.own 0))->c9 H' F c=ζ v:=fun{c v} z n=>by
    cases hc:F c with
    |none=>rw[jt hc];exact z
    |some oc=>rw[fz c oc hc]at z;exact absurd (apQ z).symm (n oc)
   exact(hok b u e).stay (λ_ _ _ z=>z) (λc z=>st z λ_ q=>nomatch q) λc xs z=>st z λ_ q=>nomatch q
theorem X7{k:Nat}{f:Θ}{fd:ν}{ps:List Str}{sp:Sp}{us:List Γ}{vs:List V}{Q:VK}(G:bH X.prog X.w X.K X.mg X.base bB k f fd ps sp) (hr:dg k X.A) (hb:Binds X.K fd ps []) (I:Inv X pins σ H s) (Z:Ko X H s F) (r:Vals vs us)
  (h:sp vs (fW H F) (λv H'=>Q v (c9 H' F)) E0):wpAny (model X.prog X.w) X.A (call (.ref f) us) (EP X pins σ Q) X.xe s:=by
 have hl:us.length=ps.length:=by rw[<-r.length];exact G.len _ _ _ _ h
 have hb':=hb s us I.fN (by rw[aqJ];exact hl)
 rw[aqJ]at hb';refine ari (aqt (G.run X.A X.stack s (fW H F) ⟨us,[]⟩ us vs _ E0 hr (PC I Z) hb' r h) λr s' hq=>?_)
 cases r with
 |error e=>exact False.elim hq
 |ok fl =>
  cases fl with
  |ret u =>
   obtain⟨v,H',os,bare,un,hok,rv,q⟩:=hq;obtain⟨CQ,ahy⟩:=Ut Z.free Z.heap (λb o e hb=>by
    have:=(PC I Z).kX b hb;rw[oW e]at this;cases this) un hok
   exact⟨v,c9 H' F,I.I0 os CQ ahy bare λb z=>absurd z (by simp),rv,q⟩
  |next=>exact False.elim hq
  |brk=>exact False.elim hq
  |cont=>exact False.elim hq
end
section
variable {K:Ω}{ρ ρ':List Θ}{H H':Hp}{c c':aa}{F:Θ->Option Obj}
theorem KR(W:Wd K ρ H c) (k:∀b u,H b=ζ u->xO u=Δ->H' b=ζ u) (t:rA K H'):Ext ρ H ρ H'/\Wd K ρ H' c:=by
 have X:Ext ρ H ρ H':=⟨λ_ _ e=>e,λa o e n z=>⟨k a o e z,n⟩⟩
 refine⟨X,W.nd,W.len,λj a cl e1 e2=>?_,t⟩
 have q:=W.fP j a cl e1 e2;cases cl with
 |lst l =>
  obtain⟨nr,xs,e,r⟩:=q;exact⟨nr,xs,k _ _ e rfl,aK.mono W X l xs r⟩
theorem KS(W:Wd K ρ H c) (hF:∀b o,F b=ζ o->H b=η):Ext ρ H ρ (fW H F)/\Wd K ρ (fW H F) c :=
 KR W (λb u e _=>j6 hF e) (W.tab.mono (λ_ _ e=>j6 hF e) λ_ _ e=>j6 hF e)
theorem jr{b:Θ}{u:HO}(hF:∀b o,F b=ζ o->H b=ζ (.cY o (.own 0))) (e:H b=ζ u) (n:∀o,u≠.cY o (.own 0)):c9 H F b=ζ u:=by
 cases hc:F b with
 |none=>rw[jt hc];exact e
 |some oc=>rw[hF b oc hc]at e;exact absurd (apQ e).symm (n oc)
mutual
theorem Rel.c9(hF:∀b o,F b=ζ o->H b=ζ (.cY o (.own 0))):∀(d:D) (v:V),eX d=ξ->Rel K ρ H d v->Rel K ρ (c9 H F) d v
 |.aH,v,_,h=>h
 |.bl b,v,_,h=>h
 |.int i,v,_,h=>h
 |.str y,v,_,h=>h
 |.ty n,v,_,h=>h
 |.tup l,v,n,h=>by
  obtain⟨a,xs,e,s,r⟩:=h;exact⟨a,xs,e,jr hF s (λ_ z=>nomatch z),aK.c9 hF l xs (by unfold eX at n;exact n) r⟩
 |.lst l,v,n,h=>by
  obtain⟨a,xs,e,s,r⟩:=h;exact⟨a,xs,e,⟨jr hF s.1 (λ_ z=>nomatch z),s.2⟩,aK.c9 hF l xs (by unfold eX at n;exact n) r⟩
 |.ref k,v,_,h=>h
 |.cH l,v,_,h=>by
  obtain⟨a,e,s⟩:=h;refine⟨a,e,?_⟩
  rcases s with⟨s,z⟩|s
  ·rcases s with s|⟨o,s⟩
   ·exact .inl ⟨.inl (jr hF s (λ_ z=>nomatch z)),z⟩
   ·exact .inl ⟨.inr ⟨o,jr hF s (λ_ z=>nomatch z)⟩,z⟩
  ·exact .inr s
 |.fn a n,v,_,h=>h
 |.iQ,v,_,h=>by
  obtain⟨a,e,q⟩:=h;exact⟨a,e,jr hF q (λ_ z=>nomatch z)⟩
 |.dct ks,v,_,h=>by
  obtain⟨a,kvs,e,q,z⟩:=h;exact⟨a,kvs,e,jr hF q (λ_ z=>nomatch z),z⟩
 |.exc y,v,_,h=>by
  obtain⟨a,C,e,n,q⟩:=h;exact⟨a,C,e,n,jr hF q (λ_ z=>nomatch z)⟩
 |.lam _ _ _ _,v,n,h=>by unfold eX at n;cases n
theorem aK.c9(hF:∀b o,F b=ζ o->H b=ζ (.cY o (.own 0))):∀(l:List D) (xs:List V),dZ l=ξ->aK K ρ H l xs->aK K ρ (c9 H F) l xs
 |[],xs,_,h=>h
 |d::l,xs,n,h=>by
  obtain⟨y,r,e,h1,h2⟩:=h;unfold dZ at n;rw[apN]at n;exact⟨y,r,e,Rel.c9 hF d y n.1 h1,aK.c9 hF l r n.2 h2⟩
end
theorem KQ(W:Wd K ρ H c) (hF:∀b o,F b=ζ o->H b=ζ (.cY o (.own 0))):Wd K ρ (c9 H F) c:=by
 refine⟨W.nd,W.len,λj a cl e1 e2=>?_,W.tab.mono (λ_ _ e=>jr hF e (λ_ z=>nomatch z)) λ_ _ e=>jr hF e (λ_ z=>nomatch z)⟩
 have q:=W.fP j a cl e1 e2;cases cl with
 |lst l =>
  obtain⟨nr,xs,e,r⟩:=q;exact⟨nr,xs,jr hF e (λ_ z=>nomatch z),aK.c9 hF l xs (Af l nr) r⟩
theorem ai5(x:Ext ρ (fW H F) ρ' H') (hF:∀b o,F b=ζ o->H b=η):Ext ρ H ρ' (c9 H' F) :=
 ⟨x.pre,λa o e n t=>by
  obtain⟨h1,h2⟩:=x.keep a o (j6 hF e) n t;exact⟨by rw[jt (Kp hF e)];exact h1,h2⟩⟩
theorem ai6(x:Ext ρ (c9 H F) ρ' H') (W':Wd K ρ' H' c') (hF:∀b o,F b=ζ o->H b=ζ (.cY o (.own 0))) (hn:∀b o,F b=ζ o->H' b=η):Ext ρ H ρ' (fW H' F) :=
 ⟨x.pre,λa o e n t=>by
  cases hc:F a with
  |some oc =>
   have:=hF a oc hc;rw[e]at this;cases this;exact⟨oW hc,W'.nil (hn a oc hc)⟩
  |none =>
   obtain⟨h1,h2⟩:=x.keep a o (by rw[jt hc];exact e) n t
   exact⟨by rw[jI hc];exact h1,h2⟩⟩
end
end L2
namespace L2
open PySem PySem.Spec PyProof.Rows
structure gk (X:Cx) (ns:List Str) (js:List Nat) (scope:aeB):Prop where
 names:∀x∈scope.names,x.2=.free->X.env.kindOf x.1=ζ .cell\/X.env.kindOf x.1=ζ .free
 got:∀(i j:Nat) (x:Str),js[i]? = ζ j->ns[i]? = ζ x->(x,NameKind.free)∈scope.names/\X.N[j]? = ζ x/\(X.env.kindOf x=ζ .cell\/X.env.kindOf x=ζ .free)
 all:∀x,(x,NameKind.free)∈scope.names->x∈ns
def Oe(XN:List Str) (xn:List (Str×adT)) (ns:List Str) (js:List Nat) (names:List (Str×adT)):Bool :=
 names.all (λx=>decide (x.2≠NameKind.free)||((decide (xn.lookup x.1=ζ NameKind.cell)||decide (xn.lookup x.1=ζ NameKind.free))&&decide (x.1∈ns))) &&
 (js.zip ns).all (λq=>decide ((q.2,NameKind.free)∈names)&&decide (XN[q.1]? = ζ q.2)&&(decide (xn.lookup q.2=ζ NameKind.cell)||decide (xn.lookup q.2=ζ NameKind.free)))
theorem gk.of{X:Cx}{ns:List Str}{js:List Nat}{scope:aeB}(h:Oe X.N X.env.scope.names ns js scope.names=ξ):gk X ns js scope:=by
 unfold Oe at h;simp only[apN,apA,decide_eq_true_eq,aq8]at h;obtain⟨h1,h2⟩:=h;refine⟨λx hx e=>?_,λi j x hj hx=>?_,λx hx=>?_⟩
 ·rcases h1 x hx with z|z
  ·exact absurd e z
  ·exact z.1
 ·have hm:(j,x)∈js.zip ns:=by
   have:(js.zip ns)[i]? = ζ (j,x):=by rw[asX];exact⟨hj,hx⟩
   exact apT this
  obtain⟨⟨a,b⟩,d⟩:=h2 _ hm;exact⟨a,b,d⟩
 ·rcases h1 _ hx with z|z
  ·exact absurd rfl z
  ·exact z.2
section
variable {X:Cx}{pins:List (Θ×Obj)}{σ:St}{H:Hp}{s:ε}{ns:List Str}{js:List Nat}{scope:aeB}
abbrev mh(X:Cx) (scope:aeB):List (Str×Θ):=gb X.env scope.names []
theorem gk.clos(S:gk X ns js scope) (I:Inv X pins σ H s):closureFor scope X.env=pure (mh X scope):=by
 have e:=B9 (env:=X.env) scope.names [] λx hx hk=>I.ok.has x.1 (S.names x hx hk)
 show((forIn scope.names ([]:List (Str×Θ)) fun(x:Str×adT) cs=>(if(x.2==NameKind.free)=ξ then do let a <-cellOf X.env x.1;pure (ForInStep.yield ((x.1,a)::cs))else pure (ForInStep.yield cs):Sem (ForInStep (List (Str×Θ))))) >>= λcs=>pure cs)=_
 rw[e,pure_bind]
theorem gk.cap(S:gk X ns js scope) (I:Inv X pins σ H s) {x:Str}{c:Θ}(h:(mh X scope).lookup x=ζ c):(x,NameKind.free)∈scope.names/\X.env.cells.lookup x=ζ c:=by
 rcases J8 _ _ h with⟨a,b⟩|q
 ·refine⟨a,?_⟩;obtain⟨c',hc⟩:=I.ok.has x (S.names _ a rfl);rw[hc]at b ⊢;rw[b];rfl
 ·cases q
theorem gk.has(S:gk X ns js scope) (I:Inv X pins σ H s) {x:Str}(h:(x,NameKind.free)∈scope.names):∃c,(mh X scope).lookup x=ζ c:=asd.mp (J9 _ _ (.inr h))
theorem gk.cl(S:gk X ns js scope) (I:Inv X pins σ H s):yT (mh X scope) ns:=⟨λx y c h1 h2=>I.ok.inj x y c (S.cap I h1).2 (S.cap I h2).2,λx c h=>S.all x (S.cap I h).1⟩
open Classical in
def oV(cl:List (Str×Θ)) (h:χ):Θ->Option Obj:=λb=>if ∃x,cl.lookup x=ζ b then h.get? b else η
theorem GQ{cl:List (Str×Θ)}{h:χ}{b:Θ}{o:Obj}(e:oV cl h b=ζ o):(∃x,cl.lookup x=ζ b)/\h.get? b=ζ o:=by
 unfold oV at e;split at e
 ·rename_i z;exact⟨z,e⟩
 ·cases e
theorem Pz{cl:List (Str×Θ)}{h:χ}{b:Θ}{o:Obj}{x:Str}(e:cl.lookup x=ζ b) (g:h.get? b=ζ o):oV cl h b=ζ o:=by
 unfold oV;rw[if_pos ⟨x,e⟩,g]
theorem gk.fz(S:gk X ns js scope) (I:Inv X pins σ H s) (hfn:∀x,X.fn x=ξ):Ko X H s (oV (mh X scope) s.heap):=by
 refine⟨λb o e=>(GQ e).2,λb o e=>?_,λb o e=>?_,λb o e=>?_⟩
 all_goals
  obtain⟨⟨x,hx⟩,_⟩:=GQ e;have hc:=(S.cap I hx).2
 ·exact I.jf x b hc
 ·exact I.ok.pD x b (hfn x) hc
 ·exact I.pC x b hc
theorem gk.cells(S:gk X ns js scope) (I:Inv X pins σ H s) (i j:Nat) (x:Str) (v:V) (hj:js[i]? = ζ j) (hx:ns[i]? = ζ x) (hv:σ[j]? = ζ (ζ v)):∃c oc u,(mh X scope).lookup x=ζ c/\oV (mh X scope) s.heap c=ζ oc/\oc.data=.cell (ζ u)/\RelV v u:=by
 obtain⟨h1,h2,h3⟩:=S.got i j x hj hx;obtain⟨c,hc⟩:=S.has I h1;have hce:=(S.cap I hc).2;obtain⟨m,hm,hl⟩:=I.loc;obtain⟨u,ru,lk⟩:=hl j x v h2 hv (h3.elim (λz=>.inr (.inl z)) λz=>.inr (.inr z))
 rcases lk with⟨k,_⟩|⟨_,c',hc',oc,ho,hd⟩
 ·rcases h3 with z|z<;>(rw[z]at k;cases k)
 ·rw[hce]at hc';cases hc';exact⟨c,oc,u,hc,Pz hc ho,hd,ru⟩
structure ans (H H':Hp) (P:Θ) (q:Str) (e:ο) (cl:List (Str×Θ)) (a:Θ):Prop where
 at':∃o c,H' a=ζ (.ext (qx a o))/\yO e o q c cl/\H' c=ζ (.ext (qK c q))
 keep:∀b u,H b=ζ u->xO u=Δ->H' b=ζ u
 tabs:∀b ps,b≠P->H b=ζ (.cX ps)->H' b=ζ (.cX ps)
 tab:TabAt H' P q
def Vl(P:Θ) (q:Str) (e:ο) (cl:List (Str×Θ)):TE:=λ_ H Q=>TabAt H P q/\∀a H',ans H H' P q e cl a->Q (.ref a) H'
theorem aaL{c P:Θ}{q:Str}{params:ahe}{body:ο}{pos:Pos}(S:gk X ns js scope) (hcode:X.env.code=.ref c) (hq:X.env.qual++"<lambda>"=q) (hC:PySem.W.codeHdIn X.K c P=ξ) (hdef:defaultsOf params X.env=([],[])) :
  PE X (.Lambda params body scope pos) (Vl P q (.Lambda params body scope pos) (mh X scope)):=λpins s σ H Q I h =>
 afH I hcode hq hC h.1 (S.clos I) hdef λa H' s' I' hge N=>⟨.ref a,H',I',rfl,h.2 a H' ⟨N.at',N.keep,N.tabs,N.tab⟩⟩
def Vs(cl:List (Str×Θ)) (ns:List Str) (js:List Nat) (sp:Sp) (t:TA):TE:=λσ H Q=>t σ H λvs H1=>yT cl ns->∀F:Θ->Option Obj,(∀b o,F b=ζ o->H1 b=η) ->
 (∀(i j:Nat) (x:Str) (v:V),js[i]? = ζ j->ns[i]? = ζ x->σ[j]? = ζ (ζ v)->∃c oc u,cl.lookup x=ζ c/\F c=ζ oc/\oc.data=.cell (ζ u)/\RelV v u)->sp vs (fW H1 F) (λv H'=>Q v (c9 H' F)) E0
theorem aaU{x:Str}{st:ad4}{ps:List Str}{f:Θ}{fd:ν}{k:Nat}{sp:Sp}{e:ο}{es:List ο}{t:TA}{p pos:Pos}(D:Def X.K X.mg x st ps f fd) (G:bH X.prog X.w X.K X.mg X.base bB k f fd ps sp) (hr:dg k X.A) (S:gk X ns js scope) (hfn:∀x,X.fn x=ξ) (ha:PA X (e::es) t) (hg:Gl X x:=by rfl)
  (hdb:(x==("__debug__":Str))=Δ:=by decide) (he:μ (e::es) X.env=(Δ,eval e X.env)::μ es X.env:=by rfl) (hpl:(aea pos (μ es X.env)).any (·.1)=Δ:=by rfl) :
  PE X (.Call (.Name x p) (e::es) [] pos) (Vs (mh X scope) ns js sp t):=by
 intro pins s σ H Q I h;refine arL (Eg I hg D.at' ?_ hdb);refine aub (h₀:=X.base) I.ok.mod.lU D.fn.kp (bw (ha pos pins s σ H _ I h) λus s1 ⟨vs,H1,I1,r,q⟩=>⟨I1.fN,?_⟩) he hpl
 exact X7 G hr D.bd I1 (S.fz I1 hfn) r (q (S.cl I1) _ (λb o e=>(S.fz I1 hfn).free b o e) λi j x v h1 h2 h3=>S.cells I1 i j x v h1 h2 h3)
end
def getAll(e:Ev):List Nat->Option (List D)
 |[]=>ζ []
 |j::js=>match e[j]?,getAll e js with
  |some (ζ d),ζ l=>ζ (d::l)
  |_,_=>η
def yt(k:Nat) (m:List D->aa->R D) (d1:af) (E:ο) (ns:List Str) (js:List Nat):af:=λe c=>(d1 e c).bind λx c=>match getAll e js with
 |some l=>(m [x,.lam k E ns l] c).bind λv c=>if noRef v=ξ then .ok v c else .bad
 |none=>.bad
section
variable {X:Cx}{K:Ω}{ρ:List Θ}{H Hf:Hp}{σ:St}
theorem RG{e:Ev}{cl:List (Str×Θ)}{F:Θ->Option Obj}(Vv:dU K ρ H e σ) (hV:∀d v,Rel K ρ H d v->Rel K ρ Hf d v) (hf:∀c o,F c=ζ o->Hf c=ζ (.cY o (.own 0))):∀(js:List Nat) (ns:List Str) (l:List D),js.length=ns.length->getAll e js=ζ l ->
  (∀(i j:Nat) (x:Str) (v:V),js[i]? = ζ j->ns[i]? = ζ x->σ[j]? = ζ (ζ v)->∃c oc u,cl.lookup x=ζ c/\F c=ζ oc/\oc.data=.cell (ζ u)/\RelV v u)->∃xs,iU Hf cl ns xs/\aK K ρ Hf l xs
 |[],[],l,_,h,_=>by
  unfold getAll at h;cases h;exact⟨[],rfl,rfl⟩
 |j::js,x::ns,l,hl,h,hc=>by
  unfold getAll at h;split at h
  ·rename_i d r hd hr;cases h;obtain⟨v,hv,rv⟩:=Vv.get j d hd;obtain⟨c,oc,u,h1,h2,h3,h4⟩:=hc 0 j x v rfl rfl hv;obtain⟨xs,h5,h6⟩:=RG Vv hV hf js ns r (Nat.succ.inj hl) hr λi j x v a b d=>hc (i+1) j x v a b d
   exact⟨v::xs,⟨v,xs,c,oc,u,rfl,h1,hf c oc h2,h3,h4,h5⟩,v,xs,rfl,hV d v rv,h6⟩
  ·cases h
 |[],_::_,_,hl,_,_=>by cases hl
 |_::_,[],_,hl,_,_=>by cases hl
def Ej(K:Ω):List (Str×Θ):=qy.filterMap λx=>(PySem.W.tabIn K x).map λq=>(x,q.2)
def we(K:Ω):Bool:=(Ej K).all λa=>(Ej K).all λb=>!(a.2==b.2)||(a.1==b.1)
theorem U1(h:we K=ξ) {x y:Str}{c d P:Θ}(hx:x∈qy) (hy:y∈qy) (tx:PySem.W.tabIn K x=ζ (c,P)) (ty:PySem.W.tabIn K y=ζ (d,P)):x=y:=by
 unfold we at h;have m:∀{z:Str}{c:Θ},z∈qy->PySem.W.tabIn K z=ζ (c,P)->(z,P)∈Ej K:=fun{z c} hz tz=>arK.mpr ⟨z,hz,by rw[tz];rfl⟩
 have:=apA.mp (apA.mp h _ (m hx tx)) _ (m hy ty)
 simpa using this
theorem Wd.aeb{c:aa}{a:Θ}{o:Obj}{u:HO}(W:Wd K ρ H c) (h:H a=ζ (.cY o u)):a∉ρ:=λm=>by
 obtain⟨ys,e⟩:=W.at' m;rw[e]at h;cases h
theorem MG{kk:Nat}{x y:Str}{st:ad4}{ps:List Str}{f c P:Θ}{fd:ν}{k:Nat}{m:List D->aa->R D}{e1 body:ο}{d1:af}{params:ahe}{scope:aeB}{ns:List Str}{js:List Nat}{p pos qv:Pos}
  (D:Def X.K X.mg x st ps f fd) (G:bH X.prog X.w X.K X.mg X.base bB k f fd ps (bM X.K 2 m)) (hr:dg k X.A) (he1:bh X e1 d1) (S:gk X ns js scope) (hjn:js.length=ns.length) (hfn:∀x,X.fn x=ξ) (hy:y∈qy) (ht:PySem.W.tabIn X.K y=ζ (c,P)) (hap:we X.K=ξ) (hcode:X.env.code=.ref c) (hq:X.env.qual++"<lambda>"=Aw y) (hC:PySem.W.codeHdIn X.K c P=ξ)
  (hdef:defaultsOf params X.env=([],[]):=by rfl) (hg:Gl X x:=by rfl)
  (hdb:(x==("__debug__":Str))=Δ:=by decide) (hs1:μ [e1,.Lambda params body scope qv] X.env=(Δ,eval e1 X.env)::μ [.Lambda params body scope qv] X.env:=by exact cR rfl) (hs2:μ [.Lambda params body scope qv] X.env=(Δ,eval (.Lambda params body scope qv) X.env)::μ [] X.env:=by exact cR rfl) (hpl:(aea pos (μ [.Lambda params body scope qv] X.env)).any (·.1)=Δ:=by exact e9 rfl) :
  bh X (.Call (.Name x p) [e1,.Lambda params body scope qv] [] pos) (yt kk m d1 (.Lambda params body scope qv) ns js) :=
 PE.imp (aaU D G hr S hfn (i9 he1 (i9 (aaL (c:=c) (P:=P) (q:=Aw y) S hcode hq hC hdef) jB hs2) hs1) hg hdb hs1 hpl) λσ H Q h=>by
  obtain⟨ρ,e,c0,W,V,pp⟩:=h;refine⟨ρ,e,c0,W,V,post.bind pp λx1 c1 aL H1 v _ W1 X1 r1 p1=>?_⟩
  have V1:=V.mono W X1;refine⟨W1.tab y hy c P ht,λa H' N=>?_⟩
  have U4:rA X.K H':=λz hz d P' tz=>by
   by_cases hP:P'=P
   ·subst hP;rw[U1 hap hz hy tz ht];exact N.tab
   ·exact(W1.tab z hz d P' tz).mono (λps e=>N.tabs P' ps hP e) λc φ e=>N.keep c _ e rfl
  obtain⟨X2,W2⟩:=KR W1 N.keep U4;intro hcl F hF GC;obtain⟨X3,W3⟩:=KS W2 hF;have R5:=X2.trans X3;split at p1
  ·rename_i l hl;obtain⟨xs,hxs,hrs⟩:=RG (Hf:=fW H' F) V1 (λd v r=>Rel.mono W1 R5 d v r) (λc o e=>oW e) js ns l hjn hl GC
   obtain⟨o,cc,ha,hobj,hcc⟩:=N.at';refine⟨aL,[x1,.lam kk _ ns l],c1,W3,⟨v,[.ref a],rfl,Rel.mono W1 R5 x1 v r1,.ref a,[],rfl,⟨a,o,Aw y,cc,_,xs,rfl,j6 hF ha,hobj,j6 hF hcc,hcl,hxs,hrs⟩,rfl⟩,rfl,?_⟩;cases hm:m [x1,.lam kk _ ns l] c1 with
   |bad=>rw[hm]at p1;exact p1.elim
   |ok d c2 =>
    rw[hm,R.aA]at p1;split at p1
    ·rename_i hn;intro ρ' H4 b W4 X4 r4;have fz:∀b o,F b=ζ o->H4 b=ζ (.cY o (.own 0)):=λb o e=>(X4.keep b _ (oW e) (W3.aeb (oW e)) rfl).1
     exact p1 ρ' (c9 H4 F) b (KQ W4 fz) (X2.trans (ai5 X4 hF)) (Rel.c9 fz d b (Nt d hn) r4)
    ·exact p1.elim
  ·exact p1.elim
end
def Tg(s:ε) (H:Hp) (outer:List Env) (cl:List (Str×Θ)) (ns:List Str) (cs:List V):Prop :=
 cs.length=ns.length/\∀(i:Nat) (x:Str),ns[i]? = ζ x->∃v c u,cs[i]? = ζ v/\cl.lookup x=ζ c/\s.heap.IsCell c (ζ u)/\RelV v u/\H c=η/\c∉frs outer
def rD(P:υ) (w:ψ) (K:Ω) (mg:Str->Option Γ) (base:χ) (k:Nat) (E:ο) (ns:List Str) (n:Nat) (sp:Sp):Prop :=
 ∀(A:acr) (outer:List Env) (s:ε) (H:Hp) (a:Θ) (o:Obj) (q:Str) (cc:Θ) (cl:List (Str×Θ)) (us:List Γ) (vs cs:List V) (Q:VK),dg k A->rE P w K mg base A outer s H->s.heap.get? a=ζ o->yO E o q cc cl->s.heap.CodeRec (.ref cc) q->yT cl ns ->
  Tg s H outer cl ns cs->Vals vs us->vs.length=n->sp (vs++cs) H Q E0->codeAny (model P w) A (.call (.ref a) ⟨us,[]⟩) (CR bB outer P w H s Q E0) s
def xJ(P:υ) (w:ψ) (K:Ω) (mg:Str->Option Γ) (base:χ) (N:List Str) (qual:Str) (scope:aeB) (f:Θ) (cd:Γ) (cl:List (Str×Θ)) (A:acr) (outer:List Env) (s:ε) (H:Hp):Cx where
 prog:=P
 w:=w
 K:=K
 mg:=mg
 base:=base
 A:=A.deeper (PySem.W.envX qual scope s.heap.objs.size f cd cl)
 N:=N
 s₀:=s
 H₀:=H
 env:=PySem.W.envX qual scope s.heap.objs.size f cd cl
 outer:=outer
 stack:=PySem.W.envX qual scope s.heap.objs.size f cd cl::outer
 ex:=[]
 calm:=ξ
 fn:=λ_=>Δ
 pn:=[]
 xe:=λ_ _=>False
structure vN (ps ns:List Str) (scope:aeB):Prop where
 kind:scope.kind=.function
 co:scope.isCoroutine=Δ
 gen:scope.isGenerator=Δ
 nd:(ps++ns).Nodup
 par:∀x∈ps,scope.names.lookup x=ζ .local
 cap:∀x∈ns,scope.names.lookup x=ζ .free
 Nn:∀y∈scope.names,y.2≠.cell
 free:∀y∈scope.names,y.2=.free->y.1∈ns
theorem vN.of{ps ns:List Str}{scope:aeB}(h1:scope.kind=.function) (h2:scope.isCoroutine=Δ) (h3:scope.isGenerator=Δ)
  (h:(decide (ps++ns).Nodup&&ps.all (λx=>decide (scope.names.lookup x=ζ NameKind.local))&&ns.all (λx=>decide (scope.names.lookup x=ζ NameKind.free))&&scope.names.all (λy=>decide (y.2≠NameKind.cell)&&(decide (y.2≠NameKind.free)||decide (y.1∈ns))))=ξ):vN ps ns scope:=by
 simp only[apN,apA,decide_eq_true_eq,aq8]at h;obtain⟨⟨⟨a,b⟩,c⟩,d⟩:=h;exact⟨h1,h2,h3,a,b,c,λy hy=>(d y hy).1,λy hy e=>(d y hy).2.elim (λz=>absurd e z) id⟩
theorem Tp{x:Str}:∀{ps:List Str}{us:List Γ},x∉ps->(ps.zip us).reverse.lookup x=η:=fun{ps us} h=>by
 cases e:(ps.zip us).reverse.lookup x with
 |none=>rfl
 |some v=>exact absurd (arM (List.mem_reverse.mp (aqw e))).1 h
theorem N1{x:Str}{v:Γ}:∀{l m:List (Str×Γ)},l.lookup x=η->(l++m).lookup x=m.lookup x
 |[],_,_=>rfl
 |(y,u)::l,m,h=>by
  rw[ap6]at h;rw[atH,ap6];cases hb:x==y with
  |true=>rw[hb]at h;cases h
  |false=>rw[hb]at h;exact N1 (v:=v) h
theorem NZ{x:Str}{v:Γ}:∀{l m:List (Str×Γ)},l.lookup x=ζ v->(l++m).lookup x=ζ v
 |(y,u)::l,m,h=>by
  rw[ap6]at h;rw[atH,ap6];cases hb:x==y with
  |true=>rw[hb]at h;exact h
  |false=>rw[hb]at h;exact NZ h
theorem Kv{x:Str}{v:Γ}:∀{ps:List Str}{us:List Γ}{i:Nat},ps.Nodup->ps[i]? = ζ x->us[i]? = ζ v->(ps.zip us).reverse.lookup x=ζ v
 |p::ps,u::us,0,nd,h1,h2=>by
  cases h1;cases h2;rw[ar1,auO,N1 (v:=v) (Tp (aqu.mp nd).1)];simp
 |p::ps,u::us,i+1,nd,h1,h2=>by
  rw[ar1,auO];exact NZ (Kv (i:=i) (aqu.mp nd).2 (by simpa using h1) (by simpa using h2))
 |[],_,_,_,h1,_=>by simp at h1
 |_::_,[],_,_,_,h2=>by simp at h2
theorem afG{P:υ}{w:ψ}{K:Ω}{mg:Str->Option Γ}{base:χ}{k:Nat}{params:ahe}{body:ο}{scope:aeB}{pos:Pos}{ps ns:List Str}{sp:Sp}(S:vN ps ns scope)
  (hbind:∀(q:Str) (cl:List (Str×Θ)) (pm cdv ct:Γ) (us:List Γ),us.length=ps.length->bindArgs (PySem.W.kla_fn "<lambda>" q params body scope cl pm cdv ct) ⟨us,[]⟩=pure (ps.zip us))
  (hb:∀(q:Str) (f:Θ) (cd:Γ) (cl:List (Str×Θ)) (A:acr) (outer:List Env) (s:ε) (H:Hp) (vs:List V) (Q:VK),dg k (A.deeper (PySem.W.envX q scope s.heap.objs.size f cd cl))->sp vs H Q E0->∃t,PE (xJ P w K mg base (ps++ns) q scope f cd cl A outer s H) body t/\t (vs.map ζ) H Q) :
  rD P w K mg base (k+1) (.Lambda params body scope pos) ns ps.length sp:=by
 intro A outer s H a o q cc cl us vs cs Q hr e0 ho hobj hcd hcl hcap rv hlen kU;obtain⟨pm,ctv,rfl⟩:=hobj;have KX:K.In s.heap:=e0.mod.lU.keeps λb o e=>(e0.bs b o e).1
 have lim:s.heap.NoLimit:=e0.mod.nolimit.keeps λb o e=>(e0.bs b o e).1
 have hul:us.length=ps.length:=by rw[<-rv.length];exact hlen
 refine PySem.W.kla_callFunE hr.depth ho rfl S.co S.gen rfl hcd ?_;rw[hbind q cl pm (.ref cc) ctv us hul];have ndp:ps.Nodup:=(arw.mp S.nd).1;refine apr (wpAny_newFunctionEnv S.Nn (λy hy=>S.par y.1 (arM hy).1) (λh₁ hns gv=>⟨lim.fresh _ gv,?_⟩) S.kind)
 show codeAny _ _ (.expr body (PySem.W.envX q scope s.heap.objs.size a (.ref cc) cl)) _ _;have hk₁:∀b ob,s.heap.get? b=ζ ob->h₁.get? b=ζ ob:=λb ob e=>gv.extBut b ob (apz (apy e)) (apt _ e)
 obtain⟨t,ht,hq⟩:=hb q a (.ref cc) cl A outer s H (vs++cs) Q (hr.deeper _) kU;have lM:∀b:Θ,b∉(xJ P w K mg base (ps++ns) q scope a (.ref cc) cl A outer s H).ex:=λb z=>absurd (show b∈([]:List Θ)from z) (by simp)
 have Pq:∀x c,cl.lookup x=ζ c->∃v u,s.heap.IsCell c (ζ u)/\RelV v u/\H c=η:=λx c e=>by
  obtain⟨i,hi,ei⟩:=aqV.mp (hcl.2 x c e);obtain⟨v,c',u,_,h2,h3,h4,h5,_⟩:=hcap.2 i x (by rw[apw hi,ei])
  rw[e]at h2;cases h2;exact⟨v,u,h3,h4,h5⟩
 have Ol:∀{c:Θ}{u:Option Γ},s.heap.IsCell c u->h₁.IsCell c u:=fun{c u} ⟨o,e,d⟩=>⟨o,hk₁ c o e,d⟩
 have I:Inv (xJ P w K mg base (ps++ns) q scope a (.ref cc) cl A outer s H) [] ((vs++cs).map ζ) H {s with heap:=h₁,toks:=s.toks+(ps.zip us).length}:=by
  refine⟨⟨e0.mod,S.kind,rfl,rfl,aps _,hcl.1,λx hx=>?_,λx c h=>absurd h (by simp[xJ]),λ_=>hr.hd,Around.frames_deeper e0.frames,.inr ⟨rfl,rfl⟩,λb z=>absurd z (lM b),e0.bs,e0.iS,λb _ _=>lM b,λb z=>absurd z (lM b),e0.iD,e0.kX⟩,
   rfl,e0.bare,Un.kept hk₁,⟨_,hns,λi x v h1 h2 h3=>?_⟩,λx c h=>?_,e0.hok.fresh (aps _),λx c h=>?_,λp hp=>absurd (show p∈([]:List (Θ×Obj))from hp) (by simp),e0.hok.kept hk₁,?_⟩
  ·have hx:scope.names.lookup x=ζ .cell\/scope.names.lookup x=ζ .free:=hx
   rcases hx with hx|hx
   ·exact absurd rfl (S.Nn _ (aqw hx))
   ·have hm:=S.free _ (aqw hx) rfl;obtain⟨i,hi,ei⟩:=aqV.mp hm;obtain⟨v,c',u,_,h2,_⟩:=hcap.2 i x (by rw[apw hi,ei])
    exact⟨c',h2⟩
  ·have h1:(ps++ns)[i]? = ζ x:=h1;have h2':(vs++cs)[i]? = ζ v:=by
    rw[apM]at h2;cases e:(vs++cs)[i]? with
    |none=>rw[e]at h2;cases h2
    |some b=>rw[e]at h2;cases h2;rfl
   by_cases hi:i<ps.length
   ·rw[ap8 hi]at h1;rw[ap8 (by omega)]at h2'
    obtain⟨u,hu,ru⟩:=rv.get h2';refine⟨u,ru,.inl ⟨S.par x (apT h1),?_⟩⟩;exact Kv ndp h1 hu
   ·rw[aqi (by omega)]at h1
    rw[aqi (by omega),hlen]at h2'
    obtain⟨v',c,u,e1,e2,e3,e4,_⟩:=hcap.2 _ x h1;rw[h2']at e1;cases e1;exact⟨u,e4,.inr ⟨.inr (S.cap x (apT h1)),c,e2,Ol e3⟩⟩
  ·obtain⟨v,u,h3,_⟩:=Pq x c h;exact⟨_,Ol h3⟩
  ·obtain⟨v,u,_,_,h5⟩:=Pq x c h;exact h5
  ·show((vs++cs).map ζ).length=(ps++ns).length;rw[apC,ap5,ap5,hlen,hcap.1]
 refine PySem.W.kla_codeExpr (ap4 (ht [] _ _ H Q I hq) (λu s' hs=>?_) λe s' hs=>False.elim hs)
 obtain⟨v,H',J,ru,q⟩:=hs;exact⟨v,H',J.os,J.bare,J.base,J.hok,ru,q⟩
section
variable {M:Model}{A:acr}{E:Γ->ε->Prop}{s:ε}{env:Env}{pos:Pos}{Q:Γ->ε->Prop}
theorem alS{a:Θ}{o:Obj}{fd:ν}{e:ο}{rest:List ο}(hd:o.data=.func fd) (h:wpAny M A (spliced (aea pos (μ (e::rest) env))) (λvs s₁=>s₁.heap.get? a=ζ o/\wpAny M A (call (.ref a) ([]++vs)) Q E s₁) E s)
  (he:μ (e::rest) env=(Δ,eval e env)::μ rest env) (hplain:(aea pos (μ rest env)).any (·.1)=Δ) :
  wpAny M A (callWith pos (.ref a) [] (aea pos (μ (e::rest) env)) []) Q E s:=by
 rw[he]at h ⊢;refine PySem.W.callWith_of (P:=λh=>h.get? a=ζ o) (by show((Δ||(aea pos (μ rest env)).any (·.1))||false)=Δ;rw[hplain];rfl) (λh e=>⟨.frame,.inl rfl,?_⟩) (PySem.Calls.evalArgs_plain h)
 obtain⟨oc,od,dt,sl⟩:=o;cases hd;exact(PySem.W.Looks.ld (part:=η) e).andThen PySem.W.Looks.now
end
section
variable {X:Cx}{pins:List (Θ×Obj)}{σ:St}{H H':Hp}{s s':ε}{F:Θ->Option Obj}
theorem Uu{P:υ}{w:ψ}{h:χ}(hok:dJ P w H h) (hF:∀b o,F b=ζ o->H b=ζ (.cY o (.own 0))):dJ P w (c9 H F) h:=λb u e=>by
 cases hb:F b with
 |some o=>rw[rH hb]at e;cases e
 |none =>
  rw[jt hb]at e;exact(hok b u e).stay (λ_ _ _ z=>z) (λc z=>jr hF z λ_ q=>nomatch q) λc xs z=>jr hF z λ_ q=>nomatch q
theorem vW{b:Θ}(h:H b=η):c9 H F b=η:=by
 unfold c9;split<;>first|rfl|exact h
theorem XZ{k n:Nat}{Ex:ο}{ns:List Str}{sp:Sp}{a cc:Θ}{o:Obj}{q:Str}{cl:List (Str×Θ)}{us:List Γ}{vs cs:List V}{Q:VK}(G:rD X.prog X.w X.K X.mg X.base k Ex ns n sp) (hr:dg k X.A) (I:Inv X pins σ H s)
  (ha:H a=ζ (.ext (qx a o))) (hobj:yO Ex o q cc cl) (hcc:H cc=ζ (.ext (qK cc q))) (hcl:yT cl ns) (hcs:iU H cl ns cs) (r:Vals vs us) (hn:vs.length=n)
  (h:∀F:Θ->Option Obj,(∀b o,F b=ζ o->H b=ζ (.cY o (.own 0)))->sp (vs++cs) (c9 H F) (λv H'=>(∀b o,F b=ζ o->H' b=η)->Q v (fW H' F)) E0) :
  wpAny (model X.prog X.w) X.A (call (.ref a) us) (EP X pins σ Q) X.xe s:=by
 have hF:∀b ob,oV cl s.heap b=ζ ob->H b=ζ (.cY ob (.own 0)):=λb ob e=>by
  obtain⟨⟨x,hx⟩,hg⟩:=GQ e;obtain⟨i,hi,ei⟩:=aqV.mp (hcl.2 x b hx);obtain⟨v,c,oc,u,_,h2,h3,_⟩:=hcs.get (i:=i) (x:=x) (by rw[apw hi,ei])
  rw[hx]at h2;cases h2;have:=(I.hok b _ h3).1;rw[hg]at this;cases this;exact h3
 generalize hFd:oV cl s.heap=F at hF
 have e:=I.HX;have e0:rE X.prog X.w X.K X.mg X.base X.A X.stack s (c9 H F):=⟨e.frames,e.mod,λb o h=>⟨(e.bs b o h).1,vW (e.bs b o h).2⟩,e.iS,e.iD,λb hb=>vW (e.kX b hb),Uu I.hok hF,e.bare⟩
 have nf:∀b ob,F b=ζ ob->b∉frs X.stack:=λb ob z hb=>by
  have:=I.CZ b hb;rw[hF b ob z]at this;cases this
 have cap:Tg s (c9 H F) X.stack cl ns cs:=by
  refine⟨hcs.length,λi x hx=>?_⟩
  obtain⟨v,c,oc,u,h1,h2,h3,h4,h5⟩:=hcs.get hx;have hg:=(I.hok c _ h3).1;have hf:F c=ζ oc:=by rw[<-hFd];exact Pz h2 hg
  exact⟨v,c,u,h1,h2,⟨oc,hg,h4⟩,h5,rH hf,nf c oc hf⟩
 refine ari (aqt (G X.A X.stack s (c9 H F) a o q cc cl us vs cs _ hr e0 (I.hok a _ ha).1 hobj (I.hok cc _ hcc).1 hcl cap r hn (h F hF)) λrr s' hq=>?_)
 cases rr with
 |error e=>exact False.elim hq
 |ok fl =>
  cases fl with
  |next=>exact False.elim hq
  |brk=>exact False.elim hq
  |cont=>exact False.elim hq
  |ret u =>
   obtain⟨v,H',os,bare,un,hok,rv,q⟩:=hq;have gF:∀b ob,F b=ζ ob->s.heap.get? b=ζ ob:=λb ob z=>(I.hok b _ (hF b ob z)).1
   have hn':∀b ob,F b=ζ ob->H' b=η:=λb ob z=>un.free b ob (gF b ob z) (rH z) (by simp)
   have hg':∀b ob,F b=ζ ob->s'.heap.get? b=ζ ob:=λb ob z=>un.keep b ob (gF b ob z) (rH z) (nf b ob z) (by simp)
   have Fn:∀{b:Θ},H b=η->F b=η:=fun{b} z=>by
    cases e:F b with
    |none=>rfl
    |some ob=>rw[hF b ob e]at z;cases z
   have old:∀{b:Θ}{u:HO},H b=ζ u->(∀o,u≠.cY o (.own 0))->F b=η/\c9 H F b=ζ u:=fun{b u} z nq=>by
    cases e:F b with
    |none=>exact⟨rfl,by rw[jt e];exact z⟩
    |some ob=>rw[hF b ob e]at z;exact absurd (apQ z).symm (nq ob)
   have CQ:Un (frs X.stack) [] H (fW H' F) s.heap s'.heap:=by
    refine⟨λb o e n hb hx=>un.keep b o e (vW n) hb hx,λb o e n hb hx=>un.slot b o e (vW n) hb hx,λb o e n hx=>?_,un.there,λb xs e=>?_,λb o u e=>?_,λb ps e=>?_⟩
    ·rw[jI (Fn n)];exact un.free b o e (vW n) hx
    ·obtain⟨h1,h2⟩:=old e λ_ z=>nomatch z
     rw[jI h1];exact un.tups b xs h2
    ·cases z:F b with
     |some ob =>
      have:=hF b ob z;rw[e]at this;cases this;exact oW z
     |none=>rw[jI z];exact un.je b o u (by rw[jt z];exact e)
    ·obtain⟨h1,h2⟩:=old e λ_ z=>nomatch z
     rw[jI h1];exact un.ju b ps h2
   exact⟨v,fW H' F,I.I0 os CQ (PB hok hn' hg') bare λb z=>absurd z (by simp),rv,q hn'⟩
end
open Classical in
def qJ(i n:Nat) (cX:List (ο×List Str×(List D->aa->R D))) (a:aj):af:=λe c=>match e[i]? with
 |some (ζ (.lam k E ns l))=>match cX[k]? with
  |some t=>if E=t.1/\ns=t.2.1 then(a e c).bind λxs c=>if xs.length=n/\dZ xs=ξ/\dZ l=ξ then t.2.2 (xs++l) c else .bad else .bad
  |none=>.bad
 |_=>.bad
theorem abb{X:Cx}(i:Nat) {n:Nat}{cX:List (ο×List Str×(List D->aa->R D))}{x:Str}{e:ο}{es:List ο}{da:aj}{p pos:Pos}(hT:∀t∈cX,∃k,rD X.prog X.w X.K X.mg X.base k t.1 t.2.1 n (bM X.K (n+t.2.1.length) t.2.2)/\dg k X.A) (ha:eZ X (e::es) da)
  (hN:X.N[i]? = ζ x:=by rfl) (hv:Ca X.env.scope x:=by first|exact Or.inl rfl|exact Or.inr (Or.inl rfl)|exact Or.inr (Or.inr rfl)) (hd:(x==("__debug__":Str))=Δ:=by decide)
  (hcd:(x==("__classdict__":Str))=Δ:=by decide) (he:μ (e::es) X.env=(Δ,eval e X.env)::μ es X.env:=by exact cR rfl) (hpl:(aea pos (μ es X.env)).any (·.1)=Δ:=by exact e9 rfl) :
  bh X (.Call (.Name x p) (e::es) [] pos) (qJ i n cX da):=by
 intro pins s σ H Q I h;obtain⟨ρ,ev,c,W,Vv,q⟩:=h;unfold qJ at q;split at q
 ·rename_i kk Ex ns l hf;obtain⟨v,hσ,rl⟩:=Vv.get i _ hf;obtain⟨a,o,qn,cc,cl,cs,rfl,ha1,hobj,hcc,hcl,hcs,hrs⟩:=id rl;split at q
  ·rename_i t ht;split at q
   ·rename_i hzy;obtain⟨rfl,rfl⟩:=hzy;obtain⟨k,G,hr⟩:=hT _ (apT ht);refine arL (bw (MB hN hv hd hcd pins s σ H (λv H1=>v=.ref a/\H1=H) I ⟨_,hσ,rfl,rfl⟩) λu s1 ⟨v,H1,I1,r1,q1⟩=>?_)
    obtain⟨rfl,rfl⟩:=q1;cases r1;have hdata:∃fd,o.data=.func fd:=by
     cases hE:t.1 with
     |Lambda params body scope lp =>
      rw[hE]at hobj;obtain⟨pm,ctv,rfl⟩:=hobj;exact⟨_,rfl⟩
     |_=>rw[hE]at hobj;exact hobj.elim
    obtain⟨fd,hdata⟩:=hdata;refine alS hdata (bw (ha pos pins s1 σ H1 (λvs H2=>∃aL xs c1,Wd X.K aL H2 c1/\Ext ρ H1 aL H2/\aK X.K aL H2 xs vs/\xs.length=n/\dZ xs=ξ/\dZ l=ξ/\post X.K (Rel X.K) (t.2.2 (xs++l) c1) aL H2 Q) I1 ⟨ρ,ev,c,W,Vv,post.bind q λxs c1 aL H2 vs _ W1 X1 r1 p1=>?_⟩) λus s2 ⟨vs,H2,I2,r2,aL,xs,c1,W1,X1,rx,hl,n1,n2,p1⟩=>?_) he hpl
    ·split at p1
     ·rename_i hc;exact⟨aL,xs,c1,W1,X1,r1,hc.1,hc.2.1,hc.2.2,p1⟩
     ·exact p1.elim
    ·obtain⟨a',o',qn',cc',cl',cs',ea,ha2,ahB,ahZ,ahX,O6,OT⟩:=Rel.mono W X1 _ _ rl;cases ea;have eo:o=o':=by
      have e1:=(X1.keep a _ ha1 (λm=>by obtain⟨ys,z⟩:=W.at' m;rw[z]at ha1;cases ha1) rfl).1
      have g1:=(I2.hok a _ e1).1;have g2:=(I2.hok a _ ha2).1;have g1':s2.heap.get? a=ζ o:=g1;have Py:s2.heap.get? a=ζ o':=g2;rw[g1']at Py;exact apQ Py
     subst eo;refine⟨(I2.hok a _ ha2).1,?_⟩;refine XZ (cs:=cs') G hr I2 ha2 ahB ahZ ahX O6 r2 (by rw[rx.length];exact hl) λF hF=>?_
     refine⟨aL,xs++l,c1,KQ W1 hF,aK.append (aK.c9 hF xs vs n1 rx) (aK.c9 hF l cs' n2 OT),by rw[ap5,hl,<-OT.length,O6.length],?_⟩
     cases hm:t.2.2 (xs++l) c1 with
     |bad=>rw[hm]at p1;exact p1.elim
     |ok d c2 =>
      rw[hm]at p1;intro ρ' H4 b W4 X4 r4 OX;obtain⟨X5,W5⟩:=KS W4 OX;exact p1 ρ' (fW H4 F) b W5 (ai6 X4 W4 hF OX) (Rel.mono W4 X5 d b r4)
   ·exact q.elim
  ·exact q.elim
 ·exact q.elim
@[simp] theorem T7(i n:Nat) (cX:List (ο×List Str×(List D->aa->R D))) (a:aj) (e:Ev) (c:aa) {k:Nat}{Ex:ο}{ns:List Str}{l:List D}{m:List D->aa->R D}(h:e[i]? = ζ (ζ (.lam k Ex ns l))) (ht:cX[k]? = ζ (Ex,ns,m)):qJ i n cX a e c=(a e c).bind λxs c=>if xs.length=n/\dZ xs=ξ/\dZ l=ξ then m (xs++l) c else .bad:=by
 unfold qJ;rw[h];dsimp only;rw[ht];dsimp only;rw[if_pos ⟨rfl,rfl⟩]
def oF(d:af):List D->aa->R D:=λxs c=>d (xs.map ζ) c
theorem Yn{K:Ω}{ρ:List Θ}{H:Hp}{xs:List D}{vs:List V}(r:aK K ρ H xs vs):dU K ρ H (xs.map ζ) (vs.map ζ):=by
 refine⟨λi d h=>?_,by rw[apC,apC,r.length]⟩
 rw[apM]at h;cases e:xs[i]? with
 |none=>rw[e]at h;cases h
 |some y =>
  rw[e]at h;cases h;obtain⟨v,hv,rv⟩:=r.get e;exact⟨v,by rw[apM,hv];rfl,rv⟩
theorem Od{P:υ}{w:ψ}{K:Ω}{mg:Str->Option Γ}{base:χ}{k:Nat}{params:ahe}{body:ο}{scope:aeB}{pos:Pos}{ps ns:List Str}{d:af}(S:vN ps ns scope)
  (hbind:∀(q:Str) (cl:List (Str×Θ)) (pm cdv ct:Γ) (us:List Γ),us.length=ps.length->bindArgs (PySem.W.kla_fn "<lambda>" q params body scope cl pm cdv ct) ⟨us,[]⟩=pure (ps.zip us))
  (hb:∀(q:Str) (f:Θ) (cd:Γ) (cl:List (Str×Θ)) (A:acr) (outer:List Env) (s:ε) (H:Hp),dg k (A.deeper (PySem.W.envX q scope s.heap.objs.size f cd cl))->bh (xJ P w K mg base (ps++ns) q scope f cd cl A outer s H) body d) :
  rD P w K mg base (k+1) (.Lambda params body scope pos) ns ps.length (bM K (ps.length+ns.length) (oF d)) :=
 afG S hbind λq f cd cl A outer s H vs Q hr h=>⟨_,hb q f cd cl A outer s H hr,by
  obtain⟨ρ,xs,c,W,r,hl,p⟩:=h;exact⟨ρ,xs.map ζ,c,W,Yn r,p⟩⟩
section
variable {P:υ}{w:ψ}{K:Ω}{mg:Str->Option Γ}{base:χ}
theorem PU{x:Str}{st:ad4}{f:Θ}{fd:ν}{N ps:List Str}{k n m:Nat}{own:Bool}{d:ah}(F:nI K x x st f fd) (hn:Ψ K Ξ x=ζ (ζ (.ref f))) (S:cj N ps (aP st)) (hN:N.length=n) (hm:ps.length=m)
  (hb:∀(cdv:Γ) (A:acr) (outer:List Env) (s:ε) (H:Hp) (E:XK),(∀c P,PySem.W.tabIn K x=ζ (c,P)->cdv=.ref c)->dg k (A.deeper (envOfC x (aP st) s.heap.objs.size f cdv))->bT (kY bB P w K mg base N x (aP st) f cdv A outer s H E).lJ (bY st) d) :
  bH P w K mg base bB (k+1) f fd ps (bM K m (bK n own d)):=by
 obtain⟨oc,od,kV,doc,pm,an,B4,ct,osl,hfd,lk,hcd⟩:=F.ex;have key:∀(cdv:Γ),(∀(A:acr) (outer:List Env) (s:ε) (H:Hp) (E:XK),dg k (A.deeper (envOfC x (aP st) s.heap.objs.size f cdv))->bT (kY bB P w K mg base N x (aP st) f cdv A outer s H E).lJ (bY st) d)->cdv=B4->bH P w K mg base bB (k+1) f fd ps (bM K m (bK n own d)):=by
  intro cdv hb' e;subst e;subst hN;subst hm;subst hfd;refine PV lk hcd S (λvs H Q E h=>?_) λA outer s H vs Q E hr h=>⟨_,gA.lJ (hb' A outer s H E hr),?_⟩
  ·obtain⟨ρ,xs,c,W,r,hl,p⟩:=h;exact r.length.trans hl
  ·obtain⟨ρ,xs,c,W,r,hl,p⟩:=h;refine⟨ρ,cT N.length xs,c,W,dU.start r,post.bind p λfl c1 aL H1 b _ W1 X1 r1 p1=>?_⟩
   cases fl with
   |nx e1 =>
    obtain⟨σ1,rfl,V1⟩:=r1;exact BJ (v:=.aH) (x:=.aH) (H1:=H1) W W1 X1 rfl (by
     unfold bK at p;exact id (α:=post K (Rel K) (dH own c.length .aH c1) ρ H Q) (by
      rename_i he;rw[he]at p;exact p))
   |rt d =>
    obtain⟨v,rfl,V1⟩:=r1;exact BJ (v:=d) (x:=v) (H1:=H1) W W1 X1 V1 (by
     unfold bK at p;rename_i he;rw[he]at p;exact p)
   |bk e1=>exact p1.elim
   |ct e1=>exact p1.elim
 refine key B4 (λA outer s H E hr=>hb B4 A outer s H E (λc P' ht=>?_) hr) rfl
 unfold PySem.W.tabIn at ht;rw[hn]at ht;dsimp only at ht;rw[lk,hfd]at ht;dsimp only at ht;cases B4 with
 |ref c' =>
  dsimp only at ht;split at ht
  ·split at ht
   ·cases ht;rfl
   ·cases ht
  ·cases ht
 |_=>cases ht
end
def anq(H:Hp) (ts:List Θ):Prop:=∀b,H b=η\/(∃o xs,H b=ζ (.cY o (.lst xs)))\/(b∈ts/\H b=ζ (.cX #[]))
theorem afD{P:υ}{w:ψ}{K:Ω}{mg mb:Str->Option Γ}{k:Nat}{fa a:Θ}{fd:ν}{x:Str}{sp:Sp}{s₁:ε}{vs:List Γ}{ns:List Int}{ts:List (Θ×Θ)}
  (KX:K.In s₁.heap) (hns:s₁.heap.Ns Ξ mg) (hb:s₁.heap.Ns builtinsNs mb) (hbb:∀x:Str,x≠"__name__"->mb x=bootBuiltins x) (hlim:s₁.heap.NoLimit)
  (hbm:∃bm ob,mg "__builtins__"=ζ (.ref bm)/\bm≠builtinsNs/\s₁.heap.get? bm=ζ ob/\ob.cls=.type "module"/\ob.dict=ζ builtinsNs/\ob.data=.plain) (hg:s₁.gens=#[])
  (ha:s₁.heap.get? a=ζ {cls:=.type "list",data:=.seq vs.toArray}) (hi:ag5 vs ns) (hl:ns.length<=ι) (hr:dg k callerA)
  (GF:∀q∈ts,PySem.W.codeHdIn K q.1 q.2=ξ/\s₁.heap.get? q.2=ζ (PySem.W.tabObj #[])) (hKt:PySem.W.noTabs K=ξ)
  (F:∀base:χ,K.In base->base.Ns Ξ mg->bH P w K mg base bB k fa fd [x] sp) (hbind:∀(s:ε) (u:Γ),ahI s fd ⟨[u],[]⟩ [(x,u)])
  (kU:∀H:Hp,(∀q∈ts,H q.2=ζ (.cX #[]))->bD K H a (ns.map V.int)->sp [.ref a] H (λv _=>v=.bl ξ) λ_ _ _=>False) :
  codeAny (model P w) callerA (.call (.ref fa) ⟨[.ref a],[]⟩) (λr s'=>r=.ok (.ret (.bool ξ))/\OldK s₁.heap s'.heap/\s'.os=s₁.os/\ahk s'.gens) s₁:=by
 have rv:=KY hi;have afv:=hi.length;have oK:∀b,b∈ts.map (·.2)->s₁.heap.get? b=ζ (PySem.W.tabObj #[]):=λb h=>by
  obtain⟨q,hq,rfl⟩:=apv.mp h;exact(GF q hq).2
 have nat:a∉ts.map (·.2):=λh=>by have:=oK a h;rw[ha]at this;cases this
 have core:∀H:Hp,anq H (ts.map (·.2))->(∀q∈ts,H q.2=ζ (.cX #[]))->bD K H a (ns.map V.int)->dJ P w H s₁.heap->(∀b,H b≠η->b=a\/b∈ts.map (·.2))->(H a≠η->K.lookup a=η) ->
   codeAny (model P w) callerA (.call (.ref fa) ⟨[.ref a],[]⟩) (λr s'=>r=.ok (.ret (.bool ξ))/\OldK s₁.heap s'.heap/\s'.os=s₁.os/\ahk s'.gens) s₁:=by
  intro H hO hT hS hok hA hK;have J2:∀{b:Θ}{o:Obj},s₁.heap.get? b=ζ o->H b=η->(lZ s₁.heap H).get? b=ζ o:=λe n=>ahN e n
  have noB:∀{b:Θ}{o:Obj},s₁.heap.get? b=ζ o->o.cls≠.type "list"->o.cls≠.none->H b=η:=fun{b o} e d1 d2=>by
   cases q:H b with
   |none=>rfl
   |some u =>
    rcases hA b (by rw[q];simp)with e'|e'
    ·subst e';rw[ha]at e;cases e;exact absurd rfl d1
    ·rw[oK b e']at e;cases e;exact absurd rfl d2
  have lM:∀{b:Θ}{o:Obj}{es:Array DictEntry}{ep:Nat},s₁.heap.get? b=ζ o->o.data=.dict es ep->H b=η:=fun{b o es ep} e d=>by
   cases q:H b with
   |none=>rfl
   |some u =>
    rcases hA b (by rw[q];simp)with e'|e'
    ·subst e';rw[ha]at e;cases e;have d':Data.seq vs.toArray _=Data.dict es ep:=d;cases d'
    ·rw[oK b e']at e;cases e;have d':Data.fields #[]=Data.dict es ep:=d;cases d'
  have Ad:∀{b:Θ}{m:Str->Option Γ},s₁.heap.Ns b m->(lZ s₁.heap H).Ns b m:=fun{b m} ⟨o,es,ep,e,d,r⟩=>⟨o,es,ep,J2 e (lM e d),d,r⟩
  have Pg:K.In (lZ s₁.heap H):=λb o e=>J2 (KX b o e) (by
   cases q:H b with
   |none=>rfl
   |some u =>
    rcases hA b (by rw[q];simp)with e'|e'
    ·subst e';rw[hK (by rw[q];simp)]at e;cases e
    ·have h1:=KX b o e;rw[oK b e']at h1;cases h1;have h2:=apA.mp hKt (b,_) (PySem.W.mem_of_lookupK e);exact absurd (show Δ=ξ from h2) apP)
  have hM:Mod K mg (lZ s₁.heap H):=⟨Pg,Ad hns,⟨mb,Ad hb,hbb⟩,let⟨mc,h1,h2⟩:=hlim;⟨mc,Ad h1,h2⟩,let⟨bm,ob,b1,b2,b3,b4,b5⟩:=hbm;⟨bm,ob,b1,b2,J2 b3 (noB b3 (by rw[b4];simp) (by rw[b4];simp)),b4,b5⟩⟩
  have e0:rE P w K mg (lZ s₁.heap H) callerA [] s₁ H:=⟨rfl,hM,λb o e=>acg e,aqM (ahM _ _),trivial,λb hb=>absurd (show b∈([]:List Θ)from hb) (by simp),hok,.of_eq hg⟩
  refine aqt ((F _ Pg (Ad hns)).run callerA [] s₁ H ⟨[.ref a],[]⟩ [.ref a] [.ref a] _ _ hr e0 (hbind s₁ (.ref a)) (.cons rfl .nil) (kU H hT hS)) λr s' h=>?_
  cases r with
  |error e=>exact False.elim h
  |ok fl =>
   cases fl with
   |next=>exact False.elim h
   |brk=>exact False.elim h
   |cont=>exact False.elim h
   |ret u =>
    obtain⟨v,H',os,bare,un,OV,r',q⟩:=h;have q':v=.bl ξ:=q;subst q';obtain rfl:u=Value.bool ξ:=r';have main:∀b o,s₁.heap.get? b=ζ o->s'.heap.get? b=ζ o\/(b∈ts.map (·.2)/\o=PySem.W.tabObj #[]/\∃ps,s'.heap.get? b=ζ (PySem.W.tabObj ps)):=λb o e=>by
     rcases hO b with z|⟨ob,xs,z⟩|⟨hm,z⟩
     ·exact .inl (un.keep b o e z (by intro z;exact absurd (show b∈([]:List Θ)from z) (by simp)) (by simp))
     ·have z2:=un.je b ob _ z;obtain⟨e1,_⟩:=hok b _ z;obtain⟨e2,_⟩:=OV b _ z2;rw[e]at e1;cases e1;exact .inl e2
     ·obtain⟨more,z2⟩:=un.ju b _ z;have e2:s'.heap.get? b=ζ (PySem.W.tabObj (#[]++more)):=OV b _ z2;have e1:=oK b hm;rw[e]at e1;cases e1;exact .inr ⟨hm,rfl,_,e2⟩
    refine⟨rfl,⟨λb o e=>?_,λb o e=>?_⟩,os,bare⟩
    ·rcases main b o e with z|⟨hm,rfl,ps,z⟩
     ·exact .inl z
     ·obtain⟨q,hq,rfl⟩:=apv.mp hm;have hC:=auM KX (GF q hq).1;exact .inr (.inl ⟨(hC.tab (GF q hq).2).isCodeTable,rfl,#[],ps,rfl,by rw[Array.empty_append];exact z⟩)
    ·rcases main b o e with z|⟨_,_,ps,z⟩
     ·exact⟨o,z⟩
     ·exact⟨_,z⟩
 have an6:∀(H:Hp) b,H b=ζ (.cX #[])->b∈ts.map (·.2)->fQ P w H s₁.heap b (.cX #[]):=λH b _ h=>oK b h
 cases hk:K.lookup a with
 |some o =>
  have e:=KX a o hk;rw[ha]at e;cases e
  let H:Hp:=λb=>if b∈ts.map (·.2)then ζ (.cX #[])else η
  refine core H (λb=>?_) (λq hq=>if_pos (auP hq)) (.inr ⟨_,vs.toArray,_,hk,rfl,rfl,rfl,by rw[apH,afv];exact hl,by simpa using rv⟩) (λb u z=>?_) (λb z=>?_) λz=>absurd (if_neg nat) z
  ·by_cases hb:b∈ts.map (·.2)
   ·exact .inr (.inr ⟨hb,if_pos hb⟩)
   ·exact .inl (if_neg hb)
  ·by_cases hb:b∈ts.map (·.2)
   ·have z':=(if_pos hb).symm.trans z;cases z';exact oK b hb
   ·have z':=(if_neg hb).symm.trans z;cases z'
  ·by_cases hb:b∈ts.map (·.2)
   ·exact .inr hb
   ·exact absurd (if_neg hb) z
 |none =>
  let H:Hp:=λb=>if b∈ts.map (·.2)then ζ (.cX #[])else if b=a then ζ (.cY {cls:=.type "list",data:=.seq vs.toArray} (.lst (ns.map V.int)))else η
  have Ha:H a=ζ (.cY {cls:=.type "list",data:=.seq vs.toArray} (.lst (ns.map V.int))):=(if_neg nat).trans (if_pos rfl);refine core H (λb=>?_) (λq hq=>if_pos (auP hq)) (.inl (.inr ⟨_,Ha⟩)) (λb u z=>?_) (λb z=>?_) λ_=>hk
  ·by_cases hb:b∈ts.map (·.2)
   ·exact .inr (.inr ⟨hb,if_pos hb⟩)
   ·by_cases hb2:b=a
    ·exact .inr (.inl ⟨_,_,(if_neg hb).trans (if_pos hb2)⟩)
    ·exact .inl ((if_neg hb).trans (if_neg hb2))
  ·by_cases hb:b∈ts.map (·.2)
   ·have z':=(if_pos hb).symm.trans z;cases z';exact oK b hb
   ·by_cases hb2:b=a
    ·have z':=((if_neg hb).trans (if_pos hb2)).symm.trans z;cases z';subst hb2;exact⟨ha,by rw[apC];exact hl,vs,_,rv,ha⟩
    ·have z':=((if_neg hb).trans (if_neg hb2)).symm.trans z;cases z'
  ·by_cases hb:b∈ts.map (·.2)
   ·exact .inr hb
   ·by_cases hb2:b=a
    ·exact .inl hb2
    ·exact absurd ((if_neg hb).trans (if_neg hb2)) z
def CW(K:Ω) (ts:List (Θ×Θ)):Bool:=qy.all λx=>match PySem.W.tabIn K x with
 |some q=>decide (q∈ts)
 |none=>ξ
theorem U3{K:Ω}{H:Hp}{ts:List (Θ×Θ)}(h:CW K ts=ξ) (hT:∀q∈ts,H q.2=ζ (.cX #[])):rA K H:=λx hx c P e=>by
 have:=apA.mp h x hx;rw[e]at this;exact⟨#[],hT (c,P) (of_decide_eq_true this),trivial,λpos cv z=>by cases z⟩
theorem Uj{l:ahp}{n k:Nat}{q:υ}{loose:List Str}{XP:(Str->Option Γ)->χ->Prop}{YP:ψ->χ->Prop}{d:DefRec}{K:Params->Ω}{x:Str}{m:List D->aa->R D}{ts:List (Θ×Θ)}
  (hn:l.most=ζ n) (hn2:n<=ι) (hdf:d.params.defaults=[]) (hr:dg k callerA)
  (hY:∀(w:ψ) (h:χ),YP w h->(K w.params).In h/\∀q∈ts,h.get? q.2=ζ (PySem.W.tabObj #[]))
  (hK:∀p,(ts.all λq=>PySem.W.codeHdIn (K p) q.1 q.2)=ξ/\PySem.W.noTabs (K p)=ξ/\CW (K p) ts=ξ)
  (F:∀(w:ψ) (mg:Str->Option Γ) (fa:Θ) (h:χ),(K w.params).In h->h.Ns Ξ mg->mg d.name=ζ (.ref fa) ->
   ∃fd:ν,(∀(s:ε) (u:Γ),ahI s fd ⟨[u],[]⟩ [(x,u)]) /\
    ∀base:χ,(K w.params).In base->base.Ns Ξ mg->bH l.prog w (K w.params) mg base bB k fa fd [x] (bM (K w.params) 1 m))
  (hm:∀ns:List Int,ns.length<=n->∃c,m [.cH ns] []=.ok (.bl ξ) c) :
  PySem.W.WalkO q loose XP YP l.row.toRowW d [] (λf vs=>PySem.call f vs):=by
 refine Th.al6 hn hdf λw s₀ s₁ mg mb fa o pm cd doc a vs ns G Y ho hd hcd hmg hobj hints hlen hg=>?_
 obtain⟨KX,hT⟩:=hY w _ Y;obtain⟨fd,hb,hF⟩:=F w mg fa _ KX G.T.g hmg;obtain⟨k1,k2,k3⟩:=hK w.params;refine afD (ts:=ts) KX G.T.g G.T.b G.T.builtins G.T.nolimit G.T.bmain hg hobj hints (apW hlen hn2) hr (λq hq=>⟨apA.mp k1 q hq,hT q hq⟩) k2 hF hb λH h1 h2=>?_
 obtain⟨c,hc⟩:=hm ns hlen;refine⟨[],[.cH ns],[],⟨.nil,rfl,λk a cl e=>(by cases e),U3 k3 h1⟩,⟨.ref a,[],rfl,⟨a,rfl,?_⟩,rfl⟩,rfl,?_⟩
 ·rcases h2 with hS|hS
  ·exact .inl ⟨hS,by simp⟩
  ·exact .inr (.inr hS)
 ·rw[hc];exact λρ' H' b _ _ r=>r
structure GdN (L:Nat) (l:List (Nat×Int)):Prop where
 nd:(l.map (·.1)).Nodup
 lt:∀p∈l,p.1<L
theorem Nl:∀(L:Nat) (l:List Nat),l.Nodup->(∀x∈l,x<L)->l.length<=L
 |0,[],_,_=>aps _
 |0,x::l,_,h=>by have:=h x (by simp);omega
 |L+1,l,hn,h=>by
  have h1:=Nl L (l.erase L) (hn.erase L) λx hx=>by
   have h2:=h x (List.mem_of_mem_erase hx);have h3:x≠L:=λe=>by subst e;exact(hn.not_mem_erase) hx
   omega
  have:=@List.length_erase _ _ _ L l;rw[this]at h1;split at h1<;>omega
abbrev Pb:=SetTable.Probe
def fy(m:Nat) (p:Pb):Pb:=if p.more>0 then{p with j:=p.j+1,more:=p.more-1}else{p with j:=(p.i*5+1+p.perturb/32) % (m+1),more:=SetTable.runEnd m ((p.i*5+1+p.perturb/32) % (m+1))-(p.i*5+1+p.perturb/32) % (m+1),i:=(p.i*5+1+p.perturb/32) % (m+1),perturb:=p.perturb/32}
theorem ang(t:ω) (p:Pb):t.advance p=fy t.mask p:=by
 unfold SetTable.advance fy;split<;>rfl
def fm(m:Nat):Nat->Pb->Pb
 |0,p=>p
 |n+1,p=>fm m n (fy m p)
theorem Ax(m:Nat):∀(a b:Nat) (p:Pb),fm m (a+b) p=fm m b (fm m a p)
 |0,b,p=>by rw[ap0];rfl
 |a+1,b,p=>by
  rw[show a+1+b=(a+b)+1 by omega]
  exact Ax m a b (fy m p)
theorem anh(m:Nat) (p:Pb):(fy m p).dummy=p.dummy:=by unfold fy;split<;>rfl
theorem Ou(m:Nat):∀(n:Nat) (p:Pb),(fm m n p).dummy=p.dummy
 |0,_=>rfl
 |n+1,p=>(Ou m n (fy m p)).trans (anh m p)
def nZ(m i q:Nat):Pb:=⟨i,SetTable.runEnd m i-i,i,q,η⟩
def iu(m:Nat) (h:Int):Pb:=nZ m (SetTable.bits h % (m+1)) (SetTable.bits h)
def g7(m:Nat) (h:Int) (n:Nat):Nat:=(fm m n (iu m h)).j
def Reach(m:Nat) (P:Nat->Prop) (h:Int) (j:Nat):Prop:=∃n,n<10*(m+15)/\g7 m h n=j/\∀k,k<n->P (g7 m h k)
theorem Reach.mono{m:Nat}{P Q:Nat->Prop}{h:Int}{j:Nat}(r:Reach m P h j) (i:∀k,P k->Q k):Reach m Q h j :=
 let⟨n,h1,h2,h3⟩:=r;⟨n,h1,h2,λk hk=>i _ (h3 k hk)⟩
theorem C3{t:ω}(hu:Up t.place.toList) {j:Nat}(hj:j∈t.place.toList):∃i,t.slot j=.live i/\t.place[i]? = ζ j:=by
 refine⟨SetTable.below t.place j,?_,J0 hu hj⟩;unfold SetTable.slot;dsimp only;rw[J0 hu hj];simp
theorem Wf{t:ω}(hd:t.dummies=#[]) {j:Nat}(hj:j∉t.place.toList):t.slot j=.empty:=by
 rcases C2 hd j with e|⟨i,e⟩
 ·exact e
 ·unfold SetTable.slot at e;dsimp only at e;split at e
  ·rename_i q;have:=eq_of_beq q;rw[<-ap2]at this;exact absurd (apT this) hj
  ·split at e<;>cases e
theorem GN{t:ω}{hashAt:Nat->Int}{h:Int}:∀(n fuel:Nat) (p:Pb),n<=fuel->(∀k,k<n->∃i,t.slot (fm t.mask k p).j=.live i/\(hashAt i==h)=Δ) ->
  SetTable.probe.go t hashAt h fuel p=SetTable.probe.go t hashAt h (fuel-n) (fm t.mask n p)
 |0,fuel,p,_,_=>rfl
 |n+1,0,p,hf,_=>absurd hf (by omega)
 |n+1,fuel+1,p,hf,hk=>by
  obtain⟨i,e,hne⟩:=hk 0 (by omega)
  have e:t.slot p.j=.live i:=e;have ih:=GN (t:=t) (hashAt:=hashAt) (h:=h) n fuel (fy t.mask p) (by omega) λk hk'=>hk (k+1) (by omega)
  rw[show fuel+1-(n+1)=fuel-n by omega]
  show SetTable.probe.go t hashAt h (fuel+1) p=SetTable.probe.go t hashAt h (fuel-n) (fm t.mask n (fy t.mask p));rw[<-ih]
  conv=>lhs;unfold SetTable.probe.go
  rw[e];dsimp only;rw[hne,ang];simp only[apX,if_false]
theorem IP{mask:Nat}:∀(n:Nat) (p:Pb) (acc:Nat),gy mask n p.j p.more p.i p.perturb acc=ξ->∀s,s<=mask->acc.testBit s=Δ->∃k,k<n/\(fm mask k p).j=s
 |0,_,_,h,_,_,_=>by cases h
 |n+1,p,acc,hc,s,hs,ha=>by
  by_cases e:p.j=s
  ·exact⟨0,by omega,e⟩
  ·have ha':(acc |||(1 <<< p.j)).testBit s=Δ:=by
    rw[B7,ha];simp;exact λq=>e q.symm
   unfold gy at hc;split at hc
   ·rename_i ef;rw[ef,arx]at ha';have:=of_decide_eq_false ha';omega
   ·split at hc
    ·rename_i hm;have qD:fy mask p={p with j:=p.j+1,more:=p.more-1}:=by unfold fy;rw[if_pos hm]
     obtain⟨k,hk,ek⟩:=IP n (fy mask p) (acc |||(1 <<< p.j)) (by rw[qD];exact hc) s hs ha'
     exact⟨k+1,by omega,ek⟩
    ·rename_i hm;have qD:fy mask p={p with j:=(p.i*5+1+p.perturb/32) % (mask+1),more:=SetTable.runEnd mask ((p.i*5+1+p.perturb/32) % (mask+1))-(p.i*5+1+p.perturb/32) % (mask+1),i:=(p.i*5+1+p.perturb/32) % (mask+1),perturb:=p.perturb/32}:=by
      unfold fy;rw[if_neg hm]
     obtain⟨k,hk,ek⟩:=IP n (fy mask p) (acc |||(1 <<< p.j)) (by rw[qD];exact hc) s hs ha'
     exact⟨k+1,by omega,ek⟩
theorem least{P:Nat->Prop}:∀(n:Nat),P n->∃k,k<=n/\P k/\∀i,i<k->¬P i:=λn=>by
 induction n using Nat.strongRecOn with
 |_ n ih =>
  intro h
  by_cases q:∃i,i<n/\P i
  ·obtain⟨i,hi,hp⟩:=q;obtain⟨k,h1,h2,h3⟩:=ih i hi hp;exact⟨k,by omega,h2,h3⟩
  ·exact⟨n,aps _,h,λi hi hp=>q ⟨i,hi,hp⟩⟩
structure pN (h:Int):Prop where
 go:∀m,qh m->gy m (10*(m+15)) (SetTable.bits h % (m+1)) (SetTable.runEnd m (SetTable.bits h % (m+1))-SetTable.bits h % (m+1)) (SetTable.bits h % (m+1)) (SetTable.bits h) 0=ξ
 lay:∀m,jC m->pA m (m+15) (SetTable.bits h % (m+1)) (SetTable.bits h) 0=ξ
def iC(es:Array (Int×Γ)) (i:Nat):Int:=(Option.map (λx:Int×Γ=>x.fst) es[i]?).getD 0
structure lg (t:ω) (es:Array (Int×Γ)):Prop where
 size:t.place.size=es.size
 up:Up t.place.toList
 le:∀j∈t.place.toList,j<=t.mask
 dm:t.dummies=#[]
 mask:(t.mask=7/\es.size<=4)\/(t.mask=31/\es.size<=18)\/(t.mask=127/\es.size<=76)
 reach:∀q∈t.place.toList.zip es.toList,Reach t.mask (·∈t.place.toList) q.2.1 q.1
theorem lg.ok{t:ω}{es:Array (Int×Γ)}(I:lg t es):qh t.mask:=by
 have:=I.mask;unfold qh;omega
theorem lg.fits{t:ω}{es:Array (Int×Γ)}(h:lg t es):t.fits es.size=ξ:=by
 have:=h.mask;simp only[SetTable.fits,SetTable.fill,h.size,h.dm,apN,beq_self_eq_true,true_and,decide_eq_true_eq];simp only[apH,ap3];omega
theorem Tr{l:List Nat}{r:List (Int×Γ)}{i j:Nat}{e:Int×Γ}(h1:l[i]? = ζ j) (h2:r[i]? = ζ e):(j,e)∈l.zip r:=by
 have:(l.zip r)[i]? = ζ (j,e):=by rw[asX];exact⟨h1,h2⟩
 exact apT this
theorem Ur{l:List Nat}(h:Up l) {i k j:Nat}(h1:l[i]? = ζ j) (h2:l[k]? = ζ j):i=k:=by
 obtain⟨a1,b1⟩:=apK.mp h1;obtain⟨a2,b2⟩:=apK.mp h2
 rcases asw i k with q|q|q
 ·have:=ara.mp h i k a1 a2 q;omega
 ·exact q
 ·have:=ara.mp h k i a2 a1 q;omega
theorem aiX{t:ω}{es:Array (Int×Γ)}(I:lg t es) {e:Int×Γ}(he:e∈es.toList):∃j i next e',t.probe (iC es) e.1 (t.probeStart e.1)=ζ (.candidate j i next)/\es[i]? = ζ e'/\e'.1=e.1:=by
 obtain⟨i0,hi0,ee⟩:=aqQ he;have e1:es.toList[i0]? = ζ e:=by rw[apw hi0,ee]
 have hsz:t.place.toList.length=es.toList.length:=by simp[I.size]
 obtain⟨j0,hj0⟩:∃j0,t.place.toList[i0]? = ζ j0:=⟨_,apw (by omega)⟩
 obtain⟨n0,hn0,ha0,Gz⟩:=I.reach (j0,e) (Tr hj0 e1);have hm0:j0∈t.place.toList:=apT hj0;have hA:∀i e',es[i]? = ζ e'->iC es i=e'.1:=λi e' q=>by unfold iC;rw[q];rfl
 have VN:∃i,t.slot (g7 t.mask e.1 n0)=.live i/\iC es i=e.1:=by
  rw[ha0];obtain⟨i,s1,s2⟩:=C3 I.up hm0;rw[<-ap2]at s2;have:=Ur I.up s2 hj0;subst this;exact⟨i,s1,hA i e (by rw[<-ap2];exact e1)⟩
 obtain⟨n,hn,⟨i,s1,s2⟩,hmin⟩:=least (P:=λn=>∃i,t.slot (g7 t.mask e.1 n)=.live i/\iC es i=e.1) n0 VN
 have hlive:∀k,k<n->∃i,t.slot (fm t.mask k (iu t.mask e.1)).j=.live i/\(iC es i==e.1)=Δ:=λk hk=>by
  obtain⟨i',q1,_⟩:=C3 I.up (Gz k (by omega))
  refine⟨i',q1,?_⟩;cases hb:iC es i'==e.1 with
  |false=>rfl
  |true=>exact absurd ⟨i',q1,eq_of_beq hb⟩ (hmin k hk)
 have Gq:=GN (t:=t) (hashAt:=iC es) (h:=e.1) n (10*SetTable.turns t.mask) (iu t.mask e.1) (by unfold SetTable.turns;omega) hlive
 have hf:∃f,10*SetTable.turns t.mask-n=f+1:=⟨10*SetTable.turns t.mask-n-1,by unfold SetTable.turns;omega⟩
 obtain⟨f,hf⟩:=hf;have hi:∃e',es[i]? = ζ e'/\e'.1=e.1:=by
  have hpl:∃j,t.place[i]? = ζ j:=by
   unfold SetTable.slot at s1;dsimp only at s1;split at s1
   ·rename_i q;cases s1;exact⟨_,eq_of_beq q⟩
   ·split at s1<;>cases s1
  obtain⟨j,hj⟩:=hpl;rw[<-ap2]at hj;have hlt:=(apK.mp hj).1;have qB:i<es.toList.length:=by omega
  refine⟨es.toList[i],by rw[<-ap2,apw qB],?_⟩
  rw[<-s2,hA i es.toList[i] (by rw[<-ap2,apw qB])]
 obtain⟨e',h1,h2⟩:=hi;refine⟨g7 t.mask e.1 n,i,t.advance (fm t.mask n (iu t.mask e.1)),e',?_,h1,h2⟩;show SetTable.probe.go t (iC es) e.1 (10*SetTable.turns t.mask) (iu t.mask e.1)=_;rw[Gq,hf];unfold SetTable.probe.go;have s1:t.slot (fm t.mask n (iu t.mask e.1)).j=.live i:=s1;rw[s1];dsimp only;rw[s2];simp;rfl
theorem anf{m:Nat}{p:Pb}(h:p.j+p.more<=m):(fy m p).j+(fy m p).more<=m:=by
 unfold fy;split
 ·dsimp only;omega
 ·dsimp only;have:(p.i*5+1+p.perturb/32) % (m+1)<m+1:=aqF _ (by omega)
  generalize (p.i*5+1+p.perturb/32) % (m+1)=i at this
  unfold SetTable.runEnd;split<;>omega
theorem Ot{m:Nat}:∀(n:Nat) {p:Pb},p.j+p.more<=m->(fm m n p).j+(fm m n p).more<=m
 |0,_,h=>h
 |n+1,_,h=>Ot n (anf h)
theorem VO(m:Nat) (h:Int):(iu m h).j+(iu m h).more<=m:=by
 have:SetTable.bits h % (m+1)<m+1:=aqF _ (by omega)
 unfold iu nZ;dsimp only
 generalize SetTable.bits h % (m+1)=i at this
 unfold SetTable.runEnd;split<;>omega
theorem RU(m:Nat) (h:Int) (n:Nat):g7 m h n<=m:=by
 have:=Ot n (VO m h);unfold g7;omega
theorem aiY{t:ω}{es:Array (Int×Γ)}(I:lg t es) {h:Int}(hc:pN h) (hno:∀e∈es.toList,e.1≠h) :
  ∃j,t.probe (iC es) h (t.probeStart h)=ζ (.empty j η)/\j∉t.place.toList/\j<=t.mask/\Reach t.mask (·∈t.place.toList) h j:=by
 have hsz:t.place.toList.length=es.toList.length:=by simp[I.size]
 have hM:=I.mask;have hes:es.toList.length=es.size:=by simp
 have hex:∃j,j<=t.mask/\j∉t.place.toList:=ary λq=>by
  have:=Dy (t.mask+1) t.place.toList λj hj=>ary λx=>q ⟨j,by omega,x⟩
  omega
 obtain⟨js,hjs,hjn⟩:=hex;obtain⟨k0,hk0,ek0⟩:=IP (10*(t.mask+15)) (iu t.mask h) 0 (hc.go t.mask I.ok) js hjs (by simp)
 obtain⟨n,hn,hs,hmin⟩:=least (P:=λn=>g7 t.mask h n∉t.place.toList) k0 (by show(fm t.mask k0 (iu t.mask h)).j∉_;rw[ek0];exact hjn)
 have hin:∀k,k<n->g7 t.mask h k∈t.place.toList:=λk hk=>ary λx=>hmin k hk x
 have hA:∀i e',es[i]? = ζ e'->iC es i=e'.1:=λi e' q=>by unfold iC;rw[q];rfl
 have hlive:∀k,k<n->∃i,t.slot (fm t.mask k (iu t.mask h)).j=.live i/\(iC es i==h)=Δ:=λk hk=>by
  obtain⟨i,q1,q2⟩:=C3 I.up (hin k hk);refine⟨i,q1,?_⟩;rw[<-ap2]at q2;have hlt:=(apK.mp q2).1;have qB:i<es.toList.length:=by omega
  have hq:es[i]? = ζ es.toList[i]:=by rw[<-ap2,apw qB]
  rw[hA i _ hq];exact beq_false_of_ne (hno _ (apR qB))
 have Gq:=GN (t:=t) (hashAt:=iC es) (h:=h) n (10*SetTable.turns t.mask) (iu t.mask h) (by unfold SetTable.turns;omega) hlive
 obtain⟨f,hf⟩:∃f,10*SetTable.turns t.mask-n=f+1:=⟨10*SetTable.turns t.mask-n-1,by unfold SetTable.turns;omega⟩
 refine⟨g7 t.mask h n,?_,hs,?_,n,by omega,rfl,hin⟩
 ·show SetTable.probe.go t (iC es) h (10*SetTable.turns t.mask) (iu t.mask h)=_;rw[Gq,hf];unfold SetTable.probe.go;have s1:t.slot (fm t.mask n (iu t.mask h)).j=.empty:=Wf I.dm hs;rw[s1];dsimp only;rw[Ou];rfl
 ·exact RU _ h n
theorem Tq{l:Array Nat}{r:Array (Int×Γ)}(hs:l.size=r.size) {p j:Nat}{e:Int×Γ}:∀q∈(SetTable.insertAt l p j).toList.zip (SetTable.insertAt r p e).toList,q=(j,e)\/q∈l.toList.zip r.toList:=by
 intro q hq;rw[asx,asx]at hq;have hl:(l.toList.take p).length=(r.toList.take p).length:=by simp[hs]
 rw[auQ hl,ar1,ap1,apu]at hq;have hz:l.toList.zip r.toList=(l.toList.take p).zip (r.toList.take p)++(l.toList.drop p).zip (r.toList.drop p):=by
  rw[<-auQ hl,arb,arb]
 rw[hz,ap1]
 rcases hq with q|q|q
 ·exact .inr (.inl q)
 ·exact .inl q
 ·exact .inr (.inr q)
theorem YX{t:ω}{es:Array (Int×Γ)}(I:lg t es) {h:Int}{x:Γ}{j:Nat}(hj:j∉t.place.toList) (hle:j<=t.mask) (hr:Reach t.mask (·∈t.place.toList) h j) :
  (SetTable.insertAt es (SetTable.below t.place j) (h,x)).size=es.size+1/\(t.put j).1.place.size=es.size+1/\Up (t.put j).1.place.toList/\(∀k∈(t.put j).1.place.toList,k<=t.mask)/\(t.put j).1.dummies=#[] /\
   (∀q∈(t.put j).1.place.toList.zip (SetTable.insertAt es (SetTable.below t.place j) (h,x)).toList,Reach t.mask (·∈(t.put j).1.place.toList) q.2.1 q.1):=by
 have hsz:=I.size;have hnd:(if SetTable.has t.dummies j then SetTable.eraseAt t.dummies (SetTable.below t.dummies j)else t.dummies)=#[]:=by
  rw[I.dm];rfl
 have hmem:∀k,k∈(SetTable.insertAt t.place (SetTable.below t.place j) j).toList↔k∈t.place.toList\/k=j:=λk=>by
  rw[(arA t.place (SetTable.below t.place j) j).mem_iff,asC,ap1,aqa]
 refine⟨?_,?_,K0 I.up hj,λk hk=>?_,hnd,λq hq=>?_⟩
 ·rw[<-apO,(arA ..).length_eq];simp
 ·show(SetTable.insertAt t.place (SetTable.below t.place j) j).size=_;rw[<-apO,(arA ..).length_eq];simp[hsz]
 ·rcases(hmem k).mp hk with q|rfl
  ·exact I.le k q
  ·exact hle
 ·rcases Tq hsz q hq with rfl|q'
  ·exact hr.mono λk hk=>(hmem k).mpr (.inl hk)
  ·exact(I.reach q q').mono λk hk=>(hmem k).mpr (.inl hk)
theorem wD(m:Nat):∀(k:Nat) (p:Pb),k<=p.more->fm m k p={p with j:=p.j+k,more:=p.more-k}
 |0,p,_=>rfl
 |k+1,p,h=>by
  have ha:fy m p={p with j:=p.j+1,more:=p.more-1}:=by unfold fy;rw[if_pos (by omega)]
  show fm m k (fy m p)=_;rw[ha,wD m k _ (by dsimp only;omega)]
  dsimp only
  congr 1<;>omega
theorem N7(m i q:Nat):fm m (SetTable.runEnd m i-i+1) (nZ m i q)=nZ m ((i*5+1+q/32) % (m+1)) (q/32):=by
 rw[Ax m _ 1,wD m (SetTable.runEnd m i-i) (nZ m i q) (aps _)];show fy m _=_;unfold fy nZ;dsimp only;rw[if_neg (by omega)]
theorem XY(m i:Nat):SetTable.runEnd m i-i<=9:=by unfold SetTable.runEnd;split<;>omega
theorem X0(m i:Nat):i<=SetTable.runEnd m i:=by unfold SetTable.runEnd;split<;>omega
theorem PD{mask:Nat}{owner:Array (Option Nat)}:∀(fuel i q j:Nat),SetTable.layClean.free mask owner fuel i q=ζ j ->
  ∃n,n<10*fuel/\(fm mask n (nZ mask i q)).j=j/\∀k,k<n->owner.getD (fm mask k (nZ mask i q)).j (ζ 0)≠η
 |0,i,q,j,h=>by cases h
 |fuel+1,i,q,j,h=>by
  have h9:=XY mask i;have hg:=X0 mask i;unfold SetTable.layClean.free at h;cases hr:(θ (SetTable.runEnd mask i+1-i)).find? (λk=>(owner.getD (i+k) (ζ 0)).isNone)with
  |some k =>
   rw[hr]at h;dsimp only at h;cases h;have hk:=apx.mp (List.mem_of_find?_eq_some hr);refine⟨k,by omega,?_,λk' hk'=>?_⟩
   ·rw[wD mask k _ (by show k<=SetTable.runEnd mask i-i;omega)]
    rfl
   ·rw[wD mask k' _ (by show k'<=SetTable.runEnd mask i-i;omega)]
    show owner.getD (i+k') (ζ 0)≠η;intro e;have hb:=List.find?_eq_some_iff_getElem.mp hr;obtain⟨_,n,hn,en,ah1⟩:=hb;have en':n=k:=by simpa using en
    have:=ah1 k' (by omega)
    simp[e]at this
  |none =>
   rw[hr]at h;dsimp only at h;have h:SetTable.layClean.free mask owner fuel ((i*5+1+q/32) % (mask+1)) (q/32)=ζ j:=h;obtain⟨n,hn,ej,hl⟩:=PD fuel _ _ j h;have hno:=ath.mp hr;refine⟨SetTable.runEnd mask i-i+1+n,by omega,?_,λk hk=>?_⟩
   ·rw[Ax,N7];exact ej
   ·by_cases hk2:k<=SetTable.runEnd mask i-i
    ·rw[wD mask k _ hk2];show owner.getD (i+k) (ζ 0)≠η;intro e;have:=hno k (apx.mpr (by omega))
     simp[e]at this
    ·rw[show k=SetTable.runEnd mask i-i+1+(k-(SetTable.runEnd mask i-i+1)) by omega,Ax,N7]
     exact hl _ (by omega)
structure yN (mask:Nat) (owner:Array (Option Nat)) (hs:List Int) (k:Nat):Prop where
 lay:rC mask owner k
 way:∀j i,owner.toList.getD j η=ζ i->∃h,hs[i]? = ζ h/\Reach mask (λs=>owner.getD s (ζ 0)≠η) h j
theorem abf{mask:Nat}{owner:Array (Option Nat)}{k:Nat}(I:rC mask owner k) {s:Nat}(h:s<=mask):(owner.getD s (ζ 0)≠η)↔(owner.toList.getD s η≠η):=by
 have h1:=I.1;rw[jG];have hs:s<owner.toList.length:=by omega
 rw[apD,apD,apw hs];rfl
theorem afA{mask:Nat}{owner:Array (Option Nat)}{hs:List Int}{k:Nat}{h:Int}(hm:jC mask) (hc:pN h) (I:yN mask owner hs k) (hk:k<=mask) (hh:hs[k]? = ζ h) :
  ∃j,SetTable.layClean.free mask owner (SetTable.turns mask) (SetTable.bits h % (mask+1)) (SetTable.bits h)=ζ j/\yN mask (owner.setIfInBounds j (ζ k)) hs (k+1):=by
 obtain⟨h1,h2⟩:=I.lay;have hex:∃j,j<=mask/\owner.getD j (ζ 0)=η:=by
  by_cases q:∃j,j<=mask/\owner.getD j (ζ 0)=η
  ·exact q
  ·have:=GS owner.toList λj hj e=>q ⟨j,by omega,by rw[jG];exact e⟩
   have h3:=h2.length_eq;rw[aqj]at h3;omega
 obtain⟨j,e,e1⟩:=Eh (mask+15) _ _ 0 (SetTable.turns mask) (hc.lay mask hm) (aps _) (λk _ hb=>by simp at hb) hex
 obtain⟨n,hn,ej,hl⟩:=PD _ _ _ _ e;rw[jG]at e1;have hj:j<owner.toList.length:=by
  rcases arU j owner.toList.length with q|q
  ·exact q
  ·rw[apD,aq9 q]at e1;cases e1
 have grow:∀s,owner.getD s (ζ 0)≠η->(owner.setIfInBounds j (ζ k)).getD s (ζ 0)≠η:=λs hs=>by
  rw[jG,asz,apD,auR];split
  ·first|(split<;>simp)|simp
  ·rw[jG,apD]at hs;exact hs
 refine⟨j,e,⟨⟨by simpa using h1,?_⟩,λs i hs=>?_⟩⟩
 ·rw[asz];refine(GR _ j k hj e1).trans ?_;rw[aqY];exact(h2.cons k).trans (asA k _).symm
 ·rw[asz,apD,auR]at hs
  by_cases q:j=s
  ·subst q;rw[if_pos rfl,if_pos hj]at hs;have:k=i:=by simpa using hs
   subst this;exact⟨h,hh,n,by unfold SetTable.turns at hn;exact hn,ej,λk' hk'=>grow _ (hl k' hk')⟩
  ·rw[if_neg q]at hs;obtain⟨h',q1,q2⟩:=I.way s i (by rw[apD];exact hs)
   exact⟨h',q1,q2.mono grow⟩
theorem N9{mask:Nat}(hm:jC mask) (all:List Int):∀(hs:List Int) (owner:Array (Option Nat)) (k:Nat),(∀h∈hs,pN h)->yN mask owner all k->k+hs.length<=mask->(∀i,hs[i]? = all[k+i]?\/hs.length<=i) ->
  ∃ow,hs.foldl (λacc h=>(do
   let(owner,k) <-acc
   let j <-SetTable.layClean.free mask owner (SetTable.turns mask) (SetTable.bits h % (mask+1)) (SetTable.bits h)
   pure (owner.setIfInBounds j (ζ k),k+1):Option (Array (Option Nat)×Nat))) (ζ (owner,k))=ζ (ow,k+hs.length)/\yN mask ow all (k+hs.length)
 |[],owner,k,_,I,_,_=>⟨owner,rfl,I⟩
 |h::hs,owner,k,hh,I,hl,hat=>by
  simp only[apL]at hl;have h0:all[k]? = ζ h:=by
   rcases hat 0 with q|q
   ·rw[arv]at q;rw[<-q];rfl
   ·simp at q
  obtain⟨j,e,I'⟩:=afA hm (hh h (.head _)) I (by omega) h0
  obtain⟨ow,e',yR⟩:=N9 hm all hs _ (k+1) (λh x=>hh h (.tail _ x)) I' (by omega) λi=>by
   rcases hat (i+1)with q|q
   ·left;rw[show k+1+i=k+(i+1) by omega,<-q];rfl
   ·right;simpa using q
  refine⟨ow,?_,by rw[apL,show k+(hs.length+1)=k+1+hs.length by omega];exact yR⟩
  rw[aq6,apL,show k+(hs.length+1)=k+1+hs.length by omega,<-e']
  congr 1
  show(do let j <-SetTable.layClean.free mask owner (SetTable.turns mask) (SetTable.bits h % (mask+1)) (SetTable.bits h);pure (owner.setIfInBounds j (ζ k),k+1):Option (Array (Option Nat)×Nat))=_
  rw[e];rfl
theorem afB{mask:Nat}(hm:jC mask) (hs:Array Int) (hh:∀h∈hs.toList,pN h) (hl:hs.toList.length<=mask) :
  ∃ow,SetTable.layClean mask hs=ζ ow/\yN mask ow hs.toList hs.toList.length:=by
 obtain⟨ow,e,I⟩:=N9 hm hs.toList hs.toList (Array.replicate (mask+1) η) 0 hh ⟨⟨by simp,by simp⟩,λj i h=>by
  rw[Array.toList_replicate,apD,auc]at h;split at h<;>cases h⟩ (by omega) λi=>.inl (by rw[ap0])
 rw[ap0]at e I;refine⟨ow,?_,I⟩;unfold SetTable.layClean;rw[<-auy];exact congrArg (Option.map (λx:Array (Option Nat)×Nat=>x.1)) e
theorem Yr{t:ω}{es:Array (Int×Γ)}(hh:∀e∈es.toList,pN e.1) (hm:es.size=5\/es.size=19) :
  ∃t2 order,t.relaid (es.map (·.1)) (SetTable.grown es.size)=ζ (t2,order)/\(order.filterMap (es[·]?)).size=es.size/\lg t2 (order.filterMap (es[·]?))/\t2.led=t.led/\(order.filterMap (es[·]?)).toList.Perm es.toList:=by
 have hw:∃m,SetTable.sizeAbove (SetTable.grown es.size)-1=m/\((m=31/\es.size=5)\/(m=127/\es.size=19)):=by
  rcases hm with e|e
  ·rw[e];exact⟨31,by decide,.inl ⟨rfl,rfl⟩⟩
  ·rw[e];exact⟨127,by decide,.inr ⟨rfl,rfl⟩⟩
 obtain⟨m,ew,hq⟩:=hw;have hs:(es.map (·.1)).toList=es.toList.map (·.1):=by simp
 have hok:jC m:=by unfold jC;omega
 have GB:∀h∈(es.map (·.1)).toList,pN h:=λh hx=>by
  rw[hs,apv]at hx;obtain⟨y,hy,rfl⟩:=hx;exact hh y hy
 have Gy:(es.map (·.1)).toList.length<=m:=by rw[hs,apC,apO];omega
 obtain⟨ow,e,⟨h1,h2⟩,ahf⟩:=afB hok (es.map (·.1)) GB Gy;rw[hs,apC,apO]at h2
 let live:List (Nat×Nat):=(θ (m+1)).filterMap λj=>(ow.getD j η).map (j,·)
 have hlive:∀q:Nat×Nat,q∈live↔q.1<=m/\ow.toList.getD q.1 η=ζ q.2:=λq=>by
  simp only[live,arK,apx]
  constructor
  ·rintro ⟨c,hc,e⟩
   cases ha:ow.getD c η<;>rw[ha]at e<;>simp at e
   subst e;exact⟨by show c<=m;omega,by rw[<-jG];exact ha⟩
  ·rintro ⟨h1,h2⟩
   exact⟨q.1,by omega,by rw[jG,h2];rfl⟩
 have hord:(live.map (·.2)).Perm (θ es.size):=by
  have:live.map (·.2)=ow.toList.filterMap id:=by
   simp only[live];rw[<-Ds,h1,atj]
   congr 1
   funext j
   rw[jG];cases ow.toList.getD j η<;>rfl
  rw[this];exact h2
 have hup:Up (live.map (·.1)):=by
  show List.Pairwise _ _;rw[arz];refine auz _ (λa a' hlt b hb b' hb'=>?_) asB
  cases ha:ow.getD a η<;>rw[ha]at hb<;>simp at hb
  cases ha':ow.getD a' η<;>rw[ha']at hb'<;>simp at hb'
  rw[<-hb,<-hb'];exact hlt
 have hlen:live.length=es.size:=by
  have:=hord.length_eq
  simpa using this
 have hes:(((live.map (·.2)).toArray).filterMap (es[·]?)).toList.Perm es.toList:=by
  rw[atk];exact(hord.filterMap _).trans (by rw[auA])
 have xW:(((live.map (·.2)).toArray).filterMap (es[·]?)).size=es.size:=by
  rw[<-apO,hes.length_eq,apO]
 have hlt:∀q∈live,q.2<es.size:=λq hq=>apx.mp (hord.mem_iff.mp (apv.mpr ⟨q,hq,rfl⟩))
 have hfm:∀(l:List (Nat×Nat)),(∀q∈l,q.2<es.size)->(l.map (·.2)).filterMap (es[·]?)=l.map λq=>es.toList.getD q.2 (0,.none):=by
  intro l
  induction l with
  |nil=>intro _;rfl
  |cons q l ih =>
   intro hq;have hq0:q.2<es.size:=hq q (.head _);rw[apE,arJ,apE,ih λy hy=>hq y (.tail _ hy)]
   have:es[q.2]? = ζ (es.toList.getD q.2 (0,.none)):=by
    rw[<-ap2,apD,apw (by simpa using hq0)]
    rfl
   rw[this]
 refine⟨{mask:=m,place:=(live.map (·.1)).toArray,dummies:=#[],finger:=t.finger,led:=t.led,moves:=t.movedTo m,plain:=t.plain},(live.map (·.2)).toArray,?_,xW,⟨?_,?_,?_,rfl,?_,?_⟩,rfl,hes⟩
 ·unfold SetTable.relaid SetTable.laid;rw[ew,e];rfl
 ·show((live.map (·.1)).toArray).size=_;rw[xW,apH,apC,hlen]
 ·exact hup
 ·intro j hj;have hj:j∈live.map (·.1):=hj;obtain⟨q,hq,rfl⟩:=apv.mp hj;exact((hlive q).mp hq).1
 ·rw[xW];exact .inr (by show(m=31/\_)\/(m=127/\_);omega)
 ·intro q hq;have hq:q∈(live.map (·.1)).zip (((live.map (·.2)).toArray).filterMap (es[·]?)).toList:=hq;rw[atk]at hq;have hq:q∈(live.map (·.1)).zip ((live.map (·.2)).filterMap (es[·]?)):=hq;rw[hfm live hlt,List.zip_map',apv]at hq;obtain⟨⟨j,i⟩,hji,rfl⟩:=hq;obtain⟨AH,hjo⟩:=(hlive (j,i)).mp hji;obtain⟨h,hi,hr⟩:=ahf j i hjo;have hil:=hlt (j,i) hji;have:h=(es.toList.getD i (0,.none)).1:=by
   rw[hs,apM,apw (by simpa using hil)]at hi
   rw[apD,apw (by simpa using hil)]
   simpa using hi.symm
  subst this;obtain⟨n,hn,ej,hl⟩:=hr;refine⟨n,hn,ej,λk hk=>?_⟩
  have hle:=RU m (es.toList.getD i (0,.none)).1 k;have:=(abf (k:=es.size) ⟨h1,h2⟩ hle).mp (hl k hk);show g7 m _ k∈live.map (·.1);cases ho:ow.toList.getD (g7 m (es.toList.getD i (0,.none)).1 k) η with
  |none=>exact absurd ho this
  |some i'=>exact apv.mpr ⟨(_,i'),(hlive (_,i')).mpr ⟨hle,ho⟩,rfl⟩
def hT(ks:List Int):Int:=reduceHash (Builtin.Tuple.tupleHashOf (ks.map hashInt))
def fh(ks:List Int):Prop:=∃i j:Nat,i<8/\j<8/\ks=[(i:Int),(j:Int)]
def hP(n:Nat):Int:=hT [((n/8:Nat):Int),((n % 8:Nat):Int)]
def MW(h:Int):Bool:=([7,31,127].all λm=>gy m (10*(m+15)) (SetTable.bits h % (m+1)) (SetTable.runEnd m (SetTable.bits h % (m+1))-SetTable.bits h % (m+1)) (SetTable.bits h % (m+1)) (SetTable.bits h) 0) && [31,127].all λm=>pA m (m+15) (SetTable.bits h % (m+1)) (SetTable.bits h) 0
theorem am1:((θ 64).all λn=>MW (hP n))=ξ:=by decide +kernel
def eqZ(a b:Int):Bool:=match a,b with
 |.ofNat x,.ofNat y=>Nat.beq x y
 |.negSucc x,.negSucc y=>Nat.beq x y
 |_,_=>Δ
def Ag(l:List Int):Bool:=match l with
 |[]=>ξ
 |x::r=>r.all (λy=>!eqZ x y)&&Ag r
theorem Qd(a:Int):eqZ a a=ξ:=by cases a<;>exact Nat.beq_refl _
theorem am3:Ag ((θ 64).map hP)=ξ:=by decide +kernel
theorem Nv:∀{l:List Int},Ag l=ξ->∀{i k:Nat}{x:Int},l[i]? = ζ x->l[k]? = ζ x->i=k
 |[],_,i,k,x,h,_=>by simp at h
 |y::r,h,i,k,x,h1,h2=>by
  unfold Ag at h;rw[apN,apA]at h;cases i with
  |zero =>
   cases k with
   |zero=>rfl
   |succ k =>
    have e:y=x:=by simpa using h1
    have:=h.1 x (apT (by simpa using h2))
    rw[e,Qd]at this;cases this
  |succ i =>
   cases k with
   |zero =>
    have e:y=x:=by simpa using h2
    have:=h.1 x (apT (by simpa using h1))
    rw[e,Qd]at this;cases this
   |succ k=>rw[Nv h.2 (i:=i) (k:=k) (by simpa using h1) (by simpa using h2)]
theorem fh.num{ks:List Int}(h:fh ks):∃n,n<64/\ks=[((n/8:Nat):Int),((n % 8:Nat):Int)]:=by
 obtain⟨i,j,hi,hj,rfl⟩:=h;refine⟨8*i+j,by omega,?_⟩
 rw[show(8*i+j)/8=i by omega,show(8*i+j) % 8=j by omega]
theorem fh.gy{ks:List Int}(h:fh ks):pN (hT ks):=by
 obtain⟨n,hn,rfl⟩:=h.num;have:=apA.mp am1 n (apx.mpr hn);unfold MW at this;rw[apN,apA,apA]at this;refine⟨λm hm=>this.1 m ?_,λm hm=>this.2 m ?_⟩
 ·rcases hm with rfl|rfl|rfl<;>decide
 ·rcases hm with rfl|rfl<;>decide
theorem fh.inj{a b:List Int}(ha:fh a) (hb:fh b) (h:hT a=hT b):a=b:=by
 obtain⟨n,hn,rfl⟩:=ha.num;obtain⟨k,hk,rfl⟩:=hb.num;have h1:((θ 64).map hP)[n]? = ζ (hP n):=by rw[apM,aqr hn];rfl
 have h2:((θ 64).map hP)[k]? = ζ (hP n):=by
  rw[apM,aqr hk];exact congrArg ζ h.symm
 rw[Nv am3 h1 h2]
section
variable {prog:υ}{w:ψ}{A:acr}{E:Γ->ε->Prop}{s:ε}
theorem Lh{h:χ}{ks:List Int}{x:Θ}(hu:fh ks) (hx:adU (intKind prog w) h ks x):∃o a b n,h.get? x=ζ o/\o.cls=.type "tuple"/\o.data=.seq #[a,b] n/\(∃i t,a=.int i t)/\∃i t,b=.int i t:=by
 obtain⟨i,j,_,_,rfl⟩:=hu;obtain⟨o,items,n,h1,h2,h3,h4⟩:=hx;cases hi:items.toList with
 |nil=>rw[hi]at h4;cases h4
 |cons a r =>
  rw[hi]at h4;cases h4 with
  |cons q1 q2 =>
   cases r with
   |nil=>cases q2
   |cons b r2 =>
    cases q2 with
    |cons q3 q4 =>
     cases q4;refine⟨o,a,b,n,h1,h2,?_,?_,?_⟩
     ·rw[h3];congr 1;apply Array.toList_inj.mp;rw[hi]
     ·obtain⟨t,e⟩:=arI q1;exact⟨_,t,e⟩
     ·obtain⟨t,e⟩:=arI q3;exact⟨_,t,e⟩
theorem alX{ks:List Int}{x:Θ}{Q:Bool->ε->Prop}(hu:fh ks) (hx:adU (intKind prog w) s.heap ks x) (h:∀b,Q b s):wpAny (model prog w) A (hashByValue 8 (.ref x)) Q E s:=by
 obtain⟨o,a,b,n,h1,h2,h3,⟨i,t,rfl⟩,j,u,rfl⟩:=Lh hu hx;rw[hashByValue.eq_12];refine apq (wpAny_specialOf (T:="tuple") ⟨o,h1,h2⟩ F.slot_tuple_hash.lookup ?_);dsimp only;refine apq (aqE h1 h3 ?_);dsimp only[Option.getD];refine apq ?_;rw[<-auS];simp only[arl,asl];simp only[atn 7 (x:=.int i t) rfl,atn 7 (x:=.int j u) rfl,plainKind];refine apq (apq (apr ?_));refine apr ?_;refine apq (apq (apr ?_));refine apr ?_;exact apr (apr (h _))
theorem Np{ks:List Int}{x:Θ}{Q:Bool->ε->Prop}(hu:fh ks) (hx:adU (intKind prog w) s.heap ks x) (h:Q Δ s):wpAny (model prog w) A (ofAClassStatement 8 (.ref x)) Q E s:=by
 obtain⟨o,a,b,n,h1,h2,h3,⟨i,t,rfl⟩,j,u,rfl⟩:=Lh hu hx;rw[ofAClassStatement.eq_def];dsimp only;refine apq (wpAny_typeOf_ref h1 ?_);rw[h2];dsimp only;simp only[beq_self_eq_true,if_true];refine apq (apr ?_);simp only[aq1,apX,if_false];refine apq (aqE h1 h3 ?_);dsimp only;refine apq ?_;rw[<-auS];simp only[arl,asl];have e1:ofAClassStatement 7 (.int i t)=pure Δ:=by rw[ofAClassStatement.eq_def]
 have e2:ofAClassStatement 7 (.int j u)=pure Δ:=by rw[ofAClassStatement.eq_def]
 rw[e1];refine apq (apq (apr ?_));refine apr ?_;dsimp only;rw[e2];refine apq (apq (apr ?_));refine apr ?_;exact apr (apr h)
theorem ad1{ks:List Int}{x:Θ}{Q:Bool->ε->Prop}(hu:fh ks) (hx:adU (intKind prog w) s.heap ks x) (l:List Γ) (hl:∀v∈l,∃k y,v=.ref y/\fh k/\adU (intKind prog w) s.heap k y) (h:Q Δ s):wpAny (model prog w) A (searchCouldBeSeen (.ref x) l) Q E s:=by
 unfold searchCouldBeSeen;refine apq ?_;have go:∀(l:List Γ),(∀v∈l,∃k y,v=.ref y/\fh k/\adU (intKind prog w) s.heap k y)->∀{R:Option Bool×Unit->ε->Prop},R (η,()) s->wpAny (model prog w) A (forIn l (η,()) λy __s =>
    have __r:=__s;
    have Ul :=
     match(Value.ref x),y with
     |Value.ref a,Value.ref b=>a==b
     |x,x_1=>Δ;
    if(Ul||carriedByValue (.ref x)&&carriedByValue y)=ξ then pure (ForInStep.yield (η,()))
    else do
     let __do_lift <-eqIsQuiet 8 (.ref x)
     if(!__do_lift)=ξ then pure (ForInStep.done (ζ ξ,()))
      else do
       let __do_lift <-eqIsQuiet 8 y
       if(!__do_lift)=ξ then pure (ForInStep.done (ζ ξ,()))
        else do
         let __do_lift <-ofAClassStatement 8 (.ref x)
         if __do_lift=ξ then pure (ForInStep.done (ζ ξ,()))
          else do
           let __do_lift <-ofAClassStatement 8 y
           if __do_lift=ξ then pure (ForInStep.done (ζ ξ,()))
            else pure (ForInStep.yield (η,()))) R E s:=by
  intro l
  induction l with
  |nil=>intro _ R hR;exact apr hR
  |cons v l ih =>
   intro hl R hR;obtain⟨k,y,rfl,ku,hy⟩:=hl _ (.head _);have ih:=ih (λv hv=>hl v (.tail _ hv)) (R:=R)
   rw[arl];refine apq ?_;dsimp only
   by_cases q:(x==y||carriedByValue (.ref x)&&carriedByValue (.ref y))=ξ
   ·rw[if_pos q];exact apr (ih hR)
   ·rw[if_neg q];refine apq ((tupleKind (intKind prog w)).quiet hx ?_);simp only[aq1,apX,if_false];refine apq ((tupleKind (intKind prog w)).quiet hy ?_);simp only[aq1,apX,if_false];refine apq (Np hu hx ?_);simp only[apX,if_false];refine apq (Np ku hy ?_);simp only[apX,if_false];exact apr (ih hR)
 exact go l hl (apr h)
end
def ig(ks:List (List Int)) (k:List Int):List (List Int):=if k∈ks then ks else ks++[k]
abbrev uO(q:List Int×Θ):Int×Γ:=(hT q.1,.ref q.2)
def kh(P:υ) (w:ψ) (Y:Θ->Prop) (h:χ) (a:Θ) (ks:List (List Int)):Prop:=∃o es ep t,∃L:List (List Int×Θ),h.get? a=ζ o/\o.ExactSet/\o.data=.set es ep t/\lg t es/\es.toList=L.map uO/\(∀q∈L,fh q.1/\adU (intKind P w) h q.1 q.2)/\(L.map (·.1)).Perm ks/\∀q∈L,Y q.2
theorem aaC{α β:Type}{f:α->β}:∀{l:List β}{r:List α},l.Perm (r.map f)->∃l2:List α,l=l2.map f/\l2.Perm r:=by
 intro l r h
 generalize hm:r.map f=m at h
 induction h generalizing r with
 |nil =>
  cases r with
  |nil=>exact⟨[],rfl,.refl _⟩
  |cons a r=>cases hm
 |cons x _ ih =>
  cases r with
  |nil=>cases hm
  |cons a r =>
   rw[apE]at hm
   injection hm with h1 h2
   obtain⟨l2,e,p⟩:=ih h2;exact⟨a::l2,by rw[apE,h1,e],p.cons a⟩
 |swap x y l =>
  cases r with
  |nil=>cases hm
  |cons a r =>
   cases r with
   |nil=>simp at hm
   |cons b r =>
    simp only[apE]at hm
    injection hm with h1 h2
    injection h2 with h3 h4
    exact⟨b::a::r,by simp only[apE];rw[h1,h3,h4],.swap a b r⟩
 |trans _ _ ih1 ih2 =>
  obtain⟨l2,e,p⟩:=ih2 hm;obtain⟨l3,e3,p3⟩:=ih1 e.symm;exact⟨l3,e3,p3.trans p⟩
section
variable {prog:υ}{w:ψ}{A:acr}{E:Γ->ε->Prop}{s:ε}
theorem Oh{h h':χ}{a x:Θ}{k:List Int}{o:Obj}{es:Array (Int×Γ)}{ep:Nat}{t:ω}(hx:adU (intKind prog w) h k x) (ho:h.get? a=ζ o) (hd:o.data=.set es ep t) (sb:aeC a h h'):adU (intKind prog w) h' k x:=by
 obtain⟨o',items,n,h1,h2,h3,h4⟩:=hx;have hne:x≠a:=λe=>by
  subst e;rw[ho]at h1;cases h1;rw[hd]at h3;cases h3
 exact⟨o',items,n,by rw[sb.2 x hne];exact h1,h2,h3,h4⟩
theorem aiq{t:ω}{es:Array (Int×Γ)}(I:lg t es):t.gaveWay=Δ:=by
 unfold SetTable.gaveWay
 rcases I.ok with e|e|e<;>rw[e]<;>rfl
theorem find_key{ks:List (List Int)}{es:Array (Int×Γ)}{L:List (List Int×Θ)}{k:List Int}{i:Nat}{e:Int×Γ}(hL:es.toList=L.map uO) (hu:∀q∈L,fh q.1/\adU (intKind prog w) s.heap q.1 q.2) (hk:fh k) (h1:es[i]? = ζ e) (h2:e.1=hT k) :
  ∃y,e=(hT k,.ref y)/\adU (intKind prog w) s.heap k y/\k∈L.map (·.1):=by
 have:e∈L.map uO:=by rw[<-hL];exact apT (by rw[ap2];exact h1)
 obtain⟨q,hq,rfl⟩:=apv.mp this;have e1:=(hu q hq).1.inj hk h2;refine⟨q.2,?_,?_,?_⟩
 ·show(hT q.1,_)=_;rw[e1]
 ·rw[<-e1];exact(hu q hq).2
 ·rw[<-e1];exact apv.mpr ⟨q,hq,rfl⟩
theorem Xq{Y:Θ->Prop}{a x:Θ}{ks:List (List Int)}{k:List Int}{Q:Bool->ε->Prop}(hr:A.units<ahl) (hk:fh k) (hx:adU (intKind prog w) s.heap k x) (hY:Y x) (hS:kh prog w Y s.heap a ks) (hn:ks.length<64)
  (h:∀b h',aeC a s.heap h'->kh prog w Y h' a (ig ks k)->Q b {s with heap:=h'}):wpAny (model prog w) A (setAddHashed a (.ref x) (hT k)) Q E s:=by
 have hS0:=hS;obtain⟨o,es,ep,t,L,ho,hex,hd,I,hL,hu,hp,OM⟩:=hS;have hsz:es.size=ks.length:=by
  have:=congrArg List.length hL;rw[apC,apO]at this;rw[this,<-hp.length_eq,apC]
 unfold setAddHashed setAddHashedIn;refine aqk (apq (aqz ho hd I.fits ?_));dsimp only;rw[show byScan (.ref x) es=Δ from rfl]
 simp only[apX,if_false];refine apq ?_;unfold setSearch setSearchFrom;refine apq (aqz ho hd I.fits ?_);dsimp only;rw[aiq I];simp only[apX,if_false]
 by_cases hk2:k∈ks
 ·have hkL:k∈L.map (·.1):=hp.mem_iff.mpr hk2;obtain⟨q,hq,rfl⟩:=apv.mp hkL;have he:uO q∈es.toList:=by rw[hL];exact apv.mpr ⟨q,hq,rfl⟩
  obtain⟨j,i,next,e',oO,h1,h2⟩:=aiX I he;obtain⟨y,rfl,hy,_⟩:=find_key (ks:=ks) hL hu hk h1 h2;have hst:ig ks q.1=ks:=by unfold ig;rw[if_pos hk2]
  rw[hst]at h;have fin:∀(an7:Unit),Q Δ s:=λ_=>h Δ s.heap (Heap.SameBut.refl a s.heap) hS0
  split
  ·rename_i met heq;have hm:met=.candidate j i next:=by
    have:=heq.symm.trans oO;cases this;rfl
   subst hm;dsimp only;simp only[h1];have tail:∀{R:SetFound->ε->Prop}{F:Bool->(Array (Int×Γ)×Nat×ω)->Sem SetFound},R (.there η) s->wpAny (model prog w) A (do
     let equal <-holding [Value.ref y] (eqBool (.ref y) (.ref x))
     let z <-setState a
     if(ξ&&equal)=ξ then pure (SetFound.there η)else F equal z) R E s:=fun{R F} hR=>by
    refine apq (aqk ((tupleKind (intKind prog w)).eqBool hr hy hx ?_));refine apq (aqz ho hd I.fits ?_);rw[if_pos (by simp)]
    exact apr hR
   cases hl:t.led with
   |false =>
    simp only[arV,if_true];refine apq (ad1 hk hx _ (λv hv=>?_) ?_)
    ·obtain⟨e,he,rfl⟩:=apv.mp hv;have he:e∈es.toList:=by
      have:=Array.mem_filter.mp (asR.mp he);exact asR.mpr this.1
     rw[hL]at he;obtain⟨q',hq',rfl⟩:=apv.mp he;exact⟨q'.1,q'.2,rfl,hu q' hq'⟩
    ·simp only[apX,if_false];exact tail (apr (fin ()))
   |true =>
    simp only[aq1,apX,if_false];exact tail (apr (fin ()))
  ·rename_i hne;exact absurd oO (hne _)
 ·have hno:∀e∈es.toList,e.1≠hT k:=λe he z=>by
   rw[hL]at he;obtain⟨q,hq,rfl⟩:=apv.mp he;have:=(hu q hq).1.inj hk z;exact hk2 (hp.mem_iff.mp (apv.mpr ⟨q,hq,this⟩))
  obtain⟨j,oO,hj,AH,hre⟩:=aiY I hk.gy hno;have hst:ig ks k=ks++[k]:=by unfold ig;rw[if_neg hk2]
  rw[hst]at h;split
  ·rename_i met heq;have hm:met=.empty j η:=by
    have:=heq.symm.trans oO;cases this;rfl
   subst hm;dsimp only;refine apr ?_;dsimp only;refine apq (aqz ho hd I.fits ?_);dsimp only;obtain⟨p1,p2,p3,p4,p5,p6⟩:=YX I (x:=.ref x) hj AH hre;have CV:∀t1:ω,t1.mask=t.mask->t1.place=(t.put j).1.place->t1.dummies=(t.put j).1.dummies->wpAny (model prog w) A (do
     storeSet a (SetTable.insertAt es (t.put j).snd (hT k,Value.ref x)) t1
     if(!false&&t1.tooFull)=ξ then do
      setRelay a (SetTable.grown (es.size+1))
      pure ξ
     else pure ξ) Q E s:=λt1 m1 m2 m3=>by
    have hsn:(t.put j).snd=SetTable.below t.place j:=rfl;rw[hsn]
    generalize ahR:SetTable.insertAt es (SetTable.below t.place j) (hT k,Value.ref x)=es1 at p1 p6
    rw[<-m2,<-m1]at p6;rw[<-m2]at p2 p3 p4;rw[<-m1]at p4;rw[<-m3]at p5;have uG:es1.toList=(L.take (SetTable.below t.place j)++(k,x)::L.drop (SetTable.below t.place j)).map uO:=by
     rw[<-ahR,asx,hL,aqZ,apE,ard,atJ]
    have GH:((L.take (SetTable.below t.place j)++(k,x)::L.drop (SetTable.below t.place j)).map (·.1)).Perm (ks++[k]):=by
     refine((atz (a:=(k,x)) (l₁:=L.take (SetTable.below t.place j)) (l₂:=L.drop (SetTable.below t.place j))).map (·.1)).trans ?_;rw[arb,apE];exact(hp.cons k).trans (asA k ks).symm
    have hu1:∀q∈(L.take (SetTable.below t.place j)++(k,x)::L.drop (SetTable.below t.place j)),fh q.1/\adU (intKind prog w) s.heap q.1 q.2:=λq hq=>by
     rw[ap1,apu]at hq
     rcases hq with q1|rfl|q1
     ·exact hu q (apZ q1)
     ·exact⟨hk,hx⟩
     ·exact hu q (asy q1)
    have GD:∀q∈(L.take (SetTable.below t.place j)++(k,x)::L.drop (SetTable.below t.place j)),Y q.2:=λq hq=>by
     rw[ap1,apu]at hq
     rcases hq with q1|rfl|q1
     ·exact OM q (apZ q1)
     ·exact hY
     ·exact OM q (asy q1)
    generalize L.take (SetTable.below t.place j)++(k,x)::L.drop (SetTable.below t.place j)=L1 at uG GH hu1 GD
    have hM:=I.mask;have hz0:(#[]:Array Nat).size=0:=rfl;have hfit:t1.fits es1.size=ξ:=by
     simp only[SetTable.fits,SetTable.fill,p2,p5,p1,hz0,m1,apN,beq_self_eq_true,true_and,decide_eq_true_eq];omega
    have sl:100<ι:=by decide
    refine apq (asD ho hd ?_ (by omega))
    have oR:=zO (es':=es1) (t':=t1) ho hd;have gv:=aqN s.heap a (Obj.putSet es1 t1);have hk1:∀q∈L1,fh q.1/\adU (intKind prog w) (s.heap.update a (Obj.putSet es1 t1)) q.1 q.2:=λq hq=>⟨(hu1 q hq).1,Oh (hu1 q hq).2 ho hd gv⟩
    cases hf:t1.tooFull with
    |false =>
     simp only[arV,asU,apX,if_false];have hf2:((t1.mask=7/\es1.size<=4)\/(t1.mask=31/\es1.size<=18)\/(t1.mask=127/\es1.size<=76)):=by
      simp only[SetTable.tooFull,SetTable.fill,p2,p5,hz0,m1,decide_eq_false_iff_not]at hf;rw[m1];omega
     exact apr (h ξ _ gv ⟨_,es1,ep+1,t1,L1,oR,hex,rfl,⟨by rw[p2,p1],p3,p4,p5,hf2,p6⟩,uG,hk1,GH,GD⟩)
    |true =>
     simp only[arV,asE,if_true];have hf2:es1.size=5\/es1.size=19:=by
      simp only[SetTable.tooFull,SetTable.fill,p2,p5,hz0,m1,decide_eq_true_eq]at hf;omega
     have GB:∀e∈es1.toList,pN e.1:=λe he=>by
      rw[uG]at he;obtain⟨q,hq,rfl⟩:=apv.mp he;exact(hu1 q hq).1.gy
     obtain⟨t2,order,r1,r2,r3,r4,r5⟩:=Yr (t:=t1) GB hf2
     generalize xW:order.filterMap (es1[·]?)=j7 at r2 r3 r5
     refine apq ?_;unfold setRelay;refine apq (aqz oR rfl hfit ?_);dsimp only;have hw:¬SetTable.sizeAbove (SetTable.grown (es.size+1))>ι:=by
      rw[<-p1]
      rcases hf2 with e|e<;>rw[e]<;>decide
     rw[if_neg hw,<-p1,r1];refine apq (arq (show _=pure (j7,t2)from ?_) ?_)
     ·show(if((order.filterMap (es1[·]?)).size != es1.size)=ξ then(do let _ <-unsupported "internal:set-table-lost-an-element";pure (order.filterMap (es1[·]?),t2))else pure (order.filterMap (es1[·]?),t2))=_
      rw[xW,r2];simp
     ·dsimp only;refine asD oR rfl ?_ (by omega)
      have ahm:=aqN (s.heap.update a (Obj.putSet es1 t1)) a (Obj.putSet j7 t2);have OS:=gv.trans ahm;have ho2:=zO (es':=j7) (t':=t2) oR rfl;obtain⟨L2,uF,GI⟩:∃L2:List (List Int×Θ),j7.toList=L2.map uO/\L2.Perm L1:=by
       rw[uG]at r5;exact aaC r5
      refine apr (h ξ _ OS ⟨_,j7,ep+1+1,t2,L2,ho2,hex,rfl,r3,uF,λq hq=>?_,(GI.map _).trans GH,λq hq=>GD q (GI.mem_iff.mp hq)⟩)
      have hq1:=GI.mem_iff.mp hq;exact⟨(hu1 q hq1).1,Oh (hu1 q hq1).2 ho hd OS⟩
   have mk:(t.put j).1.mask=t.mask:=rfl
   by_cases hpl:(t.put j).fst.plain=ξ
   ·rw[if_pos hpl];refine apq (alX hk hx λb=>?_)
    cases b with
    |true=>exact CV _ rfl rfl rfl
    |false=>exact CV _ rfl rfl rfl
   ·rw[if_neg hpl];refine apq (apr ?_);exact CV _ rfl rfl rfl
  ·rename_i hne;exact absurd oO (hne _)
end
def eS(xs:List (List Int)):List (List Int):=xs.foldl ig []
theorem aiN{xs:List (List Int)}{i:Nat}(h:i<xs.length):eS (xs.take (i+1))=ig (eS (xs.take i)) xs[i]:=by
 unfold eS;rw[arW h,arX];rfl
theorem PN:∀(xs ns:List (List Int)),ns.length<=(xs.foldl ig ns).length
 |[],ns=>aps _
 |x::xs,ns=>by
  have:=PN xs (ig ns x);have h:ns.length<=(ig ns x).length:=by unfold ig;split<;>simp
  rw[aq6];omega
theorem aiO(xs:List (List Int)) (i:Nat):(eS (xs.take i)).length<=(eS xs).length:=by
 have:eS xs=(xs.drop i).foldl ig (eS (xs.take i)):=by
  unfold eS;rw[<-arX,arb]
 rw[this];exact PN _ _
section
variable {prog:υ}{w:ψ}{A:acr}{s:ε}{E:Γ->ε->Prop}
theorem IsTupleKey.at{h h':χ}{k:List Int}{y:Θ}(x:adU (intKind prog w) h k y) (e:∀o,h.get? y=ζ o->h'.get? y=ζ o):adU (intKind prog w) h' k y :=
 let⟨o,it,n,h1,r⟩:=x;⟨o,it,n,e o h1,r⟩
theorem kh.at{Y:Θ->Prop}{h h':χ}{a:Θ}{ks:List (List Int)}(x:kh prog w Y h a ks) (k:∀b,(b=a\/Y b)->∀o,h.get? b=ζ o->h'.get? b=ζ o):kh prog w Y h' a ks :=
 let⟨o,es,ep,t,L,ho,h1,h2,h3,h4,h5,h6,h7⟩:=x
 ⟨o,es,ep,t,L,k a (.inl rfl) o ho,h1,h2,h3,h4,λq hq=>⟨(h5 q hq).1,IsTupleKey.at (h5 q hq).2 (k q.2 (.inr (h7 q hq)))⟩,h6,h7⟩
theorem Xm{R:Result->ε->Prop}{I:Θ}{fp wr:List Θ}{G:Array aht->Array aht->Prop}{P:Nat->Γ->Prop}{St:Nat->ε->Prop}{xs:List (List Int)}{ys:List Θ}(hys:ys.length=xs.length)
  (W:WalksS prog w A.in1 I fp wr G xs.length P St) (S:Θ) (hSf:S∉fp) (hval:∀(i:Nat) v,(hi:i<xs.length)->P i v->v=Value.ref (ys[i]'(by omega))) (hx:∀x∈xs,fh x) (Gp:∀y∈ys,y≠S/\y∉wr) (h64:(eS xs).length<64) (hr:A.in1.units<ahl) :
  ∀(k i:Nat) (s:ε),xs.length-i=k->i<=xs.length->St i s->kh prog w (·∈ys) s.heap S (eS (xs.take i))->(∀j,(hj:j<xs.length)->adU (intKind prog w) s.heap xs[j] (ys[j]'(by omega))) ->
   (∀s',Moved (S::wr) G s s'->kh prog w (·∈ys) s'.heap S (eS xs)->R (.ok (.ret .none)) s') ->
   codeAny (model prog w) A (.builtin "set.update.loop" ⟨[.ref S,.ref I],[]⟩) R s:=by
 have AN:S∉wr:=λh=>hSf (W.sub _ h)
 have hup:∀b∈wr,b∈S::wr:=λb hb=>.tail _ hb
 have O9:∀b,(b=S\/b∈ys)->b∉wr:=λb hb=>hb.elim (λe=>e▸AN) λm=>(Gp b m).2
 intro k
 induction k with
 |zero =>
  intro i s hk hi st hS hK hR;cases(show i=xs.length by omega)
  refine aq0 asF ?_;rw[arY arB _];show wpAny _ A.in1 (pyNext (.ref I) >>= _) _ _ s;refine apq (W.done s _ _ st λs' hm=>?_)
  rw[aqy]at hS;exact apr (hR s' (hm.mono hup) (hS.at λb hb o e=>hm.heap b _ (O9 b hb) e))
 |succ k ih =>
  intro i s hk hi st hS hK hR;have hlt:i<xs.length:=by omega
  have qB:i<ys.length:=by omega
  refine aq0 asF ?_;rw[arY arB _];show wpAny _ A.in1 (pyNext (.ref I) >>= _) _ _ s;refine apq (W.item i s _ _ hlt st λv s' hP st' hm=>?_)
  cases hval i v hlt hP;have hS':kh prog w (·∈ys) s'.heap S (eS (xs.take i)):=hS.at λb hb o e=>hm.heap b _ (O9 b hb) e
  have GJ:∀j,(hj:j<xs.length)->adU (intKind prog w) s'.heap xs[j] (ys[j]'(by omega)):=λj hj=>IsTupleKey.at (hK j hj) λo e=>hm.heap _ _ ((Gp _ (apR (by omega))).2) e
  show wpAny _ A.in1 (holding [Value.ref ys[i]] (setAdd S (.ref ys[i])) >>= _) _ _ s';refine apq (aqk ?_);unfold setAdd;refine aqk (apq ((tupleKind (intKind prog w)).pyHash (k:=xs[i]) hr (GJ i hlt) ?_));have hl:(eS (xs.take i)).length<64:=aqL (aiO xs i) h64;refine Xq (Y:=(·∈ys)) (s:={s' with toks:=s'.toks+(tupleKind (intKind prog w)).draws xs[i]}) (k:=xs[i]) hr (hx _ (apR hlt)) (GJ i hlt) (apR qB) hS' hl λb h' gv jd=>?_
  rw[<-aiN hlt]at jd;refine apr ⟨ato arB _,ih (i+1) _ (by omega) hlt (W.frame _ s' _ _ st' (aru _ _) λb hb o e=>?_) jd (λj hj=>?_) λs'' Gw GG=>?_⟩
  ·rw[gv.2 b (λq:b=S=>hSf (q▸hb))];exact e
  ·exact IsTupleKey.at (GJ j hj) λo e=>by
    show h'.get? _=ζ o;rw[gv.2 _ (Gp _ (apR (by omega))).1];exact e
  ·refine hR s'' (Moved.trans W.gtrans ((hm.mono hup).then_heap (aru _ _) λb o hb e=>?_) Gw) GG
   rw[gv.2 b (λq:b=S=>hb (q▸.head _))];exact e
theorem ajd(Y:Θ->Prop) {h:χ}{a:Θ}(e:h.get? a=ζ (cQ w)):kh prog w Y h a [] :=
 ⟨_,#[],0,_,[],e,⟨rfl,rfl,rfl⟩,rfl,⟨rfl,.nil,λj h=>by simp[SetTable.fresh]at h,rfl,.inl ⟨rfl,by simp⟩,λq hq=>by simp[SetTable.fresh]at hq⟩,rfl,λq hq=>(by cases hq),.refl _,λq hq=>(by cases hq)⟩
set_option maxHeartbeats 3200000 in
theorem Xk{l:Θ}{items:Array Γ}{xs:List (List Int)}{ys:List Θ}{Q:Γ->ε->Prop}(hys:ys.length=xs.length) (hh:A.handled=η) (hl:s.heap.IsList l items) (hi:items.toList=ys.map Value.ref) (hK:∀j,(hj:j<xs.length)->adU (intKind prog w) s.heap xs[j] (ys[j]'(by omega))) (hx:∀x∈xs,fh x) (h64:(eS xs).length<64) (hr:A.in1.in1.in1.units<ahl)
  (h:∀(h':χ) (tk:Nat),kh prog w (·∈ys) h' s.heap.objs.size (eS xs)->(∀b o,b<s.heap.objs.size->s.heap.get? b=ζ o->h'.get? b=ζ o)->Q (.ref s.heap.objs.size) {s with heap:=h',toks:=tk}) :
  wpAny (model prog w) A (call (.type "set") [.ref l]) Q E s:=by
 obtain⟨c,tl,OY⟩:=apU.mro;have hmade:=apU.made;have hsub:=apU.sub;refine ari (asG (show wpAny _ _ (callAny (.type "set") _) _ _ _ from ?_))
 refine apr ⟨atp _ (by decide +kernel),aq0 atq ?_⟩
 rw[atr (ats "set" [.ref l] []) rfl];have h1:=apU.notType;have h2:=apU.canCreate;have hct:=att (.ref l)
 repeat any_goals (first|assumption|wp_step)
 refine aqt (C6 (.ref l) (E:=E) (Q₁:=λobj s₁=>obj=.ref s.heap.objs.size/\s₁={s with heap:=s.heap.push (cQ w)}) ⟨rfl,rfl⟩) λr s₁ hr=>?_
 cases r with
 |error e=>exact hr
 |ok fl =>
  cases fl with
  |ret obj =>
   obtain⟨rfl,rfl⟩:=hr;have hS:(s.heap.push (cQ w)).get? s.heap.objs.size=ζ (cQ w):=apF _ rfl;have hT:ahn {s with heap:=s.heap.push (cQ w)} (.ref s.heap.objs.size) "set":=⟨_,hS,rfl⟩
   have hli:=apU.init.lookup;have hbi:=apU.init.bind (.ref s.heap.objs.size)
   repeat any_goals (first|assumption|wp_step)
   refine aqt (atu (R:=wants (λr s₂=>r=.none/\∃h' tk,s₂={s with heap:=h',toks:=tk}/\kh prog w (·∈ys) h' s.heap.objs.size (eS xs) /\
     (∀b o,b<s.heap.objs.size->s.heap.get? b=ζ o->h'.get? b=ζ o)) E) apU.init.plain atv (atw hT ?_)) λr₂ s₂ j5=>?_
   ·obtain⟨ol,iB,hcl,nl,hdl⟩:=hl;obtain⟨M7,wZ,MZ,wW⟩:=ol;simp only at hcl hdl;subst hcl;subst hdl;have oQ:(s.heap.push (cQ w)).get? l=ζ {cls:=.type "list",dict:=wZ,data:=.seq items nl,slots:=wW}:=apt _ iB;have OQ:=auC;have OR:=auD;have hne:(Value.type "list"==Value.type "dict")=Δ:=by decide
    have hl1:(s.heap.push (cQ w)).IsList l items:=⟨_,oQ,rfl,nl,rfl⟩;unfold cQ at hS hT oQ ⊢;unfold Builtin.«set.__init__» noKeywords Builtin.Frozenset.updateFrom
    generalize x9:pyIter=PI
    wp_walk
    subst x9;refine arf hl1 (apq (atx ?_));have hlS:l<s.heap.objs.size:=apy iB;have hlen:items.size=xs.length:=by
     have:=congrArg List.length hi;rw[apC,apO]at this;omega
    have xU:l≠(s.heap.push (cQ w)).objs.size:=by rw[apY];exact apz (aqC hlS)
    have hSf:s.heap.objs.size∉[(s.heap.push (cQ w)).objs.size,l]:=by
     rw[apY];simp only[apu,apI,or_false,not_or];exact⟨apz (aqp _),aqe hlS⟩
    have W:=(arS (prog:=prog) (w:=w) (A:=A.in1.in1.in1) (by simp[hh]) (s.heap.push (cQ w)).objs.size l xU items).toS
    rw[hlen]at W;have hyo:∀y∈ys,∃k,adU (intKind prog w) s.heap k y:=λy hy=>by
     obtain⟨j,hj,rfl⟩:=aqQ hy;exact⟨_,hK j (by omega)⟩
    have hyl:∀y∈ys,y<s.heap.objs.size/\y≠l:=λy hy=>by
     obtain⟨k,o,it,n,q1,q2,q3,q4⟩:=hyo y hy;refine⟨apy q1,λe=>?_⟩
     subst e;rw[iB]at q1;cases q1
     injection q2 with z
     exact absurd z (by decide)
    refine Xm (xs:=xs) (ys:=ys) hys W s.heap.objs.size hSf (λi v hi' hv=>?_) hx (λy hy=>?_) h64 hr xs.length 0 _ (by omega) (aqm _) ⟨⟨_,apF _ rfl,rfl,rfl⟩,hl1.push _⟩ (ajd _ (apt _ hS)) (λj hj=>IsTupleKey.at (hK j hj) λo e=>apt _ (apt _ e)) λs' hm hS'=>?_
    ·have hv:items[i]? = ζ v:=hv;rw[<-ap2,hi,apM,apw (by omega)]at hv
     simpa using hv.symm
    ·have:=hyl y hy;rw[apY];simp only[apu,apI,or_false];exact⟨apz this.1,λz=>by first|exact absurd z (apz (aqC this.1))|exact z.elim (λz=>absurd z (apz (aqC this.1))) this.2⟩
    ·obtain⟨h',g',d',tk',os'⟩:=s';cases(show g'=s.gens from hm.gens)
     cases(show d'=s.drawn from hm.drawn)
     cases(show os'=s.os from hm.os)
     refine apr (apr ⟨rfl,h',tk',rfl,hS',λb o hb e=>?_⟩)
     exact hm.heap b o (by rw[apY];simp only[apu,apI,or_false,not_or];exact⟨apz hb,apz (aqC hb)⟩) (apt _ (apt _ e))
   ·cases r₂ with
    |error e=>exact j5
    |ok ye =>
     cases ye with
     |ret r =>
      obtain⟨rfl,h',tk,rfl,hS',hk'⟩:=j5
      repeat any_goals (first|assumption|wp_step)
      exact h _ _ hS' hk'
     |_=>exact j5.elim
  |_=>exact hr.elim
end
def C7(P:υ) (w:ψ) (a:Θ) (n:Nat):χ->Prop:=λh=>∃o es ep t,h.get? a=ζ o/\o.ExactSet/\o.data=.set es ep t/\t.fits es.size=ξ/\es.size=n
def aZ:D->Option (List Int)
 |.tup [.int i,.int j]=>if 0<=i/\i<8/\0<=j/\j<8 then ζ [i,j]else η
 |_=>η
def qe:List D->Option (List (List Int))
 |[]=>ζ []
 |d::l=>match aZ d,qe l with
  |some k,ζ r=>ζ (k::r)
  |_,_=>η
theorem Zr{d:D}{k:List Int}(h:aZ d=ζ k):fh k/\∃i j,k=[i,j]/\d=.tup [.int i,.int j]:=by
 unfold aZ at h;split at h
 ·rename_i i j;split at h
  ·rename_i hb;cases h;exact⟨⟨i.toNat,j.toNat,by omega,by omega,by rw[show((i.toNat:Nat):Int)=i by omega,show((j.toNat:Nat):Int)=j by omega]⟩,i,j,rfl,rfl⟩
  ·cases h
 ·cases h
section
variable {X:Cx}
def Yu(X:Cx):List V->Hp->VK->Prop:=λxs H Q=>∃a ys ks,xs=[.ref a]/\bD X.K H a (ys.map V.ref)/\ahq (fun(y:Θ) (k:List Int)=>fh k/\H y=ζ (.tup (k.map V.int))) ys ks/\(eS ks).length<64/\∀p,H p=η->Q (.ref p) (upd H p (.ext (C7 X.prog X.w p (eS ks).length)))
theorem MH{α β:Type}{R:α->β->Prop}:∀{l:List α}{r:List β},ahq R l r->l.length=r.length
 |_,_,.nil=>rfl
 |_,_,.cons _ q=>congrArg (· + 1) (MH q)
theorem DC{α β:Type}{R:α->β->Prop}:∀{l:List α}{r:List β},ahq R l r->∀(j:Nat) (h1:j<l.length) (h2:j<r.length),R l[j] r[j]
 |_,_,.nil,_,h,_=>absurd h (asv _)
 |_,_,.cons p q,0,_,_=>p
 |_,_,.cons p q,j+1,h1,h2=>DC q j (by simpa using h1) (by simpa using h2)
theorem afO{pins:List (Θ×Obj)}{σ:St}{H:Hp}{s:ε}{y:Θ}{i j:Int}(I:Inv X pins σ H s) (h:H y=ζ (.tup [.int i,.int j])):adU (intKind X.prog X.w) s.heap [i,j] y:=by
 obtain⟨_,its,hv,o,h1,h2,⟨n,h3⟩,_⟩:=I.hok y _ h;cases hv with
 |cons r1 r2 =>
  cases r2 with
  |cons r3 r4 =>
   cases r4;obtain⟨t1,rfl⟩:=r1;obtain⟨t2,rfl⟩:=r3;exact⟨o,_,n,h1,h2,h3,.cons (by simp[intKind,Value.isInt]) (.cons (by simp[intKind,Value.isInt]) .nil)⟩
theorem KW:∀{ys:List Θ}{us:List Γ},Vals (ys.map V.ref) us->us=ys.map Value.ref
 |[],_,.nil=>rfl
 |y::ys,_,.cons e r=>by cases e;rw[KW r];rfl
theorem ak6(hu:X.A.units+64<ahl) (hc:X.calm=ξ:=by rfl):d9 X (.type "set") (Yu X):=by
 intro pins s σ H xs us Q I rv h;obtain⟨a,ys,ks,rfl,sq,hp,h64,q⟩:=h;obtain⟨u,rfl,ru⟩:=aqc rv;cases ru;obtain⟨its,ri,pl,hz⟩:=I.list sq;have hl:=MH hp;refine Xk (xs:=ks) (ys:=ys) hl (I.ok.hd hc) pl.isList (by simpa using KW ri) (λj hj=>?_) (λx hx=>?_) h64 (by show X.A.units+1+1+1<ahl;omega) λh' tk hS kp=>?_
 ·obtain⟨⟨i',j',_,_,e⟩,hH⟩:=DC hp j (by omega) hj
  rw[e]at hH ⊢;exact afO I hH
 ·obtain⟨j,hj,rfl⟩:=aqQ hx;exact(DC hp j (by omega) hj).1
 ·have hf:H s.heap.objs.size=η:=I.hok.fresh (aps _);obtain⟨o,es,ep,t,L,ho,hex,hd,IT,hL,_,kW,_⟩:=hS;have hn:es.size=(eS ks).length:=by
   have:=congrArg List.length hL;rw[apC,apO]at this;rw[this,<-kW.length_eq,apC]
  refine⟨.ref s.heap.objs.size,upd H s.heap.objs.size (.ext (C7 X.prog X.w s.heap.objs.size (eS ks).length)),I.laid (t':=tk) (λb u e=>kp b u (apy e) e) (aps _) ?_,rfl,q _ hf⟩
  exact⟨⟨o,es,ep,t,ho,hex,hd,IT.fits,hn⟩,⟨o,ho⟩,λh1 h2 ⟨o,es,ep,t,ho,r⟩ k=>⟨o,es,ep,t,k o ho,r⟩⟩
def YC(X:Cx):List V->Hp->VK->Prop:=λxs H Q=>∃a n,xs=[.ref a]/\H a=ζ (.ext (C7 X.prog X.w a n))/\(n:Int)<2^63/\Q (.int (n:Nat)) H
theorem ak7:d9 X (.builtin "len") (YC X):=by
 intro pins s σ H xs us Q I rv h;obtain⟨a,n,rfl,hH,hn,q⟩:=h;obtain⟨u,rfl,ru⟩:=aqc rv;cases ru;obtain⟨⟨o,es,ep,t,ho,hex,hd,hf,he⟩,_,_⟩:=I.hok a _ hH;subst he;exact atE ho hex hd hf hn ⟨.int _,H,I.tok _,⟨_,rfl⟩,q⟩
def uT(a:aj):af:=λe c=>(a e c).bind λxs c=>match xs with
 |[x]=>match d7 c x with
  |some l=>match qe l with
   |some ks=>if(eS ks).length<64 then .ok (.int (eS ks).length) c else .bad
   |none=>.bad
  |none=>.bad
 |_=>.bad
theorem Mt{K:Ω}{ρ:List Θ}{H:Hp}:∀{l:List D}{vs:List V}{ks:List (List Int)},aK K ρ H l vs->qe l=ζ ks->∃ys:List Θ,vs=ys.map V.ref/\ahq (fun(y:Θ) (k:List Int)=>fh k/\H y=ζ (.tup (k.map V.int))) ys ks
 |[],vs,ks,r,h=>by
  cases h;have:vs=[]:=by simpa[aK]using r
  exact⟨[],this,.nil⟩
 |d::l,vs,ks,r,h=>by
  unfold qe at h;split at h
  ·rename_i k rk h1 h2;cases h;obtain⟨v,vr,rfl,rd,rr⟩:=r;obtain⟨hu,i,j,rfl,rfl⟩:=Zr h1;obtain⟨y,ws,rfl,hy,rw⟩:=rd;obtain⟨v1,r1,rfl,e1,rw⟩:=rw;obtain⟨v2,r2,rfl,e2,rw⟩:=rw;cases rw;cases e1;cases e2;obtain⟨ys,rfl,p⟩:=Mt rr h2;exact⟨y::ys,rfl,.cons ⟨hu,hy⟩ p⟩
  ·cases h
theorem aa4{e:ο}{da:aj}{p1 p2 q1 q2:Pos}(hu:X.A.units+64<ahl) (ha:eZ X [e] da) (hm:X.mg "len"=η) (hm2:X.mg "set"=η) (hg:Gl X "len":=by rfl) (g6:Gl X "set":=by rfl) (hc:X.calm=ξ:=by rfl)
  (he:μ [e] X.env=(Δ,eval e X.env)::μ [] X.env:=by exact cR rfl):bh X (.Call (.Name "len" p1) [.Call (.Name "set" p2) [e] [] q2] [] q1) (uT da):=by
 have xR:PE X (.Call (.Name "set" p2) [e] [] q2) _:=kG (ak6 hu hc) g6 hm2 (by decide +kernel) ha (by decide) (by decide) he (by exact e9 rfl)
 refine(wN ak7 hg hm (by decide +kernel) (i9 xR jB (cR rfl)) (by decide) (by decide) (by exact cR rfl) (by exact e9 rfl)).imp λσ H Q h=>?_
 obtain⟨ρ,e,c,W,V,p⟩:=h;refine⟨ρ,e,c,W,V,post.bind p λxs c1 aL H1 vs ex W1 X1 r1 p1=>?_⟩
 clear ex;split at p1
 ·rename_i x;obtain⟨v,r,rfl,hx,hr⟩:=r1;cases hr;split at p1
  ·rename_i l hl;split at p1
   ·rename_i ks hn;split at p1
    ·rename_i hb;obtain⟨a,vs,rfl,ha',rl⟩:=lS W1 hx hl;obtain⟨ys,rfl,hp⟩:=Mt rl hn;refine⟨a,ys,ks,rfl,bD.of ha',hp,hb,λq hq=>?_⟩
     refine⟨q,(eS ks).length,rfl,e8,?_,?_⟩
     ·omega
     ·exact p1 aL _ _ (W1.fresh hq) (Ext.fresh W1 hq) rfl
    ·exact p1.elim
   ·exact p1.elim
  ·exact p1.elim
 ·exact p1.elim
end
@[simp] theorem anP(a:aj) (e:Ev) (c:aa):uT a e c=(a e c).bind λxs c=>match xs with
 |[x]=>match d7 c x with
  |some l=>match qe l with
   |some ks=>if(eS ks).length<64 then .ok (.int (eS ks).length) c else .bad
   |none=>.bad
  |none=>.bad
 |_=>.bad:=rfl
section
variable {X:Cx}{es':List ο}{kt:Nat}{pt:Pos}
theorem aaw{a:ο}{ta:TA}{p pos:Pos}(hg:Gl X "enumerate") (hm:X.mg "enumerate"=η) (ha:PA X [a] ta) (hs:μ [a] X.env=[(Δ,eval a X.env)]:=by rfl) :
  PI X (.Tuple es' kt pt) (.Call (.Name "enumerate" p) [a] [] pos) (OF (bD X.K) ta):=by
 intro pins s σ H R I h;refine Call_ (kQ I hg hm boot_enumerate (aqT (bw (ha pos pins s σ H _ I h) λus s1 ⟨vs,H1,I1,r1,q1⟩=>?_) hs rfl))
 obtain⟨a1,e,⟨xs,q1⟩,q⟩:=q1;subst e;cases r1 with
 |cons r rr =>
  cases rr;cases r;obtain⟨us,ru,pu,lu⟩:=I1.list q1;refine call_enumerate_list pu.isList λh' hz t1 _ kp=>as5 hz ?_
  generalize hn:s1.heap.objs.size=n at hz t1
  refine⟨n+1,_,_,_,H1,rfl,I1.kept (t':=s1.toks) kp,Lf L4 a1 (n+1) n (aqe (aqp _)),⟨⟨_,hz⟩,t1⟩,λb hb=>?_,q⟩
  refine yV I1 hn b ?_;simp only[apu,apI,or_false]at hb
  rcases hb with rfl|rfl<;>simp
end
def yr(a:aj):Ev->aa->R Src:=λe c=>(a e c).bind λxs c=>match xs with
 |[.lst l]=>.ok ⟨l.mapIdx λi x=>.tup [.int i,x],λ_=>True⟩ c
 |_=>.bad
section
variable {X:Cx}{K:Ω}{ρ:List Θ}{H:Hp}
theorem agD{l:List D}{a:Θ}{st:aa->Prop}(h:∀ρ' H' c',Wd K ρ' H' c'->Ext ρ H ρ' H'->st c'->∃xs,bD K H' a xs/\aK K ρ' H' l xs):JS K ρ H ⟨l.mapIdx λi x=>.tup [.int i,x],st⟩ (Cj (bD K) a):=by
 intro ρ' H' c' W E s i;obtain⟨xs,q,r⟩:=h ρ' H' c' W E s;refine⟨λd hd=>?_,λe=>⟨xs,q,?_⟩⟩
 ·have hd:(l.mapIdx λi x=>D.tup [.int i,x])[i]? = ζ d:=hd
  rw[as6]at hd;cases e1:l[i]? with
  |none=>rw[e1]at hd;cases hd
  |some x =>
   rw[e1]at hd;cases hd;obtain⟨v,hv,rv⟩:=r.get e1;refine⟨⟨xs,v,q,hv⟩,λz H2 hz=>?_⟩
   obtain⟨t,v',rfl,ht,rfl,hz⟩:=hz;have z1:=hz xs q;rw[hv]at z1;cases z1;exact⟨W.fresh ht,Ext.fresh W ht,t,[.int i,v],rfl,e8,.int i,[v],rfl,rfl,v,[],rfl,Rel.mono W (Ext.fresh W ht) _ _ rv,rfl⟩
 ·have e:i=(l.mapIdx λi x=>D.tup [.int i,x]).length:=e
  rw[aus]at e;rw[r.length];exact e
theorem ag4{es:List ο}{k:Nat}{pt:Pos}{a:ο}{da:aj}{p pos:Pos}(ha:eZ X [a] da) (hm:X.mg "enumerate"=η) (hg:Gl X "enumerate":=by rfl) (hs:μ [a] X.env=[(Δ,eval a X.env)]:=by exact p7 rfl) :
  PId X (.Tuple es k pt) (.Call (.Name "enumerate" p) [a] [] pos) (yr da):=(aaw hg hm ha hs).imp λσ H Q h=>by
 obtain⟨ρ,e,c,W,V,p⟩:=h;refine⟨ρ,e,c,W,V,post.bind p λx c1 aL H1 v _ W1 X1 r1 p1=>?_⟩
 split at p1
 ·obtain⟨y,ys,rfl,ry,rs⟩:=r1;cases rs;obtain⟨a1,xs,rfl,s1,t1⟩:=ry;exact⟨a1,rfl,⟨xs,bD.of s1.1⟩,p1.here W1 (agD λρ' H' c' W' E _=>⟨xs,bD.of (D9 E s1).1,aK.mono W1 E _ _ t1⟩)⟩
 ·exact p1.elim
end
end L2
namespace Ev
open PySem L2 PyProof.Rows
def top(i:Nat):ad4:=PySem.Challenge.pw_evenwebs_k58_whole_nets_are_even.main.body.getD i (.Pass ⟨0,0,0,0⟩)
abbrev sV:ad4:=top 4
abbrev sU:ad4:=top 5
abbrev sX:ad4:=top 7
abbrev tL:ad4:=top 21
abbrev rZ:ad4:=top 8
abbrev rU:ad4:=top 9
abbrev rV:ad4:=top 10
abbrev rW:ad4:=top 11
abbrev qb:ad4:=top 12
abbrev sZ:ad4:=top 16
abbrev tH:ad4:=top 17
abbrev sW:ad4:=top 18
abbrev rX:ad4:=top 19
abbrev se:ad4:=top 20
abbrev tK:ad4:=top 22
abbrev sY:ad4:=top 23
abbrev r8:ad4:=top 24
abbrev sd:ad4:=top 25
abbrev qc:ad4:=top 26
abbrev r9:ad4:=top 27
abbrev tG:ad4:=top 29
abbrev tw:ad4:=top 30
abbrev rY:ad4:=top 31
abbrev tE:ad4:=top 32
abbrev tF:ad4:=top 33
abbrev sR:ad4:=top 35
abbrev sI:ad4:=top 36
abbrev sf:ad4:=top 37
abbrev sH:ad4:=top 38
abbrev sP:ad4:=top 39
abbrev sD:ad4:=top 40
abbrev sL:ad4:=top 41
abbrev sj:ad4:=top 42
abbrev sM:ad4:=top 43
abbrev sN:ad4:=top 44
abbrev sG:ad4:=top 45
abbrev su:ad4:=top 46
abbrev sE:ad4:=top 47
abbrev sJ:ad4:=top 48
abbrev sQ:ad4:=top 49
abbrev sC:ad4:=top 50
abbrev sy:ad4:=top 51
abbrev sO:ad4:=top 52
abbrev sA:ad4:=top 53
abbrev sS:ad4:=top 54
def Oc(st:ad4):ο:=match(bY st).getLast? with
 |some (.Return (ζ (.Call _ [_,e] _ _)) _)=>e
 |_=>.Name "" ⟨0,0,0,0⟩
def yS:ο:=Oc qb
def Co:ο:=Oc qc
def pJ:ah :=
 (aM (iR (aF cK (ao (ak 0) (ao (dC (.ty "int")) aq))) (IK (aF cK (ao (ak 0) (ao (dC (.ty "bool")) aq))))))
def uw:List D->aa->R D:=bK 1 Δ pJ
def mq:ah :=
 (aM (iR (aC 1 uw (ao (ak 0) aq)) (qI lT lT (ak 1) (ak 0) (ak 2))))
def gY:List D->aa->R D:=bK 3 Δ mq
def vD:ah :=
 (aM (aC 3 gY (ao (ak 0) (ao (dC (.int 0)) (ao (au bz (ak 1) (dC (.int 1))) aq)))))
def Ao:List D->aa->R D:=bK 2 Δ vD
def oG:af :=
 (au xh (ak 1) (au aE (ak 2) (ak 0)))
def rm:ah :=
 (aM (aF yH (ao (aS (qF (ao (ak 0) (ao (ak 1) aq))) [η,η] (eG 2 (cu (az 0) (cu (az 1) eO))) aJ (au cB (ak 0) (ak 1))) aq)))
def Aq:List D->aa->R D:=bK 2 Δ rm
def qz:af :=
 (aC 2 Aq (ao (au aE (ak 2) (ak 0)) (ao (au aE (ak 2) (ak 1)) aq)))
def lams:List (ο×List Str×(List D->aa->R D)):=[(yS,["web"],oF oG),(Co,["lines"],oF qz)]
def vd:ah :=
 (aM (aF cW (ao (aS (bg (ao (ak 0) aq)) [η,ζ 1,ζ 2] (az 0) (iF (aQ (au fD (ak 0) (ak 1))) (aQ (qJ 2 2 lams (ao (ak 1) (ao (ak 0) aq))))) (ak 0)) aq)))
def iO:List D->aa->R D:=bK 3 Δ vd
def uZ:ah :=
 (aM (aF cW (ao (aS (bg (ao (ak 0) aq)) [η,ζ 0,ζ 1] (az 0) aJ (aC 3 iO (ao (ak 1) (ao (ak 0) (ao (ak 2) aq))))) aq)))
def om:List D->aa->R D:=bK 2 Δ uZ
def u5:ah :=
 (aD (aG 1 (ff aq)) (aD (bQ (l9 (ao (ak 0) aq)) (eG 2 (cu (az 2) (cu (az 3) eO))) (eL (jg (ak 1) (aS (cL (ak 3)) [η,ζ 2] (az 0) (aQ (au jE (ak 1) (ak 0))) (cP (ao (ak 1) (ao (ak 0) aq))))))) (aM (ak 1))))
def lP:List D->aa->R D:=bK 4 Δ u5
def u6:ah :=
 (aM (iR (aC 2 Ao (ao (ak 1) (ao (aF aY (ao (ak 0) aq)) aq))) (au inD (ak 2) (au aE (ak 0) (ak 1)))))
def jX:List D->aa->R D:=bK 3 Δ u6
def vf:ah :=
 (aM (yt 0 om (aF aY (ao (ak 0) aq)) yS ["web"] [0]))
def qj:List D->aa->R D:=bK 1 Δ vf
def vE:ah :=
 (aD (bU (iE (d8 (aQ (aF cK (ao (ak 0) (ao (dC (.ty "tuple")) aq))))) (aQ (au fD (aF aY (ao (ak 0) aq)) (ak 1)))) (aM (dC (.bl Δ))) b8) (aM (iR (aF fZ (ao (aS (cL (ak 0)) [η,ζ 1] (az 0) aJ (aC 3 gY (ao (ak 0) (ao (dC (.int 0)) (ao (au bz (ak 1) (dC (.int 1))) aq))))) aq)) (au cB (uU (ao (ak 0) aq)) (ak 1)))))
def gr:List D->aa->R D:=bK 2 Δ vE
def vI:ah :=
 (aM (aF cW (ao (aS (cL (ak 0)) [η,ζ 1] (az 0) aJ (au aE (ak 0) (ak 1))) aq)))
def kP:List D->aa->R D:=bK 2 Δ vI
def vC:ah :=
 (aD (bU (iE (d8 (aQ (aF cK (ao (ak 0) (ao (dC (.ty "tuple")) aq))))) (d8 (aQ (qI lT lT (dC (.int 1)) (aF aY (ao (ak 0) aq)) (dC (.int 7)))))) (aM (dC (.bl Δ))) b8) (aD (aG 1 (aF aY (ao (ak 0) aq))) (aD (bU (d8 (aQ (aF fZ (ao (aS (cL (ak 0)) [η,ζ 1] (az 0) aJ (aC 2 gr (ao (ak 0) (ao (ak 1) aq)))) aq)))) (aM (dC (.bl Δ))) b8) (aM (aF fZ (ao (aS (bg (ao (ak 1) aq)) [η,ζ 1,ζ 0] (az 0) aJ (aC 2 gr (ao (aC 2 kP (ao (ak 2) (ao (ak 0) aq))) (ao (ak 1) aq)))) aq))))))
def qq:List D->aa->R D:=bK 2 Δ vC
def qO:ah :=
 (aM (au aE (au aE (ak 0) (au gi (ak 1) (aF aY (ao (ak 0) aq)))) (au ck (ak 1) (aF aY (ao (ak 0) aq)))))
def gX:List D->aa->R D:=bK 2 Δ qO
def qS:ah :=
 (aD (aG 2 (au aW (aF aY (ao (ak 0) aq)) (aF aY (ao (ak 0) aq)))) (aM (au cB (uT (ao (aS (bg (ao (ak 2) aq)) [η,ζ 0,ζ 1] (az 0) aJ (cP (ao (aC 2 gX (ao (ak 1) (ao (ak 0) aq))) (ao (aC 2 gX (ao (ak 2) (ao (ak 0) aq))) aq)))) aq)) (ak 2))))
def uo:List D->aa->R D:=bK 3 Δ qS
def rj:ah :=
 (aD (bQ (yr (ao (ak 0) aq)) (eG 2 (cu (az 1) (cu (az 2) eO))) (bU (d8 (aQ (aF fZ (ao (aS (dj (gD (ak 0) gE (gw (ak 1)))) [η,ζ 2] (az 0) aJ (aC 2 uo (ao (ak 1) (ao (ak 0) aq)))) aq)))) (aM (dC (.bl Δ))) b8)) (aM (dC (.bl ξ))))
def xG:List D->aa->R D:=bK 3 Δ rj
def qY:ah :=
 (aD (bU (iE (d8 (aQ (aC 3 gY (ao (ak 0) (ao (dC (.int 2)) (ao (dC (.int 7)) aq)))))) (iE (d8 (aQ (aF cK (ao (ak 1) (ao (dC (.ty "list")) aq))))) (aQ (au uH (aF aY (ao (ak 1) aq)) (au bz (ak 0) (dC (.int 1))))))) (aM (dC (.bl Δ))) b8) (aM (iR (aF fZ (ao (aS (dj (ak 1)) [η,ζ 0] (az 0) aJ (iR (aC 1 qq (ao (ak 0) aq)) (au cB (aF aY (ao (ak 0) aq)) (ak 1)))) aq)) (aC 1 xG (ao (ak 1) aq)))))
def D8:List D->aa->R D:=bK 2 Δ qY
def ve:ah :=
 (bU (d8 (aQ (aC 2 D8 (ao (ak 0) (ao (ak 1) aq))))) Dj b8)
def kM:List D->aa->R D:=bK 2 Δ ve
def qR:ah :=
 (aM (au fu (cy (ao (au gi (ak 2) (ak 0)) (ao (au ck (ak 2) (ak 0)) aq))) (aS (dj (ak 1)) [η,ζ 2] (az 0) aJ (aC 2 gX (ao (ak 0) (ao (ak 1) aq))))))
def xD:List D->aa->R D:=bK 3 Δ qR
def qP:ah :=
 (aD (eL (aC 2 kM (ao (ak 0) (ao (ak 1) aq)))) (aD (aG 2 (aS (bg (ao (au aW (ak 0) (ak 0)) aq)) [η,ζ 0,ζ 1] (az 0) aJ (aC 3 xD (ao (ak 1) (ao (ak 2) (ao (ak 0) aq)))))) (aM (yt 1 om (au aW (ak 0) (ak 0)) Co ["lines"] [2]))))
def kN:List D->aa->R D:=bK 3 Δ qP
def qQ:ah :=
 (aD (eL (aC 2 kM (ao (ak 0) (ao (ak 1) aq)))) (aD (aG 2 (au br (aF aY (ao (ak 1) aq)) (dC (.int 2)))) (aD (aG 3 (uX (aQ (au cB (ak 2) (au br (ak 0) (dC (.int 1))))) (dC .aH) (au aW (ak 2) (au bz (ak 2) (dC (.int 1)))))) (aM (cP (ao (au aW (ak 0) (ak 0)) (ao (au aW (ak 2) (au bz (ak 0) (dC (.int 1)))) (ao (au br (au bz (ak 0) (dC (.int 2))) (au aW (au bz (ak 2) (dC (.int 1))) (au bz (ak 2) (dC (.int 2))))) (ao (ak 3) aq)))))))))
def xC:List D->aa->R D:=bK 4 Δ qQ
def vH:ah :=
 (aM (uV (ao (au aE (ak 0) (ak 1)) aq) (ao (au aE (ak 0) (ak 2)) aq)))
def oA:List D->aa->R D:=bK 3 Δ vH
def vF:ah :=
 (aD (bQ (l9 (ao (ak 0) aq)) (eG 2 (cu (az 1) (cu (az 2) eO))) (bU (aQ (au fD (aF aY (ao (ak 2) aq)) (aF aY (ao (au aE (ak 0) (dC (.int 0))) aq)))) (aM (ak 1)) b8)) (aM (dC .aH)))
def ux:List D->aa->R D:=bK 3 Δ vF
def vc:ah :=
 (aM (uX (BX (ak 1)) (aC 3 oA (ao (ak 0) (ao (au aE (au aE (ak 1) (dC (.int 0))) (dC (.int 0))) (ao (au aE (au aE (ak 1) (dC (.int 0))) (dC (.int 1))) aq)))) (dC .aH)))
def jY:List D->aa->R D:=bK 2 Δ vc
def vG:ah :=
 (aD (aG 2 (aC 2 jY (ao (ak 0) (ao (ak 1) aq)))) (aD (bQ (dj (ak 1)) (az 3) (bU (aQ (au fD (aC 3 oA (ao (ak 0) (ao (au aE (ak 3) (dC (.int 0))) (ao (au aE (ak 3) (dC (.int 1))) aq)))) (ak 2))) (aM (ak 3)) b8)) (aM (dC .aH))))
def qt:List D->aa->R D:=bK 4 Δ vG
def qZ:ah :=
 (aD (aG 1 (aC 1 ux (ao (ak 0) aq))) (aD (bU (aQ (au kR (ak 1) (dC .aH))) (aM (cP (ao (dC (.str "place")) (ao (ak 1) aq)))) b8) (aD (aG 2 (aC 1 lP (ao (ak 0) aq))) (aD (aG 3 (aC 1 lP (ao (aC 1 qj (ao (ak 0) aq)) aq))) (aD (bQ (cL (cP (ao (cP (ao (dC (.str "tied")) (ao (ak 2) aq))) (ao (cP (ao (dC (.str "apart")) (ao (ak 3) aq))) aq)))) (eG 2 (cu (az 4) (cu (az 5) eO))) (aD (aG 6 (aC 2 qt (ao (ak 0) (ao (ak 5) aq)))) (bU (aQ (au kR (ak 6) (dC .aH))) (aM (cP (ao (ak 4) (ao (au aE (ak 6) (dC (.int 0))) (ao (au aE (ak 6) (dC (.int 1))) aq))))) b8))) (aM (cP (ao (dC (.str "even")) (ao (cP (ao (aF aY (ao (ak 0) aq)) (ao (aF aY (ao (au aE (ak 0) (dC (.int 0))) aq)) (ao (aC 2 jY (ao (ak 0) (ao (ak 2) aq))) (ao (aC 2 jY (ao (ak 0) (ao (ak 3) aq))) aq))))) aq)))))))))
def uy:List D->aa->R D:=bK 7 Δ qZ
def qX:ah :=
 (aD (bU (aQ (au jE (ak 1) (aF aY (ao (ak 0) aq)))) (aM (au aE (ak 0) (ak 1))) b8) (aM (dC (.int 0))))
def qp:List D->aa->R D:=bK 2 Δ qX
def qV:ah :=
 (aD (bU (aQ (au Pr (ak 0) (au tR (dC (.int 10)) (dC (.int 18))))) (aM (ff (ao (au bz (ak 0) (au tR (dC (.int 10)) (dC (.int 18)))) aq))) b8) (aD (aG 1 (dC (.int 0))) (aD (bQ (bg (ao (dC (.int 64)) aq)) (az 2) (aD (aG 3 (au ck (au aW (au br (au br (au ck (ak 0) (dC (.int 2147483629))) (au aW (dC (.int 7919)) (ak 2))) (dC (.int 1))) (dC (.int 48271))) (dC (.int 2147483647)))) (aD (aG 3 (au ck (au br (au br (au aW (ak 3) (ak 3)) (au aW (dC (.int 69621)) (ak 2))) (dC (.int 7))) (dC (.int 2147483587)))) (aG 1 (au br (au aW (ak 1) (dC (.int 2147483587))) (ak 3)))))) (aM (ff (ao (ak 1) aq))))))
def ql:List D->aa->R D:=bK 4 ξ qV
def qT:ah :=
 (aD (aG 2 (au ck (au aE (ak 0) (dC (.int 0))) (ak 1))) (aD (iZ (au gi (au aE (ak 0) (dC (.int 0))) (ak 1)) (l5 (ak 0) (dC (.int 0)))) (aM (ak 2))))
def cN:List D->aa->R D:=bK 3 Δ qT
def vo:ah :=
 (aM (au aE (aS (dj (cy (fG [2,3,5,7,11,13,17,19,23,29,31,37,41,43,47]))) [η,ζ 0] (az 0) (aQ (au cB (au ck (ak 1) (ak 0)) (dC (.int 0)))) (ak 0)) (dC (.int 0))))
def gB:List D->aa->R D:=bK 1 Δ vo
def vz:ah :=
 (aD (aG 1 (dC (.int 0))) (aD (gP (aQ (au uH (ak 0) (dC (.int 1)))) (aD (aG 0 (au gi (ak 0) (aC 1 gB (ao (ak 0) aq)))) (aG 1 (au br (ak 1) (dC (.int 1))))) 10) (aM (ak 1))))
def kO:List D->aa->R D:=bK 2 Δ vz
def vm:ah :=
 (aD (aG 3 (ff aq)) (aD (bQ (bg (ao (ak 2) aq)) (az 4) (aD (eL (gx (ak 3) (au ck (ak 0) (ak 1)))) (aG 0 (au gi (ak 0) (ak 1))))) (aM (ak 3))))
def fU:List D->aa->R D:=bK 5 Δ vm
def vq:ah :=
 (aD (aG 2 (dC (.int 0))) (aD (bQ (bg (ao (aF aY (ao (ak 0) aq)) aq)) (az 3) (aG 2 (au br (au aW (ak 2) (ak 1)) (au aE (ak 0) (au bz (au bz (aF aY (ao (ak 0) aq)) (dC (.int 1))) (ak 3)))))) (aM (ak 2))))
def qm:List D->aa->R D:=bK 4 Δ vq
def mj:ah :=
 (aD (aG 3 (au kD (cy (ao (dC (.int 0)) aq)) (au bz (au br (aF aY (ao (ak 0) aq)) (aF aY (ao (ak 1) aq))) (dC (.int 1))))) (aD (bQ (bg (ao (aF aY (ao (ak 0) aq)) aq)) (az 4) (bQ (bg (ao (aF aY (ao (ak 1) aq)) aq)) (az 5) (iZ (au ck (au br (au aE (ak 3) (au br (ak 4) (ak 5))) (au aW (au aE (ak 0) (ak 4)) (au aE (ak 1) (ak 5)))) (ak 2)) (l5 (ak 3) (au br (ak 4) (ak 5)))))) (aM (ak 3))))
def lQ:List D->aa->R D:=bK 6 Δ mj
def uh:List D->aa->R D:=bK 6 ξ mj
def pI:ah :=
 (aD (aG 2 (cy (ao (cy aq) aq))) (aD (bQ (bg (ao (ak 0) aq)) (az 3) (aD (aG 4 (ff aq)) (aD (bQ (dj (ak 2)) (az 5) (eL (jg (ak 4) (aS (bg (ao (ak 1) aq)) [η,ζ 5] (az 0) aJ (au fu (ak 1) (cy (ao (ak 0) aq))))))) (aG 2 (ak 4))))) (aM (aS (dj (ak 2)) [η] (az 0) aJ (au fu (ak 0) (cy (ao (dC (.int 1)) aq)))))))
def oz:List D->aa->R D:=bK 6 Δ pI
def vt:ah :=
 (aD (aG 1 (aC 1 gB (ao (ak 0) aq))) (aD (aG 2 (aC 1 kO (ao (ak 0) aq))) (aD (bU (aQ (au cB (ak 2) (dC (.int 1)))) (aM (cy (ao (dC (.int 0)) (ao (dC (.int 1)) aq)))) b8) (aD (aG 3 (ff aq)) (aD (bQ (j9 (ao (dC (.int 1)) (ao (au br (au gi (ak 2) (dC (.int 2))) (dC (.int 1))) aq))) (az 4) (bQ (dj (aC 2 oz (ao (ak 4) (ao (ak 1) aq)))) (az 5) (eL (jg (ak 3) (aS (dj (aC 2 oz (ao (au bz (ak 2) (ak 4)) (ao (ak 1) aq)))) [η,ζ 5,ζ 1] (az 0) aJ (aC 3 lQ (ao (ak 1) (ao (ak 0) (ao (ak 2) aq))))))))) (aD (aG 6 (dC (.int 0))) (aD (gP (aQ (au inD (au fu (aC 3 fU (ao (ak 6) (ao (ak 1) (ao (ak 2) aq)))) (cy (ao (dC (.int 1)) aq))) (ak 3))) (aG 6 (au br (ak 6) (dC (.int 1)))) 60) (aM (au fu (aC 3 fU (ao (ak 6) (ao (ak 1) (ao (ak 2) aq)))) (cy (ao (dC (.int 1)) aq)))))))))))
def uv:List D->aa->R D:=bK 7 Δ vt
def vn:ah :=
 (aD (aG 4 (aC 1 gB (ao (ak 0) aq))) (aD (aG 5 (au bz (aF aY (ao (ak 1) aq)) (dC (.int 1)))) (aD (aG 6 (aC 3 uh (ao (aC 3 fU (ao (ak 2) (ao (ak 4) (ao (ak 5) aq)))) (ao (aC 3 fU (ao (ak 3) (ao (ak 4) (ao (ak 5) aq)))) (ao (ak 4) aq))))) (aD (bQ (uS (ao (au bz (aF aY (ao (ak 6) aq)) (dC (.int 1))) (ao (au bz (ak 5) (dC (.int 1))) (ao (au bz (dC (.int 0)) (dC (.int 1))) aq)))) (az 7) (aD (aG 8 (au aE (ak 6) (ak 7))) (bQ (bg (ao (au br (ak 5) (dC (.int 1))) aq)) (az 9) (aD (aG 10 (au br (au bz (ak 7) (ak 5)) (ak 9))) (iZ (au ck (au bz (au aE (ak 6) (ak 10)) (au aW (ak 8) (au aE (ak 1) (ak 9)))) (ak 4)) (l5 (ak 6) (ak 10))))))) (aM (aC 2 qm (ao (gD (ak 6) gE (gw (ak 5))) (ao (ak 4) aq))))))))
def ur:List D->aa->R D:=bK 11 Δ vn
def vg:ah :=
 (aD (aG 4 (aC 1 gB (ao (ak 0) aq))) (aD (aG 5 (aC 1 kO (ao (ak 0) aq))) (aD (aG 6 (cy (ao (aC 3 fU (ao (ak 1) (ao (ak 4) (ao (ak 5) aq)))) (ao (aC 3 fU (ao (ak 2) (ao (ak 4) (ao (ak 5) aq)))) aq)))) (aM (aC 2 qm (ao (aS (bg (ao (ak 5) aq)) [η,ζ 4,ζ 3,ζ 6] (az 0) aJ (au ck (au br (au aE (au aE (ak 3) (dC (.int 0))) (ak 0)) (au aW (ak 2) (au aE (au aE (ak 3) (dC (.int 1))) (ak 0)))) (ak 1))) (ao (ak 4) aq)))))))
def oq:List D->aa->R D:=bK 7 Δ vg
def qU:ah :=
 (aD (aG 1 (aC 1 uv (ao (ak 0) aq))) (aM (aS (bg (ao (ak 0) aq)) [η,ζ 0,ζ 1] (az 0) aJ (aS (bg (ao (ak 1) aq)) [η,ζ 1,ζ 2,ζ 0] (az 0) aJ (aC 4 ur (ao (ak 1) (ao (ak 2) (ao (ak 3) (ao (ak 0) aq)))))))))
def uq:List D->aa->R D:=bK 2 Δ qU
def vp:ah :=
 (aD (aG 2 (yq (ao (ak 1) aq))) (aM (aF cW (ao (aS (bg (ao (ak 1) aq)) [η,ζ 2,ζ 0] (az 0) aJ (kc (ak 1) (aC 2 cN (ao (ak 2) (ao (aF aY (ao (ak 1) aq)) aq))))) aq))))
def fV:List D->aa->R D:=bK 3 Δ vp
def vA:ah :=
 (aD (bU (iF (aQ (au cB (ak 1) (dC (.int 4)))) (aQ (au cB (aC 2 cN (ao (ak 0) (ao (dC (.int 2)) aq))) (dC (.int 0))))) (aG 2 (aS (bg (ao (ak 1) aq)) [η,ζ 1] (az 0) aJ (aS (bg (ao (ak 1) aq)) [η,ζ 0] (az 0) aJ (au nK (ak 1) (ak 0))))) (aD (aG 3 (au br (dC (.int 1)) (aC 2 cN (ao (ak 0) (ao (aF um (ao (dC (.int 1)) (ao (au bz (ak 1) (dC (.int 1))) aq))) aq))))) (aD (aG 2 (aS (bg (ao (ak 1) aq)) [η,ζ 1,ζ 3] (az 0) aJ (aS (bg (ao (ak 1) aq)) [η,ζ 1,ζ 2,ζ 0] (az 0) aJ (au ck (au br (au aW (ak 2) (ak 3)) (ak 0)) (ak 1))))) (bU (aQ (au iA (qG (ao (aS (dj (ak 2)) [η] (az 0) aJ (au aE (ak 0) (dC (.int 0)))) aq)) (qH (ao (ak 1) aq)))) (aG 2 (aS (bg (ao (ak 1) aq)) [η,ζ 1] (az 0) aJ (aS (bg (ao (ak 1) aq)) [η,ζ 1,ζ 0] (az 0) aJ (au ck (au br (ak 2) (ak 0)) (ak 1))))) b8)))) (aD (aG 4 (aC 2 fV (ao (ak 0) (ao (ak 1) aq)))) (aD (aG 5 (aC 2 fV (ao (ak 0) (ao (ak 1) aq)))) (aD (aG 6 (aC 2 fV (ao (ak 0) (ao (ak 1) aq)))) (aM (aF cW (ao (aS (cL (ak 4)) [η,ζ 5,ζ 6,ζ 2] (az 0) aJ (aF cW (ao (aS (cL (ak 2)) [η,ζ 1,ζ 3,ζ 0] (az 0) aJ (au aE (ak 1) (au aE (au aE (ak 2) (ak 3)) (ak 0)))) aq))) aq)))))))
def qo:List D->aa->R D:=bK 7 Δ vA
def vj:ah :=
 (aD (aG 1 (ff (ao (cy (fG [0,1,2,3,4,5])) (ao (cy (fG [1,0,3,2,5,4])) (ao (cy (fG [2,4,0,5,1,3])) (ao (cy (fG [3,5,1,4,0,2])) (ao (cy (fG [4,2,5,0,3,1])) aq))))))) (aD (eL (gx (ak 1) (cy (fG [5,3,4,1,2,0])))) (aD (aG 2 (aC 2 fV (ao (ak 0) (ao (dC (.int 6)) aq)))) (aM (aF cW (ao (aS (cL (ak 2)) [η,ζ 1] (az 0) aJ (aF cW (ao (au aE (ak 1) (ak 0)) aq))) aq))))))
def lR:List D->aa->R D:=bK 3 Δ vj
def vh:ah :=
 (aD (bU (iF (aQ (au cB (ak 1) (dC (.int 6)))) (aQ (au cB (aC 2 cN (ao (ak 0) (ao (dC (.int 2)) aq))) (dC (.int 0))))) (aM (aC 1 lR (ao (ak 0) aq))) b8) (aM (aC 2 qo (ao (ak 0) (ao (ak 1) aq)))))
def ou:List D->aa->R D:=bK 2 Δ vh
def qW:ah :=
 (aD (aG 1 (aC 1 uq (ao (ak 0) aq))) (aD (aG 2 (ff aq)) (aD (bQ (j9 (ao (dC (.int 1)) (ao (ak 0) aq))) (az 3) (aD (aG 4 (ff aq)) (aD (bQ (bg (ao (ak 0) aq)) (az 5) (eL (gx (ak 4) (aF cW (ao (aS (bg (ao (ak 0) aq)) [η,ζ 0,ζ 5,ζ 1,ζ 3] (az 0) aJ (aC 4 oq (ao (ak 1) (ao (au aE (au aE (ak 3) (ak 4)) (ak 2)) (ao (ak 0) (ao (dC (.int 1)) aq)))))) aq))))) (eL (gx (ak 2) (aF cW (ao (ak 4) aq))))))) (aM (ak 2)))))
def xE:List D->aa->R D:=bK 6 ξ qW
def pH:ah :=
 (aD (aG 1 (au br (dC (.int 2)) (aC 2 cN (ao (ak 0) (ao (dC (.int 6)) aq))))) (aD (bU (aQ (au cB (ak 1) (dC (.int 6)))) (aM (cP (ao (ak 1) (ao (gD (cy (ao (aC 2 ou (ao (ak 0) (ao (ak 1) aq))) aq)) gE (gw (aC 2 cN (ao (ak 0) (ao (dC (.int 2)) aq))))) aq)))) b8) (aD (aG 2 (aC 1 xE (ao (ak 1) aq))) (aD (aG 3 (ff aq)) (aD (bQ (bg (ao (aC 2 cN (ao (ak 0) (ao (ak 1) aq))) aq)) (az 4) (eL (gx (ak 3) (kc (ak 2) (aC 2 cN (ao (ak 0) (ao (aF aY (ao (ak 2) aq)) aq))))))) (aM (cP (ao (ak 1) (ao (ak 3) aq)))))))))
def qk:List D->aa->R D:=l7 5 pH
def vB:ah :=
 (aD (bQ (bg (ao (dC (.int 3)) aq)) (az 1) (aD (aG 2 (aC 1 ql (ao (aC 2 qp (ao (ak 0) (ao (ak 1) aq))) aq))) (aD (iZ (aC 1 qk (ao (ak 2) aq)) (eG 2 (cu (az 3) (cu (az 4) eO)))) (bU (aQ (au jE (ak 3) (dC (.int 7)))) (aD (aG 5 (aC 2 kN (ao (ak 3) (ao (ak 4) aq)))) (aD (bU (aQ (au iA (aC 1 uy (ao (ak 5) aq)) (cP (ao (dC (.str "even")) (ao (aC 2 xC (ao (ak 3) (ao (ak 4) aq))) aq))))) (aM (dC (.bl Δ))) b8) (aD (aG 6 (aF jv (ao (aS (cL (ak 5)) [η] (az 0) aJ (aF aY (ao (ak 0) aq))) aq))) (aD (bU (iF (aQ (au cB (aF aY (ao (ak 4) aq)) (au bz (ak 3) (dC (.int 1))))) (aQ (au fD (ak 6) (au aW (au aW (ak 3) (ak 3)) (au bz (au aW (ak 3) (ak 3)) (dC (.int 1))))))) (aM (dC (.bl Δ))) b8) (aD (bQ (bg (ao (aF aY (ao (ak 4) aq)) aq)) (az 7) (aD (aG 8 (aF jv (ao (aS (cL (aC 2 kN (ao (ak 3) (ao (gD (ak 4) gE (gw (ak 7))) aq)))) [η] (az 0) aJ (aF aY (ao (ak 0) aq))) aq))) (aD (aG 9 (aF jv (ao (aS (cL (aC 2 kN (ao (ak 3) (ao (gD (ak 4) gE (gw (au br (ak 7) (dC (.int 1))))) aq)))) [η] (az 0) aJ (aF aY (ao (ak 0) aq))) aq))) (bU (aQ (au fD (au bz (ak 9) (ak 8)) (au aW (au aW (ak 3) (ak 3)) (au bz (ak 3) (dC (.int 1)))))) (aM (dC (.bl Δ))) b8)))) (aD (aG 10 (aC 2 cN (ao (ak 2) (ao (ak 3) aq)))) (aD (bQ (dj (ak 4)) (az 11) (aD (aG 12 (aS (bg (ao (ak 3) aq)) [η,ζ 3,ζ 10,ζ 11] (az 0) aJ (au br (au aW (ak 0) (ak 1)) (uW (au aE (ak 3) (ak 0)) (ak 2))))) (bQ (bg (ao (ak 3) aq)) (az 13) (bQ (bg (ao (ak 13) aq)) (az 14) (bU (d8 (aQ (aC 3 jX (ao (ak 5) (ao (au aE (ak 12) (ak 13)) (ao (au aE (ak 12) (ak 14)) aq)))))) (aM (dC (.bl Δ))) b8))))) (bQ (j9 (ao (dC (.int 1)) (ao (ak 3) aq))) (az 15) (bU (iE (d8 (aQ (aC 3 jX (ao (ak 5) (ao (au aW (ak 3) (ak 10)) (ao (au br (au aW (ak 3) (ak 10)) (ak 15)) aq)))))) (d8 (aQ (aC 3 jX (ao (ak 5) (ao (ak 10) (ao (au br (au aW (ak 3) (ak 15)) (ak 10)) aq))))))) (aM (dC (.bl Δ))) b8))))))))) b8)))) (aM (dC (.bl ξ))))
def xF:List D->aa->R D:=bK 16 Δ vB
set_option genInjectivity false in
set_option genSizeOfSpec false in
structure Tx (K:Ω) (mg:Str->Option Γ) where
 nj:Θ
 HB:ν
 Iz:Def K mg "is_whole" sV ["thing"] nj HB
 aeP:Ψ K Ξ "is_whole"=ζ (ζ (.ref nj))
 ni:Θ
 HA:ν
 yp:Def K mg "is_whole_within" sU ["thing","least","most"] ni HA
 aeO:Ψ K Ξ "is_whole_within"=ζ (ζ (.ref ni))
 nt:Θ
 HD:ν
 IB:Def K mg "is_place" sX ["thing","many"] nt HD
 aeR:Ψ K Ξ "is_place"=ζ (ζ (.ref nt))
 nG:Θ
 HN:ν
 IJ:Def K mg "agree_somewhere" tL ["one","other"] nG HN
 ae0:Ψ K Ξ "agree_somewhere"=ζ (ζ (.ref nG))
 mF:Θ
 G0:ν
 Ib:Def K mg "row_where" rZ ["many","one","are_tied"] mF G0
 aen:Ψ K Ξ "row_where"=ζ (ζ (.ref mF))
 mw:Θ
 GV:ν
 BO:Def K mg "web_where" rU ["many","are_tied"] mw GV
 aei:Ψ K Ξ "web_where"=ζ (ζ (.ref mw))
 mz:Θ
 GW:ν
 BP:Def K mg "ties" rV ["web"] mz GW
 aej:Ψ K Ξ "ties"=ζ (ζ (.ref mz))
 mC:Θ
 GX:ν
 yi:Def K mg "tied" rW ["web","one","other"] mC GX
 aek:Ψ K Ξ "tied"=ζ (ζ (.ref mC))
 mH:Θ
 G2:ν
 Ic:Def K mg "other_web" qb ["web"] mH G2
 NO:Ψ K Ξ "other_web"=ζ (ζ (.ref mH))
 nv:Θ
 HF:ν
 BV:Def K mg "holds_each_once" sZ ["thing","many"] nv HF
 aeT:Ψ K Ξ "holds_each_once"=ζ (ζ (.ref nv))
 nE:Θ
 HL:ν
 IG:Def K mg "column_of" tH ["rows","y"] nE HL
 aeY:Ψ K Ξ "column_of"=ζ (ζ (.ref nE))
 nk:Θ
 HC:ν
 IA:Def K mg "is_square" sW ["thing"] nk HC
 aeQ:Ψ K Ξ "is_square"=ζ (ζ (.ref nk))
 mD:Θ
 GY:ν
 yj:Def K mg "sign_in" rX ["square","cell"] mD GY
 ael:Ψ K Ξ "sign_in"=ζ (ζ (.ref mD))
 mO:Θ
 G6:ν
 Ih:Def K mg "lie_across" se ["one","other"] mO G6
 aer:Ψ K Ξ "lie_across"=ζ (ζ (.ref mO))
 nF:Θ
 HM:ν
 II:Def K mg "are_each_two_across" tK ["squares"] nF HM
 aeZ:Ψ K Ξ "are_each_two_across"=ζ (ζ (.ref nF))
 nu:Θ
 HE:ν
 IC:Def K mg "is_net" sY ["n","thing"] nu HE
 aeS:Ψ K Ξ "is_net"=ζ (ζ (.ref nu))
 mG:Θ
 G1:ν
 BQ:Def K mg "require_net" r8 ["n","thing"] mG G1
 aeo:Ψ K Ξ "require_net"=ζ (ζ (.ref mG))
 mL:Θ
 G5:ν
 Ig:Def K mg "lines_through" sd ["n","squares","cell"] mL G5
 aeq:Ψ K Ξ "lines_through"=ζ (ζ (.ref mL))
 mJ:Θ
 G3:ν
 ym:Def K mg "net_web" qc ["n","squares"] mJ G3
 NP:Ψ K Ξ "net_web"=ζ (ζ (.ref mJ))
 mK:Θ
 G4:ν
 Ie:Def K mg "net_numbers" r9 ["n","squares"] mK G4
 aep:Ψ K Ξ "net_numbers"=ζ (ζ (.ref mK))
 nC:Θ
 HK:ν
 BW:Def K mg "common" tG ["web","one","other"] nC HK
 aeX:Ψ K Ξ "common"=ζ (ζ (.ref nC))
 ny:Θ
 HG:ν
 ID:Def K mg "first_unlike_place" tw ["web"] ny HG
 aeU:Ψ K Ξ "first_unlike_place"=ζ (ζ (.ref ny))
 mE:Θ
 GZ:ν
 yk:Def K mg "shared_by_all" rY ["web","pairs"] mE GZ
 aem:Ψ K Ξ "shared_by_all"=ζ (ζ (.ref mE))
 nA:Θ
 HH:ν
 IE:Def K mg "first_unlike_pair" tE ["web","pairs"] nA HH
 aeV:Ψ K Ξ "first_unlike_pair"=ζ (ζ (.ref nA))
 nB:Θ
 HJ:ν
 IF:Def K mg "evenness" tF ["web"] nB HJ
 aeW:Ψ K Ξ "evenness"=ζ (ζ (.ref nB))
 nh:Θ
 Hy:ν
 Iw:Def K mg "_law_cell_at" sR ["script","k"] nh Hy
 aeM:Ψ K Ξ "_law_cell_at"=ζ (ζ (.ref nh))
 mY:Θ
 Hq:ν
 Ip:Def K mg "_law_pot" sI ["cell"] mY Hq
 aeE:Ψ K Ξ "_law_pot"=ζ (ζ (.ref mY))
 mP:Θ
 G7:ν
 j8:Def K mg "_law_take" sf ["pot","far"] mP G7
 aes:Ψ K Ξ "_law_take"=ζ (ζ (.ref mP))
 mX:Θ
 Ho:ν
 uQ:Def K mg "_law_prime" sH ["q"] mX Ho
 aeD:Ψ K Ξ "_law_prime"=ζ (ζ (.ref mX))
 nc:Θ
 Hw:ν
 BU:Def K mg "_law_degree" sP ["q"] nc Hw
 aeK:Ψ K Ξ "_law_degree"=ζ (ζ (.ref nc))
 mU:Θ
 Hi:ν
 pq:Def K mg "_law_row" sD ["number","p","many"] mU Hi
 aey:Ψ K Ξ "_law_row"=ζ (ζ (.ref mU))
 m5:Θ
 Hs:ν
 BR:Def K mg "_law_number" sL ["row","p"] m5 Hs
 aeG:Ψ K Ξ "_law_number"=ζ (ζ (.ref m5))
 k7:Θ
 AX:ν
 yo:Def K mg "_law_sums_product" sj ["one","other","p"] k7 AX
 aet:Ψ K Ξ "_law_sums_product"=ζ (ζ (.ref k7))
 m7:Θ
 Ht:ν
 BS:Def K mg "_law_heads" sM ["many","p"] m7 Ht
 aeH:Ψ K Ξ "_law_heads"=ζ (ζ (.ref m7))
 m8:Θ
 Hu:ν
 Iq:Def K mg "_law_form" sN ["q"] m8 Hu
 aeI:Ψ K Ξ "_law_form"=ζ (ζ (.ref m8))
 mW:Θ
 Hl:ν
 Io:Def K mg "_law_product" sG ["q","form","one","other"] mW Hl
 aeA:Ψ K Ξ "_law_product"=ζ (ζ (.ref mW))
 mQ:Θ
 G8:ν
 Ii:Def K mg "_law_sum" su ["q","one","other","sign"] mQ G8
 aeu:Ψ K Ξ "_law_sum"=ζ (ζ (.ref mQ))
 mV:Θ
 Hj:ν
 Im:Def K mg "_law_products_of" sE ["q"] mV Hj
 aez:Ψ K Ξ "_law_products_of"=ζ (ζ (.ref mV))
 mZ:Θ
 Hr:ν
 uR:Def K mg "_law_order" sJ ["pot","many"] mZ Hr
 aeF:Ψ K Ξ "_law_order"=ζ (ζ (.ref mZ))
 ng:Θ
 Hx:ν
 Iu:Def K mg "_law_cycled" sQ ["pot","n"] ng Hx
 aeL:Ψ K Ξ "_law_cycled"=ζ (ζ (.ref ng))
 mT:Θ
 Hh:ν
 Il:Def K mg "_law_six" sC ["pot"] mT Hh
 aex:Ψ K Ξ "_law_six"=ζ (ζ (.ref mT))
 mR:Θ
 G9:ν
 Ij:Def K mg "_law_square" sy ["pot","n"] mR G9
 aev:Ψ K Ξ "_law_square"=ζ (ζ (.ref mR))
 m9:Θ
 Hv:ν
 Ir:Def K mg "_law_field_squares" sO ["q"] m9 Hv
 aeJ:Ψ K Ξ "_law_field_squares"=ζ (ζ (.ref m9))
 mS:Θ
 Hg:ν
 Ik:Def K mg "_law_some_net" sA ["pot"] mS Hg
 aew:Ψ K Ξ "_law_some_net"=ζ (ζ (.ref mS))
 k8:Θ
 Hz:ν
 Qo:Def K mg "law" sS ["script"] k8 Hz
 aeN:Ψ K Ξ "law"=ζ (ζ (.ref k8))
 ue:mg "all"=η
 NL:mg "any"=η
 NK:mg "bool"=η
 Al:mg "enumerate"=η
 NJ:mg "int"=η
 ud:mg "isinstance"=η
 cV:mg "len"=η
 Ak:mg "list"=η
 NI:mg "max"=η
 cU:mg "range"=η
 xu:mg "set"=η
 NH:mg "sorted"=η
 Aj:mg "sum"=η
 jb:mg "tuple"=η
 NG:mg "zip"=η
 nS:Θ
 nQ:Θ
 pW:PySem.W.tabIn K "net_web"=ζ (nS,nQ)
 rM:PySem.W.codeHdIn K nS nQ=ξ
 nR:Θ
 nP:Θ
 pV:PySem.W.tabIn K "other_web"=ζ (nR,nP)
 rL:PySem.W.codeHdIn K nR nP=ξ
 pX:we K=ξ
 vZ:Tok
 Pu:mg "LEAST_IN_NET"=ζ (.int 2 vZ)
 vY:Tok
 GP:mg "MOST_SIGNS"=ζ (.int 7 vY)
section
variable {P:υ}{w:ψ}{K:Ω}{mg:Str->Option Γ}{base:χ}
theorem XI:cj ["thing"] ["thing"] (aP sV):=⟨rfl,rfl,rfl,by decide +kernel,rfl,by decide +kernel,by decide +kernel⟩
theorem ab2(T:Tx K mg):bH P w K mg base bB 1 T.nj T.HB ["thing"] (bM K 1 uw) :=
 cO (k:=0) T.Iz.fn XI rfl rfl λcdv A outer s H E hr=>by
  show bT _ _ pJ;unfold pJ;exact(aT (bG (tX (cg yw T.ud ar2 (ay (av 0) (ay (wO rfl T.NJ boot_int) aB))) (tT (aa1 (cg yw T.ud ar2 (ay (av 0) (ay (wO rfl T.NK boot_bool) aB))))))))
theorem XH:cj ["thing","least","most"] ["thing","least","most"] (aP sU):=⟨rfl,rfl,rfl,by decide +kernel,rfl,by decide +kernel,by decide +kernel⟩
theorem DK(T:Tx K mg):bH P w K mg base bB 2 T.ni T.HA ["thing","least","most"] (bM K 3 gY) :=
 cO (k:=1) T.yp.fn XH rfl rfl λcdv A outer s H E hr=>by
  show bT _ _ mq;unfold mq;exact(aT (bG (tX (bu T.Iz (ab2 T) (hr.mono (by decide)) (ay (av 0) aB)) (tT (aba z9 z9 (av 1) (av 0) (av 2))))))
theorem XJ:cj ["thing","many"] ["thing","many"] (aP sX):=⟨rfl,rfl,rfl,by decide +kernel,rfl,by decide +kernel,by decide +kernel⟩
theorem ab4(T:Tx K mg):bH P w K mg base bB 3 T.nt T.HD ["thing","many"] (bM K 2 Ao) :=
 cO (k:=2) T.IB.fn XJ rfl rfl λcdv A outer s H E hr=>by
  show bT _ _ vD;unfold vD;exact(aT (bG (bu T.yp (DK T) (hr.mono (by decide)) (ay (av 0) (ay aX (ay (aO eV (av 1) aX) aB))))))
theorem ab1(T:Tx K mg):rD P w K mg base 1 yS ["web"] 2 (bM K (2+1) (oF oG)):=by
 with_unfolding_all refine Od (k:=0) (ps:=["one","other"]) (ns:=["web"]) (d:=oG) (vN.of rfl rfl rfl (by decide +kernel)) (λq cl pm cdv ct us hl=>match us,hl with|[_,_],_=>rfl) λq f cd cl A outer s H hr=>?_
 show bh _ _ oG;unfold oG;exact(tW (acs (uC hr)) (av 1) (cD cE (av 2) (av 0)))
theorem XS:cj ["one","other"] ["one","other"] (aP tL):=⟨rfl,rfl,rfl,by decide +kernel,rfl,by decide +kernel,by decide +kernel⟩
theorem ace(T:Tx K mg):bH P w K mg base bB 1 T.nG T.HN ["one","other"] (bM K 2 Aq) :=
 cO (k:=0) T.IJ.fn XS rfl rfl λcdv A outer s H E hr=>by
  show bT _ _ rm;unfold rm;exact(aT (bG (cg alx T.NL boot_any (ay (dc (N':=["x","y"]) (pick:=[η,η]) (cC.of rfl rfl) (ag2 (ay (av 0) (ay (av 1) aB)) T.NG) (λ_ _ _ _ _ _=>(uJ (n:=2) (jH (bx (i:=0) (hN:=(by decide +kernel:τ (["x","y"]:List Str)))) (jH (bx (i:=1) (hN:=(by decide +kernel:τ (["x","y"]:List Str)))) uI)))) (λ_ _ _ _ _ _=>dz) (λ_ _ _ _ _ _=>(tW ja (av 0) (av 1)))) aB))))
theorem ab0(T:Tx K mg):rD P w K mg base 2 Co ["lines"] 2 (bM K (2+1) (oF qz)):=by
 with_unfolding_all refine Od (k:=1) (ps:=["one","other"]) (ns:=["lines"]) (d:=qz) (vN.of rfl rfl rfl (by decide +kernel)) (λq cl pm cdv ct us hl=>match us,hl with|[_,_],_=>rfl) λq f cd cl A outer s H hr=>?_
 show bh _ _ qz;unfold qz;exact(bu T.IJ (ace T) (hr.mono (by decide)) (ay (cD cE (av 2) (av 0)) (ay (cD cE (av 2) (av 1)) aB)))
theorem abZ(T:Tx K mg) {A:acr}(hr:dg 2 A):∀t∈lams,∃k,rD P w K mg base k t.1 t.2.1 2 (bM K (2+t.2.1.length) t.2.2)/\dg k A:=by
 intro t ht;unfold lams at ht;simp only[apu,apI,or_false]at ht
 rcases ht with rfl|rfl
 ·exact⟨_,ab1 T,hr.mono (by decide)⟩
 ·exact⟨_,ab0 T,hr.mono (by decide)⟩
theorem Xz:cj ["many","one","are_tied"] ["many","one","are_tied"] (aP rZ):=⟨rfl,rfl,rfl,by decide +kernel,rfl,by decide +kernel,by decide +kernel⟩
theorem abH(T:Tx K mg):bH P w K mg base bB 3 T.mF T.G0 ["many","one","are_tied"] (bM K 3 iO) :=
 cO (k:=2) T.Ib.fn Xz rfl rfl λcdv A outer s H E hr=>by
  show bT _ _ vd;unfold vd;exact(aT (bG (kI k6 T.jb aqs (ay (dc (N':=["other","one","are_tied"]) (pick:=[η,ζ 1,ζ 2]) (cC.of rfl rfl) (dF (ay (av 0) aB) T.cU) (λ_ _ _ _ _ _=>(bx (i:=0) (hN:=(by decide +kernel:τ (["other","one","are_tied"]:List Str))))) (λ_ _ _ _ _ _=>(Dz (PW.pt (zU (eN t6 (av 0) (av 1)) (zV (jQ (abb 2 (abZ T (hr.mono (by decide))) (ay (av 1) (ay (av 0) aB))))))))) (λ_ _ _ _ _ _=>(av 0))) aB))))
theorem Xv:cj ["many","are_tied"] ["many","are_tied"] (aP rU):=⟨rfl,rfl,rfl,by decide +kernel,rfl,by decide +kernel,by decide +kernel⟩
theorem MO(T:Tx K mg):bH P w K mg base bB 4 T.mw T.GV ["many","are_tied"] (bM K 2 om) :=
 cO (k:=3) T.BO.fn Xv rfl rfl λcdv A outer s H E hr=>by
  show bT _ _ uZ;unfold uZ;exact(aT (bG (kI k6 T.jb aqs (ay (dc (N':=["one","many","are_tied"]) (pick:=[η,ζ 0,ζ 1]) (cC.of rfl rfl) (dF (ay (av 0) aB) T.cU) (λ_ _ _ _ _ _=>(bx (i:=0) (hN:=(by decide +kernel:τ (["one","many","are_tied"]:List Str))))) (λ_ _ _ _ _ _=>dz) (λ_ _ _ _ _ _=>(bu T.Ib (abH T) (hr.mono (by decide)) (ay (av 1) (ay (av 0) (ay (av 2) aB)))))) aB))))
theorem zw:cj ["web","told","one","row"] ["web"] (aP rV):=⟨rfl,rfl,rfl,by decide +kernel,rfl,by decide +kernel,by decide +kernel⟩
theorem MP(T:Tx K mg):bH P w K mg base bB 1 T.mz T.GW ["web"] (bM K 1 lP) :=
 cO (k:=0) T.BP.fn zw rfl rfl λcdv A outer s H E hr=>by
  show bT _ _ u5;unfold u5;refine aV (bE (i:=1) (kH aB) (hN:=zw.nd)) ?_;refine aV (eB (OD (ay (av 0) aB) T.Al) (uJ (n:=2) (jH (bx (i:=2) (hN:=zw.nd)) (jH (bx (i:=3) (hN:=zw.nd)) uI))) (aT (kC (DB (av 1) (dc (N':=["other","one"]) (pick:=[η,ζ 2]) (cC.of rfl rfl) (j3 (av 3)) (λ_ _ _ _ _ _=>(bx (i:=0) (hN:=(by decide +kernel:τ (["other","one"]:List Str))))) (λ_ _ _ _ _ _=>(Dz (eN DL (av 1) (av 0)))) (λ_ _ _ _ _ _=>(i8 (ay (av 1) (ay (av 0) aB))))))))) ?_
  exact(aT (bG (av 1)))
theorem Xw:cj ["web","one","other"] ["web","one","other"] (aP rW):=⟨rfl,rfl,rfl,by decide +kernel,rfl,by decide +kernel,by decide +kernel⟩
theorem DG(T:Tx K mg):bH P w K mg base bB 4 T.mC T.GX ["web","one","other"] (bM K 3 jX) :=
 cO (k:=3) T.yi.fn Xw rfl rfl λcdv A outer s H E hr=>by
  show bT _ _ u6;unfold u6;exact(aT (bG (tX (bu T.IB (ab4 T) (hr.mono (by decide)) (ay (av 1) (ay (cg c7 T.cV apJ (ay (av 0) aB)) aB))) (tT (tW (M5 (uC hr)) (av 2) (cD cE (av 0) (av 1)))))))
theorem XC:cj ["web"] ["web"] (aP qb):=⟨rfl,rfl,rfl,by decide +kernel,rfl,by decide +kernel,by decide +kernel⟩
theorem abI(T:Tx K mg):bH P w K mg base bB 5 T.mH T.G2 ["web"] (bM K 1 qj) :=
 PU (k:=4) T.Ic.fn T.NO XC rfl rfl λcdv A outer s H E hcd hr=>by
  show bT _ _ vf;unfold vf;exact(aT (bG (MG (kk:=0) T.BO (MO T) (hr.mono (by decide)) (cg c7 T.cV apJ (ay (av 0) aB)) (gk.of (by kernel_rfl)) rfl (λ_=>rfl) (y:="other_web") (by decide +kernel) T.pV T.pX (hcd _ _ T.pV) rfl T.rL)))
theorem XO:cj ["thing","many"] ["thing","many"] (aP sZ):=⟨rfl,rfl,rfl,by decide +kernel,rfl,by decide +kernel,by decide +kernel⟩
theorem MU(T:Tx K mg):bH P w K mg base bB 3 T.nv T.HF ["thing","many"] (bM K 2 gr) :=
 cO (k:=2) T.BV.fn XO rfl rfl λcdv A outer s H E hr=>by
  show bT _ _ vE;unfold vE;refine aV (fk (PW.pt (wU (jP (jQ (cg yw T.ud ar2 (ay (av 0) (ay (wO rfl T.jb aqs) aB))))) (zT (eN t6 (cg c7 T.cV apJ (ay (av 0) aB)) (av 1))))) (aT (bG jA)) fC) ?_;exact(aT (bG (tX (cg yx T.ue boot_all (ay (dc (N':=["sign","many"]) (pick:=[η,ζ 1]) (cC.of rfl rfl) (j3 (av 0)) (λ_ _ _ _ _ _=>(bx (i:=0) (hN:=(by decide +kernel:τ (["sign","many"]:List Str))))) (λ_ _ _ _ _ _=>dz) (λ_ _ _ _ _ _=>(bu T.yp (DK T) (hr.mono (by decide)) (ay (av 0) (ay aX (ay (aO eV (av 1) aX) aB)))))) aB)) (tT (tW ja (aa5 (ay (av 0) aB) T.cV T.xu) (av 1))))))
theorem XR:cj ["rows","y"] ["rows","y"] (aP tH):=⟨rfl,rfl,rfl,by decide +kernel,rfl,by decide +kernel,by decide +kernel⟩
theorem ab9(T:Tx K mg):bH P w K mg base bB 1 T.nE T.HL ["rows","y"] (bM K 2 kP) :=
 cO (k:=0) T.IG.fn XR rfl rfl λcdv A outer s H E hr=>by
  show bT _ _ vI;unfold vI;exact(aT (bG (kI k6 T.jb aqs (ay (dc (N':=["row","y"]) (pick:=[η,ζ 1]) (cC.of rfl rfl) (j3 (av 0)) (λ_ _ _ _ _ _=>(bx (i:=0) (hN:=(by decide +kernel:τ (["row","y"]:List Str))))) (λ_ _ _ _ _ _=>dz) (λ_ _ _ _ _ _=>(cD cE (av 0) (av 1)))) aB))))
theorem Mc:cj ["thing","many"] ["thing"] (aP sW):=⟨rfl,rfl,rfl,by decide +kernel,rfl,by decide +kernel,by decide +kernel⟩
theorem ab3(T:Tx K mg):bH P w K mg base bB 4 T.nk T.HC ["thing"] (bM K 1 qq) :=
 cO (k:=3) T.IA.fn Mc rfl rfl λcdv A outer s H E hr=>by
  show bT _ _ vC;unfold vC;refine aV (fk (PW.pt (wU (jP (jQ (cg yw T.ud ar2 (ay (av 0) (ay (wO rfl T.jb aqs) aB))))) (zT (jP (aa9 z9 z9 aX (cg c7 T.cV apJ (ay (av 0) aB)) (DA rfl T.GP)))))) (aT (bG jA)) fC) ?_;refine aV (bE (i:=1) (cg c7 T.cV apJ (ay (av 0) aB)) (hN:=Mc.nd)) ?_;refine aV (fk (jP (jQ (cg yx T.ue boot_all (ay (dc (N':=["row","many"]) (pick:=[η,ζ 1]) (cC.of rfl rfl) (j3 (av 0)) (λ_ _ _ _ _ _=>(bx (i:=0) (hN:=(by decide +kernel:τ (["row","many"]:List Str))))) (λ_ _ _ _ _ _=>dz) (λ_ _ _ _ _ _=>(bu T.BV (MU T) (hr.mono (by decide)) (ay (av 0) (ay (av 1) aB))))) aB)))) (aT (bG jA)) fC) ?_
  exact(aT (bG (cg yx T.ue boot_all (ay (dc (N':=["y","many","thing"]) (pick:=[η,ζ 1,ζ 0]) (cC.of rfl rfl) (dF (ay (av 1) aB) T.cU) (λ_ _ _ _ _ _=>(bx (i:=0) (hN:=(by decide +kernel:τ (["y","many","thing"]:List Str))))) (λ_ _ _ _ _ _=>dz) (λ_ _ _ _ _ _=>(bu T.BV (MU T) (hr.mono (by decide)) (ay (bu T.IG (ab9 T) (hr.mono (by decide)) (ay (av 2) (ay (av 0) aB))) (ay (av 1) aB))))) aB))))
theorem Xx:cj ["square","cell"] ["square","cell"] (aP rX):=⟨rfl,rfl,rfl,by decide +kernel,rfl,by decide +kernel,by decide +kernel⟩
theorem DH(T:Tx K mg):bH P w K mg base bB 1 T.mD T.GY ["square","cell"] (bM K 2 gX) :=
 cO (k:=0) T.yj.fn Xx rfl rfl λcdv A outer s H E hr=>by
  show bT _ _ qO;unfold qO;exact(aT (bG (cD cE (cD cE (av 0) (aO t7 (av 1) (cg c7 T.cV apJ (ay (av 0) aB)))) (aO iN (av 1) (cg c7 T.cV apJ (ay (av 0) aB))))))
theorem L7:cj ["one","other","cells"] ["one","other"] (aP se):=⟨rfl,rfl,rfl,by decide +kernel,rfl,by decide +kernel,by decide +kernel⟩
theorem abL(T:Tx K mg):bH P w K mg base bB 2 T.mO T.G6 ["one","other"] (bM K 2 uo) :=
 cO (k:=1) T.Ih.fn L7 rfl rfl λcdv A outer s H E hr=>by
  have hu:=Nat.lt_of_succ_lt (ahh hr);show bT _ _ qS;unfold qS;refine aV (bE (i:=2) (aO eF (cg c7 T.cV apJ (ay (av 0) aB)) (cg c7 T.cV apJ (ay (av 0) aB))) (hN:=L7.nd)) ?_;exact(aT (bG (tW ja (aa4 (uC hr) (ay (dc (N':=["cell","one","other"]) (pick:=[η,ζ 0,ζ 1]) (cC.of rfl rfl) (dF (ay (av 2) aB) T.cU) (λ_ _ _ _ _ _=>(bx (i:=0) (hN:=(by decide +kernel:τ (["cell","one","other"]:List Str))))) (λ_ _ _ _ _ _=>dz) (λ_ _ _ _ _ _=>(i8 (ay (bu T.yj (DH T) (hr.mono (by decide)) (ay (av 1) (ay (av 0) aB))) (ay (bu T.yj (DH T) (hr.mono (by decide)) (ay (av 2) (ay (av 0) aB))) aB))))) aB) T.cV T.xu) (av 2))))
theorem Di:cj ["squares","number","square"] ["squares"] (aP tK):=⟨rfl,rfl,rfl,by decide +kernel,rfl,by decide +kernel,by decide +kernel⟩
theorem acd(T:Tx K mg):bH P w K mg base bB 3 T.nF T.HM ["squares"] (bM K 1 xG) :=
 cO (k:=2) T.II.fn Di rfl rfl λcdv A outer s H E hr=>by
  show bT _ _ rj;unfold rj;refine aV (eB (ag4 (ay (av 0) aB) T.Al) (uJ (n:=2) (jH (bx (i:=1) (hN:=Di.nd)) (jH (bx (i:=2) (hN:=Di.nd)) uI))) (aT (fk (jP (jQ (cg yx T.ue boot_all (ay (dc (N':=["other","square"]) (pick:=[η,ζ 2]) (cC.of rfl rfl) (j4 (wR (av 0) wJ (wI (av 1)))) (λ_ _ _ _ _ _=>(bx (i:=0) (hN:=(by decide +kernel:τ (["other","square"]:List Str))))) (λ_ _ _ _ _ _=>dz) (λ_ _ _ _ _ _=>(bu T.Ih (abL T) (hr.mono (by decide)) (ay (av 1) (ay (av 0) aB))))) aB)))) (aT (bG jA)) fC))) ?_
  exact(aT (bG jA))
theorem XM:cj ["n","thing"] ["n","thing"] (aP sY):=⟨rfl,rfl,rfl,by decide +kernel,rfl,by decide +kernel,by decide +kernel⟩
theorem ab5(T:Tx K mg):bH P w K mg base bB 5 T.nu T.HE ["n","thing"] (bM K 2 D8) :=
 cO (k:=4) T.IC.fn XM rfl rfl λcdv A outer s H E hr=>by
  show bT _ _ qY;unfold qY;refine aV (fk (PW.pt (wU (jP (jQ (bu T.yp (DK T) (hr.mono (by decide)) (ay (av 0) (ay (DA rfl T.Pu) (ay (DA rfl T.GP) aB)))))) (wU (jP (jQ (cg yw T.ud ar2 (ay (av 1) (ay (wO rfl T.Ak boot_list) aB))))) (zT (eN M6 (cg c7 T.cV apJ (ay (av 1) aB)) (aO eV (av 0) aX)))))) (aT (bG jA)) fC) ?_
  exact(aT (bG (tX (cg yx T.ue boot_all (ay (dc (N':=["square","n"]) (pick:=[η,ζ 0]) (cC.of rfl rfl) (j4 (av 1)) (λ_ _ _ _ _ _=>(bx (i:=0) (hN:=(by decide +kernel:τ (["square","n"]:List Str))))) (λ_ _ _ _ _ _=>dz) (λ_ _ _ _ _ _=>(tX (bu T.IA (ab3 T) (hr.mono (by decide)) (ay (av 0) aB)) (tT (tW ja (cg c7 T.cV apJ (ay (av 0) aB)) (av 1)))))) aB)) (tT (bu T.II (acd T) (hr.mono (by decide)) (ay (av 1) aB))))))
theorem XA:cj ["n","thing"] ["n","thing"] (aP r8):=⟨rfl,rfl,rfl,by decide +kernel,rfl,by decide +kernel,by decide +kernel⟩
theorem MQ(T:Tx K mg):bH P w K mg base bB 6 T.mG T.G1 ["n","thing"] (bM K 2 kM) :=
 cO (k:=5) T.BQ.fn XA rfl rfl λcdv A outer s H E hr=>by
  show bT _ _ ve;unfold ve;exact(aT (fk (jP (jQ (bu T.IC (ab5 T) (hr.mono (by decide)) (ay (av 0) (ay (av 1) aB))))) (aT Xs) fC))
theorem XD:cj ["n","squares","cell"] ["n","squares","cell"] (aP sd):=⟨rfl,rfl,rfl,by decide +kernel,rfl,by decide +kernel,by decide +kernel⟩
theorem abK(T:Tx K mg):bH P w K mg base bB 2 T.mL T.G5 ["n","squares","cell"] (bM K 3 xD) :=
 cO (k:=1) T.Ig.fn XD rfl rfl λcdv A outer s H E hr=>by
  show bT _ _ qR;unfold qR;exact(aT (bG (aO xg (gg (ay (aO t7 (av 2) (av 0)) (ay (aO iN (av 2) (av 0)) aB))) (dc (N':=["square","cell"]) (pick:=[η,ζ 2]) (cC.of rfl rfl) (j4 (av 1)) (λ_ _ _ _ _ _=>(bx (i:=0) (hN:=(by decide +kernel:τ (["square","cell"]:List Str))))) (λ_ _ _ _ _ _=>dz) (λ_ _ _ _ _ _=>(bu T.yj (DH T) (hr.mono (by decide)) (ay (av 0) (ay (av 1) aB))))))))
theorem L6:cj ["n","squares","lines"] ["n","squares"] (aP qc):=⟨rfl,rfl,rfl,by decide +kernel,rfl,by decide +kernel,by decide +kernel⟩
theorem DJ(T:Tx K mg):bH P w K mg base bB 7 T.mJ T.G3 ["n","squares"] (bM K 2 kN) :=
 PU (k:=6) T.ym.fn T.NP L6 rfl rfl λcdv A outer s H E hcd hr=>by
  show bT _ _ qP;unfold qP;refine aV (kC (bu T.BQ (MQ T) (hr.mono (by decide)) (ay (av 0) (ay (av 1) aB)))) ?_
  refine aV (bE (i:=2) (dc (N':=["cell","n","squares"]) (pick:=[η,ζ 0,ζ 1]) (cC.of rfl rfl) (dF (ay (aO eF (av 0) (av 0)) aB) T.cU) (λ_ _ _ _ _ _=>(bx (i:=0) (hN:=(by decide +kernel:τ (["cell","n","squares"]:List Str))))) (λ_ _ _ _ _ _=>dz) (λ_ _ _ _ _ _=>(bu T.Ig (abK T) (hr.mono (by decide)) (ay (av 1) (ay (av 2) (ay (av 0) aB)))))) (hN:=L6.nd)) ?_
  exact(aT (bG (MG (kk:=1) T.BO (MO T) (hr.mono (by decide)) (aO eF (av 0) (av 0)) (gk.of (by kernel_rfl)) rfl (λ_=>rfl) (y:="net_web") (by decide +kernel) T.pW T.pX (hcd _ _ T.pW) rfl T.rM)))
theorem De:cj ["n","squares","g","b"] ["n","squares"] (aP r9):=⟨rfl,rfl,rfl,by decide +kernel,rfl,by decide +kernel,by decide +kernel⟩
theorem abJ(T:Tx K mg):bH P w K mg base bB 7 T.mK T.G4 ["n","squares"] (bM K 2 xC) :=
 cO (k:=6) T.Ie.fn De rfl rfl λcdv A outer s H E hr=>by
  show bT _ _ qQ;unfold qQ;refine aV (kC (bu T.BQ (MQ T) (hr.mono (by decide)) (ay (av 0) (ay (av 1) aB)))) ?_
  refine aV (bE (i:=2) (aO dP (cg c7 T.cV apJ (ay (av 1) aB)) aX) (hN:=De.nd)) ?_;refine aV (bE (i:=3) (MF (eN ja (av 2) (aO dP (av 0) aX)) tU (aO eF (av 2) (aO eV (av 2) aX))) (hN:=De.nd)) ?_;exact(aT (bG (i8 (ay (aO eF (av 0) (av 0)) (ay (aO eF (av 2) (aO eV (av 0) aX)) (ay (aO dP (aO eV (av 0) aX) (aO eF (aO eV (av 2) aX) (aO eV (av 2) aX))) (ay (av 3) aB)))))))
theorem XQ:cj ["web","one","other"] ["web","one","other"] (aP tG):=⟨rfl,rfl,rfl,by decide +kernel,rfl,by decide +kernel,by decide +kernel⟩
theorem MV(T:Tx K mg):bH P w K mg base bB 1 T.nC T.HK ["web","one","other"] (bM K 3 oA) :=
 cO (k:=0) T.BW.fn XQ rfl rfl λcdv A outer s H E hr=>by
  show bT _ _ vH;unfold vH;exact(aT (bG (aa6 (ay (cD cE (av 0) (av 1)) aB) (ay (cD cE (av 0) (av 2)) aB) T.cV T.xu)))
theorem Dg:cj ["web","place","row"] ["web"] (aP tw):=⟨rfl,rfl,rfl,by decide +kernel,rfl,by decide +kernel,by decide +kernel⟩
theorem ab6(T:Tx K mg):bH P w K mg base bB 1 T.ny T.HG ["web"] (bM K 1 ux) :=
 cO (k:=0) T.ID.fn Dg rfl rfl λcdv A outer s H E hr=>by
  show bT _ _ vF;unfold vF;refine aV (eB (OD (ay (av 0) aB) T.Al) (uJ (n:=2) (jH (bx (i:=1) (hN:=Dg.nd)) (jH (bx (i:=2) (hN:=Dg.nd)) uI))) (aT (fk (eN t6 (cg c7 T.cV apJ (ay (av 2) aB)) (cg c7 T.cV apJ (ay (cD cE (av 0) aX) aB))) (aT (bG (av 1))) fC))) ?_;exact(aT (bG tU))
theorem Xy:cj ["web","pairs"] ["web","pairs"] (aP rY):=⟨rfl,rfl,rfl,by decide +kernel,rfl,by decide +kernel,by decide +kernel⟩
theorem DI(T:Tx K mg):bH P w K mg base bB 2 T.mE T.GZ ["web","pairs"] (bM K 2 jY) :=
 cO (k:=1) T.yk.fn Xy rfl rfl λcdv A outer s H E hr=>by
  show bT _ _ vc;unfold vc;exact(aT (bG (MF (aaZ (av 1)) (bu T.BW (MV T) (hr.mono (by decide)) (ay (av 0) (ay (cD cE (cD cE (av 1) aX) aX) (ay (cD cE (cD cE (av 1) aX) aX) aB)))) tU)))
theorem Dh:cj ["web","pairs","shared","pair"] ["web","pairs"] (aP tE):=⟨rfl,rfl,rfl,by decide +kernel,rfl,by decide +kernel,by decide +kernel⟩
theorem ab7(T:Tx K mg):bH P w K mg base bB 3 T.nA T.HH ["web","pairs"] (bM K 2 qt) :=
 cO (k:=2) T.IE.fn Dh rfl rfl λcdv A outer s H E hr=>by
  show bT _ _ vG;unfold vG;refine aV (bE (i:=2) (bu T.yk (DI T) (hr.mono (by decide)) (ay (av 0) (ay (av 1) aB))) (hN:=Dh.nd)) ?_
  refine aV (eB (j4 (av 1)) (bx (i:=3) (hN:=Dh.nd)) (aT (fk (eN t6 (bu T.BW (MV T) (hr.mono (by decide)) (ay (av 0) (ay (cD cE (av 3) aX) (ay (cD cE (av 3) aX) aB)))) (av 2)) (aT (bG (av 3))) fC))) ?_
  exact(aT (bG tU))
theorem qa:cj ["web","place","near","far","word","pairs","pair"] ["web"] (aP tF):=⟨rfl,rfl,rfl,by decide +kernel,rfl,by decide +kernel,by decide +kernel⟩
theorem ab8(T:Tx K mg):bH P w K mg base bB 6 T.nB T.HJ ["web"] (bM K 1 uy) :=
 cO (k:=5) T.IF.fn qa rfl rfl λcdv A outer s H E hr=>by
  show bT _ _ qZ;unfold qZ;refine aV (bE (i:=1) (bu T.ID (ab6 T) (hr.mono (by decide)) (ay (av 0) aB)) (hN:=qa.nd)) ?_
  refine aV (fk (eN M4 (av 1) tU) (aT (bG (i8 (ay wQ (ay (av 1) aB))))) fC) ?_;refine aV (bE (i:=2) (bu T.BP (MP T) (hr.mono (by decide)) (ay (av 0) aB)) (hN:=qa.nd)) ?_
  refine aV (bE (i:=3) (bu T.BP (MP T) (hr.mono (by decide)) (ay (bu T.Ic (abI T) (hr.mono (by decide)) (ay (av 0) aB)) aB)) (hN:=qa.nd)) ?_
  refine aV (eB (j3 (i8 (ay (i8 (ay wQ (ay (av 2) aB))) (ay (i8 (ay wQ (ay (av 3) aB))) aB)))) (uJ (n:=2) (jH (bx (i:=4) (hN:=qa.nd)) (jH (bx (i:=5) (hN:=qa.nd)) uI))) (aV (bE (i:=6) (bu T.IE (ab7 T) (hr.mono (by decide)) (ay (av 0) (ay (av 5) aB))) (hN:=qa.nd)) (aT (fk (eN M4 (av 6) tU) (aT (bG (i8 (ay (av 4) (ay (cD cE (av 6) aX) (ay (cD cE (av 6) aX) aB)))))) fC)))) ?_
  exact(aT (bG (i8 (ay wQ (ay (i8 (ay (cg c7 T.cV apJ (ay (av 0) aB)) (ay (cg c7 T.cV apJ (ay (cD cE (av 0) aX) aB)) (ay (bu T.yk (DI T) (hr.mono (by decide)) (ay (av 0) (ay (av 2) aB))) (ay (bu T.yk (DI T) (hr.mono (by decide)) (ay (av 0) (ay (av 3) aB))) aB))))) aB)))))
theorem XG:cj ["script","k"] ["script","k"] (aP sR):=⟨rfl,rfl,rfl,by decide +kernel,rfl,by decide +kernel,by decide +kernel⟩
theorem abX(T:Tx K mg):bH P w K mg base bB 1 T.nh T.Hy ["script","k"] (bM K 2 qp) :=
 cO (k:=0) T.Iw.fn XG rfl rfl λcdv A outer s H E hr=>by
  show bT _ _ qX;unfold qX;refine aV (fk (eN DL (av 1) (cg c7 T.cV apJ (ay (av 0) aB))) (aT (bG (cD cE (av 0) (av 1)))) fC) ?_;exact(aT (bG aX))
theorem rR:cj ["cell","number","j","more"] ["cell"] (aP sI):=⟨rfl,rfl,rfl,by decide +kernel,rfl,by decide +kernel,by decide +kernel⟩
theorem abT(T:Tx K mg):bH P w K mg base bB 1 T.mY T.Hq ["cell"] (bM K 1 ql) :=
 cO (k:=0) T.Ip.fn rR rfl rfl λcdv A outer s H E hr=>by
  show bT _ _ qV;unfold qV;refine aV (fk (eN acZ (av 0) (aO M1 aX aX)) (aT (bG (kH (ay (aO eV (av 0) (aO M1 aX aX)) aB)))) fC) ?_;refine aV (bE (i:=1) aX (hN:=rR.nd)) ?_;refine aV (eB (dF (ay aX aB) T.cU) (bx (i:=2) (hN:=rR.nd)) (aV (bE (i:=3) (aO iN (aO eF (aO dP (aO dP (aO iN (av 0) aX) (aO eF aX (av 2))) aX) aX) aX) (hN:=rR.nd)) (aV (bE (i:=3) (aO iN (aO dP (aO dP (aO eF (av 3) (av 3)) (aO eF aX (av 2))) aX) aX) (hN:=rR.nd)) (aT (bE (i:=1) (aO dP (aO eF (av 1) aX) (av 3)) (hN:=rR.nd)))))) ?_;exact(aT (bG (kH (ay (av 1) aB))))
theorem L8:cj ["pot","far","found"] ["pot","far"] (aP sf):=⟨rfl,rfl,rfl,by decide +kernel,rfl,by decide +kernel,by decide +kernel⟩
theorem lH(T:Tx K mg):bH P w K mg base bB 1 T.mP T.G7 ["pot","far"] (bM K 2 cN) :=
 cO (k:=0) T.j8.fn L8 rfl rfl λcdv A outer s H E hr=>by
  show bT _ _ qT;unfold qT;refine aV (bE (i:=2) (aO iN (cD cE (av 0) aX) (av 1)) (hN:=L8.nd)) ?_;refine aV (wA (aO t7 (cD cE (av 0) aX) (av 1)) (AR (av 0) aX)) ?_;exact(aT (bG (av 2)))
theorem XF:cj ["q"] ["q"] (aP sH):=⟨rfl,rfl,rfl,by decide +kernel,rfl,by decide +kernel,by decide +kernel⟩
theorem z7(T:Tx K mg):bH P w K mg base bB 1 T.mX T.Ho ["q"] (bM K 1 gB) :=
 cO (k:=0) T.uQ.fn XF rfl rfl λcdv A outer s H E hr=>by
  show bT _ _ vo;unfold vo;refine aT ?_
  with_reducible refine bG ?_
  with_reducible refine cD cE ?_ ?_ ?_
  ·with_reducible refine dc (N':=["p","q"]) (pick:=[η,ζ 0]) ?_ ?_ ?_ ?_ ?_ ?_ ?_
   ·exact cC.of rfl rfl
   ·with_reducible refine j4 ?_
    with_reducible refine gg ?_
    with_reducible refine oi ?_
    kernel_rfl
   ·exact λ_ _ _ _ _ _=>(bx (i:=0) (hN:=(by decide +kernel:τ (["p","q"]:List Str))))
   ·exact λ_ _ _ _ _ _=>(Dz (eN ja (aO iN (av 1) (av 0)) aX))
   ·exact λ_ _ _ _ _ _=>(av 0)
   ·rfl
   ·intro _;rfl
  ·exact aX
  ·exact λ_ _=>rfl
theorem zA:cj ["q","found"] ["q"] (aP sP):=⟨rfl,rfl,rfl,by decide +kernel,rfl,by decide +kernel,by decide +kernel⟩
theorem MT(T:Tx K mg):bH P w K mg base bB 2 T.nc T.Hw ["q"] (bM K 1 kO) :=
 cO (k:=1) T.BU.fn zA rfl rfl λcdv A outer s H E hr=>by
  show bT _ _ vz;unfold vz;refine aV (bE (i:=1) aX (hN:=zA.nd)) ?_;refine aV (L5 (n:=10) (eN M6 (av 0) aX) (aV (bE (i:=0) (aO t7 (av 0) (bu T.uQ (z7 T) (hr.mono (by decide)) (ay (av 0) aB))) (hN:=zA.nd)) (aT (bE (i:=1) (aO dP (av 1) aX) (hN:=zA.nd))))) ?_
  exact(aT (bG (av 1)))
theorem zy:cj ["number","p","many","found","k"] ["number","p","many"] (aP sD):=⟨rfl,rfl,rfl,by decide +kernel,rfl,by decide +kernel,by decide +kernel⟩
theorem tZ(T:Tx K mg):bH P w K mg base bB 1 T.mU T.Hi ["number","p","many"] (bM K 3 fU) :=
 cO (k:=0) T.pq.fn zy rfl rfl λcdv A outer s H E hr=>by
  show bT _ _ vm;unfold vm;refine aV (bE (i:=3) (kH aB) (hN:=zy.nd)) ?_;refine aV (eB (dF (ay (av 2) aB) T.cU) (bx (i:=4) (hN:=zy.nd)) (aV (kC (wV (av 3) (aO iN (av 0) (av 1)))) (aT (bE (i:=0) (aO t7 (av 0) (av 1)) (hN:=zy.nd))))) ?_;exact(aT (bG (av 3)))
theorem zz:cj ["row","p","found","k"] ["row","p"] (aP sL):=⟨rfl,rfl,rfl,by decide +kernel,rfl,by decide +kernel,by decide +kernel⟩
theorem MR(T:Tx K mg):bH P w K mg base bB 1 T.m5 T.Hs ["row","p"] (bM K 2 qm) :=
 cO (k:=0) T.BR.fn zz rfl rfl λcdv A outer s H E hr=>by
  show bT _ _ vq;unfold vq;refine aV (bE (i:=2) aX (hN:=zz.nd)) ?_;refine aV (eB (dF (ay (cg c7 T.cV apJ (ay (av 0) aB)) aB) T.cU) (bx (i:=3) (hN:=zz.nd)) (aT (bE (i:=2) (aO dP (aO eF (av 2) (av 1)) (cD cE (av 0) (aO eV (aO eV (cg c7 T.cV apJ (ay (av 0) aB)) aX) (av 3)))) (hN:=zz.nd)))) ?_;exact(aT (bG (av 2)))
theorem nT:cj ["one","other","p","found","k","j"] ["one","other","p"] (aP sj):=⟨rfl,rfl,rfl,by decide +kernel,rfl,by decide +kernel,by decide +kernel⟩
theorem abM(T:Tx K mg):bH P w K mg base bB 1 T.k7 T.AX ["one","other","p"] (bM K 3 lQ) :=
 cO (k:=0) T.yo.fn nT rfl rfl λcdv A outer s H E hr=>by
  show bT _ _ mj;unfold mj;refine aV (bE (i:=3) (aO M0 (gg (ay aX aB)) (aO eV (aO dP (cg c7 T.cV apJ (ay (av 0) aB)) (cg c7 T.cV apJ (ay (av 1) aB))) aX)) (hN:=nT.nd)) ?_;refine aV (eB (dF (ay (cg c7 T.cV apJ (ay (av 0) aB)) aB) T.cU) (bx (i:=4) (hN:=nT.nd)) (aT (eB (dF (ay (cg c7 T.cV apJ (ay (av 1) aB)) aB) T.cU) (bx (i:=5) (hN:=nT.nd)) (aT (wA (aO iN (aO dP (cD cE (av 3) (aO dP (av 4) (av 5))) (aO eF (cD cE (av 0) (av 4)) (cD cE (av 1) (av 5)))) (av 2)) (AR (av 3) (aO dP (av 4) (av 5)))))))) ?_;exact(aT (bG (av 3)))
theorem abG(T:Tx K mg):bH P w K mg base bB 1 T.k7 T.AX ["one","other","p"] (bM K 3 uh) :=
 cO (k:=0) T.yo.fn nT rfl rfl λcdv A outer s H E hr=>by
  show bT _ _ mj;unfold mj;refine aV (bE (i:=3) (aO M0 (gg (ay aX aB)) (aO eV (aO dP (cg c7 T.cV apJ (ay (av 0) aB)) (cg c7 T.cV apJ (ay (av 1) aB))) aX)) (hN:=nT.nd)) ?_;refine aV (eB (dF (ay (cg c7 T.cV apJ (ay (av 0) aB)) aB) T.cU) (bx (i:=4) (hN:=nT.nd)) (aT (eB (dF (ay (cg c7 T.cV apJ (ay (av 1) aB)) aB) T.cU) (bx (i:=5) (hN:=nT.nd)) (aT (wA (aO iN (aO dP (cD cE (av 3) (aO dP (av 4) (av 5))) (aO eF (cD cE (av 0) (av 4)) (cD cE (av 1) (av 5)))) (av 2)) (AR (av 3) (aO dP (av 4) (av 5)))))))) ?_;exact(aT (bG (av 3)))
theorem rS:cj ["many","p","found","k","longer","row"] ["many","p"] (aP sM):=⟨rfl,rfl,rfl,by decide +kernel,rfl,by decide +kernel,by decide +kernel⟩
theorem MS(T:Tx K mg):bH P w K mg base bB 1 T.m7 T.Ht ["many","p"] (bM K 2 oz) :=
 cO (k:=0) T.BS.fn rS rfl rfl λcdv A outer s H E hr=>by
  show bT _ _ pI;unfold pI;refine aV (bE (i:=2) (gg (ay (gg aB) aB)) (hN:=rS.nd)) ?_;refine aV (eB (dF (ay (av 0) aB) T.cU) (bx (i:=3) (hN:=rS.nd)) (aV (bE (i:=4) (kH aB) (hN:=rS.nd)) (aV (eB (j4 (av 2)) (bx (i:=5) (hN:=rS.nd)) (aT (kC (DB (av 4) (dc (N':=["digit","row"]) (pick:=[η,ζ 5]) (cC.of rfl rfl) (dF (ay (av 1) aB) T.cU) (λ_ _ _ _ _ _=>(bx (i:=0) (hN:=(by decide +kernel:τ (["digit","row"]:List Str))))) (λ_ _ _ _ _ _=>dz) (λ_ _ _ _ _ _=>(aO xg (av 1) (gg (ay (av 0) aB))))))))) (aT (bE (i:=2) (av 4) (hN:=rS.nd)))))) ?_
  exact(aT (bG (dc (N':=["row"]) (pick:=[η]) (cC.of rfl rfl) (j4 (av 2)) (λ_ _ _ _ _ _=>(bx (i:=0) (hN:=(by decide +kernel:τ (["row"]:List Str))))) (λ_ _ _ _ _ _=>dz) (λ_ _ _ _ _ _=>(aO xg (av 0) (gg (ay aX aB)))))))
theorem nW:cj ["q","p","many","products","less","one","number"] ["q"] (aP sN):=⟨rfl,rfl,rfl,by decide +kernel,rfl,by decide +kernel,by decide +kernel⟩
theorem abU(T:Tx K mg):bH P w K mg base bB 3 T.m8 T.Hu ["q"] (bM K 1 uv) :=
 cO (k:=2) T.Iq.fn nW rfl rfl λcdv A outer s H E hr=>by
  show bT _ _ vt;unfold vt;refine aV (bE (i:=1) (bu T.uQ (z7 T) (hr.mono (by decide)) (ay (av 0) aB)) (hN:=nW.nd)) ?_
  refine aV (bE (i:=2) (bu T.BU (MT T) (hr.mono (by decide)) (ay (av 0) aB)) (hN:=nW.nd)) ?_
  refine aV (fk (eN ja (av 2) aX) (aT (bG (gg (ay aX (ay aX aB))))) fC) ?_;refine aV (bE (i:=3) (kH aB) (hN:=nW.nd)) ?_;refine aV (eB (Gm (ay aX (ay (aO dP (aO t7 (av 2) aX) aX) aB)) T.cU) (bx (i:=4) (hN:=nW.nd)) (aT (eB (j4 (bu T.BS (MS T) (hr.mono (by decide)) (ay (av 4) (ay (av 1) aB)))) (bx (i:=5) (hN:=nW.nd)) (aT (kC (DB (av 3) (dc (N':=["other","one","p"]) (pick:=[η,ζ 5,ζ 1]) (cC.of rfl rfl) (j4 (bu T.BS (MS T) (hr.mono (by decide)) (ay (aO eV (av 2) (av 4)) (ay (av 1) aB)))) (λ_ _ _ _ _ _=>(bx (i:=0) (hN:=(by decide +kernel:τ (["other","one","p"]:List Str))))) (λ_ _ _ _ _ _=>dz) (λ_ _ _ _ _ _=>(bu T.yo (abM T) (hr.mono (by decide)) (ay (av 1) (ay (av 0) (ay (av 2) aB)))))))))))) ?_
  refine aV (bE (i:=6) aX (hN:=nW.nd)) ?_;refine aV (L5 (n:=60) (eN (M5 (uC hr)) (aO xg (bu T.pq (tZ T) (hr.mono (by decide)) (ay (av 6) (ay (av 1) (ay (av 2) aB)))) (gg (ay aX aB))) (av 3)) (aT (bE (i:=6) (aO dP (av 6) aX) (hN:=nW.nd)))) ?_
  exact(aT (bG (aO xg (bu T.pq (tZ T) (hr.mono (by decide)) (ay (av 6) (ay (av 1) (ay (av 2) aB)))) (gg (ay aX aB)))))
theorem nU:cj ["q","form","one","other","p","many","row","place","often","k","at"] ["q","form","one","other"] (aP sG):=⟨rfl,rfl,rfl,by decide +kernel,rfl,by decide +kernel,by decide +kernel⟩
theorem abS(T:Tx K mg):bH P w K mg base bB 2 T.mW T.Hl ["q","form","one","other"] (bM K 4 ur) :=
 cO (k:=1) T.Io.fn nU rfl rfl λcdv A outer s H E hr=>by
  show bT _ _ vn;unfold vn;refine aV (bE (i:=4) (bu T.uQ (z7 T) (hr.mono (by decide)) (ay (av 0) aB)) (hN:=nU.nd)) ?_
  refine aV (bE (i:=5) (aO eV (cg c7 T.cV apJ (ay (av 1) aB)) aX) (hN:=nU.nd)) ?_;refine aV (bE (i:=6) (bu T.yo (abG T) (hr.mono (by decide)) (ay (bu T.pq (tZ T) (hr.mono (by decide)) (ay (av 2) (ay (av 4) (ay (av 5) aB)))) (ay (bu T.pq (tZ T) (hr.mono (by decide)) (ay (av 3) (ay (av 4) (ay (av 5) aB)))) (ay (av 4) aB)))) (hN:=nU.nd)) ?_
  refine aV (eB (ag3 (ay (aO eV (cg c7 T.cV apJ (ay (av 6) aB)) aX) (ay (aO eV (av 5) aX) (ay (aO eV aX aX) aB))) T.cU) (bx (i:=7) (hN:=nU.nd)) (aV (bE (i:=8) (cD cE (av 6) (av 7)) (hN:=nU.nd)) (aT (eB (dF (ay (aO dP (av 5) aX) aB) T.cU) (bx (i:=9) (hN:=nU.nd)) (aV (bE (i:=10) (aO dP (aO eV (av 7) (av 5)) (av 9)) (hN:=nU.nd)) (aT (wA (aO iN (aO eV (cD cE (av 6) (av 10)) (aO eF (av 8) (cD cE (av 1) (av 9)))) (av 4)) (AR (av 6) (av 10))))))))) ?_;exact(aT (bG (bu T.BR (MR T) (hr.mono (by decide)) (ay (wR (av 6) wJ (wI (av 5))) (ay (av 4) aB)))))
theorem zx:cj ["q","one","other","sign","p","many","rows"] ["q","one","other","sign"] (aP su):=⟨rfl,rfl,rfl,by decide +kernel,rfl,by decide +kernel,by decide +kernel⟩
theorem abN(T:Tx K mg):bH P w K mg base bB 3 T.mQ T.G8 ["q","one","other","sign"] (bM K 4 oq) :=
 cO (k:=2) T.Ii.fn zx rfl rfl λcdv A outer s H E hr=>by
  show bT _ _ vg;unfold vg;refine aV (bE (i:=4) (bu T.uQ (z7 T) (hr.mono (by decide)) (ay (av 0) aB)) (hN:=zx.nd)) ?_
  refine aV (bE (i:=5) (bu T.BU (MT T) (hr.mono (by decide)) (ay (av 0) aB)) (hN:=zx.nd)) ?_
  refine aV (bE (i:=6) (gg (ay (bu T.pq (tZ T) (hr.mono (by decide)) (ay (av 1) (ay (av 4) (ay (av 5) aB)))) (ay (bu T.pq (tZ T) (hr.mono (by decide)) (ay (av 2) (ay (av 4) (ay (av 5) aB)))) aB))) (hN:=zx.nd)) ?_
  exact(aT (bG (bu T.BR (MR T) (hr.mono (by decide)) (ay (dc (N':=["k","p","sign","rows"]) (pick:=[η,ζ 4,ζ 3,ζ 6]) (cC.of rfl rfl) (dF (ay (av 5) aB) T.cU) (λ_ _ _ _ _ _=>(bx (i:=0) (hN:=(by decide +kernel:τ (["k","p","sign","rows"]:List Str))))) (λ_ _ _ _ _ _=>dz) (λ_ _ _ _ _ _=>(aO iN (aO dP (cD cE (cD cE (av 3) aX) (av 0)) (aO eF (av 2) (cD cE (cD cE (av 3) aX) (av 0)))) (av 1)))) (ay (av 4) aB)))))
theorem Ma:cj ["q","form"] ["q"] (aP sE):=⟨rfl,rfl,rfl,by decide +kernel,rfl,by decide +kernel,by decide +kernel⟩
theorem abR(T:Tx K mg):bH P w K mg base bB 4 T.mV T.Hj ["q"] (bM K 1 uq) :=
 cO (k:=3) T.Im.fn Ma rfl rfl λcdv A outer s H E hr=>by
  show bT _ _ qU;unfold qU;refine aV (bE (i:=1) (bu T.Iq (abU T) (hr.mono (by decide)) (ay (av 0) aB)) (hN:=Ma.nd)) ?_
  exact(aT (bG (dc (N':=["one","q","form"]) (pick:=[η,ζ 0,ζ 1]) (cC.of rfl rfl) (dF (ay (av 0) aB) T.cU) (λ_ _ _ _ _ _=>(bx (i:=0) (hN:=(by decide +kernel:τ (["one","q","form"]:List Str))))) (λ_ _ _ _ _ _=>dz) (λ_ _ _ _ _ _=>(dc (N':=["other","q","form","one"]) (pick:=[η,ζ 1,ζ 2,ζ 0]) (cC.of rfl rfl) (dF (ay (av 1) aB) T.cU) (λ_ _ _ _ _ _=>(bx (i:=0) (hN:=(by decide +kernel:τ (["other","q","form","one"]:List Str))))) (λ_ _ _ _ _ _=>dz) (λ_ _ _ _ _ _=>(bu T.Io (abS T) (hr.mono (by decide)) (ay (av 1) (ay (av 2) (ay (av 3) (ay (av 0) aB)))))))))))
theorem Mb:cj ["pot","many","left"] ["pot","many"] (aP sJ):=⟨rfl,rfl,rfl,by decide +kernel,rfl,by decide +kernel,by decide +kernel⟩
theorem z8(T:Tx K mg):bH P w K mg base bB 2 T.mZ T.Hr ["pot","many"] (bM K 2 fV) :=
 cO (k:=1) T.uR.fn Mb rfl rfl λcdv A outer s H E hr=>by
  show bT _ _ vp;unfold vp;refine aV (bE (i:=2) (aa2 (ay (av 1) aB) T.Ak T.cU) (hN:=Mb.nd)) ?_;exact(aT (bG (kI k6 T.jb aqs (ay (dc (N':=["k","left","pot"]) (pick:=[η,ζ 2,ζ 0]) (cC.of rfl rfl) (dF (ay (av 1) aB) T.cU) (λ_ _ _ _ _ _=>(bx (i:=0) (hN:=(by decide +kernel:τ (["k","left","pot"]:List Str))))) (λ_ _ _ _ _ _=>dz) (λ_ _ _ _ _ _=>(ME (av 1) (bu T.j8 (lH T) (hr.mono (by decide)) (ay (av 2) (ay (cg c7 T.cV apJ (ay (av 1) aB)) aB)))))) aB))))
theorem nX:cj ["pot","n","rows","by","order","names","columns"] ["pot","n"] (aP sQ):=⟨rfl,rfl,rfl,by decide +kernel,rfl,by decide +kernel,by decide +kernel⟩
theorem abW(T:Tx K mg):bH P w K mg base bB 3 T.ng T.Hx ["pot","n"] (bM K 2 qo) :=
 cO (k:=2) T.Iu.fn nX rfl rfl λcdv A outer s H E hr=>by
  show bT _ _ vA;unfold vA;refine aV (fk (PW.pt (zU (eN ja (av 1) aX) (zV (eN ja (bu T.j8 (lH T) (hr.mono (by decide)) (ay (av 0) (ay aX aB))) aX)))) (aT (bE (i:=2) (dc (N':=["row","n"]) (pick:=[η,ζ 1]) (cC.of rfl rfl) (dF (ay (av 1) aB) T.cU) (λ_ _ _ _ _ _=>(bx (i:=0) (hN:=(by decide +kernel:τ (["row","n"]:List Str))))) (λ_ _ _ _ _ _=>dz) (λ_ _ _ _ _ _=>(dc (N':=["column","row"]) (pick:=[η,ζ 0]) (cC.of rfl rfl) (dF (ay (av 1) aB) T.cU) (λ_ _ _ _ _ _=>(bx (i:=0) (hN:=(by decide +kernel:τ (["column","row"]:List Str))))) (λ_ _ _ _ _ _=>dz) (λ_ _ _ _ _ _=>(aO ach (av 1) (av 0)))))) (hN:=nX.nd))) (aV (bE (i:=3) (aO dP aX (bu T.j8 (lH T) (hr.mono (by decide)) (ay (av 0) (ay (cg alw T.NI boot_max (ay aX (ay (aO eV (av 1) aX) aB))) aB)))) (hN:=nX.nd)) (aV (bE (i:=2) (dc (N':=["row","n","by"]) (pick:=[η,ζ 1,ζ 3]) (cC.of rfl rfl) (dF (ay (av 1) aB) T.cU) (λ_ _ _ _ _ _=>(bx (i:=0) (hN:=(by decide +kernel:τ (["row","n","by"]:List Str))))) (λ_ _ _ _ _ _=>dz) (λ_ _ _ _ _ _=>(dc (N':=["column","n","by","row"]) (pick:=[η,ζ 1,ζ 2,ζ 0]) (cC.of rfl rfl) (dF (ay (av 1) aB) T.cU) (λ_ _ _ _ _ _=>(bx (i:=0) (hN:=(by decide +kernel:τ (["column","n","by","row"]:List Str))))) (λ_ _ _ _ _ _=>dz) (λ_ _ _ _ _ _=>(aO iN (aO dP (aO eF (av 2) (av 3)) (av 0)) (av 1)))))) (hN:=nX.nd)) (aT (fk (eN (M3 (uC hr)) (aa0 (ay (dc (N':=["row"]) (pick:=[η]) (cC.of rfl rfl) (j4 (av 2)) (λ_ _ _ _ _ _=>(bx (i:=0) (hN:=(by decide +kernel:τ (["row"]:List Str))))) (λ_ _ _ _ _ _=>dz) (λ_ _ _ _ _ _=>(cD cE (av 0) aX))) aB) T.NH T.xu) (aa3 (ay (av 1) aB) T.Ak T.cU)) (aT (bE (i:=2) (dc (N':=["row","n"]) (pick:=[η,ζ 1]) (cC.of rfl rfl) (dF (ay (av 1) aB) T.cU) (λ_ _ _ _ _ _=>(bx (i:=0) (hN:=(by decide +kernel:τ (["row","n"]:List Str))))) (λ_ _ _ _ _ _=>dz) (λ_ _ _ _ _ _=>(dc (N':=["column","n","row"]) (pick:=[η,ζ 1,ζ 0]) (cC.of rfl rfl) (dF (ay (av 1) aB) T.cU) (λ_ _ _ _ _ _=>(bx (i:=0) (hN:=(by decide +kernel:τ (["column","n","row"]:List Str))))) (λ_ _ _ _ _ _=>dz) (λ_ _ _ _ _ _=>(aO iN (aO dP (av 2) (av 0)) (av 1)))))) (hN:=nX.nd))) fC))))) ?_
  refine aV (bE (i:=4) (bu T.uR (z8 T) (hr.mono (by decide)) (ay (av 0) (ay (av 1) aB))) (hN:=nX.nd)) ?_
  refine aV (bE (i:=5) (bu T.uR (z8 T) (hr.mono (by decide)) (ay (av 0) (ay (av 1) aB))) (hN:=nX.nd)) ?_
  refine aV (bE (i:=6) (bu T.uR (z8 T) (hr.mono (by decide)) (ay (av 0) (ay (av 1) aB))) (hN:=nX.nd)) ?_
  exact(aT (bG (kI k6 T.jb aqs (ay (dc (N':=["row","names","columns","rows"]) (pick:=[η,ζ 5,ζ 6,ζ 2]) (cC.of rfl rfl) (j3 (av 4)) (λ_ _ _ _ _ _=>(bx (i:=0) (hN:=(by decide +kernel:τ (["row","names","columns","rows"]:List Str))))) (λ_ _ _ _ _ _=>dz) (λ_ _ _ _ _ _=>(kI k6 T.jb aqs (ay (dc (N':=["column","names","rows","row"]) (pick:=[η,ζ 1,ζ 3,ζ 0]) (cC.of rfl rfl) (j3 (av 2)) (λ_ _ _ _ _ _=>(bx (i:=0) (hN:=(by decide +kernel:τ (["column","names","rows","row"]:List Str))))) (λ_ _ _ _ _ _=>dz) (λ_ _ _ _ _ _=>(cD cE (av 1) (cD cE (cD cE (av 2) (av 3)) (av 0))))) aB)))) aB))))
theorem Df:cj ["pot","rows","order"] ["pot"] (aP sC):=⟨rfl,rfl,rfl,by decide +kernel,rfl,by decide +kernel,by decide +kernel⟩
theorem abQ(T:Tx K mg):bH P w K mg base bB 3 T.mT T.Hh ["pot"] (bM K 1 lR) :=
 cO (k:=2) T.Il.fn Df rfl rfl λcdv A outer s H E hr=>by
  show bT _ _ vj;unfold vj;refine aV ?_ ?_
  ·with_reducible refine bE (i:=1) ?_ ?_ ?_ ?_ ?_ ?_
   ·with_reducible refine kH ?_
    with_reducible refine ay ?_ ?_ ?_
    ·with_reducible refine gg ?_
     with_reducible refine oi ?_
     kernel_rfl
    ·skip
     with_reducible refine ay ?_ ?_ ?_
     ·with_reducible refine gg ?_
      with_reducible refine oi ?_
      kernel_rfl
     ·skip
      with_reducible refine ay ?_ ?_ ?_
      ·with_reducible refine gg ?_
       with_reducible refine oi ?_
       kernel_rfl
      ·skip
       with_reducible refine ay ?_ ?_ ?_
       ·with_reducible refine gg ?_
        with_reducible refine oi ?_
        kernel_rfl
       ·skip
        with_reducible refine ay ?_ ?_ ?_
        ·with_reducible refine gg ?_
         with_reducible refine oi ?_
         kernel_rfl
        ·skip
         with_reducible exact aB
        ·exact cR rfl
       ·exact cR rfl
      ·exact cR rfl
     ·exact cR rfl
    ·exact cR rfl
   ·exact Df.nd
   ·rfl
   ·first|exact Or.inl rfl|exact Or.inr rfl
   ·rfl
   ·first|exact .inl rfl|exact .inr rfl
  ·skip
   refine aV (kC (wV (av 1) (gg (oi (by kernel_rfl))))) ?_
   refine aV (bE (i:=2) (bu T.uR (z8 T) (hr.mono (by decide)) (ay (av 0) (ay aX aB))) (hN:=Df.nd)) ?_
   exact(aT (bG (kI k6 T.jb aqs (ay (dc (N':=["row","rows"]) (pick:=[η,ζ 1]) (cC.of rfl rfl) (j3 (av 2)) (λ_ _ _ _ _ _=>(bx (i:=0) (hN:=(by decide +kernel:τ (["row","rows"]:List Str))))) (λ_ _ _ _ _ _=>dz) (λ_ _ _ _ _ _=>(kI k6 T.jb aqs (ay (cD cE (av 1) (av 0)) aB)))) aB))))
theorem XE:cj ["pot","n"] ["pot","n"] (aP sy):=⟨rfl,rfl,rfl,by decide +kernel,rfl,by decide +kernel,by decide +kernel⟩
theorem abO(T:Tx K mg):bH P w K mg base bB 4 T.mR T.G9 ["pot","n"] (bM K 2 ou) :=
 cO (k:=3) T.Ij.fn XE rfl rfl λcdv A outer s H E hr=>by
  show bT _ _ vh;unfold vh;refine aV (fk (PW.pt (zU (eN ja (av 1) aX) (zV (eN ja (bu T.j8 (lH T) (hr.mono (by decide)) (ay (av 0) (ay aX aB))) aX)))) (aT (bG (bu T.Il (abQ T) (hr.mono (by decide)) (ay (av 0) aB)))) fC) ?_
  exact(aT (bG (bu T.Iu (abW T) (hr.mono (by decide)) (ay (av 0) (ay (av 1) aB)))))
theorem rT:cj ["q","products","found","often","rows","row"] ["q"] (aP sO):=⟨rfl,rfl,rfl,by decide +kernel,rfl,by decide +kernel,by decide +kernel⟩
theorem abV(T:Tx K mg):bH P w K mg base bB 5 T.m9 T.Hv ["q"] (bM K 1 xE) :=
 cO (k:=4) T.Ir.fn rT rfl rfl λcdv A outer s H E hr=>by
  show bT _ _ qW;unfold qW;refine aV (bE (i:=1) (bu T.Im (abR T) (hr.mono (by decide)) (ay (av 0) aB)) (hN:=rT.nd)) ?_
  refine aV (bE (i:=2) (kH aB) (hN:=rT.nd)) ?_;refine aV (eB (Gm (ay aX (ay (av 0) aB)) T.cU) (bx (i:=3) (hN:=rT.nd)) (aV (bE (i:=4) (kH aB) (hN:=rT.nd)) (aV (eB (dF (ay (av 0) aB) T.cU) (bx (i:=5) (hN:=rT.nd)) (aT (kC (wV (av 4) (kI k6 T.jb aqs (ay (dc (N':=["column","q","row","products","often"]) (pick:=[η,ζ 0,ζ 5,ζ 1,ζ 3]) (cC.of rfl rfl) (dF (ay (av 0) aB) T.cU) (λ_ _ _ _ _ _=>(bx (i:=0) (hN:=(by decide +kernel:τ (["column","q","row","products","often"]:List Str))))) (λ_ _ _ _ _ _=>dz) (λ_ _ _ _ _ _=>(bu T.Ii (abN T) (hr.mono (by decide)) (ay (av 1) (ay (cD cE (cD cE (av 3) (av 4)) (av 2)) (ay (av 0) (ay aX aB))))))) aB)))))) (aT (kC (wV (av 2) (kI k6 T.jb aqs (ay (av 4) aB)))))))) ?_
  exact(aT (bG (av 2)))
theorem wB:cj ["pot","n","left","found","k"] ["pot"] (aP sA):=⟨rfl,rfl,rfl,by decide +kernel,rfl,by decide +kernel,by decide +kernel⟩
theorem abP(T:Tx K mg):bH P w K mg base bB 6 T.mS T.Hg ["pot"] (bM K 1 qk) :=
 aiQ (k:=5) T.Ik.fn wB rfl rfl λcdv A outer s H E hr=>by
  show bT _ _ pH;unfold pH;refine aV (bE (i:=1) (aO dP aX (bu T.j8 (lH T) (hr.mono (by decide)) (ay (av 0) (ay aX aB)))) (hN:=wB.nd)) ?_
  refine aV (fk (eN ja (av 1) aX) (aT (bG (i8 (ay (av 1) (ay (wR (gg (ay (bu T.Ij (abO T) (hr.mono (by decide)) (ay (av 0) (ay (av 1) aB))) aB)) wJ (wI (bu T.j8 (lH T) (hr.mono (by decide)) (ay (av 0) (ay aX aB))))) aB))))) fC) ?_
  refine aV (bE (i:=2) (bu T.Ir (abV T) (hr.mono (by decide)) (ay (av 1) aB)) (hN:=wB.nd)) ?_
  refine aV (bE (i:=3) (kH aB) (hN:=wB.nd)) ?_;refine aV (eB (dF (ay (bu T.j8 (lH T) (hr.mono (by decide)) (ay (av 0) (ay (av 1) aB))) aB) T.cU) (bx (i:=4) (hN:=wB.nd)) (aT (kC (wV (av 3) (ME (av 2) (bu T.j8 (lH T) (hr.mono (by decide)) (ay (av 0) (ay (cg c7 T.cV apJ (ay (av 2) aB)) aB)))))))) ?_
  exact(aT (bG (i8 (ay (av 1) (ay (av 3) aB)))))
theorem gU:cj ["script","k","pot","n","squares","web","whole","number","fewer","more","x","square","cells","one","other","y"] ["script"] (aP sS):=⟨rfl,rfl,rfl,by decide +kernel,rfl,by decide +kernel,by decide +kernel⟩
theorem abY(T:Tx K mg):bH P w K mg base bB 8 T.k8 T.Hz ["script"] (bM K 1 xF) :=
 cO (k:=7) T.Qo.fn gU rfl rfl λcdv A outer s H E hr=>by
  show bT _ _ vB;unfold vB;refine aV (eB (dF (ay aX aB) T.cU) (bx (i:=1) (hN:=gU.nd)) (aV (bE (i:=2) (bu T.Ip (abT T) (hr.mono (by decide)) (ay (bu T.Iw (abX T) (hr.mono (by decide)) (ay (av 0) (ay (av 1) aB))) aB)) (hN:=gU.nd)) (aV (wA (bu T.Ik (abP T) (hr.mono (by decide)) (ay (av 2) aB)) (uJ (n:=2) (jH (bx (i:=3) (hN:=gU.nd)) (jH (bx (i:=4) (hN:=gU.nd)) uI)))) (aT (fk (eN DL (av 3) aX) (aV (bE (i:=5) (bu T.ym (DJ T) (hr.mono (by decide)) (ay (av 3) (ay (av 4) aB))) (hN:=gU.nd)) (aV (fk (eN (M3 (uC hr)) (bu T.IF (ab8 T) (hr.mono (by decide)) (ay (av 5) aB)) (i8 (ay wQ (ay (bu T.Ie (abJ T) (hr.mono (by decide)) (ay (av 3) (ay (av 4) aB))) aB)))) (aT (bG jA)) fC) (aV (bE (i:=6) (cg IY T.Aj boot_sum (ay (dc (N':=["row"]) (pick:=[η]) (cC.of rfl rfl) (j3 (av 5)) (λ_ _ _ _ _ _=>(bx (i:=0) (hN:=(by decide +kernel:τ (["row"]:List Str))))) (λ_ _ _ _ _ _=>dz) (λ_ _ _ _ _ _=>(cg c7 T.cV apJ (ay (av 0) aB)))) aB)) (hN:=gU.nd)) (aV (fk (PW.pt (zU (eN ja (cg c7 T.cV apJ (ay (av 4) aB)) (aO eV (av 3) aX)) (zV (eN t6 (av 6) (aO eF (aO eF (av 3) (av 3)) (aO eV (aO eF (av 3) (av 3)) aX)))))) (aT (bG jA)) fC) (aV (eB (dF (ay (cg c7 T.cV apJ (ay (av 4) aB)) aB) T.cU) (bx (i:=7) (hN:=gU.nd)) (aV (bE (i:=8) (cg IY T.Aj boot_sum (ay (dc (N':=["row"]) (pick:=[η]) (cC.of rfl rfl) (j3 (bu T.ym (DJ T) (hr.mono (by decide)) (ay (av 3) (ay (wR (av 4) wJ (wI (av 7))) aB)))) (λ_ _ _ _ _ _=>(bx (i:=0) (hN:=(by decide +kernel:τ (["row"]:List Str))))) (λ_ _ _ _ _ _=>dz) (λ_ _ _ _ _ _=>(cg c7 T.cV apJ (ay (av 0) aB)))) aB)) (hN:=gU.nd)) (aV (bE (i:=9) (cg IY T.Aj boot_sum (ay (dc (N':=["row"]) (pick:=[η]) (cC.of rfl rfl) (j3 (bu T.ym (DJ T) (hr.mono (by decide)) (ay (av 3) (ay (wR (av 4) wJ (wI (aO dP (av 7) aX))) aB)))) (λ_ _ _ _ _ _=>(bx (i:=0) (hN:=(by decide +kernel:τ (["row"]:List Str))))) (λ_ _ _ _ _ _=>dz) (λ_ _ _ _ _ _=>(cg c7 T.cV apJ (ay (av 0) aB)))) aB)) (hN:=gU.nd)) (aT (fk (eN t6 (aO eV (av 9) (av 8)) (aO eF (aO eF (av 3) (av 3)) (aO eV (av 3) aX))) (aT (bG jA)) fC))))) (aV (bE (i:=10) (bu T.j8 (lH T) (hr.mono (by decide)) (ay (av 2) (ay (av 3) aB))) (hN:=gU.nd)) (aV (eB (j4 (av 4)) (bx (i:=11) (hN:=gU.nd)) (aV (Xr (i:=12) (hN:=gU.nd) (N':=["row","n","x","square"]) (pick:=[η,ζ 3,ζ 10,ζ 11]) (cC.of rfl rfl) (dF (ay (av 3) aB) T.cU) (λ_ _ _ _ _ _=>(bx (i:=0) (hN:=(by decide +kernel:τ (["row","n","x","square"]:List Str))))) (λ_ _ _ _ _ _=>dz) (λ_ _ _ _ _ _=>(aO dP (aO eF (av 0) (av 1)) (aa7 (cD cE (av 3) (av 0)) (av 2))))) (aT (eB (dF (ay (av 3) aB) T.cU) (bx (i:=13) (hN:=gU.nd)) (aT (eB (dF (ay (av 13) aB) T.cU) (bx (i:=14) (hN:=gU.nd)) (aT (fk (jP (jQ (bu T.yi (DG T) (hr.mono (by decide)) (ay (av 5) (ay (cD cE (av 12) (av 13)) (ay (cD cE (av 12) (av 14)) aB)))))) (aT (bG jA)) fC)))))))) (aT (eB (Gm (ay aX (ay (av 3) aB)) T.cU) (bx (i:=15) (hN:=gU.nd)) (aT (fk (PW.pt (wU (jP (jQ (bu T.yi (DG T) (hr.mono (by decide)) (ay (av 5) (ay (aO eF (av 3) (av 10)) (ay (aO dP (aO eF (av 3) (av 10)) (av 15)) aB)))))) (zT (jP (jQ (bu T.yi (DG T) (hr.mono (by decide)) (ay (av 5) (ay (av 10) (ay (aO dP (aO eF (av 3) (av 15)) (av 10)) aB))))))))) (aT (bG jA)) fC))))))))))) fC))))) ?_
  exact(aT (bG jA))
end
end Ev
namespace Ev
open PySem L2
theorem bL{s t:ah}{e e':Ev}{c c':aa}(h:s e c=.ok (.nx e') c'):aD s t e c=t e' c':=by rw[iG,h];rfl
theorem uf{i:Int}(h:0<=i):∃n:Nat,i=n:=⟨i.toNat,by omega⟩
def eU(j:Nat) (n:Nat) (c:aa):Prop:=c.length=n/\j<n/\∃p:Int,c[j]? = ζ (.lst [.int p])
theorem eU.set{j n:Nat}{c:aa}(h:eU j n c) (p:Int):eU j n (c.set j (.lst [.int p])):=by
 obtain⟨h1,h2,_⟩:=h;exact⟨by simp[h1],h2,p,by rw[aqn (by omega)]⟩
theorem rO{j n:Nat}{c:aa}{cZ:Int}(h:eU j n c) (h0:0<cZ) (h1:cZ<1073741824) :
  ∃(x:Int) (c':aa),0<=x/\x<cZ/\eU j n c'/\cN [.ref j,.int cZ] c=.ok (.int x) c':=by
 obtain⟨hl,hj,p,hp⟩:=id h;refine⟨p % cZ,c.set j (.lst [.int (p/cZ)]),aq2 _ (by omega),aq3 _ h0,h.set _,?_⟩
 have e1:aE (.ref j) (.int 0) c=.ok (.int p) c:=by
  unfold aE fS;simp[hp]
 have e2:lD (.ref j) (.int 0) (.int (p/cZ)) c=.ok () (c.set j (.lst [.int (p/cZ)])):=by
  unfold lD;simp[hp,gu]
 have e3:(c.set j (.lst [.int (p/cZ)])).take c.length=c.set j (.lst [.int (p/cZ)]):=by
  rw[arD];simp
 simp(disch:=omega) [cN,qT,e1,jW,qE,e2,e3]
theorem Zs(cell:Int) (c:aa):∃p:Int,ql [.int cell] c=.ok (.ref c.length) (c++[.lst [.int p]]):=by
 by_cases h:10^18<=cell
 ·refine⟨cell-10^18,?_⟩;simp(disch:=omega) [ql,qV,Mw,h];rw[if_pos (by simpa using h)]
  simp[dH]
 ·obtain⟨e',c',⟨⟨q,v1,v2,rfl⟩,rfl⟩,hf⟩:=oX (g:=az 2) (s:=(aD (aG 3 (au ck (au aW (au br (au br (au ck (ak 0) (dC (.int 2147483629))) (au aW (dC (.int 7919)) (ak 2))) (dC (.int 1))) (dC (.int 48271))) (dC (.int 2147483647)))) (aD (aG 3 (au ck (au br (au br (au aW (ak 3) (ak 3)) (au aW (dC (.int 69621)) (ak 2))) (dC (.int 7))) (dC (.int 2147483587)))) (aG 1 (au br (au aW (ak 1) (dC (.int 2147483587))) (ak 3))))))
   (λe c'=>(∃q v1 v2,e=[ζ (.int cell),ζ (.int q),v1,v2])/\c'=c) (bf 0 64) [ζ (.int cell),ζ (.int 0),η,η] c ⟨⟨0,η,η,rfl⟩,rfl⟩ (λx hx e c' ⟨⟨q,v1,v2,he⟩,hc⟩=>by
    obtain⟨i,rfl,i0,i1⟩:=lO hx;subst he;subst hc;have b0:0<=(cell % 2147483629+7919*i+1)*48271 % 2147483647:=aq2 _ (by decide)
    have b1:(cell % 2147483629+7919*i+1)*48271 % 2147483647<2147483647:=aq3 _ (by decide)
    generalize hm:(cell % 2147483629+7919*i+1)*48271 % 2147483647=m at b0 b1
    refine⟨_,[ζ (.int cell),ζ (.int (q*2147483587+(m*m+69621*i+7) % 2147483587)),ζ (.int i),ζ (.int ((m*m+69621*i+7) % 2147483587))],_,_,rfl,by simp(disch:=omega) [jW,Am,mul_r,hm],⟨⟨_,_,_,rfl⟩,rfl⟩⟩)
  refine⟨q,?_⟩;have hh:¬(1000000000000000000<=cell):=by simpa using h
  simp(disch:=omega) [ql,qV,Mw,hh];rw[hf];simp[dH]
theorem alv(ns:List Int) (k:Int) (h:0<=k) (c:aa):∃x:Int,qp [.cH ns,.int k] c=.ok (.int x) c:=by
 by_cases q:k<ns.length
 ·have hk:k.toNat<ns.length:=by omega
  refine⟨ns[k.toNat],?_⟩;have e:aE (.cH ns) (.int k) c=.ok (.int ns[k.toNat]) c:=by
   show(match dI (ns.map D.int) k with|some d=>R.ok d c|none=>R.bad)=_
   have:dI (ns.map D.int) k=ζ (.int ns[k.toNat]):=by
    have:=g8 (xs:=ns.map D.int) (j:=k.toNat) (v:=.int ns[k.toNat]) (by simp[hk])
    rw[Int.toNat_of_nonneg h]at this;exact this
   rw[this]
  simp[qp,qX,q,e]
 ·exact⟨0,by simp[qp,qX,q]⟩
theorem take2{j:Nat}{c:aa}{p cZ:Int}(hp:c[j]? = ζ (.lst [.int p])) (h0:0<cZ) (h1:cZ<1073741824):cN [.ref j,.int cZ] c=.ok (.int (p % cZ)) (c.set j (.lst [.int (p/cZ)])):=by
 have hj:j<c.length:=(apK.mp hp).1;have e1:aE (.ref j) (.int 0) c=.ok (.int p) c:=by
  unfold aE fS;simp[hp]
 have e2:lD (.ref j) (.int 0) (.int (p/cZ)) c=.ok () (c.set j (.lst [.int (p/cZ)])):=by
  unfold lD;simp[hp,gu]
 have e3:(c.set j (.lst [.int (p/cZ)])).take c.length=c.set j (.lst [.int (p/cZ)]):=by
  rw[arD];simp
 simp(disch:=omega) [cN,qT,e1,jW,qE,e2,e3]
theorem P6(l:List D):l.filter (λ_=>ξ)=l:=by simp
theorem Mj{β:Type}(m:Nat) (F:D->β):(bf 0 (m:Int)).map F=(θ m).map λi:Nat=>F (.int (i:Int)):=by
 unfold bf;rw[apV,show((m:Int)-0).toNat=m by omega]
 refine aqS λi _=>?_
 simp
def PO(j n:Nat) (os:List Nat) (c:aa):Prop:=c.length=n+1/\j<n/\(∃p:Int,c[j]? = ζ (.lst [.int p]))/\c[n]? = ζ (.lst (nD os))
def wY:af:=(kc (ak 1) (aC 2 cN (ao (ak 2) (ao (aF aY (ao (ak 1) aq)) aq))))
theorem ae3(l:List Nat) (i:Nat):(nD l).eraseIdx i=nD (l.eraseIdx i):=by
 rw[arc,arc];simp[nD,ard,atJ]
theorem BK{l:List Nat}{i:Nat}(h:i<l.length):l.Perm (l[i]::l.eraseIdx i):=by
 have e:l.take i++l[i]::l.drop (i+1)=l:=by rw[<-ass h,arb]
 rw[arc];have p:(l.take i++l[i]::l.drop (i+1)).Perm (l[i]::(l.take i++l.drop (i+1))):=atz
 rwa[e]at p
theorem abn{j n:Nat}{left:List Nat}{c:aa}{v:Option D}(hP:PO j n left c) (h1:0<left.length) (h2:left.length<1000) :
  ∃(x:Nat) (rest:List Nat) (c':aa),left.Perm (x::rest)/\PO j n rest c'/\(∀k,k≠j->k<n->c'[k]? = c[k]?)/\wY [v,ζ (.ref n),ζ (.ref j)] c=.ok (.int (x:Int)) c':=by
 obtain⟨g1,g2,⟨p,g3⟩,g4⟩:=hP;have ht:=take2 (cZ:=(left.length:Int)) g3 (by omega) (by omega)
 have x0:=aq2 p (show(left.length:Int)≠0 by omega)
 have x1:=aq3 p (show(0:Int)<(left.length:Int) by omega)
 generalize p % (left.length:Int)=x at ht x0 x1
 obtain⟨i,rfl⟩:=uf x0
 generalize hc1:c.set j (.lst [.int (p/(left.length:Int))])=c1 at ht
 have l1:c1.length=n+1:=by rw[<-hc1];simp[g1]
 have q1:c1[n]? = ζ (.lst (nD left)):=by rw[<-hc1,aqb (by omega)];exact g4
 have q0:c1[j]? = ζ (.lst [.int (p/(left.length:Int))]):=by rw[<-hc1,aqn (by omega)]
 have hi:i<left.length:=by omega
 have hlen:aY [.ref n] c=.ok (.int (left.length:Int)) c:=by
  unfold aY;dsimp only[fS];rw[g4];simp[nD]
 have hget:(nD left)[i]? = ζ (.int (left[i]:Nat)):=by simp[nD,hi]
 refine⟨left[i],left.eraseIdx i,c1.set n (.lst (nD (left.eraseIdx i))),BK hi,⟨by simp[l1],g2,⟨_,by rw[aqb (by omega)];exact q0⟩,by rw[aqn (by omega)]⟩,λk k1 k2=>by rw[aqb (by omega),<-hc1,aqb (by omega)],?_⟩
 unfold wY kc;simp only[bA,gz,gs,R.aA,x_call,bJ,fK,bI,hlen,apL,ap3,if_pos,ht,q1];rw[if_pos ⟨by omega,by rw[show(nD left).length=left.length by simp[nD]];omega,by rw[show(nD left).length=left.length by simp[nD]];omega⟩,arN,hget]
 dsimp only;rw[ae3]
theorem MN{j n:Nat}:∀(ks:List D) (v:Option D) (acc:List D) (left:List Nat) (c:aa),left.length=ks.length->left.length<1000->PO j n left c ->
  ∃(os:List Nat) (c':aa),os.Perm left/\PO j n [] c'/\(∀k,k≠j->k<n->c'[k]? = c[k]?)/\bO (λ_=>True) (az 0) aJ wY ks [v,ζ (.ref n),ζ (.ref j)] acc c=.ok (acc++nD os) c'
 |[],v,acc,left,c,hl,_,hP=>by
  have:left=[]:=atA.mp (by simpa using hl)
  subst this;exact⟨[],c,.refl _,hP,λ_ _ _=>rfl,by simp[nD]⟩
 |k::ks,v,acc,left,c,hl,h2,hP=>by
  rw[apL]at hl;obtain⟨x,rest,c1,hp,P1,f1,h1⟩:=abn (v:=ζ k) hP (by omega) h2
  have hr:rest.length+1=left.length:=by have:=hp.length_eq;simpa using this.symm
  obtain⟨os,c2,hp2,P2,f2,h⟩:=MN ks (ζ k) (acc++[.int (x:Int)]) rest c1 (by omega) (by omega) P1
  refine⟨x::os,c2,(hp2.cons x).trans hp.symm,P2,λk k1 k2=>(f2 k k1 k2).trans (f1 k k1 k2),?_⟩
  have e1:az 0 k [v,ζ (.ref n),ζ (.ref j)] c=.ok [ζ k,ζ (.ref n),ζ (.ref j)] c:=rfl;rw[kg,e1,R.aA,nL,R.aA,if_pos rfl,h1,R.aA,h,ap9];rfl
theorem abk{j:Nat}{q:Int}{c:aa}(b:0<q/\q<1000):(aG 2 (yq (ao (ak 1) aq))) [ζ (.ref j),ζ (.int q),η] c=.ok (.nx [ζ (.ref j),ζ (.int q),ζ (.ref c.length)]) (c++[.lst ((gV 0 q).map D.int)]):=by
 simp only[gm,TZ,bJ,bA,gz,gs,bI,R.aA];rw[if_pos b];rfl
theorem abj{j n:Nat}{q:Int}{l:List D}{c c':aa}(b:-4611686018427387904<=q/\q<4611686018427387904) (hl:(bf 0 q).length<ι) (hc:bO (λ_=>True) (az 0) aJ wY (bf 0 q) [η,ζ (.ref n),ζ (.ref j)] [] c=.ok l c'):(aM (aF cW (ao (aS (bg (ao (ak 1) aq)) [η,ζ 2,ζ 0] (az 0) aJ (kc (ak 1) (aC 2 cN (ao (ak 2) (ao (aF aY (ao (ak 1) aq)) aq))))) aq))) [ζ (.ref j),ζ (.int q),ζ (.ref n)] c=.ok (.rt (.tup l)) c':=by
 have hp:dB [η,ζ 2,ζ 0] [ζ (.ref j),ζ (.int q),ζ (.ref n)]=[η,ζ (.ref n),ζ (.ref j)]:=rfl;unfold wY at hc;simp only[gO,fK,bJ,er,gM,bA,gz,gs,bI,R.aA];rw[if_pos (by omega)]
 simp only[R.aA];rw[if_pos hl,hp,hc];rfl
theorem Ml(m:Nat):gV 0 (m:Int)=(θ m).map λk:Nat=>(k:Int):=by
 unfold gV;rw[show((m:Int)-0).toNat=m by omega]
 refine aqS λk _=>?_
 omega
theorem ML{j n m:Nat}{c:aa}(hP:eU j n c) (h1:1<=m) (hm:m<1000):∃os c',os.Perm (θ m)/\eU j n c'/\(∀k,k≠j->k<n->c'[k]? = c[k]?)/\fV [.ref j,.int (m:Int)] c=.ok (.tup (nD os)) c':=by
 have hs:=eK (n:=1000) (by decide)
 obtain⟨hl,hj,p,hp⟩:=hP;have e0:=abk (j:=j) (q:=(m:Int)) (c:=c) (by omega)
 have hr:(gV 0 (m:Int)).map D.int=nD (θ m):=by rw[Ml];simp[nD]
 rw[hr]at e0;have P0:PO j n (θ m) (c++[.lst (nD (θ m))]):=⟨by simp[hl],hj,⟨p,by rw[ap8 (by omega)];exact hp⟩,by rw[aqi (by omega),hl];simp⟩
 obtain⟨os,c2,ho,P2,f2,hc⟩:=MN (bf 0 (m:Int)) η [] (θ m) _ (by rw[fM,aqj];omega) (by rw[aqj];omega) P0
 rw[apS]at hc;have e1:=abj (q:=(m:Int)) (by omega) (by rw[fM];omega) hc
 have hb:vp=aD (aG 2 (yq (ao (ak 1) aq))) (aM (aF cW (ao (aS (bg (ao (ak 1) aq)) [η,ζ 2,ζ 0] (az 0) aJ (kc (ak 1) (aC 2 cN (ao (ak 2) (ao (aF aY (ao (ak 1) aq)) aq))))) aq))):=rfl;have es:cT 3 [D.ref j,.int (m:Int)]=[ζ (.ref j),ζ (.int (m:Int)),η]:=rfl;obtain⟨l3,_,⟨p3,q3⟩,_⟩:=P2;refine⟨os,c2.take n,ho,⟨by rw[aqv];omega,hj,p3,by rw[ase hj];exact q3⟩,λk k1 k2=>by rw[ase k2,f2 k k1 k2,ap8 (by omega)],?_⟩
 rw[hl]at e0;rw[fV,e7,hb,es,bL e0,e1];simp only[R.aA];rw[wG,if_pos (xj os),hl]
theorem DE{j n m:Nat}{c:aa}(hP:eU j n c) (h1:1<=m) (hm:m<1000):∃os c',os.Perm (θ m)/\eU j n c'/\fV [.ref j,.int (m:Int)] c=.ok (.tup (nD os)) c' :=
 let⟨os,c',h1,h2,_,h3⟩:=ML hP h1 hm
 ⟨os,c',h1,h2,h3⟩
theorem C9{s t:ah}{e:Ev}{c c':aa}{d:D}(h:s e c=.ok (.rt d) c'):aD s t e c=.ok (.rt d) c':=by
 rw[iG,h];rfl
def It(d:D):Prop:=(∃i:Int,d=.int i)\/d=.bl ξ\/d=.aH\/(∃z,d=.str z)\/∃l,d=.tup l
def i7(q:Int):D->Bool
 |.int i=>decide (0<=i)&&decide (i<=q-1)
 |_=>Δ
def xP:D->Bool
 |.int _=>ξ
 |_=>Δ
theorem Ud{d:D}(h:It d) (c:aa):uw [d] c=.ok (.bl (xP d)) c:=by
 have tu:∀l,cK [.tup l,.ty "int"] c=.ok (.bl Δ) c:=λ_=>rfl
 rcases h with⟨i,rfl⟩|rfl|rfl|⟨z,rfl⟩|⟨l,rfl⟩<;>simp[uw,pJ,xP,tu]
theorem agR{d:D}(h:xP d=Δ) (q:Int):i7 q d=Δ:=by
 cases d<;>first|(cases h;done)|rfl
theorem agQ{d:D}(h:xP d=ξ):∃i,d=.int i:=by
 cases d<;>first|(cases h;done)|exact⟨_,rfl⟩
theorem Ub{d:D}(h:It d) (q:Int) (c:aa):gY [d,.int 0,.int (q-1)] c=.ok (.bl (i7 q d)) c:=by
 have hw:=Ud h c;cases hi:xP d with
 |false =>
  rw[hi]at hw;rw[agR hi];simp[gY,mq,hw]
 |true =>
  obtain⟨i,rfl⟩:=agQ hi;rw[hi]at hw
  by_cases q0:0<=i<;>simp[gY,mq,hw,i7,q0]
theorem R1{a:af}{T:D}{q:Int}{c:aa}(ha:∀d,It d->a [ζ d,ζ T] c=.ok (.bl (i7 q d)) c):∀(l:List D) (v:Option D) (acc:List D),(∀d∈l,It d)->bO (λ_=>True) (az 0) aJ a l [v,ζ T] acc c=.ok (acc++(l.map (i7 q)).map D.bl) c
 |[],v,acc,_=>by simp
 |d::l,v,acc,h=>by
  have h1:az 0 d [v,ζ T] c=.ok [ζ d,ζ T] c:=rfl;rw[kg,h1,R.aA,nL,R.aA,if_pos rfl,ha d (h d (.head _)),R.aA,R1 ha l _ _ (λz hz=>h z (.tail _ hz)),ap9]
  rfl
theorem J6(l:List Bool) (c:aa):fZ [.lst (l.map D.bl)] c=.ok (.bl (l.all id)) c:=by
 unfold fZ qd;dsimp only;rw[JW]
theorem tS:∀{A B:List Nat},A.Nodup->(∀x∈A,x∈B)->A.length=B.length->A.Perm B
 |[],B,_,_,hl=>by
  have:B=[]:=atA.mp (by simpa using hl.symm)
  subst this;exact .refl _
 |a::A,B,hn,hs,hl=>by
  obtain⟨h1,h2⟩:=aqu.mp hn;have ha:=hs a (.head _);have hp:=List.perm_cons_erase ha;have he:(B.erase a).length=B.length-1:=atf ha;have ih:=tS (A:=A) (B:=B.erase a) h2 (λx hx=>(ate (λe:x=a=>h1 (by rw[<-e];exact hx))).mpr (hs x (.tail _ hx))) (by rw[he];rw[apL]at hl;omega)
  exact(ih.cons a).trans hp.symm
theorem VP{ps:List Nat}{m:Nat}(hl:ps.length=m) (hm:∀p∈ps,p<m):(cM ps).length=m↔ps.Perm (θ m):=by
 have hn:=xo (nN ps)
 constructor
 ·intro h;have h1:(cM ps).Perm ps:=tS hn (λx hx=>kL.mp hx) (by omega)
  have h2:(cM ps).Perm (θ m):=tS hn (λx hx=>apx.mpr (hm x (kL.mp hx))) (by rw[aqj];exact h)
  exact h1.symm.trans h2
 ·intro h;have hd:ps.Nodup:=h.nodup_iff.mpr arE;have h1:ps.Perm (cM ps):=(atD hd hn).mpr λx=>kL.symm
  rw[<-h1.length_eq,hl]
theorem DZ(ps:List Nat):nD ps=(ps.map λk:Nat=>(k:Int)).map D.int:=by simp[nD]
theorem IZ:∀{ps qs:List Nat},ps.map (λk:Nat=>(k:Int))=qs.map (λk:Nat=>(k:Int))->ps=qs
 |[],[],_=>rfl
 |[],q::qs,h=>by simp at h
 |p::ps,[],h=>by simp at h
 |p::ps,q::qs,h=>by
  rw[apE,apE]at h;obtain⟨h1,h2⟩:=atF h;rw[IZ h2,show p=q by omega]
theorem OB:∀{a b:List Int},a.map D.int=b.map D.int->a=b
 |[],[],_=>rfl
 |[],y::b,h=>by simp at h
 |x::a,[],h=>by simp at h
 |x::a,y::b,h=>by
  rw[apE,apE]at h;obtain⟨h1,h2⟩:=atF h;cases h1;rw[OB h2]
theorem ae2{ps qs:List Nat}(h:nD ps=nD qs):ps=qs:=by
 rw[DZ,DZ]at h;exact IZ (OB h)
theorem R0{m:Nat}:∀{xs:List D},(xs.map (i7 (m:Int))).all id=ξ->∃ps:List Nat,xs=nD ps/\∀p∈ps,p<m
 |[],_=>⟨[],rfl,λp hp=>(by cases hp)⟩
 |d::xs,h=>by
  rw[apE,List.all_cons,apN]at h;obtain⟨ps,rfl,hp⟩:=R0 h.2;have hd:i7 (m:Int) d=ξ:=h.1;cases d with
  |int i =>
   simp only[i7,apN,decide_eq_true_eq]at hd;obtain⟨k,rfl⟩:=uf hd.1;exact⟨k::ps,rfl,λp eY=>by
    rcases apu.mp eY with rfl|h'
    ·omega
    ·exact hp p h'⟩
  |_=>cases hd
theorem My{m:Nat}:∀{ps:List Nat},(∀p∈ps,p<m)->((nD ps).map (i7 (m:Int))).all id=ξ
 |[],_=>rfl
 |p::ps,h=>by
  have h1:=My (ps:=ps) λq hq=>h q (.tail _ hq)
  have h2:=h p (.head _);show(i7 (m:Int) (.int (p:Int))&&((nD ps).map (i7 (m:Int))).all id)=ξ;rw[h1];simp[i7];omega
def anp(m:Nat) (xs:List D):Prop:=∃ps:List Nat,xs=nD ps/\ps.Perm (θ m)
theorem agU{xs:List D}{q:Int}(h:¬(xs.length:Int)=q) (c:aa):(bU (iE (d8 (aQ (aF cK (ao (ak 0) (ao (dC (.ty "tuple")) aq))))) (aQ (au fD (aF aY (ao (ak 0) aq)) (ak 1)))) (aM (dC (.bl Δ))) b8) [ζ (.tup xs),ζ (.int q)] c=.ok (.rt (.bl Δ)) c:=by
 simp[h]
theorem agT{xs:List D}{q:Int}(h:(xs.length:Int)=q) (c:aa):(bU (iE (d8 (aQ (aF cK (ao (ak 0) (ao (dC (.ty "tuple")) aq))))) (aQ (au fD (aF aY (ao (ak 0) aq)) (ak 1)))) (aM (dC (.bl Δ))) b8) [ζ (.tup xs),ζ (.int q)] c=.ok (.nx [ζ (.tup xs),ζ (.int q)]) c:=by
 simp[h]
theorem Ox{xs:List D}{q:Int}{l:List Bool}{ps:List Nat}{n:Int}{c:aa}(hl:xs.length<ι) (hc:bO (λ_=>True) (az 0) aJ (aC 3 gY (ao (ak 0) (ao (dC (.int 0)) (ao (au bz (ak 1) (dC (.int 1))) aq)))) xs [η,ζ (.int q)] [] c=.ok (l.map D.bl) c) (hs:l.all id=ξ->jD c (.tup xs)=ζ ps) (hn:((cM ps).length:Int)=n) :
  (aM (iR (aF fZ (ao (aS (cL (ak 0)) [η,ζ 1] (az 0) aJ (aC 3 gY (ao (ak 0) (ao (dC (.int 0)) (ao (au bz (ak 1) (dC (.int 1))) aq))))) aq)) (au cB (uU (ao (ak 0) aq)) (ak 1)))) [ζ (.tup xs),ζ (.int q)] c=.ok (.rt (.bl (l.all id&&decide (n=q)))) c:=by
 have hp:dB [η,ζ 1] [ζ (D.tup xs),ζ (.int q)]=[η,ζ (.int q)]:=rfl;simp only[gO,KN,fK,bJ,er,zd,bA,gz,gs,bI,R.aA];rw[if_pos hl,hp,hc];simp only[R.aA,J6];cases hA:l.all id with
 |false=>simp
 |true =>
  have h2:=hs hA;simp only[if_true,ez,R.aA,bA,gz,gs];unfold uU;simp only[bJ,bA,gz,bI,R.aA,h2,hn,T5,atg]
theorem ahw{m:Nat}(hm:m<60) {xs:List D}(hx:∀d∈xs,It d) (hl:xs.length<=20) (c:aa):∃b,gr [.tup xs,.int (m:Int)] c=.ok (.bl b) c/\(b=ξ↔anp m xs):=by
 have hs:=eK (n:=1000) (by decide)
 have hb:vE=aD (bU (iE (d8 (aQ (aF cK (ao (ak 0) (ao (dC (.ty "tuple")) aq))))) (aQ (au fD (aF aY (ao (ak 0) aq)) (ak 1)))) (aM (dC (.bl Δ))) b8) (aM (iR (aF fZ (ao (aS (cL (ak 0)) [η,ζ 1] (az 0) aJ (aC 3 gY (ao (ak 0) (ao (dC (.int 0)) (ao (au bz (ak 1) (dC (.int 1))) aq))))) aq)) (au cB (uU (ao (ak 0) aq)) (ak 1)))):=rfl;have es:∀q:Int,cT 2 [.tup xs,.int q]=[ζ (.tup xs),ζ (.int q)]:=λ_=>rfl
 by_cases h1:(xs.length:Int)=(m:Int)
 ·have hc:=R1 (a:=(aC 3 gY (ao (ak 0) (ao (dC (.int 0)) (ao (au bz (ak 1) (dC (.int 1))) aq))))) (T:=.int (m:Int)) (q:=(m:Int)) (c:=c) (λd h=>by
   have:=Ub h (m:Int) c
   generalize (m:Int)=q at *
   simp[this]) xs η [] hx
  rw[apS]at hc;have O1:∀{l:List Bool}{n:Int},(aM (iR (aF fZ (ao (aS (cL (ak 0)) [η,ζ 1] (az 0) aJ (aC 3 gY (ao (ak 0) (ao (dC (.int 0)) (ao (au bz (ak 1) (dC (.int 1))) aq))))) aq)) (au cB (uU (ao (ak 0) aq)) (ak 1)))) [ζ (.tup xs),ζ (.int (m:Int))] c=.ok (.rt (.bl (l.all id&&decide (n=(m:Int))))) c->gr [.tup xs,.int (m:Int)] c=.ok (.bl (l.all id&&decide (n=(m:Int)))) c:=fun{l n} h=>by
   rw[gr,e7,hb,es,bL (agT h1 c),h]
   generalize (l.all id&&decide (n=(m:Int)))=z
   simp
  cases hA:(xs.map (i7 (m:Int))).all id with
  |false =>
   have h:=O1 (Ox (ps:=[]) (n:=0) (by omega) hc (λh=>by rw[hA]at h;cases h) rfl)
   refine⟨_,h,?_⟩;rw[hA,asa];refine⟨λh=>(by cases h),fun⟨ps,e,hp⟩=>?_⟩
   subst e;rw[My λp eY=>apx.mp (hp.mem_iff.mp eY)]at hA
   exact hA.symm
  |true =>
   obtain⟨ps,rfl,hp⟩:=R0 hA;have hpl:ps.length=m:=by
    have:(nD ps).length=ps.length:=by simp[nD]
    omega
   have h64:(cM ps).length<64:=by
    have:=xq (xo (nN ps)) (λx hx=>kL.mp hx)
    omega
   have hN:jD c (.tup (nD ps))=ζ ps:=DW h64 λx hx=>by have:=hp x hx;omega
   have h:=O1 (Ox (ps:=ps) (n:=((cM ps).length:Int)) (by omega) hc (λ_=>hN) rfl)
   refine⟨_,h,?_⟩;rw[hA,atg,decide_eq_true_eq];have hk:=VP hpl hp;refine⟨λh=>⟨ps,rfl,hk.mp (by omega)⟩,fun⟨qs,e,hq⟩=>?_⟩
   cases ae2 e;have:=hk.mpr hq;omega
 ·refine⟨Δ,?_,λh=>(by cases h),fun⟨ps,e,hp⟩=>?_⟩
  ·rw[gr,e7,hb,es,C9 (agU h1 c)];simp
  ·subst e;have:=hp.length_eq;rw[aqj]at this;exact absurd (by simp[nD,this]) h1
def aU(n:Nat) (s:Nat->Nat->Nat):D:=.tup ((θ n).map λi=>.tup (nD ((θ n).map (s i))))
structure dW (n:Nat) (s:Nat->Nat->Nat):Prop where
 row:∀i,i<n->((θ n).map (s i)).Perm (θ n)
 col:∀k,k<n->((θ n).map λi=>s i k).Perm (θ n)
theorem agK{ps:List Nat}:∀d∈nD ps,It d:=λd hd=>by
 obtain⟨k,_,rfl⟩:=apv.mp hd;exact .inl ⟨_,rfl⟩
theorem OU{n:Nat}(hn:n<18) {ps:List Nat}(hp:ps.Perm (θ n)) (c:aa):gr [.tup (nD ps),.int (n:Int)] c=.ok (.bl ξ) c:=by
 have hl:ps.length=n:=by have:=hp.length_eq;simpa using this
 obtain⟨b,h,i⟩:=ahw (m:=n) (by omega) (xs:=nD ps) agK (by simp[nD,hl];omega) c
 have:b=ξ:=i.mpr ⟨ps,rfl,hp⟩;rw[this]at h;exact h
theorem QB{n k:Nat}(s:Nat->Nat->Nat) (hk:k<n) (c:aa):∀(l:List Nat) (v:Option D) (acc:List D),bO (λ_=>True) (az 0) aJ (au aE (ak 0) (ak 1)) (l.map λi=>.tup (nD ((θ n).map (s i)))) [v,ζ (.int (k:Int))] acc c=.ok (acc++nD (l.map λi=>s i k)) c
 |[],v,acc=>by simp[nD]
 |i::l,v,acc=>by
  have h1:az 0 (.tup (nD ((θ n).map (s i)))) [v,ζ (.int (k:Int))] c=.ok [ζ (.tup (nD ((θ n).map (s i)))),ζ (.int (k:Int))] c:=rfl;have h2:aE (.tup (nD ((θ n).map (s i)))) (.int (k:Int)) c=.ok (.int (s i k:Nat)) c:=by
   rw[CO,g8 (v:=.int (s i k:Nat)) (by simp[nD,hk])]
  have hE:(au aE (ak 0) (ak 1)) [ζ (.tup (nD ((θ n).map (s i)))),ζ (.int (k:Int))] c=.ok (.int (s i k:Nat)) c:=by
   generalize D.tup (nD ((θ n).map (s i)))=T at *
   simp only[ez,bA,gz,gs,R.aA,h2]
  rw[apE,kg,h1,R.aA,nL,R.aA,if_pos rfl,hE,R.aA,QB s hk c l,ap9];rfl
theorem alo{n k:Nat}(s:Nat->Nat->Nat) (hn:n<100) (hk:k<n) (c:aa):kP [aU n s,.int (k:Int)] c=.ok (.tup (nD ((θ n).map λi=>s i k))) c:=by
 have hs:=eK (n:=1000) (by decide)
 have hc:=QB s hk c (θ n) η [];rw[apS]at hc;have e:(aM (aF cW (ao (aS (cL (ak 0)) [η,ζ 1] (az 0) aJ (au aE (ak 0) (ak 1))) aq))) [ζ (aU n s),ζ (.int (k:Int))] c=.ok (.rt (.tup (nD ((θ n).map λi=>s i k)))) c:=by
  have hp:dB [η,ζ 1] [ζ (aU n s),ζ (.int (k:Int))]=[η,ζ (.int (k:Int))]:=rfl;have hd:cL (ak 0) [ζ (aU n s),ζ (.int (k:Int))] c=.ok ⟨(θ n).map λi=>.tup (nD ((θ n).map (s i))),λ_=>True⟩ c:=rfl
  simp only[gO,fK,bJ,er,hd,bI,R.aA];rw[if_pos (by rw[apC,aqj];omega),hp,hc]
  rfl
 have hb:vI=(aM (aF cW (ao (aS (cL (ak 0)) [η,ζ 1] (az 0) aJ (au aE (ak 0) (ak 1))) aq))):=rfl;rw[kP,e7,hb];have es:cT 2 [aU n s,.int (k:Int)]=[ζ (aU n s),ζ (.int (k:Int))]:=rfl;rw[es,e];simp only[R.aA];rw[wG,if_pos (xj _),aqy]
theorem Me{n:Nat}{a:af}{c:aa}{q:Int}(f:Nat->D):∀(l:List Nat) (v:Option D) (acc:List D),(∀i∈l,a [ζ (f i),ζ (.int q)] c=.ok (.bl ξ) c)->bO (λ_=>True) (az 0) aJ a (l.map f) [v,ζ (.int q)] acc c=.ok (acc++(l.map λ_=>ξ).map D.bl) c
 |[],v,acc,_=>by simp
 |i::l,v,acc,h=>by
  have h1:az 0 (f i) [v,ζ (.int q)] c=.ok [ζ (f i),ζ (.int q)] c:=rfl;rw[apE,kg,h1,R.aA,nL,R.aA,if_pos rfl,h i (.head _),R.aA,Me (n:=n) f l _ _ (λz hz=>h z (.tail _ hz)),ap9]
  rfl
theorem all_true{α:Type}(l:List α):(l.map λ_=>ξ).all id=ξ:=by
 induction l with
 |nil=>rfl
 |cons a l ih=>exact ih
theorem VS{S:D}{xs:List D}{q:Int}{l1 l2:List Bool}{c:aa}(hS:S=.tup xs) (hq:(xs.length:Int)=q) (b:1<=q/\q<=7) (hl:xs.length<ι) (hlr:(bf 0 q).length<ι) (h1:bO (λ_=>True) (az 0) aJ (aC 2 gr (ao (ak 0) (ao (ak 1) aq))) xs [η,ζ (.int q)] [] c=.ok (l1.map D.bl) c) (a1:l1.all id=ξ) (h2:bO (λ_=>True) (az 0) aJ (aC 2 gr (ao (aC 2 kP (ao (ak 2) (ao (ak 0) aq))) (ao (ak 1) aq))) (bf 0 q) [η,ζ (.int q),ζ S] [] c=.ok (l2.map D.bl) c) (a2:l2.all id=ξ):qq [S] c=.ok (.bl ξ) c:=by
 subst hS;have hb:vC=aD (bU (iE (d8 (aQ (aF cK (ao (ak 0) (ao (dC (.ty "tuple")) aq))))) (d8 (aQ (qI lT lT (dC (.int 1)) (aF aY (ao (ak 0) aq)) (dC (.int 7)))))) (aM (dC (.bl Δ))) b8) (aD (aG 1 (aF aY (ao (ak 0) aq))) (aD (bU (d8 (aQ (aF fZ (ao (aS (cL (ak 0)) [η,ζ 1] (az 0) aJ (aC 2 gr (ao (ak 0) (ao (ak 1) aq)))) aq)))) (aM (dC (.bl Δ))) b8) (aM (aF fZ (ao (aS (bg (ao (ak 1) aq)) [η,ζ 1,ζ 0] (az 0) aJ (aC 2 gr (ao (aC 2 kP (ao (ak 2) (ao (ak 0) aq))) (ao (ak 1) aq)))) aq))))):=rfl;have es:cT 2 [D.tup xs]=[ζ (.tup xs),η]:=rfl;have e0:(bU (iE (d8 (aQ (aF cK (ao (ak 0) (ao (dC (.ty "tuple")) aq))))) (d8 (aQ (qI lT lT (dC (.int 1)) (aF aY (ao (ak 0) aq)) (dC (.int 7)))))) (aM (dC (.bl Δ))) b8) [ζ (.tup xs),η] c=.ok (.nx [ζ (.tup xs),η]) c:=by
  have hle:aY [.tup xs] c=.ok (.int q) c:=by rw[CN,hq]
  simp[hq,b.1,b.2]
 have e1:(aG 1 (aF aY (ao (ak 0) aq))) [ζ (.tup xs),η] c=.ok (.nx [ζ (.tup xs),ζ (.int q)]) c:=by simp[hq]
 have e2:(bU (d8 (aQ (aF fZ (ao (aS (cL (ak 0)) [η,ζ 1] (az 0) aJ (aC 2 gr (ao (ak 0) (ao (ak 1) aq)))) aq)))) (aM (dC (.bl Δ))) b8) [ζ (.tup xs),ζ (.int q)] c=.ok (.nx [ζ (.tup xs),ζ (.int q)]) c:=by
  have hp:dB [η,ζ 1] [ζ (.tup xs),ζ (.int q)]=[η,ζ (.int q)]:=rfl;simp only[iV,CM,zf,fK,bJ,er,zd,bA,gz,gs,bI,R.aA];rw[if_pos hl,hp,h1];simp only[R.aA,J6,a1];simp
 have e3:(aM (aF fZ (ao (aS (bg (ao (ak 1) aq)) [η,ζ 1,ζ 0] (az 0) aJ (aC 2 gr (ao (aC 2 kP (ao (ak 2) (ao (ak 0) aq))) (ao (ak 1) aq)))) aq))) [ζ (.tup xs),ζ (.int q)] c=.ok (.rt (.bl ξ)) c:=by
  have hp:dB [η,ζ 1,ζ 0] [ζ (.tup xs),ζ (.int q)]=[η,ζ (.int q),ζ (.tup xs)]:=rfl;simp only[gO,fK,bJ,er,gM,bA,gz,gs,bI,R.aA];rw[if_pos (by omega)]
  simp only[R.aA];rw[if_pos hlr,hp,h2];simp only[R.aA,J6,a2]
 rw[qq,e7,hb,es,bL e0,bL e1,bL e2,e3];simp
theorem VR{n:Nat}{s:Nat->Nat->Nat}(h:dW n s) (h1:1<=n) (h7:n<=7) (c:aa):qq [aU n s] c=.ok (.bl ξ) c:=by
 have hs:=eK (n:=1000) (by decide)
 have c1:=Me (n:=n) (a:=(aC 2 gr (ao (ak 0) (ao (ak 1) aq)))) (c:=c) (q:=(n:Int)) (λi=>.tup (nD ((θ n).map (s i)))) (θ n) η [] (λi hi=>by
  have:=OU (by omega) (h.row i (apx.mp hi)) c
  generalize D.tup (nD ((θ n).map (s i)))=T at *
  generalize (n:Int)=q at *
  simp[this])
 have c2:bO (λ_=>True) (az 0) aJ (aC 2 gr (ao (aC 2 kP (ao (ak 2) (ao (ak 0) aq))) (ao (ak 1) aq))) (bf 0 (n:Int)) [η,ζ (.int (n:Int)),ζ (aU n s)] [] c=.ok (((θ n).map λ_=>ξ).map D.bl) c:=by
  have:=pB (c:=c) (g:=az 0) (t:=aJ) (a:=(aC 2 gr (ao (aC 2 kP (ao (ak 2) (ao (ak 0) aq))) (ao (ak 1) aq)))) (λe=>∃v,e=[v,ζ (.int (n:Int)),ζ (aU n s)]) (λ_=>ξ) (λ_=>.bl ξ) (bf 0 (n:Int)) [η,ζ (.int (n:Int)),ζ (aU n s)] [] ⟨_,rfl⟩ (λd hd e ⟨v,he⟩=>by
   subst he;obtain⟨k',rfl,k0,k1⟩:=lO hd;obtain⟨k,rfl⟩:=uf k0;refine⟨_,rfl,⟨_,rfl⟩,rfl,λ_=>?_⟩
   have g1:=alo s (by omega) (show k<n by omega) c
   have g2:=OU (by omega) (h.col k (by omega)) c
   show(aC 2 gr (ao (aC 2 kP (ao (ak 2) (ao (ak 0) aq))) (ao (ak 1) aq))) [ζ (.int (k:Int)),ζ (.int (n:Int)),ζ (aU n s)] c=_
   generalize aU n s=S at *
   generalize D.tup (nD ((θ n).map λi=>s i k))=T at *
   generalize (n:Int)=q at *
   simp[g1,g2])
  rw[this,apS,P6,Mj,apV];rfl
 rw[apS]at c1;exact VS rfl (by simp) (by omega) (by simp;omega) (by rw[fM];omega) c1 (all_true _) c2 (all_true _)
theorem tO{E:List (Option D)}{a:af}{n:Nat}{c:aa}(F:Nat->D) (h:∀k:Nat,k<n->a (ζ (.int (k:Int))::E) c=.ok (F k) c):bO (λ_=>True) (az 0) aJ a (bf 0 (n:Int)) (η::E) [] c=.ok ((θ n).map F) c:=by
 have:=pB (c:=c) (g:=az 0) (t:=aJ) (a:=a) (λe=>∃v,e=v::E) (λ_=>ξ) (λd=>match d with|.int k=>F k.toNat|d=>d) (bf 0 (n:Int)) (η::E) [] ⟨_,rfl⟩ (λd hd e ⟨v,he⟩=>by
  subst he;obtain⟨k',rfl,k0,k1⟩:=lO hd;obtain⟨k,rfl⟩:=uf k0;exact⟨_,rfl,⟨_,rfl⟩,rfl,λ_=>h k (by omega)⟩)
 rw[this,apS,P6,Mj]
 congr 1
def eE(n:Nat) (r:Nat->Nat->Nat) (i:Nat):List Nat:=(θ n).map (r i)
def kr(n:Nat) (r:Nat->Nat->Nat):D:=.lst ((θ n).map λi=>.lst (nD (eE n r i)))
theorem Dm(n:Nat) (r:Nat->Nat->Nat) (i:Nat):((θ n).map λk=>D.int (r i k:Nat))=nD (eE n r i):=by simp[nD,eE]
theorem afF:∀n,n<8->∀b,b<7->cM ((θ n).map λi=>(b*i+0) % n)=θ n->(∀i,i<n->((θ n).map λk=>(b*i+k) % n).Perm (θ n))/\(∀k,k<n->((θ n).map λi=>(b*i+k) % n).Perm (θ n)):=by decide +kernel
theorem afE:∀n,n<8->(∀i,i<n->((θ n).map λk=>(i+k) % n).Perm (θ n))/\(∀k,k<n->((θ n).map λi=>(i+k) % n).Perm (θ n)):=by decide +kernel
def nJ(i k:Nat):Nat:=(Builtin.bitXor (i:Int) (k:Int)).toNat
theorem Ob:(∀i,i<4->((θ 4).map (nJ i)).Perm (θ 4))/\(∀k,k<4->((θ 4).map λi=>nJ i k).Perm (θ 4)):=by decide +kernel
theorem Tw:∀i:Nat,i<4->∀k:Nat,k<4->Builtin.bitXor (i:Int) (k:Int)=((nJ i k:Nat):Int):=by decide +kernel
def six:List (List Nat):=[[0,1,2,3,4,5],[1,0,3,2,5,4],[2,4,0,5,1,3],[3,5,1,4,0,2],[4,2,5,0,3,1],[5,3,4,1,2,0]]
def jw(i k:Nat):Nat:=(six.getD i []).getD k 0
theorem Oa:(∀i,i<6->((θ 6).map (jw i)).Perm (θ 6))/\(∀k,k<6->((θ 6).map λi=>jw i k).Perm (θ 6)):=by decide +kernel
theorem alW{q i:Int}{l:List D}{c:aa}(b:-4611686018427387904<=q/\q<4611686018427387904) (hl:(bf 0 q).length<ι) (h:bO (λ_=>True) (az 0) aJ (au nK (ak 1) (ak 0)) (bf 0 q) [η,ζ (.int i)] [] c=.ok l c):(aS (bg (ao (ak 1) aq)) [η,ζ 0] (az 0) aJ (au nK (ak 1) (ak 0))) [ζ (.int i),ζ (.int q)] c=.ok (.lst l) c:=by
 have hp:dB [η,ζ 0] [ζ (.int i),ζ (.int q)]=[η,ζ (.int i)]:=rfl;simp only[er,gM,bJ,bA,gz,gs,bI,R.aA];rw[if_pos (by omega)]
 simp only[R.aA];rw[if_pos hl,hp,h];rfl
theorem alF{q b' i:Int}{l:List D}{c:aa}(b:-4611686018427387904<=q/\q<4611686018427387904) (hl:(bf 0 q).length<ι) (h:bO (λ_=>True) (az 0) aJ (au ck (au br (au aW (ak 2) (ak 3)) (ak 0)) (ak 1)) (bf 0 q) [η,ζ (.int q),ζ (.int b'),ζ (.int i)] [] c=.ok l c):(aS (bg (ao (ak 1) aq)) [η,ζ 1,ζ 2,ζ 0] (az 0) aJ (au ck (au br (au aW (ak 2) (ak 3)) (ak 0)) (ak 1))) [ζ (.int i),ζ (.int q),ζ (.int b')] c=.ok (.lst l) c:=by
 have hp:dB [η,ζ 1,ζ 2,ζ 0] [ζ (.int i),ζ (.int q),ζ (.int b')]=[η,ζ (.int q),ζ (.int b'),ζ (.int i)]:=rfl;simp only[er,gM,bJ,bA,gz,gs,bI,R.aA];rw[if_pos (by omega)]
 simp only[R.aA];rw[if_pos hl,hp,h];rfl
def yy:af:=(aS (bg (ao (ak 1) aq)) [η,ζ 1,ζ 2,ζ 0] (az 0) aJ (au ck (au br (au aW (ak 2) (ak 3)) (ak 0)) (ak 1)))
def yC:af:=(aS (bg (ao (ak 1) aq)) [η,ζ 0] (az 0) aJ (au nK (ak 1) (ak 0)))
def qM:af:=(aS (bg (ao (ak 1) aq)) [η,ζ 1,ζ 0] (az 0) aJ (au ck (au br (ak 2) (ak 0)) (ak 1)))
theorem alV{q:Int}{l:List D}{a0 a2 a3 a4 a5 a6:Option D}{c:aa}(b:-4611686018427387904<=q/\q<4611686018427387904) (hl:(bf 0 q).length<ι) (h:bO (λ_=>True) (az 0) aJ yC (bf 0 q) [η,ζ (.int q)] [] c=.ok l c):(aG 2 (aS (bg (ao (ak 1) aq)) [η,ζ 1] (az 0) aJ yC)) [a0,ζ (.int q),a2,a3,a4,a5,a6] c=.ok (.nx [a0,ζ (.int q),ζ (.lst l),a3,a4,a5,a6]) c:=by
 have hp:dB [η,ζ 1] [a0,ζ (.int q),a2,a3,a4,a5,a6]=[η,ζ (.int q)]:=rfl;simp only[gm,er,gM,bJ,bA,gz,gs,bI,R.aA];rw[if_pos (by omega)]
 simp only[R.aA];rw[if_pos hl,hp,h];rfl
theorem alA{q:Int}{l:List D}{a0 a2 a3 a4 a5 a6:Option D}{c:aa}(b:-4611686018427387904<=q/\q<4611686018427387904) (hl:(bf 0 q).length<ι) (h:bO (λ_=>True) (az 0) aJ qM (bf 0 q) [η,ζ (.int q)] [] c=.ok l c):(aG 2 (aS (bg (ao (ak 1) aq)) [η,ζ 1] (az 0) aJ qM)) [a0,ζ (.int q),a2,a3,a4,a5,a6] c=.ok (.nx [a0,ζ (.int q),ζ (.lst l),a3,a4,a5,a6]) c:=by
 have hp:dB [η,ζ 1] [a0,ζ (.int q),a2,a3,a4,a5,a6]=[η,ζ (.int q)]:=rfl;simp only[gm,er,gM,bJ,bA,gz,gs,bI,R.aA];rw[if_pos (by omega)]
 simp only[R.aA];rw[if_pos hl,hp,h];rfl
theorem alE{q b':Int}{l:List D}{a0 a2 a4 a5 a6:Option D}{c:aa}(b:-4611686018427387904<=q/\q<4611686018427387904) (hl:(bf 0 q).length<ι) (h:bO (λ_=>True) (az 0) aJ yy (bf 0 q) [η,ζ (.int q),ζ (.int b')] [] c=.ok l c):(aG 2 (aS (bg (ao (ak 1) aq)) [η,ζ 1,ζ 3] (az 0) aJ yy)) [a0,ζ (.int q),a2,ζ (.int b'),a4,a5,a6] c=.ok (.nx [a0,ζ (.int q),ζ (.lst l),ζ (.int b'),a4,a5,a6]) c:=by
 have hp:dB [η,ζ 1,ζ 3] [a0,ζ (.int q),a2,ζ (.int b'),a4,a5,a6]=[η,ζ (.int q),ζ (.int b')]:=rfl;simp only[gm,er,gM,bJ,bA,gz,gs,bI,R.aA];rw[if_pos (by omega)]
 simp only[R.aA];rw[if_pos hl,hp,h];rfl
theorem alB{q i:Int}{l:List D}{c:aa}(b:-4611686018427387904<=q/\q<4611686018427387904) (hl:(bf 0 q).length<ι) (h:bO (λ_=>True) (az 0) aJ (au ck (au br (ak 2) (ak 0)) (ak 1)) (bf 0 q) [η,ζ (.int q),ζ (.int i)] [] c=.ok l c):qM [ζ (.int i),ζ (.int q)] c=.ok (.lst l) c:=by
 have hp:dB [η,ζ 1,ζ 0] [ζ (.int i),ζ (.int q)]=[η,ζ (.int q),ζ (.int i)]:=rfl;unfold qM;simp only[er,gM,bJ,bA,gz,gs,bI,R.aA];rw[if_pos (by omega)]
 simp only[R.aA];rw[if_pos hl,hp,h];rfl
theorem alC{q b' i k z w:Int}{c:aa}(m1:aW (.int b') (.int i) c=.ok (.int z) c) (m2:ck (.int (z+k)) (.int q) c=.ok (.int w) c):(au ck (au br (au aW (ak 2) (ak 3)) (ak 0)) (ak 1)) [ζ (.int k),ζ (.int q),ζ (.int b'),ζ (.int i)] c=.ok (.int w) c:=by
 simp only[ez,bA,gz,gs,R.aA,m1,lz,m2]
theorem aly{q i k w:Int}{c:aa}(m2:ck (.int (i+k)) (.int q) c=.ok (.int w) c):(au ck (au br (ak 2) (ak 0)) (ak 1)) [ζ (.int k),ζ (.int q),ζ (.int i)] c=.ok (.int w) c:=by
 simp only[ez,bA,gz,gs,R.aA,lz,m2]
theorem NR{x q w:Int}(c:aa) (hq:0<q) (h:x % q=w):ck (.int x) (.int q) c=.ok (.int w) c:=by
 rw[jW c hq,h]
theorem ae6{x y w:Int}(c:aa) (h1:-1000<x) (h2:x<1000) (h:x*y=w):aW (.int x) (.int y) c=.ok (.int w) c:=by
 rw[Am c (by omega) (by omega),h]
theorem alD{n:Nat}(h1:1<=n) (h8:n<8) (c:aa) (b i:Nat) (hb:b<7):yy [ζ (.int (i:Int)),ζ (.int (n:Int)),ζ (.int (b:Int))] c=.ok (.lst (nD (eE n (λi k=>(b*i+k) % n) i))) c:=by
 have hs:=eK (n:=1000) (by decide)
 have hc:=tO (E:=[ζ (.int (n:Int)),ζ (.int (b:Int)),ζ (.int (i:Int))]) (a:=(au ck (au br (au aW (ak 2) (ak 3)) (ak 0)) (ak 1))) (n:=n) (c:=c) (λk=>.int ((b*i+k) % n:Nat)) (λk hk =>
  alC (z:=(b:Int)*(i:Int)) (ae6 c (by omega) (by omega) rfl) (NR c (by omega) (by rw[auT,ar3,aqA])))
 rw[Dm n (λi k=>(b*i+k) % n)]at hc
 exact alF (by omega) (by rw[fM];omega) hc
theorem alz{n:Nat}(h1:1<=n) (h8:n<8) (c:aa) (i:Nat):qM [ζ (.int (i:Int)),ζ (.int (n:Int))] c=.ok (.lst (nD (eE n (λi k=>(i+k) % n) i))) c:=by
 have hs:=eK (n:=1000) (by decide)
 have hc:=tO (E:=[ζ (.int (n:Int)),ζ (.int (i:Int))]) (a:=(au ck (au br (ak 2) (ak 0)) (ak 1))) (n:=n) (c:=c) (λk=>.int ((i+k) % n:Nat)) (λk hk =>
  aly (NR c (by omega) (by rw[auT,ar3])))
 rw[Dm n (λi k=>(i+k) % n)]at hc
 exact alB (by omega) (by rw[fM];omega) hc
theorem alU(i:Nat) (hi:i<4) (c:aa):yC [ζ (.int (i:Int)),ζ (.int ((4:Nat):Int))] c=.ok (.lst (nD (eE 4 nJ i))) c:=by
 have hs:=eK (n:=1000) (by decide)
 have hc:=tO (E:=[ζ (.int (i:Int))]) (a:=(au nK (ak 1) (ak 0))) (n:=4) (c:=c) (λk=>.int (nJ i k:Nat)) (λk hk=>by
  have:=Tw i hi k hk;simp only[ez,bA,gz,gs,R.aA,TH,this])
 rw[Dm 4 nJ]at hc;exact alW (by omega) (by rw[fM];omega) hc
theorem HR:∀a b:List Int,PyData.eqvAll (a.map PyData.int) (b.map PyData.int)=decide (a=b)
 |[],[]=>by simp[PyData.eqvAll]
 |[],b::bs=>by simp[PyData.eqvAll]
 |a::as,[]=>by simp[PyData.eqvAll]
 |a::as,b::bs=>by
  rw[apE,apE,PyData.eqvAll,HR as bs,PyData.eqv]
  by_cases h:a=b
  ·subst h;simp
  ·simp[h]
theorem ajl(a:List Int):PyData.depthAll (a.map PyData.int)=0:=by
 induction a with
 |nil=>simp[PyData.depthAll]
 |cons x a ih=>simp[PyData.depthAll,PyData.depth,ih]
theorem Qn:∀ns:List Int,fF (ns.map D.int)=ζ (ns.map PyData.int)
 |[]=>rfl
 |n::ns=>by
  have:=Qn ns;simp[fF,eT,this]
theorem ajc(as bs:List Int) (c:aa):Qc (.lst (as.map D.int)) (.lst (bs.map D.int)) c=.ok (.bl (decide (as=bs))) c/\iA (.lst (as.map D.int)) (.lst (bs.map D.int)) c=.ok (.bl (!decide (as=bs))) c:=by
 have h:∀l:List Int,fO c (.lst (l.map D.int))=ζ (.list (l.map PyData.int)):=λl=>by
  show(match fF (l.map D.int)with|some r=>ζ (PyData.list r)|none=>η)=_
  rw[Qn]
 have dp:∀l:List Int,(PyData.list (l.map PyData.int)).depth<=64:=λl=>by simp[PyData.depth,ajl]
 refine⟨?_,?_⟩
 ·unfold Qc;rw[h,h];dsimp only;rw[if_pos ⟨dp as,dp bs⟩,PyData.eqv,HR]
 ·unfold iA;rw[h,h];dsimp only;rw[if_pos ⟨dp as,dp bs⟩,PyData.eqv,HR]
def B5(l:List Nat):List Int:=l.map λk:Nat=>(k:Int)
theorem ae4(l:List Nat):nD l=(B5 l).map D.int:=DZ l
theorem P7{n:Nat}(h1:1<=n) (r:Nat->Nat->Nat) (c:aa):∀(l:List Nat) (v:Option D) (acc:List D),bO (λ_=>True) (az 0) aJ (au aE (ak 0) (dC (.int 0))) (l.map λi=>.lst (nD (eE n r i))) [v] acc c=.ok (acc++nD (l.map λi=>r i 0)) c
 |[],v,acc=>by simp[nD]
 |i::l,v,acc=>by
  have g1:az 0 (.lst (nD (eE n r i))) [v] c=.ok [ζ (.lst (nD (eE n r i)))] c:=rfl;have g2:aE (.lst (nD (eE n r i))) (.int 0) c=.ok (.int (r i 0:Nat)) c:=by
   rw[rG,show(0:Int)=((0:Nat):Int)from rfl,g8 (v:=.int (r i 0:Nat)) (by simp[nD,eE,aqr (show 0<n by omega)])]
  have hE:(au aE (ak 0) (dC (.int 0))) [ζ (.lst (nD (eE n r i)))] c=.ok (.int (r i 0:Nat)) c:=by
   generalize D.lst (nD (eE n r i))=T at *
   simp only[ez,bA,iH,gz,R.aA,g2]
  rw[apE,kg,g1,R.aA,nL,R.aA,if_pos rfl,hE,R.aA,P7 h1 r c l,ap9];rfl
theorem aj7{q:Int}{rows:List D}{ns:List Nat}{z:Bool}{a0 a3 a4 a5 a6:Option D}{c:aa}(b:0<q/\q<1000) (hl:rows.length<ι) (hc:bO (λ_=>True) (az 0) aJ (au aE (ak 0) (dC (.int 0))) rows [η] [] c=.ok (nD ns) c) (hN:jU (nD ns)=ζ ns) (hq:iA (.lst (nD (cM ns))) (.lst ((gV 0 q).map D.int)) c=.ok (.bl z) c) :
  (aQ (au iA (qG (ao (aS (dj (ak 2)) [η] (az 0) aJ (au aE (ak 0) (dC (.int 0)))) aq)) (qH (ao (ak 1) aq)))) [a0,ζ (.int q),ζ (.lst rows),a3,a4,a5,a6] c=.ok z c:=by
 have hp:dB [η] [a0,ζ (.int q),ζ (.lst rows),a3,a4,a5,a6]=[η]:=rfl;have hd:dj (ak 2) [a0,ζ (.int q),ζ (.lst rows),a3,a4,a5,a6] c=.ok ⟨rows,λ_=>True⟩ c:=rfl
 have hS:qG (ao (aS (dj (ak 2)) [η] (az 0) aJ (au aE (ak 0) (dC (.int 0)))) aq) [a0,ζ (.int q),ζ (.lst rows),a3,a4,a5,a6] c=.ok (.lst (nD (cM ns))) c:=by
  unfold qG;simp only[bJ,er,hd,bI,R.aA];rw[if_pos hl,hp,hc];simp only[R.aA,d7,hN]
 have hR:qH (ao (ak 1) aq) [a0,ζ (.int q),ζ (.lst rows),a3,a4,a5,a6] c=.ok (.lst ((gV 0 q).map D.int)) c:=by
  unfold qH;simp only[bJ,bA,gz,gs,bI,R.aA];rw[if_pos b]
 simp only[zf,ez,hS,hR,R.aA,hq]
theorem cast_inj{a b:List Nat}(h:B5 a=B5 b):a=b:=IZ h
theorem Yk(n:Nat):gV 0 (n:Int)=B5 (θ n):=Ml n
theorem aef(A:List Nat) (n:Nat) (c:aa):iA (.lst (nD A)) (.lst ((gV 0 (n:Int)).map D.int)) c=.ok (.bl (!decide (A=θ n))) c:=by
 rw[ae4,(ajc _ _ c).2,Yk]
 congr 3
 exact decide_eq_decide.mpr ⟨cast_inj,λh=>by rw[h]⟩
theorem aki{j:Nat}{q f x:Int}{a2 a3 a4 a5 a6:Option D}{c c1:aa}(hf:(if q-1>1 then q-1 else 1)=f) (t:cN [.ref j,.int f] c=.ok (.int x) c1):(aG 3 (au br (dC (.int 1)) (aC 2 cN (ao (ak 0) (ao (aF um (ao (dC (.int 1)) (ao (au bz (ak 1) (dC (.int 1))) aq))) aq))))) [ζ (.ref j),ζ (.int q),a2,a3,a4,a5,a6] c=.ok (.nx [ζ (.ref j),ζ (.int q),a2,ζ (.int (1+x)),a4,a5,a6]) c1:=by
 simp only[gm,ez,iH,x_call,fK,bJ,bA,gz,gs,bI,R.aA,zc,TX,hf,apL,ap3,if_pos,t,lz];rfl
def BY:ah:=aD (aG 3 (au br (dC (.int 1)) (aC 2 cN (ao (ak 0) (ao (aF um (ao (dC (.int 1)) (ao (au bz (ak 1) (dC (.int 1))) aq))) aq))))) (aD (aG 2 (aS (bg (ao (ak 1) aq)) [η,ζ 1,ζ 3] (az 0) aJ yy)) (bU (aQ (au iA (qG (ao (aS (dj (ak 2)) [η] (az 0) aJ (au aE (ak 0) (dC (.int 0)))) aq)) (qH (ao (ak 1) aq)))) (aG 2 (aS (bg (ao (ak 1) aq)) [η,ζ 1] (az 0) aJ qM)) b8))
theorem Qq{j m n:Nat}{c:aa}(hP:eU j m c) (h1:1<=n) (h8:n<8):∃r v3 c',dW n r/\eU j m c'/\BY [ζ (.ref j),ζ (.int (n:Int)),η,η,η,η,η] c=.ok (.nx [ζ (.ref j),ζ (.int (n:Int)),ζ (kr n r),v3,η,η,η]) c':=by
 have hs:=eK (n:=1000) (by decide)
 obtain⟨f,hf⟩:∃f:Int,(if(n:Int)-1>1 then(n:Int)-1 else 1)=f:=⟨_,rfl⟩
 have hf':0<f/\f<=6:=by split at hf<;>omega
 obtain⟨x,c1,x0,x1,P1,t1⟩:=rO (cZ:=f) hP hf'.1 (by omega)
 obtain⟨b,hb⟩:=uf (i:=1+x) (by omega)
 have e1:=aki (a2:=η) (a3:=η) (a4:=η) (a5:=η) (a6:=η) hf t1;rw[hb]at e1;have c2:=tO (E:=[ζ (.int (n:Int)),ζ (.int (b:Int))]) (a:=yy) (n:=n) (c:=c1) (λi=>.lst (nD (eE n (λi k=>(b*i+k) % n) i))) (λi _=>alD h1 h8 c1 b i (by omega))
 have e2:=alE (a0:=ζ (.ref j)) (a2:=η) (a4:=η) (a5:=η) (a6:=η) (by omega) (by rw[fM];omega) c2
 have hfc:=P7 h1 (λi k=>(b*i+k) % n) c1 (θ n) η []
 rw[apS]at hfc;have hN:jU (nD ((θ n).map λi=>(b*i+0) % n))=ζ ((θ n).map λi=>(b*i+0) % n):=DW (by
  have:=xq (xo (nN ((θ n).map λi=>(b*i+0) % n))) (λx hx=>kL.mp hx)
  rw[apC,aqj]at this;omega) (λx hx=>by
  obtain⟨i,_,rfl⟩:=apv.mp hx;have:=aqF (b*i+0) (show 0<n by omega)
  omega)
 have hu:=aj7 (a0:=ζ (.ref j)) (a3:=ζ (.int (b:Int))) (a4:=η) (a5:=η) (a6:=η) (by omega) (by rw[apC,aqj];omega) hfc hN (aef _ n c1)
 by_cases hk:cM ((θ n).map λi=>(b*i+0) % n)=θ n
 ·have hL:=afF n h8 b (by omega) hk
  refine⟨λi k=>(b*i+k) % n,ζ (.int (b:Int)),c1,⟨hL.1,hL.2⟩,P1,?_⟩
  unfold BY;rw[bL e1,bL e2,iV,hu,R.aA,decide_eq_true hk];rfl
 ·have hL:=afE n h8;have c3:=tO (E:=[ζ (.int (n:Int))]) (a:=qM) (n:=n) (c:=c1) (λi=>.lst (nD (eE n (λi k=>(i+k) % n) i))) (λi _=>alz h1 h8 c1 i)
  have e3:=alA (a0:=ζ (.ref j)) (a2:=ζ (.lst ((θ n).map λi=>.lst (nD (eE n (λi k=>(b*i+k) % n) i))))) (a3:=ζ (.int (b:Int))) (a4:=η) (a5:=η) (a6:=η) (by omega) (by rw[fM];omega) c3
  refine⟨λi k=>(i+k) % n,ζ (.int (b:Int)),c1,⟨hL.1,hL.2⟩,P1,?_⟩
  unfold BY;rw[bL e1,bL e2,iV,hu,R.aA,decide_eq_false hk,if_pos (by decide)]
  exact e3
def yu:ah:=bU (iF (aQ (au cB (ak 1) (dC (.int 4)))) (aQ (au cB (aC 2 cN (ao (ak 0) (ao (dC (.int 2)) aq))) (dC (.int 0))))) (aG 2 (aS (bg (ao (ak 1) aq)) [η,ζ 1] (az 0) aJ yC)) BY
theorem aj9{q:Int}{a0 a2 a3 a4 a5 a6:Option D}{c:aa}(h:¬q=4):(iF (aQ (au cB (ak 1) (dC (.int 4)))) (aQ (au cB (aC 2 cN (ao (ak 0) (ao (dC (.int 2)) aq))) (dC (.int 0))))) [a0,ζ (.int q),a2,a3,a4,a5,a6] c=.ok Δ c:=by simp[h]
theorem aj8{j:Nat}{x:Int}{a2 a3 a4 a5 a6:Option D}{c c1:aa}(t:cN [.ref j,.int 2] c=.ok (.int x) c1):(iF (aQ (au cB (ak 1) (dC (.int 4)))) (aQ (au cB (aC 2 cN (ao (ak 0) (ao (dC (.int 2)) aq))) (dC (.int 0))))) [ζ (.ref j),ζ (.int 4),a2,a3,a4,a5,a6] c=.ok (decide (x=0)) c1:=by simp[t]
theorem akd{j m n:Nat}{c:aa}(hP:eU j m c) (h1:1<=n) (h8:n<8):∃r v3 c',dW n r/\eU j m c'/\yu [ζ (.ref j),ζ (.int (n:Int)),η,η,η,η,η] c=.ok (.nx [ζ (.ref j),ζ (.int (n:Int)),ζ (kr n r),v3,η,η,η]) c':=by
 have hs:=eK (n:=1000) (by decide)
 by_cases h4:(n:Int)=4
 ·have:n=4:=by omega
  subst this;obtain⟨x,c1,x0,x1,P1,t1⟩:=rO (cZ:=2) hP (by decide) (by decide)
  have ht:=aj8 (a2:=η) (a3:=η) (a4:=η) (a5:=η) (a6:=η) t1
  by_cases hx:x=0
  ·have c2:=tO (E:=[ζ (.int ((4:Nat):Int))]) (a:=yC) (n:=4) (c:=c1) (λi=>.lst (nD (eE 4 nJ i))) (λi hi=>alU i hi c1)
   have e2:=alV (a0:=ζ (.ref j)) (a2:=η) (a3:=η) (a4:=η) (a5:=η) (a6:=η) (by omega) (by rw[fM];omega) c2
   refine⟨nJ,η,c1,⟨Ob.1,Ob.2⟩,P1,?_⟩;unfold yu;rw[iV,show((4:Nat):Int)=4 from rfl,ht,R.aA,decide_eq_true hx,if_pos rfl]
   exact e2
  ·obtain⟨r,v3,c',hL,P',h⟩:=Qq P1 h1 h8;refine⟨r,v3,c',hL,P',?_⟩;unfold yu;rw[iV,show((4:Nat):Int)=4 from rfl,ht,R.aA,decide_eq_false hx,if_neg (by decide)]
   exact h
 ·obtain⟨r,v3,c',hL,P',h⟩:=Qq hP h1 h8;refine⟨r,v3,c',hL,P',?_⟩;unfold yu;rw[iV,aj9 h4,R.aA,if_neg (by decide)]
  exact h
theorem oB{α:Type}{E:List (Option D)}{a:af}{c:aa}(g F:α->D):∀(l:List α) (v:Option D) (acc:List D),(∀x∈l,a (ζ (g x)::E) c=.ok (F x) c)->bO (λ_=>True) (az 0) aJ a (l.map g) (v::E) acc c=.ok (acc++l.map F) c
 |[],v,acc,_=>by simp
 |x::l,v,acc,h=>by
  have h1:az 0 (g x) (v::E) c=.ok (ζ (g x)::E) c:=rfl;rw[apE,kg,h1,R.aA,nL,R.aA,if_pos rfl,h x (.head _),R.aA,oB g F l _ _ (λz hz=>h z (.tail _ hz)),ap9]
  rfl
theorem qi(l:List Nat):nD l=l.map λk:Nat=>D.int (k:Int):=by simp[nD]
theorem wM{os:List Nat}{n x:Nat}(h:os.Perm (θ n)) (hx:x∈os):x<n:=apx.mp (h.mem_iff.mp hx)
theorem lG{os:List Nat}{n:Nat}(h:os.Perm (θ n)):os.length=n:=by have:=h.length_eq;simpa using this
theorem D7{α:Type}(os:List Nat) (f:Nat->α):os.map f=(θ os.length).map λi=>f (os.getD i 0):=by
 refine ati (by simp) λi h1 h2=>?_
 simp[apD];rw[apw (by simpa using h1)]
 rfl
theorem zR{os:List Nat}{n:Nat}(h:os.Perm (θ n)):((θ n).map λi=>os.getD i 0).Perm (θ n):=by
 have:=D7 os id;rw[asI,lG h]at this;exact(auI this.symm).trans h
theorem Mg{os:List Nat}{n i:Nat}(h:os.Perm (θ n)) (hi:i<n):os.getD i 0<n:=by
 have:=lG h;rw[apD,apw (by omega)]
 exact wM h (apR _)
theorem dW.lt{n:Nat}{r:Nat->Nat->Nat}(h:dW n r) {i k:Nat}(hi:i<n) (hk:k<n):r i k<n:=wM (h.row i hi) (apv.mpr ⟨k,apx.mpr hk,rfl⟩)
theorem dW.rows{n:Nat}{r:Nat->Nat->Nat}(h:dW n r) {os:List Nat}(ho:os.Perm (θ n)):dW n λi k=>r (os.getD i 0) k:=by
 refine⟨λi hi=>h.row _ (Mg ho hi),λk hk=>?_⟩
 have:=(zR ho).map λi=>r i k
 rw[apV]at this;exact this.trans (h.col k hk)
theorem dW.cols{n:Nat}{r:Nat->Nat->Nat}(h:dW n r) {os:List Nat}(ho:os.Perm (θ n)):dW n λi k=>r i (os.getD k 0):=by
 refine⟨λi hi=>?_,λk hk=>h.col _ (Mg ho hk)⟩
 have:=(zR ho).map λk=>r i k
 rw[apV]at this;exact this.trans (h.row i hi)
theorem dW.names{n:Nat}{r:Nat->Nat->Nat}(h:dW n r) {os:List Nat}(ho:os.Perm (θ n)):dW n λi k=>os.getD (r i k) 0:=by
 refine⟨λi hi=>?_,λk hk=>?_⟩
 ·have:=(h.row i hi).map λi=>os.getD i 0
  rw[apV]at this;exact this.trans (zR ho)
 ·have:=(h.col k hk).map λi=>os.getD i 0
  rw[apV]at this;exact this.trans (zR ho)
theorem DO(n:Nat) (s:Nat->Nat->Nat):bN ((θ n).map λi=>D.tup (nD ((θ n).map (s i))))=ξ:=iz.mpr λd hd=>by
 obtain⟨i,_,rfl⟩:=apv.mp hd;rw[Mp];exact xj _
theorem LP{n:Nat}{os:List Nat}{f:Nat->Nat->Nat}(ho:os.length=n):D.tup (os.map λi=>D.tup (nD ((θ n).map (f i))))=aU n λi k=>f (os.getD i 0) k:=by
 unfold aU;rw[D7,ho]
theorem aka{A B:D}{row col k v:Int}{r:D}{c:aa}(h1:aE B (.int row) c=.ok r c) (h2:aE r (.int col) c=.ok (.int k) c) (h3:aE A (.int k) c=.ok (.int v) c):(au aE (ak 1) (au aE (au aE (ak 2) (ak 3)) (ak 0))) [ζ (.int col),ζ A,ζ B,ζ (.int row)] c=.ok (.int v) c:=by
 simp only[ez,bA,gz,gs,R.aA,h1,h2,h3]
theorem akb{A B:D}{cs l:List D}{row:Int}{c:aa}(hl:cs.length<ι) (h:bO (λ_=>True) (az 0) aJ (au aE (ak 1) (au aE (au aE (ak 2) (ak 3)) (ak 0))) cs [η,ζ A,ζ B,ζ (.int row)] [] c=.ok l c):(aF cW (ao (aS (cL (ak 2)) [η,ζ 1,ζ 3,ζ 0] (az 0) aJ (au aE (ak 1) (au aE (au aE (ak 2) (ak 3)) (ak 0)))) aq)) [ζ (.int row),ζ A,ζ (.tup cs),ζ B] c=.ok (.tup l) c:=by
 have hp:dB [η,ζ 1,ζ 3,ζ 0] [ζ (.int row),ζ A,ζ (.tup cs),ζ B]=[η,ζ A,ζ B,ζ (.int row)]:=rfl;have hd:cL (ak 2) [ζ (.int row),ζ A,ζ (.tup cs),ζ B] c=.ok ⟨cs,λ_=>True⟩ c:=rfl
 simp only[fK,bJ,er,hd,bI,R.aA];rw[if_pos hl,hp,h];rfl
def BZ:af:=(aF cW (ao (aS (cL (ak 2)) [η,ζ 1,ζ 3,ζ 0] (az 0) aJ (au aE (ak 1) (au aE (au aE (ak 2) (ak 3)) (ak 0)))) aq))
theorem ake{A B C:D}{os l:List D}{a0 a1 a3:Option D}{c:aa}(hl:os.length<ι) (h:bO (λ_=>True) (az 0) aJ BZ os [η,ζ A,ζ C,ζ B] [] c=.ok l c):(aM (aF cW (ao (aS (cL (ak 4)) [η,ζ 5,ζ 6,ζ 2] (az 0) aJ (aF cW (ao (aS (cL (ak 2)) [η,ζ 1,ζ 3,ζ 0] (az 0) aJ (au aE (ak 1) (au aE (au aE (ak 2) (ak 3)) (ak 0)))) aq))) aq))) [a0,a1,ζ B,a3,ζ (.tup os),ζ A,ζ C] c=.ok (.rt (.tup l)) c:=by
 have hp:dB [η,ζ 5,ζ 6,ζ 2] [a0,a1,ζ B,a3,ζ (.tup os),ζ A,ζ C]=[η,ζ A,ζ C,ζ B]:=rfl;have hd:cL (ak 4) [a0,a1,ζ B,a3,ζ (.tup os),ζ A,ζ C] c=.ok ⟨os,λ_=>True⟩ c:=rfl
 unfold BZ at h;simp only[gO,fK,bJ,er,hd,bI,R.aA];rw[if_pos hl,hp,h];rfl
section
variable {j:Nat}{q:Int}{T:D}{c c':aa}(a2 a3 a4 a5 a6:Option D)
theorem akh(h:fV [.ref j,.int q] c=.ok T c'):(aG 4 (aC 2 fV (ao (ak 0) (ao (ak 1) aq)))) [ζ (.ref j),ζ (.int q),a2,a3,a4,a5,a6] c=.ok (.nx [ζ (.ref j),ζ (.int q),a2,a3,ζ T,a5,a6]) c':=by
 simp only[gm,x_call,bJ,bA,gz,gs,bI,R.aA,apL,ap3,if_pos,h];rfl
theorem akg(h:fV [.ref j,.int q] c=.ok T c'):(aG 5 (aC 2 fV (ao (ak 0) (ao (ak 1) aq)))) [ζ (.ref j),ζ (.int q),a2,a3,a4,a5,a6] c=.ok (.nx [ζ (.ref j),ζ (.int q),a2,a3,a4,ζ T,a6]) c':=by
 simp only[gm,x_call,bJ,bA,gz,gs,bI,R.aA,apL,ap3,if_pos,h];rfl
theorem akf(h:fV [.ref j,.int q] c=.ok T c'):(aG 6 (aC 2 fV (ao (ak 0) (ao (ak 1) aq)))) [ζ (.ref j),ζ (.int q),a2,a3,a4,a5,a6] c=.ok (.nx [ζ (.ref j),ζ (.int q),a2,a3,a4,a5,ζ T]) c':=by
 simp only[gm,x_call,bJ,bA,gz,gs,bI,R.aA,apL,ap3,if_pos,h];rfl
end
theorem U0{n:Nat}(r:Nat->Nat->Nat) {i:Nat}(hi:i<n) (c:aa):aE (kr n r) (.int (i:Int)) c=.ok (.lst (nD (eE n r i))) c:=by
 unfold kr;rw[rG,g8 (v:=.lst (nD (eE n r i))) (by simp[hi])]
theorem Yg{n:Nat}(r:Nat->Nat->Nat) (i:Nat) {k:Nat}(hk:k<n) (c:aa):aE (.lst (nD (eE n r i))) (.int (k:Int)) c=.ok (.int (r i k:Nat)) c:=by
 rw[rG,g8 (v:=.int (r i k:Nat)) (by simp[nD,eE,hk])]
theorem abi{os:List Nat}{k:Nat}(hk:k<os.length) (c:aa):aE (.tup (nD os)) (.int (k:Int)) c=.ok (.int (os.getD k 0:Nat)) c:=by
 rw[CO,g8 (v:=.int (os.getD k 0:Nat)) (by simp[nD,hk,apD])]
theorem akc{n:Nat}{r:Nat->Nat->Nat}(hL:dW n r) (h8:n<8) {os ns cs:List Nat}(ho:os.Perm (θ n)) (hn:ns.Perm (θ n)) (hc:cs.Perm (θ n)) (c:aa) :
  bO (λ_=>True) (az 0) aJ BZ (nD os) [η,ζ (.tup (nD ns)),ζ (.tup (nD cs)),ζ (kr n r)] [] c=.ok (os.map λi=>D.tup (nD ((θ n).map λk=>ns.getD (r i (cs.getD k 0)) 0))) c:=by
 have hs:=eK (n:=1000) (by decide)
 have:=oB (E:=[ζ (.tup (nD ns)),ζ (.tup (nD cs)),ζ (kr n r)]) (a:=BZ) (c:=c) (λk:Nat=>D.int (k:Int)) (λi=>D.tup (nD ((θ n).map λk=>ns.getD (r i (cs.getD k 0)) 0))) os η [] (λi hi=>by
  have hin:=wM ho hi;have h2:=oB (E:=[ζ (.tup (nD ns)),ζ (kr n r),ζ (.int (i:Int))]) (a:=(au aE (ak 1) (au aE (au aE (ak 2) (ak 3)) (ak 0)))) (c:=c) (λk:Nat=>D.int (k:Int)) (λk=>D.int (ns.getD (r i k) 0:Nat)) cs η [] (λk hk=>by
   have hkn:=wM hc hk;have h3:=hL.lt hin hkn;exact aka (U0 r hin c) (Yg r i hkn c) (abi (by rw[lG hn];exact h3) c))
  rw[apS,<-qi]at h2;have e:(cs.map λk=>D.int (ns.getD (r i k) 0:Nat))=nD ((θ n).map λk=>ns.getD (r i (cs.getD k 0)) 0):=by
   rw[D7,lG hc,qi,apV];rfl
  rw[e]at h2;exact akb (by rw[qi,apC,lG hc];omega) h2)
 rw[apS,<-qi]at this;exact this
theorem Qp{j m n:Nat}{c:aa}(hP:eU j m c) (h1:1<=n) (h8:n<8):∃s c',dW n s/\eU j m c'/\qo [.ref j,.int (n:Int)] c=.ok (aU n s) c':=by
 have hs:=eK (n:=1000) (by decide)
 obtain⟨r,v3,c1,hL,P1,e1⟩:=akd hP h1 h8;obtain⟨os,c2,ho,P2,o2⟩:=DE P1 h1 (show n<1000 by omega)
 obtain⟨ns,c3,hn,P3,o3⟩:=DE P2 h1 (show n<1000 by omega)
 obtain⟨cs,c4,hc,P4,o4⟩:=DE P3 h1 (show n<1000 by omega)
 have e2:=akh (ζ (kr n r)) v3 η η η o2;have e3:=akg (ζ (kr n r)) v3 (ζ (.tup (nD os))) η η o3;have e4:=akf (ζ (kr n r)) v3 (ζ (.tup (nD os))) (ζ (.tup (nD ns))) η o4;have e5:=ake (a0:=ζ (.ref j)) (a1:=ζ (.int (n:Int))) (a3:=v3) (by rw[qi,apC,lG ho];omega) (akc hL h8 ho hn hc c4)
 refine⟨λi k=>ns.getD (r (os.getD i 0) (cs.getD k 0)) 0,c4,((hL.rows ho).cols hc).names hn,P4,?_⟩
 have hb:vA=aD yu (aD (aG 4 (aC 2 fV (ao (ak 0) (ao (ak 1) aq)))) (aD (aG 5 (aC 2 fV (ao (ak 0) (ao (ak 1) aq)))) (aD (aG 6 (aC 2 fV (ao (ak 0) (ao (ak 1) aq)))) (aM (aF cW (ao (aS (cL (ak 4)) [η,ζ 5,ζ 6,ζ 2] (az 0) aJ (aF cW (ao (aS (cL (ak 2)) [η,ζ 1,ζ 3,ζ 0] (az 0) aJ (au aE (ak 1) (au aE (au aE (ak 2) (ak 3)) (ak 0)))) aq))) aq)))))):=rfl;have es:cT 7 [D.ref j,.int (n:Int)]=[ζ (.ref j),ζ (.int (n:Int)),η,η,η,η,η]:=rfl;have hq:D.tup (os.map λi=>D.tup (nD ((θ n).map λk=>ns.getD (r i (cs.getD k 0)) 0)))=aU n λi k=>ns.getD (r (os.getD i 0) (cs.getD k 0)) 0:=LP (f:=λi k=>ns.getD (r i (cs.getD k 0)) 0) (lG ho)
 rw[qo,e7,hb,es,bL e1,bL e2,bL e3,bL e4,e5,hq];simp only[R.aA];unfold aU;rw[wG,if_pos (DO n _),arD (by rw[P4.1,hP.1];exact aps _)]
theorem VE{a0 a2:Option D}{c:aa}:(aG 1 (ff (ao (cy (fG [0,1,2,3,4,5])) (ao (cy (fG [1,0,3,2,5,4])) (ao (cy (fG [2,4,0,5,1,3])) (ao (cy (fG [3,5,1,4,0,2])) (ao (cy (fG [4,2,5,0,3,1])) aq))))))) [a0,η,a2] c=.ok (.nx [a0,ζ (.ref c.length),a2]) (c++[.lst ((six.take 5).map λl=>D.lst (nD l))]):=by
 simp[six,nD]
theorem VD{a0 a2:Option D}{c:aa}:(eL (gx (ak 1) (cy (fG [5,3,4,1,2,0])))) [a0,ζ (.ref c.length),a2] (c++[.lst ((six.take 5).map λl=>D.lst (nD l))])=.ok (.nx [a0,ζ (.ref c.length),a2]) (c++[.lst ((six.take 5).map (λl=>D.lst (nD l))++[D.lst (nD [5,3,4,1,2,0])])]):=by
 have h:=J5 (dO:=ak 1) (da:=cy (fG [5,3,4,1,2,0])) (e:=[a0,ζ (.ref c.length),a2]) (c:=c) (acc:=(six.take 5).map λl=>D.lst (nD l)) (y:=D.lst (nD [5,3,4,1,2,0])) (by simp) (by simp[nD]) (by simp[nD]) (by simp[six])
 simp only[ko,h,R.aA]
theorem Xf:(six.take 5).map (λl=>D.lst (nD l))++[D.lst (nD [5,3,4,1,2,0])]=(θ 6).map λi=>D.lst (nD (eE 6 jw i)):=by
 simp[six,eE,jw,nD,aqY]
theorem VC{j:Nat}{T:D}{a1 a2:Option D}{c c':aa}(h:fV [.ref j,.int 6] c=.ok T c'):(aG 2 (aC 2 fV (ao (ak 0) (ao (dC (.int 6)) aq)))) [ζ (.ref j),a1,a2] c=.ok (.nx [ζ (.ref j),a1,ζ T]) c':=by
 simp only[gm,x_call,bJ,bA,iH,gz,gs,bI,R.aA,apL,ap3,if_pos,h];rfl
theorem VA{k:Nat}{i:Int}{l r:List D}{c:aa}(hk:c[k]? = ζ (.lst l)) (hi:dI l i=ζ (.lst r)):(aF cW (ao (au aE (ak 1) (ak 0)) aq)) [ζ (.int i),ζ (.ref k)] c=.ok (.tup r) c:=by
 have:aE (.ref k) (.int i) c=.ok (.lst r) c:=by
  unfold aE;dsimp only[fS];rw[hk];dsimp only;rw[hi]
 simp only[fK,bJ,ez,bA,gz,gs,bI,R.aA,this];rfl
theorem VB{k:Nat}{os l:List D}{a0:Option D}{c:aa}(hl:os.length<ι) (h:bO (λ_=>True) (az 0) aJ (aF cW (ao (au aE (ak 1) (ak 0)) aq)) os [η,ζ (.ref k)] [] c=.ok l c):(aM (aF cW (ao (aS (cL (ak 2)) [η,ζ 1] (az 0) aJ (aF cW (ao (au aE (ak 1) (ak 0)) aq))) aq))) [a0,ζ (.ref k),ζ (.tup os)] c=.ok (.rt (.tup l)) c:=by
 have hp:dB [η,ζ 1] [a0,ζ (.ref k),ζ (.tup os)]=[η,ζ (.ref k)]:=rfl;have hd:cL (ak 2) [a0,ζ (.ref k),ζ (.tup os)] c=.ok ⟨os,λ_=>True⟩ c:=rfl
 simp only[gO,fK,bJ,er,hd,bI,R.aA];rw[if_pos hl,hp,h];rfl
theorem Xh{j m:Nat}{c:aa}(hP:eU j m c):∃s c',dW 6 s/\eU j m c'/\lR [.ref j] c=.ok (aU 6 s) c':=by
 have hs:=eK (n:=1000) (by decide)
 obtain⟨hl,hj,p,hp⟩:=id hP;have e0:=VE (a0:=ζ (.ref j)) (a2:=η) (c:=c);have e1:=VD (a0:=ζ (.ref j)) (a2:=η) (c:=c);rw[Xf]at e1;have P0:eU j (c.length+1) (c++[.lst ((θ 6).map λi=>D.lst (nD (eE 6 jw i)))]):=⟨by simp,by omega,p,by rw[ap8 (by omega)];exact hp⟩
 obtain⟨os,c2,ho,P2,f2,o2⟩:=ML P0 (by decide) (show 6<1000 by decide)
 have g4:c2[c.length]? = ζ (.lst ((θ 6).map λi=>D.lst (nD (eE 6 jw i)))):=by rw[f2 c.length (by omega) (by omega)];simp
 have e2:=VC (a1:=ζ (.ref c.length)) (a2:=η) o2;have hc:=oB (E:=[ζ (.ref c.length)]) (a:=(aF cW (ao (au aE (ak 1) (ak 0)) aq))) (c:=c2) (λk:Nat=>D.int (k:Int)) (λi=>D.tup (nD (eE 6 jw i))) os η [] (λi hi=>VA g4 (g8 (by simp[wM ho hi])))
 rw[apS,<-qi]at hc;have e3:=VB (a0:=ζ (.ref j)) (by rw[qi,apC,lG ho];omega) hc
 have hL:dW 6 jw:=⟨Oa.1,Oa.2⟩;obtain⟨g1,g2,p2,g3⟩:=P2;refine⟨λi k=>jw (os.getD i 0) k,c2.take c.length,hL.rows ho,⟨by rw[aqv];omega,hj,p2,by rw[ase (by omega)];exact g3⟩,?_⟩
 have hb:vj=aD (aG 1 (ff (ao (cy (fG [0,1,2,3,4,5])) (ao (cy (fG [1,0,3,2,5,4])) (ao (cy (fG [2,4,0,5,1,3])) (ao (cy (fG [3,5,1,4,0,2])) (ao (cy (fG [4,2,5,0,3,1])) aq))))))) (aD (eL (gx (ak 1) (cy (fG [5,3,4,1,2,0])))) (aD (aG 2 (aC 2 fV (ao (ak 0) (ao (dC (.int 6)) aq)))) (aM (aF cW (ao (aS (cL (ak 2)) [η,ζ 1] (az 0) aJ (aF cW (ao (au aE (ak 1) (ak 0)) aq))) aq))))):=rfl;have es:cT 3 [D.ref j]=[ζ (.ref j),η,η]:=rfl;have hq:D.tup (os.map λi=>D.tup (nD (eE 6 jw i)))=aU 6 λi k=>jw (os.getD i 0) k:=LP (f:=jw) (lG ho)
 rw[lR,e7,hb,es,bL e0,bL e1,bL e2,e3,hq];simp only[R.aA];unfold aU;rw[wG,if_pos (DO 6 _)]
theorem afj{j:Nat}{T:D}{a0:Option D}{c c1 c2:aa}(t:cN [.ref j,.int 2] c=.ok (.int 0) c1) (h:lR [.ref j] c1=.ok T c2):(bU (iF (aQ (au cB (ak 1) (dC (.int 6)))) (aQ (au cB (aC 2 cN (ao (ak 0) (ao (dC (.int 2)) aq))) (dC (.int 0))))) (aM (aC 1 lR (ao (ak 0) aq))) b8) [ζ (.ref j),ζ (.int 6)] c=.ok (.rt T) c2:=by
 simp[t,h]
theorem afk{j:Nat}{x:Int}{c c1:aa}(t:cN [.ref j,.int 2] c=.ok (.int x) c1) (hx:¬x=0):(bU (iF (aQ (au cB (ak 1) (dC (.int 6)))) (aQ (au cB (aC 2 cN (ao (ak 0) (ao (dC (.int 2)) aq))) (dC (.int 0))))) (aM (aC 1 lR (ao (ak 0) aq))) b8) [ζ (.ref j),ζ (.int 6)] c=.ok (.nx [ζ (.ref j),ζ (.int 6)]) c1:=by
 simp[t,hx]
theorem afl{j:Nat}{q:Int}{c:aa}(hq:¬q=6):(bU (iF (aQ (au cB (ak 1) (dC (.int 6)))) (aQ (au cB (aC 2 cN (ao (ak 0) (ao (dC (.int 2)) aq))) (dC (.int 0))))) (aM (aC 1 lR (ao (ak 0) aq))) b8) [ζ (.ref j),ζ (.int q)] c=.ok (.nx [ζ (.ref j),ζ (.int q)]) c:=by
 simp[hq]
theorem NX{j:Nat}{q:Int}{T:D}{c c':aa}(h:qo [.ref j,.int q] c=.ok T c'):(aM (aC 2 qo (ao (ak 0) (ao (ak 1) aq)))) [ζ (.ref j),ζ (.int q)] c=.ok (.rt T) c':=by
 simp[h]
theorem aji{j m n:Nat}{c:aa}(hP:eU j m c) (h1:1<=n) (h8:n<8):∃s c',dW n s/\eU j m c'/\ou [.ref j,.int (n:Int)] c=.ok (aU n s) c':=by
 have hb:vh=aD (bU (iF (aQ (au cB (ak 1) (dC (.int 6)))) (aQ (au cB (aC 2 cN (ao (ak 0) (ao (dC (.int 2)) aq))) (dC (.int 0))))) (aM (aC 1 lR (ao (ak 0) aq))) b8) (aM (aC 2 qo (ao (ak 0) (ao (ak 1) aq)))):=rfl;have es:cT 2 [D.ref j,.int (n:Int)]=[ζ (.ref j),ζ (.int (n:Int))]:=rfl;have fin:∀{c'}{s:Nat->Nat->Nat},eU j m c'->dH Δ c.length (aU n s) c'=.ok (aU n s) c':=fun{c' s} P'=>by
  unfold aU;rw[wG,if_pos (DO n _),arD (by rw[P'.1,hP.1];exact aps _)]
 by_cases h6:(n:Int)=6
 ·have:n=6:=by omega
  subst this;obtain⟨x,c1,x0,x1,P1,t1⟩:=rO (cZ:=2) hP (by decide) (by decide)
  by_cases hx:x=0
  ·subst hx;obtain⟨s,c2,hL,P2,h2⟩:=Xh P1;refine⟨s,c2,hL,P2,?_⟩;have e:=afj (a0:=η) t1 h2;rw[ou,e7,hb,es,show((6:Nat):Int)=6 from rfl,C9 e]
   exact fin P2
  ·obtain⟨s,c2,hL,P2,h2⟩:=Qp P1 h1 h8;refine⟨s,c2,hL,P2,?_⟩;have e:=afk t1 hx;rw[show((6:Nat):Int)=6 from rfl]at h2
   rw[ou,e7,hb,es,show((6:Nat):Int)=6 from rfl,bL e,NX h2]
   exact fin P2
 ·obtain⟨s,c2,hL,P2,h2⟩:=Qp hP h1 h8;refine⟨s,c2,hL,P2,?_⟩;rw[ou,e7,hb,es,bL (afl h6),NX h2];exact fin P2
end Ev
namespace Fq
def b9(p:Int):Nat->Int->List Int
 |0,_=>[]
 |n+1,x=>x % p::b9 p n (x/p)
def gh(p:Int):List Int->Int
 |[]=>0
 |d::r=>gh p r*p+d % p
def Ei:List Int->Int
 |[]=>0
 |[a]=>a
 |_::b::r=>Ei (b::r)
def Lk(low row:List Int):List Int:=List.zipWith (λb d=>b-Ei row*d) (0::row) low
def mulR(low ry:List Int):List Int->List Int
 |[]=>ry.map λ_=>0
 |d::rx=>List.zipWith (λa b=>a+d*b) (Lk low (mulR low ry rx)) ry
def vK(p:Int) (n:Nat) (x y:Int):Int:=gh p (List.zipWith (· + ·) (b9 p n x) (b9 p n y))
def D0(p:Int) (n:Nat) (low x y:Int):Int:=gh p (mulR (b9 p n low) (b9 p n y) (b9 p n x))
theorem Na(p:Int):∀r:List Int,gh p (r.map (· % p))=gh p r
 |[]=>rfl
 |d::r=>by simp only[apE,gh,Na p r,Int.emod_emod_of_dvd _ (Int.dvd_refl p)]
theorem M9{p:Int}(hp:0<p):∀r:List Int,0<=gh p r
 |[]=>atG 0
 |d::r=>by
  have h1:=M9 hp r;have h2:=aq2 d (Int.ne_of_gt hp);have h3:=Int.mul_nonneg h1 (Int.le_of_lt hp);simp only[gh];omega
theorem Nb{p:Int}(hp:0<p):∀r:List Int,gh p r<p^r.length
 |[]=>by simp[gh]
 |d::r=>by
  have h1:=Nb hp r;have h2:=aq3 d hp;simp only[gh,apL,atL];have h3:(gh p r+1)*p<=p^r.length*p:=Int.mul_le_mul_of_nonneg_right (by omega) (Int.le_of_lt hp)
  have h4:(gh p r+1)*p=gh p r*p+p:=by rw[atM,asJ]
  omega
theorem i6(p:Int):∀(n:Nat) (x:Int),(b9 p n x).length=n
 |0,_=>rfl
 |n+1,x=>by simp[b9,i6 p n]
theorem Kw{f:Int->Int->Int}{p:Int}{n:Nat}{x y:Int}:(List.zipWith f (b9 p n x) (b9 p n y)).length=n:=by simp[i6]
section
variable {p:Int}(hp:0<p) {n:Nat}
include hp
theorem ani(x y:Int):0<=vK p n x y:=M9 hp _
theorem anj(x y:Int):vK p n x y<p^n:=by
 have:=Nb hp (List.zipWith (· + ·) (b9 p n x) (b9 p n y))
 rwa[Kw]at this
end
structure Fd where
 q:Nat
 p:Nat
 n:Nat
 low:Nat
 g:Nat
 E:List Nat
 L:List Nat
def cS:List Fd:=[⟨2,2,1,0,1,[1],[0,0]⟩,
 ⟨3,3,1,0,2,[1,2],[0,0,1]⟩,
 ⟨4,2,2,3,2,[1,2,3],[0,0,1,2]⟩,
 ⟨5,5,1,0,2,[1,2,4,3],[0,0,1,3,2]⟩,
 ⟨7,7,1,0,3,[1,3,2,6,4,5],[0,0,2,1,4,5,3]⟩]
def eW:List Nat->Nat->Nat
 |[],_=>0
 |a::_,0=>a
 |_::l,i+1=>eW l i
def mI(f:Fd) (x y:Nat):Int:=D0 f.p f.n f.low x y
def aI(f:Fd) (x y:Nat):Int:=vK f.p f.n x y
def M(f:Fd) (x y:Nat):Nat:=if x=0\/y=0 then 0 else eW f.E ((eW f.L x+eW f.L y) % (f.q-1))
def Mk(f:Fd) (x y:Nat):Nat:=cond (Nat.beq x 0||Nat.beq y 0) 0 (eW f.E ((eW f.L x+eW f.L y) % (f.q-1)))
theorem yM(f:Fd) (x y:Nat):Mk f x y=M f x y:=by
 unfold Mk M
 by_cases h:x=0\/y=0
 ·rw[if_pos h]
  rcases h with h|h<;>subst h<;>simp
 ·rw[if_neg h];rw[not_or]at h;have h1:Nat.beq x 0=Δ:=by cases x with|zero=>exact absurd rfl h.1|succ _=>rfl
  have h2:Nat.beq y 0=Δ:=by cases y with|zero=>exact absurd rfl h.2|succ _=>rfl
  rw[h1,h2];rfl
def Gj(i:Int) (k:Nat):Bool:=match i with
 |.ofNat m=>Nat.beq m k
 |.negSucc _=>Δ
theorem Ov{i:Int}{k:Nat}(h:Gj i k=ξ):i=k:=by
 cases i with
 |ofNat m=>have:m=k:=auU h;subst this;rfl
 |negSucc _=>cases h
def alp(f:Fd):Bool:=(θ f.q).all λx=>(θ f.q).all λy=>Gj (mI f x y) (Mk f x y)
def als(f:Fd):Bool:=(θ f.q).all λx=>(θ f.q).all λy=>Nat.beq (Mk f f.g (aI f x y).toNat) (aI f (Mk f f.g x) (Mk f f.g y)).toNat
def alr(f:Fd):Bool:=(θ (f.q-1)).all λi=>Nat.beq (eW f.L (eW f.E i)) i && !Nat.beq (eW f.E i) 0&&Nat.ble (eW f.E i+1) f.q
def alq(f:Fd):Bool:=(θ f.q).all λx=>Nat.beq x 0||(Nat.beq (eW f.E (eW f.L x)) x&&Nat.ble (eW f.L x+1) (f.q-1))
def QG(f:Fd):Bool:=Nat.ble 2 f.q&&Nat.beq (f.p^f.n) f.q&&Nat.beq (eW f.E 0) 1&&Nat.ble 2 f.p&&Nat.ble f.p 47&&Nat.ble 1 f.n&&Nat.ble f.n 5&&Nat.beq (eW f.E (1 % (f.q-1))) f.g&&Nat.ble (f.low+1) f.q&&Nat.ble 1 f.g&&Nat.ble (f.g+1) f.q
theorem am6:cS.all alp=ξ:=by decide +kernel
theorem ana:cS.all als=ξ:=by decide +kernel
theorem am9:cS.all alr=ξ:=by decide +kernel
theorem am7:cS.all alq=ξ:=by decide +kernel
theorem am5:cS.all QG=ξ:=by decide +kernel
theorem bl{a b:Nat}(h:Nat.ble a b=ξ):a<=b:=auV h
theorem be{a b:Nat}(h:Nat.beq a b=ξ):a=b:=auU h
structure Is (f:Fd):Prop where
 q2:2<=f.q
 pn:f.p^f.n=f.q
 e0:eW f.E 0=1
 p2:2<=f.p
 kJ:f.p<=47
 n1:1<=f.n
 n5:f.n<=5
 eg:eW f.E (1 % (f.q-1))=f.g
 lo:f.low<f.q
 g1:1<=f.g
 gq:f.g<f.q
 le:∀i,i<f.q-1->eW f.L (eW f.E i)=i/\eW f.E i≠0/\eW f.E i<f.q
 el:∀x,x<f.q->x≠0->eW f.E (eW f.L x)=x/\eW f.L x<f.q-1
 mm:∀x y,x<f.q->y<f.q->mI f x y=(M f x y:Nat)
 dd:∀x y,x<f.q->y<f.q->M f f.g (aI f x y).toNat=(aI f (M f f.g x) (M f f.g y)).toNat
theorem jc{f:Fd}(h:f∈cS):Is f:=by
 have hM:=apA.mp am6 f h;have hD:=apA.mp ana f h;have hE:=apA.mp am9 f h;have hL:=apA.mp am7 f h;have hO:=apA.mp am5 f h;simp only[QG,apN]at hO;obtain⟨⟨⟨⟨⟨⟨⟨⟨⟨⟨o1,o2⟩,o3⟩,o4⟩,o5⟩,o6⟩,o7⟩,o8⟩,o9⟩,o10⟩,o11⟩:=hO;refine⟨bl o1,be o2,be o3,bl o4,bl o5,bl o6,bl o7,be o8,bl o9,bl o10,bl o11,λi hi=>?_,λx hx h0=>?_,λx y hx hy=>?_,λx y hx hy=>?_⟩
 ·have:=apA.mp hE i (apx.mpr hi);simp only[apN,Bool.not_eq_true']at this;exact⟨be this.1.1,λz=>by rw[z]at this;simp at this,bl this.2⟩
 ·have:=apA.mp hL x (apx.mpr hx);simp only[aq8,apN]at this
  rcases this with this|this
  ·exact absurd (be this) h0
  ·exact⟨be this.1,bl this.2⟩
 ·have:=apA.mp (apA.mp hM x (apx.mpr hx)) y (apx.mpr hy);rw[Ov this,yM]
 ·have:=apA.mp (apA.mp hD x (apx.mpr hx)) y (apx.mpr hy);have:=be this
  rwa[yM,yM,yM]at this
section
variable {f:Fd}(I:Is f)
include I
theorem Is.pp:(0:Int)<f.p:=by have:=I.p2;omega
theorem Is.pw:((f.p:Int))^f.n=(f.q:Int):=by rw[<-I.pn];simp
end
def P(f:Fd) (x:Nat):Nat->Nat
 |0=>1
 |k+1=>M f (P f x k) x
section
variable {f:Fd}(I:Is f)
include I
theorem anm(x y:Nat):((aI f x y).toNat:Int)=aI f x y/\(aI f x y).toNat<f.q:=by
 have h1:=ani I.pp (n:=f.n) (x:Int) y;have h2:=anj I.pp (n:=f.n) (x:Int) y;rw[I.pw]at h2;unfold aI;omega
end
end Fq
namespace Ev
open PySem L2 Fq
theorem Dn{p:Int}(hp:0<p):∀(n:Nat) (x:Int),∀d∈b9 p n x,0<=d/\d<p
 |0,x,d,h=>by cases h
 |n+1,x,d,h=>by
  rcases apu.mp h with rfl|h
  ·exact⟨aq2 _ (by omega),aq3 _ hp⟩
  ·exact Dn hp n _ d h
def As:ah:=(aD (eL (gx (ak 3) (au ck (ak 0) (ak 1)))) (aG 0 (au gi (ak 0) (ak 1))))
theorem afm{c:aa}{a2 v4:Option D}{p left:Int}{acc:List D}(hp:0<p) (eY:p<1000) (ha:acc.length<1000):As [ζ (.int left),ζ (.int p),a2,ζ (.ref c.length),v4] (c++[.lst acc]) =
  .ok (.nx [ζ (.int (left/p)),ζ (.int p),a2,ζ (.ref c.length),v4]) (c++[.lst (acc++[.int (left % p)])]):=by
 have h:=J5 (c:=c) (acc:=acc) (y:=.int (left % p)) (dO:=ak 3) (da:=au ck (ak 0) (ak 1)) (e:=[ζ (.int left),ζ (.int p),a2,ζ (.ref c.length),v4]) (by simp) (by simp(disch:=omega) [jW]) rfl (by have:=eK (n:=1000) (by decide);omega)
 unfold As;rw[iG,ko,h];simp(disch:=omega) [qE]
theorem NY{c:aa}{a2:Option D}{p:Int}(hp:0<p) (eY:p<1000):∀(items:List D) (left:Int) (acc:List D) (v4:Option D),acc.length+items.length<1000 ->
  ∃l' v',dR (λ_=>True) (az 4) As items [ζ (.int left),ζ (.int p),a2,ζ (.ref c.length),v4] (c++[.lst acc]) =
   .ok (.nx [ζ (.int l'),ζ (.int p),a2,ζ (.ref c.length),v']) (c++[.lst (acc++(b9 p items.length left).map D.int)])
 |[],left,acc,v4,_=>⟨left,v4,by simp[b9]⟩
 |x::xs,left,acc,v4,h=>by
  simp only[apL]at h;obtain⟨l',v',ih⟩:=NY hp eY xs (left/p) (acc++[.int (left % p)]) (ζ x) (by simp;omega)
  refine⟨l',v',?_⟩;rw[l6];simp only[T4,aqP,arF,R.aA];rw[afm hp eY (by omega)]
  simp only[R.aA];rw[ih];simp[b9]
theorem Ar{p N x:Int}(hp:0<p) (eY:p<1000) {n:Nat}(hl:(bf 0 N).length=n) (hn:n<1000) (b1:-4611686018427387904<=N/\N<4611686018427387904) (c:aa) :
  fU [.int x,.int p,.int N] c=.ok (.lst ((b9 p n x).map D.int)) c:=by
 obtain⟨l',v',hf⟩:=NY (c:=c) (a2:=ζ (.int N)) (p:=p) hp eY (bf 0 N) x [] η (by rw[hl,ap3];omega)
 rw[hl,apS]at hf;unfold As at hf;simp[fU,vm];rw[if_pos b1];simp only[R.aA];rw[hf];simp[dH,Ae]
def dv(q p:Int):Bool:=decide (q % p=0)
def prs:List Int:=[2,3,5,7,11,13,17,19,23,29,31,37,41,43,47]
theorem P5{α:Type}{P:α->Bool}{p:α}:∀{l:List α},l.find? P=ζ p->∃r,l.filter P=p::r
 |[],h=>by cases h
 |a::l,h=>by
  rw[List.find?_cons]at h;rw[atN];cases hP:P a with
  |true=>rw[hP]at h;cases h;exact⟨_,if_pos rfl⟩
  |false =>
   rw[hP]at h;obtain⟨r,hr⟩:=P5 (l:=l) h;exact⟨r,by rw[if_neg apP];exact hr⟩
def BL(q:Int):D->Bool
 |.int p=>dv q p
 |_=>Δ
theorem Qf(q:Int):∀l:List Int,((l.map D.int).filter (BL q)).map id=(l.filter (dv q)).map D.int
 |[]=>rfl
 |a::l=>by
  have ih:=Qf q l;have e:BL q (.int a)=dv q a:=rfl;rw[apE,atN,atN,e];cases dv q a with
  |true=>rw[if_pos rfl,if_pos rfl,apE,apE,ih];rfl
  |false=>rw[if_neg apP,if_neg apP,ih]
theorem Zp{q:Int}{p:Int}(h:prs.find? (dv q)=ζ p) (c:aa):gB [.int q] c=.ok (.int p) c:=by
 have XU:(15:Nat)<=ι:=by decide
 have Vy:(15:Nat)<ι:=by decide
 have hc:=pB (c:=c) (g:=az 0) (t:=aQ (au cB (au ck (ak 1) (ak 0)) (dC (.int 0)))) (a:=ak 0) (λe=>∃v,e=[v,ζ (.int q)]) (BL q) id
  (prs.map D.int) [η,ζ (.int q)] [] ⟨η,rfl⟩ (λx hx e ⟨v,he⟩=>by
   subst he;obtain⟨i,hi,rfl⟩:=apv.mp hx;have i0:0<i:=by
    simp only[prs,apu,apI,or_false]at hi;omega
   refine⟨_,rfl,⟨_,rfl⟩,?_,λ_=>rfl⟩
   have e:ck (.int q) (.int i) c=.ok (.int (q % i)) c:=jW c i0;simp[e,BL,dv])
 obtain⟨r,hr⟩:=P5 h;rw[Qf,hr]at hc;simp only[apE,apS]at hc;have hp:prs.map D.int=[D.int 2,.int 3,.int 5,.int 7,.int 11,.int 13,.int 17,.int 19,.int 23,.int 29,.int 31,.int 37,.int 41,.int 43,.int 47]:=rfl;rw[hp]at hc;simp[-kg,gB,vo,XU,Vy,dB];rw[hc];simp
theorem Zo:(cS.all λf=>(θ f.n).all λk=>prs.find? (dv ((f.p:Int)^(k+1)))==ζ (f.p:Int))=ξ:=by decide +kernel
theorem Mv{f:Fd}(h:f∈cS) {k:Nat}(hk:k<f.n) (c:aa):gB [.int ((f.p:Int)^(k+1))] c=.ok (.int f.p) c:=by
 refine Zp ?_ c;have:=apA.mp (apA.mp Zo f h) k (apx.mpr hk)
 simpa using this
theorem Dv{f:Fd}(h:f∈cS) (c:aa):gB [.int f.q] c=.ok (.int f.p) c:=by
 have I:=jc h;have n1:=I.n1;have:=Mv h (k:=f.n-1) (by omega) c
 rwa[show f.n-1+1=f.n by omega,I.pw]at this
def BN:ah:=(aD (aG 0 (au gi (ak 0) (aC 1 gB (ao (ak 0) aq)))) (aG 1 (au br (ak 1) (dC (.int 1)))))
theorem Qh{f:Fd}(h:f∈cS) (c:aa):∀(k fuel:Nat) (d:Int),k<=f.n->k<fuel->gP (aQ (au uH (ak 0) (dC (.int 1)))) BN fuel [ζ (.int ((f.p:Int)^k)),ζ (.int d)] c=.ok (.nx [ζ (.int 1),ζ (.int (d+k))]) c
 |0,fuel+1,d,_,_=>by simp[gP]
 |k+1,fuel+1,d,hk,hf=>by
  have I:=jc h;have p2:=I.p2;have kJ:=I.kJ;have ih:=Qh h c k fuel (d+1) (by omega) (by omega)
  have hpos:∀j:Nat,(1:Int)<=(f.p:Int)^j:=λj=>by
   have:=Nat.one_le_pow j f.p (by omega)
   have e:((f.p^j:Nat):Int)=(f.p:Int)^j:=by simp
   omega
  have h1:(1:Int)<(f.p:Int)^(k+1):=by
   rw[atL];have h2:=hpos k;have h3:(f.p:Int)^k*2<=(f.p:Int)^k*f.p:=Int.mul_le_mul_of_nonneg_left (by omega) (by omega)
   omega
  have hd:(f.p:Int)^(k+1)/f.p=(f.p:Int)^k:=by
   rw[atL];exact Int.mul_ediv_cancel _ (by omega)
  have e:BN [ζ (.int ((f.p:Int)^(k+1))),ζ (.int d)] c=.ok (.nx [ζ (.int ((f.p:Int)^k)),ζ (.int (d+1))]) c:=by
   have e1:gi (.int ((f.p:Int)^(k+1))) (.int f.p) c=.ok (.int ((f.p:Int)^k)) c:=by rw[qE c (by omega) (by omega),hd]
   simp[BN,Mv h (show k<f.n by omega),e1]
  have et:aQ (au uH (ak 0) (dC (.int 1))) [ζ (.int ((f.p:Int)^(k+1))),ζ (.int d)] c=.ok ξ c:=by simp[h1]
  unfold gP;rw[et];simp only[R.aA,if_pos];rw[e];simp only[R.aA];rw[ih,show d+1+(k:Int)=d+((k+1:Nat):Int) by omega]
theorem Qg{f:Fd}(h:f∈cS) (c:aa):kO [.int f.q] c=.ok (.int f.n) c:=by
 have I:=jc h;have hl:=Qh h c f.n 10 0 (aps _) (by have:=I.n5;omega)
 rw[I.pw,Int.zero_add]at hl;unfold BN at hl;simp only[kO,vz,e7,TJ,iG,gm,iH,R.aA,apE,asV,apL,ap3];show R.bind (R.bind (gP _ _ 10 [ζ (.int f.q),ζ (.int 0)] c) _) _=_;rw[hl];simp
def jR(p:Int):List Int->Int
 |[]=>0
 |d::r=>jR p r*p+d
theorem Nc{p:Int}:∀{r:List Int},(∀d∈r,0<=d/\d<p)->jR p r=gh p r
 |[],_=>rfl
 |d::r,h=>by
  have:=h d aqg;rw[jR,gh,Nc λx hx=>h x (ap7 _ hx),auw this.1 this.2]
theorem adW(p:Int) (r:List Int):r.reverse.foldl (λn d=>n*p+d) 0=jR p r:=by
 rw[List.foldl_reverse]
 induction r with
 |nil=>rfl
 |cons d r ih=>rw[List.foldr_cons,ih];rfl
def J3(L:List D->aa->R D):ah:=(aD (aG 2 (dC (.int 0))) (aD (bQ (bg (ao (aF L (ao (ak 0) aq)) aq)) (az 3) (aG 2 (au br (au aW (ak 2) (ak 1)) (au aE (ak 0) (au bz (au bz (aF L (ao (ak 0) aq)) (dC (.int 1))) (ak 3)))))) (aM (ak 2))))
theorem al4:vq=J3 aY:=rfl
def Ec(L:List D->aa->R D):ah:=(aG 2 (au br (au aW (ak 2) (ak 1)) (au aE (ak 0) (au bz (au bz (aF L (ao (ak 0) aq)) (dC (.int 1))) (ak 3)))))
theorem afp{L:List D->aa->R D}{p N:Int}(hp:0<p) (eY:p<1000) (r:List Int) (hN:N=r.length) (b1:-4611686018427387904<=N/\N<4611686018427387904) {c:aa}(hL:L [.lst (r.map D.int)] c=.ok (.int N) c):bK 4 Δ (J3 L) [.lst (r.map D.int),.int p] c=.ok (.int (jR p r)) c:=by
 obtain⟨v',hf⟩:=uL (g:=az 3) (s:=Ec L) (λ_=>c) (λi v=>[ζ (.lst (r.map D.int)),ζ (.int p),ζ (.int ((r.reverse.take i).foldl (λn d=>n*p+d) 0)),v]) hN η (λi hi v=>by
  refine⟨_,rfl,ζ (.int i),?_⟩;have hr:i<r.reverse.length:=by rw[auW];exact hi
  have ht:r.reverse.take (i+1)=r.reverse.take i++[r.reverse[i]]:=arW hr;have hx:dI (r.map D.int) (N-1-i)=ζ (.int r.reverse[i]):=by
   have hg:(r.map D.int)[r.length-1-i]? = ζ (.int r.reverse[i]):=by
    rw[apM,apw (by omega)]
    simp
   have:=g8 (xs:=r.map D.int) (j:=r.length-1-i) (v:=.int r.reverse[i]) hg;rw[show((r.length-1-i:Nat):Int)=N-1-i by omega]at this
   exact this
  rw[ht,arX]
  generalize (r.reverse.take i).foldl (λn d=>n*p+d) 0=w
  generalize r.reverse[i]=z at hx
  have hm:aW (.int w) (.int p) c=.ok (.int (w*p)) c:=mul_r c (by omega) (by omega)
  simp[Ec,hL,hm,hx])
 have e0:(r.reverse.take r.length).foldl (λn d=>n*p+d) 0=jR p r:=by
  rw[arD (by rw[auW];exact aps _),adW]
 simp only[asq,List.foldl_nil]at hf;rw[e0]at hf;unfold Ec at hf;simp[J3,hL];rw[if_pos b1];simp only[R.aA];rw[hf];simp
theorem N2{p:Int}(hp:0<p) (eY:p<1000) (r:List Int) (hr:r.length<1000) (c:aa):qm [.lst (r.map D.int),.int p] c=.ok (.int (jR p r)) c:=by
 rw[qm,al4];exact afp hp eY r rfl (by omega) (by rw[KI,apC])
def gJ(l:List Int) (i:Nat):Int:=l.getD i 0
theorem Px{l:List Int}{i:Nat}(h:i<l.length):(l.map D.int)[i]? = ζ (.int (gJ l i)):=by
 rw[apM,apw h];simp[gJ,List.getD,h]
theorem To(f:Int->Int->Int) {a b:List Int}{n:Nat}(ha:a.length=n) (hb:b.length=n):List.zipWith f a b=(θ n).map λi=>f (gJ a i) (gJ b i):=by
 apply ati
 ·simp[ha,hb]
 ·intro i h1 h2;simp only[List.getElem_zipWith,List.getElem_map,asr];simp at h1;have ia:i<a.length:=by omega
  have ib:i<b.length:=by omega
  simp[gJ,List.getD,ia,ib]
theorem alh{a b:List Int}{p s N:Int}{n:Nat}(hN:N=n) (hp:0<p) (ha:a.length=n) (hb:b.length=n) (hs:-1000<s/\s<1000) (c:aa) :
  bO (λ_=>True) (az 0) aJ (au ck (au br (au aE (au aE (ak 3) (dC (.int 0))) (ak 0)) (au aW (ak 2) (au aE (au aE (ak 3) (dC (.int 1))) (ak 0)))) (ak 1)) (bf 0 N) [η,ζ (.int p),ζ (.int s),ζ (.lst [.lst (a.map D.int),.lst (b.map D.int)])] [] c =
   .ok ((List.zipWith (λx y=>(x+s*y) % p) a b).map D.int) c:=by
 have:=pB (c:=c) (g:=az 0) (t:=aJ) (a:=au ck (au br (au aE (au aE (ak 3) (dC (.int 0))) (ak 0)) (au aW (ak 2) (au aE (au aE (ak 3) (dC (.int 1))) (ak 0)))) (ak 1)) (λe=>∃v,e=[v,ζ (.int p),ζ (.int s),ζ (.lst [.lst (a.map D.int),.lst (b.map D.int)])]) (λ_=>ξ)
  (λd=>match d with|.int i=>.int ((gJ a i.toNat+s*gJ b i.toNat) % p)|d=>d) (bf 0 N) [η,ζ (.int p),ζ (.int s),ζ (.lst [.lst (a.map D.int),.lst (b.map D.int)])] [] ⟨η,rfl⟩ (λx hx e ⟨v,he⟩=>by
   subst he;obtain⟨i,rfl,i0,i1⟩:=lO hx;obtain⟨k,rfl⟩:∃k:Nat,i=k:=⟨i.toNat,by omega⟩
   have h1:dI (a.map D.int) k=ζ (.int (gJ a k)):=g8 (Px (by omega))
   have h2:dI (b.map D.int) k=ζ (.int (gJ b k)):=g8 (Px (by omega))
   have h3:aW (.int s) (.int (gJ b k)) c=.ok (.int (s*gJ b k)) c:=Am c (by omega) (by omega)
   have h4:ck (.int (gJ a k+s*gJ b k)) (.int p) c=.ok (.int ((gJ a k+s*gJ b k) % p)) c:=jW c hp;refine⟨_,rfl,⟨_,rfl⟩,rfl,λ_=>?_⟩
   simp[h1,h2,h3,h4])
 rw[this,apS,auX.mpr λ_ _=>rfl,To _ ha hb]
 congr 1
 unfold bf;rw[apV,apV,show(N-0).toNat=n by omega]
 apply aqS;intro i _;simp
def yE(L:List D->aa->R D):ah:=(aD (aG 4 (aC 1 gB (ao (ak 0) aq))) (aD (aG 5 (aC 1 kO (ao (ak 0) aq))) (aD (aG 6 (cy (ao (aC 3 fU (ao (ak 1) (ao (ak 4) (ao (ak 5) aq)))) (ao (aC 3 fU (ao (ak 2) (ao (ak 4) (ao (ak 5) aq)))) aq)))) (aM (aC 2 L (ao (aS (bg (ao (ak 5) aq)) [η,ζ 4,ζ 3,ζ 6] (az 0) aJ (au ck (au br (au aE (au aE (ak 3) (dC (.int 0))) (ak 0)) (au aW (ak 2) (au aE (au aE (ak 3) (dC (.int 1))) (ak 0)))) (ak 1))) (ao (ak 4) aq)))))))
theorem al2:vg=yE qm:=rfl
theorem VM{L:List D->aa->R D}{q x y s p N w:Int}{n:Nat}{a b:List Int}{c:aa}(h1:gB [.int q] c=.ok (.int p) c) (h2:kO [.int q] c=.ok (.int N) c) (h3:fU [.int x,.int p,.int N] c=.ok (.lst (a.map D.int)) c) (h4:fU [.int y,.int p,.int N] c=.ok (.lst (b.map D.int)) c)
  (hN:N=n) (hp:0<p) (ha:a.length=n) (hb:b.length=n) (hs:-1000<s/\s<1000) (b1:-4611686018427387904<=N/\N<4611686018427387904) (hl:(bf 0 N).length<ι) (hn:L [.lst ((List.zipWith (λx y=>(x+s*y) % p) a b).map D.int),.int p] c=.ok (.int w) c):bK 7 Δ (yE L) [.int q,.int x,.int y,.int s] c=.ok (.int w) c:=by
 have hc:=alh (a:=a) (b:=b) (p:=p) (s:=s) hN hp ha hb hs c;have key:yE L [ζ (.int q),ζ (.int x),ζ (.int y),ζ (.int s),η,η,η] c=.ok (.rt (.int w)) c:=by
  simp[yE,h1,h2,h3,h4,dB];rw[if_pos b1];simp only[R.aA];rw[if_pos hl,hc];simp only[R.aA,apL,ap3,if_pos,hn]
 rw[e7];show R.bind (yE L [ζ (.int q),ζ (.int x),ζ (.int y),ζ (.int s),η,η,η] c) _=_;rw[key];simp
theorem Ku(f:Int->Int->Int) (p:Int):∀a b:List Int,List.zipWith (λx y=>f x y % p) a b=(List.zipWith f a b).map (· % p)
 |[],b=>by simp
 |a::as,[]=>by simp
 |a::as,b::bs=>by rw[atO,atO,apE,Ku f p as bs]
theorem VJ{f:Fd}(h:f∈cS) (x y s:Int) (hs:-1000<s/\s<1000) (c:aa):oq [.int f.q,.int x,.int y,.int s] c=.ok (.int (gh f.p (List.zipWith (λa b=>a+s*b) (b9 f.p f.n x) (b9 f.p f.n y)))) c:=by
 have I:=jc h;have p2:=I.p2;have kJ:=I.kJ;have n5:=I.n5;have hsz:=eK (n:=1000) (by decide)
 have h1:=λz=>Ar (p:=f.p) (N:=f.n) (x:=z) (n:=f.n) (by omega) (by omega) (by rw[fM];omega) (by omega) (by omega) c
 have hn:=N2 (p:=f.p) (by omega) (by omega) (List.zipWith (λa b=>(a+s*b) % (f.p:Int)) (b9 f.p f.n x) (b9 f.p f.n y)) (by rw[Kw];omega) c
 have e:jR f.p (List.zipWith (λa b=>(a+s*b) % (f.p:Int)) (b9 f.p f.n x) (b9 f.p f.n y))=gh f.p (List.zipWith (λa b=>a+s*b) (b9 f.p f.n x) (b9 f.p f.n y)):=by
  rw[Ku,Nc,Na];intro d hd;obtain⟨z,_,rfl⟩:=apv.mp hd;exact⟨aq2 _ (by omega),aq3 _ (by omega)⟩
 rw[e]at hn;rw[oq,al2];exact VM (n:=f.n) (Dv h c) (Qg h c) (h1 x) (h1 y) rfl (by omega) (i6 _ _ _) (i6 _ _ _) hs (by omega) (by rw[fM];omega) hn
def gI(l:List Int) (i:Nat):Int:=l.getD i 0
theorem uK{l:List Int}{i:Nat}(h:i<l.length):(l.map D.int)[i]? = ζ (.int (gI l i)):=by
 rw[apM,apw h];simp[gI,List.getD,h]
def kT(p a:Int) (b:List Int) (k:Nat) (F:List Int):Nat->List Int
 |0=>F
 |j+1=>(kT p a b k F j).set (k+j) ((gI (kT p a b k F j) (k+j)+a*gI b j) % p)
def kK(p:Int) (a b:List Int) (F:List Int):Nat->List Int
 |0=>F
 |k+1=>kT p (gI a k) b k (kK p a b F k) b.length
def gT(a b:List Int) (p:Int):List Int:=kK p a b (π (a.length+b.length-1) 0) a.length
theorem AA{p a:Int}{b:List Int}{k:Nat}{F:List Int}:∀j,(kT p a b k F j).length=F.length
 |0=>rfl
 |j+1=>by rw[kT,asT,AA j]
theorem zY{p:Int}{a b F:List Int}:∀k,(kK p a b F k).length=F.length
 |0=>rfl
 |k+1=>by rw[kK,AA,zY k]
theorem map_set{l:List Int}{i:Nat}{x:Int}:(l.map D.int).set i (.int x)=(l.set i x).map D.int:=by rw[List.map_set]
def in1(a p:Option D):Ev:=[a,p]
def wk:ah:=(iZ (au ck (au br (au aE (ak 3) (au br (ak 4) (ak 5))) (au aW (au aE (ak 0) (ak 4)) (au aE (ak 1) (ak 5)))) (ak 2)) (l5 (ak 3) (au br (ak 4) (ak 5))))
theorem VX{a b F:List Int}{p:Int}{c:aa}{k j:Nat}(hp:0<p) (hk:k<a.length) (hj:j<b.length) (hF:k+j<F.length) (hs:∀x∈a,0<=x/\x<1000) :
  wk [ζ (.lst (a.map D.int)),ζ (.lst (b.map D.int)),ζ (.int p),ζ (.ref c.length),ζ (.int k),ζ (.int j)] (c++[.lst (F.map D.int)]) =
   .ok (.nx [ζ (.lst (a.map D.int)),ζ (.lst (b.map D.int)),ζ (.int p),ζ (.ref c.length),ζ (.int k),ζ (.int j)]) (c++[.lst ((F.set (k+j) ((gI F (k+j)+gI a k*gI b j) % p)).map D.int)]):=by
 have h1:=Gi (c:=c) (l:=F.map D.int) (i:=(k:Int)+j) (j:=k+j) (d:=.int (gI F (k+j))) (by omega) (uK hF)
 have h2:dI (a.map D.int) k=ζ (.int (gI a k)):=g8 (uK hk);have h3:dI (b.map D.int) j=ζ (.int (gI b j)):=g8 (uK hj);have hb:0<=gI a k/\gI a k<1000:=hs _ (by simp[gI,List.getD,hk])
 have h4:∀c,aW (.int (gI a k)) (.int (gI b j)) c=.ok (.int (gI a k*gI b j)) c:=λc=>Am c (by omega) (by omega)
 have h5:=λx=>LZ (c:=c) (l:=F.map D.int) (i:=(k:Int)+j) (j:=k+j) (d:=.int x) (by omega) (by simpa using hF) rfl
 have h6:∀x c,ck (.int x) (.int p) c=.ok (.int (x % p)) c:=λx c=>jW c hp
 simp only[wk,KL,ez,bA,gz,gs,R.aA,lz,rG,h1,h2,h3,h4,h6,KJ,h5,map_set]
def zq(L:List D->aa->R D):ah:=(bQ (bg (ao (aF L (ao (ak 1) aq)) aq)) (az 5) wk)
theorem VW{L:List D->aa->R D}{a b F:List Int}{p N:Int}{c:aa}{k:Nat}(hp:0<p) (hk:k<a.length) (hF:a.length+b.length-1<=F.length) (hs:∀x∈a,0<=x/\x<1000) (hN:N=b.length) (b1:-4611686018427387904<=N/\N<4611686018427387904) (hL:∀c,L [.lst (b.map D.int)] c=.ok (.int N) c) (v5:Option D) :
  ∃v',zq L [ζ (.lst (a.map D.int)),ζ (.lst (b.map D.int)),ζ (.int p),ζ (.ref c.length),ζ (.int k),v5] (c++[.lst (F.map D.int)]) =
   .ok (.nx [ζ (.lst (a.map D.int)),ζ (.lst (b.map D.int)),ζ (.int p),ζ (.ref c.length),ζ (.int k),v']) (c++[.lst ((kT p (gI a k) b k F b.length).map D.int)]):=by
 obtain⟨v',hf⟩:=uL (g:=az 5) (s:=wk) (λj=>c++[.lst ((kT p (gI a k) b k F j).map D.int)]) (λ_ v=>[ζ (.lst (a.map D.int)),ζ (.lst (b.map D.int)),ζ (.int p),ζ (.ref c.length),ζ (.int k),v]) hN v5 (λj hj v=>by
  exact⟨_,rfl,_,VX hp hk hj (by rw[AA];omega) hs⟩)
 refine⟨v',?_⟩;simp only[zq,fJ,gM,bJ,fK,bA,bI,gz,gs,R.aA,hL];rw[if_pos (by omega)]
 exact hf
def yD(L:List D->aa->R D) (Rp:D->D->aa->R D):ah:=(aD (aG 3 (au Rp (cy (ao (dC (.int 0)) aq)) (au bz (au br (aF L (ao (ak 0) aq)) (aF L (ao (ak 1) aq))) (dC (.int 1))))) (aD (bQ (bg (ao (aF L (ao (ak 0) aq)) aq)) (az 4) (bQ (bg (ao (aF L (ao (ak 1) aq)) aq)) (az 5) (iZ (au ck (au br (au aE (ak 3) (au br (ak 4) (ak 5))) (au aW (au aE (ak 0) (ak 4)) (au aE (ak 1) (ak 5)))) (ak 2)) (l5 (ak 3) (au br (ak 4) (ak 5)))))) (aM (ak 3))))
theorem RQ:mj=yD aY kD:=rfl
theorem LS{L:List D->aa->R D}{Rp:D->D->aa->R D}{a b:List Int}{p N M:Int}{c:aa}(hp:0<p) (ha:a≠[]) (hs:∀x∈a,0<=x/\x<1000) (hN:N=b.length) (b1:-4611686018427387904<=N/\N<4611686018427387904) (hL:∀c,L [.lst (b.map D.int)] c=.ok (.int N) c)
  (hM:M=a.length) (b2:-4611686018427387904<=M/\M<4611686018427387904) (uF:∀c,L [.lst (a.map D.int)] c=.ok (.int M) c) (hR:Rp (.lst [.int 0]) (.int (M+N-1)) c=.ok (.ref c.length) (c++[.lst ((π (a.length+b.length-1) (0:Int)).map D.int)])) :
  yD L Rp [ζ (.lst (a.map D.int)),ζ (.lst (b.map D.int)),ζ (.int p),η,η,η] c=.ok (.rt (.ref c.length)) (c++[.lst ((gT a b p).map D.int)]):=by
 obtain⟨v',hf⟩:=uL (α:=Option D×Option D) (g:=az 4) (s:=zq L) (λk=>c++[.lst ((kK p a b (π (a.length+b.length-1) 0) k).map D.int)]) (λ_ v=>[ζ (.lst (a.map D.int)),ζ (.lst (b.map D.int)),ζ (.int p),ζ (.ref c.length),v.1,v.2]) hM (η,η) (λk hk v=>by
  obtain⟨w,h⟩:=VW (L:=L) (a:=a) (b:=b) (F:=kK p a b (π (a.length+b.length-1) 0) k) (c:=c) (k:=k) hp hk (by rw[zY,ash];exact aps _) hs hN b1 hL v.2
  exact⟨_,rfl,(ζ (.int k),w),h⟩)
 simp only[yD,iG,gm,ez,KH,bJ,iH,bI,R.aA,fK,bA,gz,gs,hL,uF,lz,zc];rw[if_pos (by decide)]
 simp only[R.aA,hR,aqP,arF,fJ,gM,bJ,fK,bA,bI,gz,gs,uF];rw[if_pos (by omega)]
 simp only[R.aA];unfold zq at hf;unfold wk at hf;simp only[kK]at hf;rw[hf];rfl
theorem LR{a b:List Int}(h:a.length+b.length<1000) (ha:a≠[]) {M N:Int}(hM:M=a.length) (hN:N=b.length) (c:aa):kD (.lst [.int 0]) (.int (M+N-1)) c=.ok (.ref c.length) (c++[.lst ((π (a.length+b.length-1) (0:Int)).map D.int)]):=by
 have hl:0<a.length:=List.length_pos_iff.mpr ha;have hs:=eK (n:=1000) (by decide)
 have ht:(M+N-1).toNat=a.length+b.length-1:=by omega
 rw[TM,ht,if_pos ⟨by omega,by omega,by simp only[apL,ap3];omega,rfl⟩]
 congr 4
 generalize a.length+b.length-1=n
 induction n with
 |zero=>rfl
 |succ n ih=>rw[aqK,aqU,ih];rfl
theorem xH(l:List Int) (c:aa):aY [.lst (l.map D.int)] c=.ok (.int l.length) c:=by rw[KI,apC]
theorem VV{a b:List Int}{p:Int}(hp:0<p) (ha:a≠[]) (hs:∀x∈a,0<=x/\x<1000) (h:a.length+b.length<1000) (c:aa):lQ [.lst (a.map D.int),.lst (b.map D.int),.int p] c=.ok (.lst ((gT a b p).map D.int)) c:=by
 have:=LS (L:=aY) (Rp:=kD) hp ha hs rfl (by omega) (xH b) rfl (by omega) (xH a) (LR h ha rfl rfl c)
 rw[lQ,RQ,e7];show R.bind (yD aY kD [ζ (.lst (a.map D.int)),ζ (.lst (b.map D.int)),ζ (.int p),η,η,η] c) _=_;rw[this];simp[dH]
theorem VU{a b:List Int}{p:Int}(hp:0<p) (ha:a≠[]) (hs:∀x∈a,0<=x/\x<1000) (h:a.length+b.length<1000) (c:aa):uh [.lst (a.map D.int),.lst (b.map D.int),.int p] c=.ok (.ref c.length) (c++[.lst ((gT a b p).map D.int)]):=by
 have:=LS (L:=aY) (Rp:=kD) hp ha hs rfl (by omega) (xH b) rfl (by omega) (xH a) (LR h ha rfl rfl c)
 rw[uh,RQ,e7];show R.bind (yD aY kD [ζ (.lst (a.map D.int)),ζ (.lst (b.map D.int)),ζ (.int p),η,η,η] c) _=_;rw[this];simp[dH]
def more(p:Nat) (row:List Int):List (List Int):=(θ p).map λd:Nat=>row++[(d:Int)]
def dX(p:Nat):Nat->List (List Int)
 |0=>[[]]
 |i+1=>(dX p i).flatMap (more p)
theorem GU{l:List D}:(l.filter λ_=>ξ)=l:=auX.mpr λ_ _=>rfl
def LD(L:List (List Int)):List D:=L.map λr=>.lst (r.map D.int)
theorem R9(a b:List (List Int)):LD (a++b)=LD a++LD b:=by simp[LD]
theorem Kh(L:List (List Int)):bN (LD L)=ξ:=iz.mpr λd hd=>by
 obtain⟨r,_,rfl⟩:=apv.mp hd;rw[Mq];exact Ae
theorem lq(L:List (List Int)):(LD L).length=L.length:=by simp[LD]
theorem D3(p:Nat) (r:List Int):(more p r).length=p:=by simp[more]
theorem AI(p:Nat):∀i,(dX p i).length=p^i
 |0=>rfl
 |i+1=>by
  have:∀L:List (List Int),(L.flatMap (more p)).length=L.length*p:=by
   intro L
   induction L with
   |nil=>simp
   |cons a L ih=>rw[atQ,ap5,ih,D3,apL,aqx,arP]
  rw[dX,this,AI p i,Nat.pow_succ]
theorem Lr{α β:Type}(f:α->List β) {L:List α}{j:Nat}(h:j<L.length):(L.take (j+1)).flatMap f=(L.take j).flatMap f++f L[j]:=by
 rw[arW h,auY];simp
def AJ:ah:=(eL (jg (ak 4) (aS (bg (ao (ak 1) aq)) [η,ζ 5] (az 0) aJ (au fu (ak 1) (cy (ao (ak 0) aq))))))
def xY:ah:=(aD (aG 4 (ff aq)) (aD (bQ (dj (ak 2)) (az 5) (eL (jg (ak 4) (aS (bg (ao (ak 1) aq)) [η,ζ 5] (az 0) aJ (au fu (ak 1) (cy (ao (ak 0) aq))))))) (aG 2 (ak 4))))
theorem alk{row:List Int}{P:Int}{p:Nat}(hP:P=p) (hr:row.length<1000) (c:aa):bO (λ_=>True) (az 0) aJ (au fu (ak 1) (cy (ao (ak 0) aq))) (bf 0 P) [η,ζ (.lst (row.map D.int))] [] c=.ok (LD (more p row)) c:=by
 have hs:=eK (n:=1000) (by decide)
 have hz:row.length+1<=ι:=by omega
 have:=pB (c:=c) (g:=az 0) (t:=aJ) (a:=au fu (ak 1) (cy (ao (ak 0) aq))) (λe=>∃v,e=[v,ζ (.lst (row.map D.int))]) (λ_=>ξ) (λd=>.lst (row.map D.int++[d]))
  (bf 0 P) [η,ζ (.lst (row.map D.int))] [] ⟨η,rfl⟩ (λx hx e ⟨v,he⟩=>by
   subst he;refine⟨_,rfl,⟨_,rfl⟩,rfl,λ_=>?_⟩
   simp[fu,hz])
 rw[this];subst hP
 congr 1
 unfold bf LD more;simp only[apS,GU,apV];rw[show((p:Int)-0).toNat=p by omega]
 apply aqS;intro d _;simp
theorem ahW{C:aa}{acc:List D}{P many:Int}{p:Nat}{row:List Int}(hP:P=p) (bP:-4611686018427387904<=P/\P<4611686018427387904) (hp:p<1000) (hr:row.length<1000) (ha:acc.length+p<=1000) (F v3:Option D) :
  AJ [ζ (.int many),ζ (.int P),F,v3,ζ (.ref C.length),ζ (.lst (row.map D.int))] (C++[.lst acc])=.ok (.nx [ζ (.int many),ζ (.int P),F,v3,ζ (.ref C.length),ζ (.lst (row.map D.int))]) (C++[.lst (acc++LD (more p row))]):=by
 have hs:=eK (n:=1000) (by decide)
 have hc:=alk (row:=row) hP hr (C++[.lst acc]);have hl:(bf 0 P).length<ι:=by rw[fM];omega
 have hl2:acc.length+(LD (more p row)).length<=ι/\bN (LD (more p row))=ξ:=⟨by rw[lq,D3];omega,Kh _⟩
 simp only[AJ,ko,jg,bA,gz,gs,R.aA,er,gM,bJ,bI];rw[if_pos (by omega)]
 simp only[R.aA,dB];rw[if_pos hl];show R.bind (R.bind (R.bind (bO (λ_=>True) (az 0) aJ (au fu (ak 1) (cy (ao (ak 0) aq))) (bf 0 P) [η,ζ (.lst (row.map D.int))] [] (C++[.lst acc])) _) _) _=_
 rw[hc];simp only[R.aA,as9];rw[if_pos hl2];simp
def hC(c:aa) (p i:Nat):aa:=c++(θ i).map λt=>Cell.lst (LD (dX p (t+1)))
def hF(c:aa) (p i:Nat):D:=match i with
 |0=>.lst (LD (dX p 0))
 |i+1=>.ref (c.length+i)
theorem AO(c:aa) (p i:Nat):(hC c p i).length=c.length+i:=by simp[hC]
theorem Pk(c:aa) (p i:Nat):hC c p (i+1)=hC c p i++[.lst (LD (dX p (i+1)))]:=by simp[hC,aqY]
theorem Pj(c:aa) (p i:Nat) (more:aa) {e:Ev}{k:Nat}(he:e[k]? = ζ (ζ (hF c p i))):∃st:aa->Prop,(∀m,st (hC c p i++m))/\dj (ak k) e (hC c p i++more)=.ok ⟨LD (dX p i),st⟩ (hC c p i++more):=by
 cases i with
 |zero=>exact⟨λ_=>True,λ_=>trivial,by simp only[ze,bA,he];rfl⟩
 |succ i =>
  have hg:∀m:aa,(hC c p (i+1)++m)[c.length+i]? = ζ (.lst (LD (dX p (i+1)))):=λm=>by
   rw[ap8 (by rw[AO];omega),Pk,aqi (by rw[AO];exact aps _),AO,aqW]
   rfl
  refine⟨λc'=>c'[c.length+i]? = ζ (.lst (LD (dX p (i+1)))),hg,?_⟩
  simp only[ze,bA,he,hF,R.aA,hg]
theorem ahV{c:aa}{P many:Int}{p i:Nat}(hP:P=p) (bP:-4611686018427387904<=P/\P<4611686018427387904) (hp:p<1000) (hi:p^(i+1)<=1000) (Gr:∀r∈dX p i,r.length<1000) (v3 v4 v5:Option D) :
  ∃w4 w5,xY [ζ (.int many),ζ (.int P),ζ (hF c p i),v3,v4,v5] (hC c p i)=.ok (.nx [ζ (.int many),ζ (.int P),ζ (hF c p (i+1)),v3,w4,w5]) (hC c p (i+1)):=by
 obtain⟨st,hst,hseq⟩:=Pj c p i [.lst []] (e:=[ζ (.int many),ζ (.int P),ζ (hF c p i),v3,ζ (.ref (hC c p i).length),v5]) (k:=2) rfl;have hlen:=AI p i;obtain⟨v',hf⟩:=oY (st:=st) (g:=az 5) (s:=AJ) (λj=>hC c p i++[.lst (LD (((dX p i).take j).flatMap (more p)))]) (λ_ v=>[ζ (.int many),ζ (.int P),ζ (hF c p i),v3,ζ (.ref (hC c p i).length),v]) (LD (dX p i)) 0 v5
  (λj _=>hst _) (λj x hx v=>by
   rw[ap0];have hj:j<(dX p i).length:=by
    have:=(apK.mp hx).1
    rwa[lq]at this
   have hx':x=.lst ((dX p i)[j].map D.int):=by
    have:=(apK.mp hx).2;rw[<-this];simp[LD]
   subst hx';refine⟨_,rfl,ζ (.lst ((dX p i)[j].map D.int)),?_⟩;have hacc:(LD (((dX p i).take j).flatMap (more p))).length+p<=1000:=by
    rw[lq];have:∀L:List (List Int),(L.flatMap (more p)).length=L.length*p:=by
     intro L
     induction L with
     |nil=>simp
     |cons a L ih=>rw[atQ,ap5,ih,D3,apL,aqx,arP]
    rw[this,aqv,asK (by omega)]
    have h2:(j+1)*p<=p^i*p:=ar4 p (by omega)
    have h3:p^i*p=p^(i+1):=(Nat.pow_succ ..).symm;rw[h3,aqx]at h2;omega
   have:=ahW (C:=hC c p i) (many:=many) (row:=(dX p i)[j]) hP bP hp (Gr _ (apR hj)) hacc (ζ (hF c p i)) v3;rw[Lr _ hj,R9];exact this)
 rw[lq,ap0,aqy,asq]at hf;refine⟨ζ (.ref (hC c p i).length),v',?_⟩;have hF1:hF c p (i+1)=.ref (hC c p i).length:=by rw[AO];rfl
 rw[Pk,hF1];simp only[xY,iG,gm,TY,bI,R.aA];rw[if_pos ⟨by simp,by simp⟩]
 simp only[R.aA,aqP,arF,fJ];rw[hseq];simp only[R.aA];unfold AJ at hf;show R.bind (dR st (az 5) _ (LD (dX p i)) [ζ (.int many),ζ (.int P),ζ (hF c p i),v3,ζ (.ref (hC c p i).length),v5] (hC c p i++[.lst (LD ([].flatMap (more p)))])) _=_;rw[hf];rfl
def fq(p n:Nat):List (List Int):=(dX p n).map (· ++ [1])
theorem zB(p:Nat):∀i,∀r∈dX p i,r.length=i
 |0,r,h=>by
  rw[dX,aqa]at h;subst h;rfl
 |i+1,r,h=>by
  rw[dX,auZ]at h;obtain⟨r',h1,h2⟩:=h;obtain⟨d,_,rfl⟩:=apv.mp h2;rw[ap5,zB p i r' h1];rfl
theorem O4{P many:Int}{p n:Nat}(hP:P=p) (hn:many=n) (bP:-4611686018427387904<=P/\P<4611686018427387904) (bn:-4611686018427387904<=many/\many<4611686018427387904) (hp:0<p) (eY:p<1000) (ahr:p^n<1000) (hn':n<100) (c:aa) :
  oz [.int many,.int P] c=.ok (.lst (LD (fq p n))) c:=by
 have hs:=eK (n:=1000) (by decide)
 obtain⟨v',hf⟩:=uL (α:=Option D×Option D×Option D) (g:=az 3) (s:=xY) (hC c p) (λi v=>[ζ (.int many),ζ (.int P),ζ (hF c p i),v.1,v.2.1,v.2.2]) hn (η,η,η) (λi hi v=>by
  obtain⟨w4,w5,h⟩:=ahV (c:=c) (many:=many) (p:=p) (i:=i) hP bP eY (aqG (aqL (au0 hp hi) ahr)) (λr hr=>by rw[zB p i r hr];omega) (ζ (.int i)) v.2.1 v.2.2
  exact⟨_,rfl,(ζ (.int i),w4,w5),h⟩)
 obtain⟨st,hst,hseq⟩:=Pj c p n [] (e:=[ζ (.int many),ζ (.int P),ζ (hF c p n),v'.1,v'.2.1,v'.2.2]) (k:=2) rfl;rw[aqJ]at hseq;have ahi:st (hC c p n):=by have:=hst [];rwa[aqJ]at this
 have hcp:=IS (c:=hC c p n) st ahi (g:=az 0) (t:=aJ) (a:=au fu (ak 0) (cy (ao (dC (.int 1)) aq))) (λe=>∃v,e=[v]) (λ_=>ξ) (λd=>match d with|.lst l=>.lst (l++[.int 1])|d=>d)
  (LD (dX p n)) [η] [] ⟨η,rfl⟩ (λx hx e ⟨v,he⟩=>by
   subst he;obtain⟨r,hr,rfl⟩:=apv.mp hx;have hz:r.length+1<=ι:=by rw[zB p n r hr];omega
   refine⟨_,rfl,⟨_,rfl⟩,rfl,λ_=>?_⟩
   simp[fu,hz])
 have hit:(LD (dX p n)).length<ι:=by rw[lq,AI];omega
 have hres:[]++((LD (dX p n)).filter λ_=>ξ).map (λd=>match d with|.lst l=>D.lst (l++[.int 1])|d=>d)=LD (fq p n):=by
  rw[apS,GU];unfold LD fq;rw[apV,apV];apply aqS;intro r _;simp
 rw[hres]at hcp;have hb:pI=aD (aG 2 (cy (ao (cy aq) aq))) (aD (bQ (bg (ao (ak 0) aq)) (az 3) xY) (aM (aS (dj (ak 2)) [η] (az 0) aJ (au fu (ak 0) (cy (ao (dC (.int 1)) aq)))))):=rfl;have hC0:hC c p 0=c:=by simp[hC]
 rw[hC0]at hf;have key:pI [ζ (.int many),ζ (.int P),η,η,η,η] c=.ok (.rt (.lst (LD (fq p n)))) (hC c p n):=by
  rw[hb];simp only[iG,gm,KH,bJ,bI,R.aA];rw[if_pos (by decide)]
  simp only[R.aA];rw[if_pos (by decide)]
  simp only[R.aA,aqP,arF,fJ,gM,bJ,bA,bI,gz];rw[if_pos (by omega)]
  simp only[R.aA];show R.bind (dR (λ_=>True) (az 3) xY (bf 0 many) [ζ (.int many),ζ (.int P),ζ (hF c p 0),η,η,η] c) _=_
  rw[hf];simp only[R.aA,gO,er];rw[hseq];simp only[R.aA];rw[if_pos hit];show R.bind (R.bind (bO st (az 0) aJ (au fu (ak 0) (cy (ao (dC (.int 1)) aq))) (LD (dX p n)) [η] [] (hC c p n)) _) _=_;rw[hcp];rfl
 rw[oz,e7];show R.bind (pI [ζ (.int many),ζ (.int P),η,η,η,η] c) _=_;rw[key];simp[Kh,hC]
theorem Qa:∀a b:List Int,PyData.eqvAll (a.map PyData.int) (b.map PyData.int)=decide (a=b)
 |[],[]=>by simp[PyData.eqvAll]
 |[],b::bs=>by simp[PyData.eqvAll]
 |a::as,[]=>by simp[PyData.eqvAll]
 |a::as,b::bs=>by
  rw[apE,apE,PyData.eqvAll,Qa as bs,PyData.eqv]
  by_cases h:a=b
  ·subst h;simp
  ·simp[h]
theorem ajm(a:List Int):PyData.depthAll (a.map PyData.int)=0:=by
 induction a with
 |nil=>simp[PyData.depthAll]
 |cons x a ih=>simp[PyData.depthAll,PyData.depth,ih]
theorem aj6(L:List (List Int)):fF (LD L)=ζ (L.map λr=>PyData.list (r.map PyData.int)):=by
 induction L with
 |nil=>simp[LD]
 |cons r L ih =>
  have ih:fF (L.map λr=>D.lst (r.map D.int))=ζ (L.map λr=>PyData.list (r.map PyData.int)):=ih
  simp[LD,fF,eT,Qm,ih]
theorem agZ(r:List Int) (L:List (List Int)) (c:aa):inD (.lst (r.map D.int)) (.ref c.length) (c++[.lst (LD L)])=.ok (.bl (decide (r∈L))) (c++[.lst (LD L)]):=by
 unfold inD;have h1:fO (c++[.lst (LD L)]) (.lst (r.map D.int))=ζ (.list (r.map PyData.int)):=by simp[fO,eT,Qm]
 have h2:fO (c++[.lst (LD L)]) (.ref c.length)=ζ (.list (L.map λr=>PyData.list (r.map PyData.int))):=by simp[fO,aj6]
 rw[h1,h2];simp only;rw[if_pos (by simp[PyData.depth,ajm])]
 congr 2
 clear h1 h2
 induction L with
 |nil=>simp
 |cons a L ih =>
  rw[apE,atR,ih,PyData.eqv,Qa]
  by_cases h:a=r
  ·subst h;simp
  ·have:¬r=a:=λz=>h z.symm
   simp[h,this]
def jz(p n l:Nat) (one:List Int):List (List Int):=(fq p (n-l)).map λother=>gT one other p
def oh(p n l:Nat):List (List Int):=(fq p l).flatMap (jz p n l)
def tP(p n:Nat):List (List Int):=(θ (n/2)).flatMap λl=>oh p n (l+1)
def AV:ah:=(eL (jg (ak 3) (aS (dj (aC 2 oz (ao (au bz (ak 2) (ak 4)) (ao (ak 1) aq)))) [η,ζ 5,ζ 1] (az 0) aJ (aC 3 lQ (ao (ak 1) (ao (ak 0) (ao (ak 2) aq)))))))
def yd:ah:=(bQ (dj (aC 2 oz (ao (ak 4) (ao (ak 1) aq)))) (az 5) (eL (jg (ak 3) (aS (dj (aC 2 oz (ao (au bz (ak 2) (ak 4)) (ao (ak 1) aq)))) [η,ζ 5,ζ 1] (az 0) aJ (aC 3 lQ (ao (ak 1) (ao (ak 0) (ao (ak 2) aq))))))))
theorem O5{p n:Nat}(hp:p<1000) {r:List Int}(h:r∈fq p n):r.length=n+1/\r≠[]/\∀x∈r,0<=x/\x<1000:=by
 obtain⟨t,ht,rfl⟩:=apv.mp h;refine⟨by rw[ap5,zB p n t ht];rfl,by simp,λx hx=>?_⟩
 have gen:∀i,∀r∈dX p i,∀x∈r,0<=x/\x<1000:=by
  intro i
  induction i with
  |zero=>intro r hr x hx;rw[dX,aqa]at hr;subst hr;cases hx
  |succ i ih =>
   intro r hr x hx;rw[dX,auZ]at hr;obtain⟨r',h1,h2⟩:=hr;obtain⟨d,hd,rfl⟩:=apv.mp h2
   rcases ap1.mp hx with hx|hx
   ·exact ih r' h1 x hx
   ·rw[aqa]at hx;subst hx;have:=apx.mp hd;omega
 rcases ap1.mp hx with hx|hx
 ·exact gen n t ht x hx
 ·rw[aqa]at hx;subst hx;omega
theorem alj{p k:Nat}{one:List Int}{P:Int}(hP:P=p) (hp:0<p) (eY:p<1000) (hk:k<100) (h1:one≠[]) (h2:∀x∈one,0<=x/\x<1000) (h3:one.length<500) (c:aa) :
  bO (λ_=>True) (az 0) aJ (aC 3 lQ (ao (ak 1) (ao (ak 0) (ao (ak 2) aq)))) (LD (fq p k)) [η,ζ (.lst (one.map D.int)),ζ (.int P)] [] c=.ok (LD ((fq p k).map λother=>gT one other p)) c:=by
 have:=pB (c:=c) (g:=az 0) (t:=aJ) (a:=aC 3 lQ (ao (ak 1) (ao (ak 0) (ao (ak 2) aq)))) (λe=>∃v,e=[v,ζ (.lst (one.map D.int)),ζ (.int P)]) (λ_=>ξ)
  (λd=>match d with|.lst l=>.lst ((gT one ((jZ l).getD []) p).map D.int)|d=>d) (LD (fq p k)) [η,ζ (.lst (one.map D.int)),ζ (.int P)] [] ⟨η,rfl⟩ (λx hx e ⟨v,he⟩=>by
   subst he;obtain⟨r,hr,rfl⟩:=apv.mp hx;have hb:=O5 eY hr;refine⟨_,rfl,⟨_,rfl⟩,rfl,λ_=>?_⟩
   have kU:=VV (a:=one) (b:=r) (p:=P) (by omega) h1 h2 (by omega) c
   subst hP;simp[kU,xQ])
 rw[this,apS,GU]
 congr 1
 unfold LD;rw[apV,apV];apply aqS;intro r _;simp[xQ]
structure Cn (p n:Nat):Prop where
 p0:0<p
 p1:p<1000
 n1:1<n
 n2:n<100
 pw:∀i,i<=n->p^i<1000
theorem AW{α β:Type}(f:α->List β) (k:Nat):∀L:List α,(∀x∈L,(f x).length=k)->(L.flatMap f).length=L.length*k
 |[],_=>by simp
 |a::L,h=>by
  rw[atQ,ap5,AW f k L λx hx=>h x (ap7 _ hx),h a aqg,apL,aqx,arP]
theorem uE(p n:Nat):(fq p n).length=p^n:=by rw[fq,apC,AI]
theorem aiT{p n l:Nat}(B:Cn p n) {P N l':Int}(hP:P=p) (hN:N=n) (hl:l'=l) (l1:1<=l) (l2:l<=n) {c:aa}{acc:List (List Int)}{one:List Int}(h1:one≠[]) (h2:∀x∈one,0<=x/\x<1000) (h3:one.length<500) (ha:acc.length+p^(n-l)<=1000) (q v6:Option D) :
  AV [q,ζ (.int P),ζ (.int N),ζ (.ref c.length),ζ (.int l'),ζ (.lst (one.map D.int)),v6] (c++[.lst (LD acc)]) =
   .ok (.nx [q,ζ (.int P),ζ (.int N),ζ (.ref c.length),ζ (.int l'),ζ (.lst (one.map D.int)),v6]) (c++[.lst (LD (acc++jz p n l one))]):=by
 obtain⟨p0,p1,n1,n2,pw⟩:=B;have hs:=eK (n:=1000) (by decide)
 have hpl:=pw (n-l) (by omega)
 have hh:=O4 (many:=N-l') (P:=P) (p:=p) (n:=n-l) hP (by omega) (by omega) (by omega) p0 p1 hpl (by omega) (c++[.lst (LD acc)])
 have hc:=alj (p:=p) (k:=n-l) (one:=one) hP p0 p1 (by omega) h1 h2 h3 (c++[.lst (LD acc)])
 have hit:(LD (fq p (n-l))).length<ι:=by rw[lq,uE];omega
 have hl2:(LD acc).length+(LD (jz p n l one)).length<=ι/\bN (LD (jz p n l one))=ξ:=⟨by
  rw[lq,lq,jz,apC,uE];omega,Kh _⟩
 have hsub:∀c:aa,bz (.int N) (.int l') c=.ok (.int (N-l')) c:=λ_=>rfl
 simp only[AV,ko,jg,bA,gz,gs,R.aA,er,ze,x_call,bJ,ez,hsub,bI,apL,ap3,if_pos,hh];rw[if_pos hit];show R.bind (R.bind (R.bind (bO (λ_=>True) (az 0) aJ (aC 3 lQ (ao (ak 1) (ao (ak 0) (ao (ak 2) aq)))) (LD (fq p (n-l))) [η,ζ (.lst (one.map D.int)),ζ (.int P)] [] (c++[.lst (LD acc)])) _) _) _=_
 rw[hc];simp only[R.aA,as9];rw[if_pos (show(LD acc).length+(LD ((fq p (n-l)).map λother=>gT one other p)).length<=ι/\bN (LD ((fq p (n-l)).map λother=>gT one other p))=ξ from hl2)]
 rw[R9];simp[jz]
theorem aiS{p n l:Nat}(B:Cn p n) {P N l':Int}(hP:P=p) (hN:N=n) (hl:l'=l) (l1:1<=l) (l2:l<=n) {c:aa}{acc:List (List Int)}(ha:acc.length+p^n<=1000) (q v5 v6:Option D) :
  ∃w5,yd [q,ζ (.int P),ζ (.int N),ζ (.ref c.length),ζ (.int l'),v5,v6] (c++[.lst (LD acc)])=.ok (.nx [q,ζ (.int P),ζ (.int N),ζ (.ref c.length),ζ (.int l'),w5,v6]) (c++[.lst (LD (acc++oh p n l))]):=by
 obtain⟨p0,p1,n1,n2,pw⟩:=id B;have hh:=O4 (many:=l') (P:=P) (p:=p) (n:=l) hP hl (by omega) (by omega) p0 p1 (pw l l2) (by omega) (c++[.lst (LD acc)])
 obtain⟨v',hf⟩:=oY (st:=λ_=>True) (g:=az 5) (s:=AV) (λj=>c++[.lst (LD (acc++((fq p l).take j).flatMap (jz p n l)))]) (λ_ v=>[q,ζ (.int P),ζ (.int N),ζ (.ref c.length),ζ (.int l'),v,v6]) (LD (fq p l)) 0 v5
  (λ_ _=>trivial) (λj x hx v=>by
   rw[ap0];have hj:j<(fq p l).length:=by
    have:=(apK.mp hx).1
    rwa[lq]at this
   have hx':x=.lst ((fq p l)[j].map D.int):=by
    have:=(apK.mp hx).2;rw[<-this];simp[LD]
   subst hx';have hb:=O5 p1 (apR hj);refine⟨_,rfl,ζ (.lst ((fq p l)[j].map D.int)),?_⟩;have hfl:=AW (jz p n l) (p^(n-l)) ((fq p l).take j) (λy _=>by rw[jz,apC,uE])
   rw[aqv,asK (by omega)]at hfl
   have hacc:(acc++((fq p l).take j).flatMap (jz p n l)).length+p^(n-l)<=1000:=by
    rw[ap5,hfl];rw[uE]at hj;have h2:(j+1)*p^(n-l)<=p^l*p^(n-l):=ar4 _ hj;rw[<-Nat.pow_add,show l+(n-l)=n by omega,aqx]at h2
    omega
   have:=aiT (l:=l) B hP hN hl l1 l2 (c:=c) hb.2.1 hb.2.2 (by omega) hacc q v6
   rw[Lr _ hj,<-ap9];exact this)
 rw[lq,ap0,aqy]at hf;refine⟨v',?_⟩;simp only[yd,fJ,ze,x_call,bJ,bA,gz,gs,R.aA,bI,apL,ap3,if_pos,hh];unfold AV at hf;have e0:acc++([]:List (List Int)).flatMap (jz p n l)=acc:=by simp
 rw[asq,e0]at hf;exact hf
theorem Zi(p n:Nat) (h:∀l,1<=l->l<=n->(oh p n l).length=p^n):∀i,i<=n->((θ i).flatMap λl=>oh p n (l+1)).length=i*p^n:=λi hi=>by
 rw[AW _ (p^n) (θ i) λx hx=>h (x+1) (by omega) (by have:=apx.mp hx;omega),aqj]
theorem Zj(p n l:Nat) (h:l<=n):(oh p n l).length=p^n:=by
 rw[oh,AW _ (p^(n-l)) _ λx _=>by rw[jz,apC,uE],uE,<-Nat.pow_add,show l+(n-l)=n by omega]
theorem aiR{p n:Nat}(B:Cn p n) (hb:(n/2)*p^n<=1000) {P N:Int}(hP:P=p) (hN:N=n) (c:aa) (q v6:Option D) :
  ∃w4 w5,dR (λ_=>True) (az 4) yd (bf 1 (N/2+1)) [q,ζ (.int P),ζ (.int N),ζ (.ref c.length),η,η,v6] (c++[.lst []])=.ok (.nx [q,ζ (.int P),ζ (.int N),ζ (.ref c.length),w4,w5,v6]) (c++[.lst (LD (tP p n))]):=by
 have n1:=B.n1;have hl:(bf 1 (N/2+1)).length=n/2:=by rw[fM];omega
 obtain⟨v',hf⟩:=oY (α:=Option D×Option D) (st:=λ_=>True) (g:=az 4) (s:=yd) (λi=>c++[.lst (LD ((θ i).flatMap λl=>oh p n (l+1)))]) (λ_ v=>[q,ζ (.int P),ζ (.int N),ζ (.ref c.length),v.1,v.2,v6]) (bf 1 (N/2+1)) 0 (η,η)
  (λ_ _=>trivial) (λi x hx v=>by
   rw[ap0];obtain⟨h1,rfl⟩:=zD hx;have hi:i<n/2:=by omega
   have hacc:((θ i).flatMap λl=>oh p n (l+1)).length+p^n<=1000:=by
    rw[Zi p n (λl _ h=>Zj p n l h) i (by omega)]
    have h2:(i+1)*p^n<=(n/2)*p^n:=ar4 _ hi;rw[aqx]at h2;omega
   obtain⟨w,h⟩:=aiS (l:=i+1) (l':=1+(i:Int)) B hP hN (by omega) (by omega) (by omega) (c:=c) hacc q v.2 v6
   refine⟨_,rfl,(ζ (.int (1+(i:Int))),w),?_⟩;rw[aqY,auY]
   simpa using h)
 rw[hl,ap0]at hf;exact⟨v'.1,v'.2,hf⟩
def AU:ai:=(aQ (au inD (au fu (aC 3 fU (ao (ak 6) (ao (ak 1) (ao (ak 2) aq)))) (cy (ao (dC (.int 1)) aq))) (ak 3)))
theorem PY{p n:Nat}{P N:Int}(hP:P=p) (hN:N=n) (hp:0<p) (eY:p<1000) (hn:n<100) {t:Int}{c:aa}{L:List (List Int)}(q v4 v5:Option D) :
  AU [q,ζ (.int P),ζ (.int N),ζ (.ref c.length),v4,v5,ζ (.int t)] (c++[.lst (LD L)])=.ok (decide (b9 P n t++[1]∈L)) (c++[.lst (LD L)]):=by
 have hs:=eK (n:=1000) (by decide)
 have hr:=Ar (p:=P) (N:=N) (x:=t) (n:=n) (by omega) (by omega) (by rw[fM];omega) (by omega) (by omega) (c++[.lst (LD L)])
 have hz:(b9 P n t).length+1<=ι:=by rw[i6];omega
 have hi:=agZ (b9 P n t++[1]) L c;rw[aqZ]at hi;simp[AU,hr,fu,hz];simp at hi;rw[hi];rfl
theorem PX{p n:Nat}{P N:Int}(hP:P=p) (hN:N=n) (hp:0<p) (eY:p<1000) (hn:n<100) {c:aa}{L:List (List Int)}{low:Nat}(h1:∀t,t<low->b9 P n t++[1]∈L) (h2:b9 P n low++[1]∉L) (q v4 v5:Option D):∀(k fuel t:Nat),t+k=low->k<fuel ->
  gP AU (aG 6 (au br (ak 6) (dC (.int 1)))) fuel [q,ζ (.int P),ζ (.int N),ζ (.ref c.length),v4,v5,ζ (.int t)] (c++[.lst (LD L)])=.ok (.nx [q,ζ (.int P),ζ (.int N),ζ (.ref c.length),v4,v5,ζ (.int low)]) (c++[.lst (LD L)])
 |0,fuel+1,t,e,_=>by
  have e:t=low:=by omega
  subst e;unfold gP;rw[PY hP hN hp eY hn,decide_eq_false h2];rfl
 |k+1,fuel+1,t,e,hf=>by
  have ih:=PX (c:=c) hP hN hp eY hn h1 h2 q v4 v5 k fuel (t+1) (by omega) (by omega)
  unfold gP;rw[PY hP hN hp eY hn,decide_eq_true (h1 t (by omega))]
  simp only[R.aA,if_pos];have es:(aG 6 (au br (ak 6) (dC (.int 1)))) [q,ζ (.int P),ζ (.int N),ζ (.ref c.length),v4,v5,ζ (.int t)] (c++[.lst (LD L)])=.ok (.nx [q,ζ (.int P),ζ (.int N),ζ (.ref c.length),v4,v5,ζ (.int ((t+1:Nat):Int))]) (c++[.lst (LD L)]):=by simp
  rw[es];exact ih
def fE(f:Fd):List Int:=if f.n=1 then[0,1]else b9 f.p f.n f.low++[1]
def QH(f:Fd):Bool:=Nat.beq f.n 1||((θ f.low).all λt=>(tP f.p f.n).any λr=>decide (r=b9 f.p f.n t++[1]))&&((tP f.p f.n).all λr=>decide (¬r=b9 f.p f.n f.low++[1]))&&Nat.ble ((f.n/2)*f.p^f.n) 1000&&Nat.ble (f.low+1) 60
theorem am8:cS.all QH=ξ:=by decide +kernel
def bF(G W:ah):ah:=(aD (aG 1 (aC 1 gB (ao (ak 0) aq))) (aD (aG 2 (aC 1 kO (ao (ak 0) aq))) (aD (bU (aQ (au cB (ak 2) (dC (.int 1)))) (aM (cy (ao (dC (.int 0)) (ao (dC (.int 1)) aq)))) b8) (aD (aG 3 (ff aq)) (aD (bQ (j9 (ao (dC (.int 1)) (ao (au br (au gi (ak 2) (dC (.int 2))) (dC (.int 1))) aq))) (az 4) G) (aD (aG 6 (dC (.int 0))) (aD W (aM (au fu (aC 3 fU (ao (ak 6) (ao (ak 1) (ao (ak 2) aq)))) (cy (ao (dC (.int 1)) aq)))))))))))
theorem al5:vt=bF yd (gP AU (aG 6 (au br (ak 6) (dC (.int 1)))) 60):=rfl
theorem aiI{G W:ah}{q P N low:Int}{w4 w5:Option D}{c:aa}{C:aa}{row:List D}{bC:List Int}(hq:-4611686018427387904<=N/2+1/\N/2+1<4611686018427387904) (hn1:¬N=1) (hp:gB [.int q] c=.ok (.int P) c) (hd:kO [.int q] c=.ok (.int N) c) (hrl:row.length+1<1000)
  (hl:dR (λ_=>True) (az 4) G (bf 1 (N/2+1)) [ζ (.int q),ζ (.int P),ζ (.int N),ζ (.ref c.length),η,η,η] (c++[.lst []])=.ok (.nx [ζ (.int q),ζ (.int P),ζ (.int N),ζ (.ref c.length),w4,w5,η]) (c++C))
  (hw:W [ζ (.int q),ζ (.int P),ζ (.int N),ζ (.ref c.length),w4,w5,ζ (.int 0)] (c++C)=.ok (.nx [ζ (.int q),ζ (.int P),ζ (.int N),ζ (.ref c.length),w4,w5,ζ (.int low)]) (c++C))
  (hr:fU [.int low,.int P,.int N] (c++C)=.ok (.lst row) (c++C)) (he:bC.map D.int=row++[.int 1]):bK 7 Δ (bF G W) [.int q] c=.ok (.lst (bC.map D.int)) c:=by
 have hs:=eK (n:=1000) (by decide)
 have xX:gi (.int N) (.int 2) (c++[.lst []])=.ok (.int (N/2)) (c++[.lst []]):=qE _ (by decide) (by decide)
 have hz:row.length+1<=ι:=by omega
 have href:bN (row++[.int 1])=ξ:=by rw[<-he];exact Ae
 have key:bF G W [ζ (.int q),η,η,η,η,η,η] c=.ok (.rt (.lst (row++[.int 1]))) (c++C):=by
  simp[bF,hp,hd,hn1,xX];rw[if_pos (by omega)]
  simp only[R.aA];rw[hl];simp[hw,hr,fu,hz]
 rw[e7];show R.bind (bF G W [ζ (.int q),η,η,η,η,η,η] c) _=_;rw[key,he];simp[href]
theorem aiF{G W:ah}{q P:Int}{c:aa}(hp:gB [.int q] c=.ok (.int P) c) (hd:kO [.int q] c=.ok (.int 1) c):bK 7 Δ (bF G W) [.int q] c=.ok (.lst [.int 0,.int 1]) c:=by
 simp[bF,hp,hd]
theorem aiG{f:Fd}(h:f∈cS) (c:aa):uv [.int f.q] c=.ok (.lst ((fE f).map D.int)) c:=by
 have I:=jc h;have p2:=I.p2;have kJ:=I.kJ;have n1:=I.n1;have n5:=I.n5;have hF:=apA.mp am8 f h;have hp:=Dv h c;have hd:=Qg h c;rw[uv,al5]
 by_cases hn:f.n=1
 ·have e:fE f=[0,1]:=if_pos hn;rw[e];exact aiF hp (by rw[hd,hn];rfl)
 ·have e:fE f=b9 f.p f.n f.low++[1]:=if_neg hn;have hn0:Nat.beq f.n 1=Δ:=by
   cases hq:Nat.beq f.n 1 with
   |false=>rfl
   |true=>exact absurd (be hq) hn
  simp only[QH,hn0,atU,apN]at hF;obtain⟨⟨⟨f1,f2⟩,f3⟩,f4⟩:=hF;have g1:∀t,t<f.low->b9 (f.p:Int) f.n t++[1]∈tP f.p f.n:=λt ht=>by
   have:=apA.mp f1 t (apx.mpr ht);obtain⟨r,hr,he⟩:=aqO.mp this;rw[<-of_decide_eq_true he];exact hr
  have g2:b9 (f.p:Int) f.n f.low++[1]∉tP f.p f.n:=λhm=>by
   have:=apA.mp f2 _ hm;simp at this
  have hq:f.q<1000:=by
   have:(cS.all λf=>decide (f.q<1000))=ξ:=by decide +kernel
   simpa using apA.mp this f h
  have B:Cn f.p f.n:=⟨by omega,by omega,by omega,by omega,λi hi=>by
   have:=au0 (n:=f.p) (by omega) hi
   rw[I.pn]at this;omega⟩
  obtain⟨w4,w5,hl⟩:=aiR (P:=f.p) (N:=f.n) B (bl f3) rfl rfl c (ζ (.int f.q)) η;have hw:=PX (P:=f.p) (N:=f.n) (p:=f.p) (n:=f.n) rfl rfl (by omega) (by omega) (by omega) (c:=c) g1 g2 (ζ (.int f.q)) w4 w5 f.low 60 0 (by omega) (bl f4)
  have hr:=Ar (p:=f.p) (N:=f.n) (x:=f.low) (n:=f.n) (by omega) (by omega) (by rw[fM];omega) (by omega) (by omega) (c++[.lst (LD (tP f.p f.n))])
  exact aiI (by omega) (by omega) hp hd (by rw[apC,i6];omega) hl hw hr (by rw[e,aqZ];rfl)
def lF(p gp:Int) (bC:List Int) (base:Nat) (F:List Int):Nat->List Int
 |0=>F
 |k+1=>(lF p gp bC base F k).set (base+k) ((gI (lF p gp bC base F k) (base+k)-gp*gI bC k) % p)
def iM(p:Int) (bC:List Int) (n:Nat) (F:List Int):Nat->List Int
 |0=>F
 |i+1=>lF p (gI (iM p bC n F i) (2*n-2-i)) bC (2*n-2-i-n) (iM p bC n F i) (n+1)
def tQ(p:Int) (n:Nat) (bC:List Int) (x y:Int):Int:=jR p ((iM p bC n (gT (b9 p n x) (b9 p n y) p) (n-1)).take n)
theorem zI{p gp:Int}{bC:List Int}{base:Nat}{F:List Int}:∀k,(lF p gp bC base F k).length=F.length
 |0=>rfl
 |k+1=>by rw[lF,asT,zI k]
theorem zH{p:Int}{bC:List Int}{n:Nat}{F:List Int}:∀i,(iM p bC n F i).length=F.length
 |0=>rfl
 |i+1=>by rw[iM,zI,zH i]
theorem LI(a b:List Int) (p:Int):(gT a b p).length=a.length+b.length-1:=by rw[gT,zY,ash]
def zX:ah:=(aD (aG 10 (au br (au bz (ak 7) (ak 5)) (ak 9))) (iZ (au ck (au bz (au aE (ak 6) (ak 10)) (au aW (ak 8) (au aE (ak 1) (ak 9)))) (ak 4)) (l5 (ak 6) (ak 10))))
theorem abd{bC F:List Int}{p gp N place:Int}{c:aa}{base k n:Nat}(hp:0<p) (hN:N=n) (hpl:place=(base:Int)+n) (hk:k<bC.length) (hF:base+k<F.length) (hs:∀x∈bC,0<=x/\x<1000) (q a2 a3 v10:Option D) :
  zX [q,ζ (.lst (bC.map D.int)),a2,a3,ζ (.int p),ζ (.int N),ζ (.ref c.length),ζ (.int place),ζ (.int gp),ζ (.int k),v10] (c++[.lst (F.map D.int)]) =
   .ok (.nx [q,ζ (.lst (bC.map D.int)),a2,a3,ζ (.int p),ζ (.int N),ζ (.ref c.length),ζ (.int place),ζ (.int gp),ζ (.int k),ζ (.int (place-N+k))]) (c++[.lst ((F.set (base+k) ((gI F (base+k)-gp*gI bC k) % p)).map D.int)]):=by
 have h1:=Gi (c:=c) (l:=F.map D.int) (i:=place-N+k) (j:=base+k) (d:=.int (gI F (base+k))) (by omega) (uK hF)
 have h2:dI (bC.map D.int) k=ζ (.int (gI bC k)):=g8 (uK hk);have hb:0<=gI bC k/\gI bC k<1000:=hs _ (by simp[gI,List.getD,hk])
 have h4:∀c,aW (.int gp) (.int (gI bC k)) c=.ok (.int (gp*gI bC k)) c:=λc=>mul_r c (by omega) (by omega)
 have h5:=λx=>LZ (c:=c) (l:=F.map D.int) (i:=place-N+k) (j:=base+k) (d:=.int x) (by omega) (by simpa using hF) rfl
 have h6:∀x c,ck (.int x) (.int p) c=.ok (.int (x % p)) c:=λx c=>jW c hp
 simp only[zX,iG,gm,KL,ez,bA,gz,gs,R.aA,lz,zc,aqP,arF,rG,h1,h2,h4,h6,KJ,h5,map_set]
def zW:ah:=(aD (aG 8 (au aE (ak 6) (ak 7))) (bQ (bg (ao (au br (ak 5) (dC (.int 1))) aq)) (az 9) (aD (aG 10 (au br (au bz (ak 7) (ak 5)) (ak 9))) (iZ (au ck (au bz (au aE (ak 6) (ak 10)) (au aW (ak 8) (au aE (ak 1) (ak 9)))) (ak 4)) (l5 (ak 6) (ak 10))))))
theorem abc{bC F:List Int}{p N place:Int}{c:aa}{base n:Nat}(hp:0<p) (hN:N=n) (b1:-4611686018427387904<=N+1/\N+1<4611686018427387904) (hpl:place=(base:Int)+n) (hk:bC.length=n+1) (hF:base+n<F.length) (hs:∀x∈bC,0<=x/\x<1000) (q a2 a3 v8 v9 v10:Option D) :
  ∃w8 w9 gR,zW [q,ζ (.lst (bC.map D.int)),a2,a3,ζ (.int p),ζ (.int N),ζ (.ref c.length),ζ (.int place),v8,v9,v10] (c++[.lst (F.map D.int)]) =
   .ok (.nx [q,ζ (.lst (bC.map D.int)),a2,a3,ζ (.int p),ζ (.int N),ζ (.ref c.length),ζ (.int place),w8,w9,gR]) (c++[.lst ((lF p (gI F (base+n)) bC base F (n+1)).map D.int)]):=by
 have h1:=Gi (c:=c) (l:=F.map D.int) (i:=place) (j:=base+n) (d:=.int (gI F (base+n))) (by omega) (uK hF)
 obtain⟨v',hf⟩:=uL (α:=Option D×Option D) (g:=az 9) (s:=zX) (N:=N+1) (n:=n+1) (λk=>c++[.lst ((lF p (gI F (base+n)) bC base F k).map D.int)]) (λ_ v=>[q,ζ (.lst (bC.map D.int)),a2,a3,ζ (.int p),ζ (.int N),ζ (.ref c.length),ζ (.int place),ζ (.int (gI F (base+n))),v.1,v.2]) (by omega) (v9,v10) (λk hk' v=>by
  exact⟨_,rfl,(ζ (.int k),_),abd hp hN hpl (by omega) (by rw[zI];omega) hs q a2 a3 v.2⟩)
 refine⟨ζ (.int (gI F (base+n))),v'.1,v'.2,?_⟩;simp only[zW,iG,gm,ez,bA,gz,gs,R.aA,h1,aqP,arF,fJ,gM,bJ,iH,lz,bI];rw[if_pos (by omega)]
 unfold zX at hf;exact hf
theorem afu(l:List Int) (c:aa):aY [.ref c.length] (c++[.lst (l.map D.int)])=.ok (.int l.length) (c++[.lst (l.map D.int)]):=by
 unfold aY;simp[fS]
def yF(L:List D->aa->R D) (S:Ev->aa->R Src) (Rt:ah) (G:ah):ah:=(aD (aG 4 (aC 1 gB (ao (ak 0) aq))) (aD (aG 5 (au bz (aF L (ao (ak 1) aq)) (dC (.int 1)))) (aD (aG 6 (aC 3 uh (ao (aC 3 fU (ao (ak 2) (ao (ak 4) (ao (ak 5) aq)))) (ao (aC 3 fU (ao (ak 3) (ao (ak 4) (ao (ak 5) aq)))) (ao (ak 4) aq))))) (aD (bQ S (az 7) G) Rt))))
theorem al3:vn=yF aY (uS (ao (au bz (aF aY (ao (ak 6) aq)) (dC (.int 1))) (ao (au bz (ak 5) (dC (.int 1))) (ao (au bz (dC (.int 0)) (dC (.int 1))) aq)))) (aM (aC 2 qm (ao (gD (ak 6) gE (gw (ak 5))) (ao (ak 4) aq)))) zW:=rfl
theorem Yl{L:List D->aa->R D}{M N:Int}{e:Ev}{c:aa}{d:D}(h6:e[6]? = ζ (ζ d)) (h5:e[5]? = ζ (ζ (.int N))) (hM:L [d] c=.ok (.int M) c) (b1:-4611686018427387904<=M-1/\M-1<4611686018427387904/\-4611686018427387904<=N-1/\N-1<4611686018427387904) :
  (uS (ao (au bz (aF L (ao (ak 6) aq)) (dC (.int 1))) (ao (au bz (ak 5) (dC (.int 1))) (ao (au bz (dC (.int 0)) (dC (.int 1))) aq)))) e c=.ok ⟨jJ (M-1) (N-1),λ_=>True⟩ c:=by
 simp only[uS,bJ,ez,fK,bA,iH,bI,h6,h5,R.aA,hM,zc];rw[if_pos ⟨by decide,by omega,by omega,by omega,by omega⟩]
theorem IL{l:List D}{n:Nat}{N:Int}(hN:N=n) (h:n<=l.length):cutD l η (ζ N)=l.take n:=by
 subst hN;have:HT.fL l.length l.length (ζ (n:Int))=n:=by rw[HT.XT];omega
 show(l.drop 0).take (HT.fL l.length l.length (ζ (n:Int))-0)=_;rw[this];simp
theorem WZ{e:Ev}{N:Int}{n:Nat}{F:List Int}{c:aa}(h6:e[6]? = ζ (ζ (.ref c.length))) (h5:e[5]? = ζ (ζ (.int N))) (xZ:cutD (F.map D.int) η (ζ N)=(F.take n).map D.int):gD (ak 6) gE (gw (ak 5)) e (c++[.lst (F.map D.int)])=.ok (.lst ((F.take n).map D.int)) (c++[.lst (F.map D.int)]):=by
 have ahF:d7 (c++[.lst (F.map D.int)]) (.ref c.length)=ζ (F.map D.int):=by simp[d7]
 rw[TL,bA,h6,R.aA,TR,R.aA,TQ,bA,h5,R.aA,R.aA,ahF];show R.ok (D.lst (cutD (F.map D.int) η (ζ N))) _=_;rw[xZ]
theorem Yc{m:List D->aa->R D}{Sl:af}{e:Ev}{c:aa}{p w:Int}{l:List D}(hS:Sl e c=.ok (.lst l) c) (h4:e[4]? = ζ (ζ (.int p))) (hn:m [.lst l,.int p] c=.ok (.int w) c):aM (aC 2 m (ao Sl (ao (ak 4) aq))) e c=.ok (.rt (.int w)) c:=by
 rw[gO,x_call,bJ,hS,R.aA,bJ,bA,h4,R.aA,bI,R.aA,R.aA,R.aA,if_pos (show[D.lst l,D.int p].length=2 from rfl),hn,R.aA]
theorem aa8{L:List D->aa->R D}{S:Ev->aa->R Src}{Rt:ah}{its:List D}{G:ah}{q x y p N w:Int}{bC:List Int}{rx ry:List D}{F F':List Int}{c:aa}{w7 w8 w9 gR:Option D}(hp:gB [.int q] c=.ok (.int p) c) (hL:L [.lst (bC.map D.int)] c=.ok (.int (N+1)) c)
  (h1:fU [.int x,.int p,.int N] c=.ok (.lst rx) c) (h2:fU [.int y,.int p,.int N] c=.ok (.lst ry) c) (h3:uh [.lst rx,.lst ry,.int p] c=.ok (.ref c.length) (c++[.lst (F.map D.int)]))
  (hS:S [ζ (.int q),ζ (.lst (bC.map D.int)),ζ (.int x),ζ (.int y),ζ (.int p),ζ (.int N),ζ (.ref c.length),η,η,η,η] (c++[.lst (F.map D.int)])=.ok ⟨its,λ_=>True⟩ (c++[.lst (F.map D.int)]))
  (hf:dR (λ_=>True) (az 7) G its [ζ (.int q),ζ (.lst (bC.map D.int)),ζ (.int x),ζ (.int y),ζ (.int p),ζ (.int N),ζ (.ref c.length),η,η,η,η] (c++[.lst (F.map D.int)])=.ok (.nx [ζ (.int q),ζ (.lst (bC.map D.int)),ζ (.int x),ζ (.int y),ζ (.int p),ζ (.int N),ζ (.ref c.length),w7,w8,w9,gR]) (c++[.lst (F'.map D.int)]))
  (hRt:Rt [ζ (.int q),ζ (.lst (bC.map D.int)),ζ (.int x),ζ (.int y),ζ (.int p),ζ (.int N),ζ (.ref c.length),w7,w8,w9,gR] (c++[.lst (F'.map D.int)])=.ok (.rt (.int w)) (c++[.lst (F'.map D.int)])):bK 11 Δ (yF L S Rt G) [.int q,.lst (bC.map D.int),.int x,.int y] c=.ok (.int w) c:=by
 have key:yF L S Rt G [ζ (.int q),ζ (.lst (bC.map D.int)),ζ (.int x),ζ (.int y),η,η,η,η,η,η,η] c=.ok (.rt (.int w)) (c++[.lst (F'.map D.int)]):=by
  simp[yF,hp,hL,h1,h2,h3,hS];rw[hf];simp only[R.aA];rw[hRt]
 rw[e7];show R.bind (yF L S Rt G [ζ (.int q),ζ (.lst (bC.map D.int)),ζ (.int x),ζ (.int y),η,η,η,η,η,η,η] c) _=_;rw[key];simp
theorem aiH{f:Fd}(h:f∈cS):(fE f).length=f.n+1/\∀x∈fE f,0<=x/\x<1000:=by
 have I:=jc h;have p2:=I.p2;have kJ:=I.kJ;unfold fE;split
 ·rename_i e;rw[e];exact⟨rfl,λx hx=>by simp at hx;omega⟩
 ·refine⟨by rw[ap5,i6];rfl,λx hx=>?_⟩
  rcases ap1.mp hx with hx|hx
  ·have:=Dn (p:=f.p) (by omega) f.n f.low x hx;omega
  ·rw[aqa]at hx;omega
theorem Zl{f:Fd}(h:f∈cS) (x y:Int) (c:aa):ur [.int f.q,.lst ((fE f).map D.int),.int x,.int y] c=.ok (.int (tQ f.p f.n (fE f) x y)) c:=by
 have I:=jc h;have p2:=I.p2;have kJ:=I.kJ;have n1:=I.n1;have n5:=I.n5;obtain⟨fl,fb⟩:=aiH h;have rl:∀z,(b9 (f.p:Int) f.n z).length=f.n:=i6 _ _;have rb:=λz=>Dn (p:=f.p) (by omega) f.n z
 have h1:=λz=>Ar (p:=f.p) (N:=f.n) (x:=z) (n:=f.n) (by omega) (by omega) (by rw[fM];omega) (by omega) (by omega) c
 have h3:=VU (a:=b9 f.p f.n x) (b:=b9 f.p f.n y) (p:=f.p) (by omega) (λz=>by have:=rl x;rw[z]at this;simp at this;omega) (λd hd=>by have:=rb x d hd;omega) (by rw[rl,rl];omega) c
 have Ph:(gT (b9 f.p f.n x) (b9 f.p f.n y) f.p).length=2*f.n-1:=by rw[LI,rl,rl];omega
 generalize hF:gT (b9 (f.p:Int) f.n x) (b9 f.p f.n y) f.p=F at h3 Ph
 have hdl:(jJ (((2*f.n-1:Nat):Int)-1) ((f.n:Int)-1)).length=f.n-1:=by simp[jJ];omega
 obtain⟨v',hf⟩:=oY (α:=Option D×Option D×Option D×Option D) (st:=λ_=>True) (g:=az 7) (s:=zW) (λi=>c++[.lst ((iM f.p (fE f) f.n F i).map D.int)]) (λ_ v=>[ζ (.int f.q),ζ (.lst ((fE f).map D.int)),ζ (.int x),ζ (.int y),ζ (.int f.p),ζ (.int f.n),ζ (.ref c.length),v.1,v.2.1,v.2.2.1,v.2.2.2])
  (jJ (((2*f.n-1:Nat):Int)-1) ((f.n:Int)-1)) 0 (η,η,η,η) (λ_ _=>trivial) (λi z hz v=>by
   rw[ap0];have hi:i<f.n-1:=by
    have:=(apK.mp hz).1;omega
   have hz':z=.int ((((2*f.n-1:Nat):Int)-1)-i):=by
    unfold jJ at hz;rw[apM]at hz;cases hq:(θ ((((2*f.n-1:Nat):Int)-1)-((f.n:Int)-1)).toNat)[i]? with
    |none=>rw[hq]at hz;cases hz
    |some u =>
     rw[hq]at hz;have:=(apK.mp hq).2;rw[asr]at this;subst this;cases hz;rfl
   subst hz';obtain⟨w8,w9,gR,hb⟩:=abc (bC:=fE f) (F:=iM f.p (fE f) f.n F i) (p:=f.p) (N:=f.n) (place:=(((2*f.n-1:Nat):Int)-1)-i) (c:=c) (base:=2*f.n-2-i-f.n) (n:=f.n) (by omega) rfl (by omega) (by omega) fl (by rw[zH];omega) fb (ζ (.int f.q)) (ζ (.int x)) (ζ (.int y)) v.2.1 v.2.2.1 v.2.2.2
   refine⟨_,rfl,(ζ (.int ((((2*f.n-1:Nat):Int)-1)-i)),w8,w9,gR),?_⟩;rw[show 2*f.n-2-i-f.n+f.n=2*f.n-2-i by omega]at hb
   exact hb)
 rw[hdl,ap0]at hf;have xZ:cutD ((iM f.p (fE f) f.n F (f.n-1)).map D.int) η (ζ (f.n:Int))=((iM f.p (fE f) f.n F (f.n-1)).take f.n).map D.int:=by
  rw[IL rfl (by rw[apC,zH];omega),ard]
 have hn:=N2 (p:=f.p) (by omega) (by omega) ((iM f.p (fE f) f.n F (f.n-1)).take f.n) (by rw[aqv];omega) (c++[.lst ((iM f.p (fE f) f.n F (f.n-1)).map D.int)])
 rw[ur,al3,tQ,hF];exact aa8 (Dv h c) (by rw[xH,fl];rfl) (h1 x) (h1 y) h3 (Yl (M:=((2*f.n-1:Nat):Int)) rfl rfl (by rw[afu,Ph]) (by omega)) hf (Yc (WZ rfl rfl xZ) rfl hn)
def xB:List Int->Nat->(Int->Int)->List Int
 |[],_,_=>[]
 |x::l,0,f=>f x::l
 |x::l,i+1,f=>x::xB l i f
theorem D6:∀(l:List Int) (i:Nat) (f:Int->Int),i<l.length->l.set i (f (gI l i))=xB l i f
 |[],i,f,h=>by cases h
 |x::l,0,f,h=>rfl
 |x::l,i+1,f,h=>by
  have:=D6 l i f (by simpa using h)
  simp only[aqP,xB];rw[<-this];rfl
def AB(p a:Int) (b:List Int) (k:Nat) (F:List Int):Nat->List Int
 |0=>F
 |j+1=>xB (AB p a b k F j) (k+j) λv=>(v+a*gI b j) % p
theorem Gk{p a:Int}{b:List Int}{k:Nat}{F:List Int}:∀j,k+j<=F.length->kT p a b k F j=AB p a b k F j
 |0,_=>rfl
 |j+1,h=>by rw[kT,AB,Gk j (by omega),D6 _ _ (λv=>(v+a*gI b j) % p) (by rw[<-Gk j (by omega),AA];omega)]
def zZ(p:Int) (a b F:List Int):Nat->List Int
 |0=>F
 |k+1=>AB p (gI a k) b k (zZ p a b F k) b.length
theorem MK{p:Int}{a b F:List Int}:∀k,k+b.length<=F.length+1->kK p a b F k=zZ p a b F k
 |0,_=>rfl
 |k+1,h=>by rw[kK,zZ,<-MK k (by omega),Gk _ (by rw[zY];omega)]
def PF{α:Type}(i:Int) (g:Int->α):α:=match i with
 |.ofNat n=>(match n with|0=>g (.ofNat 0)|m+1=>g (.ofNat (m+1)))
 |.negSucc n=>g (.negSucc n)
theorem aiB{α:Type}(i:Int) (g:Int->α):PF i g=g i:=by
 cases i with
 |ofNat n=>cases n<;>rfl
 |negSucc n=>rfl
def zG(p gp:Int) (bC:List Int) (base:Nat) (F:List Int):Nat->List Int
 |0=>F
 |k+1=>xB (zG p gp bC base F k) (base+k) λv=>(v-gp*gI bC k) % p
theorem Dr{p gp:Int}{bC:List Int}{base:Nat}{F:List Int}:∀k,base+k<=F.length->lF p gp bC base F k=zG p gp bC base F k
 |0,_=>rfl
 |k+1,h=>by rw[lF,zG,Dr k (by omega),D6 _ _ (λv=>(v-gp*gI bC k) % p) (by rw[<-Dr k (by omega),zI];omega)]
def wF(p:Int) (bC:List Int) (n:Nat) (F:List Int):Nat->List Int
 |0=>F
 |i+1=>PF (gI (wF p bC n F i) (2*n-2-i)) λz=>zG p z bC (2*n-2-i-n) (wF p bC n F i) (n+1)
theorem Mh{p:Int}{bC:List Int}{n:Nat}{F:List Int}(hn:1<=n) (hF:F.length=2*n-1):∀i,i<=n-1->iM p bC n F i=wF p bC n F i
 |0,_=>rfl
 |i+1,h=>by rw[iM,wF,aiB,<-Mh hn hF i (by omega),Dr _ (by rw[zH];omega)]
def Du(p:Int) (n:Nat) (bC:List Int) (x y:Int):Int:=jR p ((wF p bC n (zZ p (b9 p n x) (b9 p n y) (π (2*n-1) 0) n) (n-1)).take n)
theorem Zm{p:Int}{n:Nat}(hn:1<=n) (bC:List Int) (x y:Int):tQ p n bC x y=Du p n bC x y:=by
 unfold tQ Du;have hl:(gT (b9 p n x) (b9 p n y) p).length=2*n-1:=by rw[LI,i6,i6];omega
 rw[Mh hn hl (n-1) (aps _)]
 congr 3
 unfold gT;rw[i6,i6,show n+n-1=2*n-1 by omega,MK n (by rw[i6,ash];omega)]
def QF(f:Fd):Bool:=Nat.beq f.n 1||(θ f.q).all λx=>(θ f.q).all λy=>Gj (Du f.p f.n (fE f) x y) (Mk f x y)
theorem am4:cS.all QF=ξ:=by decide +kernel
theorem Zk(p x y:Int):tQ p 1 [0,1] x y=(x % p*(y % p)) % p:=by
 simp[tQ,iM,gT,kK,kT,b9,gI,jR]
theorem ae5(p x y:Int):D0 p 1 0 x y=(x % p*(y % p)) % p:=by
 simp[D0,mulR,b9,Lk,Ei,gh]
theorem afn:(cS.all λf=>!Nat.beq f.n 1||Nat.beq f.low 0)=ξ:=by decide +kernel
theorem Zn{f:Fd}(h:f∈cS) {x y:Nat}(hx:x<f.q) (hy:y<f.q) (c:aa):ur [.int f.q,.lst ((fE f).map D.int),.int x,.int y] c=.ok (.int (M f x y:Nat)) c:=by
 rw[Zl h];have I:=jc h;have hc:=apA.mp am4 f h;cases hq:Nat.beq f.n 1 with
 |true =>
  have hn:=be hq;have hl:=apA.mp afn f h;simp only[hq,aq1,atU]at hl;have e:fE f=[0,1]:=if_pos hn;have hm:=I.mm x y hx hy;unfold mI at hm;rw[e,<-hm,hn,be hl,Zk];rw[show((0:Nat):Int)=0 from rfl,ae5]
 |false =>
  simp only[QF,hq,atU]at hc;have:=apA.mp (apA.mp hc x (apx.mpr hx)) y (apx.mpr hy);rw[Zm I.n1,Ov this,yM]
theorem lC:1000000<ι:=by decide
theorem jh{f:List D->aa->R D}{d1:af}{e:Ev}{c:aa}{x v:D}(h1:d1 e c=.ok x c) (h:f [x] c=.ok v c):aF f (ao d1 aq) e c=.ok v c:=by
 simp only[fK,bJ,h1,bI,R.aA];exact h
theorem iY{i:Nat}{d:af}{e:Ev}{c:aa}{v:D}(h:d e c=.ok v c):aG i d e c=.ok (.nx (e.set i (ζ v))) c:=by rw[gm,h];rfl
theorem lE{d:af}{e:Ev}{c:aa}{v:D}(h:d e c=.ok v c):aM d e c=.ok (.rt v) c:=by rw[gO,h];rfl
theorem gj{f:D->D->aa->R D}{d1 d2:af}{e:Ev}{c:aa}{x y:D}{r:R D}(h1:d1 e c=.ok x c) (h2:d2 e c=.ok y c) (h:f x y c=r):au f d1 d2 e c=r:=by
 rw[ez,h1];simp only[R.aA];rw[h2];exact h
theorem ji{m:List D->aa->R D}{d1 d2:af}{e:Ev}{c:aa}{x y v:D}(h1:d1 e c=.ok x c) (h2:d2 e c=.ok y c) (h:m [x,y] c=.ok v c):aC 2 m (ao d1 (ao d2 aq)) e c=.ok v c:=by
 simp only[x_call,bJ,h1,h2,bI,R.aA];rw[if_pos (by rfl)];exact h
theorem qN{m:List D->aa->R D}{d1:af}{e:Ev}{c:aa}{x v:D}(h1:d1 e c=.ok x c) (h:m [x] c=.ok v c):aC 1 m (ao d1 aq) e c=.ok v c:=by
 simp only[x_call,bJ,h1,bI,R.aA];rw[if_pos (by rfl)];exact h
theorem jy{n:Nat}{b:ah}{xs:List D}{c:aa}{v:D}(h:b (cT n xs) c=.ok (.rt v) c) (hv:noRef v=ξ) (hr:∀k,v≠.ref k):bK n Δ b xs c=.ok v c:=by
 rw[e7,h];simp only[R.aA];cases v<;>first|exact absurd rfl (hr _)|(unfold dH;dsimp only;rw[if_pos hv,aqy])
def A(f:Fd) (x y:Nat):Nat:=(vK f.p f.n x y).toNat
theorem anC{f:Fd}(h:f∈cS) (x y:Nat):((A f x y:Nat):Int)=vK f.p f.n x y/\A f x y<f.q:=anm (jc h) x y
def sF(f:Fd) (a x y:Nat):Nat:=A f (M f a x) y
theorem QD{a:af}{E:Ev}{c:aa}(it g:Nat->D):∀(l:List Nat) (v:Option D) (acc:List D),(∀i∈l,a (ζ (it i)::E) c=.ok (g i) c)->bO (λ_=>True) (az 0) aJ a (l.map it) (v::E) acc c=.ok (acc++l.map g) c
 |[],v,acc,_=>by simp
 |i::l,v,acc,h=>by
  have h1:az 0 (it i) (v::E) c=.ok (ζ (it i)::E) c:=rfl;rw[apE,kg,h1,R.aA,nL,R.aA,if_pos rfl,h i (.head _),R.aA,QD it g l _ _ (λz hz=>h z (.tail _ hz)),ap9]
  rfl
theorem zC(lo hi:Int):bf lo hi=(θ (hi-lo).toNat).map λi:Nat=>D.int (lo+(i:Int)):=rfl
theorem uA{d a:af}{pick:List (Option Nat)}{e E:Ev}{c:aa}{N:Int}{n:Nat}(g:Nat->D) (hd:d e c=.ok (.int N) c) (hN:N=n) (hn:n<1000) (hp:dB pick e=η::E) (ha:∀i,i<n->a (ζ (.int (i:Int))::E) c=.ok (g i) c) :
  aS (bg (ao d aq)) pick (az 0) aJ a e c=.ok (.lst ((θ n).map g)) c:=by
 have sz:=lC;have h1:bg (ao d aq) e c=.ok ⟨bf 0 N,λ_=>True⟩ c:=by
  unfold bg;simp only[bJ,hd,bI,R.aA];rw[if_pos (by omega)]
 have hl:(bf 0 N).length=n:=by rw[fM];omega
 have hr:bf 0 N=(θ n).map λi:Nat=>D.int (i:Int):=by
  rw[zC,show(N-0).toNat=n by omega]
  simp
 rw[er,h1,R.aA];dsimp only;rw[if_pos (by rw[hl];omega),hp,hr,QD _ g (θ n) η [] (λi hi=>ha i (apx.mp hi))]
 rfl
theorem UH(l:List D) (c:aa) (h:l.length<=1000):cW [.lst l] c=.ok (.tup l) c:=by
 have sz:=lC;simp[cW,fS]
theorem UZ{d a:af}{pick:List (Option Nat)}{e E:Ev}{c:aa}{N:Int}{n:Nat}(g:Nat->D) (hd:d e c=.ok (.int N) c) (hN:N=n) (hn:n<1000) (hp:dB pick e=η::E) (ha:∀i,i<n->a (ζ (.int (i:Int))::E) c=.ok (g i) c) :
  aF cW (ao (aS (bg (ao d aq)) pick (az 0) aJ a) aq) e c=.ok (.tup ((θ n).map g)) c :=
 jh (uA g hd hN hn hp ha) (UH _ c (by simp;omega))
theorem Nd{l:List D}(h:∀d∈l,noRef d=ξ):noRef (.tup l)=ξ:=by unfold noRef;exact iz.mpr h
theorem Ng(l:List Nat):noRef (.tup (nD l))=ξ:=Nd λd hd=>by
 obtain⟨k,_,rfl⟩:=apv.mp hd;rfl
theorem Nf(n:Nat) (s:Nat->Nat->Nat):noRef (aU n s)=ξ:=Nd λd hd=>by
 obtain⟨k,_,rfl⟩:=apv.mp hd;exact Ng _
theorem Dt{f:Fd}(h:f∈cS):f.q<=50:=by
 have:(cS.all λf=>decide (f.q<=50))=ξ:=by decide +kernel
 simpa using apA.mp this f h
theorem DY(n:Nat) (g:Nat->Nat):nD ((θ n).map g)=(θ n).map λi=>D.int (g i:Nat):=by simp[nD]
def FS(f:Fd):List D:=(θ (f.q-1)).map λa=>aU f.q (sF f (1+a))
theorem RH{m:List D->aa->R D}{d1 d2 d3 d4:af}{e:Ev}{c:aa}{x y z u v:D}(h1:d1 e c=.ok x c) (h2:d2 e c=.ok y c) (h3:d3 e c=.ok z c) (h4:d4 e c=.ok u c) (h:m [x,y,z,u] c=.ok v c):aC 4 m (ao d1 (ao d2 (ao d3 (ao d4 aq)))) e c=.ok v c:=by
 simp only[x_call,bJ,h1,h2,h3,h4,bI,R.aA];rw[if_pos (by rfl)]
 exact h
def wH(f:Fd) (x:Nat):List D:=(θ f.q).map λy=>D.int (M f x y:Nat)
def PR(f:Fd):List D:=(θ f.q).map λx=>.lst (wH f x)
theorem adZ(f:Fd):noRef (.lst (PR f))=ξ:=by
 unfold noRef;refine iz.mpr λd hd=>?_
 obtain⟨k,_,rfl⟩:=apv.mp hd;unfold noRef;refine iz.mpr λd hd=>?_
 obtain⟨k,_,rfl⟩:=apv.mp hd;rfl
theorem Zh{f:Fd}(h:f∈cS) (c:aa):uq [.int f.q] c=.ok (.lst (PR f)) c:=by
 have hq:=Dt h;refine jy (n:=2) (b:=qU) ?_ (adZ f) (λk h=>by cases h)
 have e0:aG 1 (aC 1 uv (ao (ak 0) aq)) [ζ (.int f.q),η] c=.ok (.nx [ζ (.int f.q),ζ (.lst ((fE f).map D.int))]) c:=iY (i:=1) (qN (m:=uv) (d1:=ak 0) rfl (aiG h c));unfold qU;rw[show cT 2 [D.int f.q]=[ζ (.int f.q),η]from rfl,bL e0]
 refine lE ?_;exact uA (N:=(f.q:Int)) (n:=f.q) (E:=[ζ (.int f.q),ζ (.lst ((fE f).map D.int))]) (λx=>D.lst (wH f x)) rfl rfl (by omega) rfl λx hx =>
  uA (N:=(f.q:Int)) (n:=f.q) (E:=[ζ (.int f.q),ζ (.lst ((fE f).map D.int)),ζ (.int (x:Int))]) (λy=>D.int (M f x y:Nat)) rfl rfl (by omega) rfl λy hy =>
   RH (m:=ur) (d1:=ak 1) (d2:=ak 2) (d3:=ak 3) (d4:=ak 0) rfl rfl rfl rfl (Zn h hx hy c)
theorem RT{l:List D}{i:Nat}{d:D}(h:l[i]? = ζ d):dI l (i:Int)=ζ d:=by
 have hi:=(apK.mp h).1;unfold dI gu;rw[if_pos (by omega),if_pos (by omega)]
 simpa using h
theorem xN{l:List D}{i:Nat}{d:D}{N:Int}(hN:N=i) (h:l[i]? = ζ d) (c:aa):aE (.lst l) (.int N) c=.ok d c:=by
 subst hN;unfold aE fS;simp only[RT h]
theorem Gf{l:List D}{i:Nat}{d:D}{N:Int}(hN:N=i) (h:l[i]? = ζ d) (c:aa):aE (.tup l) (.int N) c=.ok d c:=by
 subst hN;unfold aE fS;simp only[RT h]
theorem afh{f:Fd}(h:f∈cS) (x y:Nat) (c:aa):oq [.int f.q,.int x,.int y,.int 1] c=.ok (.int (A f x y:Nat)) c:=by
 rw[VJ h x y 1 (by decide) c,(anC h x y).1]
 unfold vK;have:(λa b:Int=>a+1*b)=(· + ·):=by funext a b;omega
 rw[this]
def fc(f:Fd) (a:Nat):List D:=(θ f.q).map λx=>D.tup (nD ((θ f.q).map (sF f a x)))
def yb:ah:=(eL (gx (ak 4) (aF cW (ao (aS (bg (ao (ak 0) aq)) [η,ζ 0,ζ 5,ζ 1,ζ 3] (az 0) aJ (aC 4 oq (ao (ak 1) (ao (au aE (au aE (ak 3) (ak 4)) (ak 2)) (ao (ak 0) (ao (dC (.int 1)) aq)))))) aq))))
def ya:ah:=(aD (aG 4 (ff aq)) (aD (bQ (bg (ao (ak 0) aq)) (az 5) yb) (eL (gx (ak 2) (aF cW (ao (ak 4) aq))))))
theorem Dk{f:Fd}{a x:Nat}(hx:x<=f.q):(fc f a).take x=(θ x).map λx=>D.tup (nD ((θ f.q).map (sF f a x))):=by
 unfold fc;rw[<-ard,List.take_range,asK hx]
theorem amb{dO da:af}{e:Ev}{c:aa}{k:Nat}{l:List D}{y:D}(ho:dO e c=.ok (.ref k) c) (ha:da e c=.ok y c) (hc:c[k]? = ζ (.lst l)) (hy:noRef y=ξ) (hl:l.length<1000):gx dO da e c=.ok .aH (c.set k (.lst (l++[y]))):=by
 have sz:=lC;unfold gx;rw[ho,R.aA];dsimp only;rw[ha,R.aA];simp only[hc];rw[if_pos ⟨by omega,hy⟩]
theorem aiy{f:Fd}(h:f∈cS) {a:Nat}(ha:1<=a) (ha2:a<f.q) {N:Int}(hN:N=f.q) (c:aa) (v2 v5:Option D):∃v,dR (λ_=>True) (az 5) yb (bf 0 N) [ζ (.int N),ζ (.lst (PR f)),v2,ζ (.int (a:Int)),ζ (.ref c.length),v5] (c++[.lst []])=.ok (.nx [ζ (.int N),ζ (.lst (PR f)),v2,ζ (.int (a:Int)),ζ (.ref c.length),v]) (c++[.lst (fc f a)]):=by
 have hq:=Dt h;have:=uL (g:=az 5) (s:=yb) (λx=>c++[.lst ((fc f a).take x)]) (λ_ (v:Option D)=>[ζ (.int N),ζ (.lst (PR f)),v2,ζ (.int (a:Int)),ζ (.ref c.length),v]) hN v5 (λx hx v=>by
  refine⟨[ζ (.int N),ζ (.lst (PR f)),v2,ζ (.int (a:Int)),ζ (.ref c.length),ζ (.int (x:Nat))],rfl,ζ (.int (x:Nat)),?_⟩;have hval:(aF cW (ao (aS (bg (ao (ak 0) aq)) [η,ζ 0,ζ 5,ζ 1,ζ 3] (az 0) aJ (aC 4 oq (ao (ak 1) (ao (au aE (au aE (ak 3) (ak 4)) (ak 2)) (ao (ak 0) (ao (dC (.int 1)) aq)))))) aq)) [ζ (.int N),ζ (.lst (PR f)),v2,ζ (.int (a:Int)),ζ (.ref c.length),ζ (.int (x:Nat))] (c++[.lst ((fc f a).take x)])=.ok (.tup ((θ f.q).map λy=>D.int (sF f a x y:Nat))) (c++[.lst ((fc f a).take x)]):=by
   refine UZ (N:=N) (n:=f.q) (E:=[ζ (.int N),ζ (.int (x:Nat)),ζ (.lst (PR f)),ζ (.int (a:Int))]) (λy=>D.int (sF f a x y:Nat)) rfl hN (by omega) rfl λy hy=>?_
   have r1:(PR f)[a]? = ζ (.lst (wH f a)):=by unfold PR;rw[apM,aqr ha2];rfl
   have r2:(wH f a)[x]? = ζ (.int (M f a x:Nat)):=by unfold wH;rw[apM,aqr hx];rfl
   have i1:=xN (N:=(a:Int)) rfl r1 (c++[.lst ((fc f a).take x)]);have i2:=xN (N:=(x:Int)) rfl r2 (c++[.lst ((fc f a).take x)]);have hs:=afh h (M f a x) y (c++[.lst ((fc f a).take x)]);rw[<-hN]at hs;exact RH (m:=oq) (d1:=ak 1) (d3:=ak 0) (d4:=dC (.int 1)) rfl (gj (f:=aE) (gj (f:=aE) (d1:=ak 3) (d2:=ak 4) rfl rfl i1) (d2:=ak 2) rfl i2) rfl rfl hs
  have hap:=J5 (c:=c) (acc:=(fc f a).take x) (dO:=ak 4) (e:=[ζ (.int N),ζ (.lst (PR f)),v2,ζ (.int (a:Int)),ζ (.ref c.length),ζ (.int (x:Nat))]) rfl hval (by rw[<-DY];exact Ng _) (by rw[Dk (by omega)];simp;omega)
  unfold yb;rw[ko,hap,R.aA];have ht:(fc f a).take x++[D.tup ((θ f.q).map λy=>D.int (sF f a x y:Nat))]=(fc f a).take (x+1):=by
   rw[Dk (by omega),Dk (by omega),aqY,aqZ,<-DY]
   rfl
  rw[ht])
 have hz:(fc f a).take 0=[]:=rfl;have hw:(fc f a).take f.q=fc f a:=arD (by unfold fc;simp)
 rw[hz,hw]at this;exact this
def Om(f:Fd) (k:Nat):aa:=(θ k).map λa=>Cell.lst (fc f (1+a))
def dG(f:Fd) (c:aa) (k:Nat):aa:=c ++ .lst ((θ k).map λa=>aU f.q (sF f (1+a)))::Om f k
theorem aix{f:Fd}(h:f∈cS) {N:Int}(hN:N=f.q) (c:aa) (v3 v4 v5:Option D):∃w,dR (λ_=>True) (az 3) ya (bf 1 N) [ζ (.int N),ζ (.lst (PR f)),ζ (.ref c.length),v3,v4,v5] (c++[.lst []])=.ok (.nx ([ζ (.int N),ζ (.lst (PR f)),ζ (.ref c.length)]++w)) (dG f c (f.q-1)):=by
 have hq:=Dt h;have q2:=(jc h).q2;have hl:(bf 1 N).length=f.q-1:=by rw[zC];simp;omega
 have:=oY (st:=λ_=>True) (g:=az 3) (s:=ya) (dG f c) (λ_ (w:Option D×Option D×Option D)=>[ζ (.int N),ζ (.lst (PR f)),ζ (.ref c.length),w.1,w.2.1,w.2.2]) (bf 1 N) 0 (v3,v4,v5) (λ_ _=>trivial) (λk x hx w=>by
  have hk:k<f.q-1:=by rw[<-hl];exact(apK.mp hx).1
  have hx':x=.int (((1+k:Nat)):Int):=by
   rw[zC,apM,aqr (by omega)]at hx
   have:D.int (1+(k:Int))=x:=by simpa using hx
   rw[<-this]
   congr 1
  subst hx';refine⟨[ζ (.int N),ζ (.lst (PR f)),ζ (.ref c.length),ζ (.int (((1+k:Nat)):Int)),w.2.1,w.2.2],rfl,?_⟩;have e0:aG 4 (ff aq) [ζ (.int N),ζ (.lst (PR f)),ζ (.ref c.length),ζ (.int (((1+k:Nat)):Int)),w.2.1,w.2.2] (dG f c k)=.ok (.nx [ζ (.int N),ζ (.lst (PR f)),ζ (.ref c.length),ζ (.int (((1+k:Nat)):Int)),ζ (.ref (dG f c k).length),w.2.2]) (dG f c k++[.lst []]):=by
   simp[bN]
  obtain⟨v,e1⟩:=aiy h (a:=1+k) (by omega) (by omega) hN (dG f c k) (ζ (.ref c.length)) w.2.2
  have h1:bg (ao (ak 0) aq) [ζ (.int N),ζ (.lst (PR f)),ζ (.ref c.length),ζ (.int (((1+k:Nat)):Int)),ζ (.ref (dG f c k).length),w.2.2] (dG f c k++[.lst []])=.ok ⟨bf 0 N,λ_=>True⟩ (dG f c k++[.lst []]):=by
   unfold bg;simp only[bJ,bA,gz,bI,R.aA];rw[if_pos (by omega)]
  have HZ:bQ (bg (ao (ak 0) aq)) (az 5) yb [ζ (.int N),ζ (.lst (PR f)),ζ (.ref c.length),ζ (.int (((1+k:Nat)):Int)),ζ (.ref (dG f c k).length),w.2.2] (dG f c k++[.lst []])=.ok (.nx [ζ (.int N),ζ (.lst (PR f)),ζ (.ref c.length),ζ (.int (((1+k:Nat)):Int)),ζ (.ref (dG f c k).length),v]) (dG f c k++[.lst (fc f (1+k))]):=by
   rw[fJ,h1,R.aA];exact e1
  have Gr:(dG f c k++[Cell.lst (fc f (1+k))])[(dG f c k).length]? = ζ (.lst (fc f (1+k))):=by simp
  have htup:aF cW (ao (ak 4) aq) [ζ (.int N),ζ (.lst (PR f)),ζ (.ref c.length),ζ (.int (((1+k:Nat)):Int)),ζ (.ref (dG f c k).length),v] (dG f c k++[.lst (fc f (1+k))])=.ok (aU f.q (sF f (1+k))) (dG f c k++[.lst (fc f (1+k))]):=by
   refine jh (d1:=ak 4) (x:=.ref (dG f c k).length) rfl ?_;unfold cW fS;simp only[Gr];rfl
  have ahP:(dG f c k++[Cell.lst (fc f (1+k))])[c.length]? = ζ (.lst ((θ k).map λa=>aU f.q (sF f (1+a)))):=by
   unfold dG;simp
  have hap:=amb (dO:=ak 2) (e:=[ζ (.int N),ζ (.lst (PR f)),ζ (.ref c.length),ζ (.int (((1+k:Nat)):Int)),ζ (.ref (dG f c k).length),v]) rfl htup ahP (Nf _ _) (by simp;omega)
  have xR:(dG f c k++[Cell.lst (fc f (1+k))]).set c.length (.lst (((θ k).map λa=>aU f.q (sF f (1+a)))++[aU f.q (sF f (1+k))]))=dG f c (k+1):=by
   unfold dG Om;rw[ap9,List.set_append_right _ _ (aps _),aqW,aqY,aqZ,aqZ];rfl
  rw[xR]at hap;refine⟨(ζ (.int (((1+k:Nat)):Int)),ζ (.ref (dG f c k).length),v),?_⟩;unfold ya;rw[ap0];rw[bL e0,bL HZ,ko,hap];rfl)
 obtain⟨w,hw⟩:=this;refine⟨[w.1,w.2.1,w.2.2],?_⟩;rw[ap0,hl]at hw;exact hw
theorem Au(n:Nat) (s:Nat->Nat->Nat) (c:aa):aY [aU n s] c=.ok (.int (n:Int)) c:=by
 unfold aU;simp
theorem C4{n i:Nat}(s:Nat->Nat->Nat) (h1:1<=n) (h7:n<=7) (hi:i<n*n) {I:Int}(hI:I=i) (c:aa):gX [aU n s,.int I] c=.ok (.int (s (i/n) (i % n):Nat)) c:=by
 have hd:i/n<n:=arG hi;have hm:i % n<n:=aqF _ (by omega)
 refine jy (n:=2) (b:=qO) ?_ rfl (λk h=>by cases h)
 unfold qO;refine lE ?_;have e:cT 2 [aU n s,.int I]=[ζ (aU n s),ζ (.int I)]:=rfl;rw[e];have hl:aF aY (ao (ak 0) aq) [ζ (aU n s),ζ (.int I)] c=.ok (.int (n:Int)) c:=jh (d1:=ak 0) rfl (Au n s c);have xX:gi (.int I) (.int (n:Int)) c=.ok (.int (((i/n:Nat)):Int)) c:=by
  rw[qE c (by omega) (by omega),hI]
  rfl
 have hmd:ck (.int I) (.int (n:Int)) c=.ok (.int (((i % n:Nat)):Int)) c:=by
  rw[jW c (by omega),hI]
  rfl
 have r1:((θ n).map λi=>D.tup (nD ((θ n).map (s i))))[i/n]? = ζ (.tup (nD ((θ n).map (s (i/n))))):=by rw[apM,aqr hd];rfl
 have r2:(nD ((θ n).map (s (i/n))))[i % n]? = ζ (.int (s (i/n) (i % n):Nat)):=by rw[DY,apM,aqr hm];rfl
 exact gj (f:=aE) (gj (f:=aE) (d1:=ak 0) rfl (gj (f:=gi) (d1:=ak 1) rfl hl xX) (Gf rfl r1 c)) (gj (f:=ck) (d1:=ak 1) rfl hl hmd) (Gf rfl r2 c)
def qg(n:Nat) (s s':Nat->Nat->Nat) (i:Nat):List Int:=[((s (i/n) (i % n):Nat):Int),((s' (i/n) (i % n):Nat):Int)]
def zP(n:Nat) (s s':Nat->Nat->Nat) (i:Nat):D:=.tup [.int (s (i/n) (i % n):Nat),.int (s' (i/n) (i % n):Nat)]
theorem NQ{m q:Int}(h0:0<=m) (h1:m<1000) (hq:q=m*m) (c:aa):aW (.int m) (.int m) c=.ok (.int q) c:=by
 unfold aW;dsimp only;rw[if_pos (by omega),hq]
def NU(n:Nat) (s:Nat->Nat->Nat):Bool:=(θ n).all λi=>decide (((θ n).map (s i)).Nodup)&&decide (((θ n).map λj=>s j i).Nodup)&&(θ n).all λj=>Nat.blt (s i j) n
def QK(n:Nat) (s s':Nat->Nat->Nat) (i:Nat):Nat:=8*s (i/n) (i % n)+s' (i/n) (i % n)
def MY(f:Fd):Bool:=(θ (f.q-1)).all λa=>NU f.q (sF f (1+a))&&(θ a).all λb=>decide (((θ (f.q*f.q)).map (QK f.q (sF f (1+a)) (sF f (1+b)))).Nodup)
theorem am2:((cS.filter λf=>Nat.ble f.q 7).all MY)=ξ:=by decide +kernel
theorem MX{f:Fd}(h:f∈cS) (h7:f.q<=7):MY f=ξ:=apA.mp am2 f (aqB.mpr ⟨h,Nat.ble_eq_true_of_le h7⟩)
theorem afg{n:Nat}{s:Nat->Nat->Nat}(h:NU n s=ξ):dW n s/\∀x y,x<n->y<n->s x y<n:=by
 have h:=apA.mp h;have hb:∀x y,x<n->y<n->s x y<n:=λx y hx hy=>by
  have:=h x (apx.mpr hx);simp only[apN,apA]at this;have h3:=this.2 y (apx.mpr hy);exact apG (aqp _) (auV h3)
 refine⟨⟨λi hi=>?_,λi hi=>?_⟩,hb⟩
 ·have:=h i (apx.mpr hi);simp only[apN,decide_eq_true_eq]at this;exact tS this.1.1 (λx hx=>by
   obtain⟨j,hj,rfl⟩:=apv.mp hx;exact apx.mpr (hb i j hi (apx.mp hj))) (by simp)
 ·have:=h i (apx.mpr hi);simp only[apN,decide_eq_true_eq]at this;exact tS this.1.2 (λx hx=>by
   obtain⟨j,hj,rfl⟩:=apv.mp hx;exact apx.mpr (hb j i (apx.mp hj) hi)) (by simp)
theorem Nk{α:Type}{n:Nat}{f:Nat->α}(h:∀i j,i<n->j<n->f i=f j->i=j):((θ n).map f).Nodup:=by
 unfold τ;rw[arz];refine au1 (R:=(· < ·)) (fun{a b} ha hb hab e=>?_) asB
 have:=h a b (apx.mp ha) (apx.mp hb) e;omega
theorem B6{m:List D->aa->R D}{d1 d2 d3:af}{e:Ev}{c:aa}{x y z v:D}(h1:d1 e c=.ok x c) (h2:d2 e c=.ok y c) (h3:d3 e c=.ok z c) (h:m [x,y,z] c=.ok v c):aC 3 m (ao d1 (ao d2 (ao d3 aq))) e c=.ok v c:=by
 simp only[x_call,bJ,h1,h2,h3,bI,R.aA];rw[if_pos (by rfl)];exact h
theorem PM:∀(l r:List (List Int)),(r++l).Nodup->l.foldl ig r=r++l
 |[],r,_=>by simp
 |k::l,r,h=>by
  have hk:k∉r:=λhm=>by
   rw[arw]at h;exact h.2.2 k hm k (.head _) rfl
  rw[aq6,show ig r k=r++[k] by unfold ig;rw[if_neg hk],PM l (r++[k]) (by rw[ap9];exact h),ap9]
  rfl
structure Ks (n:Nat) (s s':Nat->Nat->Nat):Prop where
 one:∀x y,x<n->y<n->s x y<8
 two:∀x y,x<n->y<n->s' x y<8
 nd:((θ (n*n)).map (qg n s s')).Nodup
theorem Mu{n:Nat}{s s':Nat->Nat->Nat}(A:Ks n s s'):∀l:List Nat,(∀i∈l,i<n*n)->qe (l.map (zP n s s'))=ζ (l.map (qg n s s'))
 |[],_=>rfl
 |i::l,h=>by
  have hi:=h i (.head _);have h0:0<n:=by rcases atd n with e|e;(subst e;simp at hi);exact e
  have a1:=A.one (i/n) (i % n) (arG hi) (aqF _ h0);have a2:=A.two (i/n) (i % n) (arG hi) (aqF _ h0);have hp:aZ (zP n s s' i)=ζ (qg n s s' i):=by
   unfold aZ zP qg;dsimp only;rw[if_pos (by omega)]
  rw[apE,apE];unfold qe;rw[hp,Mu A l λj hj=>h j (.tail _ hj)]
theorem eq_self(N:Int) (c:aa):cB (.int N) (.int N) c=.ok (.bl ξ) c:=by simp
theorem afs{n:Nat}{s s':Nat->Nat->Nat}(h1:1<=n) (h7:n<=7) (A:Ks n s s') (c:aa):uo [aU n s,aU n s'] c=.ok (.bl ξ) c:=by
 have hnn:n*n<=49:=arH h7 h7;refine jy (n:=3) (b:=qS) ?_ rfl (λk h=>by cases h)
 obtain⟨Q,hQ⟩:∃Q:Int,Q=((n*n:Nat):Int):=⟨_,rfl⟩;have hml:aW (.int (n:Int)) (.int (n:Int)) c=.ok (.int Q) c:=by
  rw[hQ];exact NQ (m:=(n:Int)) (by omega) (by omega) (by simp) c
 have e0:aG 2 (au aW (aF aY (ao (ak 0) aq)) (aF aY (ao (ak 0) aq))) [ζ (aU n s),ζ (aU n s'),η] c=.ok (.nx [ζ (aU n s),ζ (aU n s'),ζ (.int Q)]) c:=iY (i:=2) (gj (f:=aW) (jh (d1:=ak 0) rfl (Au n s c)) (jh (d1:=ak 0) rfl (Au n s c)) hml);have t2:(2:Nat)<=ι:=by decide
 have hc:=uA (d:=ak 2) (a:=cP (ao (aC 2 gX (ao (ak 1) (ao (ak 0) aq))) (ao (aC 2 gX (ao (ak 2) (ao (ak 0) aq))) aq))) (pick:=[η,ζ 0,ζ 1]) (e:=[ζ (aU n s),ζ (aU n s'),ζ (.int Q)]) (E:=[ζ (aU n s),ζ (aU n s')]) (c:=c) (N:=Q) (n:=n*n) (zP n s s') rfl hQ (by omega) rfl (λi hi=>by
  have g1:=ji (m:=gX) (d1:=ak 1) (d2:=ak 0) (e:=[ζ (.int (i:Int)),ζ (aU n s),ζ (aU n s')]) rfl rfl (C4 s h1 h7 hi rfl c);have g2:=ji (m:=gX) (d1:=ak 2) (d2:=ak 0) (e:=[ζ (.int (i:Int)),ζ (aU n s),ζ (aU n s')]) rfl rfl (C4 s' h1 h7 hi rfl c);simp only[zb,bJ,g1,g2,bI,R.aA];rw[if_pos (by exact t2)]
  rfl)
 have hp:=Mu A (θ (n*n)) λi hi=>apx.mp hi
 have hf:eS ((θ (n*n)).map (qg n s s'))=(θ (n*n)).map (qg n s s'):=PM _ [] (by simpa using A.nd)
 have hs:uT (ao (aS (bg (ao (ak 2) aq)) [η,ζ 0,ζ 1] (az 0) aJ (cP (ao (aC 2 gX (ao (ak 1) (ao (ak 0) aq))) (ao (aC 2 gX (ao (ak 2) (ao (ak 0) aq))) aq)))) aq) [ζ (aU n s),ζ (aU n s'),ζ (.int Q)] c=.ok (.int Q) c:=by
  unfold uT;simp only[bJ,hc,bI,R.aA,d7,hp,hf,apC,aqj];rw[if_pos (by omega),hQ]
 have hb:qS=aD (aG 2 (au aW (aF aY (ao (ak 0) aq)) (aF aY (ao (ak 0) aq)))) (aM (au cB (uT (ao (aS (bg (ao (ak 2) aq)) [η,ζ 0,ζ 1] (az 0) aJ (cP (ao (aC 2 gX (ao (ak 1) (ao (ak 0) aq))) (ao (aC 2 gX (ao (ak 2) (ao (ak 0) aq))) aq)))) aq)) (ak 2))):=rfl;rw[show cT 3 [aU n s,aU n s']=[ζ (aU n s),ζ (aU n s'),η]from rfl,hb,bL e0]
 exact lE (gj (f:=cB) hs (d2:=ak 2) (y:=.int Q) rfl (eq_self Q c))
def jK(n:Nat) (s t:Nat->Nat->Nat):Prop:=∀x y x' y',x<n->y<n->x'<n->y'<n->s x y=s x' y'->t x y=t x' y'->x=x'/\y=y'
theorem jK.symm{n:Nat}{s t:Nat->Nat->Nat}(h:jK n s t):jK n t s:=λx y x' y' a b c d e f=>h x y x' y' a b c d f e
theorem ank{n:Nat}{s t:Nat->Nat->Nat}(h1:1<=n) (h7:n<=7) (L:dW n s) (L':dW n t) (h:jK n s t):Ks n s t:=by
 refine⟨λx y hx hy=>by have:=L.lt hx hy;omega,λx y hx hy=>by have:=L'.lt hx hy;omega,Nk λi j hi hj e=>?_⟩
 unfold qg at e
 injection e with e1 e2
 injection e2 with e2 _
 have e1:s (i/n) (i % n)=s (j/n) (j % n):=by omega
 have e2:t (i/n) (i % n)=t (j/n) (j % n):=by omega
 obtain⟨q1,q2⟩:=h _ _ _ _ (arG hi) (aqF _ (by omega)) (arG hj) (aqF _ (by omega)) e1 e2
 rw[<-asL i n,<-asL j n,q1,q2]
theorem DU{n:Nat}{f:Nat->Nat}(h:((θ n).map f).Nodup) {i j:Nat}(hi:i<n) (hj:j<n) (e:f i=f j):i=j:=by
 have hp:=arz.mp h;have hg:=ara.mp hp
 rcases asw i j with q|q|q
 ·have:=hg i j (by simpa using hi) (by simpa using hj) q
  simp at this;exact absurd e this
 ·exact q
 ·have:=hg j i (by simpa using hj) (by simpa using hi) q
  simp at this;exact absurd e.symm this
theorem PZ{f:Fd}(h:f∈cS) (h7:f.q<=7) {a b:Nat}(ha:a<f.q-1) (hb:b<a):jK f.q (sF f (1+a)) (sF f (1+b)):=by
 have ho:=apA.mp (MX h h7) a (apx.mpr ha);rw[apN]at ho;have hn:=of_decide_eq_true (apA.mp ho.2 b (apx.mpr hb));intro x y x' y' hx hy hx' hy' e1 e2;have q0:0<f.q:=by omega
 have bd:∀x y,x<f.q->y<f.q->x*f.q+y<f.q*f.q:=λx y hx hy=>by
  have:x*f.q+f.q<=f.q*f.q:=by
   rw[<-aqx];exact ar4 _ hx
  omega
 have dv:∀x y,y<f.q->(x*f.q+y)/f.q=x/\(x*f.q+y) % f.q=y:=λx y hy=>by
  constructor
  ·rw[arQ,asM q0,asN hy];omega
  ·rw[arQ,au2,au3 hy]
 have:=DU hn (bd x y hx hy) (bd x' y' hx' hy') (by
  unfold QK;rw[(dv x y hy).1,(dv x y hy).2,(dv x' y' hy').1,(dv x' y' hy').2,e1,e2])
 have d1:=dv x y hy;have d2:=dv x' y' hy';rw[this]at d1;exact⟨d1.1.symm.trans d2.1,d1.2.symm.trans d2.2⟩
theorem aiV{f:Fd}(h:f∈cS) (h7:f.q<=7) {a:Nat}(ha:a<f.q-1):dW f.q (sF f (1+a)):=by
 have ho:=apA.mp (MX h h7) a (apx.mpr ha);rw[apN]at ho;exact(afg ho.1).1
theorem aiW{f:Fd}(h:f∈cS) (h7:f.q<=7) {a b:Nat}(ha:a<f.q-1) (hb:b<f.q-1) (hne:a≠b):jK f.q (sF f (1+a)) (sF f (1+b)):=by
 rcases au4 hne with q|q
 ·exact(PZ h h7 hb q).symm
 ·exact PZ h h7 ha q
theorem aft{f:Fd}(h:f∈cS) {N:Int}(hN:N=f.q) (h7:N<=7) (c:aa):xE [.int N] c=.ok (.ref c.length) (c++[.lst (FS f)]):=by
 obtain⟨w,hf⟩:=aix h hN c η η η;have hp:=Zh h c;rw[<-hN]at hp;have e0:aG 1 (aC 1 uq (ao (ak 0) aq)) [ζ (.int N),η,η,η,η,η] c=.ok (.nx [ζ (.int N),ζ (.lst (PR f)),η,η,η,η]) c:=iY (i:=1) (qN (m:=uq) (d1:=ak 0) rfl hp);have e1:aG 2 (ff aq) [ζ (.int N),ζ (.lst (PR f)),η,η,η,η] c=.ok (.nx [ζ (.int N),ζ (.lst (PR f)),ζ (.ref c.length),η,η,η]) (c++[.lst []]):=by simp[bN]
 have h1:j9 (ao (dC (.int 1)) (ao (ak 0) aq)) [ζ (.int N),ζ (.lst (PR f)),ζ (.ref c.length),η,η,η] (c++[.lst []])=.ok ⟨bf 1 N,λ_=>True⟩ (c++[.lst []]):=by
  have q2:=(jc h).q2;simp;omega
 have e2:bQ (j9 (ao (dC (.int 1)) (ao (ak 0) aq))) (az 3) ya [ζ (.int N),ζ (.lst (PR f)),ζ (.ref c.length),η,η,η] (c++[.lst []])=.ok (.nx ([ζ (.int N),ζ (.lst (PR f)),ζ (.ref c.length)]++w)) (dG f c (f.q-1)):=by
  rw[fJ,h1,R.aA];exact hf
 have hb:qW=aD (aG 1 (aC 1 uq (ao (ak 0) aq))) (aD (aG 2 (ff aq)) (aD (bQ (j9 (ao (dC (.int 1)) (ao (ak 0) aq))) (az 3) ya) (aM (ak 2)))):=rfl;show bK 6 ξ qW [.int N] c=_;unfold bK;rw[show cT 6 [D.int N]=[ζ (.int N),η,η,η,η,η]from rfl,hb,bL e0,bL e1,bL e2]
 have e3:aM (ak 2) ([ζ (.int N),ζ (.lst (PR f)),ζ (.ref c.length)]++w) (dG f c (f.q-1))=.ok (.rt (.ref c.length)) (dG f c (f.q-1)):=rfl;rw[e3,R.aA];dsimp only;unfold dH;dsimp only;have hg:(dG f c (f.q-1))[c.length]? = ζ (.lst (FS f)):=by unfold dG FS;simp
 have ht:(dG f c (f.q-1)).take c.length=c:=by unfold dG;simp
 rw[hg];dsimp only;rw[if_pos (aps _),if_pos rfl,ht]
structure Net (n:Nat) (ss:List (Nat->Nat->Nat)):Prop where
 two:2<=n
 iw:n<=7
 few:ss.length<=n-1
 lat:∀s∈ss,dW n s
 Ka:ss.Pairwise (jK n)
def aR(n:Nat) (ss:List (Nat->Nat->Nat)):List D:=ss.map (aU n)
theorem aiU{f:Fd}(h:f∈cS) (h7:f.q<=7) {bs:List Nat}(hn:bs.Nodup) (hb:∀x∈bs,x<f.q-1) (hl:bs.length<=f.q-1):Net f.q (bs.map λa=>sF f (1+a)):=by
 refine⟨(jc h).q2,h7,by simpa using hl,λs hs=>?_,?_⟩
 ·obtain⟨a,ha,rfl⟩:=apv.mp hs;exact aiV h h7 (hb a ha)
 ·rw[arz];exact au1 (fun{a b} ha hb' hne=>aiW h h7 (hb a ha) (hb b hb') hne) hn
structure LF (f:Fd) (j n:Nat) (as bs:List Nat) (c:aa):Prop where
 len:c.length=n+2
 jn:j<n
 Zt:∃p:Int,c[j]? = ζ (.lst [.int p])
 left:c[n]? = ζ (.lst (as.map λa=>aU f.q (sF f (1+a))))
 fnd:c[n+1]? = ζ (.lst (bs.map λa=>aU f.q (sF f (1+a))))
def wo:ah:=(eL (gx (ak 3) (kc (ak 2) (aC 2 cN (ao (ak 0) (ao (aF aY (ao (ak 2) aq)) aq))))))
theorem afd{α:Type}(g:Nat->α) (l:List Nat) (i:Nat):(l.map g).eraseIdx i=(l.eraseIdx i).map g:=by
 rw[arc,arc];simp[ard,atJ]
theorem V6{f:Fd}{j n:Nat}{as bs:List Nat}{c:aa}{a1 a4:Option D}(H:LF f j n as bs c) (h1:0<as.length) (h2:as.length<100) (h3:bs.length<100) :
  ∃as' bs' c',LF f j n as' bs' c'/\(as++bs).Perm (as'++bs')/\as'.length+1=as.length/\bs'.length=bs.length+1/\wo [ζ (.ref j),a1,ζ (.ref n),ζ (.ref (n+1)),a4] c=.ok (.nx [ζ (.ref j),a1,ζ (.ref n),ζ (.ref (n+1)),a4]) c':=by
 obtain⟨g1,g2,⟨p,g3⟩,g4,g5⟩:=H;have ht:=take2 (cZ:=(as.length:Int)) g3 (by omega) (by omega)
 have x0:=aq2 p (show(as.length:Int)≠0 by omega)
 have x1:=aq3 p (show(0:Int)<(as.length:Int) by omega)
 generalize p % (as.length:Int)=x at ht x0 x1
 obtain⟨i,rfl⟩:=uf x0
 generalize hc1:c.set j (.lst [.int (p/(as.length:Int))])=c1 at ht
 have hi:i<as.length:=by omega
 have l1:c1.length=n+2:=by rw[<-hc1];simp[g1]
 have q0:c1[j]? = ζ (.lst [.int (p/(as.length:Int))]):=by rw[<-hc1,aqn (by omega)]
 have q1:c1[n]? = ζ (.lst (as.map λa=>aU f.q (sF f (1+a)))):=by rw[<-hc1,aqb (by omega)];exact g4
 have q2:c1[n+1]? = ζ (.lst (bs.map λa=>aU f.q (sF f (1+a)))):=by rw[<-hc1,aqb (by omega)];exact g5
 have hlen:aY [.ref n] c=.ok (.int (as.length:Int)) c:=by
  unfold aY;dsimp only[fS];rw[g4];simp
 have hget:(as.map λa=>aU f.q (sF f (1+a)))[i]? = ζ (aU f.q (sF f (1+as[i]))):=by simp[hi]
 have ahs:kc (ak 2) (aC 2 cN (ao (ak 0) (ao (aF aY (ao (ak 2) aq)) aq))) [ζ (.ref j),a1,ζ (.ref n),ζ (.ref (n+1)),a4] c=.ok (aU f.q (sF f (1+as[i]))) (c1.set n (.lst ((as.eraseIdx i).map λa=>aU f.q (sF f (1+a))))):=by
  unfold kc;simp only[bA,gz,gs,R.aA,x_call,bJ,fK,bI,hlen,apL,ap3,if_pos,ht,q1];rw[if_pos ⟨by omega,by simp;omega,by simp;omega⟩,arN,hget]
  dsimp only;rw[afd]
 have q3:(c1.set n (.lst ((as.eraseIdx i).map λa=>aU f.q (sF f (1+a)))))[n+1]? = ζ (.lst (bs.map λa=>aU f.q (sF f (1+a)))):=by
  rw[aqb (by omega)];exact q2
 refine⟨as.eraseIdx i,bs++[as[i]],(c1.set n (.lst ((as.eraseIdx i).map λa=>aU f.q (sF f (1+a))))).set (n+1) (.lst ((bs++[as[i]]).map λa=>aU f.q (sF f (1+a)))),⟨by simp[l1],g2,⟨_,by rw[aqb (by omega),aqb (by omega)];exact q0⟩,by rw[aqb (by omega),aqn (by omega)],by rw[aqn (by simp;omega)]⟩,?_,by rw[auF hi];omega,by simp,?_⟩
 ·have p1:=(BK hi).append_right bs;refine p1.trans ?_;rw[<-ap9];refine List.Perm.trans ?_ (asA as[i] (as.eraseIdx i++bs)).symm;exact .refl _
 ·unfold wo;rw[ko];have:gx (ak 3) (kc (ak 2) (aC 2 cN (ao (ak 0) (ao (aF aY (ao (ak 2) aq)) aq)))) [ζ (.ref j),a1,ζ (.ref n),ζ (.ref (n+1)),a4] c=.ok .aH ((c1.set n (.lst ((as.eraseIdx i).map λa=>aU f.q (sF f (1+a))))).set (n+1) (.lst ((bs++[as[i]]).map λa=>aU f.q (sF f (1+a))))):=by
   have sz:=lC;unfold gx;have hv:(ak 3) [ζ (.ref j),a1,ζ (.ref n),ζ (.ref (n+1)),a4] c=.ok (.ref (n+1)) c:=rfl;rw[hv,R.aA];dsimp only;rw[ahs,R.aA];simp only[q3];rw[if_pos ⟨by simp;omega,Nf _ _⟩]
   simp
  rw[this];rfl
theorem LV{f:Fd}{j n:Nat}{a1:Option D}:∀(ks:List D) (as bs:List Nat) (a4:Option D) (c:aa),LF f j n as bs c->ks.length<=as.length->as.length+bs.length<100 ->
  ∃as' bs' v c',LF f j n as' bs' c'/\(as++bs).Perm (as'++bs')/\dR (λ_=>True) (az 4) wo ks [ζ (.ref j),a1,ζ (.ref n),ζ (.ref (n+1)),a4] c=.ok (.nx [ζ (.ref j),a1,ζ (.ref n),ζ (.ref (n+1)),v]) c'
 |[],as,bs,a4,c,H,_,_=>⟨as,bs,a4,c,H,.refl _,by simp⟩
 |k::ks,as,bs,a4,c,H,hl,h2=>by
  rw[apL]at hl;obtain⟨as1,bs1,c1,H1,p1,l1,l2,e1⟩:=V6 (a1:=a1) (a4:=ζ k) H (by omega) (by omega) (by omega)
  obtain⟨as2,bs2,v,c2,H2,p2,e2⟩:=LV ks as1 bs1 (ζ k) c1 H1 (by omega) (by omega)
  refine⟨as2,bs2,v,c2,H2,p1.trans p2,?_⟩;have g:az 4 k [ζ (.ref j),a1,ζ (.ref n),ζ (.ref (n+1)),a4] c=.ok [ζ (.ref j),a1,ζ (.ref n),ζ (.ref (n+1)),ζ k] c:=rfl;rw[l6,g,R.aA,e1];exact e2
theorem Ln:∀(l:List Nat) (c:aa) (n:Nat),gS c n (nD l)=ζ (nD l)
 |[],_,_=>rfl
 |x::l,c,n=>by
  show(match eH c n (.int (x:Nat)),gS c n (nD l)with|some a,ζ m=>ζ (a::m)|_,_=>η)=_
  rw[Ln l c n];rfl
theorem UW(n:Nat) (s:Nat->Nat->Nat) (c:aa) (k:Nat):eH c k (aU n s)=ζ (aU n s):=by
 have h:∀l:List Nat,gS c k (l.map λi=>D.tup (nD ((θ n).map (s i))))=ζ (l.map λi=>D.tup (nD ((θ n).map (s i)))):=λl=>by
  induction l with
  |nil=>rfl
  |cons i l ih =>
   show(match eH c k (.tup (nD ((θ n).map (s i)))),gS c k (l.map λi=>D.tup (nD ((θ n).map (s i))))with|some a,ζ m=>ζ (a::m)|_,_=>η)=_
   have:eH c k (.tup (nD ((θ n).map (s i))))=ζ (.tup (nD ((θ n).map (s i)))):=by
    show(match gS c k (nD ((θ n).map (s i)))with|some m=>ζ (D.tup m)|none=>η)=_
    rw[Ln]
   rw[this,ih];rfl
 show(match gS c k ((θ n).map λi=>D.tup (nD ((θ n).map (s i))))with|some m=>ζ (D.tup m)|none=>η)=_
 rw[h];rfl
theorem Lp(n:Nat):∀(ss:List (Nat->Nat->Nat)) (c:aa) (k:Nat),gS c k (aR n ss)=ζ (aR n ss)
 |[],_,_=>rfl
 |s::ss,c,k=>by
  show(match eH c k (aU n s),gS c k (aR n ss)with|some a,ζ m=>ζ (a::m)|_,_=>η)=_
  rw[UW,Lp n ss c k];rfl
theorem Xg{y:Int}(y0:0<=y) (y1:y<6):(2+y=6)\/∃f∈cS,f.q<=7/\2+y=(f.q:Int)/\f.q≠6:=by
 have:y=0\/y=1\/y=2\/y=3\/y=4\/y=5:=by omega
 rcases this with rfl|rfl|rfl|rfl|rfl|rfl
 ·exact .inr ⟨cS[0],apR _,by decide,rfl,by decide⟩
 ·exact .inr ⟨cS[1],apR _,by decide,rfl,by decide⟩
 ·exact .inr ⟨cS[2],apR _,by decide,rfl,by decide⟩
 ·exact .inr ⟨cS[3],apR _,by decide,rfl,by decide⟩
 ·exact .inl rfl
 ·exact .inr ⟨cS[4],apR _,by decide,rfl,by decide⟩
theorem Wa{j:Nat}{y:Int}{a1 a2 a3 a4:Option D}{c c1:aa}(t:cN [.ref j,.int 6] c=.ok (.int y) c1):(aG 1 (au br (dC (.int 2)) (aC 2 cN (ao (ak 0) (ao (dC (.int 6)) aq))))) [ζ (.ref j),a1,a2,a3,a4] c=.ok (.nx [ζ (.ref j),ζ (.int (2+y)),a2,a3,a4]) c1:=by simp[t]
def wm:ah:=(bU (aQ (au cB (ak 1) (dC (.int 6)))) (aM (cP (ao (ak 1) (ao (gD (cy (ao (aC 2 ou (ao (ak 0) (ao (ak 1) aq))) aq)) gE (gw (aC 2 cN (ao (ak 0) (ao (dC (.int 2)) aq))))) aq)))) b8)
theorem V7{N:Int}(h:N≠6) {a0 a2 a3 a4:Option D}{c:aa}:wm [a0,ζ (.int N),a2,a3,a4] c=.ok (.nx [a0,ζ (.int N),a2,a3,a4]) c:=by simp[wm,h]
theorem V5{j:Nat}{T:D}{z:Int}{a2 a3 a4:Option D}{c c1 c2:aa}(t:ou [.ref j,.int 6] c=.ok T c1) (u:cN [.ref j,.int 2] c1=.ok (.int z) c2):wm [ζ (.ref j),ζ (.int 6),a2,a3,a4] c=.ok (.rt (.tup [.int 6,.lst (cutD [T] η (ζ z))])) c2:=by
 have t1:(1:Nat)<=ι:=by decide
 have t2:(2:Nat)<=ι:=by decide
 simp[wm,t,u,t1,t2,gD,gE,gw,d7]
theorem V9{f:Fd}(h:f∈cS) {N:Int}(hN:N=f.q) (h7:N<=7) {a0 a2 a3 a4:Option D}{c:aa}:(aG 2 (aC 1 xE (ao (ak 1) aq))) [a0,ζ (.int N),a2,a3,a4] c=.ok (.nx [a0,ζ (.int N),ζ (.ref c.length),a3,a4]) (c++[.lst (FS f)]):=by
 simp[aft h hN h7 c]
theorem V8{a0 a1 a2 a3 a4:Option D}{c:aa}:(aG 3 (ff aq)) [a0,a1,a2,a3,a4] c=.ok (.nx [a0,a1,a2,ζ (.ref c.length),a4]) (c++[.lst []]):=by simp[bN]
theorem Lq{j m:Nat}{c:aa}(P:eU j m c) {c':aa}(hl:m<=c'.length) (hp:∃p:Int,c'[j]? = ζ (.lst [.int p])):eU j m (c'.take m):=by
 obtain⟨h1,h2,_⟩:=P;obtain⟨p,hp⟩:=hp;exact⟨by simp;omega,h2,p,by rw[arT,if_pos h2];exact hp⟩
theorem UY{c:aa}{k n:Nat}{N:Int}{l:List D}(h:c[k]? = ζ (.lst l)) (hk:n<=k):eH c n (.tup [.int N,.ref k])=ζ (.tup [.int N,.lst l]):=by
 simp[eH,gS,h,hk]
theorem UX{c:aa}{n m:Nat}{N:Int}{ss:List (Nat->Nat->Nat)}:eH c n (.tup [.int N,.lst (aR m ss)])=ζ (.tup [.int N,.lst (aR m ss)]):=by
 simp[eH,gS,Lp]
theorem V0{j m:Nat}{c:aa}(P:eU j m c):∃(n:Nat) (ss:List (Nat->Nat->Nat)) (c':aa),Net n ss/\eU j m c'/\qk [.ref j] c=.ok (.tup [.int (n:Int),.lst (aR n ss)]) c':=by
 have hcl:c.length=m:=P.1;obtain⟨y,c1,y0,y1,P1,t1⟩:=rO (cZ:=6) P (by decide) (by decide)
 have hb:pH=aD (aG 1 (au br (dC (.int 2)) (aC 2 cN (ao (ak 0) (ao (dC (.int 6)) aq))))) (aD wm (aD (aG 2 (aC 1 xE (ao (ak 1) aq))) (aD (aG 3 (ff aq)) (aD (bQ (bg (ao (aC 2 cN (ao (ak 0) (ao (ak 1) aq))) aq)) (az 4) wo) (aM (cP (ao (ak 1) (ao (ak 3) aq)))))))):=rfl;have es:cT 5 [D.ref j]=[ζ (.ref j),η,η,η,η]:=rfl;have e0:=Wa (a1:=η) (a2:=η) (a3:=η) (a4:=η) t1
 rcases Xg y0 y1 with h6|⟨f,hf,h7,hN,hn6⟩
 ·obtain⟨s,c2,hL,P2,t2⟩:=aji (n:=6) P1 (by decide) (by decide)
  obtain⟨z,c3,z0,z1,P3,t3⟩:=rO (cZ:=2) P2 (by decide) (by decide)
  rw[h6]at e0;have e1:=V5 (a2:=η) (a3:=η) (a4:=η) t2 t3;have hz:∃ss:List (Nat->Nat->Nat),ss.length<=1/\(∀x∈ss,x=s)/\cutD [aU 6 s] η (ζ z)=aR 6 ss:=by
   have:z=0\/z=1:=by omega
   rcases this with rfl|rfl
   ·exact⟨[],by simp,by simp,rfl⟩
   ·exact⟨[s],by simp,λx hx=>by simpa using hx,rfl⟩
  obtain⟨ss,hl,hs,hc⟩:=hz;rw[hc]at e1;refine⟨6,ss,c3.take c.length,⟨by decide,by decide,by omega,λx hx=>hs x hx▸hL,?_⟩,?_,?_⟩
  ·match ss,hl with
   |[],_=>exact .nil
   |[a],_=>exact List.pairwise_singleton _ _
  ·rw[hcl];exact Lq P (by rw[P3.1];exact aps _) P3.2.2
  ·show l7 5 pH [.ref j] c=_;unfold l7;rw[es,hb,bL e0,C9 e1,R.aA];dsimp only;unfold oZ;rw[UX];rfl
 ·generalize hNN:2+y=N at e0 hN
  have q2:=(jc hf).q2;have e1:=V7 (N:=N) (a0:=ζ (.ref j)) (a2:=η) (a3:=η) (a4:=η) (c:=c1) (by omega)
  have e2:=V9 hf hN (by omega) (a0:=ζ (.ref j)) (a2:=η) (a3:=η) (a4:=η) (c:=c1)
  have e3:=V8 (a0:=ζ (.ref j)) (a1:=ζ (.int N)) (a2:=ζ (.ref c1.length)) (a3:=η) (a4:=η) (c:=c1++[.lst (FS f)]);have l1:c1.length=m:=P1.1;have l2:(c1++[Cell.lst (FS f)]).length=m+1:=by simp[l1]
  rw[l1]at e2 e3;rw[l2]at e3;obtain⟨p,hp⟩:=P1.2.2;have AH:=P1.2.1;have P2:eU j (m+2) (c1++[.lst (FS f)]++[.lst []]):=⟨by simp[l1],by omega,p,by rw[ap9,ap8 (by omega)];exact hp⟩
  obtain⟨p2,hp2⟩:=P2.2.2;have t2:=take2 (cZ:=N) hp2 (by omega) (by omega)
  have x0:=aq2 p2 (show N≠0 by omega)
  have x1:=aq3 p2 (show 0<N by omega)
  generalize p2 % N=z at t2 x0 x1
  have H:LF f j m (θ (f.q-1)) [] ((c1++[Cell.lst (FS f)]++[Cell.lst []]).set j (.lst [.int (p2/N)])):=by
   refine⟨by simp[l1],AH,⟨_,by rw[aqn (by simp;omega)]⟩,?_,?_⟩
   ·rw[aqb (by omega),ap8 (by simp;omega),aqi (by omega),l1,aqW]
    rfl
   ·rw[aqb (by omega),aqi (by simp;omega)]
    simp[l1]
  obtain⟨as',bs',v,c5,H5,kW,e4⟩:=LV (a1:=ζ (.int N)) (bf 0 z) (θ (f.q-1)) [] η _ H (by rw[zC];simp;omega) (by simp;omega)
  have hr:bg (ao (aC 2 cN (ao (ak 0) (ao (ak 1) aq))) aq) [ζ (.ref j),ζ (.int N),ζ (.ref m),ζ (.ref (m+1)),η] (c1++[.lst (FS f)]++[.lst []])=.ok ⟨bf 0 z,λ_=>True⟩ ((c1++[Cell.lst (FS f)]++[Cell.lst []]).set j (.lst [.int (p2/N)])):=by
   unfold bg;simp only[bJ,x_call,bA,gz,gs,bI,R.aA,apL,ap3,if_pos,t2];rw[if_pos (by omega)]
  have e4':bQ (bg (ao (aC 2 cN (ao (ak 0) (ao (ak 1) aq))) aq)) (az 4) wo [ζ (.ref j),ζ (.int N),ζ (.ref m),ζ (.ref (m+1)),η] (c1++[.lst (FS f)]++[.lst []])=.ok (.nx [ζ (.ref j),ζ (.int N),ζ (.ref m),ζ (.ref (m+1)),v]) c5:=by
   rw[fJ,hr,R.aA];exact e4
  have hnd:(as'++bs').Nodup:=kW.nodup_iff.mp (by simpa using arE)
  have hmem:∀x∈as'++bs',x<f.q-1:=λx hx=>by
   have:=kW.mem_iff.mpr hx
   simpa using this
  have hlen:(as'++bs').length=f.q-1:=by rw[<-kW.length_eq];simp
  rw[arw]at hnd;have ahD:=aiU hf h7 hnd.2.1 (λx hx=>hmem x (aql _ hx)) (by rw[<-hlen];simp)
  refine⟨f.q,bs'.map λa=>sF f (1+a),c5.take c.length,ahD,?_,?_⟩
  ·rw[hcl];exact Lq P (by rw[H5.len];omega) H5.Zt
  ·have Vx:(2:Nat)<=ι:=by decide
   have e5:aM (cP (ao (ak 1) (ao (ak 3) aq))) [ζ (.ref j),ζ (.int N),ζ (.ref m),ζ (.ref (m+1)),v] c5=.ok (.rt (.tup [.int N,.ref (m+1)])) c5:=by simp[Vx]
   show l7 5 pH [.ref j] c=_;unfold l7;rw[es,hb,bL e0,bL e1,bL e2,bL e3,bL e4',e5,R.aA];dsimp only;unfold oZ;rw[UY H5.fnd (by omega),<-hN]
   unfold aR;rw[apV];rfl
theorem RZ{α:Type}(l:List α) (c:aa):fZ [.lst (l.map λ_=>D.bl ξ)] c=.ok (.bl ξ) c:=by
 have:pG (l.map λ_=>D.bl ξ)=ζ (l.map λ_=>ξ):=by
  have:=JW (l.map λ_=>ξ)
  rw[apV]at this;exact this
 unfold fZ qd;simp only[this,all_true]
theorem Net.two_at{n:Nat}{ss:List (Nat->Nat->Nat)}(N:Net n ss) {i k:Nat}(hk:k<i) (hi:i<ss.length):jK n ss[i] (ss[k]'(by omega)):=jK.symm (ara.mp N.Ka k i (by omega) hi hk)
def R4:af:=(aF fZ (ao (aS (dj (gD (ak 0) gE (gw (ak 1)))) [η,ζ 2] (az 0) aJ (aC 2 uo (ao (ak 1) (ao (ak 0) aq)))) aq))
def yJ:ah:=(bU (d8 (aQ R4)) (aM (dC (.bl Δ))) b8)
theorem ane{n:Nat}{ss:List (Nat->Nat->Nat)}(N:Net n ss) {i:Nat}(hi:i<ss.length) {I:Int}(hI:I=i) (c:aa):yJ [ζ (.lst (aR n ss)),ζ (.int I),ζ (aU n ss[i])] c=.ok (.nx [ζ (.lst (aR n ss)),ζ (.int I),ζ (aU n ss[i])]) c:=by
 have sz:=lC;have n2:=N.two;have n7:=N.iw;have hf:=N.few;have xZ:cutD (aR n ss) η (ζ I)=(ss.take i).map (aU n):=by
  rw[IL hI (by simp[aR];omega)]
  unfold aR;rw[ard]
 have hs:dj (gD (ak 0) gE (gw (ak 1))) [ζ (.lst (aR n ss)),ζ (.int I),ζ (aU n ss[i])] c=.ok ⟨(ss.take i).map (aU n),λ_=>True⟩ c:=by
  rw[<-xZ];rfl
 have hc:=oB (E:=[ζ (aU n ss[i])]) (a:=aC 2 uo (ao (ak 1) (ao (ak 0) aq))) (c:=c) (aU n) (λ_=>D.bl ξ) (ss.take i) η [] (λs hs=>by
  obtain⟨k,hk,rfl⟩:=aqQ hs;have hk':k<i:=by simp at hk;omega
  rw[asu];exact ji (m:=uo) (d1:=ak 1) (d2:=ak 0) rfl rfl (afs (by omega) n7 (ank (by omega) n7 (N.lat _ (apR _)) (N.lat _ (apR _)) (N.two_at hk' hi)) c))
 rw[apS]at hc;have ha:R4 [ζ (.lst (aR n ss)),ζ (.int I),ζ (aU n ss[i])] c=.ok (.bl ξ) c:=by
  refine jh (x:=.lst ((ss.take i).map λ_=>D.bl ξ)) ?_ (RZ _ c)
  rw[er,hs,R.aA];dsimp only;rw[if_pos (by simp;omega),show dB [η,ζ 2] [ζ (.lst (aR n ss)),ζ (.int I),ζ (aU n ss[i])]=[η,ζ (aU n ss[i])]from rfl,hc,R.aA]
 unfold yJ;rw[iV,CM,zf,ha];rfl
theorem ama{n:Nat}{ss:List (Nat->Nat->Nat)}(N:Net n ss) (c:aa):xG [.lst (aR n ss)] c=.ok (.bl ξ) c:=by
 have hb:rj=aD (bQ (yr (ao (ak 0) aq)) (eG 2 (cu (az 1) (cu (az 2) eO))) yJ) (aM (dC (.bl ξ))):=rfl;obtain⟨e',c',⟨hc,w1,w2,rfl⟩,hf⟩:=oX (g:=eG 2 (cu (az 1) (cu (az 2) eO))) (s:=yJ) (λe c'=>c'=c/\∃w1 w2,e=[ζ (.lst (aR n ss)),w1,w2]) ((aR n ss).mapIdx λi x=>.tup [.int i,x]) [ζ (.lst (aR n ss)),η,η] c ⟨rfl,_,_,rfl⟩ (λx hx e c' ⟨hc,w1,w2,he⟩=>by
  subst he hc;obtain⟨i,hi,rfl⟩:=ar5.mp hx;have hi':i<ss.length:=by simpa[aR]using hi
  have hg:(aR n ss)[i]=aU n ss[i]:=by simp[aR]
  refine⟨[ζ (.lst (aR n ss)),ζ (.int (i:Int)),ζ (aU n ss[i])],[ζ (.lst (aR n ss)),ζ (.int (i:Int)),ζ (aU n ss[i])],c',c',?_,ane N hi' rfl c',rfl,_,_,rfl⟩;rw[hg];rfl)
 subst hc;refine jy (n:=3) (b:=rj) ?_ rfl (λk h=>by cases h)
 have hs:yr (ao (ak 0) aq) [ζ (.lst (aR n ss)),η,η] c'=.ok ⟨(aR n ss).mapIdx λi x=>.tup [.int i,x],λ_=>True⟩ c':=rfl
 have e1:bQ (yr (ao (ak 0) aq)) (eG 2 (cu (az 1) (cu (az 2) eO))) yJ [ζ (.lst (aR n ss)),η,η] c'=.ok (.nx [ζ (.lst (aR n ss)),w1,w2]) c':=by
  rw[fJ,hs,R.aA];exact hf
 rw[hb,show cT 3 [D.lst (aR n ss)]=[ζ (.lst (aR n ss)),η,η]from rfl,bL e1]
 rfl
def AE:ai:=(iE (d8 (aQ (aC 3 gY (ao (ak 0) (ao (dC (.int 2)) (ao (dC (.int 7)) aq)))))) (iE (d8 (aQ (aF cK (ao (ak 1) (ao (dC (.ty "list")) aq))))) (aQ (au uH (aF aY (ao (ak 1) aq)) (au bz (ak 0) (dC (.int 1)))))))
def OC:af:=(aF fZ (ao (aS (dj (ak 1)) [η,ζ 0] (az 0) aJ (iR (aC 1 qq (ao (ak 0) aq)) (au cB (aF aY (ao (ak 0) aq)) (ak 1)))) aq))
theorem Uc{N:Int}(h2:2<=N) (h7:N<=7) (c:aa):gY [.int N,.int 2,.int 7] c=.ok (.bl ξ) c:=by
 simp[gY,mq,uw,pJ,h2,h7]
theorem Av(n:Nat) (ss:List (Nat->Nat->Nat)) (c:aa):aY [.lst (aR n ss)] c=.ok (.int (ss.length:Int)) c:=by
 unfold aY;simp[fS,aR]
theorem agO{n:Nat}{ss:List (Nat->Nat->Nat)}(H:Net n ss) {N:Int}(hN:N=n) (c:aa):D8 [.int N,.lst (aR n ss)] c=.ok (.bl ξ) c:=by
 have sz:=lC;have n2:=H.two;have n7:=H.iw;have hf:=H.few;have hw:=Uc (N:=N) (by omega) (by omega) c
 have hl:=Av n ss c;have hgt:¬N-1<(ss.length:Int):=by omega
 have hnl:(aR n ss).length=ss.length:=by simp[aR]
 have e0:AE [ζ (.int N),ζ (.lst (aR n ss))] c=.ok Δ c:=by
  simp[AE,hw,hl,hgt];omega
 have ha:OC [ζ (.int N),ζ (.lst (aR n ss))] c=.ok (.bl ξ) c:=by
  refine jh (x:=.lst (ss.map λ_=>D.bl ξ)) ?_ (RZ _ c)
  have hc:=oB (E:=[ζ (.int N)]) (a:=iR (aC 1 qq (ao (ak 0) aq)) (au cB (aF aY (ao (ak 0) aq)) (ak 1))) (c:=c) (aU n) (λ_=>D.bl ξ) ss η [] (λs hs=>by
   have h1:=VR (H.lat s hs) (by omega) n7 c
   have h2:=Au n s c;rw[<-hN]at h2;simp[h1,h2])
  rw[apS]at hc;have hs:dj (ak 1) [ζ (.int N),ζ (.lst (aR n ss))] c=.ok ⟨ss.map (aU n),λ_=>True⟩ c:=rfl
  rw[er,hs,R.aA];dsimp only;rw[if_pos (by simp;omega),show dB [η,ζ 0] [ζ (.int N),ζ (.lst (aR n ss))]=[η,ζ (.int N)]from rfl,hc,R.aA]
 have hr:=ama H c;have hb:qY=aD (bU AE (aM (dC (.bl Δ))) b8) (aM (iR OC (aC 1 xG (ao (ak 1) aq)))):=rfl;have e1:bU AE (aM (dC (.bl Δ))) b8 [ζ (.int N),ζ (.lst (aR n ss))] c=.ok (.nx [ζ (.int N),ζ (.lst (aR n ss))]) c:=by
  rw[iV,e0];rfl
 refine jy (n:=2) (b:=qY) ?_ rfl (λk h=>by cases h)
 rw[hb,show cT 2 [D.int N,.lst (aR n ss)]=[ζ (.int N),ζ (.lst (aR n ss))]from rfl,bL e1]
 refine lE ?_;rw[KN,ha,R.aA];dsimp only;rw[if_pos rfl];exact qN (m:=xG) (d1:=ak 1) rfl hr
theorem Mm{n:Nat}{ss:List (Nat->Nat->Nat)}(H:Net n ss) {N:Int}(hN:N=n) (c:aa):kM [.int N,.lst (aR n ss)] c=.ok .aH c:=by
 simp[kM,ve,agO H hN c]
def aN(rows:List (List Nat)):D:=.tup (rows.map λr=>.tup (nD r))
theorem vR(rows:List (List Nat)):noRef (aN rows)=ξ:=by
 unfold aN noRef;refine iz.mpr λd hd=>?_
 obtain⟨r,_,rfl⟩:=apv.mp hd;unfold noRef;exact xj r
theorem Mi(n:Nat):bf 0 (n:Int)=nD (θ n):=by
 apply auJ;intro i
 by_cases h:i<n
 ·have h1:i<(bf 0 (n:Int)).length:=by rw[fM];omega
  have:=zD (apw h1);rw[apw h1,this.2];simp[nD,h]
 ·rw[aq9 (by rw[fM];omega),aq9 (by simp[nD];omega)]
theorem yf{α:Type}{E:List (Option D)}{t:ai}{a:af}{c:aa}(g F:α->D) (b:α->Bool):∀(l:List α) (v:Option D) (acc:List D),(∀x∈l,t (ζ (g x)::E) c=.ok (b x) c)->(∀x∈l,b x=ξ->a (ζ (g x)::E) c=.ok (F x) c)->bO (λ_=>True) (az 0) t a (l.map g) (v::E) acc c=.ok (acc++(l.filter b).map F) c
 |[],v,acc,_,_=>by simp
 |x::l,v,acc,h1,h2=>by
  have e1:az 0 (g x) (v::E) c=.ok (ζ (g x)::E) c:=rfl;rw[apE,kg,e1,R.aA,h1 x (.head _),R.aA];cases hb:b x with
  |true =>
   rw[if_pos rfl,h2 x (.head _) hb,R.aA,yf g F b l _ _ (λz hz=>h1 z (.tail _ hz)) (λz hz=>h2 z (.tail _ hz)),List.filter_cons_of_pos hb,ap9]
   rfl
  |false =>
   rw[if_neg (by decide),yf g F b l _ _ (λz hz=>h1 z (.tail _ hz)) (λz hz=>h2 z (.tail _ hz)),List.filter_cons_of_neg (by simp[hb])]
def nY:ai:=(iF (aQ (au fD (ak 0) (ak 1))) (aQ (qJ 2 2 lams (ao (ak 1) (ao (ak 0) aq)))))
def gQ(n:Nat) (f:Nat->Nat->Bool) (i:Nat):List Nat:=(θ n).filter λj=>decide (j≠i)&&f i j
def b7(n:Nat) (f:Nat->Nat->Bool):List (List Nat):=(θ n).map (gQ n f)
section
variable {k n:Nat}{E:ο}{ns:List Str}{l:List D}{m:List D->aa->R D}{c:aa}{f:Nat->Nat->Bool}
theorem Yd{one j:Nat}(hk:lams[k]? = ζ (E,ns,m)) (hl:dZ l=ξ) (hm:j≠one->m ([.int one,.int j]++l) c=.ok (.bl (f one j)) c) :
  nY [ζ (.int j),ζ (.int one),ζ (.lam k E ns l)] c=.ok (decide (j≠one)&&f one j) c:=by
 unfold nY
 by_cases h:j=one
 ·subst h;simp
 ·have h':¬((j:Int)=one):=by omega
  have hc:qJ 2 2 lams (ao (ak 1) (ao (ak 0) aq)) [ζ (.int j),ζ (.int one),ζ (.lam k E ns l)] c=.ok (.bl (f one j)) c:=by
   rw[T7 2 2 lams _ _ c (k:=k) (Ex:=E) (ns:=ns) (l:=l) rfl hk];simp only[bJ,bA,gz,gs,bI,R.aA];rw[if_pos ⟨rfl,rfl,hl⟩];exact hm h
  simp[h,h',hc]
theorem Yh{q:Int}{one L:D}{r:List D}(bq:-4611686018427387904<=q/\q<4611686018427387904) (hlen:(bf 0 q).length<ι) (hc:bO (λ_=>True) (az 0) nY (ak 0) (bf 0 q) [η,ζ one,ζ L] [] c=.ok r c) (nr:noRef (.tup r)=ξ):iO [.int q,one,L] c=.ok (.tup r) c:=by
 have hb:vd=aM (aF cW (ao (aS (bg (ao (ak 0) aq)) [η,ζ 1,ζ 2] (az 0) nY (ak 0)) aq)):=rfl;rw[iO,e7,hb];have es:cT 3 [D.int q,one,L]=[ζ (.int q),ζ one,ζ L]:=rfl;rw[es];simp only[gO,fK,bJ,er,gM,bA,gz,gs,bI,R.aA];rw[if_pos (by omega)]
 simp only[R.aA];rw[if_pos hlen];have ep:dB [η,ζ 1,ζ 2] [ζ (D.int q),ζ one,ζ L]=[η,ζ one,ζ L]:=rfl;rw[ep,hc];simp only[R.aA];show dH Δ c.length (.tup r) c=_;unfold dH;dsimp only;rw[if_pos nr,aqy]
theorem T9{q:Int}{L:D}{r:List D}(bq:-4611686018427387904<=q/\q<4611686018427387904) (hlen:(bf 0 q).length<ι) (hc:bO (λ_=>True) (az 0) aJ (aC 3 iO (ao (ak 1) (ao (ak 0) (ao (ak 2) aq)))) (bf 0 q) [η,ζ (.int q),ζ L] [] c=.ok r c) (nr:noRef (.tup r)=ξ):om [.int q,L] c=.ok (.tup r) c:=by
 have hb:uZ=aM (aF cW (ao (aS (bg (ao (ak 0) aq)) [η,ζ 0,ζ 1] (az 0) aJ (aC 3 iO (ao (ak 1) (ao (ak 0) (ao (ak 2) aq))))) aq)):=rfl;rw[om,e7,hb];have es:cT 2 [D.int q,L]=[ζ (.int q),ζ L]:=rfl;rw[es];simp only[gO,fK,bJ,er,gM,bA,gz,gs,bI,R.aA];rw[if_pos (by omega)]
 simp only[R.aA];rw[if_pos hlen];have ep:dB [η,ζ 0,ζ 1] [ζ (D.int q),ζ L]=[η,ζ (.int q),ζ L]:=rfl;rw[ep,hc];simp only[R.aA];show dH Δ c.length (.tup r) c=_;unfold dH;dsimp only;rw[if_pos nr,aqy]
theorem ad8{l:List D}(h:bN l=ξ):noRef (.tup l)=ξ:=by unfold noRef;exact h
theorem N5(hn:n<1000):(bf 0 (n:Int)).length<ι:=by
 have hs:=eK (n:=1000) (by decide)
 rw[fM];omega
theorem Mf(hn:n<1000):-4611686018427387904<=(n:Int)/\(n:Int)<4611686018427387904:=by omega
theorem Yj{one:Nat}{L:D}{r:List Nat}(hc:bO (λ_=>True) (az 0) nY (ak 0) ((θ n).map λj:Nat=>D.int (j:Int)) [η,ζ (.int one),ζ L] [] c=.ok (r.map λj:Nat=>D.int (j:Int)) c):bO (λ_=>True) (az 0) nY (ak 0) (bf 0 (n:Int)) [η,ζ (.int one),ζ L] [] c=.ok (nD r) c:=by rw[Mi];exact hc
theorem Yi{one:Nat}{L:D}{r:List Nat}(hn:n<1000) (hc:bO (λ_=>True) (az 0) nY (ak 0) ((θ n).map λj:Nat=>D.int (j:Int)) [η,ζ (.int one),ζ L] [] c=.ok (r.map λj:Nat=>D.int (j:Int)) c) :
  iO [.int n,.int one,L] c=.ok (.tup (nD r)) c:=Yh (Mf hn) (N5 hn) (Yj hc) (ad8 (xj _))
theorem Ye{one:Nat}(hk:lams[k]? = ζ (E,ns,m)) (hl:dZ l=ξ) (hn:n<1000) (hm:∀j,j<n->j≠one->m ([.int one,.int j]++l) c=.ok (.bl (f one j)) c) :
  iO [.int n,.int one,.lam k E ns l] c=.ok (.tup (nD (gQ n f one))) c:=by
 have hc:=yf (E:=[ζ (.int one),ζ (.lam k E ns l)]) (t:=nY) (a:=ak 0) (c:=c) (λj:Nat=>D.int (j:Int)) (λj:Nat=>D.int (j:Int)) (λj=>decide (j≠one)&&f one j) (θ n) η [] (λj hj=>Yd hk hl (hm j (apx.mp hj))) (λj _ _=>rfl)
 rw[apS]at hc;exact Yi hn hc
theorem alT{m:List D->aa->R D}{x y z:D}{r:R D}(h:m [x,y,z] c=r):(if[x,y,z].length=3 then m [x,y,z] c else .bad)=r:=by
 rw[if_pos (by rfl)];exact h
theorem Ug{L:D}{w:List (List Nat)}(hn:n<1000) (hc:bO (λ_=>True) (az 0) aJ (aC 3 iO (ao (ak 1) (ao (ak 0) (ao (ak 2) aq)))) (bf 0 (n:Int)) [η,ζ (.int n),ζ L] [] c=.ok (w.map λr=>.tup (nD r)) c):om [.int n,L] c=.ok (aN w) c:=T9 (Mf hn) (N5 hn) hc (vR _)
theorem alK{m:List D->aa->R D}{x y z:D}{r:R D}(h:m [y,x,z] c=r):aC 3 m (ao (ak 1) (ao (ak 0) (ao (ak 2) aq))) [ζ x,ζ y,ζ z] c=r:=by
 simp only[x_call,bJ,bA,gz,gs,bI,R.aA];exact alT h
theorem Ue{i:Nat}{L:D}{r:List Nat}(h:iO [.int n,.int i,L] c=.ok (.tup (nD r)) c):aC 3 iO (ao (ak 1) (ao (ak 0) (ao (ak 2) aq))) [ζ (.int i),ζ (.int n),ζ L] c=.ok (.tup (nD r)) c:=alK h
theorem Uh{L:D}{g:Nat->List Nat}(h:∀i,i<n->iO [.int n,.int i,L] c=.ok (.tup (nD (g i))) c):bO (λ_=>True) (az 0) aJ (aC 3 iO (ao (ak 1) (ao (ak 0) (ao (ak 2) aq)))) (bf 0 (n:Int)) [η,ζ (.int n),ζ L] [] c=.ok (((θ n).map g).map λr=>.tup (nD r)) c:=by
 have hc:=yf (E:=[ζ (.int n),ζ L]) (t:=aJ) (a:=aC 3 iO (ao (ak 1) (ao (ak 0) (ao (ak 2) aq)))) (c:=c) (λj:Nat=>D.int (j:Int)) (λj:Nat=>D.tup (nD (g j))) (λ_=>ξ) (θ n) η [] (λj hj=>rfl) (λi hi _=>Ue (h i (apx.mp hi)))
 have ft:(θ n).filter (λ_=>ξ)=θ n:=by simp
 rw[apS,ft]at hc;rw[apV,Mi];exact hc
theorem KO(hk:lams[k]? = ζ (E,ns,m)) (hl:dZ l=ξ) (hn:n<1000) (hm:∀i j,i<n->j<n->j≠i->m ([.int i,.int j]++l) c=.ok (.bl (f i j)) c) :
  om [.int n,.lam k E ns l] c=.ok (aN (b7 n f)) c:=Ug hn (Uh λi hi=>Ye hk hl hn λj hj hne=>hm i j hi hj hne)
end
theorem RI{kk:Nat}{m:List D->aa->R D}{d1:af}{E:ο}{ns:List Str}{js:List Nat}{e:Ev}{c:aa}{x v:D}{l:List D}(h1:d1 e c=.ok x c) (hg:getAll e js=ζ l) (h2:m [x,.lam kk E ns l] c=.ok v c) (hv:noRef v=ξ):yt kk m d1 E ns js e c=.ok v c:=by
 unfold yt;rw[h1];simp only[R.aA];rw[hg];dsimp only;rw[h2];simp only[R.aA];rw[if_pos hv]
theorem MJ{α:Type}{a:af}{c:aa}(g h F:α->D):∀(l:List α) (v w:Option D) (acc:List D),(∀x∈l,a [ζ (g x),ζ (h x)] c=.ok (F x) c)->bO (λ_=>True) (eG 2 (cu (az 0) (cu (az 1) eO))) aJ a (l.map λx=>.tup [g x,h x]) [v,w] acc c=.ok (acc++l.map F) c
 |[],v,w,acc,_=>by simp
 |x::l,v,w,acc,H=>by
  have h1:eG 2 (cu (az 0) (cu (az 1) eO)) (.tup [g x,h x]) [v,w] c=.ok [ζ (g x),ζ (h x)] c:=rfl;rw[apE,kg,h1,R.aA,nL,R.aA,if_pos rfl,H x (.head _),R.aA,MJ g h F l _ _ _ (λz hz=>H z (.tail _ hz)),ap9]
  rfl
theorem ame(l:List Bool) (c:aa):yH [.lst (l.map D.bl)] c=.ok (.bl (l.any id)) c:=by
 unfold yH qd;dsimp only;rw[JW]
def yI(p q:List Nat):Bool:=(p.zip q).any λa=>decide (a.1=a.2)
theorem Ky:∀(p q:List Nat),List.zipWith (λx y=>D.tup [x,y]) (nD p) (nD q)=(p.zip q).map λa=>D.tup [.int (a.1:Nat),.int (a.2:Nat)]
 |[],q=>by simp[nD]
 |a::p,[]=>by simp[nD]
 |a::p,b::q=>by
  have:=Ky p q;unfold nD at this ⊢;simp only[apE,atO,ar1]at this ⊢;rw[this]
theorem anc(p q:List Nat) (c:aa):bO (λ_=>True) (eG 2 (cu (az 0) (cu (az 1) eO))) aJ (au cB (ak 0) (ak 1)) (List.zipWith (λx y=>D.tup [x,y]) (nD p) (nD q)) [η,η] [] c=.ok (((p.zip q).map λa=>decide ((a.1:Int)=(a.2:Int))).map D.bl) c:=by
 have:=MJ (a:=(au cB (ak 0) (ak 1))) (c:=c) (λa:Nat×Nat=>D.int (a.1:Nat)) (λa=>.int (a.2:Nat)) (λa=>.bl (decide ((a.1:Int)=(a.2:Int)))) (p.zip q) η η [] (λa _=>by
  generalize ((a.1:Nat):Int)=x
  generalize ((a.2:Nat):Int)=y
  simp)
 rw[apS,<-Ky]at this;rw[this,apV];rfl
def gZ(n:Nat) (ss:List (Nat->Nat->Nat)) (i:Nat):List Nat:=[i/n,i % n]++ss.map λs=>s (i/n) (i % n)
theorem Ed(n:Nat) (ss:List (Nat->Nat->Nat)) (i:Nat):(gZ n ss i).length=ss.length+2:=by simp[gZ]
theorem ae1(l:List Nat):bN (nD l)=ξ:=iz.mpr λd hd=>by
 obtain⟨k,_,rfl⟩:=apv.mp hd;rfl
theorem afr{n:Nat}{ss:List (Nat->Nat->Nat)}(H:Net n ss) {i:Nat}(hi:i<n*n) {N I:Int}(hN:N=n) (hI:I=i) (c:aa):xD [.int N,.lst (aR n ss),.int I] c=.ok (.lst (nD (gZ n ss i))) c:=by
 have sz:=lC;have n2:=H.two;have n7:=H.iw;have hf:=H.few;refine jy (n:=3) (b:=qR) ?_ (by unfold noRef;exact ae1 _) (λk h=>by cases h)
 unfold qR;rw[show cT 3 [D.int N,.lst (aR n ss),.int I]=[ζ (.int N),ζ (.lst (aR n ss)),ζ (.int I)]from rfl]
 refine lE ?_;have xX:gi (.int I) (.int N) c=.ok (.int (((i/n:Nat)):Int)) c:=by
  rw[qE c (by omega) (by omega),hI,hN]
  rfl
 have hmd:ck (.int I) (.int N) c=.ok (.int (((i % n:Nat)):Int)) c:=by
  rw[jW c (by omega),hI,hN]
  rfl
 have t2:(2:Nat)<=ι:=by omega
 have h1:cy (ao (au gi (ak 2) (ak 0)) (ao (au ck (ak 2) (ak 0)) aq)) [ζ (.int N),ζ (.lst (aR n ss)),ζ (.int I)] c=.ok (.lst [.int (((i/n:Nat)):Int),.int (((i % n:Nat)):Int)]) c:=by
  simp[xX,hmd,t2]
 have hc:=oB (E:=[ζ (.int I)]) (a:=aC 2 gX (ao (ak 0) (ao (ak 1) aq))) (c:=c) (aU n) (λs=>D.int (s (i/n) (i % n):Nat)) ss η [] (λs hs=>ji (m:=gX) (d1:=ak 0) (d2:=ak 1) rfl rfl (C4 s (by omega) n7 hi hI c))
 rw[apS]at hc;have h2:aS (dj (ak 1)) [η,ζ 2] (az 0) aJ (aC 2 gX (ao (ak 0) (ao (ak 1) aq))) [ζ (.int N),ζ (.lst (aR n ss)),ζ (.int I)] c=.ok (.lst (ss.map λs=>D.int (s (i/n) (i % n):Nat))) c:=by
  have hs:dj (ak 1) [ζ (.int N),ζ (.lst (aR n ss)),ζ (.int I)] c=.ok ⟨ss.map (aU n),λ_=>True⟩ c:=rfl
  rw[er,hs,R.aA];dsimp only;rw[if_pos (by simp;omega),show dB [η,ζ 2] [ζ (.int N),ζ (.lst (aR n ss)),ζ (.int I)]=[η,ζ (.int I)]from rfl,hc,R.aA]
 refine gj (f:=fu) h1 h2 ?_;unfold fu;dsimp only[d7];rw[if_pos (by simp;omega)]
 simp[gZ,nD]
theorem anb{p q:List Nat}(hp:p.length<1000) (c:aa):Aq [.lst (nD p),.lst (nD q)] c=.ok (.bl (yI p q)) c:=by
 have sz:=lC;refine jy (n:=2) (b:=rm) ?_ rfl (λk h=>by cases h)
 unfold rm;rw[show cT 2 [D.lst (nD p),.lst (nD q)]=[ζ (.lst (nD p)),ζ (.lst (nD q))]from rfl]
 refine lE ?_;have hd:qF (ao (ak 0) (ao (ak 1) aq)) [ζ (.lst (nD p)),ζ (.lst (nD q))] c=.ok ⟨List.zipWith (λx y=>D.tup [x,y]) (nD p) (nD q),λ_=>True⟩ c:=by
  have:qF (ao (ak 0) (ao (ak 1) aq)) [ζ (.lst (nD p)),ζ (.lst (nD q))] c=.ok ⟨List.zipWith (λx y=>D.tup [x,y]) (nD p) (nD q),λc'=>kB c (.lst (nD p)) c'/\kB c (.lst (nD q)) c'⟩ c:=rfl
  rw[this];have h:(λc'=>kB c (.lst (nD p)) c'/\kB c (.lst (nD q)) c')=λ_=>True:=by
   funext c'
   simp[kB]
  rw[h]
 simp only[fK,bJ,er,hd,bI,R.aA];rw[if_pos (by simp[nD];omega),show dB [η,η] [ζ (D.lst (nD p)),ζ (.lst (nD q))]=[η,η]from rfl,anc]
 simp only[R.aA,ame];unfold yI;rw[atV]
 congr 3
 funext a
 simp;omega
def bS(n:Nat) (ss:List (Nat->Nat->Nat)):Nat->Nat->Bool:=λi j=>yI (gZ n ss i) (gZ n ss j)
theorem Nz{n:Nat}{ss:List (Nat->Nat->Nat)}(H:Net n ss) {N:Int}(hN:N=n) (c:aa):kN [.int N,.lst (aR n ss)] c=.ok (aN (b7 (n*n) (bS n ss))) c:=by
 have n2:=H.two;have n7:=H.iw;have hf:=H.few;have nn:n*n<100:=aqL (arH n7 n7) (by decide)
 obtain⟨Q,hQ⟩:∃Q:Int,Q=((n*n:Nat):Int):=⟨_,rfl⟩;have hmul:aW (.int N) (.int N) c=.ok (.int Q) c:=NQ (by omega) (by omega) (by rw[hQ,hN];push_cast;rfl) c
 have e0:eL (aC 2 kM (ao (ak 0) (ao (ak 1) aq))) [ζ (.int N),ζ (.lst (aR n ss)),η] c=.ok (.nx [ζ (.int N),ζ (.lst (aR n ss)),η]) c:=by
  rw[ko,ji (m:=kM) (d1:=ak 0) (d2:=ak 1) rfl rfl (Mm H hN c)];rfl
 have e1:aG 2 (aS (bg (ao (au aW (ak 0) (ak 0)) aq)) [η,ζ 0,ζ 1] (az 0) aJ (aC 3 xD (ao (ak 1) (ao (ak 2) (ao (ak 0) aq))))) [ζ (.int N),ζ (.lst (aR n ss)),η] c=.ok (.nx [ζ (.int N),ζ (.lst (aR n ss)),ζ (.lst ((θ (n*n)).map λi=>D.lst (nD (gZ n ss i))))]) c :=
  iY (i:=2) (uA (N:=Q) (n:=n*n) (E:=[ζ (.int N),ζ (.lst (aR n ss))]) (λi=>D.lst (nD (gZ n ss i))) (gj (f:=aW) (d1:=ak 0) (d2:=ak 0) rfl rfl hmul) hQ (by omega) rfl λi hi=>B6 (m:=xD) (d1:=ak 1) (d2:=ak 2) (d3:=ak 0) rfl rfl rfl (afr H hi hN rfl c))
 have hnl:dZ [D.lst ((θ (n*n)).map λi=>D.lst (nD (gZ n ss i)))]=ξ:=by
  have a:∀l:List Nat,dZ (l.map λi=>D.lst (nD (gZ n ss i)))=ξ:=λl=>by
   induction l with
   |nil=>rfl
   |cons x l ih =>
    have b:∀r:List Nat,dZ (nD r)=ξ:=λr=>by
     induction r with
     |nil=>rfl
     |cons y r ih=>simpa[dZ,eX]using ih
    simp only[apE,dZ,eX,b,ih,asE]
  simp only[dZ,eX,a,asE]
 have hw:=KO (k:=1) (n:=n*n) (E:=Co) (ns:=["lines"]) (l:=[D.lst ((θ (n*n)).map λi=>D.lst (nD (gZ n ss i)))]) (m:=oF qz) (c:=c) (f:=bS n ss) rfl hnl (by omega) (λi j hi hj _=>by
  unfold oF qz;have r:∀k,k<n*n->((θ (n*n)).map λi=>D.lst (nD (gZ n ss i)))[k]? = ζ (.lst (nD (gZ n ss k))):=λk hk=>by rw[apM,aqr hk];rfl
  exact ji (m:=Aq) (gj (f:=aE) (d1:=ak 2) (d2:=ak 0) rfl rfl (xN rfl (r i hi) c)) (gj (f:=aE) (d1:=ak 2) (d2:=ak 1) rfl rfl (xN rfl (r j hj) c)) (anb (by rw[Ed];omega) c))
 rw[<-hQ]at hw;refine jy (n:=3) (b:=qP) ?_ (vR _) (λk h=>by cases h)
 unfold qP;rw[show cT 3 [D.int N,.lst (aR n ss)]=[ζ (.int N),ζ (.lst (aR n ss)),η]from rfl,bL e0,bL e1]
 exact lE (RI (gj (f:=aW) (d1:=ak 0) (d2:=ak 0) rfl rfl hmul) rfl hw (vR _))
def sm:Nat->(Nat->Nat)->Nat
 |0,_=>0
 |n+1,f=>sm n f+f n
theorem fB{f g:Nat->Nat}:∀{n:Nat},(∀i,i<n->f i=g i)->sm n f=sm n g
 |0,_=>rfl
 |n+1,h=>by rw[sm,sm,fB (n:=n) λi hi=>h i (by omega),h n (by omega)]
theorem rQ(f g:Nat->Nat):∀n:Nat,sm n (λi=>f i+g i)=sm n f+sm n g
 |0=>rfl
 |n+1=>by rw[sm,sm,sm,rQ f g n];omega
theorem p9(a:Nat):∀n:Nat,sm n (λ_=>a)=n*a
 |0=>by simp[sm]
 |n+1=>by rw[sm,p9 a n,aqx]
theorem wu(f:Nat->Nat->Nat) (n:Nat):∀m:Nat,sm m (λi=>sm n (f i))=sm n (λk=>sm m (λi=>f i k))
 |0=>by simp only[sm];rw[p9];rfl
 |m+1=>by rw[sm,wu f n m,<-rQ];rfl
theorem jN(a b:Nat):∀{n t:Nat},t<n->sm n (λi=>if i=t then a else b)=a+(n-1)*b
 |0,t,h=>by omega
 |n+1,t,h=>by
  rw[sm]
  by_cases e:t=n
  ·subst e;rw[fB (g:=λ_=>b) λi hi=>if_neg (by omega),p9,if_pos rfl]
   simp[arP]
  ·have hn:t<n:=by omega
   rw[jN a b hn,if_neg (by omega)]
   obtain⟨k,rfl⟩:∃k,n=k+1:=⟨n-1,by omega⟩
   simp[Nat.add_assoc,aqx]
theorem Wb{n t u:Nat}(ht:t<n) (hu:u<n) (h:t≠u):sm n (λi=>if i=t then 0 else if i=u then 0 else 1)=n-2:=by
 have h1:sm n (λi=>(if i=t then 0 else if i=u then 0 else 1)+(if i=u then 1 else 0))=n-1:=by
  rw[fB (g:=λi=>if i=t then 0 else 1),jN 0 1 ht]
  ·omega
  ·intro i _
   by_cases a:i=t
   ·have:i≠u:=by omega
    simp[a,h]
   ·by_cases b:i=u<;>simp[a,b]
    exact λe=>h e.symm
 rw[rQ,jN 1 0 hu]at h1;omega
theorem zv(p:Nat->Bool):∀n:Nat,((θ n).filter p).length=sm n (λi=>(p i).toNat)
 |0=>rfl
 |n+1=>by
  rw[aqY,List.filter_append,ap5,zv p n,sm];cases h:p n<;>simp[h]
structure OA (n g:Nat) (l:Nat->Nat->Nat):Prop where
 lt:∀t i,t<g->i<n*n->l t i<n
 inj:∀t u i j,t<g->u<g->t≠u->i<n*n->j<n*n->l t i=l t j->l u i=l u j->i=j
theorem OA.one{n g:Nat}{l:Nat->Nat->Nat}(h:OA n g l) {t u a b:Nat}(ht:t<g) (hu:u<g) (ne:t≠u) (ha:a<n) (hb:b<n):∃i,i<n*n/\l t i=a/\l u i=b:=by
 have NV:∀x y,x<n->y<n->n*x+y<n*n:=λx y hx hy=>by
  have:n*(x+1)<=n*n:=au5 n (by omega)
  rw[asO,ar6]at this;omega
 have cut:∀x y x' y',y<n->y'<n->n*x+y=n*x'+y'->x=x'/\y=y':=λx y x' y' hy hy' e=>by
  have h0:0<n:=by omega
  have e1:(n*x+y)/n=x:=by rw[asM h0,asN hy];rfl
  have e2:(n*x'+y')/n=x':=by rw[asM h0,asN hy'];rfl
  have:x=x':=by rw[<-e1,<-e2,e]
  subst this;exact⟨rfl,by omega⟩
 have hp:((θ (n*n)).map λi=>n*l t i+l u i).Perm (θ (n*n)):=by
  apply tS
  ·apply Nk;intro i j hi hj e;have:=cut _ _ _ _ (h.lt u i hu hi) (h.lt u j hu hj) e;exact h.inj t u i j ht hu ne hi hj this.1 this.2
  ·intro x hx;obtain⟨i,hi,rfl⟩:=apv.mp hx;have hi:=apx.mp hi;exact apx.mpr (NV _ _ (h.lt t i ht hi) (h.lt u i hu hi))
  ·simp
 have hm:n*a+b∈(θ (n*n)).map λi=>n*l t i+l u i:=hp.mem_iff.mpr (apx.mpr (NV _ _ ha hb))
 obtain⟨i,hi,e⟩:=apv.mp hm;have hi:=apx.mp hi;have:=cut _ _ _ _ (h.lt u i hu hi) hb e;exact⟨i,hi,this.1,this.2⟩
theorem toNat_and(a b:Bool):(a&&b).toNat=a.toNat*b.toNat:=by cases a<;>cases b<;>rfl
theorem zu{N i:Nat}(hi:i<N) {p:Nat->Bool}(h:∀k,k<N->(p k=ξ↔k=i)):sm N (λk=>(p k).toNat)=1:=by
 rw[fB (g:=λk=>if k=i then 1 else 0),jN 1 0 hi,Nat.mul_zero]
 intro k hk
 by_cases e:k=i
 ·rw[if_pos e,(h k hk).mpr e];rfl
 ·rw[if_neg e];cases q:p k with
  |true=>exact absurd ((h k hk).mp q) e
  |false=>rfl
theorem wz{N:Nat}{p:Nat->Bool}(h:∀k,k<N->p k=Δ):sm N (λk=>(p k).toNat)=0:=by
 rw[fB (g:=λ_=>0) λk hk=>by rw[h k hk];rfl,p9,Nat.mul_zero]
theorem OA.line{n g:Nat}{l:Nat->Nat->Nat}(h:OA n g l) (g2:2<=g) {t a:Nat}(ht:t<g) (ha:a<n):sm (n*n) (λi=>(decide (l t i=a)).toNat)=n:=by
 obtain⟨u,hu,ne⟩:∃u,u<g/\t≠u:=by
  by_cases e:t=0
  ·exact⟨1,by omega,by omega⟩
  ·exact⟨0,by omega,by omega⟩
 have e1:sm (n*n) (λi=>(decide (l t i=a)).toNat)=sm (n*n) (λi=>sm n (λb=>(decide (l t i=a/\l u i=b)).toNat)):=fB λi hi=>by
  by_cases q:l t i=a
  ·rw[zu (h.lt u i hu hi) (p:=λb=>decide (l t i=a/\l u i=b))]
   ·simp[q]
   ·intro k _;simp[q];exact⟨λe=>e.symm,λe=>e.symm⟩
  ·rw[wz (p:=λb=>decide (l t i=a/\l u i=b))]
   ·simp[q]
   ·intro k _;simp[q]
 rw[e1,wu,fB (g:=λ_=>1),p9,ar6]
 intro b hb;obtain⟨i,hi,x,y⟩:=h.one ht hu ne ha hb;refine zu hi λk hk=>?_
 simp only[decide_eq_true_iff];exact⟨λq=>h.inj t u k i ht hu ne hk hi (by rw[q.1,x]) (by rw[q.2,y]),λe=>by subst e;exact⟨x,y⟩⟩
def iy(g:Nat) (l:Nat->Nat->Nat) (i j:Nat):Bool:=decide (j≠i)&&(θ g).any λt=>decide (l t i=l t j)
theorem OA.CT{n g:Nat}{l:Nat->Nat->Nat}(h:OA n g l) {i j:Nat}(hi:i<n*n) (hj:j<n*n):(iy g l i j).toNat=sm g (λt=>(decide (j≠i)&&decide (l t i=l t j)).toNat):=by
 unfold iy
 by_cases e:j=i
 ·rw[wz]
  ·simp[e]
  ·intro k _;simp[e]
 ·cases q:(θ g).any λt=>decide (l t i=l t j)with
  |true =>
   obtain⟨t,ht,q⟩:=aqO.mp q;have ht:=apx.mp ht;have q:=of_decide_eq_true q;rw[zu ht]
   ·simp[e]
   ·intro k hk;simp[e];refine⟨λx=>ary λne=>e (h.inj t k i j ht hk (λy=>ne y.symm) hi hj q x).symm,λy=>by subst y;exact q⟩
  |false =>
   rw[wz]
   ·simp
   ·intro k hk;have:=asQ.mp q k (apx.mpr hk);simp at this;simp[this]
theorem OA.degree{n g:Nat}{l:Nat->Nat->Nat}(h:OA n g l) (g2:2<=g) {i:Nat}(hi:i<n*n):sm (n*n) (λj=>(iy g l i j).toNat)=g*(n-1):=by
 rw[fB λj hj=>h.CT hi hj,wu,fB (g:=λ_=>n-1),p9]
 intro t ht;have e:=h.line g2 ht (h.lt t i ht hi);have e2:sm (n*n) (λj=>(decide (l t j=l t i)).toNat)=sm (n*n) (λj=>(decide (j≠i)&&decide (l t i=l t j)).toNat+(if j=i then 1 else 0)):=fB λj _=>by
  by_cases a:j=i
  ·simp[a]
  ·have:(l t j=l t i)↔(l t i=l t j):=⟨λx=>x.symm,λx=>x.symm⟩
   simp[a,this]
 rw[e2,rQ,jN 1 0 hi]at e;omega
theorem C1(f:Nat->Nat) (a:Nat):∀n:Nat,sm n f*a=sm n λi=>f i*a
 |0=>by simp[sm]
 |n+1=>by rw[sm,sm,atW,C1 f a n]
theorem We(f g:Nat->Nat) (m n:Nat):sm m f*sm n g=sm m λi=>sm n λk=>f i*g k:=by
 rw[C1];refine fB λi _=>?_
 rw[arQ,C1];exact fB λk _=>arQ _ _
def t8(n:Nat) (l:Nat->Nat->Nat) (i j t u:Nat):Nat:=sm (n*n) λe=>(decide (e≠i)&&decide (l t i=l t e)).toNat*(decide (e≠j)&&decide (l u j=l u e)).toNat
theorem OA.QA{n g:Nat}{l:Nat->Nat->Nat}(h:OA n g l) {i j:Nat}(hi:i<n*n) (hj:j<n*n):sm (n*n) (λe=>(iy g l i e&&iy g l j e).toNat)=sm g λt=>sm g λu=>t8 n l i j t u:=by
 have e1:sm (n*n) (λe=>(iy g l i e&&iy g l j e).toNat)=sm (n*n) (λe=>sm g λt=>sm g λu=>(decide (e≠i)&&decide (l t i=l t e)).toNat*(decide (e≠j)&&decide (l u j=l u e)).toNat):=fB λe he=>by
  rw[toNat_and,h.CT hi he,h.CT hj he,We]
 rw[e1,wu];refine fB λt _=>?_
 rw[wu];rfl
theorem Ab{n:Nat}{l:Nat->Nat->Nat}{i j t u:Nat}:t8 n l i j t u=sm (n*n) λe=>(decide (e≠i/\e≠j/\l t e=l t i/\l u e=l u j)).toNat:=fB λe _=>by
 rw[<-toNat_and]
 congr 1
 rw[aqI];simp only[apN,decide_eq_true_iff]
 constructor
 ·rintro ⟨⟨a,b⟩,c,d⟩;exact⟨a,c,b.symm,d.symm⟩
 ·rintro ⟨a,c,b,d⟩;exact⟨⟨a,b.symm⟩,c,d.symm⟩
theorem OA.KD{n g:Nat}{l:Nat->Nat->Nat}(h:OA n g l) {i j t u:Nat}(hi:i<n*n) (hj:j<n*n) (ht:t<g) (hu:u<g) (ne:t≠u) (a:l t i≠l t j) (b:l u i≠l u j):t8 n l i j t u=1:=by
 rw[Ab];obtain⟨e,he,x,y⟩:=h.one ht hu ne (h.lt t i ht hi) (h.lt u j hu hj);refine zu he λk hk=>?_
 simp only[decide_eq_true_iff];refine⟨λq=>h.inj t u k e ht hu ne hk he (by rw[q.2.2.1,x]) (by rw[q.2.2.2,y]),λq=>?_⟩
 subst q;exact⟨λq=>by subst q;exact b y,λq=>by subst q;exact a x.symm,x,y⟩
theorem OA.KC{n g:Nat}{l:Nat->Nat->Nat}(h:OA n g l) {i j t u:Nat}(hi:i<n*n) (hj:j<n*n) (ht:t<g) (hu:u<g) (ne:t≠u) (a:l t i=l t j\/l u i=l u j):t8 n l i j t u=0:=by
 rw[Ab];refine wz λk hk=>?_
 simp only[decide_eq_false_iff_not]
 rintro ⟨k1,k2,x,y⟩
 rcases a with a|a
 ·exact k2 (h.inj t u k j ht hu ne hk hj (by rw[x,a]) y)
 ·exact k1 (h.inj t u k i ht hu ne hk hi x (by rw[y,a]))
theorem M8{n:Nat}{l:Nat->Nat->Nat}{i j t:Nat}(a:l t i≠l t j):t8 n l i j t t=0:=by
 rw[Ab];refine wz λk hk=>?_
 simp only[decide_eq_false_iff_not]
 rintro ⟨_,_,x,y⟩
 exact a (by rw[<-x,y])
theorem OA.TU{n g:Nat}{l:Nat->Nat->Nat}(h:OA n g l) (g2:2<=g) {i j t:Nat}(hi:i<n*n) (hj:j<n*n) (ne:i≠j) (ht:t<g) (a:l t i=l t j):t8 n l i j t t=n-2:=by
 rw[Ab];have e:=h.line g2 ht (h.lt t i ht hi);have e2:sm (n*n) (λk=>(decide (l t k=l t i)).toNat)=sm (n*n) (λk=>(decide (k≠i/\k≠j/\l t k=l t i/\l t k=l t j)).toNat+((if k=i then 1 else 0)+(if k=j then 1 else 0))):=fB λk _=>by
  by_cases x:k=i
  ·have:i≠j:=ne;subst x;simp[this]
  ·by_cases y:k=j
   ·subst y;have:k≠i:=x;simp[a,this]
   ·simp[x,y,a]
 rw[e2,rQ,rQ,jN 1 0 hi,jN 1 0 hj]at e;omega
theorem OA.apart{n g:Nat}{l:Nat->Nat->Nat}(h:OA n g l) {i j:Nat}(hi:i<n*n) (hj:j<n*n) (a:∀t,t<g->l t i≠l t j):sm (n*n) (λe=>(iy g l i e&&iy g l j e).toNat)=g*(g-1):=by
 rw[h.QA hi hj,fB (g:=λ_=>g-1),p9]
 intro t ht;rw[fB (g:=λu=>if u=t then 0 else 1),jN 0 1 ht]
 ·omega
 ·intro u hu
  by_cases e:u=t
  ·subst e;rw[if_pos rfl,M8 (a u ht)]
  ·rw[if_neg e,h.KD hi hj ht hu (λy=>e y.symm) (a t ht) (a u hu)]
theorem OA.UP{n g:Nat}{l:Nat->Nat->Nat}(h:OA n g l) (g2:2<=g) {i j t:Nat}(hi:i<n*n) (hj:j<n*n) (ne:i≠j) (ht:t<g) (a:l t i=l t j):sm (n*n) (λe=>(iy g l i e&&iy g l j e).toNat)=n-2+(g-1)*(g-2):=by
 have cZ:∀u,u<g->u≠t->l u i≠l u j:=λu hu e q=>ne (h.inj u t i j hu ht e hi hj q a)
 rw[h.QA hi hj,fB (g:=λk=>if k=t then n-2 else g-2),jN _ _ ht]
 intro k hk
 by_cases e:k=t
 ·subst e;rw[if_pos rfl,fB (g:=λu=>if u=k then n-2 else 0),jN _ _ hk]
  ·simp
  ·intro u hu
   by_cases e:u=k
   ·subst e;rw[if_pos rfl,h.TU g2 hi hj ne hu a]
   ·rw[if_neg e,h.KC hi hj hk hu (λy=>e y.symm) (.inl a)]
 ·rw[if_neg e,fB (g:=λu=>if u=k then 0 else if u=t then 0 else 1),Wb hk ht e]
  intro u hu
  by_cases x:u=k
  ·subst x;rw[if_pos rfl,M8 (cZ u hu e)]
  ·rw[if_neg x]
   by_cases y:u=t
   ·subst y;rw[if_pos rfl,h.KC hi hj hk hu (λz=>x z.symm) (.inr a)]
   ·rw[if_neg y,h.KD hi hj hk hu (λz=>x z.symm) (cZ k hk e) (cZ u hu y)]
def aZ(p:Nat×Nat):D:=.tup [.int p.1,.int p.2]
theorem Ia:∀l:List Nat,fF (nD l)=ζ (l.map λn:Nat=>PyData.int (n:Int))
 |[]=>rfl
 |n::ns=>by
  show(match eT (.int (n:Int)),fF (nD ns)with|some a,ζ r=>ζ (a::r)|_,_=>η)=_
  rw[Ia ns];rfl
theorem RX(l:List Nat) (k:Nat):((l.map λn:Nat=>PyData.int (n:Int)).any λz=>z.eqv (.int (k:Int)))=decide (k∈l):=by
 rw[atV,aqI,aqO,decide_eq_true_eq];refine⟨fun⟨x,hx,e⟩=>?_,λh=>⟨k,h,?_⟩⟩
 ·have:(x:Int)=(k:Int):=by simpa[PyData.eqv]using e
  have:x=k:=by omega
  exact this▸hx
 ·simp[PyData.eqv]
theorem ad0(l:List Nat) (k:Nat) (c:aa):xh (.int (k:Int)) (.tup (nD l)) c=.ok (.bl (!decide (k∈l))) c:=by
 have h1:fO c (.int (k:Int))=ζ (.int (k:Int)):=rfl;have h2:fO c (.tup (nD l))=ζ (.tuple (l.map λn:Nat=>PyData.int (n:Int))):=by
  show(match fF (nD l)with|some r=>ζ (PyData.tuple r)|none=>η)=_
  rw[Ia]
 unfold xh;rw[h1,h2];dsimp only;rw[if_pos (by simp[PyData.depth]),RX]
theorem agY(l:List Nat) (k:Nat) (c:aa):inD (.int (k:Int)) (.tup (nD l)) c=.ok (.bl (decide (k∈l))) c:=by
 have h1:fO c (.int (k:Int))=ζ (.int (k:Int)):=rfl;have h2:fO c (.tup (nD l))=ζ (.tuple (l.map λn:Nat=>PyData.int (n:Int))):=by
  show(match fF (nD l)with|some r=>ζ (PyData.tuple r)|none=>η)=_
  rw[Ia]
 unfold inD;rw[h1,h2];dsimp only;rw[if_pos (by simp[PyData.depth]),RX]
theorem Ef(w:List (List Nat)) (c:aa):aY [aN w] c=.ok (.int (w.length:Nat)) c:=by
 unfold aN;rw[CN,apC]
theorem uB{w:List (List Nat)}{i:Nat}{r:List Nat}(h:w[i]? = ζ r) (c:aa):aE (aN w) (.int (i:Int)) c=.ok (.tup (nD r)) c:=by
 unfold aN;rw[CO,g8 (v:=.tup (nD r)) (by rw[apM,h];rfl)]
def oj(w:List (List Nat)) (i j:Nat):Bool:=!decide (j∈w.getD i [])
def gn(w:List (List Nat)):List (List Nat):=b7 w.length (oj w)
theorem Nu:∀l:List Nat,dZ (nD l)=ξ
 |[]=>rfl
 |n::l=>by
  show(eX (.int n)&&dZ (nD l))=ξ;rw[Nu l];rfl
theorem ad9(w:List (List Nat)):eX (aN w)=ξ:=by
 unfold aN;show dZ _=ξ
 induction w with
 |nil=>rfl
 |cons r w ih =>
  rw[apE];show(eX (.tup (nD r))&&dZ _)=ξ;rw[ih,Bool.and_true];exact Nu r
theorem abh{w:List (List Nat)}(hn:w.length<1000) (c:aa):qj [aN w] c=.ok (aN (gn w)) c:=by
 have hw:=KO (k:=0) (n:=w.length) (E:=yS) (ns:=["web"]) (l:=[aN w]) (m:=oF oG) (c:=c) (f:=oj w) rfl (by show(eX (aN w)&&dZ [])=ξ;rw[ad9];rfl) hn λi j hi hj hne=>by
  have h1:=uB (apw hi) c;have h2:=ad0 w[i] j c;have e:oj w i j = !decide (j∈w[i]):=by unfold oj;rw[apD,apw hi];rfl
  rw[e];show oG [ζ (.int i),ζ (.int j),ζ (aN w)] c=_;unfold oG;simp only[ez,bA,gz,gs,R.aA,h1];exact h2
 have hb:=RI (kk:=0) (m:=om) (d1:=aF aY (ao (ak 0) aq)) (E:=yS) (ns:=["web"]) (js:=[0]) (e:=[ζ (aN w)]) (by simp only[fK,bJ,bA,gz,bI,R.aA];exact Ef w c) rfl hw (vR _)
 rw[qj,e7];unfold vf;have es:cT 1 [aN w]=[ζ (aN w)]:=rfl;rw[es,gO,hb];simp only[R.aA];show dH Δ c.length (aN (gn w)) c=_;have nr:=vR (gn w);unfold aN at nr ⊢;unfold dH;dsimp only;rw[if_pos nr,aqy]
def iW(i:Nat) (r:List Nat):List (Nat×Nat):=(r.filter λj=>decide (i<j)).map λj=>(i,j)
def dN(w:List (List Nat)):List (Nat×Nat):=(w.mapIdx iW).flatten
theorem UU(i:Nat) (r:List Nat) (v:Option D) (c:aa):bO (λ_=>True) (az 0) (aQ (au jE (ak 1) (ak 0))) (cP (ao (ak 1) (ao (ak 0) aq))) (nD r) [v,ζ (.int i)] [] c=.ok ((iW i r).map aZ) c:=by
 have h2:(2:Nat)<=ι:=eK (by decide)
 have:=yf (E:=[ζ (.int i)]) (t:=(aQ (au jE (ak 1) (ak 0)))) (a:=(cP (ao (ak 1) (ao (ak 0) aq)))) (c:=c) (λj:Nat=>D.int (j:Int)) (λj=>aZ (i,j)) (λj=>decide (i<j)) r v [] (λj _=>by
  by_cases h:i<j
  ·have h':(i:Int)<j:=by omega
   simp[h,h']
  ·have h':¬(i:Int)<j:=by omega
   simp[h,h']) (λj _ _=>by simp[h2,aZ])
 rw[apS]at this;unfold iW;rw[apV];exact this
def wc:ah:=(eL (jg (ak 1) (aS (cL (ak 3)) [η,ζ 2] (az 0) (aQ (au jE (ak 1) (ak 0))) (cP (ao (ak 1) (ao (ak 0) aq))))))
theorem ad6(l:List (Nat×Nat)):bN (l.map aZ)=ξ:=iz.mpr λd hd=>by
 obtain⟨p,_,rfl⟩:=apv.mp hd;rfl
theorem US{i:Nat}{r:List Nat}{acc:List (Nat×Nat)}{c:aa}(a0:Option D) (hr:r.length<1000) (ha:acc.length+1000<1000000) :
  wc [a0,ζ (.ref c.length),ζ (.int i),ζ (.tup (nD r))] (c++[.lst (acc.map aZ)])=.ok (.nx [a0,ζ (.ref c.length),ζ (.int i),ζ (.tup (nD r))]) (c++[.lst ((acc++iW i r).map aZ)]):=by
 have hs:1000000<=ι:=by decide
 have hc:=UU i r η (c++[.lst (acc.map aZ)]);have hl:(iW i r).length<=r.length:=by unfold iW;rw[apC];exact atX _ _
 have hd:aS (cL (ak 3)) [η,ζ 2] (az 0) (aQ (au jE (ak 1) (ak 0))) (cP (ao (ak 1) (ao (ak 0) aq))) [a0,ζ (.ref c.length),ζ (.int i),ζ (.tup (nD r))] (c++[.lst (acc.map aZ)])=.ok (.lst ((iW i r).map aZ)) (c++[.lst (acc.map aZ)]):=by
  simp only[er,zd,bA,gz,gs,R.aA];rw[if_pos (by simp[nD];omega)]
  have ep:dB [η,ζ 2] [a0,ζ (D.ref c.length),ζ (.int i),ζ (.tup (nD r))]=[η,ζ (.int i)]:=rfl;rw[ep,hc];rfl
 have hx:jg (ak 1) (aS (cL (ak 3)) [η,ζ 2] (az 0) (aQ (au jE (ak 1) (ak 0))) (cP (ao (ak 1) (ao (ak 0) aq)))) [a0,ζ (.ref c.length),ζ (.int i),ζ (.tup (nD r))] (c++[.lst (acc.map aZ)])=.ok .aH (c++[.lst ((acc++iW i r).map aZ)]):=by
  unfold jg;simp only[bA,gz,gs,R.aA,hd];have hg:(c++[Cell.lst (acc.map aZ)])[c.length]? = ζ (.lst (acc.map aZ)):=by simp
  rw[hg];dsimp only;rw[if_pos ⟨by simp only[apC];omega,ad6 _⟩]
  simp
 unfold wc;rw[ko,hx];rfl
theorem UQ(w:List (List Nat)) {i:Nat}(h:i<w.length):dN (w.take i)++iW i w[i]=dN (w.take (i+1)):=by
 unfold dN;rw[arW h,List.mapIdx_append,List.flatten_append];simp[asK (aqG h)]
theorem LK{m:Nat}:∀{l:List Nat},(∀x∈l,x<=m)->l.sum<=l.length*m
 |[],_=>by simp
 |x::l,h=>by
  have h1:=h x (.head _);have h2:=LK λy hy=>h y (.tail _ hy)
  rw[List.sum_cons,apL,aqx];omega
theorem UN(w:List (List Nat)) (m:Nat) (h:∀r∈w,r.length<=m):(dN w).length<=w.length*m:=by
 unfold dN;rw[List.length_flatten];have:∀x∈(w.mapIdx iW).map List.length,x<=m:=λx hx=>by
  obtain⟨l,hl,rfl⟩:=apv.mp hx;obtain⟨i,hi,rfl⟩:=ar5.mp hl;refine apW ?_ (h _ (apR hi));unfold iW;rw[apC];exact atX _ _
 have:=LK this
 simpa using this
theorem Ll{w:List (List Nat)}(hw:w.length<64) (hr:∀r∈w,r.length<=64) (c:aa):lP [aN w] c=.ok (.lst ((dN w).map aZ)) c:=by
 have hf:=oY (α:=Option D×Option D) (st:=λ_=>True) (g:=eG 2 (cu (az 2) (cu (az 3) eO))) (s:=wc) (λi=>c++[.lst ((dN (w.take i)).map aZ)]) (λ_ v=>[ζ (aN w),ζ (.ref c.length),v.1,v.2]) ((w.map λr=>D.tup (nD r)).mapIdx λi x=>.tup [.int i,x]) 0 (η,η) (λ_ _=>trivial) (λi x hx v=>by
  rw[ap0];have hi:i<w.length:=by have:=(apK.mp hx).1;simpa using this
  have ex:x=.tup [.int i,.tup (nD w[i])]:=by
   rw[as6,apM,apw hi]at hx;cases hx;rfl
  subst ex;have hl:=UN (w.take i) 64 λr h=>hr r (apZ h)
  have h3:(w.take i).length*64<=64*64:=arH (by rw[aqv];omega) (aps _)
  have hs:=US (i:=i) (r:=w[i]) (acc:=dN (w.take i)) (c:=c) (ζ (aN w)) (by have:=hr _ (apR hi);omega) (by omega)
  rw[UQ w hi]at hs;exact⟨_,by simp,(ζ (.int i),ζ (.tup (nD w[i]))),hs⟩)
 obtain⟨v',hf⟩:=hf;have Gy:((w.map λr=>D.tup (nD r)).mapIdx λi x=>D.tup [.int i,x]).length=w.length:=by simp
 rw[ap0,Gy,aqy]at hf;have e0:dN (w.take 0)=[]:=rfl;rw[e0,asV]at hf;have hb:u5=aD (aG 1 (ff aq)) (aD (bQ (l9 (ao (ak 0) aq)) (eG 2 (cu (az 2) (cu (az 3) eO))) wc) (aM (ak 1))):=rfl;have h0:(0:Nat)<=ι:=aqm _;rw[lP,e7,hb];have es:cT 4 [aN w]=[ζ (aN w),η,η,η]:=rfl;have e1:aG 1 (ff aq) [ζ (aN w),η,η,η] c=.ok (.nx [ζ (aN w),ζ (.ref c.length),η,η]) (c++[.lst []]):=by simp
 have e2:bQ (l9 (ao (ak 0) aq)) (eG 2 (cu (az 2) (cu (az 3) eO))) wc [ζ (aN w),ζ (.ref c.length),η,η] (c++[.lst []])=.ok (.nx [ζ (aN w),ζ (.ref c.length),v'.1,v'.2]) (c++[.lst ((dN w).map aZ)]):=by
  rw[fJ];unfold l9;simp only[bJ,bA,gz,bI,R.aA];exact hf
 rw[es,bL e1,bL e2];simp only[gO,bA,gz,gs,R.aA];show dH Δ c.length (.ref c.length) (c++[.lst ((dN w).map aZ)])=_;simp[dH]
structure Wk (w:List (List Nat)):Prop where
 len:w.length<64
 row:∀r∈w,Up r/\∀x∈r,x<w.length
theorem Wk.short{w:List (List Nat)}(h:Wk w) {r:List Nat}(hr:r∈w):r.length<=w.length:=K2 (h.row r hr).1 (h.row r hr).2
def fY(w:List (List Nat)) (p:Nat×Nat):Nat:=pF (w.getD p.1 []) (w.getD p.2 [])
theorem NN{w:List (List Nat)}(h:Wk w) {r:List Nat}(hr:r∈w) (c:aa):jD c (.tup (nD r))=ζ r:=by
 obtain⟨h1,h2⟩:=h.row r hr;have hl:=h.len;have:=K2 (nN r) (m:=w.length) (λx hx=>h2 x (kL.mp hx))
 exact DW (by omega) λx hx=>by have:=h2 x hx;omega
theorem afw{a b:aj}{e:Ev}{c:aa}{x y:D}{ns ms:List Nat}(ha:a e c=.ok [x] c) (hb:b e c=.ok [y] c) (hx:jD c x=ζ ns) (hy:jD c y=ζ ms):uV a b e c=.ok (.int (pF ns ms:Nat)) c:=by
 unfold uV;rw[ha];simp only[R.aA];rw[hx];dsimp only;rw[hb];simp only[R.aA];rw[hy]
theorem Qz{w:List (List Nat)}(h:Wk w) {a b:Nat}(ha:a<w.length) (hb:b<w.length) (c:aa):oA [aN w,.int a,.int b] c=.ok (.int (fY w (a,b):Nat)) c:=by
 have h1:=uB (apw ha) c;have h2:=uB (apw hb) c;have e:uV (ao (au aE (ak 0) (ak 1)) aq) (ao (au aE (ak 0) (ak 2)) aq) [ζ (aN w),ζ (.int a),ζ (.int b)] c=.ok (.int (pF w[a] w[b]:Nat)) c :=
  afw (x:=.tup (nD w[a])) (y:=.tup (nD w[b])) (by simp only[bJ,ez,bA,gz,gs,bI,R.aA,h1]) (by simp only[bJ,ez,bA,gz,gs,bI,R.aA,h2]) (NN h (apR ha) c) (NN h (apR hb) c)
 have e2:fY w (a,b)=pF w[a] w[b]:=by
  unfold fY;rw[apD,apD,apw ha,apw hb];rfl
 rw[oA,e7];unfold vH;have es:cT 3 [aN w,.int a,.int b]=[ζ (aN w),ζ (.int a),ζ (.int b)]:=rfl;rw[es,gO,e,e2];simp[dH,noRef]
def jO(w:List (List Nat)):Option Nat:=w.findIdx? λr=>decide (r.length≠(w.getD 0 []).length)
def fT:Option Nat->D
 |some i=>.int (i:Nat)
 |none=>.aH
def wK:ah:=(bU (aQ (au fD (aF aY (ao (ak 2) aq)) (aF aY (ao (au aE (ak 0) (dC (.int 0))) aq)))) (aM (ak 1)) b8)
theorem aal{W:D}{r r0:List Nat}{i:Nat}{c:aa}(h0:aE W (.int 0) c=.ok (.tup (nD r0)) c):wK [ζ W,ζ (.int i),ζ (.tup (nD r))] c=if r.length≠r0.length then .ok (.rt (.int i)) c else .ok (.nx [ζ W,ζ (.int i),ζ (.tup (nD r))]) c:=by
 have l1:(nD r).length=r.length:=by simp[nD]
 have l0:(nD r0).length=r0.length:=by simp[nD]
 unfold wK
 by_cases e:r.length=r0.length
 ·simp[h0,l1,l0,e]
 ·have e':¬((r.length:Int)=(r0.length:Int)):=by omega
  simp[h0,l1,l0,e,e']
theorem Mx{W:D}{r0:List Nat}{c:aa}(h0:aE W (.int 0) c=.ok (.tup (nD r0)) c):∀(w:List (List Nat)) (k:Nat) (v1 v2:Option D),∃u1 u2,dR (λ_=>True) (eG 2 (cu (az 1) (cu (az 2) eO))) wK ((w.map λr=>D.tup (nD r)).mapIdx λi x=>.tup [.int ((k+i:Nat):Int),x]) [ζ W,v1,v2] c =
  (match w.findIdx? λr=>decide (r.length≠r0.length)with|some i=>.ok (.rt (.int ((k+i:Nat):Int))) c|none=>.ok (.nx [ζ W,u1,u2]) c)
 |[],k,v1,v2=>⟨v1,v2,by simp⟩
 |r::w,k,v1,v2=>by
  have hg:eG 2 (cu (az 1) (cu (az 2) eO)) (.tup [.int ((k+0:Nat):Int),.tup (nD r)]) [ζ W,v1,v2] c=.ok [ζ W,ζ (.int ((k+0:Nat):Int)),ζ (.tup (nD r))] c:=rfl;have hs:=aal (i:=k+0) (r:=r) h0;rw[apE,List.mapIdx_cons,l6,hg,R.aA,hs,List.findIdx?_cons]
  by_cases e:r.length=r0.length
  ·obtain⟨u1,u2,ih⟩:=Mx h0 w (k+1) (ζ (.int ((k+0:Nat):Int))) (ζ (.tup (nD r)));refine⟨u1,u2,?_⟩;rw[if_neg (by simp[e])]
   simp only[R.aA];have e1:((w.map λr=>D.tup (nD r)).mapIdx λi x=>D.tup [.int ((k+(i+1):Nat):Int),x])=((w.map λr=>D.tup (nD r)).mapIdx λi x=>D.tup [.int ((k+1+i:Nat):Int),x]):=by
    congr 1;funext i x;congr 4;omega
   rw[e1,ih];simp only[e,ne_eq,not_true_eq_false,decide_false];cases w.findIdx? λr=>decide (r.length≠r0.length)with
   |none=>rfl
   |some i =>
    simp only[Option.map_some]
    congr 4;omega
  ·refine⟨η,η,?_⟩;rw[if_pos (by simpa using e)]
   simp only[R.aA];simp[e]
theorem aaj{w:List (List Nat)}(h0:0<w.length) (c:aa):ux [aN w] c=.ok (fT (jO w)) c:=by
 have hi:aE (aN w) (.int 0) c=.ok (.tup (nD (w.getD 0 []))) c:=by
  have:=uB (apw h0) c;rw[apD,apw h0];exact this
 obtain⟨u1,u2,hf⟩:=Mx hi w 0 η η;simp only[ap0]at hf;have e2:bQ (l9 (ao (ak 0) aq)) (eG 2 (cu (az 1) (cu (az 2) eO))) wK [ζ (aN w),η,η] c=(match jO w with|some i=>.ok (.rt (.int (i:Int))) c|none=>.ok (.nx [ζ (aN w),u1,u2]) c):=by
  rw[fJ];unfold l9;simp only[bJ,bA,gz,bI,R.aA];exact hf
 have hb:vF=aD (bQ (l9 (ao (ak 0) aq)) (eG 2 (cu (az 1) (cu (az 2) eO))) wK) (aM (dC .aH)):=rfl;rw[ux,e7,hb];have es:cT 3 [aN w]=[ζ (aN w),η,η]:=rfl;rw[es,iG,e2];cases jO w with
 |none=>simp[fT,dH,noRef]
 |some i=>simp[fT,dH,noRef]
def iK(w:List (List Nat)):List (Nat×Nat)->Option Nat
 |[]=>η
 |p::_=>ζ (fY w p)
def vL(w:List (List Nat)) (ps:List (Nat×Nat)):Prop:=∀p∈ps,p.1<w.length/\p.2<w.length
theorem MM(o:Option Nat):noRef (fT o)=ξ/\∀k,fT o≠.ref k:=by
 cases o<;>exact⟨rfl,λk h=>by cases h⟩
theorem Gh(p:Nat×Nat) (c:aa):aE (aZ p) (.int 0) c=.ok (.int p.1) c:=rfl
theorem Gg(p:Nat×Nat) (c:aa):aE (aZ p) (.int 1) c=.ok (.int p.2) c:=rfl
theorem C5{w:List (List Nat)}(h:Wk w) {ps:List (Nat×Nat)}(hp:vL w ps) (c:aa):jY [aN w,.lst (ps.map aZ)] c=.ok (fT (iK w ps)) c:=by
 rw[jY];refine jy ?_ (MM _).1 (MM _).2;have es:cT 2 [aN w,.lst (ps.map aZ)]=[ζ (aN w),ζ (.lst (ps.map aZ))]:=rfl;rw[es];unfold vc;cases ps with
 |nil=>simp[rK,d7,fS,iK,fT]
 |cons p ps =>
  have h1:aE (.lst ((p::ps).map aZ)) (.int 0) c=.ok (aZ p) c:=by
   have:=g8 (xs:=(p::ps).map aZ) (j:=0) (v:=aZ p) rfl;rw[rG];exact(by rw[show((0:Int))=((0:Nat):Int)from rfl,this])
  obtain⟨p1,p2⟩:=hp p (.head _);have hc:=B6 (m:=oA) (d1:=ak 0) (d2:=au aE (au aE (ak 1) (dC (.int 0))) (dC (.int 0))) (d3:=au aE (au aE (ak 1) (dC (.int 0))) (dC (.int 1))) (e:=[ζ (aN w),ζ (.lst ((p::ps).map aZ))]) (c:=c) rfl (by simp only[ez,bA,iH,gz,gs,R.aA,h1,Gh]) (by simp only[ez,bA,iH,gz,gs,R.aA,h1,Gg]) (Qz h p1 p2 c)
  have ht:BX (ak 1) [ζ (aN w),ζ (.lst ((p::ps).map aZ))] c=.ok ξ c:=by simp[rK,d7,fS]
  rw[gO,T3,ht];simp only[R.aA];rw[if_pos trivial,hc];rfl
def vU:ah:=(bU (aQ (au fD (aC 3 oA (ao (ak 0) (ao (au aE (ak 3) (dC (.int 0))) (ao (au aE (ak 3) (dC (.int 1))) aq)))) (ak 2))) (aM (ak 3)) b8)
def lA(w:List (List Nat)) (s:Nat) (ps:List (Nat×Nat)):Option (Nat×Nat):=ps.find? λp=>decide (fY w p≠s)
theorem ag0{d2:af}{e:Ev}{c:aa}{a s:Nat}{t u:ah}{d1:af}(h1:d1 e c=.ok (.int (a:Int)) c) (h2:d2 e c=.ok (.int (s:Int)) c):bU (aQ (au fD d1 d2)) t u e c=if a≠s then t e c else u e c:=by
 by_cases q:a=s
 ·subst q;simp[h1,h2]
 ·have q':¬((a:Int)=s):=by omega
  simp[h1,h2,q,q']
theorem Uq{w:List (List Nat)}(h:Wk w) {p:Nat×Nat}(hp:p.1<w.length/\p.2<w.length) {s:Nat}(a1:Option D) (c:aa):vU [ζ (aN w),a1,ζ (.int s),ζ (aZ p)] c=if fY w p≠s then .ok (.rt (aZ p)) c else .ok (.nx [ζ (aN w),a1,ζ (.int s),ζ (aZ p)]) c:=by
 have hc:=B6 (m:=oA) (d1:=ak 0) (d2:=au aE (ak 3) (dC (.int 0))) (d3:=au aE (ak 3) (dC (.int 1))) (e:=[ζ (aN w),a1,ζ (.int s),ζ (aZ p)]) (c:=c) rfl (by simp only[ez,bA,iH,gz,gs,R.aA,Gh]) (by simp only[ez,bA,iH,gz,gs,R.aA,Gg]) (Qz h hp.1 hp.2 c)
 unfold vU;rw[ag0 hc rfl];rfl
theorem K1{w:List (List Nat)}(h:Wk w) {s:Nat}{a1:Option D}{c:aa}:∀(ps:List (Nat×Nat)) (v:Option D),vL w ps->∃u,dR (λ_=>True) (az 3) vU (ps.map aZ) [ζ (aN w),a1,ζ (.int s),v] c=(match lA w s ps with|some p=>.ok (.rt (aZ p)) c|none=>.ok (.nx [ζ (aN w),a1,ζ (.int s),u]) c)
 |[],v,_=>⟨v,by simp[lA]⟩
 |p::ps,v,hp=>by
  obtain⟨u,ih⟩:=K1 (a1:=a1) h ps (ζ (aZ p)) λq hq=>hp q (.tail _ hq)
  have hs:=Uq h (hp p (.head _)) (s:=s) a1 c;have hg:az 3 (aZ p) [ζ (aN w),a1,ζ (.int s),v] c=.ok [ζ (aN w),a1,ζ (.int s),ζ (aZ p)] c:=rfl
  by_cases e:fY w p=s
  ·refine⟨u,?_⟩;rw[apE,l6,hg,R.aA,hs,if_neg (by simp[e])]
   simp only[R.aA];rw[ih];unfold lA;rw[List.find?_cons_of_neg (by simp[e])]
  ·refine⟨u,?_⟩;rw[apE,l6,hg,R.aA,hs,if_pos (by simpa using e)]
   unfold lA;rw[List.find?_cons_of_pos (by simpa using e)]
   rfl
def pairD:Option (Nat×Nat)->D
 |some p=>aZ p
 |none=>.aH
def gc(w:List (List Nat)) (ps:List (Nat×Nat)):Option (Nat×Nat):=match ps with
 |[]=>η
 |p::ps=>lA w (fY w p) (p::ps)
theorem MI(o:Option (Nat×Nat)):noRef (pairD o)=ξ/\∀k,pairD o≠.ref k:=by
 cases o<;>exact⟨rfl,λk h=>by cases h⟩
theorem Us{w:List (List Nat)}(h:Wk w) {ps:List (Nat×Nat)}(hp:vL w ps) (c:aa):qt [aN w,.lst (ps.map aZ)] c=.ok (pairD (gc w ps)) c:=by
 have hs:=ji (m:=jY) (d1:=ak 0) (d2:=ak 1) (e:=[ζ (aN w),ζ (.lst (ps.map aZ)),η,η]) (c:=c) rfl rfl (C5 h hp c);have e0:aG 2 (aC 2 jY (ao (ak 0) (ao (ak 1) aq))) [ζ (aN w),ζ (.lst (ps.map aZ)),η,η] c=.ok (.nx [ζ (aN w),ζ (.lst (ps.map aZ)),ζ (fT (iK w ps)),η]) c:=by
  rw[gm,hs];rfl
 have hb:vG=aD (aG 2 (aC 2 jY (ao (ak 0) (ao (ak 1) aq)))) (aD (bQ (dj (ak 1)) (az 3) vU) (aM (dC .aH))):=rfl;rw[qt];refine jy ?_ (MI _).1 (MI _).2;have es:cT 4 [aN w,.lst (ps.map aZ)]=[ζ (aN w),ζ (.lst (ps.map aZ)),η,η]:=rfl;rw[es,hb,bL e0];cases ps with
 |nil =>
  rw[iG,fJ];unfold dj;simp[gc,pairD]
 |cons p ps =>
  obtain⟨u,hf⟩:=K1 (s:=fY w p) (a1:=ζ (.lst ((p::ps).map aZ))) h (c:=c) (p::ps) η hp;have e1:bQ (dj (ak 1)) (az 3) vU [ζ (aN w),ζ (.lst ((p::ps).map aZ)),ζ (fT (iK w (p::ps))),η] c=(match lA w (fY w p) (p::ps)with|some p=>.ok (.rt (aZ p)) c|none=>.ok (.nx [ζ (aN w),ζ (.lst ((p::ps).map aZ)),ζ (.int (fY w p:Nat)),u]) c):=by
   rw[fJ];unfold dj;simp only[bA,gz,gs,R.aA];exact hf
  have eu:gc w (p::ps)=lA w (fY w p) (p::ps):=rfl;rw[iG,e1,eu];cases lA w (fY w p) (p::ps)with
  |none=>simp[pairD]
  |some p=>simp[pairD]
def HQ:ah:=(aD (aG 6 (aC 2 qt (ao (ak 0) (ao (ak 5) aq)))) (bU (aQ (au kR (ak 6) (dC .aH))) (aM (cP (ao (ak 4) (ao (au aE (ak 6) (dC (.int 0))) (ao (au aE (ak 6) (dC (.int 1))) aq))))) b8))
theorem UJ{d1 d2 d3:af}{e:Ev}{c:aa}{x y z:D}(h1:d1 e c=.ok x c) (h2:d2 e c=.ok y c) (h3:d3 e c=.ok z c):cP (ao d1 (ao d2 (ao d3 aq))) e c=.ok (.tup [x,y,z]) c:=by
 have:(3:Nat)<=ι:=eK (by decide)
 simp only[zb,bJ,h1,h2,h3,bI,R.aA];rw[if_pos (by exact this)]
theorem P9{w:List (List Nat)}(h:Wk w) {ps:List (Nat×Nat)}(hp:vL w ps) {c:aa}(a1 a2 a3 a6:Option D) (word:Str):∃u,HQ [ζ (aN w),a1,a2,a3,ζ (.str word),ζ (.lst (ps.map aZ)),a6] c=(match gc w ps with
  |some p=>.ok (.rt (.tup [.str word,.int p.1,.int p.2])) c
  |none=>.ok (.nx [ζ (aN w),a1,a2,a3,ζ (.str word),ζ (.lst (ps.map aZ)),u]) c):=by
 have hs:=ji (m:=qt) (d1:=ak 0) (d2:=ak 5) (e:=[ζ (aN w),a1,a2,a3,ζ (.str word),ζ (.lst (ps.map aZ)),a6]) (c:=c) rfl rfl (Us h hp c);have e0:aG 6 (aC 2 qt (ao (ak 0) (ao (ak 5) aq))) [ζ (aN w),a1,a2,a3,ζ (.str word),ζ (.lst (ps.map aZ)),a6] c=.ok (.nx [ζ (aN w),a1,a2,a3,ζ (.str word),ζ (.lst (ps.map aZ)),ζ (pairD (gc w ps))]) c:=by
  rw[gm,hs];rfl
 refine⟨ζ (pairD (gc w ps)),?_⟩;unfold HQ;rw[bL e0];cases gc w ps with
 |none=>simp[pairD,iP]
 |some p =>
  have h3:=UJ (x:=.str word) (y:=.int p.1) (z:=.int p.2) (d1:=ak 4) (d2:=au aE (ak 6) (dC (.int 0))) (d3:=au aE (ak 6) (dC (.int 1))) (e:=[ζ (aN w),a1,a2,a3,ζ (.str word),ζ (.lst (ps.map aZ)),ζ (aZ p)]) (c:=c) rfl (by simp only[ez,bA,iH,gz,gs,R.aA,Gh]) (by simp only[ez,bA,iH,gz,gs,R.aA,Gg])
  have hn:aQ (au kR (ak 6) (dC .aH)) [ζ (aN w),a1,a2,a3,ζ (.str word),ζ (.lst (ps.map aZ)),ζ (aZ p)] c=.ok ξ c:=rfl;show bU _ _ _ [ζ (aN w),a1,a2,a3,ζ (.str word),ζ (.lst (ps.map aZ)),ζ (aZ p)] c=_;rw[iV,hn];simp only[R.aA];rw[if_pos trivial,gO,h3];rfl
def yh(w:List (List Nat)):D:=match jO w with
 |some i=>.tup [.str "place",.int (i:Nat)]
 |none=>match gc w (dN w)with
  |some p=>.tup [.str "tied",.int p.1,.int p.2]
  |none=>match gc w (dN (gn w))with
   |some p=>.tup [.str "apart",.int p.1,.int p.2]
   |none=>.tup [.str "even",.tup [.int (w.length:Nat),.int ((w.getD 0 []).length:Nat),fT (iK w (dN w)),fT (iK w (dN (gn w)))]]
theorem Lm{w:List (List Nat)}{m:Nat}(hl:w.length<=m) (h:∀r∈w,∀x∈r,x<m):∀p∈dN w,p.1<m/\p.2<m:=λp hp=>by
 unfold dN at hp;obtain⟨l,hl',hp⟩:=au6.mp hp;obtain⟨i,hi,rfl⟩:=ar5.mp hl';unfold iW at hp;obtain⟨j,hj,rfl⟩:=apv.mp hp;exact⟨by simp only;omega,h _ (apR hi) j (aqB.mp hj).1⟩
theorem KU(n:Nat) (f:Nat->Nat->Bool):∀r∈b7 n f,r.length<=n/\∀x∈r,x<n:=λr hr=>by
 obtain⟨i,_,rfl⟩:=apv.mp hr;unfold gQ;refine⟨?_,λx hx=>apx.mp (aqB.mp hx).1⟩
 have:=atX (λj=>decide (j≠i)&&f i j) (θ n)
 rwa[aqj]at this
theorem fR(n:Nat) (f:Nat->Nat->Bool):(b7 n f).length=n:=by simp[b7]
theorem vX{d1 d2:af}{e:Ev}{c:aa}{x y:D}(h1:d1 e c=.ok x c) (h2:d2 e c=.ok y c):cP (ao d1 (ao d2 aq)) e c=.ok (.tup [x,y]) c:=by
 have:(2:Nat)<=ι:=eK (by decide)
 simp only[zb,bJ,h1,h2,bI,R.aA];rw[if_pos (by exact this)]
theorem UI{d1 d2 d3 d4:af}{e:Ev}{c:aa}{x y z u:D}(h1:d1 e c=.ok x c) (h2:d2 e c=.ok y c) (h3:d3 e c=.ok z c) (h4:d4 e c=.ok u c):cP (ao d1 (ao d2 (ao d3 (ao d4 aq)))) e c=.ok (.tup [x,y,z,u]) c:=by
 have:(4:Nat)<=ι:=eK (by decide)
 simp only[zb,bJ,h1,h2,h3,h4,bI,R.aA];rw[if_pos (by exact this)]
theorem ai9{w:List (List Nat)}(h:Wk w) (h0:0<w.length) (c:aa):uy [aN w] c=.ok (yh w) c:=by
 have hl:=h.len;have OW:=Ll (w:=w) hl (λr hr=>by have:=h.short hr;omega) c
 have iB:(gn w).length=w.length:=fR _ _;have O2:=Ll (w:=gn w) (by omega) (λr hr=>by have:=(KU _ _ r hr).1;omega) c
 have ahv:=abh (w:=w) (by omega) c
 have p1:vL w (dN w):=Lm (aps _) λr hr x hx=>(h.row r hr).2 x hx
 have p2:vL w (dN (gn w)):=Lm (aqM iB) λr hr x hx=>(KU _ _ r hr).2 x hx
 generalize hps:dN w=ps at OW p1
 generalize hqs:dN (gn w)=qs at O2 p2
 have hi:aE (aN w) (.int 0) c=.ok (.tup (nD (w.getD 0 []))) c:=by
  have:=uB (apw h0) c;rw[apD,apw h0];exact this
 have hev:yh w=match jO w with
  |some i=>.tup [.str "place",.int (i:Nat)]
  |none=>match gc w ps with
   |some p=>.tup [.str "tied",.int p.1,.int p.2]
   |none=>match gc w qs with
    |some p=>.tup [.str "apart",.int p.1,.int p.2]
    |none=>.tup [.str "even",.tup [.int (w.length:Nat),.int ((w.getD 0 []).length:Nat),fT (iK w ps),fT (iK w qs)]]:=by
  unfold yh;rw[hps,hqs]
  all_goals
   cases jO w with
   |some i=>rfl
   |none =>
    cases gc w ps with
    |some p=>rfl
    |none=>cases gc w qs<;>rfl
 rw[uy,hev];have nr3:∀(x:Str) (p:Nat×Nat),noRef (.tup [.str x,.int p.1,.int p.2])=ξ:=λx p=>rfl
 have e0:=iY (i:=1) (e:=[ζ (aN w),η,η,η,η,η,η]) (qN (m:=ux) (d1:=ak 0) rfl (aaj h0 c));have hb:qZ=aD (aG 1 (aC 1 ux (ao (ak 0) aq))) (aD (bU (aQ (au kR (ak 1) (dC .aH))) (aM (cP (ao (dC (.str "place")) (ao (ak 1) aq)))) b8) (aD (aG 2 (aC 1 lP (ao (ak 0) aq))) (aD (aG 3 (aC 1 lP (ao (aC 1 qj (ao (ak 0) aq)) aq))) (aD (bQ (cL (cP (ao (cP (ao (dC (.str "tied")) (ao (ak 2) aq))) (ao (cP (ao (dC (.str "apart")) (ao (ak 3) aq))) aq)))) (eG 2 (cu (az 4) (cu (az 5) eO))) HQ) (aM (cP (ao (dC (.str "even")) (ao (cP (ao (aF aY (ao (ak 0) aq)) (ao (aF aY (ao (au aE (ak 0) (dC (.int 0))) aq)) (ao (aC 2 jY (ao (ak 0) (ao (ak 2) aq))) (ao (aC 2 jY (ao (ak 0) (ao (ak 3) aq))) aq))))) aq)))))))):=rfl;have es:cT 7 [aN w]=[ζ (aN w),η,η,η,η,η,η]:=rfl;have main:∀v,(match jO w with
  |some i=>(.tup [.str "place",.int (i:Nat)]:D)
  |none=>match gc w ps with
   |some p=>.tup [.str "tied",.int p.1,.int p.2]
   |none=>match gc w qs with
    |some p=>.tup [.str "apart",.int p.1,.int p.2]
    |none=>.tup [.str "even",.tup [.int (w.length:Nat),.int ((w.getD 0 []).length:Nat),fT (iK w ps),fT (iK w qs)]])=v->qZ [ζ (aN w),η,η,η,η,η,η] c=.ok (.rt v) c/\noRef v=ξ/\∀k,v≠.ref k:=by
  intro v hv;rw[hb,bL e0];show aD _ _ [ζ (aN w),ζ (fT (jO w)),η,η,η,η,η] c=_/\_;cases hpl:jO w with
  |some i =>
   rw[hpl]at hv;dsimp only at hv;subst hv;refine⟨?_,rfl,λk h=>by cases h⟩
   have ht:=vX (d1:=dC (.str "place")) (d2:=ak 1) (e:=[ζ (aN w),ζ (fT (ζ i)),η,η,η,η,η]) (c:=c) (x:=.str "place") (y:=.int (i:Nat)) rfl rfl;have hn:aQ (au kR (ak 1) (dC .aH)) [ζ (aN w),ζ (fT (ζ i)),η,η,η,η,η] c=.ok ξ c:=rfl;rw[iG,iV,hn];simp only[R.aA];rw[if_pos trivial,lE ht];rfl
  |none =>
   rw[hpl]at hv;dsimp only at hv;have e1:bU (aQ (au kR (ak 1) (dC .aH))) (aM (cP (ao (dC (.str "place")) (ao (ak 1) aq)))) b8 [ζ (aN w),ζ (fT η),η,η,η,η,η] c=.ok (.nx [ζ (aN w),ζ .aH,η,η,η,η,η]) c:=rfl;have e2:=iY (i:=2) (e:=[ζ (aN w),ζ .aH,η,η,η,η,η]) (qN (m:=lP) (d1:=ak 0) rfl OW);have e3:=iY (i:=3) (e:=[ζ (aN w),ζ .aH,ζ (.lst (ps.map aZ)),η,η,η,η]) (qN (m:=lP) (d1:=aC 1 qj (ao (ak 0) aq)) (qN (m:=qj) (d1:=ak 0) rfl ahv) O2);rw[bL e1,bL e2];show aD _ _ [ζ (aN w),ζ .aH,ζ (.lst (ps.map aZ)),η,η,η,η] c=_/\_;rw[bL e3];show aD _ _ [ζ (aN w),ζ .aH,ζ (.lst (ps.map aZ)),ζ (.lst (qs.map aZ)),η,η,η] c=_/\_;have ahj:cL (cP (ao (cP (ao (dC (.str "tied")) (ao (ak 2) aq))) (ao (cP (ao (dC (.str "apart")) (ao (ak 3) aq))) aq))) [ζ (aN w),ζ .aH,ζ (.lst (ps.map aZ)),ζ (.lst (qs.map aZ)),η,η,η] c=.ok ⟨[.tup [.str "tied",.lst (ps.map aZ)],.tup [.str "apart",.lst (qs.map aZ)]],λ_=>True⟩ c:=by
    rw[zd,vX (vX (x:=.str "tied") (y:=.lst (ps.map aZ)) rfl rfl) (vX (x:=.str "apart") (y:=.lst (qs.map aZ)) rfl rfl)];rfl
   obtain⟨u1,f1⟩:=P9 h p1 (c:=c) (ζ .aH) (ζ (.lst (ps.map aZ))) (ζ (.lst (qs.map aZ))) η "tied"
   rw[iG,fJ,ahj];simp only[R.aA];have hg1:eG 2 (cu (az 4) (cu (az 5) eO)) (.tup [.str "tied",.lst (ps.map aZ)]) [ζ (aN w),ζ .aH,ζ (.lst (ps.map aZ)),ζ (.lst (qs.map aZ)),η,η,η] c=.ok [ζ (aN w),ζ .aH,ζ (.lst (ps.map aZ)),ζ (.lst (qs.map aZ)),ζ (.str "tied"),ζ (.lst (ps.map aZ)),η] c:=rfl;rw[l6,hg1,R.aA,f1];cases hu:gc w ps with
   |some p =>
    rw[hu]at hv;dsimp only at hv;subst hv;exact⟨rfl,rfl,λk h=>by cases h⟩
   |none =>
    rw[hu]at hv;dsimp only at hv;simp only[R.aA];obtain⟨u2,f2⟩:=P9 h p2 (c:=c) (ζ .aH) (ζ (.lst (ps.map aZ))) (ζ (.lst (qs.map aZ))) u1 "apart"
    have g6:eG 2 (cu (az 4) (cu (az 5) eO)) (.tup [.str "apart",.lst (qs.map aZ)]) [ζ (aN w),ζ .aH,ζ (.lst (ps.map aZ)),ζ (.lst (qs.map aZ)),ζ (.str "tied"),ζ (.lst (ps.map aZ)),u1] c=.ok [ζ (aN w),ζ .aH,ζ (.lst (ps.map aZ)),ζ (.lst (qs.map aZ)),ζ (.str "apart"),ζ (.lst (qs.map aZ)),u1] c:=rfl;rw[l6,g6,R.aA,f2];cases ON:gc w qs with
    |some p =>
     rw[ON]at hv;dsimp only at hv;subst hv;exact⟨rfl,rfl,λk h=>by cases h⟩
    |none =>
     rw[ON]at hv;dsimp only at hv;subst hv;simp only[R.aA];rw[aiJ];simp only[R.aA];have s1:=C5 h p1 c;have s2:=C5 h p2 c;have Gz:aY [.tup (nD (w.getD 0 []))] c=.ok (.int ((w.getD 0 []).length:Nat)) c:=by rw[CN];simp[nD]
     refine⟨lE (vX (x:=.str "even") rfl (UI (jh (x:=aN w) rfl (Ef w c)) (jh (x:=.tup (nD (w.getD 0 []))) (by simp only[ez,bA,iH,gz,R.aA];exact hi) Gz) (ji (x:=aN w) (y:=.lst (ps.map aZ)) rfl rfl s1) (ji (x:=aN w) (y:=.lst (qs.map aZ)) rfl rfl s2))),?_,λk h=>by cases h⟩
     cases iK w ps<;>cases iK w qs<;>rfl
 obtain⟨m1,m2,m3⟩:=main _ rfl;exact jy (by rw[es];exact m1) m2 m3
theorem jV{x y:Int}(h1:-1000<x) (h2:x<1000) (c:aa):aW (.int x) (.int y) c=.ok (.int (x*y)) c:=by
 unfold aW;dsimp only;rw[if_pos (by omega)]
def lI(N G:Int):D:=if G=N+1 then .aH else .int (G*(G-1))
def jS(N G:Int):D:=.tup [.int (N*N),.int (G*(N-1)),.int (N-2+(G-1)*(G-2)),lI N G]
theorem adY(N G:Int):noRef (jS N G)=ξ:=by
 unfold jS lI;split<;>rfl
theorem adV{n:Nat}{ss:List (Nat->Nat->Nat)}(H:Net n ss) {N G:Int}(hN:N=n) (hG:G=ss.length+2) (c:aa):xC [.int N,.lst (aR n ss)] c=.ok (jS N G) c:=by
 have n2:=H.two;have n7:=H.iw;have hf:=H.few;have t4:(4:Nat)<=ι:=by decide
 have hr:=Mm H hN c;have hl:=Av n ss c;have e0:eL (aC 2 kM (ao (ak 0) (ao (ak 1) aq))) [ζ (.int N),ζ (.lst (aR n ss)),η,η] c=.ok (.nx [ζ (.int N),ζ (.lst (aR n ss)),η,η]) c:=by
  rw[ko,ji (m:=kM) (d1:=ak 0) (d2:=ak 1) rfl rfl hr];rfl
 have e1:aG 2 (au br (aF aY (ao (ak 1) aq)) (dC (.int 2))) [ζ (.int N),ζ (.lst (aR n ss)),η,η] c=.ok (.nx [ζ (.int N),ζ (.lst (aR n ss)),ζ (.int G),η]) c :=
  iY (i:=2) (gj (f:=br) (d2:=dC (.int 2)) (jh (d1:=ak 1) rfl hl) rfl (by rw[lz,hG]))
 have m1:aW (.int G) (.int (G-1)) c=.ok (.int (G*(G-1))) c:=jV (by omega) (by omega) c
 have m2:aW (.int N) (.int N) c=.ok (.int (N*N)) c:=jV (by omega) (by omega) c
 have m3:aW (.int G) (.int (N-1)) c=.ok (.int (G*(N-1))) c:=jV (by omega) (by omega) c
 have m4:aW (.int (G-1)) (.int (G-2)) c=.ok (.int ((G-1)*(G-2))) c:=jV (by omega) (by omega) c
 have e2:aG 3 (uX (aQ (au cB (ak 2) (au br (ak 0) (dC (.int 1))))) (dC .aH) (au aW (ak 2) (au bz (ak 2) (dC (.int 1))))) [ζ (.int N),ζ (.lst (aR n ss)),ζ (.int G),η] c=.ok (.nx [ζ (.int N),ζ (.lst (aR n ss)),ζ (.int G),ζ (lI N G)]) c:=by
  unfold lI
  by_cases h:G=N+1
  ·simp[h]
  ·simp[h,m1]
 have e3:aM (cP (ao (au aW (ak 0) (ak 0)) (ao (au aW (ak 2) (au bz (ak 0) (dC (.int 1)))) (ao (au br (au bz (ak 0) (dC (.int 2))) (au aW (au bz (ak 2) (dC (.int 1))) (au bz (ak 2) (dC (.int 2))))) (ao (ak 3) aq))))) [ζ (.int N),ζ (.lst (aR n ss)),ζ (.int G),ζ (lI N G)] c=.ok (.rt (jS N G)) c:=by
  simp[m2,m3,m4,t4,jS]
 refine jy (n:=4) (b:=qQ) ?_ (adY N G) (λk h=>by unfold jS at h;cases h)
 have hb:qQ=aD (eL (aC 2 kM (ao (ak 0) (ao (ak 1) aq)))) (aD (aG 2 (au br (aF aY (ao (ak 1) aq)) (dC (.int 2)))) (aD (aG 3 (uX (aQ (au cB (ak 2) (au br (ak 0) (dC (.int 1))))) (dC .aH) (au aW (ak 2) (au bz (ak 2) (dC (.int 1)))))) (aM (cP (ao (au aW (ak 0) (ak 0)) (ao (au aW (ak 2) (au bz (ak 0) (dC (.int 1)))) (ao (au br (au bz (ak 0) (dC (.int 2))) (au aW (au bz (ak 2) (dC (.int 1))) (au bz (ak 2) (dC (.int 2))))) (ao (ak 3) aq)))))))):=rfl;rw[hb,show cT 4 [D.int N,.lst (aR n ss)]=[ζ (.int N),ζ (.lst (aR n ss)),η,η]from rfl,bL e0,bL e1,bL e2,e3]
def kZ(ss:List (Nat->Nat->Nat)):List (Nat->Nat->Nat):=(λx _=>x)::(λ_ y=>y)::ss
theorem afq(n:Nat) (ss:List (Nat->Nat->Nat)) (i:Nat):gZ n ss i=(kZ ss).map λs=>s (i/n) (i % n):=by simp[gZ,kZ]
def oE(n:Nat) (ss:List (Nat->Nat->Nat)) (t i:Nat):Nat:=(gZ n ss i).getD t 0
theorem R3:∀{p q:List Nat}{g:Nat},p.length=g->q.length=g->yI p q=(θ g).any λt=>decide (p.getD t 0=q.getD t 0)
 |[],[],g,h,_=>by subst h;rfl
 |[],_::_,g,h,h'=>by simp at h h';omega
 |_::_,[],g,h,h'=>by simp at h h';omega
 |a::p,b::q,g,h,h'=>by
  obtain⟨k,rfl⟩:∃k,g=k+1:=⟨p.length,by simpa using h.symm⟩
  have ih:=R3 (p:=p) (q:=q) (g:=k) (by simpa using h) (by simpa using h')
  rw[List.range_succ_eq_map,atR,atV];unfold yI at ih ⊢;rw[ar1,atR,ih];rfl
theorem dW.ir{n:Nat}{s:Nat->Nat->Nat}(h:dW n s) {x y y':Nat}(hx:x<n) (hy:y<n) (hy':y'<n) (e:s x y=s x y'):y=y':=DU ((h.row x hx).nodup_iff.mpr arE) hy hy' e
theorem dW.ic{n:Nat}{s:Nat->Nat->Nat}(h:dW n s) {x x' y:Nat}(hx:x<n) (hx':x'<n) (hy:y<n) (e:s x y=s x' y):x=x':=DU (f:=λi=>s i y) ((h.col y hy).nodup_iff.mpr arE) hx hx' e
section
variable {n:Nat}{ss:List (Nat->Nat->Nat)}
theorem Net.pair(H:Net n ss):(kZ ss).Pairwise (jK n):=by
 refine aqX.mpr ⟨λs hs=>?_,aqX.mpr ⟨λs hs=>?_,H.Ka⟩⟩
 ·rcases apu.mp hs with rfl|hs
  ·exact λx y x' y' _ _ _ _ e f=>⟨e,f⟩
  ·exact λx y x' y' a b c d e f=>⟨e,(H.lat s hs).ir a b d (by have e:x=x':=e;subst e;exact f)⟩
 ·exact λx y x' y' a b c d e f=>⟨(H.lat s hs).ic a c b (by have e:y=y':=e;subst e;exact f),e⟩
theorem Net.small(H:Net n ss) {s:Nat->Nat->Nat}(hs:s∈kZ ss) {x y:Nat}(hx:x<n) (hy:y<n):s x y<n:=by
 rcases apu.mp hs with rfl|hs
 ·exact hx
 rcases apu.mp hs with rfl|hs
 ·exact hy
 ·exact(H.lat s hs).lt hx hy
theorem qw{t:Nat}(ht:t<(kZ ss).length) (i:Nat):oE n ss t i=(kZ ss)[t] (i/n) (i % n):=by
 unfold oE;rw[afq,apD,apM,apw ht];rfl
theorem Net.oa(H:Net n ss):OA n (ss.length+2) (oE n ss):=by
 have n0:0<n:=by have:=H.two;omega
 have dv:∀i,i<n*n->i/n<n:=λi hi=>arG hi
 have md:∀i,i % n<n:=λi=>aqF _ n0
 constructor
 ·intro t i ht hi;rw[qw ht];exact H.small (apR _) (dv i hi) (md i)
 ·intro t u i j ht hu ne hi hj e f;rw[qw ht,qw ht]at e;rw[qw hu,qw hu]at f;have I:jK n (kZ ss)[t] (kZ ss)[u]:=by
   rcases au4 ne with h|h
   ·exact ara.mp H.pair t u ht hu h
   ·exact jK.symm (ara.mp H.pair u t hu ht h)
  have:=I _ _ _ _ (dv i hi) (md i) (dv j hj) (md j) e f;rw[<-asL i n,<-asL j n,this.1,this.2]
theorem Ah(i j:Nat):bS n ss i j=(θ (ss.length+2)).any λt=>decide (oE n ss t i=oE n ss t j):=R3 (Ed _ _ _) (Ed _ _ _)
theorem Dl(i:Nat):gQ (n*n) (bS n ss) i=(θ (n*n)).filter (iy (ss.length+2) (oE n ss) i):=by
 unfold gQ iy;simp only[Ah]
theorem jq{N:Nat}{f:Nat->Nat->Bool}{i:Nat}(hi:i<N):(b7 N f).getD i []=gQ N f i:=by
 unfold b7;rw[apD,apM,aqr hi];rfl
theorem jM{N:Nat}{f:Nat->Nat->Bool}{i j:Nat}:j∈gQ N f i↔j<N/\j≠i/\f i j=ξ:=by
 unfold gQ;simp[aqB]
theorem Uk{N:Nat}{f:Nat->Nat->Bool}(h:N<64):Wk (b7 N f):=by
 refine⟨by rw[fR];exact h,λr hr=>?_⟩
 obtain⟨i,_,rfl⟩:=apv.mp hr;exact⟨atY atZ asB,λx hx=>by rw[fR];exact(jM.mp hx).1⟩
theorem xx{w:List (List Nat)}{p:Nat×Nat}:p∈dN w↔p.1<w.length/\p.2∈w.getD p.1 []/\p.1<p.2:=by
 unfold dN;rw[au6]
 constructor
 ·rintro ⟨l,hl,hp⟩
  obtain⟨i,hi,rfl⟩:=ar5.mp hl;unfold iW at hp;obtain⟨j,hj,rfl⟩:=apv.mp hp;rw[aqB]at hj;refine⟨hi,?_,of_decide_eq_true hj.2⟩;simp only[apD,apw hi];exact hj.1
 ·rintro ⟨h,a,b⟩
  refine⟨_,ar5.mpr ⟨p.1,h,rfl⟩,apv.mpr ⟨p.2,aqB.mpr ⟨?_,decide_eq_true b⟩,rfl⟩⟩;simp only[apD,apw h]at a;exact a
theorem K5{w:List (List Nat)}{s:Nat}:∀{ps:List (Nat×Nat)},(∀p∈ps,fY w p=s)->gc w ps=η
 |[],_=>rfl
 |p::ps,h=>by
  unfold gc lA;rw[ath];intro q hq;rw[h p (.head _),h q hq];simp
theorem LW{w:List (List Nat)}{s:Nat}:∀{ps:List (Nat×Nat)},(∀p∈ps,fY w p=s)->ps≠[]->iK w ps=ζ s
 |[],_,h=>absurd rfl h
 |p::ps,h,_=>by show ζ (fY w p)=_;rw[h p (.head _)]
theorem aak{w:List (List Nat)}{k:Nat}(h:∀r∈w,r.length=k) (h0:0<w.length):jO w=η:=by
 unfold jO;rw[atm];intro r hr;have:w.getD 0 []∈w:=by
  rw[apD,apw h0];exact apR _
 rw[h r hr,h _ this];simp
theorem Net.uP(H:Net n ss) {i:Nat}(hi:i<n*n):(gQ (n*n) (bS n ss) i).length=(ss.length+2)*(n-1):=by
 rw[Dl,zv,H.oa.degree (by omega) hi]
theorem Net.comm(H:Net n ss) {i j:Nat}(hi:i<n*n) (hj:j<n*n):fY (b7 (n*n) (bS n ss)) (i,j)=sm (n*n) (λe=>(iy (ss.length+2) (oE n ss) i e&&iy (ss.length+2) (oE n ss) j e).toNat):=by
 unfold fY;rw[jq hi,jq hj,<-zv];refine(RJ (atY atZ arE) λx=>?_).symm
 rw[Dl,Dl];simp only[aqB,apN];exact⟨λq=>⟨⟨q.1,q.2.1⟩,q.1,q.2.2⟩,λq=>⟨q.1.1,q.1.2,q.2.2⟩⟩
theorem Net.near(H:Net n ss) {p:Nat×Nat}(hp:p∈dN (b7 (n*n) (bS n ss))):fY (b7 (n*n) (bS n ss)) p=n-2+(ss.length+1)*ss.length:=by
 obtain⟨h1,h2,h3⟩:=xx.mp hp;rw[fR]at h1;rw[jq h1]at h2;obtain⟨a,b,e⟩:=jM.mp h2;rw[Ah]at e;obtain⟨t,ht,e⟩:=aqO.mp e;have:=H.oa.UP (by omega) h1 a (by omega) (apx.mp ht) (of_decide_eq_true e)
 rw[<-H.comm h1 a]at this;exact this
theorem Net.cZ(H:Net n ss) {p:Nat×Nat}(hp:p∈dN (gn (b7 (n*n) (bS n ss)))):fY (b7 (n*n) (bS n ss)) p=(ss.length+2)*(ss.length+1):=by
 obtain⟨h1,h2,h3⟩:=xx.mp hp;unfold gn at h1 h2;rw[fR,fR]at h1;rw[fR,jq h1]at h2;obtain⟨a,b,e⟩:=jM.mp h2;unfold oj at e;rw[jq h1]at e;have e:¬p.2∈gQ (n*n) (bS n ss) p.1:=by simpa using e
 have q:bS n ss p.1 p.2=Δ:=by
  cases q:bS n ss p.1 p.2 with
  |true=>exact absurd (jM.mpr ⟨a,b,q⟩) e
  |false=>rfl
 rw[Ah]at q;have:=H.oa.apart h1 a λt ht x=>by
  have:=asQ.mp q t (apx.mpr ht);exact this (decide_eq_true x)
 rw[<-H.comm h1 a]at this;exact this
theorem Net.UM(H:Net n ss):dN (b7 (n*n) (bS n ss))≠[]:=by
 have n2:=H.two;have h0:0<n*n:=ar7 (by omega) (by omega)
 have d:=H.uP h0;have:0<(ss.length+2)*(n-1):=ar7 (by omega) (by omega)
 obtain⟨j,hj⟩:∃j,j∈gQ (n*n) (bS n ss) 0:=List.exists_mem_of_length_pos (by omega)
 intro e;have hm:(0,j)∈dN (b7 (n*n) (bS n ss)):=xx.mpr ⟨by rw[fR];exact h0,by rw[jq h0];exact hj,by have:=(jM.mp hj).2.1;show 0<j;omega⟩
 rw[e]at hm;cases hm
theorem Net.amc(H:Net n ss) (hc:ss.length=n-1):dN (gn (b7 (n*n) (bS n ss)))=[]:=by
 have n2:=H.two;apply List.eq_nil_iff_forall_not_mem.mpr;intro p hp;obtain⟨h1,h2,h3⟩:=xx.mp hp;unfold gn at h1 h2;rw[fR,fR]at h1;rw[fR,jq h1]at h2;obtain⟨a,b,e⟩:=jM.mp h2;unfold oj at e;rw[jq h1]at e;have e:¬p.2∈gQ (n*n) (bS n ss) p.1:=by simpa using e
 have d:=H.uP h1;have nd:(p.1::p.2::gQ (n*n) (bS n ss) p.1).Nodup:=by
  refine aqu.mpr ⟨λm=>?_,aqu.mpr ⟨e,atY atZ arE⟩⟩
  rcases apu.mp m with m|m
  ·omega
  ·exact(jM.mp m).2.1 rfl
 have:=Nl (n*n) _ nd λx hx=>by
  rcases apu.mp hx with rfl|hx
  ·exact h1
  rcases apu.mp hx with rfl|hx
  ·exact a
  ·exact(jM.mp hx).1
 simp only[apL]at this;rw[d,hc]at this;obtain⟨k,rfl⟩:∃k,n=k+1:=⟨n-1,by omega⟩
 simp only[au7]at this;have x:(k+1)*(k+1)=(k+2)*k+1:=by simp only[atW,asO,ar6,Nat.one_mul];omega
 omega
theorem Net.amd(H:Net n ss) (hc:ss.length≠n-1):dN (gn (b7 (n*n) (bS n ss)))≠[]:=by
 have n2:=H.two;have fw:=H.few;have h0:0<n*n:=ar7 (by omega) (by omega)
 have d:=H.uP h0;intro e;have all:∀j,j<n*n->j≠0->j∈gQ (n*n) (bS n ss) 0:=λj hj h=>ary λq=>by
  have hm:(0,j)∈dN (gn (b7 (n*n) (bS n ss))):=by
   refine xx.mpr ⟨by unfold gn;rw[fR,fR];exact h0,?_,by show 0<j;omega⟩
   unfold gn;rw[fR];show j∈(b7 (n*n) (oj (b7 (n*n) (bS n ss)))).getD 0 [];rw[jq h0];refine jM.mpr ⟨hj,h,?_⟩;unfold oj;rw[jq h0]
   simpa using q
  rw[e]at hm;cases hm
 have le:n*n-1<=(gQ (n*n) (bS n ss) 0).length:=by
  have e1:(gQ (n*n) (bS n ss) 0).length=sm (n*n) λj=>(decide (j≠0)&&bS n ss 0 j).toNat:=zv _ _
  rw[e1,fB (g:=λj=>if j=0 then 0 else 1),jN 0 1 h0]
  ·omega
  ·intro j hj
   by_cases x:j=0
   ·simp[x]
   ·have:=(jM.mp (all j hj x)).2.2;simp[x,this]
 rw[d]at le;have lt:(ss.length+2)*(n-1)<=n*(n-1):=ar4 _ (by omega)
 obtain⟨k,rfl⟩:∃k,n=k+1:=⟨n-1,by omega⟩
 simp only[au7]at lt le;have x:(k+1)*(k+1)=(k+1)*k+k+1:=by simp only[atW,asO,ar6,Nat.one_mul];omega
 omega
theorem aeg(H:Net n ss) {N G:Int}(hN:N=n) (hG:G=ss.length+2):yh (b7 (n*n) (bS n ss))=.tup [.str "even",jS N G]:=by
 have n2:=H.two;have fw:=H.few;have h0:0<n*n:=ar7 (by omega) (by omega)
 unfold yh;rw[aak (k:=(ss.length+2)*(n-1)) _ (by rw[fR];exact h0)]
 ·simp only[];rw[K5 λp hp=>H.near hp]
  simp only[];rw[K5 λp hp=>H.cZ hp]
  simp only[];rw[LW (λp hp=>H.near hp) H.UM,fR,jq h0,H.uP h0]
  have b:fT (iK (b7 (n*n) (bS n ss)) (dN (gn (b7 (n*n) (bS n ss)))))=lI N G:=by
   unfold lI
   by_cases hc:ss.length=n-1
   ·rw[H.amc hc,if_pos (by omega)];rfl
   ·rw[LW (λp hp=>H.cZ hp) (H.amd hc),if_neg (by omega)]
    show D.int _=_
    congr 1
    rw[aqA,hG]
    congr 1
    omega
  rw[b];unfold jS;have e1:(((n*n:Nat)):Int)=N*N:=by rw[aqA,hN]
  have e2:((((ss.length+2)*(n-1):Nat)):Int)=G*(N-1):=by
   rw[aqA,hG,hN];have:((n-1:Nat):Int)=(n:Int)-1:=by omega
   rw[this];rfl
  have e3:(((n-2+(ss.length+1)*ss.length:Nat)):Int)=N-2+(G-1)*(G-2):=by
   rw[ar3,aqA];have x:((n-2:Nat):Int)=N-2:=by omega
   have y:((ss.length+1:Nat):Int)=G-1:=by omega
   have z:(ss.length:Int)=G-2:=by omega
   rw[x,y,z]
  rw[e1,e2];show D.tup [.str "even",.tup [.int (N*N),.int (G*(N-1)),.int _,lI N G]]=_;rw[e3]
 ·intro r hr;obtain⟨i,hi,rfl⟩:=apv.mp hr;exact H.uP (apx.mp hi)
end
theorem LJ{x:Int}:∀{l:List Int},(∀y∈l,y=x)->l.sum=l.length*x
 |[],_=>by simp
 |y::l,h=>by
  rw[List.sum_cons,LJ (l:=l) λz hz=>h z (.tail _ hz),h y (.head _),apL]
  have:(((l.length+1:Nat)):Int)=(l.length:Int)+1:=by omega
  rw[this,atM,asJ,Int.add_comm]
theorem VL{d:af}{e:Ev}{c:aa}{w:List (List Nat)}{x:Nat}{S:Int}(hd:d e c=.ok (aN w) c) (hw:w.length<1000) (hx:∀r∈w,r.length=x) (hS:S=(w.length:Int)*x):aF jv (ao (aS (cL d) [η] (az 0) aJ (aF aY (ao (ak 0) aq))) aq) e c=.ok (.int S) c:=by
 have sz:=lC;have hs:cL d e c=.ok ⟨w.map λr=>D.tup (nD r),λ_=>True⟩ c:=by
  unfold cL;rw[hd];rfl
 have hc:=oB (E:=[]) (a:=aF aY (ao (ak 0) aq)) (c:=c) (λr:List Nat=>D.tup (nD r)) (λr:List Nat=>D.int (r.length:Nat)) w η [] (λr _=>jh (d1:=ak 0) rfl (by unfold aY;simp[fS,nD]))
 rw[apS]at hc;have hm:(w.map λr:List Nat=>D.int (r.length:Nat))=(w.map λr=>((r.length:Nat):Int)).map D.int:=by rw[apV];rfl
 refine jh (x:=.lst ((w.map λr=>((r.length:Nat):Int)).map D.int)) ?_ ?_
 ·rw[er,hs,R.aA];dsimp only;rw[if_pos (by simp;omega),show dB [η] e=[η]from rfl,hc,R.aA,hm]
 ·rw[sum_ints,LJ (x:=(x:Int)),apC,hS];intro y hy;obtain⟨r,hr,rfl⟩:=apv.mp hy;rw[hx r hr]
theorem Net.take{n:Nat}{ss:List (Nat->Nat->Nat)}(H:Net n ss) (k:Nat):Net n (ss.take k):=⟨H.two,H.iw,by rw[aqv];have:=H.few;omega,λs hs=>H.lat s (apZ hs),H.Ka.sublist (asf _ _)⟩
section
variable {n:Nat}{ss:List (Nat->Nat->Nat)}
theorem DT(H:Net n ss) {N G:Int}(hN:N=n) (hG:G=ss.length+2) {d:af}{e:Ev}{c:aa}(hd:d e c=.ok (aN (b7 (n*n) (bS n ss))) c):aF jv (ao (aS (cL d) [η] (az 0) aJ (aF aY (ao (ak 0) aq))) aq) e c=.ok (.int (N*N*(G*(N-1)))) c:=by
 have n2:=H.two;have nn:n*n<50:=aqL (arH H.iw H.iw) (by decide)
 refine VL hd (by rw[fR];omega) (x:=(ss.length+2)*(n-1)) (λr hr=>?_) ?_
 ·obtain⟨i,hi,rfl⟩:=apv.mp hr;exact H.uP (apx.mp hi)
 ·rw[fR,aqA,aqA,hN,hG];have:((n-1:Nat):Int)=(n:Int)-1:=by omega
  rw[this];rfl
theorem aee(N G:Int) (c:aa):iA (.tup [.str "even",jS N G]) (.tup [.str "even",jS N G]) c=.ok (.bl Δ) c:=by
 unfold jS lI;have k2:PyData.strOk "even"=ξ:=by decide +kernel
 by_cases k:G=N+1
 ·simp[iA,fO,eT,fF,PyData.depth,PyData.depthAll,PyData.eqv,PyData.eqvAll,k,k2]
 ·simp[iA,fO,eT,fF,PyData.depth,PyData.depthAll,PyData.eqv,PyData.eqvAll,k,k2]
theorem UO{w:List (List Nat)}{a b:Nat}{I J:Int}(hI:I=a) (hJ:J=b) (ha:a<w.length) (hb:b∈w.getD a []) (c:aa):jX [aN w,.int I,.int J] c=.ok (.bl ξ) c:=by
 subst hI hJ;have h1:Ao [.int (a:Int),.int (w.length:Int)] c=.ok (.bl ξ) c:=by
  have e1:(0:Int)<=a:=by omega
  have e2:(a:Int)<=(w.length:Int)-1:=by omega
  simp[Ao,vD,gY,mq,uw,pJ,e1,e2]
 have h2:aE (aN w) (.int (a:Int)) c=.ok (.tup (nD (w.getD a []))) c:=uB (by rw[apD,apw ha];rfl) c
 have h3:=agY (w.getD a []) b c;rw[decide_eq_true hb]at h3
 generalize w.getD a []=r at h2 h3
 simp[jX,u6,Ef,h1,h2,h3]
theorem UR{s:Nat->Nat->Nat}(hs:s∈kZ ss) {i j:Nat}(hi:i<n*n) (hj:j<n*n) (ne:j≠i) (e:s (i/n) (i % n)=s (j/n) (j % n)):j∈(b7 (n*n) (bS n ss)).getD i []:=by
 rw[jq hi];refine jM.mpr ⟨hj,ne,?_⟩;obtain⟨t,ht,rfl⟩:=aqQ hs;rw[Ah];refine aqO.mpr ⟨t,apx.mpr ht,decide_eq_true ?_⟩;rw[qw ht,qw ht];exact e
theorem CS{s:Nat->Nat->Nat}(hs:s∈kZ ss) {i j:Nat}{I J:Int}(hI:I=i) (hJ:J=j) (hi:i<n*n) (hj:j<n*n) (ne:j≠i) (e:s (i/n) (i % n)=s (j/n) (j % n)) (c:aa):jX [aN (b7 (n*n) (bS n ss)),.int I,.int J] c=.ok (.bl ξ) c:=UO hI hJ (by rw[fR];exact hi) (UR hs hi hj ne e) c
theorem vJ{x y:Nat}(hy:y<n):(n*x+y)/n=x/\(n*x+y) % n=y:=by
 have h0:0<n:=by omega
 refine⟨?_,?_⟩
 ·rw[asM h0,asN hy];rfl
 ·rw[au2,au3 hy]
theorem tN{x y:Nat}(hx:x<n) (hy:y<n):n*x+y<n*n:=by
 have:n*(x+1)<=n*n:=au5 n (by omega)
 rw[asO,ar6]at this;omega
theorem ag1{s:Nat->Nat->Nat}(L:dW n s) {r x:Nat}(hr:r<n) (hx:x<n) {o a:af}{e:Ev}{c:aa}(ho:o e c=.ok (.tup (nD ((θ n).map (s r)))) c) (ha:a e c=.ok (.int (x:Int)) c):∃y,y<n/\s r y=x/\uW o a e c=.ok (.int (y:Nat)) c:=by
 have hi:jZ (nD ((θ n).map (s r)))=ζ ((θ n).map λk=>((s r k:Nat):Int)):=by
  have:nD ((θ n).map (s r))=((θ n).map λk=>((s r k:Nat):Int)).map D.int:=by simp[nD]
  rw[this,xQ]
 cases q:((θ n).map λk=>((s r k:Nat):Int)).findIdx? (λi=>i==(x:Int))with
 |none =>
  rw[atm]at q;have hm:x∈(θ n).map (s r):=(L.row r hr).mem_iff.mpr (apx.mpr hx);obtain⟨k,hk,rfl⟩:=apv.mp hm;have:=q ((s r k:Nat):Int) (apv.mpr ⟨k,hk,rfl⟩);simp at this
 |some y =>
  obtain⟨h1,h2,_⟩:=atl.mp q;have hy:y<n:=by simpa using h1
  refine⟨y,hy,?_,?_⟩
  ·simp at h2;omega
  ·unfold uW;rw[ho];simp only[R.aA];rw[ha];simp only[R.aA,hi];rw[q]
end
def zp:ah:=(aG 2 (aC 1 ql (ao (aC 2 qp (ao (ak 0) (ao (ak 1) aq))) aq)))
def st1:ah:=(iZ (aC 1 qk (ao (ak 2) aq)) (eG 2 (cu (az 3) (cu (az 4) eO))))
def q0:ah:=(aG 5 (aC 2 kN (ao (ak 3) (ao (ak 4) aq))))
def q1:ah:=(bU (aQ (au iA (aC 1 uy (ao (ak 5) aq)) (cP (ao (dC (.str "even")) (ao (aC 2 xC (ao (ak 3) (ao (ak 4) aq))) aq))))) (aM (dC (.bl Δ))) b8)
def q2:ah:=(aG 6 (aF jv (ao (aS (cL (ak 5)) [η] (az 0) aJ (aF aY (ao (ak 0) aq))) aq)))
def q3:ah:=(bU (iF (aQ (au cB (aF aY (ao (ak 4) aq)) (au bz (ak 3) (dC (.int 1))))) (aQ (au fD (ak 6) (au aW (au aW (ak 3) (ak 3)) (au bz (au aW (ak 3) (ak 3)) (dC (.int 1))))))) (aM (dC (.bl Δ))) b8)
def zN:ah:=(aD (aG 8 (aF jv (ao (aS (cL (aC 2 kN (ao (ak 3) (ao (gD (ak 4) gE (gw (ak 7))) aq)))) [η] (az 0) aJ (aF aY (ao (ak 0) aq))) aq))) (aD (aG 9 (aF jv (ao (aS (cL (aC 2 kN (ao (ak 3) (ao (gD (ak 4) gE (gw (au br (ak 7) (dC (.int 1))))) aq)))) [η] (az 0) aJ (aF aY (ao (ak 0) aq))) aq))) (bU (aQ (au fD (au bz (ak 9) (ak 8)) (au aW (au aW (ak 3) (ak 3)) (au bz (ak 3) (dC (.int 1)))))) (aM (dC (.bl Δ))) b8)))
def q4:ah:=bQ (bg (ao (aF aY (ao (ak 4) aq)) aq)) (az 7) zN
def q5:ah:=(aG 10 (aC 2 cN (ao (ak 2) (ao (ak 3) aq))))
def IX:af:=(aS (bg (ao (ak 3) aq)) [η,ζ 3,ζ 10,ζ 11] (az 0) aJ (au br (au aW (ak 0) (ak 1)) (uW (au aE (ak 3) (ak 0)) (ak 2))))
def Ms:ah:=aG 12 IX
def zM:ah:=(bU (d8 (aQ (aC 3 jX (ao (ak 5) (ao (au aE (ak 12) (ak 13)) (ao (au aE (ak 12) (ak 14)) aq)))))) (aM (dC (.bl Δ))) b8)
def zL:ah:=bQ (bg (ao (ak 13) aq)) (az 14) zM
def zK:ah:=bQ (bg (ao (ak 3) aq)) (az 13) zL
def q6:ah:=bQ (dj (ak 4)) (az 11) (aD Ms zK)
def zJ:ah:=(bU (iE (d8 (aQ (aC 3 jX (ao (ak 5) (ao (au aW (ak 3) (ak 10)) (ao (au br (au aW (ak 3) (ak 10)) (ak 15)) aq)))))) (d8 (aQ (aC 3 jX (ao (ak 5) (ao (ak 10) (ao (au br (au aW (ak 3) (ak 15)) (ak 10)) aq))))))) (aM (dC (.bl Δ))) b8)
def q7:ah:=bQ (j9 (ao (dC (.int 1)) (ao (ak 3) aq))) (az 15) zJ
def RK:ah:=aD q0 (aD q1 (aD q2 (aD q3 (aD q4 (aD q5 (aD q6 q7))))))
def tY:ah:=aD zp (aD st1 (bU (aQ (au jE (ak 3) (dC (.int 7)))) RK b8))
section
variable {a0 a1 a2 a3 a4 a5 a6 a7 a8 a9 cG bV cJ cA bZ bR:Option D}
theorem g0{ns:List Int}{i x:Int}{j:Nat}{c c':aa}(hx:qp [.cH ns,.int i] c=.ok (.int x) c) (hp:ql [.int x] c=.ok (.ref j) c'):zp [ζ (.cH ns),ζ (.int i),a2,a3,a4,a5,a6,a7,a8,a9,cG,bV,cJ,cA,bZ,bR] c=.ok (.nx [ζ (.cH ns),ζ (.int i),ζ (.ref j),a3,a4,a5,a6,a7,a8,a9,cG,bV,cJ,cA,bZ,bR]) c':=by simp[zp,hx,hp]
theorem g1{j:Nat}{X Y:D}{c c':aa}(h:qk [.ref j] c=.ok (.tup [X,Y]) c'):st1 [a0,a1,ζ (.ref j),a3,a4,a5,a6,a7,a8,a9,cG,bV,cJ,cA,bZ,bR] c=.ok (.nx [a0,a1,ζ (.ref j),ζ X,ζ Y,a5,a6,a7,a8,a9,cG,bV,cJ,cA,bZ,bR]) c':=by
 have hd:aC 1 qk (ao (ak 2) aq) [a0,a1,ζ (.ref j),a3,a4,a5,a6,a7,a8,a9,cG,bV,cJ,cA,bZ,bR] c=.ok (.tup [X,Y]) c':=by simp[h]
 show(iZ (aC 1 qk (ao (ak 2) aq)) (eG 2 (cu (az 3) (cu (az 4) eO)))) [a0,a1,ζ (.ref j),a3,a4,a5,a6,a7,a8,a9,cG,bV,cJ,cA,bZ,bR] c=_;unfold iZ;rw[hd];rfl
theorem f0{X Y W:D}{c:aa}(h:kN [X,Y] c=.ok W c):q0 [a0,a1,a2,ζ X,ζ Y,a5,a6,a7,a8,a9,cG,bV,cJ,cA,bZ,bR] c=.ok (.nx [a0,a1,a2,ζ X,ζ Y,ζ W,a6,a7,a8,a9,cG,bV,cJ,cA,bZ,bR]) c:=iY (i:=5) (ji (d1:=ak 3) (d2:=ak 4) rfl rfl h)
theorem f1{X Y W V:D}{c:aa}(h1:uy [W] c=.ok (.tup [.str "even",V]) c) (h2:xC [X,Y] c=.ok V c) (h3:iA (.tup [.str "even",V]) (.tup [.str "even",V]) c=.ok (.bl Δ) c):q1 [a0,a1,a2,ζ X,ζ Y,ζ W,a6,a7,a8,a9,cG,bV,cJ,cA,bZ,bR] c=.ok (.nx [a0,a1,a2,ζ X,ζ Y,ζ W,a6,a7,a8,a9,cG,bV,cJ,cA,bZ,bR]) c:=by
 have t2:(2:Nat)<=ι:=by decide
 simp[q1,h1,h2,h3,t2]
theorem f3{N G S:Int}{Y:D}{k:Int}{c:aa}(hl:aY [Y] c=.ok (.int k) c) (m1:aW (.int N) (.int N) c=.ok (.int (N*N)) c) (m2:aW (.int (N*N)) (.int (N*N-1)) c=.ok (.int (N*N*(N*N-1))) c) (hS:k=N-1->S=N*N*(N*N-1)):q3 [a0,a1,a2,ζ (.int N),ζ Y,a5,ζ (.int S),a7,a8,a9,cG,bV,cJ,cA,bZ,bR] c=.ok (.nx [a0,a1,a2,ζ (.int N),ζ Y,a5,ζ (.int S),a7,a8,a9,cG,bV,cJ,cA,bZ,bR]) c:=by
 by_cases h:k=N-1
 ·simp[q3,hl,m1,m2,h,hS h]
 ·simp[q3,hl,h]
theorem f5{j:Nat}{N x:Int}{c c':aa}(h:cN [.ref j,.int N] c=.ok (.int x) c'):q5 [a0,a1,ζ (.ref j),ζ (.int N),a4,a5,a6,a7,a8,a9,cG,bV,cJ,cA,bZ,bR] c=.ok (.nx [a0,a1,ζ (.ref j),ζ (.int N),a4,a5,a6,a7,a8,a9,ζ (.int x),bV,cJ,cA,bZ,bR]) c':=by simp[q5,h]
variable {n:Nat}{ss:List (Nat->Nat->Nat)}
theorem akk{k:Nat}(hk:k<=ss.length) {I:Int}(hI:I=k):cutD (aR n ss) η (ζ I)=aR n (ss.take k):=by
 rw[IL hI (by simp[aR];omega)]
 unfold aR;rw[ard]
theorem KP(H:Net n ss) {N:Int}(hN:N=n) {k:Nat}(hk:k<=ss.length) {I:Int}(hI:I=k) {p:af}{c:aa}(hp:p [a0,a1,a2,ζ (.int N),ζ (.lst (aR n ss)),a5,a6,a7,a8,a9,cG,bV,cJ,cA,bZ,bR] c=.ok (.int I) c):aC 2 kN (ao (ak 3) (ao (gD (ak 4) gE (gw p)) aq)) [a0,a1,a2,ζ (.int N),ζ (.lst (aR n ss)),a5,a6,a7,a8,a9,cG,bV,cJ,cA,bZ,bR] c=.ok (aN (b7 (n*n) (bS n (ss.take k)))) c:=by
 refine ji (x:=.int N) (y:=.lst (aR n (ss.take k))) rfl ?_ (Nz (H.take k) hN c);rw[<-akk hk hI];have eY:gw p [a0,a1,a2,ζ (.int N),ζ (.lst (aR n ss)),a5,a6,a7,a8,a9,cG,bV,cJ,cA,bZ,bR] c=.ok (ζ I) c:=by
  unfold gw;rw[hp];rfl
 unfold gD;rw[show ak 4 [a0,a1,a2,ζ (.int N),ζ (.lst (aR n ss)),a5,a6,a7,a8,a9,cG,bV,cJ,cA,bZ,bR] c=.ok (.lst (aR n ss)) c from rfl,R.aA,show gE [a0,a1,a2,ζ (.int N),ζ (.lst (aR n ss)),a5,a6,a7,a8,a9,cG,bV,cJ,cA,bZ,bR] c=.ok η c from rfl,R.aA,eY,R.aA]
 rfl
theorem f4b(H:Net n ss) {N:Int}(hN:N=n) {k:Nat}(hk:k<ss.length) {I:Int}(hI:I=k) (c:aa):∃w8 w9,zN [a0,a1,a2,ζ (.int N),ζ (.lst (aR n ss)),a5,a6,ζ (.int I),a8,a9,cG,bV,cJ,cA,bZ,bR] c=.ok (.nx [a0,a1,a2,ζ (.int N),ζ (.lst (aR n ss)),a5,a6,ζ (.int I),w8,w9,cG,bV,cJ,cA,bZ,bR]) c:=by
 have n2:=H.two;have n7:=H.iw;have h8:=DT (H.take k) hN (G:=(k:Int)+2) (by rw[aqv];omega) (KP (a0:=a0) (a1:=a1) (a2:=a2) (a5:=a5) (a6:=a6) (a7:=ζ (.int I)) (a8:=a8) (a9:=a9) (cG:=cG) (bV:=bV) (cJ:=cJ) (cA:=cA) (bZ:=bZ) (bR:=bR) (p:=ak 7) H hN (k:=k) (by omega) hI (c:=c) rfl)
 have h9:=DT (H.take (k+1)) hN (G:=(k:Int)+3) (by rw[aqv];omega) (KP (a0:=a0) (a1:=a1) (a2:=a2) (a5:=a5) (a6:=a6) (a7:=ζ (.int I)) (a8:=ζ (.int (N*N*(((k:Int)+2)*(N-1))))) (a9:=a9) (cG:=cG) (bV:=bV) (cJ:=cJ) (cA:=cA) (bZ:=bZ) (bR:=bR) (p:=au br (ak 7) (dC (.int 1))) H hN (k:=k+1) (by omega) (I:=I+1) (by omega) (c:=c) rfl)
 have m1:aW (.int N) (.int N) c=.ok (.int (N*N)) c:=jV (by omega) (by omega) c
 have nn:N*N<=7*7:=by subst hN;have:=arH n7 n7;omega
 have np:0<=N*N:=by subst hN;exact Int.natCast_nonneg (n*n)
 have m2:aW (.int (N*N)) (.int (N-1)) c=.ok (.int (N*N*(N-1))) c:=jV (by omega) (by omega) c
 have e:N*N*(((k:Int)+3)*(N-1))-N*N*(((k:Int)+2)*(N-1))=N*N*(N-1):=by
  rw[<-Int.mul_sub,<-Int.sub_mul]
  congr 1
  have:(k:Int)+3-((k:Int)+2)=1:=by omega
  rw[this,asJ]
 refine⟨ζ (.int (N*N*(((k:Int)+2)*(N-1)))),ζ (.int (N*N*(((k:Int)+3)*(N-1)))),?_⟩;unfold zN;refine(bL (iY (i:=8) h8)).trans ((bL (iY (i:=9) h9)).trans ?_);show(bU _ _ _) [a0,a1,a2,ζ (.int N),ζ (.lst (aR n ss)),a5,a6,ζ (.int I),ζ (.int (N*N*(((k:Int)+2)*(N-1)))),ζ (.int (N*N*(((k:Int)+3)*(N-1)))),cG,bV,cJ,cA,bZ,bR] c=_;simp[m1,m2,e]
theorem Ym{d:af}{e:Ev}{c:aa}{N:Int}(h:d e c=.ok (.int N) c) (h0:-1000<N) (h1:N<1000):bg (ao d aq) e c=.ok ⟨bf 0 N,λ_=>True⟩ c:=by
 simp only[gM,bJ,h,bI,R.aA];rw[if_pos (by omega)]
theorem f4(H:Net n ss) {N:Int}(hN:N=n) (c:aa):∃w7 w8 w9,q4 [a0,a1,a2,ζ (.int N),ζ (.lst (aR n ss)),a5,a6,a7,a8,a9,cG,bV,cJ,cA,bZ,bR] c=.ok (.nx [a0,a1,a2,ζ (.int N),ζ (.lst (aR n ss)),a5,a6,w7,w8,w9,cG,bV,cJ,cA,bZ,bR]) c:=by
 have n7:=H.iw;have fw:=H.few;obtain⟨e',c',⟨rfl,w7,w8,w9,rfl⟩,hf⟩:=oX (g:=az 7) (s:=zN) (λe c'=>c'=c/\∃w7 w8 w9,e=[a0,a1,a2,ζ (.int N),ζ (.lst (aR n ss)),a5,a6,w7,w8,w9,cG,bV,cJ,cA,bZ,bR]) (bf 0 (ss.length:Int)) _ c ⟨rfl,a7,a8,a9,rfl⟩ (λt ht e c' ⟨hc,w7,w8,w9,he⟩=>by
  subst hc he;obtain⟨i,rfl,i0,i1⟩:=lO ht;obtain⟨u8,u9,h⟩:=f4b (a0:=a0) (a1:=a1) (a2:=a2) (a5:=a5) (a6:=a6) (a8:=w8) (a9:=w9) (cG:=cG) (bV:=bV) (cJ:=cJ) (cA:=cA) (bZ:=bZ) (bR:=bR) H hN (k:=i.toNat) (by omega) (I:=i) (by omega) c'
  exact⟨_,_,_,_,rfl,h,rfl,_,_,_,rfl⟩)
 refine⟨w7,w8,w9,?_⟩;unfold q4;rw[fJ];have hs:(bg (ao (aF aY (ao (ak 4) aq)) aq)) [a0,a1,a2,ζ (.int N),ζ (.lst (aR n ss)),a5,a6,a7,a8,a9,cG,bV,cJ,cA,bZ,bR] c'=.ok ⟨bf 0 (ss.length:Int),λ_=>True⟩ c':=by
  exact Ym (jh (d1:=ak 4) rfl (Av n ss c')) (by omega) (by omega)
 rw[hs,R.aA];exact hf
def CL(n:Nat) (f:Nat->Nat):List D:=(θ n).map λr=>D.int (((n*r+f r:Nat)):Int)
theorem alu(L:dW n s) (n7:n<=7) {x:Nat}(hx:x<n) {N X:Int}(hN:N=n) (hX:X=x) (c:aa):∃f:Nat->Nat,(∀r,r<n->f r<n/\s r (f r)=x)/\IX [a0,a1,a2,ζ (.int N),a4,a5,a6,a7,a8,a9,ζ (.int X),ζ (aU n s),cJ,cA,bZ,bR] c=.ok (.lst (CL n f)) c:=by
 have ex:∀r,∃y,r<n->(y<n/\s r y=x)/\uW (au aE (ak 3) (ak 0)) (ak 2) [ζ (.int (r:Int)),ζ (.int N),ζ (.int X),ζ (aU n s)] c=.ok (.int (y:Nat)) c:=λr=>by
  by_cases hr:r<n
  ·obtain⟨y,h1,h2,h3⟩:=ag1 L hr hx (o:=au aE (ak 3) (ak 0)) (a:=ak 2) (e:=[ζ (.int (r:Int)),ζ (.int N),ζ (.int X),ζ (aU n s)]) (c:=c) (gj (f:=aE) rfl rfl (Gf rfl (by rw[apM,aqr hr];rfl) c)) (by rw[hX];rfl)
   exact⟨y,λ_=>⟨⟨h1,h2⟩,h3⟩⟩
  ·exact⟨0,λh=>absurd h hr⟩
 obtain⟨f,hf⟩:=Classical.axiomOfChoice ex;refine⟨f,λr hr=>(hf r hr).1,?_⟩
 unfold IX;refine uA (n:=n) (d:=ak 3) (N:=N) (λr=>D.int (((n*r+f r:Nat)):Int)) rfl hN (by omega) (E:=[ζ (.int N),ζ (.int X),ζ (aU n s)]) rfl λr hr=>?_
 refine gj (f:=br) (x:=.int ((r:Int)*N)) (y:=.int (f r:Nat)) (gj (f:=aW) rfl rfl (jV (by omega) (by omega) c)) (hf r hr).2 ?_
 rw[lz,hN,ar3,aqA,Int.mul_comm]
theorem f6i{s:Nat->Nat->Nat}(hs:s∈ss) {f:Nat->Nat}{x:Nat}(hf:∀r,r<n->f r<n/\s r (f r)=x) {a b:Nat}(ha:a<n) (hb:b<a) {I J:Int}(hI:I=a) (hJ:J=b) (c:aa):zM [a0,a1,a2,a3,a4,ζ (aN (b7 (n*n) (bS n ss))),a6,a7,a8,a9,cG,bV,ζ (.lst (CL n f)),ζ (.int I),ζ (.int J),bR] c=.ok (.nx [a0,a1,a2,a3,a4,ζ (aN (b7 (n*n) (bS n ss))),a6,a7,a8,a9,cG,bV,ζ (.lst (CL n f)),ζ (.int I),ζ (.int J),bR]) c:=by
 have at_:∀{r:Nat}{K:Int},K=r->r<n->aE (.lst (CL n f)) (.int K) c=.ok (.int (((n*r+f r:Nat)):Int)) c:=fun{r K} hK hr=>xN hK (by unfold CL;rw[apM,aqr hr];rfl) c
 have hbn:b<n:=by omega
 obtain⟨d1,m1⟩:=vJ (x:=a) (hf a ha).1;obtain⟨d2,m2⟩:=vJ (x:=b) (hf b hbn).1;have ht:=CS (s:=s) (ss:=ss) (n:=n) (.tail _ (.tail _ hs)) (i:=n*a+f a) (j:=n*b+f b) rfl rfl (tN ha (hf a ha).1) (tN hbn (hf b hbn).1) (λe=>by rw[<-e]at d1;omega) (by rw[d1,m1,d2,m2,(hf a ha).2,(hf b hbn).2]) c
 have hc:=B6 (m:=jX) (d1:=ak 5) (d2:=au aE (ak 12) (ak 13)) (d3:=au aE (ak 12) (ak 14)) (e:=[a0,a1,a2,a3,a4,ζ (aN (b7 (n*n) (bS n ss))),a6,a7,a8,a9,cG,bV,ζ (.lst (CL n f)),ζ (.int I),ζ (.int J),bR]) (c:=c) rfl (gj (f:=aE) rfl rfl (at_ hI ha)) (gj (f:=aE) rfl rfl (at_ hJ hbn)) ht;unfold zM;rw[iV,CM,zf,hc];rfl
theorem f6m{s:Nat->Nat->Nat}(hs:s∈ss) {f:Nat->Nat}{x:Nat}(hf:∀r,r<n->f r<n/\s r (f r)=x) (n7:n<=7) {a:Nat}(ha:a<n) {I:Int}(hI:I=a) (c:aa):∃dM,zL [a0,a1,a2,a3,a4,ζ (aN (b7 (n*n) (bS n ss))),a6,a7,a8,a9,cG,bV,ζ (.lst (CL n f)),ζ (.int I),bZ,bR] c=.ok (.nx [a0,a1,a2,a3,a4,ζ (aN (b7 (n*n) (bS n ss))),a6,a7,a8,a9,cG,bV,ζ (.lst (CL n f)),ζ (.int I),dM,bR]) c:=by
 obtain⟨e',c',⟨rfl,dM,rfl⟩,h⟩:=oX (g:=az 14) (s:=zM) (λe c'=>c'=c/\∃dM,e=[a0,a1,a2,a3,a4,ζ (aN (b7 (n*n) (bS n ss))),a6,a7,a8,a9,cG,bV,ζ (.lst (CL n f)),ζ (.int I),dM,bR]) (bf 0 I) _ c ⟨rfl,bZ,rfl⟩ (λt ht e c' ⟨hc,dM,he⟩=>by
  subst hc he;obtain⟨i,rfl,i0,i1⟩:=lO ht;exact⟨_,_,_,_,rfl,f6i hs hf ha (b:=i.toNat) (by omega) hI (J:=i) (by omega) c',rfl,_,rfl⟩)
 refine⟨dM,?_⟩;unfold zL;rw[fJ];have hr:(bg (ao (ak 13) aq)) [a0,a1,a2,a3,a4,ζ (aN (b7 (n*n) (bS n ss))),a6,a7,a8,a9,cG,bV,ζ (.lst (CL n f)),ζ (.int I),bZ,bR] c'=.ok ⟨bf 0 I,λ_=>True⟩ c':=by
  have b:-4611686018427387904<=I/\I<4611686018427387904:=by omega
  simp[b]
 rw[hr,R.aA];exact h
theorem f6o{s:Nat->Nat->Nat}(hs:s∈ss) {f:Nat->Nat}{x:Nat}(hf:∀r,r<n->f r<n/\s r (f r)=x) (n7:n<=7) {N:Int}(hN:N=n) (c:aa):∃fj dM,zK [a0,a1,a2,ζ (.int N),a4,ζ (aN (b7 (n*n) (bS n ss))),a6,a7,a8,a9,cG,bV,ζ (.lst (CL n f)),cA,bZ,bR] c=.ok (.nx [a0,a1,a2,ζ (.int N),a4,ζ (aN (b7 (n*n) (bS n ss))),a6,a7,a8,a9,cG,bV,ζ (.lst (CL n f)),fj,dM,bR]) c:=by
 obtain⟨e',c',⟨rfl,fj,dM,rfl⟩,h⟩:=oX (g:=az 13) (s:=zL) (λe c'=>c'=c/\∃fj dM,e=[a0,a1,a2,ζ (.int N),a4,ζ (aN (b7 (n*n) (bS n ss))),a6,a7,a8,a9,cG,bV,ζ (.lst (CL n f)),fj,dM,bR]) (bf 0 N) _ c ⟨rfl,cA,bZ,rfl⟩ (λt ht e c' ⟨hc,fj,dM,he⟩=>by
  subst hc he;obtain⟨i,rfl,i0,i1⟩:=lO ht;obtain⟨u,h⟩:=f6m (a0:=a0) (a1:=a1) (a2:=a2) (a3:=ζ (.int N)) (a4:=a4) (a6:=a6) (a7:=a7) (a8:=a8) (a9:=a9) (cG:=cG) (bV:=bV) (bZ:=dM) (bR:=bR) hs hf n7 (a:=i.toNat) (by omega) (I:=i) (by omega) c'
  exact⟨_,_,_,_,rfl,h,rfl,_,_,rfl⟩)
 refine⟨fj,dM,?_⟩;unfold zK;rw[fJ];have hr:(bg (ao (ak 3) aq)) [a0,a1,a2,ζ (.int N),a4,ζ (aN (b7 (n*n) (bS n ss))),a6,a7,a8,a9,cG,bV,ζ (.lst (CL n f)),cA,bZ,bR] c'=.ok ⟨bf 0 N,λ_=>True⟩ c':=by
  have b:-4611686018427387904<=N/\N<4611686018427387904:=by omega
  simp[b]
 rw[hr,R.aA];exact h
theorem f6(H:Net n ss) {N X:Int}(hN:N=n) {x:Nat}(hx:x<n) (hX:X=x) (c:aa):∃iJ g9 fj dM,q6 [a0,a1,a2,ζ (.int N),ζ (.lst (aR n ss)),ζ (aN (b7 (n*n) (bS n ss))),a6,a7,a8,a9,ζ (.int X),bV,cJ,cA,bZ,bR] c=.ok (.nx [a0,a1,a2,ζ (.int N),ζ (.lst (aR n ss)),ζ (aN (b7 (n*n) (bS n ss))),a6,a7,a8,a9,ζ (.int X),iJ,g9,fj,dM,bR]) c:=by
 obtain⟨e',c',⟨rfl,iJ,g9,fj,dM,rfl⟩,h⟩:=oX (g:=az 11) (s:=aD Ms zK) (λe c'=>c'=c/\∃iJ g9 fj dM,e=[a0,a1,a2,ζ (.int N),ζ (.lst (aR n ss)),ζ (aN (b7 (n*n) (bS n ss))),a6,a7,a8,a9,ζ (.int X),iJ,g9,fj,dM,bR]) (aR n ss) _ c ⟨rfl,bV,cJ,cA,bZ,rfl⟩ (λt ht e c' ⟨hc,iJ,g9,fj,dM,he⟩=>by
  subst hc he;obtain⟨s,hs,rfl⟩:=apv.mp ht;obtain⟨f,hf,hc⟩:=alu (a0:=a0) (a1:=a1) (a2:=a2) (a4:=ζ (.lst (aR n ss))) (a5:=ζ (aN (b7 (n*n) (bS n ss)))) (a6:=a6) (a7:=a7) (a8:=a8) (a9:=a9) (cJ:=g9) (cA:=fj) (bZ:=dM) (bR:=bR) (H.lat s hs) H.iw hx hN hX c';obtain⟨u,v,h⟩:=f6o (a0:=a0) (a1:=a1) (a2:=a2) (a4:=ζ (.lst (aR n ss))) (a6:=a6) (a7:=a7) (a8:=a8) (a9:=a9) (cG:=ζ (.int X)) (bV:=ζ (aU n s)) (cA:=fj) (bZ:=dM) (bR:=bR) hs hf H.iw hN c';exact⟨_,_,_,_,rfl,(bL (iY (i:=12) hc)).trans h,rfl,_,_,_,_,rfl⟩)
 refine⟨iJ,g9,fj,dM,?_⟩;unfold q6;rw[fJ];exact h
theorem f7b(H:Net n ss) {N X:Int}(hN:N=n) {x:Nat}(hx:x<n) (hX:X=x) {y:Nat}(h1:1<=y) (hy:y<n) {Y:Int}(hY:Y=y) (c:aa):zJ [a0,a1,a2,ζ (.int N),a4,ζ (aN (b7 (n*n) (bS n ss))),a6,a7,a8,a9,ζ (.int X),bV,cJ,cA,bZ,ζ (.int Y)] c=.ok (.nx [a0,a1,a2,ζ (.int N),a4,ζ (aN (b7 (n*n) (bS n ss))),a6,a7,a8,a9,ζ (.int X),bV,cJ,cA,bZ,ζ (.int Y)]) c:=by
 have n2:=H.two;have n7:=H.iw;have n0:0<n:=by omega
 obtain⟨d0,m0⟩:=vJ (n:=n) (x:=x) (y:=0) n0;obtain⟨d1,m1⟩:=vJ (n:=n) (x:=x) hy;obtain⟨d2,m2⟩:=vJ (n:=n) (x:=0) hx;obtain⟨d3,m3⟩:=vJ (n:=n) (x:=y) hx;have Pf:N*X=(((n*x+0:Nat)):Int):=by rw[arv,aqA,hN,hX]
 have t1:=CS (s:=λx _=>x) (ss:=ss) (n:=n) (.head _) (i:=n*x+0) (j:=n*x+y) (I:=N*X) (J:=N*X+Y) Pf (by rw[Pf,hY];omega) (tN hx n0) (tN hx hy) (by omega) (by rw[d0,d1]) c
 have t2:=CS (s:=λ_ y=>y) (ss:=ss) (n:=n) (.tail _ (.head _)) (i:=n*0+x) (j:=n*y+x) (I:=X) (J:=N*Y+X) (by rw[hX];omega) (by rw[ar3,aqA,hN,hY,hX]) (tN n0 hx) (tN hy hx) (λe=>by rw[e,d2]at d3;omega) (by rw[m2,m3]) c
 have e1:aW (.int N) (.int X) c=.ok (.int (N*X)) c:=jV (by omega) (by omega) c
 have e2:aW (.int N) (.int Y) c=.ok (.int (N*Y)) c:=jV (by omega) (by omega) c
 simp[zJ,e1,e2,t1,t2]
theorem f7(H:Net n ss) {N X:Int}(hN:N=n) {x:Nat}(hx:x<n) (hX:X=x) (c:aa):∃iI,q7 [a0,a1,a2,ζ (.int N),a4,ζ (aN (b7 (n*n) (bS n ss))),a6,a7,a8,a9,ζ (.int X),bV,cJ,cA,bZ,bR] c=.ok (.nx [a0,a1,a2,ζ (.int N),a4,ζ (aN (b7 (n*n) (bS n ss))),a6,a7,a8,a9,ζ (.int X),bV,cJ,cA,bZ,iI]) c:=by
 have n7:=H.iw;obtain⟨e',c',⟨rfl,iI,rfl⟩,h⟩:=oX (g:=az 15) (s:=zJ) (λe c'=>c'=c/\∃iI,e=[a0,a1,a2,ζ (.int N),a4,ζ (aN (b7 (n*n) (bS n ss))),a6,a7,a8,a9,ζ (.int X),bV,cJ,cA,bZ,iI]) (bf 1 N) _ c ⟨rfl,bR,rfl⟩ (λt ht e c' ⟨hc,iI,he⟩=>by
  subst hc he;obtain⟨i,rfl,i0,i1⟩:=lO ht;exact⟨_,_,_,_,rfl,f7b H hN hx hX (y:=i.toNat) (by omega) (by omega) (Y:=i) (by omega) c',rfl,_,rfl⟩)
 refine⟨iI,?_⟩;unfold q7;rw[fJ];have hr:(j9 (ao (dC (.int 1)) (ao (ak 3) aq))) [a0,a1,a2,ζ (.int N),a4,ζ (aN (b7 (n*n) (bS n ss))),a6,a7,a8,a9,ζ (.int X),bV,cJ,cA,bZ,bR] c'=.ok ⟨bf 1 N,λ_=>True⟩ c':=by
  have b:-4611686018427387904<=N/\N<4611686018427387904:=by omega
  simp[b]
 rw[hr,R.aA];exact h
end
theorem abg{ns:List Int}{i:Int}(hi:0<=i) (c:aa) (v2 v3 v4 v5 v6 v7 v8 v9 v10 v11 pT pS pR nM:Option D) :
  ∃e' c',(∃w1 w2 w3 w4 w5 w6 w7 w8 w9 gR iJ g9 fj dM iI,e'=[ζ (.cH ns),w1,w2,w3,w4,w5,w6,w7,w8,w9,gR,iJ,g9,fj,dM,iI])/\tY [ζ (.cH ns),ζ (.int i),v2,v3,v4,v5,v6,v7,v8,v9,v10,v11,pT,pS,pR,nM] c=.ok (.nx e') c':=by
 obtain⟨x,hx⟩:=alv ns i hi c;obtain⟨p,hp⟩:=Zs x c;obtain⟨n,ss,c1,H,P1,t1⟩:=V0 (j:=c.length) (m:=c.length+1) (c:=c++[.lst [.int p]]) ⟨by simp,by omega,p,by simp⟩
 have n2:=H.two;have n7:=H.iw;have nn:n*n<50:=aqL (arH n7 n7) (by decide)
 have h0:0<n*n:=ar7 (by omega) (by omega)
 obtain⟨N,hN⟩:∃N:Int,N=(n:Int):=⟨_,rfl⟩;rw[<-hN]at t1;obtain⟨G,hG⟩:∃G:Int,G=(ss.length:Int)+2:=⟨_,rfl⟩
 by_cases h7:N<7
 ·obtain⟨y,c2,y0,y1,P2,t2⟩:=rO (cZ:=N) P1 (by omega) (by omega)
  have ev:=ai9 (Uk (N:=n*n) (f:=bS n ss) (by omega)) (by rw[fR];exact h0) c1
  rw[aeg H hN hG]at ev;have m1:aW (.int N) (.int N) c1=.ok (.int (N*N)) c1:=jV (by omega) (by omega) c1
  have nq:N*N=((n*n:Nat):Int):=by rw[aqA,hN]
  have m2:aW (.int (N*N)) (.int (N*N-1)) c1=.ok (.int (N*N*(N*N-1))) c1:=jV (by omega) (by omega) c1
  obtain⟨u7,u8,u9,h4⟩:=f4 (a0:=ζ (.cH ns)) (a1:=ζ (.int i)) (a2:=ζ (.ref c.length)) (a5:=ζ (aN (b7 (n*n) (bS n ss)))) (a6:=ζ (.int (N*N*(G*(N-1))))) (a7:=v7) (a8:=v8) (a9:=v9) (cG:=v10) (bV:=v11) (cJ:=pT) (cA:=pS) (bZ:=pR) (bR:=nM) H hN c1;obtain⟨K9,K8,K7,K6,h6⟩:=f6 (a0:=ζ (.cH ns)) (a1:=ζ (.int i)) (a2:=ζ (.ref c.length)) (a6:=ζ (.int (N*N*(G*(N-1))))) (a7:=u7) (a8:=u8) (a9:=u9) (bV:=v11) (cJ:=pT) (cA:=pS) (bZ:=pR) (bR:=nM) H hN (x:=y.toNat) (by omega) (X:=y) (by omega) c2
  obtain⟨Uw,h7'⟩:=f7 (a0:=ζ (.cH ns)) (a1:=ζ (.int i)) (a2:=ζ (.ref c.length)) (a4:=ζ (.lst (aR n ss))) (a6:=ζ (.int (N*N*(G*(N-1))))) (a7:=u7) (a8:=u8) (a9:=u9) (bV:=K9) (cJ:=K8) (cA:=K7) (bZ:=K6) (bR:=nM) H hN (x:=y.toNat) (by omega) (X:=y) (by omega) c2
  have hw:(ss.length:Int)=N-1->N*N*(G*(N-1))=N*N*(N*N-1):=λe=>by
   have:G=N+1:=by omega
   have e2:(N+1)*(N-1)=N*N-1:=by
    rw[atM,Int.mul_sub,asJ,Int.mul_one];omega
   rw[this,e2]
  have hsum:=DT H hN hG (d:=ak 5) (e:=[ζ (.cH ns),ζ (.int i),ζ (.ref c.length),ζ (.int N),ζ (.lst (aR n ss)),ζ (aN (b7 (n*n) (bS n ss))),v6,v7,v8,v9,v10,v11,pT,pS,pR,nM]) (c:=c1) rfl;refine⟨[ζ (.cH ns),ζ (.int i),ζ (.ref c.length),ζ (.int N),ζ (.lst (aR n ss)),ζ (aN (b7 (n*n) (bS n ss))),ζ (.int (N*N*(G*(N-1)))),u7,u8,u9,ζ (.int y),K9,K8,K7,K6,Uw],c2,⟨_,_,_,_,_,_,_,_,_,_,_,_,_,_,_,rfl⟩,?_⟩;unfold tY;refine(bL (g0 hx hp)).trans ((bL (g1 t1)).trans ?_);have hif:(aQ (au jE (ak 3) (dC (.int 7)))) [ζ (.cH ns),ζ (.int i),ζ (.ref c.length),ζ (.int N),ζ (.lst (aR n ss)),v5,v6,v7,v8,v9,v10,v11,pT,pS,pR,nM] c1=.ok ξ c1:=by simp[h7]
  rw[iV,hif,R.aA,if_pos rfl];unfold RK;exact(bL (f0 (Nz H hN c1))).trans ((bL (f1 ev (adV H hN hG c1) (aee N G c1))).trans ((bL (iY (i:=6) hsum)).trans ((bL (f3 (G:=G) (Av n ss c1) m1 m2 hw)).trans ((bL h4).trans ((bL (f5 t2)).trans ((bL h6).trans h7'))))))
 ·refine⟨[ζ (.cH ns),ζ (.int i),ζ (.ref c.length),ζ (.int N),ζ (.lst (aR n ss)),v5,v6,v7,v8,v9,v10,v11,pT,pS,pR,nM],c1,⟨_,_,_,_,_,_,_,_,_,_,_,_,_,_,_,rfl⟩,?_⟩;unfold tY;refine(bL (g0 hx hp)).trans ((bL (g1 t1)).trans ?_);have hif:(aQ (au jE (ak 3) (dC (.int 7)))) [ζ (.cH ns),ζ (.int i),ζ (.ref c.length),ζ (.int N),ζ (.lst (aR n ss)),v5,v6,v7,v8,v9,v10,v11,pT,pS,pR,nM] c1=.ok Δ c1:=by simp[h7]
  rw[iV,hif,R.aA,if_neg (by decide)]
  rfl
theorem afC(ns:List Int) (hl:ns.length<=63):∃c,xF [.cH ns] []=.ok (.bl ξ) c:=by
 obtain⟨e',c',⟨w1,w2,w3,w4,w5,w6,w7,w8,w9,gR,iJ,g9,fj,dM,iI,rfl⟩,hf⟩:=PK (g:=az 1) (s:=tY)
  (λe=>∃w1 w2 w3 w4 w5 w6 w7 w8 w9 gR iJ g9 fj dM iI,e=[ζ (.cH ns),w1,w2,w3,w4,w5,w6,w7,w8,w9,gR,iJ,g9,fj,dM,iI]) (bf 0 3) [ζ (.cH ns),η,η,η,η,η,η,η,η,η,η,η,η,η,η,η] [] ⟨_,_,_,_,_,_,_,_,_,_,_,_,_,_,_,rfl⟩ (λt ht e c ⟨w1,w2,w3,w4,w5,w6,w7,w8,w9,gR,iJ,g9,fj,dM,iI,he⟩=>by
   subst he;obtain⟨i,rfl,i0,i1⟩:=lO ht;obtain⟨e',c',ie,ho⟩:=abg (ns:=ns) i0 c w2 w3 w4 w5 w6 w7 w8 w9 gR iJ g9 fj dM iI;exact⟨_,e',_,c',rfl,ho,ie⟩)
 have hb2:vB=aD (bQ (bg (ao (dC (.int 3)) aq)) (az 1) tY) (aM (dC (.bl ξ))):=rfl;have hsr:bg (ao (dC (.int 3)) aq) [ζ (.cH ns),η,η,η,η,η,η,η,η,η,η,η,η,η,η,η] []=.ok ⟨bf 0 3,λ_=>True⟩ []:=by
  unfold bg;simp
 have e1:bQ (bg (ao (dC (.int 3)) aq)) (az 1) tY [ζ (.cH ns),η,η,η,η,η,η,η,η,η,η,η,η,η,η,η] []=.ok (.nx [ζ (.cH ns),w1,w2,w3,w4,w5,w6,w7,w8,w9,gR,iJ,g9,fj,dM,iI]) c':=by
  rw[fJ,hsr,R.aA];exact hf
 refine⟨c'.take 0,?_⟩;unfold xF bK;rw[show cT 16 [D.cH ns]=[ζ (.cH ns),η,η,η,η,η,η,η,η,η,η,η,η,η,η,η]from rfl,hb2,bL e1]
 rfl
end Ev
namespace Ev
open PySem L2 PyProof.Rows
theorem all_mk{l:ahp}{w:ψ}{K:Ω}{h:χ}{mg:Str->Option Γ}{fa:Θ}{Bw Bv By BI A3 AY AZ A0 A5 BB BG Bx A1 A9 BH BA A4 A8 A6 A7 BF BC A2 BD BE Bu Bl Ba Bk Bs Bg Bo Bb Bp Bq Bj Bc Bh Bm Bt Bf Bd Br Be HP:Θ}(X:K.In h) (G:h.Ns Ξ mg) (hfa:mg "law"=ζ (.ref fa))
  {acU amP acT amO acW amR ac6 am0 aco amm aci amh acj ami ack amj acq amo acY amT ac4 amY acV amQ acm amk acy amt ac5 amZ acX amS acp amn acw ams acu amq acv amr ac3 amX ac0 amU acn aml ac1 amV ac2 amW acR amM acJ amE acz amu acI amD acP amK acF amA acL amG acA amv acM amH acN amI acH amC acB amw acG amB acK amF acQ amL acE amz acC amx acO amJ acD amy acS amN:Option Θ}{WU WT WW Xd Wo Wi Wj Wl Wr WY Xa WV Wm Ww Xb WX Wq Wv Ws Wt W9 W0 Wn W7 W8 WR WI Wx WH WO WD WK Wy WL WM WG Wz WE WJ WQ WC WA WN WB WS:Array (Option Γ)}{adH agn ajU Z7 Rr akT adG agm ajT Z6 Rq akS adJ agp ajW Z9 Rv akV adS agz aj5 aai RE ak4 ade afV ajs ZF QT akr ac7 afQ ajn Zy QL akm ac8 afR ajo Zz QM akn ac9 afS ajp ZC QN ako adg afX aju ZH QV akt adL ags ajY aab Rx akX adQ agx aj3 aag RC ak2 adI ago ajV Z8 Ru akU ada afT ajq ZD QO akp adk af1 ajy ZL QZ akx adR agy aj4 aah RD ak3 adK agq ajX aaa Rw akW adf afW ajt ZG QU aks adj af0 ajx ZK QY akw adh afY ajv ZI QW aku adi afZ ajw ZJ QX akv adP agw aj2 aaf RB ak1 adM agt ajZ aac Ry akY adb afU ajr ZE QS akq adN agu aj0 aad Rz akZ adO agv aj1 aae RA ak0 adE agk ajR Z4 Rn akQ adw agc ajJ ZW Rb akI adl af2 ajz ZM Q0 aky adv agb ajI ZV Ra akH adC agi ajP Z2 Rj akO ads af8 ajF ZS Q7 akE ady age ajL ZY Rf akK adm af3 ajA ZN Q2 akz adz agf ajM ZZ Rg akL adA agg ajN Z0 Rh akM adu aga ajH ZU Q9 akG adn af4 ajB ZO Q3 akA adt af9 ajG ZT Q8 akF adx agd ajK ZX Rc akJ adD agj ajQ Z3 Rk akP adq af7 ajE ZR Q6 akD ado af5 ajC ZP Q4 akB adB agh ajO Z1 Ri akN adp af6 ajD ZQ Q5 akC adF agl ajS Z5 Ro akR:Γ}
  (nj:Ψ K Ξ "is_whole"=ζ (ζ (.ref Bw))) (EX:K.lookup Bw=ζ ⟨adH,acU,.func (PySem.W.fnOf "is_whole" "is_whole" (cz sV) (bY sV) (aP sV) .none agn ajU Z7 amP Rr akT),WU⟩) (JI:PySem.W.codeIn K Rr "is_whole"=ξ) (F0:PySem.W.keepIn K (.ref Bw)=ξ)
  (ni:Ψ K Ξ "is_whole_within"=ζ (ζ (.ref Bv))) (EW:K.lookup Bv=ζ ⟨adG,acT,.func (PySem.W.fnOf "is_whole_within" "is_whole_within" (cz sU) (bY sU) (aP sU) .none agm ajT Z6 amO Rq akS),WT⟩) (JH:PySem.W.codeIn K Rq "is_whole_within"=ξ) (FZ:PySem.W.keepIn K (.ref Bv)=ξ)
  (nt:Ψ K Ξ "is_place"=ζ (ζ (.ref By))) (EZ:K.lookup By=ζ ⟨adJ,acW,.func (PySem.W.fnOf "is_place" "is_place" (cz sX) (bY sX) (aP sX) .none agp ajW Z9 amR Rv akV),WW⟩) (JK:PySem.W.codeIn K Rv "is_place"=ξ) (F2:PySem.W.keepIn K (.ref By)=ξ)
  (nG:Ψ K Ξ "agree_somewhere"=ζ (ζ (.ref BI))) (E9:K.lookup BI=ζ ⟨adS,ac6,.func (PySem.W.fnOf "agree_somewhere" "agree_somewhere" (cz tL) (bY tL) (aP tL) .none agz aj5 aai am0 RE ak4),Xd⟩) (JU:PySem.W.codeIn K RE "agree_somewhere"=ξ) (Gb:PySem.W.keepIn K (.ref BI)=ξ)
  (mF:Ψ K Ξ "row_where"=ζ (ζ (.ref A3))) (Er:K.lookup A3=ζ ⟨ade,aco,.func (PySem.W.fnOf "row_where" "row_where" (cz rZ) (bY rZ) (aP rZ) .none afV ajs ZF amm QT akr),Wo⟩) (Jf:PySem.W.codeIn K QT "row_where"=ξ) (Fi:PySem.W.keepIn K (.ref A3)=ξ)
  (mw:Ψ K Ξ "web_where"=ζ (ζ (.ref AY))) (Ek:K.lookup AY=ζ ⟨ac7,aci,.func (PySem.W.fnOf "web_where" "web_where" (cz rU) (bY rU) (aP rU) .none afQ ajn Zy amh QL akm),Wi⟩) (Ja:PySem.W.codeIn K QL "web_where"=ξ) (Fb:PySem.W.keepIn K (.ref AY)=ξ)
  (mz:Ψ K Ξ "ties"=ζ (ζ (.ref AZ))) (El:K.lookup AZ=ζ ⟨ac8,acj,.func (PySem.W.fnOf "ties" "ties" (cz rV) (bY rV) (aP rV) .none afR ajo Zz ami QM akn),Wj⟩) (Jb:PySem.W.codeIn K QM "ties"=ξ) (Fc:PySem.W.keepIn K (.ref AZ)=ξ)
  (mC:Ψ K Ξ "tied"=ζ (ζ (.ref A0))) (Em:K.lookup A0=ζ ⟨ac9,ack,.func (PySem.W.fnOf "tied" "tied" (cz rW) (bY rW) (aP rW) .none afS ajp ZC amj QN ako),Wl⟩) (Jc:PySem.W.codeIn K QN "tied"=ξ) (Fe:PySem.W.keepIn K (.ref A0)=ξ)
  (mH:Ψ K Ξ "other_web"=ζ (ζ (.ref A5))) (Et:K.lookup A5=ζ ⟨adg,acq,.func (PySem.W.fnOf "other_web" "other_web" (cz qb) (bY qb) (aP qb) .none afX aju ZH amo QV akt),Wr⟩) (Jh:PySem.W.codeIn K QV "other_web"=ξ) (Fo:PySem.W.keepIn K (.ref A5)=ξ)
  (nv:Ψ K Ξ "holds_each_once"=ζ (ζ (.ref BB))) (E2:K.lookup BB=ζ ⟨adL,acY,.func (PySem.W.fnOf "holds_each_once" "holds_each_once" (cz sZ) (bY sZ) (aP sZ) .none ags ajY aab amT Rx akX),WY⟩) (JM:PySem.W.codeIn K Rx "holds_each_once"=ξ) (F4:PySem.W.keepIn K (.ref BB)=ξ)
  (nE:Ψ K Ξ "column_of"=ζ (ζ (.ref BG))) (E7:K.lookup BG=ζ ⟨adQ,ac4,.func (PySem.W.fnOf "column_of" "column_of" (cz tH) (bY tH) (aP tH) .none agx aj3 aag amY RC ak2),Xa⟩) (JR:PySem.W.codeIn K RC "column_of"=ξ) (F9:PySem.W.keepIn K (.ref BG)=ξ)
  (nk:Ψ K Ξ "is_square"=ζ (ζ (.ref Bx))) (EY:K.lookup Bx=ζ ⟨adI,acV,.func (PySem.W.fnOf "is_square" "is_square" (cz sW) (bY sW) (aP sW) .none ago ajV Z8 amQ Ru akU),WV⟩) (JJ:PySem.W.codeIn K Ru "is_square"=ξ) (F1:PySem.W.keepIn K (.ref Bx)=ξ)
  (mD:Ψ K Ξ "sign_in"=ζ (ζ (.ref A1))) (Eo:K.lookup A1=ζ ⟨ada,acm,.func (PySem.W.fnOf "sign_in" "sign_in" (cz rX) (bY rX) (aP rX) .none afT ajq ZD amk QO akp),Wm⟩) (Jd:PySem.W.codeIn K QO "sign_in"=ξ) (Ff:PySem.W.keepIn K (.ref A1)=ξ)
  (mO:Ψ K Ξ "lie_across"=ζ (ζ (.ref A9))) (Ez:K.lookup A9=ζ ⟨adk,acy,.func (PySem.W.fnOf "lie_across" "lie_across" (cz se) (bY se) (aP se) .none af1 ajy ZL amt QZ akx),Ww⟩) (Jl:PySem.W.codeIn K QZ "lie_across"=ξ) (Fw:PySem.W.keepIn K (.ref A9)=ξ)
  (nF:Ψ K Ξ "are_each_two_across"=ζ (ζ (.ref BH))) (E8:K.lookup BH=ζ ⟨adR,ac5,.func (PySem.W.fnOf "are_each_two_across" "are_each_two_across" (cz tK) (bY tK) (aP tK) .none agy aj4 aah amZ RD ak3),Xb⟩) (JT:PySem.W.codeIn K RD "are_each_two_across"=ξ) (Ga:PySem.W.keepIn K (.ref BH)=ξ)
  (nu:Ψ K Ξ "is_net"=ζ (ζ (.ref BA))) (E1:K.lookup BA=ζ ⟨adK,acX,.func (PySem.W.fnOf "is_net" "is_net" (cz sY) (bY sY) (aP sY) .none agq ajX aaa amS Rw akW),WX⟩) (JL:PySem.W.codeIn K Rw "is_net"=ξ) (F3:PySem.W.keepIn K (.ref BA)=ξ)
  (mG:Ψ K Ξ "require_net"=ζ (ζ (.ref A4))) (Es:K.lookup A4=ζ ⟨adf,acp,.func (PySem.W.fnOf "require_net" "require_net" (cz r8) (bY r8) (aP r8) .none afW ajt ZG amn QU aks),Wq⟩) (Jg:PySem.W.codeIn K QU "require_net"=ξ) (Fj:PySem.W.keepIn K (.ref A4)=ξ)
  (mL:Ψ K Ξ "lines_through"=ζ (ζ (.ref A8))) (Ey:K.lookup A8=ζ ⟨adj,acw,.func (PySem.W.fnOf "lines_through" "lines_through" (cz sd) (bY sd) (aP sd) .none af0 ajx ZK ams QY akw),Wv⟩) (Jk:PySem.W.codeIn K QY "lines_through"=ξ) (Fv:PySem.W.keepIn K (.ref A8)=ξ)
  (mJ:Ψ K Ξ "net_web"=ζ (ζ (.ref A6))) (Eu:K.lookup A6=ζ ⟨adh,acu,.func (PySem.W.fnOf "net_web" "net_web" (cz qc) (bY qc) (aP qc) .none afY ajv ZI amq QW aku),Ws⟩) (Ji:PySem.W.codeIn K QW "net_web"=ξ) (Fp:PySem.W.keepIn K (.ref A6)=ξ)
  (mK:Ψ K Ξ "net_numbers"=ζ (ζ (.ref A7))) (Ew:K.lookup A7=ζ ⟨adi,acv,.func (PySem.W.fnOf "net_numbers" "net_numbers" (cz r9) (bY r9) (aP r9) .none afZ ajw ZJ amr QX akv),Wt⟩) (Jj:PySem.W.codeIn K QX "net_numbers"=ξ) (Ft:PySem.W.keepIn K (.ref A7)=ξ)
  (nC:Ψ K Ξ "common"=ζ (ζ (.ref BF))) (E6:K.lookup BF=ζ ⟨adP,ac3,.func (PySem.W.fnOf "common" "common" (cz tG) (bY tG) (aP tG) .none agw aj2 aaf amX RB ak1),W9⟩) (JQ:PySem.W.codeIn K RB "common"=ξ) (F8:PySem.W.keepIn K (.ref BF)=ξ)
  (ny:Ψ K Ξ "first_unlike_place"=ζ (ζ (.ref BC))) (E3:K.lookup BC=ζ ⟨adM,ac0,.func (PySem.W.fnOf "first_unlike_place" "first_unlike_place" (cz tw) (bY tw) (aP tw) .none agt ajZ aac amU Ry akY),W0⟩) (JN:PySem.W.codeIn K Ry "first_unlike_place"=ξ) (F5:PySem.W.keepIn K (.ref BC)=ξ)
  (mE:Ψ K Ξ "shared_by_all"=ζ (ζ (.ref A2))) (Ep:K.lookup A2=ζ ⟨adb,acn,.func (PySem.W.fnOf "shared_by_all" "shared_by_all" (cz rY) (bY rY) (aP rY) .none afU ajr ZE aml QS akq),Wn⟩) (Je:PySem.W.codeIn K QS "shared_by_all"=ξ) (Fg:PySem.W.keepIn K (.ref A2)=ξ)
  (nA:Ψ K Ξ "first_unlike_pair"=ζ (ζ (.ref BD))) (E4:K.lookup BD=ζ ⟨adN,ac1,.func (PySem.W.fnOf "first_unlike_pair" "first_unlike_pair" (cz tE) (bY tE) (aP tE) .none agu aj0 aad amV Rz akZ),W7⟩) (JO:PySem.W.codeIn K Rz "first_unlike_pair"=ξ) (F6:PySem.W.keepIn K (.ref BD)=ξ)
  (nB:Ψ K Ξ "evenness"=ζ (ζ (.ref BE))) (E5:K.lookup BE=ζ ⟨adO,ac2,.func (PySem.W.fnOf "evenness" "evenness" (cz tF) (bY tF) (aP tF) .none agv aj1 aae amW RA ak0),W8⟩) (JP:PySem.W.codeIn K RA "evenness"=ξ) (F7:PySem.W.keepIn K (.ref BE)=ξ)
  (nh:Ψ K Ξ "_law_cell_at"=ζ (ζ (.ref Bu))) (EU:K.lookup Bu=ζ ⟨adE,acR,.func (PySem.W.fnOf "_law_cell_at" "_law_cell_at" (cz sR) (bY sR) (aP sR) .none agk ajR Z4 amM Rn akQ),WR⟩) (JF:PySem.W.codeIn K Rn "_law_cell_at"=ξ) (FW:PySem.W.keepIn K (.ref Bu)=ξ)
  (mY:Ψ K Ξ "_law_pot"=ζ (ζ (.ref Bl))) (EK:K.lookup Bl=ζ ⟨adw,acJ,.func (PySem.W.fnOf "_law_pot" "_law_pot" (cz sI) (bY sI) (aP sI) .none agc ajJ ZW amE Rb akI),WI⟩) (Jx:PySem.W.codeIn K Rb "_law_pot"=ξ) (FJ:PySem.W.keepIn K (.ref Bl)=ξ)
  (mP:Ψ K Ξ "_law_take"=ζ (ζ (.ref Ba))) (EA:K.lookup Ba=ζ ⟨adl,acz,.func (PySem.W.fnOf "_law_take" "_law_take" (cz sf) (bY sf) (aP sf) .none af2 ajz ZM amu Q0 aky),Wx⟩) (Jm:PySem.W.codeIn K Q0 "_law_take"=ξ) (Fx:PySem.W.keepIn K (.ref Ba)=ξ)
  (mX:Ψ K Ξ "_law_prime"=ζ (ζ (.ref Bk))) (EJ:K.lookup Bk=ζ ⟨adv,acI,.func (PySem.W.fnOf "_law_prime" "_law_prime" (cz sH) (bY sH) (aP sH) .none agb ajI ZV amD Ra akH),WH⟩) (Jw:PySem.W.codeIn K Ra "_law_prime"=ξ) (FI:PySem.W.keepIn K (.ref Bk)=ξ)
  (nc:Ψ K Ξ "_law_degree"=ζ (ζ (.ref Bs))) (ES:K.lookup Bs=ζ ⟨adC,acP,.func (PySem.W.fnOf "_law_degree" "_law_degree" (cz sP) (bY sP) (aP sP) .none agi ajP Z2 amK Rj akO),WO⟩) (JD:PySem.W.codeIn K Rj "_law_degree"=ξ) (FT:PySem.W.keepIn K (.ref Bs)=ξ)
  (mU:Ψ K Ξ "_law_row"=ζ (ζ (.ref Bg))) (EG:K.lookup Bg=ζ ⟨ads,acF,.func (PySem.W.fnOf "_law_row" "_law_row" (cz sD) (bY sD) (aP sD) .none af8 ajF ZS amA Q7 akE),WD⟩) (Jt:PySem.W.codeIn K Q7 "_law_row"=ξ) (FF:PySem.W.keepIn K (.ref Bg)=ξ)
  (m5:Ψ K Ξ "_law_number"=ζ (ζ (.ref Bo))) (EM:K.lookup Bo=ζ ⟨ady,acL,.func (PySem.W.fnOf "_law_number" "_law_number" (cz sL) (bY sL) (aP sL) .none age ajL ZY amG Rf akK),WK⟩) (Jz:PySem.W.codeIn K Rf "_law_number"=ξ) (FN:PySem.W.keepIn K (.ref Bo)=ξ)
  (k7:Ψ K Ξ "_law_sums_product"=ζ (ζ (.ref Bb))) (EB:K.lookup Bb=ζ ⟨adm,acA,.func (PySem.W.fnOf "_law_sums_product" "_law_sums_product" (cz sj) (bY sj) (aP sj) .none af3 ajA ZN amv Q2 akz),Wy⟩) (Jo:PySem.W.codeIn K Q2 "_law_sums_product"=ξ) (Fy:PySem.W.keepIn K (.ref Bb)=ξ)
  (m7:Ψ K Ξ "_law_heads"=ζ (ζ (.ref Bp))) (EN:K.lookup Bp=ζ ⟨adz,acM,.func (PySem.W.fnOf "_law_heads" "_law_heads" (cz sM) (bY sM) (aP sM) .none agf ajM ZZ amH Rg akL),WL⟩) (JA:PySem.W.codeIn K Rg "_law_heads"=ξ) (FO:PySem.W.keepIn K (.ref Bp)=ξ)
  (m8:Ψ K Ξ "_law_form"=ζ (ζ (.ref Bq))) (EO:K.lookup Bq=ζ ⟨adA,acN,.func (PySem.W.fnOf "_law_form" "_law_form" (cz sN) (bY sN) (aP sN) .none agg ajN Z0 amI Rh akM),WM⟩) (JB:PySem.W.codeIn K Rh "_law_form"=ξ) (FP:PySem.W.keepIn K (.ref Bq)=ξ)
  (mW:Ψ K Ξ "_law_product"=ζ (ζ (.ref Bj))) (EI:K.lookup Bj=ζ ⟨adu,acH,.func (PySem.W.fnOf "_law_product" "_law_product" (cz sG) (bY sG) (aP sG) .none aga ajH ZU amC Q9 akG),WG⟩) (Jv:PySem.W.codeIn K Q9 "_law_product"=ξ) (FH:PySem.W.keepIn K (.ref Bj)=ξ)
  (mQ:Ψ K Ξ "_law_sum"=ζ (ζ (.ref Bc))) (EC:K.lookup Bc=ζ ⟨adn,acB,.func (PySem.W.fnOf "_law_sum" "_law_sum" (cz su) (bY su) (aP su) .none af4 ajB ZO amw Q3 akA),Wz⟩) (Jp:PySem.W.codeIn K Q3 "_law_sum"=ξ) (Fz:PySem.W.keepIn K (.ref Bc)=ξ)
  (mV:Ψ K Ξ "_law_products_of"=ζ (ζ (.ref Bh))) (EH:K.lookup Bh=ζ ⟨adt,acG,.func (PySem.W.fnOf "_law_products_of" "_law_products_of" (cz sE) (bY sE) (aP sE) .none af9 ajG ZT amB Q8 akF),WE⟩) (Ju:PySem.W.codeIn K Q8 "_law_products_of"=ξ) (FG:PySem.W.keepIn K (.ref Bh)=ξ)
  (mZ:Ψ K Ξ "_law_order"=ζ (ζ (.ref Bm))) (EL:K.lookup Bm=ζ ⟨adx,acK,.func (PySem.W.fnOf "_law_order" "_law_order" (cz sJ) (bY sJ) (aP sJ) .none agd ajK ZX amF Rc akJ),WJ⟩) (Jy:PySem.W.codeIn K Rc "_law_order"=ξ) (FL:PySem.W.keepIn K (.ref Bm)=ξ)
  (ng:Ψ K Ξ "_law_cycled"=ζ (ζ (.ref Bt))) (ET:K.lookup Bt=ζ ⟨adD,acQ,.func (PySem.W.fnOf "_law_cycled" "_law_cycled" (cz sQ) (bY sQ) (aP sQ) .none agj ajQ Z3 amL Rk akP),WQ⟩) (JE:PySem.W.codeIn K Rk "_law_cycled"=ξ) (FU:PySem.W.keepIn K (.ref Bt)=ξ)
  (mT:Ψ K Ξ "_law_six"=ζ (ζ (.ref Bf))) (EF:K.lookup Bf=ζ ⟨adq,acE,.func (PySem.W.fnOf "_law_six" "_law_six" (cz sC) (bY sC) (aP sC) .none af7 ajE ZR amz Q6 akD),WC⟩) (Js:PySem.W.codeIn K Q6 "_law_six"=ξ) (FE:PySem.W.keepIn K (.ref Bf)=ξ)
  (mR:Ψ K Ξ "_law_square"=ζ (ζ (.ref Bd))) (ED:K.lookup Bd=ζ ⟨ado,acC,.func (PySem.W.fnOf "_law_square" "_law_square" (cz sy) (bY sy) (aP sy) .none af5 ajC ZP amx Q4 akB),WA⟩) (Jq:PySem.W.codeIn K Q4 "_law_square"=ξ) (FA:PySem.W.keepIn K (.ref Bd)=ξ)
  (m9:Ψ K Ξ "_law_field_squares"=ζ (ζ (.ref Br))) (ER:K.lookup Br=ζ ⟨adB,acO,.func (PySem.W.fnOf "_law_field_squares" "_law_field_squares" (cz sO) (bY sO) (aP sO) .none agh ajO Z1 amJ Ri akN),WN⟩) (JC:PySem.W.codeIn K Ri "_law_field_squares"=ξ) (FQ:PySem.W.keepIn K (.ref Br)=ξ)
  (mS:Ψ K Ξ "_law_some_net"=ζ (ζ (.ref Be))) (EE:K.lookup Be=ζ ⟨adp,acD,.func (PySem.W.fnOf "_law_some_net" "_law_some_net" (cz sA) (bY sA) (aP sA) .none af6 ajD ZQ amy Q5 akC),WB⟩) (Jr:PySem.W.codeIn K Q5 "_law_some_net"=ξ) (FD:PySem.W.keepIn K (.ref Be)=ξ)
  (k8:Ψ K Ξ "law"=ζ (ζ (.ref HP))) (EV:K.lookup HP=ζ ⟨adF,acS,.func (PySem.W.fnOf "law" "law" (cz sS) (bY sS) (aP sS) .none agl ajS Z5 amN Ro akR),WS⟩) (JG:PySem.W.codeIn K Ro "law"=ξ) (FY:PySem.W.keepIn K (.ref HP)=ξ)
  (CF:Ψ K Ξ "all"=ζ η)
  (CD:Ψ K Ξ "any"=ζ η)
  (CC:Ψ K Ξ "bool"=ζ η)
  (CB:Ψ K Ξ "enumerate"=ζ η)
  (CA:Ψ K Ξ "int"=ζ η)
  (Cz:Ψ K Ξ "isinstance"=ζ η)
  (Cy:Ψ K Ξ "len"=ζ η)
  (Cw:Ψ K Ξ "list"=ζ η)
  (Cv:Ψ K Ξ "max"=ζ η)
  (Cu:Ψ K Ξ "range"=ζ η)
  (Ct:Ψ K Ξ "set"=ζ η)
  (Cs:Ψ K Ξ "sorted"=ζ η)
  (Cr:Ψ K Ξ "sum"=ζ η)
  (Cq:Ψ K Ξ "tuple"=ζ η)
  (Cp:Ψ K Ξ "zip"=ζ η)
  {vY:Tok}(CG:Ψ K Ξ "MOST_SIGNS"=ζ (ζ (.int 7 vY)))
  {vZ:Tok}(CH:Ψ K Ξ "LEAST_IN_NET"=ζ (ζ (.int 2 vZ)))
  {nS nQ:Θ}(pW:PySem.W.tabIn K "net_web"=ζ (nS,nQ)) (rM:PySem.W.codeHdIn K nS nQ=ξ)
  {nR nP:Θ}(pV:PySem.W.tabIn K "other_web"=ζ (nR,nP)) (rL:PySem.W.codeHdIn K nR nP=ξ)
  (pX:we K=ξ)
  : ∃fd:ν,(∀(s:ε) (v:Γ),ahI s fd ⟨[v],[]⟩ [("script",v)])/\∀base:χ,K.In base->base.Ns Ξ mg->bH l.prog w K mg base bB 8 fa fd ["script"] (bM K 1 xF):=by
 have e:=hfa.symm.trans (apB X G k8);cases e;have SY:=cI (st:=sV) EX JI F0;have pJ:=SY.binds (ps:=["thing"]) λ_ _ _ _ _ _ us hl=>match us,hl with|[_],_=>rfl
 have SX:=cI (st:=sU) EW JH FZ;have mq:=SX.binds (ps:=["thing","least","most"]) λ_ _ _ _ _ _ us hl=>match us,hl with|[_,_,_],_=>rfl
 have S3:=cI (st:=sX) EZ JK F2;have vD:=S3.binds (ps:=["thing","many"]) λ_ _ _ _ _ _ us hl=>match us,hl with|[_,_],_=>rfl
 have Te:=cI (st:=tL) E9 JU Gb;have rm:=Te.binds (ps:=["one","other"]) λ_ _ _ _ _ _ us hl=>match us,hl with|[_,_],_=>rfl
 have Sk:=cI (st:=rZ) Er Jf Fi;have vd:=Sk.binds (ps:=["many","one","are_tied"]) λ_ _ _ _ _ _ us hl=>match us,hl with|[_,_,_],_=>rfl
 have Sf:=cI (st:=rU) Ek Ja Fb;have uZ:=Sf.binds (ps:=["many","are_tied"]) λ_ _ _ _ _ _ us hl=>match us,hl with|[_,_],_=>rfl
 have Sg:=cI (st:=rV) El Jb Fc;have u5:=Sg.binds (ps:=["web"]) λ_ _ _ _ _ _ us hl=>match us,hl with|[_],_=>rfl
 have Sh:=cI (st:=rW) Em Jc Fe;have u6:=Sh.binds (ps:=["web","one","other"]) λ_ _ _ _ _ _ us hl=>match us,hl with|[_,_,_],_=>rfl
 have Sn:=cI (st:=qb) Et Jh Fo;have vf:=Sn.binds (ps:=["web"]) λ_ _ _ _ _ _ us hl=>match us,hl with|[_],_=>rfl
 have S5:=cI (st:=sZ) E2 JM F4;have vE:=S5.binds (ps:=["thing","many"]) λ_ _ _ _ _ _ us hl=>match us,hl with|[_,_],_=>rfl
 have Tc:=cI (st:=tH) E7 JR F9;have vI:=Tc.binds (ps:=["rows","y"]) λ_ _ _ _ _ _ us hl=>match us,hl with|[_,_],_=>rfl
 have S0:=cI (st:=sW) EY JJ F1;have vC:=S0.binds (ps:=["thing"]) λ_ _ _ _ _ _ us hl=>match us,hl with|[_],_=>rfl
 have Si:=cI (st:=rX) Eo Jd Ff;have qO:=Si.binds (ps:=["square","cell"]) λ_ _ _ _ _ _ us hl=>match us,hl with|[_,_],_=>rfl
 have Sv:=cI (st:=se) Ez Jl Fw;have qS:=Sv.binds (ps:=["one","other"]) λ_ _ _ _ _ _ us hl=>match us,hl with|[_,_],_=>rfl
 have Td:=cI (st:=tK) E8 JT Ga;have rj:=Td.binds (ps:=["squares"]) λ_ _ _ _ _ _ us hl=>match us,hl with|[_],_=>rfl
 have S4:=cI (st:=sY) E1 JL F3;have qY:=S4.binds (ps:=["n","thing"]) λ_ _ _ _ _ _ us hl=>match us,hl with|[_,_],_=>rfl
 have Sm:=cI (st:=r8) Es Jg Fj;have ve:=Sm.binds (ps:=["n","thing"]) λ_ _ _ _ _ _ us hl=>match us,hl with|[_,_],_=>rfl
 have Su:=cI (st:=sd) Ey Jk Fv;have qR:=Su.binds (ps:=["n","squares","cell"]) λ_ _ _ _ _ _ us hl=>match us,hl with|[_,_,_],_=>rfl
 have So:=cI (st:=qc) Eu Ji Fp;have qP:=So.binds (ps:=["n","squares"]) λ_ _ _ _ _ _ us hl=>match us,hl with|[_,_],_=>rfl
 have Ss:=cI (st:=r9) Ew Jj Ft;have qQ:=Ss.binds (ps:=["n","squares"]) λ_ _ _ _ _ _ us hl=>match us,hl with|[_,_],_=>rfl
 have S9:=cI (st:=tG) E6 JQ F8;have vH:=S9.binds (ps:=["web","one","other"]) λ_ _ _ _ _ _ us hl=>match us,hl with|[_,_,_],_=>rfl
 have S6:=cI (st:=tw) E3 JN F5;have vF:=S6.binds (ps:=["web"]) λ_ _ _ _ _ _ us hl=>match us,hl with|[_],_=>rfl
 have Sj:=cI (st:=rY) Ep Je Fg;have vc:=Sj.binds (ps:=["web","pairs"]) λ_ _ _ _ _ _ us hl=>match us,hl with|[_,_],_=>rfl
 have S7:=cI (st:=tE) E4 JO F6;have vG:=S7.binds (ps:=["web","pairs"]) λ_ _ _ _ _ _ us hl=>match us,hl with|[_,_],_=>rfl
 have S8:=cI (st:=tF) E5 JP F7;have qZ:=S8.binds (ps:=["web"]) λ_ _ _ _ _ _ us hl=>match us,hl with|[_],_=>rfl
 have SV:=cI (st:=sR) EU JF FW;have qX:=SV.binds (ps:=["script","k"]) λ_ _ _ _ _ _ us hl=>match us,hl with|[_,_],_=>rfl
 have SJ:=cI (st:=sI) EK Jx FJ;have qV:=SJ.binds (ps:=["cell"]) λ_ _ _ _ _ _ us hl=>match us,hl with|[_],_=>rfl
 have Sw:=cI (st:=sf) EA Jm Fx;have qT:=Sw.binds (ps:=["pot","far"]) λ_ _ _ _ _ _ us hl=>match us,hl with|[_,_],_=>rfl
 have SI:=cI (st:=sH) EJ Jw FI;have vo:=SI.binds (ps:=["q"]) λ_ _ _ _ _ _ us hl=>match us,hl with|[_],_=>rfl
 have SR:=cI (st:=sP) ES JD FT;have vz:=SR.binds (ps:=["q"]) λ_ _ _ _ _ _ us hl=>match us,hl with|[_],_=>rfl
 have SE:=cI (st:=sD) EG Jt FF;have vm:=SE.binds (ps:=["number","p","many"]) λ_ _ _ _ _ _ us hl=>match us,hl with|[_,_,_],_=>rfl
 have SM:=cI (st:=sL) EM Jz FN;have vq:=SM.binds (ps:=["row","p"]) λ_ _ _ _ _ _ us hl=>match us,hl with|[_,_],_=>rfl
 have Sx:=cI (st:=sj) EB Jo Fy;have mj:=Sx.binds (ps:=["one","other","p"]) λ_ _ _ _ _ _ us hl=>match us,hl with|[_,_,_],_=>rfl
 have SN:=cI (st:=sM) EN JA FO;have pI:=SN.binds (ps:=["many","p"]) λ_ _ _ _ _ _ us hl=>match us,hl with|[_,_],_=>rfl
 have SO:=cI (st:=sN) EO JB FP;have vt:=SO.binds (ps:=["q"]) λ_ _ _ _ _ _ us hl=>match us,hl with|[_],_=>rfl
 have SH:=cI (st:=sG) EI Jv FH;have vn:=SH.binds (ps:=["q","form","one","other"]) λ_ _ _ _ _ _ us hl=>match us,hl with|[_,_,_,_],_=>rfl
 have Sy:=cI (st:=su) EC Jp Fz;have vg:=Sy.binds (ps:=["q","one","other","sign"]) λ_ _ _ _ _ _ us hl=>match us,hl with|[_,_,_,_],_=>rfl
 have SG:=cI (st:=sE) EH Ju FG;have qU:=SG.binds (ps:=["q"]) λ_ _ _ _ _ _ us hl=>match us,hl with|[_],_=>rfl
 have SK:=cI (st:=sJ) EL Jy FL;have vp:=SK.binds (ps:=["pot","many"]) λ_ _ _ _ _ _ us hl=>match us,hl with|[_,_],_=>rfl
 have SS:=cI (st:=sQ) ET JE FU;have vA:=SS.binds (ps:=["pot","n"]) λ_ _ _ _ _ _ us hl=>match us,hl with|[_,_],_=>rfl
 have SD:=cI (st:=sC) EF Js FE;have vj:=SD.binds (ps:=["pot"]) λ_ _ _ _ _ _ us hl=>match us,hl with|[_],_=>rfl
 have Sz:=cI (st:=sy) ED Jq FA;have vh:=Sz.binds (ps:=["pot","n"]) λ_ _ _ _ _ _ us hl=>match us,hl with|[_,_],_=>rfl
 have SQ:=cI (st:=sO) ER JC FQ;have qW:=SQ.binds (ps:=["q"]) λ_ _ _ _ _ _ us hl=>match us,hl with|[_],_=>rfl
 have SA:=cI (st:=sA) EE Jr FD;have pH:=SA.binds (ps:=["pot"]) λ_ _ _ _ _ _ us hl=>match us,hl with|[_],_=>rfl
 have SW:=cI (st:=sS) EV JG FY;have vB:=SW.binds (ps:=["script"]) λ_ _ _ _ _ _ us hl=>match us,hl with|[_],_=>rfl
 let T:Tx K mg:={
  nj:=Bw,HB:=_,Iz:=⟨SY,apB X G nj,pJ⟩,aeP:=nj,
  ni:=Bv,HA:=_,yp:=⟨SX,apB X G ni,mq⟩,aeO:=ni,
  nt:=By,HD:=_,IB:=⟨S3,apB X G nt,vD⟩,aeR:=nt,
  nG:=BI,HN:=_,IJ:=⟨Te,apB X G nG,rm⟩,ae0:=nG,
  mF:=A3,G0:=_,Ib:=⟨Sk,apB X G mF,vd⟩,aen:=mF,
  mw:=AY,GV:=_,BO:=⟨Sf,apB X G mw,uZ⟩,aei:=mw,
  mz:=AZ,GW:=_,BP:=⟨Sg,apB X G mz,u5⟩,aej:=mz,
  mC:=A0,GX:=_,yi:=⟨Sh,apB X G mC,u6⟩,aek:=mC,
  mH:=A5,G2:=_,Ic:=⟨Sn,apB X G mH,vf⟩,NO:=mH,
  nv:=BB,HF:=_,BV:=⟨S5,apB X G nv,vE⟩,aeT:=nv,
  nE:=BG,HL:=_,IG:=⟨Tc,apB X G nE,vI⟩,aeY:=nE,
  nk:=Bx,HC:=_,IA:=⟨S0,apB X G nk,vC⟩,aeQ:=nk,
  mD:=A1,GY:=_,yj:=⟨Si,apB X G mD,qO⟩,ael:=mD,
  mO:=A9,G6:=_,Ih:=⟨Sv,apB X G mO,qS⟩,aer:=mO,
  nF:=BH,HM:=_,II:=⟨Td,apB X G nF,rj⟩,aeZ:=nF,
  nu:=BA,HE:=_,IC:=⟨S4,apB X G nu,qY⟩,aeS:=nu,
  mG:=A4,G1:=_,BQ:=⟨Sm,apB X G mG,ve⟩,aeo:=mG,
  mL:=A8,G5:=_,Ig:=⟨Su,apB X G mL,qR⟩,aeq:=mL,
  mJ:=A6,G3:=_,ym:=⟨So,apB X G mJ,qP⟩,NP:=mJ,
  mK:=A7,G4:=_,Ie:=⟨Ss,apB X G mK,qQ⟩,aep:=mK,
  nC:=BF,HK:=_,BW:=⟨S9,apB X G nC,vH⟩,aeX:=nC,
  ny:=BC,HG:=_,ID:=⟨S6,apB X G ny,vF⟩,aeU:=ny,
  mE:=A2,GZ:=_,yk:=⟨Sj,apB X G mE,vc⟩,aem:=mE,
  nA:=BD,HH:=_,IE:=⟨S7,apB X G nA,vG⟩,aeV:=nA,
  nB:=BE,HJ:=_,IF:=⟨S8,apB X G nB,qZ⟩,aeW:=nB,
  nh:=Bu,Hy:=_,Iw:=⟨SV,apB X G nh,qX⟩,aeM:=nh,
  mY:=Bl,Hq:=_,Ip:=⟨SJ,apB X G mY,qV⟩,aeE:=mY,
  mP:=Ba,G7:=_,j8:=⟨Sw,apB X G mP,qT⟩,aes:=mP,
  mX:=Bk,Ho:=_,uQ:=⟨SI,apB X G mX,vo⟩,aeD:=mX,
  nc:=Bs,Hw:=_,BU:=⟨SR,apB X G nc,vz⟩,aeK:=nc,
  mU:=Bg,Hi:=_,pq:=⟨SE,apB X G mU,vm⟩,aey:=mU,
  m5:=Bo,Hs:=_,BR:=⟨SM,apB X G m5,vq⟩,aeG:=m5,
  k7:=Bb,AX:=_,yo:=⟨Sx,apB X G k7,mj⟩,aet:=k7,
  m7:=Bp,Ht:=_,BS:=⟨SN,apB X G m7,pI⟩,aeH:=m7,
  m8:=Bq,Hu:=_,Iq:=⟨SO,apB X G m8,vt⟩,aeI:=m8,
  mW:=Bj,Hl:=_,Io:=⟨SH,apB X G mW,vn⟩,aeA:=mW,
  mQ:=Bc,G8:=_,Ii:=⟨Sy,apB X G mQ,vg⟩,aeu:=mQ,
  mV:=Bh,Hj:=_,Im:=⟨SG,apB X G mV,qU⟩,aez:=mV,
  mZ:=Bm,Hr:=_,uR:=⟨SK,apB X G mZ,vp⟩,aeF:=mZ,
  ng:=Bt,Hx:=_,Iu:=⟨SS,apB X G ng,vA⟩,aeL:=ng,
  mT:=Bf,Hh:=_,Il:=⟨SD,apB X G mT,vj⟩,aex:=mT,
  mR:=Bd,G9:=_,Ij:=⟨Sz,apB X G mR,vh⟩,aev:=mR,
  m9:=Br,Hv:=_,Ir:=⟨SQ,apB X G m9,qW⟩,aeJ:=m9,
  mS:=Be,Hg:=_,Ik:=⟨SA,apB X G mS,pH⟩,aew:=mS,
  k8:=fa,Hz:=_,Qo:=⟨SW,apB X G k8,vB⟩,aeN:=k8,
  ue:=aqf X G CF,
  NL:=aqf X G CD,
  NK:=aqf X G CC,
  Al:=aqf X G CB,
  NJ:=aqf X G CA,
  ud:=aqf X G Cz,
  cV:=aqf X G Cy,
  Ak:=aqf X G Cw,
  NI:=aqf X G Cv,
  cU:=aqf X G Cu,
  xu:=aqf X G Ct,
  NH:=aqf X G Cs,
  Aj:=aqf X G Cr,
  jb:=aqf X G Cq,
  NG:=aqf X G Cp,
  vY:=vY,GP:=apB X G CG,
  vZ:=vZ,Pu:=apB X G CH,
  nS:=nS,nQ:=nQ,pW:=pW,rM:=rM,
  nR:=nR,nP:=nP,pV:=pV,rL:=rL,
  pX:=pX}
 exact⟨_,λs v=>.of_eq rfl,λbase _ _=>abY T⟩
theorem walk{l:ahp}{q:υ}{loose:List Str}{XP:(Str->Option Γ)->χ->Prop}{YP:ψ->χ->Prop}{d:DefRec}{K:Params->Ω}{ts:List (Θ×Θ)}(hn:l.most=ζ 63) (hdf:d.params.defaults=[])
  (hY:∀(w:ψ) (h:χ),YP w h->(K w.params).In h/\∀q∈ts,h.get? q.2=ζ (PySem.W.tabObj #[]))
  (hK:∀p,(ts.all λq=>PySem.W.codeHdIn (K p) q.1 q.2)=ξ/\PySem.W.noTabs (K p)=ξ/\CW (K p) ts=ξ)
  (F:∀(w:ψ) (mg:Str->Option Γ) (fa:Θ) (h:χ),(K w.params).In h->h.Ns Ξ mg->mg d.name=ζ (.ref fa) ->
   ∃fd:ν,(∀(s:ε) (u:Γ),ahI s fd ⟨[u],[]⟩ [("script",u)])/\∀base:χ,(K w.params).In base->base.Ns Ξ mg->bH l.prog w (K w.params) mg base bB 8 fa fd ["script"] (bM (K w.params) 1 xF)) :
  PySem.W.WalkO q loose XP YP l.row.toRowW d [] (λf vs=>PySem.call f vs) :=
 L2.Uj (n:=63) (k:=8) (x:="script") hn (by decide) hdf ⟨rfl,by decide,by decide⟩ hY hK F afC
end Ev
noncomputable 
def PySem.W.Fast.tw5455167488427712167:Nat:=0
noncomputable def PySem.W.Fast.tw10574734804970184104:Nat:=0
noncomputable def PySem.W.Fast.tw12361579436523008731:Nat:=0
noncomputable def PySem.W.Fast.tw3582664662834001984:Nat:=0
noncomputable def PySem.W.Fast.tw2309831781187138605:Nat:=0
noncomputable def PySem.W.Fast.tw4295700383770270825:Nat:=0
noncomputable def PySem.W.Fast.tw14624144904343846464:Nat:=0
noncomputable def PySem.W.Fast.tw18408741481394774365:Nat:=0
noncomputable def PySem.W.Fast.tw8853134095862672147:Nat:=0
noncomputable def PySem.W.Fast.tw17189722023884607121:Nat:=0
noncomputable def PySem.W.Fast.tw11712753474067472335:Nat:=0
noncomputable def PySem.W.Fast.tw8267324161554563318:Nat:=0
noncomputable def PySem.W.Fast.tw10461424261165219787:Nat:=0
noncomputable def PySem.W.Fast.tw11560065743606665142:Nat:=0
noncomputable def PySem.W.Fast.tw2838361984555596692:Nat:=0
noncomputable def PySem.W.Fast.tw13088682024790908309:Nat:=0
noncomputable def PySem.W.Fast.tw1991264611385582183:Nat:=0
noncomputable def PySem.W.Fast.tw15571684661769421649:Nat:=0
noncomputable def PySem.W.Fast.tw1829008543077396107:Nat:=0
noncomputable def PySem.W.Fast.tw5887773492728899672:Nat:=0
noncomputable def PySem.W.Fast.tw8309405617775844908:Nat:=0
noncomputable def PySem.W.Fast.tw11973935536527092638:Nat:=0
noncomputable def PySem.W.Fast.tw428557020002583222:Nat:=0
noncomputable def PySem.W.Fast.tw16685157282388394008:Nat:=0
noncomputable def PySem.W.Fast.tw7788316199607428204:Nat:=0
noncomputable def PySem.W.Fast.tw5262446630830116888:Nat:=0
noncomputable def PySem.W.Fast.tw11983082046359102672:Nat:=0
noncomputable def PySem.W.Fast.tw1265899597693290557:Nat:=0
noncomputable def PySem.W.Fast.tw8566461618748555738:Nat:=0
noncomputable def PySem.W.Fast.tw8790077044405747226:Nat:=0
noncomputable def PySem.W.Fast.tw8240165420856418935:Nat:=0
noncomputable def PySem.W.Fast.tw416986449231034886:Nat:=0
noncomputable def PySem.W.Fast.tw5872358359550444023:Nat:=0
noncomputable def PySem.W.Fast.tw7888092949730706500:Nat:=0
noncomputable def PySem.W.Fast.tw8323637807172898327:Nat:=0
noncomputable def PySem.W.Fast.tw7354117734345906558:Nat:=0
noncomputable def PySem.W.Fast.tw7033474129291817961:Nat:=0
noncomputable def PySem.W.Fast.tw17458420279243238860:Nat:=0
noncomputable def PySem.W.Fast.tw13594694992295194191:Nat:=0
noncomputable def PySem.W.Fast.tw6639644436490228046:Nat:=0
noncomputable def PySem.W.Fast.tw12306704389608092123:Nat:=0
noncomputable def PySem.W.Fast.tw3678310036245660228:Nat:=0
open PySem PySem.W PyProof.Rows
set_option maxRecDepth 100000 in
set_option maxHeartbeats 0 in
theorem PySem.Challenge.cw_evenwebs_k58_whole_nets_are_even_holds : PySem.Challenge.rw_evenwebs_k58_whole_nets_are_even.Holds := by
  w_on; o_law; k_head; (case hw => w_witness2)
  k_fill
  refine Ev.walk (l := PySem.Challenge.rw_evenwebs_k58_whole_nets_are_even) (ts := [(147, 145), (88, 84)]) rfl rfl (fun w h Y => ⟨PySem.W.km_in_of Y, au8.mpr ⟨au9 Y _ (by first | k_mem | decide), au8.mpr ⟨au9 Y _ (by first | k_mem | decide), fun _ h => nomatch h⟩⟩⟩) (fun p => ⟨by kernel_rfl, by kernel_rfl, by kernel_rfl⟩) ?F
  case F =>
    intro w mg fa h KX G hmg
    refine' Ev.all_mk (nS := 147) (nQ := 145) (nR := 88) (nP := 84) KX G hmg ?nj ?EX ?JI ?F0 ?ni ?EW ?JH ?FZ ?nt ?EZ ?JK ?F2 ?nG ?E9 ?JU ?Gb ?mF ?Er ?Jf ?Fi ?mw ?Ek ?Ja ?Fb ?mz ?El ?Jb ?Fc ?mC ?Em ?Jc ?Fe ?mH ?Et ?Jh ?Fo ?nv ?E2 ?JM ?F4 ?nE ?E7 ?JR ?F9 ?nk ?EY ?JJ ?F1 ?mD ?Eo ?Jd ?Ff ?mO ?Ez ?Jl ?Fw ?nF ?E8 ?JT ?Ga ?nu ?E1 ?JL ?F3 ?mG ?Es ?Jg ?Fj ?mL ?Ey ?Jk ?Fv ?mJ ?Eu ?Ji ?Fp ?mK ?Ew ?Jj ?Ft ?nC ?E6 ?JQ ?F8 ?ny ?E3 ?JN ?F5 ?mE ?Ep ?Je ?Fg ?nA ?E4 ?JO ?F6 ?nB ?E5 ?JP ?F7 ?nh ?EU ?JF ?FW ?mY ?EK ?Jx ?FJ ?mP ?EA ?Jm ?Fx ?mX ?EJ ?Jw ?FI ?nc ?ES ?JD ?FT ?mU ?EG ?Jt ?FF ?m5 ?EM ?Jz ?FN ?k7 ?EB ?Jo ?Fy ?m7 ?EN ?JA ?FO ?m8 ?EO ?JB ?FP ?mW ?EI ?Jv ?FH ?mQ ?EC ?Jp ?Fz ?mV ?EH ?Ju ?FG ?mZ ?EL ?Jy ?FL ?ng ?ET ?JE ?FU ?mT ?EF ?Js ?FE ?mR ?ED ?Jq ?FA ?m9 ?ER ?JC ?FQ ?mS ?EE ?Jr ?FD ?k8 ?EV ?JG ?FY ?CF ?CD ?CC ?CB ?CA ?Cz ?Cy ?Cw ?Cv ?Cu ?Ct ?Cs ?Cr ?Cq ?Cp ?CG ?CH ?pW ?rM ?pV ?rL ?pX
    case nj|EX|JI|F0|ni|EW|JH|FZ|nt|EZ|JK|F2|nG|E9|JU|Gb|mF|Er|Jf|Fi|mw|Ek|Ja|Fb|mz|El|Jb|Fc|mC|Em|Jc|Fe|mH|Et|Jh|Fo|nv|E2|JM|F4|nE|E7|JR|F9|nk|EY|JJ|F1|mD|Eo|Jd|Ff|mO|Ez|Jl|Fw|nF|E8|JT|Ga|nu|E1|JL|F3|mG|Es|Jg|Fj|mL|Ey|Jk|Fv|mJ|Eu|Ji|Fp|mK|Ew|Jj|Ft|nC|E6|JQ|F8|ny|E3|JN|F5|mE|Ep|Je|Fg|nA|E4|JO|F6|nB|E5|JP|F7|nh|EU|JF|FW|mY|EK|Jx|FJ|mP|EA|Jm|Fx|mX|EJ|Jw|FI|nc|ES|JD|FT|mU|EG|Jt|FF|m5|EM|Jz|FN|k7|EB|Jo|Fy|m7|EN|JA|FO|m8|EO|JB|FP|mW|EI|Jv|FH|mQ|EC|Jp|Fz|mV|EH|Ju|FG|mZ|EL|Jy|FL|ng|ET|JE|FU|mT|EF|Js|FE|mR|ED|Jq|FA|m9|ER|JC|FQ|mS|EE|Jr|FD|k8|EV|JG|FY|CF|CD|CC|CB|CA|Cz|Cy|Cw|Cv|Cu|Ct|Cs|Cr|Cq|Cp|CG|CH=>k_is
    (case pW => kernel_rfl)
    (case rM => kernel_rfl)
    (case pV => kernel_rfl)
    (case rL => kernel_rfl)
    (case pX => kernel_rfl)
