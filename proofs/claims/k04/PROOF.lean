import PyProof.Rows.All
import Wide.All
import OpenK.AllK
import Wide.FinOn
import Lean
import PyProof.EqAt
import PyProof.EqKinds
import PyProof.TupleCall
import PySem.Challenge.RW_evenwebs_k04_texts_of_no_web
import PyProof.P3In
import PyProof.EqLayable
import PyProof.SumAny
import PyProof.NoPylong
import PyProof.FitsBits
import PyProof.ExcArgsOwn
import PyProof.ExcBaseAll.ValueError
import PyProof.Rows.SeqMore
import PyProof.DictRoads
import PyProof.DictKinds
import PyProof.Rows.FactsT2
import KE.KRevIter
import PyProof.SetScanFacts
import PyProof.SetKind
import PyProof.Rows.SetFrom
import KE.KDictSum
import PyProof.AutoSeq1
import KE.KLam
import KE.KIntText
set_option Elab.async false
set_option linter.all false
set_option maxHeartbeats 4000000
set_option maxRecDepth 100000
set_option bootstrap.genMatcherCode false
set_option genSizeOfSpec false
set_option genSizeOf false
open PySem renaming wpAny_bind→ahm,wpAny_pure→ahD,boot_len→ahM,wpAny_mono→ahN,call_meets→ah8,wpAny_field→ah9,mem_of_lookup→aic,typeIs_str→ain,wpAny_seqItems→aip,wpAny_truthy_bool→aiC,codeAny_mono→aiD,wpAny_Call_Name_kw→aiE,wpAny_setField_rec→aiI,wpAny_passesOwn→aiW,wpAny_execs_nil→ai4,wpAny_call→ai5,wpAny_callSpecial?_slot→aja,wpAny_call_entry→ajc,wpAny_onRaise→ajd,wpAny_holding→ajA,wpAny_standAt→ajB,wpAny_pyIter_list→ajC,pushCells_keeps→ajM,wpAny_newObj_type→ajN,wpAny_updateSeq_pair→ajO,wpAny_pyIter_zip→ajP,wpAny_loadPart_at→ajS,codeAny_call_function→akl,wpAny_newFunctionEnv_cells→akn,list_append→aku,wpAny_comprehension_free→akx
open Nat renaming le_refl→ahn,lt_of_lt_of_le→ahv,ne_of_lt→ahx,le_trans→ahB,zero_add→ahZ,lt_irrefl→ah0,ne_of_gt→ail,mul_le_mul→ait,zero_le→aiv,succ_mul→aiy,le_of_eq→aiz,add_zero→aiJ,le_of_lt→aiS,sub_self→aiZ,lt_succ_self→ai9,le_add_right→ajf,add_left_cancel→ajg,mod_eq_of_lt→ajq,le_of_not_lt→ajK,le_succ→ajL,lt_or_ge→aj7,lt_succ_of_lt→akv,mod_eq_sub_mod→akW
open List renaming mem_cons→aho,length_map→ahr,map_cons→aht,length_cons→ahu,mem_map→ahw,nil_append→ahy,getElem?_eq_some_iff→ahz,length_append→ahC,size_toArray→ahE,mem_range→ahH,getElem?_eq_getElem→ahI,not_mem_nil→ahJ,length_nil→ahK,mem_of_getElem?→ahP,all_eq_true→ahQ,map_map→ahR,getElem?_map→ahS,mem_append→ahT,mem_of_mem_take→ahU,lookup_cons→ahV,getElem?_append_right→ahW,mem_cons_of_mem→ahX,getElem?_append_left→ahY,append_assoc→ah1,map_congr_left→ah5,getElem?_set_self→ah6,mem_append_right→ah7,mem_range'_1→aia,mem_cons_self→aib,getElem?_eq_none→aid,getElem_mem→aih,getElem?_set_ne→aii,replicate_succ→aij,append_nil→aim,flatten_cons→aio,mem_iff_getElem→aiq,take_length→air,mem_filter→aiu,nodup_cons→aiw,length_take→aix,mem_singleton→aiA,length_range'→aiB,of_mem_zip→aiF,getD_eq_getElem?_getD→aiK,cons_append→aiM,find?_cons→aiN,length_range→aiP,map_append→aiQ,getElem_inj→aiT,mem_filterMap→aiV,getElem?_range→ai1,sum_cons→ai2,filterMap_cons→ai3,length_drop→ai6,forIn_cons→ai8,getElem?_take→ajh,getElem_range→aji,take_of_length_le→ajj,range_succ_eq_map→ajo,mem_range'→ajp,range'_succ→ajr,filter_cons→ajs,take_left→ajt,mem_flatMap→aju,filter_congr→ajv,mem_append_left→ajz,any_eq_false→ajD,getElem?_replicate→ajH,getElem?_take_of_lt→ajI,foldl_cons→ajJ,any_eq_true→ajQ,nodup_append→ajR,extract_eq_take_drop→ajU,mem_of_mem_drop→ajV,zip_cons_cons→ajX,any_cons→ajY,map_take→aj4,ext_getElem→aj5,getElem_map→aj6,flatMap_cons→aj8,filter_append→aj9,range_eq_range'→aka,ext_getElem?→akb,getElem?_range'→akc,length_filter_le→akd,filter_eq_self→ake,take_sublist→akk,getElem?_zip_eq_some→aky,zipIdx_cons→akB,zipIdx_nil→akC,getElem?_zipWith→akD,length_zipWith→akE,drop_eq_getElem_cons→akF,drop_eq_nil_of_le→akG,getElem_take→akH,countP_cons→akK,reverse_cons→akM,mem_map_of_mem→akN,flatMap_append→akQ,range_succ→akR,set_append_right→akS,getElem_set→akT,idxOf_lt_length_iff→akU,range'_eq_map_range→akV,flatMap_map→akX,filter_eq_nil_iff→akZ,range'_append_1→ak0,range'_1_concat→ak1,length_filter_eq_length_iff→ak3
open PySem.W renaming mg_of→ahp,kia_one→ah3,mg_none_of→ah4,cellsFrom_some→aiX,of_hideAll→ajy,kitx_dict→ajE,callWith_K→ajF,hideAll_get→akf,kitx_list→akj,codeRec_of→akm,codeHd_of_K→akL
open PySem.Heap renaming lt_size→ahq,get?_push_of_some→ahs,get?_push_size→ahG,size_push→aif,get?_update_other→ai7,get?_update_self→akr
open Option.some renaming inj→ahA
open PyProof.Rows renaming boot_isinstance→ahF,boot_tuple→ais,boot_min→aiO,split_len→aiR,callWith_type1→aiU
open Bool renaming and_eq_true→ahL,false_ne_true→ahO,eq_iff_iff→aie,or_eq_true→aiH,true_and→ajw
open Ne renaming symm→ah2
open Array renaming length_toList→aik,toList_inj→ajT,toList_append→ajW,append_assoc→akg,mem_toList_iff→aki,toList_extract→akY,all_toList→ak2
open Int renaming toNat_natCast→aiG,zero_add→aiL,emod_nonneg→ajm,emod_lt_of_pos→ajn
open Option renaming isSome_iff_exists→aiY,map_some→ajk,bind_some→ajl,getD_none→aks,isSome_some→akw,isSome_map→akO
open PySem.F renaming plainAttrs_list→ai0,slot_tuple_iterator_next→ajb,slot_zip_next→aje,plainAttrs_str→ajZ,slot_str_split→aj0,entry_str_split→aj1,args_str_split_2→aj2,slot_tuple_add→ako,entry_tuple_add→akp,args_tuple_add_2→akq,entry_tuple_iterator_next→akz,args_tuple_iterator_next_1→akA,typeOf_object_class→akJ
open PySem.Paired renaming length→ajx
open PySem.Around renaming frames_deeper→ajG
open PySem.Txt renaming slice_le→aj3
open PySem.Calls renaming Name_function_global→akh
open PySem.IsL renaming update→akt
open PySem.W.Looks renaming ld→akI
open List.cons renaming injEq→akP
open Option renaming some→ζ,none→η
open PySem.W renaming nsIn→θ,Frag→Δ,OpenLaw→aa1
open PySem renaming mainGlobals→ξ,Addr→Ξ,Value→Ψ,sizeLine→Ω,Shared→ι,starEach→μ,FuncData→ν,Expr→ο,Program→τ,Heap→υ,Around→ψ,World→ω,backTo→aab,Stmt→aav,NameKind→aaw,keywordEach→aax,Keyword→aay,attributeBase→aaz,Scope→aaA,IsPair→aaD,backToKw→aaK,Arguments→aaN,IsZip→aaW,cLine→aa0,BindsTo→aa2,PyData→aa3,Draws→abg,TriplesOk→abh
open Bool renaming false→Γ,true→Θ
open List renaming range→ε,replicate→π,Nodup→χ
open PySem.Heap renaming FlyingW→aaB,SameBut→aaU
open PyProof.Rows renaming AllBare→aaL
noncomputable section
namespace L2
open PySem PySem.Spec PyProof.Rows
abbrev Key:=Sum Int Str
def se:Key->Ψ->Bool
 |.inl k,v=>Value.isInt k v
 |.inr x,v=>Value.isStrOf x v
def Zl(w:ω):Key->Int
 |.inl k=>hashInt k
 |.inr x=>hashStr w x
theorem k6:∀{k:Key}{v:Ψ},se k v=Θ->(∃i t,k=Sum.inl i/\v=Value.int i t)\/(∃x t,k=Sum.inr x/\v=Value.str x t)
 |.inl i,v,h=>by
  obtain⟨t,e⟩:=Value.isInt_shape (k:=i) (v:=v) h;exact .inl ⟨i,t,rfl,e⟩
 |.inr x,v,h=>by
  obtain⟨t,e⟩:=Value.isStrOf_shape (x:=x) (v:=v) h;exact .inr ⟨x,t,rfl,e⟩
theorem Zk(i:Int) (t:Tok):se (.inl i) (.int i t)=Θ:=by simp[se,Value.isInt]
theorem Zj(x:Str) (t:Tok):se (.inr x) (.str x t)=Θ:=by simp[se,Value.isStrOf]
theorem Zi(a b:Int):decide ((Sum.inl a:Key)=Sum.inl b)=(a==b):=by
 by_cases e:a=b
 ·subst e;simp
 ·have h:¬(Sum.inl a:Key)=Sum.inl b:=λq=>e (Sum.inl.inj q)
  rw[decide_eq_false h];exact(beq_eq_false_iff_ne.mpr e).symm
theorem Zf(a b:Str):decide ((Sum.inr a:Key)=Sum.inr b)=decide (a=b):=by
 by_cases e:a=b
 ·subst e;simp
 ·have h:¬(Sum.inr a:Key)=Sum.inr b:=λq=>e (Sum.inr.inj q)
  rw[decide_eq_false h,decide_eq_false e]
theorem Zh(a:Int) (b:Str):decide ((Sum.inl a:Key)=Sum.inr b)=Γ:=decide_eq_false (λq=>nomatch q)
theorem Zg(a:Str) (b:Int):decide ((Sum.inr a:Key)=Sum.inl b)=Γ:=decide_eq_false (λq=>nomatch q)
def iU(prog:τ) (w:ω):PySem.KeyKind prog w Key where
 is:=se
 hash:=Zl w
 inj:=λv a b ha hb=>by
  rcases k6 ha with⟨i,t,rfl,rfl⟩|⟨x,t,rfl,rfl⟩
  ·rcases k6 hb with⟨j,u,rfl,e⟩|⟨y,u,rfl,e⟩
   ·injection e with e1 _;rw[e1]
   ·exact nomatch e
  ·rcases k6 hb with⟨j,u,rfl,e⟩|⟨y,u,rfl,e⟩
   ·exact nomatch e
   ·injection e with e1 _;rw[e1]
 byValue:=λk v h=>by
  rcases k6 h with⟨i,t,rfl,rfl⟩|⟨x,t,rfl,rfl⟩<;>rfl
 pyHash:=λhv h=>by
  rcases k6 hv with⟨i,t,rfl,rfl⟩|⟨x,t,rfl,rfl⟩
  ·exact wpAny_pyHash_int h
  ·exact wpAny_pyHash_str h
 eqBool:=λhu hv h=>by
  rcases k6 hu with⟨i,t,rfl,rfl⟩|⟨x,t,rfl,rfl⟩
  ·rcases k6 hv with⟨j,u,rfl,rfl⟩|⟨y,u,rfl,rfl⟩
   ·rw[Zi]at h;exact wpAny_eqBool_int h
   ·rw[Zh]at h;exact SeqAt.EqAt.int_str i t y u _ _ _ _ h
  ·rcases k6 hv with⟨j,u,rfl,rfl⟩|⟨y,u,rfl,rfl⟩
   ·rw[Zg]at h;exact SeqAt.EqAt.str_int x t j u _ _ _ _ h
   ·rw[Zf]at h;exact wpAny_eqBool_str h
 «strs»:=λk x t v h=>by
  rcases k6 h with⟨i,u,rfl,e⟩|⟨y,u,rfl,e⟩
  ·exact nomatch e
  ·injection e with e1 _
   subst e1;cases v<;>rfl
theorem YV(prog:τ) (w:ω) (i:Int) (t:Tok):(iU prog w).is (.inl i) (.int i t)=Θ:=Zk i t
theorem YU(prog:τ) (w:ω) (x:Str) (t:Tok):(iU prog w).is (.inr x) (.str x t)=Θ:=Zj x t
inductive V where
 |aH|bl (b:Bool)|int (i:Int)|str (x:Str)|jP (b:Array UInt8)|sG (b:UInt64)|ref (a:Ξ)|ty (n:String)
 deriving DecidableEq
def RelV:V->Ψ->Prop
 |.aH,u=>u=Value.none
 |.bl b,u=>u=Value.bool b
 |.int i,u=>∃t,u=Value.int i t
 |.str x,u=>∃t,u=Value.str x t
 |.jP b,u=>∃t,u=Value.bytes b t
 |.sG b,u=>∃t,u=Value.float b t
 |.ref a,u=>u=Value.ref a
 |.ty n,u=>u=Value.type n
abbrev Vals:List V->List Ψ->Prop:=Paired RelV
theorem Vals.length{xs:List V}{us:List Ψ}(r:Vals xs us):xs.length=us.length:=ajx r
theorem Vals.get:∀{xs:List V}{us:List Ψ}{i:Nat}{x:V},Vals xs us->xs[i]? = ζ x->∃u,us[i]? = ζ u/\RelV x u
 |_,_,_,_,.nil,e=>by simp at e
 |_,_,0,_,.cons r _,e=>by simp at e;subst e;exact⟨_,rfl,r⟩
 |_,_,i+1,x,.cons _ t,e=>by
  obtain⟨u,h1,h2⟩:=Vals.get (i:=i) (x:=x) t (by simpa using e)
  exact⟨u,by simpa using h1,h2⟩
theorem Vals.set{x:V}{u:Ψ}(r:RelV x u):∀{xs:List V}{us:List Ψ}(i:Nat),Vals xs us->Vals (xs.set i x) (us.set i u)
 |_,_,_,.nil=>.nil
 |_,_,0,.cons _ t=>.cons r t
 |_,_,i+1,.cons q t=>.cons q (Vals.set r i t)
theorem Vals.append:∀{xs ys:List V}{us ws:List Ψ},Vals xs us->Vals ys ws->Vals (xs++ys) (us++ws)
 |_,_,_,_,.nil,s=>s
 |_,_,_,_,.cons r t,s=>.cons r (Vals.append t s)
theorem Vals.take:∀{xs:List V}{us:List Ψ}(n:Nat),Vals xs us->Vals (xs.take n) (us.take n)
 |_,_,0,_=>.nil
 |_,_,_+1,.nil=>.nil
 |_,_,n+1,.cons r t=>.cons r (Vals.take n t)
theorem Vals.drop:∀{xs:List V}{us:List Ψ}(n:Nat),Vals xs us->Vals (xs.drop n) (us.drop n)
 |_,_,0,r=>r
 |_,_,_+1,.nil=>.nil
 |_,_,n+1,.cons _ t=>Vals.drop n t
def p9:Option V->Option Ψ->Prop
 |some v,ζ u=>RelV v u
 |none,η=>True
 |_,_=>False
def KV{κ:Type}:List (κ×V)->List (κ×Ψ)->Prop:=Paired fun(p:κ×V) (q:κ×Ψ)=>p.1=q.1/\RelV p.2 q.2
def kV:Key->V
 |.inl i=>.int i
 |.inr x=>.str x
inductive HO where
 |lst (xs:List V)
 |tup (xs:List V)
 |dK (kvs:List (Key×V))|dT (kvs:List (List Key×V))
 |set (S:Int->Bool) (n:Nat)
 |ins (C dx:Ξ) (fs:List (Str×V))
 |own (x:Ξ)
 |xd (fs:List (Str×V))
 |met (f x:Ξ)
 |xH (lo hi:Int)
 |cO (o:Obj) (u:HO)
 |cR (ps:Array Ψ)
 |ext (φ:υ->Prop)
abbrev Hp:=Ξ->Option HO
def upd(H:Hp) (a:Ξ) (o:HO):Hp:=λb=>if b=a then ζ o else H b
theorem gI{H:Hp}{a:Ξ}{o:HO}:upd H a o a=ζ o:=by unfold upd;rw[if_pos rfl]
theorem bA{H:Hp}{a b:Ξ}{o:HO}(h:b≠a):upd H a o b=H b:=by unfold upd;rw[if_neg h]
theorem BV{H:Hp}{a b:Ξ}{o u:HO}(h:H a=ζ o) (h':H b=ζ u) (d:o≠u):a≠b:=by
 intro e;subst e;rw[h]at h';exact d (ahA h')
theorem dG{H:Hp}{a b:Ξ}{o:HO}(h:H a=ζ o) (h':H b=η):a≠b:=by
 intro e;subst e;rw[h]at h';cases h'
def mE(h:υ) (a:Ξ) (items:Array Ψ):Prop:=∃o,h.get? a=ζ o/\o.cls=.type "tuple"/\(∃n,o.data=.seq items n)/\o.dict=η
theorem mE.tup{h:υ}{a:Ξ}{items:Array Ψ}:mE h a items->IsTup h a items:=fun⟨o,e,c,d,_⟩=>⟨o,e,c,d⟩
theorem mE.new(h:υ) (items:Array Ψ):mE (h.push {cls:=.type "tuple",data:=.seq items}) h.objs.size items:=⟨_,ahG _ rfl,rfl,⟨_,rfl⟩,rfl⟩
section
variable (P:τ) (w:ω)
def dZ(H:Hp) (h:υ) (a:Ξ):HO->Prop
 |.lst xs=>xs.length<=Ω/\∃(its:List Ψ) (n:Nat),Vals xs its/\h.get? a=ζ {cls:=.type "list",data:=.seq its.toArray n}
 |.tup xs=>xs.length<=Ω/\∃its:List Ψ,Vals xs its/\mE h a its.toArray
 |.dK kvs=>kvs.length<=Ω/\(a==sysModules)=Γ/\∃vs,KV kvs vs/\h.DictOf (iU P w) a vs
 |.dT kvs=>kvs.length<=Ω/\(a==sysModules)=Γ/\∃xs:List (List Key×Ξ×Ψ),
   Paired (fun(p:List Key×V) (q:List Key×Ξ×Ψ)=>p.1=q.1/\H q.2.1=ζ (.tup (p.1.map kV))/\RelV p.2 q.2.2) kvs xs /\
   ∃o es ep,h.get? a=ζ o/\o.ExactDict/\o.data=.dict es ep/\es.toList=xs.map (entryOfKey (tupleKind (iU P w)))/\(xs.map (·.1)).Nodup
 |.set S n=>h.SetOf (intKind P w) a S n
 |.ins C dx fs=>H dx=ζ (.own a)/\fs.length<=1000/\dx≠a/\h.get? a=ζ (PySem.W.instObj C dx) /\
   ∃mA,h.Ns1 dx mA/\(∀f,p9 (fs.lookup f) (mA f))/\PySem.Within mA (fs.map (·.1))
 |.own _=>∃o,h.get? a=ζ o
 |.xd fs=>∃mA,h.Ns1 a mA/\∀f,p9 (fs.lookup f) (mA f)
 |.xH lo hi=>∃t u v,h.get? a=ζ {cls:=.type "range",data:=.fields #[.int lo t,.int hi u,.int 1 v]}
 |.cO o u=>h.get? a=ζ o/\dZ H h a u
 |.cR ps=>h.get? a=ζ {cls:=.none,data:=.fields ps}
 |.met f x=>h.get? a=ζ (PySem.W.methodObj (.ref f) (.ref x))
 |.ext φ=>φ h/\(∃o,h.get? a=ζ o)/\∀h1 h2:υ,φ h1->(∀o,h1.get? a=ζ o->h2.get? a=ζ o)->φ h2
def cD(H:Hp) (h:υ):Prop:=∀a o,H a=ζ o->dZ P w H h a o
end
section
variable {P:τ}{w:ω}{H H':Hp}{h h':υ}{a:Ξ}{o:HO}
theorem dZ.lt(x:dZ P w H h a o):a<h.objs.size:=by
 cases o with
 |lst xs=>obtain⟨_,_,_,_,e⟩:=x;exact ahq e
 |tup xs=>obtain⟨_,_,_,p⟩:=x;exact p.tup.lt
 |dK kvs=>obtain⟨_,_,_,_,o,_,_,e,_⟩:=x;exact ahq e
 |dT kvs=>obtain⟨_,_,_,_,o,_,_,e,_⟩:=x;exact ahq e
 |set S n=>obtain⟨o,_,_,_,e,_⟩:=x;exact ahq e
 |ins C dx fs=>obtain⟨_,_,_,e,_⟩:=x;exact ahq e
 |own y=>obtain⟨_,e⟩:=x;exact ahq e
 |xd fs=>obtain⟨_,⟨_,_,_,e,_⟩,_⟩:=x;exact ahq e
 |xH lo hi=>obtain⟨_,_,_,e⟩:=x;exact ahq e
 |cO ob u=>obtain⟨e,_⟩:=x;exact ahq e
 |cR ps=>exact ahq (show h.get? a=ζ _ from x)
 |met f y=>exact ahq (show h.get? a=ζ _ from x)
 |ext φ=>obtain⟨_,⟨_,e⟩,_⟩:=x;exact ahq e
theorem Paired.BX{α β:Type}{F G:α->β->Prop}:∀{l₁:List α}{l₂:List β},Paired F l₁ l₂->(∀a b,F a b->G a b)->Paired G l₁ l₂
 |_,_,.nil,_=>.nil
 |_,_,.cons r t,f=>.cons (f _ _ r) (Paired.BX t f)
theorem dZ.stay(x:dZ P w H h a o) (k:∀b u,(b=a\/H b=ζ (.own a))->h.get? b=ζ u->h'.get? b=ζ u)
  (ho:∀b,H b=ζ (.own a)->H' b=ζ (.own a)) (ht:∀b xs,H b=ζ (.tup xs)->H' b=ζ (.tup xs)):dZ P w H' h' a o:=by
 induction o with
 |lst xs=>obtain⟨z,its,n,r,e⟩:=x;exact⟨z,its,n,r,k _ _ (.inl rfl) e⟩
 |tup xs=>obtain⟨z,its,r,ob,e,c⟩:=x;exact⟨z,its,r,ob,k _ _ (.inl rfl) e,c⟩
 |dK kvs=>obtain⟨z,y,vs,r,ob,es,ep,e,c⟩:=x;exact⟨z,y,vs,r,ob,es,ep,k _ _ (.inl rfl) e,c⟩
 |dT kvs =>
  obtain⟨z,y,xs,r,ob,es,ep,e,c⟩:=x;exact⟨z,y,xs,Paired.BX r λp q z=>⟨z.1,ht _ _ z.2.1,z.2.2⟩,ob,es,ep,k _ _ (.inl rfl) e,c⟩
 |set S n=>obtain⟨ob,es,ep,t,e,c⟩:=x;exact⟨ob,es,ep,t,k _ _ (.inl rfl) e,c⟩
 |ins C dx fs =>
  obtain⟨d,z,ne,e,mA,⟨od,es,ep,e2,c⟩,r⟩:=x;exact⟨ho _ d,z,ne,k _ _ (.inl rfl) e,mA,⟨od,es,ep,k _ _ (.inr d) e2,c⟩,r⟩
 |own y=>obtain⟨ob,e⟩:=x;exact⟨ob,k _ _ (.inl rfl) e⟩
 |xd fs=>obtain⟨mA,⟨od,es,ep,e,c⟩,r⟩:=x;exact⟨mA,⟨od,es,ep,k _ _ (.inl rfl) e,c⟩,r⟩
 |xH lo hi=>obtain⟨t,u,v,e⟩:=x;exact⟨t,u,v,k _ _ (.inl rfl) e⟩
 |cO ob u ih=>obtain⟨e,q⟩:=x;exact⟨k _ _ (.inl rfl) e,ih q⟩
 |cR ps =>
  have e:h.get? a=ζ {cls:=.none,data:=.fields ps}:=x;show h'.get? a=ζ {cls:=.none,data:=.fields ps};exact k a _ (.inl rfl) e
 |met f y =>
  have e:h.get? a=ζ (PySem.W.methodObj (.ref f) (.ref y)):=x;show h'.get? a=ζ (PySem.W.methodObj (.ref f) (.ref y));exact k a _ (.inl rfl) e
 |ext φ=>obtain⟨p,⟨o,e⟩,st⟩:=x;exact⟨st _ _ p λo q=>k _ _ (.inl rfl) q,⟨o,k _ _ (.inl rfl) e⟩,st⟩
theorem cD.lt(x:cD P w H h) (e:H a=ζ o):a<h.objs.size:=(x a o e).lt
theorem cD.fresh(x:cD P w H h) (e:h.objs.size<=a):H a=η:=by
 cases q:H a with
 |none=>rfl
 |some u=>exact absurd (ahv (x.lt q) e) (ah0 _)
theorem cD.kept(x:cD P w H h) (k:∀b u,h.get? b=ζ u->h'.get? b=ζ u):cD P w H h':=λa o e =>
 (x a o e).stay (λb u _ q=>k b u q) (λ_ q=>q) λ_ _ q=>q
theorem cD.laid(x:cD P w H h) (k:∀b u,h.get? b=ζ u->h'.get? b=ζ u) (hp:h.objs.size<=a) (new:dZ P w (upd H a o) h' a o):cD P w (upd H a o) h':=λb u e=>by
 have hn:=x.fresh hp
 by_cases hb:b=a
 ·subst hb;rw[gI]at e;cases e;exact new
 ·rw[bA hb]at e;exact(x b u e).stay (λc v _ q=>k c v q) (λc q=>by rw[bA (dG q hn)];exact q) λc xs q=>by rw[bA (dG q hn)];exact q
end
def Rd(H:Hp) (a:Ξ) (u:HO):Prop:=H a=ζ u\/∃o,H a=ζ (.cO o u)
theorem Rd.ok{P:τ}{w:ω}{H:Hp}{h:υ}{a:Ξ}{u:HO}(r:Rd H a u) (x:cD P w H h):dZ P w H h a u:=by
 rcases r with r|⟨o,r⟩
 ·exact x a u r
 ·obtain⟨_,q⟩:=x a _ r;exact q
def wc:Option HO->Prop
 |some (.lst _)=>True
 |some (.dK _)=>True
 |some (.dT _)=>True
 |some (.set _ _)=>True
 |some (.ins _ _ _)=>True
 |some (.ext _)=>True
 |_=>False
section
variable {P:τ}{w:ω}{H:Hp}{h h':υ}{x e:Ξ}{o':HO}
theorem cD.write(ok:cD P w H h) (mu:wc (H x)) (he:e=x\/H e=ζ (.own x)) (k:∀b u,b≠e->h.get? b=ζ u->h'.get? b=ζ u) (sA:∃u,h'.get? e=ζ u)
  (new:dZ P w (upd H x o') h' x o'):cD P w (upd H x o') h':=λb u q=>by
 have Jr:∀c y,H c=ζ (.own y)->c≠x:=λc y r z=>by subst z;rw[r]at mu;exact mu
 have Xo:∀c xs,H c=ζ (.tup xs)->c≠x:=λc xs r z=>by subst z;rw[r]at mu;exact mu
 by_cases hb:b=x
 ·subst hb;rw[gI]at q;cases q;exact new
 ·rw[bA hb]at q
  by_cases pI:b=e
  ·have q':H b=ζ (.own x):=by
    rcases he with z|z
    ·exact absurd (pI.trans z) hb
    ·rw[pI];exact z
   rw[q]at q';cases q';obtain⟨v,hv⟩:=sA;exact⟨v,by rw[pI];exact hv⟩
  ·refine(ok b u q).stay (λc v hc r=>k c v ?_ r) (λc r=>by rw[bA (Jr c b r)];exact r) λc xs r=>by rw[bA (Xo c xs r)];exact r
   rcases hc with rfl|hc
   ·exact pI
   ·rintro rfl
    rcases he with z|z
    ·exact Jr c b hc z
    ·rw[hc]at z;cases z;exact hb rfl
end
structure Un (fs ex:List Ξ) (H H':Hp) (h h':υ):Prop where
 keep:∀b o,h.get? b=ζ o->H b=η->b∉fs->b∉ex->h'.get? b=ζ o
 slot:∀b o,h.get? b=ζ o->H b=η->b∈fs->b∉ex->∃sl,h'.get? b=ζ {o with slots:=sl}
 free:∀b o,h.get? b=ζ o->H b=η->b∉ex->H' b=η
 there:∀b o,h.get? b=ζ o->b∉ex->∃o',h'.get? b=ζ o'
 tups:∀b xs,H b=ζ (.tup xs)->H' b=ζ (.tup xs)
 gA:∀b o u,H b=ζ (.cO o u)->H' b=ζ (.cO o u)
 gJ:∀b ps,H b=ζ (.cR ps)->∃more,H' b=ζ (.cR (ps++more))
section
variable {fs fs' ex ex':List Ξ}{H H1 H2:Hp}{h h1 h2 h':υ}{a x e:Ξ}{o:HO}
theorem Un.any(u:Un fs ex H H1 h h1) {b:Ξ}{ob:Obj}(q:h.get? b=ζ ob) (n:H b=η) (hx:b∉ex):∃sl,h1.get? b=ζ {ob with slots:=sl}:=by
 by_cases hb:b∈fs
 ·exact u.slot b ob q n hb hx
 ·exact⟨ob.slots,u.keep b ob q n hb hx⟩
theorem Un.kept(k:∀b u,h.get? b=ζ u->h'.get? b=ζ u):Un fs ex H H h h' :=
 ⟨λb ob q _ _ _=>k b ob q,λb ob q _ _ _=>⟨ob.slots,k b ob q⟩,λ_ _ _ n _=>n,λb ob q _=>⟨ob,k b ob q⟩,λ_ _ q=>q,λ_ _ _ q=>q,λ_ ps q=>⟨#[],by rw[q];simp⟩⟩
theorem Un.refl:Un fs ex H H h h:=Un.kept λ_ _ q=>q
theorem Un.laid(k:∀b u,h.get? b=ζ u->h'.get? b=ζ u) (hp:h.objs.size<=a) (hn:H a=η):Un fs ex H (upd H a o) h h' where
 keep:=λb u q _ _ _=>k b u q
 slot:=λb u q _ _ _=>⟨u.slots,k b u q⟩
 free:=λb u q n _=>by rw[bA (ahx (ahv (ahq q) hp))];exact n
 there:=λb u q _=>⟨u,k b u q⟩
 tups:=λb xs q=>by rw[bA (dG q hn)];exact q
 gA:=λb u xs q=>by rw[bA (dG q hn)];exact q
 gJ:=λb ps q=>⟨#[],by rw[bA (dG q hn),q];simp⟩
theorem Un.write(mu:wc (H x)) (he:e=x\/H e=ζ (.own x)) (k:∀b u,b≠e->h.get? b=ζ u->h'.get? b=ζ u) (sA:∃u,h'.get? e=ζ u):Un fs ex H (upd H x o) h h':=by
 have hx:∀b,H b=η->b≠x:=λb n z=>by subst z;rw[n]at mu;exact mu
 have hb:∀b,H b=η->b≠e:=λb n z=>by
  subst z
  rcases he with r|r
  ·exact hx b n r
  ·rw[n]at r;cases r
 have hm:∀b u,H b=ζ u->¬wc (ζ u)->b≠x:=λb u q nm z=>by subst z;rw[q]at mu;exact nm mu
 refine⟨λb u q n _ _=>k b u (hb b n) q,λb u q n _ _=>⟨u.slots,k b u (hb b n) q⟩,λb u q n _=>by rw[bA (hx b n)];exact n,λb u q _=>?_,
  λb xs q=>by rw[bA (hm b _ q λz=>z)];exact q,λb u xs q=>by rw[bA (hm b _ q λz=>z)];exact q,λb ps q=>⟨#[],by rw[bA (hm b _ q λz=>z),q];simp⟩⟩
 by_cases pI:b=e
 ·subst pI;exact sA
 ·exact⟨u,k b u pI q⟩
end
def gm(h:υ) (H:Hp):List Ξ:=(ε h.objs.size).filter λa=>(H a).isSome
def k9(h:υ) (H:Hp):υ:=PySem.W.hideAll h (gm h H)
theorem aaR(h:υ) (H:Hp):(k9 h H).objs.size=h.objs.size:=PySem.W.hideAll_size _ _
theorem aaS{h:υ}{H:Hp}{b:Ξ}{o:Obj}(e:h.get? b=ζ o) (n:H b=η):(k9 h H).get? b=ζ o :=
 akf _ e λhm=>by
  have q:(H b).isSome=Θ:=(aiu.mp hm).2;rw[n]at q;simp at q
theorem VR{h:υ}{H:Hp}{b:Ξ}{o:Obj}(e:(k9 h H).get? b=ζ o):h.get? b=ζ o/\H b=η:=by
 have e':h.get? b=ζ o:=ajy (gm h H) e;refine⟨e',?_⟩;cases q:H b with
 |none=>rfl
 |some x =>
  have hm:b∈gm h H:=aiu.mpr ⟨ahH.mpr (ahq e'),by simp[q]⟩
  have z:(k9 h H).get? b=η:=PySem.W.hideAll_none (gm h H) hm;rw[z]at e;cases e
structure Mod (K:Δ) (mg:Str->Option Ψ) (base:υ):Prop where
 jH:K.In base
 glob:base.Ns ξ mg
 blt:∃mb,base.Ns builtinsNs mb/\∀x:Str,x≠"__name__"->mb x=bootBuiltins x
 nolimit:base.NoLimit
 bmod:∃bm ob,mg "__builtins__"=ζ (.ref bm)/\bm≠builtinsNs/\base.get? bm=ζ ob/\ob.cls=.type "module"/\ob.dict=ζ builtinsNs/\ob.data=.plain
structure Cx where
 prog:τ
 w:ω
 K:Δ
 mg:Str->Option Ψ
 base:υ
 A:ψ
 N:List Str
 s₀:ι
 H₀:Hp
 env:Env
 outer:List Env
 stack:List Env
 ex:List Ξ
 fn:Str->Bool
 calm:Bool
 pn:List (Ξ×Obj)
 xe:Ψ->ι->Prop
def frs(l:List Env):List Ξ:=l.filterMap (·.frame)
abbrev Cx.fs(X:Cx):List Ξ:=frs X.outer
def vZ(sc:aaA) (x:Str):Prop:=sc.names.lookup x=ζ .local\/sc.names.lookup x=ζ .cell\/sc.names.lookup x=ζ .free
def Loc(sc:aaA) (x:Str):Prop:=sc.names.lookup x=ζ .local\/sc.names.lookup x=ζ .cell
def Look(env:Env) (h:υ) (m:Str->Option Ψ) (x:Str) (u:Ψ):Prop :=
 (env.kindOf x=ζ .local/\m x=ζ u)\/((env.kindOf x=ζ .cell\/env.kindOf x=ζ .free)/\∃c,env.cells.lookup x=ζ c/\h.IsCell c (ζ u))
structure Cx.Ok (X:Cx):Prop where
 mod:Mod X.K X.mg X.base
 kind:X.env.scope.kind=.function
 glob:X.env.globals=ξ
 blt:X.env.builtins=builtinsNs
 above:X.s₀.heap.objs.size<=X.env.locals
 inj:∀x y c,X.env.cells.lookup x=ζ c->X.env.cells.lookup y=ζ c->x=y
 has:∀x,(X.env.kindOf x=ζ .cell\/X.env.kindOf x=ζ .free)->∃c,X.env.cells.lookup x=ζ c
 jn:∀x c,X.fn x=Θ->X.env.cells.lookup x=ζ c->X.s₀.heap.objs.size<=c
 hd:X.calm=Θ->X.A.handled=η
 frames:X.A.frames=ζ X.stack
 stk:X.stack=X.outer\/(X.stack=X.env::X.outer/\X.env.frame=ζ X.env.locals)
 lz:∀b∈X.ex,b≠X.env.locals/\∀x c,X.env.cells.lookup x=ζ c->c≠b
 bs:∀b o,X.base.get? b=ζ o->X.s₀.heap.get? b=ζ o/\X.H₀ b=η
 gk:X.base.objs.size<=X.s₀.heap.objs.size
 iT:∀b o,X.base.get? b=ζ o->b∉X.ex
 kg:∀b∈X.ex,b∉X.fs
 fW:X.s₀.heap.FunFrames X.base X.outer
 iw:∀b∈X.fs,X.H₀ b=η
structure Inv (X:Cx) (pins:List (Ξ×Obj)) (σ:List (Option V)) (H:Hp) (s:ι):Prop where
 ok:X.Ok
 os:s.os=X.s₀.os
 bare:aaL s.gens
 base:Un X.fs X.ex X.H₀ H X.s₀.heap s.heap
 loc:∃m,s.heap.Ns X.env.locals m/\∀(i:Nat) (x:Str) (v:V),X.N[i]? = ζ x->σ[i]? = ζ (ζ v)->vZ X.env.scope x->∃u,RelV v u/\Look X.env s.heap m x u
 cell:∀x c,X.env.cells.lookup x=ζ c->∃v,s.heap.IsCell c v
 free:H X.env.locals=η
 gj:∀x c,X.env.cells.lookup x=ζ c->H c=η
 pin:∀p∈X.pn++pins,s.heap.get? p.1=ζ p.2/\H p.1=η/\p.1≠X.env.locals/\p.1∉X.fs/\∀v,p.2.data≠.cell v
 hok:cD X.prog X.w H s.heap
 len:σ.length=X.N.length
section
variable {X:Cx}{pins:List (Ξ×Obj)}{σ:List (Option V)}{H H':Hp}{s:ι}{h':υ}
theorem Cx.Ok.Xz(ok:X.Ok) {b:Ξ}{o:Obj}(e:X.base.get? b=ζ o):b∉X.fs:=λhb=>by
 have:=(ok.fW.mem hb).1;rw[e]at this;cases this
theorem Inv.bs(I:Inv X pins σ H s):∀b o,X.base.get? b=ζ o->s.heap.get? b=ζ o/\H b=η:=λb o e =>
 ⟨I.base.keep b o (I.ok.bs b o e).1 (I.ok.bs b o e).2 (I.ok.Xz e) (I.ok.iT b o e),I.base.free b o (I.ok.bs b o e).1 (I.ok.bs b o e).2 (I.ok.iT b o e)⟩
theorem Inv.bk(I:Inv X pins σ H s):∀b o,X.base.get? b=ζ o->s.heap.get? b=ζ o:=λb o e=>(I.bs b o e).1
theorem Inv.mod(I:Inv X pins σ H s):Mod X.K X.mg X.base:=I.ok.mod
theorem Inv.eE(I:Inv X pins σ H s):X.K.In s.heap:=I.ok.mod.jH.keeps I.bk
theorem Inv.lt(I:Inv X pins σ H s):X.env.locals<s.heap.objs.size:=let⟨_,hn,_⟩:=I.loc;hn.lt
theorem Inv.sz(I:Inv X pins σ H s):X.s₀.heap.objs.size<=s.heap.objs.size:=ahB I.ok.above (aiS I.lt)
theorem Inv.BP(I:Inv X pins σ H s) {a:Ξ}(h:s.heap.objs.size<=a):a∉X.fs:=λhb=>by
 obtain⟨_,o,ho,_⟩:=I.ok.fW.mem hb;exact absurd (ahv (ahq ho) (ahB I.sz h)) (ah0 _)
theorem Inv.nP(I:Inv X pins σ H s):∀x c,X.env.cells.lookup x=ζ c->c≠X.env.locals:=λx c e z=>by
 obtain⟨v,o,ho,hd⟩:=I.cell x c e;obtain⟨m,⟨o',es,ep,ho',hd',_⟩,_⟩:=I.loc;rw[z,ho']at ho;cases ho;rw[hd']at hd;cases hd
theorem Inv.fW(I:Inv X pins σ H s):s.heap.FunFrames X.base X.outer:=by
 have all:∀(l:List Env),(∀b∈frs l,b∈X.fs)->X.s₀.heap.FunFrames X.base l->s.heap.FunFrames X.base l:=by
  intro l
  induction l with
  |nil=>intro _ _;trivial
  |cons env r ih =>
   intro hs hl;obtain⟨hk,⟨L,o,hf,hn,ho,hd⟩,hr⟩:=hl;have hL:L∈X.fs:=hs L (by unfold frs;rw[ai3,hf];exact aib)
   obtain⟨sl,e⟩:=I.base.slot L o ho (I.ok.iw L hL) hL λz=>I.ok.kg L z hL
   exact⟨hk,⟨L,_,hf,hn,e,hd⟩,ih (λb hb=>hs b (by unfold frs;rw[ai3,hf];exact ahX _ hb)) hr⟩
 exact all X.outer (λ_ hb=>hb) I.ok.fW
theorem Inv.stack(I:Inv X pins σ H s):s.heap.FunFrames X.base X.stack:=by
 rcases I.ok.stk with e|⟨e,hf⟩
 ·rw[e];exact I.fW
 ·rw[e];obtain⟨m,hn,_⟩:=I.loc;refine .cons (by rw[I.ok.kind];decide) hf hn ?_ I.fW
  exact Heap.get?_none_of_le (ahB I.ok.gk I.ok.above)
theorem Inv.mW(I:Inv X pins σ H s):∀b∈frs X.stack,b∈X.env.locals::X.fs:=λb hb=>by
 rcases I.ok.stk with e|⟨e,hf⟩
 ·rw[e]at hb;exact ahX _ hb
 ·rw[e]at hb;unfold frs at hb;rw[ai3,hf]at hb;exact hb
theorem Inv.xo(I:Inv X pins σ H s):∀b∈frs X.stack,H b=η:=λb hb=>by
 rcases aho.mp (I.mW b hb)with e|hb
 ·rw[e];exact I.free
 ·obtain⟨_,o,ho,_⟩:=I.ok.fW.mem hb;exact I.base.free b o ho (I.ok.iw b hb) λz=>I.ok.kg b z hb
theorem Inv.step{g':Array GenState}{t':Nat}{d':Drawn}{ch:List Ξ}(I:Inv X pins σ H s)
  (hch:∀b∈ch,(b∈X.ex\/X.s₀.heap.objs.size<=b)/\b≠X.env.locals/\(∀x c,X.env.cells.lookup x=ζ c->c≠b)/\∀p∈X.pn++pins,p.1≠b)
  (keep:∀b o,b≠X.env.locals->b∉X.fs->b∉ch->s.heap.get? b=ζ o->H b=η->h'.get? b=ζ o)
  (slot:∀b o,b≠X.env.locals->b∈X.fs->b∉ch->s.heap.get? b=ζ o->H b=η->∃sl,h'.get? b=ζ {o with slots:=sl}) (free:∀b o,b∉ch->s.heap.get? b=ζ o->H b=η->H' b=η)
  (there:∀b o,b∉ch->s.heap.get? b=ζ o->∃o',h'.get? b=ζ o')
  (tups:∀b xs,H b=ζ (.tup xs)->H' b=ζ (.tup xs)) (gA:∀b o u,H b=ζ (.cO o u)->H' b=ζ (.cO o u)) (gJ:∀b ps,H b=ζ (.cR ps)->∃more,H' b=ζ (.cR (ps++more)))
  (ns:∀m,s.heap.Ns X.env.locals m->h'.Ns X.env.locals m) (hok:cD X.prog X.w H' h') (hg:aaL g') :
  Inv X pins σ H' {s with heap:=h',gens:=g',drawn:=d',toks:=t'}:=by
 have rT:∀b o,X.s₀.heap.get? b=ζ o->b≠X.env.locals:=λb o e=>ahx (ahv (ahq e) I.ok.above)
 have yr:∀b o,X.s₀.heap.get? b=ζ o->b∉X.ex->b∉ch:=λb o e hx hb=>by
  rcases(hch b hb).1 with z|z
  ·exact hx z
  ·exact absurd (ahv (ahq e) z) (ah0 _)
 have cellK:∀x c,X.env.cells.lookup x=ζ c->∀v,s.heap.IsCell c v->h'.IsCell c v:=λx c e v ⟨o,ho,hd⟩=>by
  have jE:c∉ch:=λz=>(hch c z).2.2.1 x c e rfl
  by_cases hc:c∈X.fs
  ·obtain⟨sl,q⟩:=slot c o (I.nP x c e) hc jE ho (I.gj x c e);exact⟨_,q,hd⟩
  ·exact⟨o,keep c o (I.nP x c e) hc jE ho (I.gj x c e),hd⟩
 refine⟨I.ok,I.os,hg,⟨λb o e n hb hx=>?_,λb o e n hb hx=>?_,λb o e n hx=>?_,λb o e hx=>?_,λb xs e=>tups b xs (I.base.tups b xs e),λb o xs e=>gA b o xs (I.base.gA b o xs e),λb ps e=>?_⟩,?_,λx c e=>?_,?_,λx c e=>?_,λp hp=>?_,hok,I.len⟩
 ·exact keep b o (rT b o e) hb (yr b o e hx) (I.base.keep b o e n hb hx) (I.base.free b o e n hx)
 ·obtain⟨sl,e1⟩:=I.base.slot b o e n hb hx;obtain⟨Be,e2⟩:=slot b _ (rT b o e) hb (yr b o e hx) e1 (I.base.free b o e n hx);exact⟨Be,e2⟩
 ·obtain⟨o',e1⟩:=I.base.there b o e hx;exact free b o' (yr b o e hx) e1 (I.base.free b o e n hx)
 ·obtain⟨o',e1⟩:=I.base.there b o e hx;exact there b o' (yr b o e hx) e1
 ·obtain⟨m1,e1⟩:=I.base.gJ b ps e;obtain⟨m2,e2⟩:=gJ b _ e1;exact⟨m1++m2,by rw[e2,akg]⟩
 ·obtain⟨m,hn,hl⟩:=I.loc;refine⟨m,ns m hn,λi x v e1 e2 e3=>?_⟩
  obtain⟨u,r,l⟩:=hl i x v e1 e2 e3;refine⟨u,r,?_⟩
  rcases l with l|⟨k,c,e,z⟩
  ·exact .inl l
  ·exact .inr ⟨k,c,e,cellK x c e _ z⟩
 ·obtain⟨v,z⟩:=I.cell x c e;exact⟨v,cellK x c e v z⟩
 ·obtain⟨m,⟨o,_,_,ho,_⟩,_⟩:=I.loc;exact free _ o (λz=>(hch _ z).2.1 rfl) ho I.free
 ·obtain⟨v,o,ho,hd⟩:=I.cell x c e;exact free c o (λz=>(hch c z).2.2.1 x c e rfl) ho (I.gj x c e)
 ·obtain⟨e,n,ne,nf,d⟩:=I.pin p hp;have jE:p.1∉ch:=λz=>(hch p.1 z).2.2.2 p hp rfl
  exact⟨keep p.1 p.2 ne nf jE e n,free p.1 p.2 jE e n,ne,nf,d⟩
theorem Inv.un{t':Nat}(I:Inv X pins σ H s) (u:Un X.fs [] H H' s.heap h') (hok:cD X.prog X.w H' h'):Inv X pins σ H' {s with heap:=h',toks:=t'}:=by
 obtain⟨m,⟨o,es,ep,ho,r⟩,_⟩:=id I.loc;obtain⟨sl,hL⟩:=u.any ho I.free (by simp)
 exact I.step (g':=s.gens) (d':=s.drawn) (ch:=[]) (λ_ z=>nomatch z) (λb o _ hb _ e n=>u.keep b o e n hb (by simp)) (λb o _ hb _ e n=>u.slot b o e n hb (by simp)) (λb o _ e n=>u.free b o e n (by simp)) (λb o _ e=>u.there b o e (by simp)) u.tups u.gA u.gJ (λm' hm=>by
  obtain⟨o',es',EA,ho',r'⟩:=hm;rw[ho]at ho';cases ho';exact⟨_,es',EA,hL,r'⟩) hok I.bare
theorem Inv.call{g':Array GenState}{t':Nat}{d':Drawn}{ch:List Ξ}(I:Inv X pins σ H s) (u:Un (frs X.stack) ch H H' s.heap h') (hok:cD X.prog X.w H' h') (hg:aaL g')
  (hch:∀b∈ch,(b∈X.ex\/X.s₀.heap.objs.size<=b)/\b≠X.env.locals/\(∀x c,X.env.cells.lookup x=ζ c->c≠b)/\∀p∈X.pn++pins,p.1≠b) :
  Inv X pins σ H' {s with heap:=h',gens:=g',drawn:=d',toks:=t'}:=by
 obtain⟨m,⟨o,es,ep,ho,r⟩,_⟩:=id I.loc;obtain⟨sl,hL⟩:=u.any ho I.free λz=>(hch _ z).2.1 rfl
 exact I.step (ch:=ch) hch (λb o hL hb hc e n=>u.keep b o e n (λz=>(aho.mp (I.mW b z)).elim hL hb) hc) (λb o _ _ hc e n=>u.any e n hc) (λb o hc e n=>u.free b o e n hc) (λb o hc e=>u.there b o e hc) u.tups u.gA u.gJ (λm' hm=>by
  obtain⟨o',es',EA,ho',r'⟩:=hm;rw[ho]at ho';cases ho';exact⟨_,es',EA,hL,r'⟩) hok hg
theorem Inv.turned{t':Nat}{it:Ξ}(I:Inv X pins σ H s) (k:∀b o,b≠it->s.heap.get? b=ζ o->h'.get? b=ζ o) (hn:H it=η) (hL:it≠X.env.locals)
  (h1:it∈X.ex\/X.s₀.heap.objs.size<=it) (h2:∀x c,X.env.cells.lookup x=ζ c->c≠it) (h3:∀p∈X.pn++pins,p.1≠it):Inv X pins σ H {s with heap:=h',toks:=t'}:=by
 have JD:∀b u,H b=ζ u->b≠it:=λb u e z=>by rw[z,hn]at e;cases e
 refine I.step (g':=s.gens) (d':=s.drawn) (ch:=[it]) (λb hb=>?_) (λb o _ _ hc e _=>k b o (λz=>hc (by simp[z])) e) (λb o _ _ hc e _=>⟨o.slots,k b o (λz=>hc (by simp[z])) e⟩) (λ_ _ _ _ n=>n)
  (λb o hc e=>⟨o,k b o (λz=>hc (by simp[z])) e⟩) (λ_ _ e=>e) (λ_ _ _ e=>e) (λb ps e=>⟨#[],by rw[e];simp⟩) (λm hm=>?_) (λb u e=>?_) I.bare
 ·have e:b=it:=by simpa using hb
  subst e;exact⟨h1,hL,h2,h3⟩
 ·obtain⟨o,es,ep,ho,r⟩:=hm;exact⟨o,es,ep,k _ o (ah2 hL) ho,r⟩
 ·refine(I.hok b u e).stay (λc v hc q=>k c v ?_ q) (λ_ q=>q) λ_ _ q=>q
  rcases hc with z|z
  ·rw[z];exact JD b u e
  ·exact JD c _ z
theorem Inv.tok(I:Inv X pins σ H s) (t:Nat):Inv X pins σ H {s with toks:=t}:=I.un (h':=s.heap) (t':=t) Un.refl I.hok
theorem Inv.kept{t':Nat}(I:Inv X pins σ H s) (k:∀b u,s.heap.get? b=ζ u->h'.get? b=ζ u):Inv X pins σ H {s with heap:=h',toks:=t'}:=I.un (Un.kept k) (I.hok.kept k)
theorem Inv.laid{a:Ξ}{o:HO}{t':Nat}(I:Inv X pins σ H s) (k:∀b u,s.heap.get? b=ζ u->h'.get? b=ζ u) (hp:s.heap.objs.size<=a) (new:dZ X.prog X.w (upd H a o) h' a o) :
  Inv X pins σ (upd H a o) {s with heap:=h',toks:=t'}:=I.un (Un.laid k hp (I.hok.fresh hp)) (I.hok.laid k hp new)
theorem Inv.write{x e:Ξ}{o:HO}{t':Nat}(I:Inv X pins σ H s) (mu:wc (H x)) (he:e=x\/H e=ζ (.own x)) (k:∀b u,b≠e->s.heap.get? b=ζ u->h'.get? b=ζ u) (sA:∃u,h'.get? e=ζ u)
  (new:dZ X.prog X.w (upd H x o) h' x o):Inv X pins σ (upd H x o) {s with heap:=h',toks:=t'}:=I.un (Un.write mu he k sA) (I.hok.write mu he k sA new)
theorem Inv.xO{rK:List (Ξ×Obj)}(I:Inv X pins σ H s) (h:∀p∈rK,s.heap.get? p.1=ζ p.2/\H p.1=η/\p.1≠X.env.locals/\p.1∉X.fs/\∀v,p.2.data≠.cell v):Inv X rK σ H s :=
 ⟨I.ok,I.os,I.bare,I.base,I.loc,I.cell,I.free,I.gj,λp hp=>(ahT.mp hp).elim (λz=>I.pin p (ajz _ z)) (h p),I.hok,I.len⟩
theorem Ju{N:List Str}(hN:N.Nodup) {i j:Nat}{x:Str}(a:N[i]? = ζ x) (b:N[j]? = ζ x):i=j:=by
 obtain⟨h1,e1⟩:=ahz.mp a;obtain⟨h2,e2⟩:=ahz.mp b;exact(aiT hN).mp (e1.trans e2.symm)
theorem HR{M:Model}{A:ψ}{E:Ψ->ι->Prop}{i:Nat}{x:Str}{v:V}{u:Ψ}{Q:Unit->ι->Prop}(I:Inv X pins σ H s) (hN:X.N.Nodup) (hi:X.N[i]? = ζ x) (hx:Loc X.env.scope x) (r:RelV v u)
  (h:∀s',Inv X pins (σ.set i (ζ v)) H s'->(∃a,aaU a s.heap s'.heap/\(a=X.env.locals\/X.env.cells.lookup x=ζ a))->Q () s') (hf:X.fn x=Θ\/X.env.scope.names.lookup x=ζ .local:=by first|exact .inl rfl|exact .inr rfl|assumption):wpAny M A (storeName X.env x u) Q E s:=by
 obtain⟨m,hn,hl⟩:=id I.loc;have hcls:(X.env.scope.kind == .class||(X.env.scope.kind == .module&&X.env.locals != X.env.globals))=Γ:=by rw[I.ok.kind];rfl
 have K4:i<σ.length:=by rw[I.len];exact(ahz.mp hi).1
 have nP:=I.nP;have tracked:∀{a:Ξ}{h':υ},(∃o,s.heap.get? a=ζ o/\H a=η)->aaU a s.heap h'->cD X.prog X.w H h':=fun{a h'} ha hs b ob e=>by
  obtain⟨_,_,hfree⟩:=ha;refine(I.hok b ob e).stay (λc w' hc q=>(hs.2 c ?_).trans q) (λ_ q=>q) λ_ _ q=>q
  rintro rfl
  rcases hc with rfl|hc
  ·rw[hfree]at e;cases e
  ·rw[hfree]at hc;cases hc
 rcases hx with hk|hk
 ·refine wpAny_storeName_local hk hn (λh' hn' hs=>?_) hcls
  obtain⟨oL,_,_,hoL,_⟩:=id hn;refine h _ ⟨I.ok,I.os,I.bare,⟨λb o e n hb hx=>?_,λb o e n hb hx=>?_,I.base.free,λb o e hx=>?_,I.base.tups,I.base.gA,I.base.gJ⟩,⟨_,hn',λj y v' e1 e2 e3=>?_⟩,λy c e=>?_,I.free,I.gj,λp hp=>?_,tracked ⟨oL,hoL,I.free⟩ hs,by simpa using I.len⟩ ⟨_,hs,.inl rfl⟩
  ·exact(hs.2 b (ahx (ahv (ahq e) I.ok.above))).trans (I.base.keep b o e n hb hx)
  ·obtain⟨sl,e1⟩:=I.base.slot b o e n hb hx;exact⟨sl,(hs.2 b (ahx (ahv (ahq e) I.ok.above))).trans e1⟩
  ·obtain⟨o',e1⟩:=I.base.there b o e hx;exact⟨o',(hs.2 b (ahx (ahv (ahq e) I.ok.above))).trans e1⟩
  ·by_cases hj:j=i
   ·subst hj;rw[hi]at e1;cases e1;rw[ah6 K4]at e2;cases e2;exact⟨u,r,.inl ⟨hk,by simp⟩⟩
   ·rw[aii (ah2 hj)]at e2;obtain⟨u',r',q⟩:=hl j y v' e1 e2 e3;refine⟨u',r',?_⟩
    rcases q with⟨k,e⟩|⟨k,c,e,z⟩
    ·refine .inl ⟨k,?_⟩;have:y≠x:=λe=>hj (Ju hN e1 (e▸hi))
     simp[this,e]
    ·exact .inr ⟨k,c,e,z.sameBut hs (nP y c e)⟩
  ·obtain⟨w',z⟩:=I.cell y c e;exact⟨w',z.sameBut hs (nP y c e)⟩
  ·obtain⟨e,n,ne,nf,d⟩:=I.pin p hp;exact⟨(hs.2 p.1 ne).trans e,n,ne,nf,d⟩
 ·have hfn:X.fn x=Θ:=by
   rcases hf with z|z
   ·exact z
   ·rw[z]at hk;cases hk
  obtain⟨c,hc⟩:=I.ok.has x (.inl hk);obtain⟨w',z⟩:=I.cell x c hc;refine wpAny_storeName_cell I.ok.kind hk hc z (λh' hc' hs=>?_)
  obtain⟨oc,hoc,aaI⟩:=id z;refine h {s with heap:=h'} ⟨I.ok,I.os,I.bare,⟨λb o e n hb hx=>?_,λb o e n hb hx=>?_,I.base.free,λb o e hx=>?_,I.base.tups,I.base.gA,I.base.gJ⟩,⟨m,hn.sameBut hs (ah2 (nP x c hc)),λj y v' e1 e2 e3=>?_⟩,λy c' e=>?_,I.free,I.gj,λp hp=>?_,tracked ⟨oc,hoc,I.gj x c hc⟩ hs,by simpa using I.len⟩ ⟨c,hs,.inr hc⟩
  ·exact(hs.2 b (ahx (ahv (ahq e) (I.ok.jn x c hfn hc)))).trans (I.base.keep b o e n hb hx)
  ·obtain⟨sl,e1⟩:=I.base.slot b o e n hb hx;exact⟨sl,(hs.2 b (ahx (ahv (ahq e) (I.ok.jn x c hfn hc)))).trans e1⟩
  ·obtain⟨o',e1⟩:=I.base.there b o e hx;exact⟨o',(hs.2 b (ahx (ahv (ahq e) (I.ok.jn x c hfn hc)))).trans e1⟩
  ·by_cases hj:j=i
   ·subst hj;rw[hi]at e1;cases e1;rw[ah6 K4]at e2;cases e2;exact⟨u,r,.inr ⟨.inl hk,c,hc,hc'⟩⟩
   ·rw[aii (ah2 hj)]at e2;obtain⟨u',r',q⟩:=hl j y v' e1 e2 e3;refine⟨u',r',?_⟩
    rcases q with q|⟨k,c',e,z'⟩
    ·exact .inl q
    ·refine .inr ⟨k,c',e,z'.sameBut hs ?_⟩
     rintro rfl
     exact hj (Ju hN e1 (I.ok.inj _ _ _ e hc▸hi))
  ·by_cases hcc:c'=c
   ·subst hcc;exact⟨_,hc'⟩
   ·obtain⟨w2,z2⟩:=I.cell y c' e;exact⟨w2,z2.sameBut hs hcc⟩
  ·obtain⟨e,n,ne,nf,d⟩:=I.pin p hp;refine⟨(hs.2 p.1 ?_).trans e,n,ne,nf,d⟩;intro q;rw[q,hoc]at e;have q':oc=p.2:=ahA e;exact d w' (by rw[<-q'];exact aaI)
theorem A7{M:Model}{A:ψ}{E:Ψ->ι->Prop}{i:Nat}{x:Str}{v:V}{u:Ψ}{Q:Unit->ι->Prop}(I:Inv X pins σ H s) (hN:X.N.Nodup) (hi:X.N[i]? = ζ x) (hx:Loc X.env.scope x) (r:RelV v u)
  (h:∀s',Inv X pins (σ.set i (ζ v)) H s'->Q () s') (hf:X.fn x=Θ\/X.env.scope.names.lookup x=ζ .local:=by first|exact .inl rfl|exact .inr rfl|assumption):wpAny M A (storeName X.env x u) Q E s :=
 HR I hN hi hx r (λs' I' _=>h s' I') hf
theorem Inv.Fj{s':ι}{ch:List Ξ}(I:Inv X pins σ H s) (ho:s'.os=s.os) (u:Un (frs X.stack) ch H H' s.heap s'.heap) (hok:cD X.prog X.w H' s'.heap) (hg:aaL s'.gens)
  (hch:∀b∈ch,(b∈X.ex\/X.s₀.heap.objs.size<=b)/\b≠X.env.locals/\(∀x c,X.env.cells.lookup x=ζ c->c≠b)/\∀p∈X.pn++pins,p.1≠b):Inv X pins σ H' s':=by
 obtain⟨h',g',d',t',o'⟩:=s';have e:o'=s.os:=ho;subst e;exact I.call (g':=g') (t':=t') (d':=d') u hok hg hch
end
abbrev XK:=Ψ->Option Ξ->Hp->Prop
abbrev St:=List (Option V)
abbrev VK:=V->Hp->Prop
abbrev TE:=St->Hp->VK->Prop
abbrev TT:=St->Hp->(Bool->Hp->Prop)->Prop
abbrev TA:=St->Hp->(List V->Hp->Prop)->Prop
structure Ends where
 nx:St->Hp->Prop
 rt:VK
 bk:St->Hp->Prop:=λ_ _=>False
 ct:St->Hp->Prop:=λ_ _=>False
abbrev TS:=Ends->St->Hp->Prop
def EP(X:Cx) (pins:List (Ξ×Obj)) (σ:St) (Q:VK) (u:Ψ) (s':ι):Prop:=∃v H',Inv X pins σ H' s'/\RelV v u/\Q v H'
def TP(X:Cx) (pins:List (Ξ×Obj)) (σ:St) (Q:Bool->Hp->Prop) (b:Bool) (s':ι):Prop:=∃H',Inv X pins σ H' s'/\Q b H'
def AP(X:Cx) (pins:List (Ξ×Obj)) (σ:St) (Q:List V->Hp->Prop) (us:List Ψ) (s':ι):Prop:=∃vs H',Inv X pins σ H' s'/\Vals vs us/\Q vs H'
def SP(X:Cx) (pins:List (Ξ×Obj)) (D:Ends) (f:Flow) (s':ι):Prop :=
 match f with
 |.next=>∃σ' H',Inv X pins σ' H' s'/\D.nx σ' H'
 |.brk=>∃σ' H',Inv X pins σ' H' s'/\D.bk σ' H'
 |.cont=>∃σ' H',Inv X pins σ' H' s'/\D.ct σ' H'
 |.ret u=>∃v σ' H',Inv X pins σ' H' s'/\RelV v u/\D.rt v H'
def PE(X:Cx) (e:ο) (t:TE):Prop :=
 ∀(pins:List (Ξ×Obj)) (s:ι) (σ:St) (H:Hp) (Q:VK),Inv X pins σ H s->t σ H Q->wpAny (model X.prog X.w) X.A (eval e X.env) (EP X pins σ Q) X.xe s
def PT(X:Cx) (e:ο) (t:TT):Prop :=
 ∀(pins:List (Ξ×Obj)) (s:ι) (σ:St) (H:Hp) (Q:Bool->Hp->Prop),Inv X pins σ H s->t σ H Q->wpAny (model X.prog X.w) X.A (isTrue e X.env (eval e X.env)) (TP X pins σ Q) X.xe s
def PW(X:Cx) (e:ο) (t:TT):Prop :=
 ∀(whole:Sem Ψ) (pins:List (Ξ×Obj)) (s:ι) (σ:St) (H:Hp) (Q:Bool->Hp->Prop),Inv X pins σ H s->t σ H Q->wpAny (model X.prog X.w) X.A (isTrue e X.env whole) (TP X pins σ Q) X.xe s
theorem PW.pt{X:Cx}{e:ο}{t:TT}(h:PW X e t):PT X e t:=h _
def PA(X:Cx) (es:List ο) (t:TA):Prop :=
 ∀(pos:Pos) (pins:List (Ξ×Obj)) (s:ι) (σ:St) (H:Hp) (Q:List V->Hp->Prop),Inv X pins σ H s->t σ H Q->wpAny (model X.prog X.w) X.A (spliced (aab pos (μ es X.env))) (AP X pins σ Q) X.xe s
def PS(X:Cx) (st:aav) (t:TS):Prop :=
 ∀(pins:List (Ξ×Obj)) (s:ι) (σ:St) (H:Hp) (D:Ends),Inv X pins σ H s->t D σ H->wpAny (model X.prog X.w) X.A (exec st X.env) (SP X pins D) X.xe s
def fu(X:Cx) (st:List aav) (t:TS):Prop :=
 ∀(pins:List (Ξ×Obj)) (s:ι) (σ:St) (H:Hp) (D:Ends),Inv X pins σ H s->t D σ H->wpAny (model X.prog X.w) X.A (execs st X.env) (SP X pins D) X.xe s
theorem bE{α:Type}{t:Sem α}{Q Q':α->ι->Prop}{M:Model}{A:ψ}{E:Ψ->ι->Prop}{s:ι}(h:wpAny M A t Q E s) (hQ:∀a s,Q a s->Q' a s):wpAny M A t Q' E s:=ahN h hQ λ_ _ x=>x
section
variable {X:Cx}
def mU(i:Nat):TE:=λσ H Q=>∃v,σ[i]? = ζ (ζ v)/\Q v H
def tC(v:V):TE:=λ_ H Q=>Q v H
theorem Bx{i:Nat}{x:Str}{pos:Pos}(hN:X.N[i]? = ζ x) (hv:vZ X.env.scope x) (hd:(x==("__debug__":Str))=Γ:=by decide) (hcd:(x==("__classdict__":Str))=Γ:=by decide):PE X (.Name x pos) (mU i):=by
 intro pins s σ H Q I h;obtain⟨v,e,h⟩:=h;obtain⟨m,hn,hl⟩:=I.loc;obtain⟨u,r,l⟩:=hl i x v hN e hv;have fin:EP X pins σ Q u s:=⟨v,H,I,r,h⟩
 rcases l with⟨hk,hm⟩|⟨hk,c,hc,hcell⟩
 ·exact wpAny_Name (wpAny_loadName_local I.ok.kind hk hn hm fin) hd
 ·rcases hk with hk|hk
  ·exact wpAny_Name (wpAny_loadName_cell I.ok.kind hk hc hcell fin) hd
  ·exact wpAny_Name (wpAny_loadName_free I.ok.kind hk hc hcell fin hcd) hd
theorem BA{i j pos}:PE X (.Constant (.int i) j pos) (tC (.int i)):=λ_ _ _ H _ I h=>wpAny_Constant_int ⟨.int i,H,I.tok _,⟨_,rfl⟩,h⟩
theorem BC{b j pos}:PE X (.Constant (.bool b) j pos) (tC (.bl b)):=λ_ _ _ H _ I h=>Constant_bool ⟨.bl b,H,I,rfl,h⟩
theorem Uw{j pos}:PE X (.Constant .none j pos) (tC .aH):=λ_ _ _ H _ I h=>Constant_none ⟨.aH,H,I,rfl,h⟩
theorem Us{x j pos}:PE X (.Constant (.str x) j pos) (tC (.str x)):=λ_ _ _ H _ I h=>Calls.Constant_str ⟨.str x,H,I.tok _,⟨_,rfl⟩,h⟩
def Gl(X:Cx) (x:Str):Prop:=X.env.kindOf x=ζ .globalImplicit
theorem sd{E:Ψ->ι->Prop}{pins:List (Ξ×Obj)}{s:ι}{σ:St}{H:Hp}{x:Str}{u:Ψ}{pos:Pos}{Q:Ψ->ι->Prop}(I:Inv X pins σ H s) (hg:Gl X x) (hm:X.mg x=ζ u) (h:Q u s)
  (hd:(x==("__debug__":Str))=Γ:=by decide):wpAny (model X.prog X.w) X.A (eval (.Name x pos) X.env) Q E s :=
 akh I.ok.kind hg (Calls.loadGlobal_global (by rw[I.ok.glob];exact I.mod.glob.keeps I.bk) hm h) hd
theorem o8{E:Ψ->ι->Prop}{pins:List (Ξ×Obj)}{s:ι}{σ:St}{H:Hp}{x:Str}{u:Ψ}{pos:Pos}{Q:Ψ->ι->Prop}(I:Inv X pins σ H s) (hg:Gl X x) (hm:X.mg x=η) (hv:bootBuiltins x=ζ u) (h:Q u s)
  (hn:x≠"__name__":=by decide) (hd:(x==("__debug__":Str))=Γ:=by decide):wpAny (model X.prog X.w) X.A (eval (.Name x pos) X.env) Q E s:=by
 obtain⟨mb,h1,h2⟩:=I.mod.blt;exact akh I.ok.kind hg (Calls.loadGlobal_builtin (by rw[I.ok.glob];exact I.mod.glob.keeps I.bk) hm (by rw[I.ok.blt];exact h1.keeps I.bk) ((h2 x hn).trans hv) h) hd
theorem BB{x:Str}{v:V}{u:Ψ}{pos:Pos}(hg:Gl X x) (hm:X.mg x=ζ u) (r:RelV v u) (hd:(x==("__debug__":Str))=Γ:=by decide):PE X (.Name x pos) (tC v) :=
 λ_ _ _ H _ I h=>sd I hg hm ⟨v,H,I,r,h⟩ hd
theorem UH{x:Str}{v:V}{u:Ψ}{pos:Pos}(hg:Gl X x) (hm:X.mg x=η) (hv:bootBuiltins x=ζ u) (r:RelV v u) (hn:x≠"__name__":=by decide) (hd:(x==("__debug__":Str))=Γ:=by decide):PE X (.Name x pos) (tC v) :=
 λ_ _ _ H _ I h=>o8 I hg hm hv ⟨v,H,I,r,h⟩ hn hd
variable {a b:ο}{ta tb:TE}{pos:Pos}
def tB(t:TE):TT:=λσ H Q=>t σ H λx H1=>∃c,x=.bl c/\Q c H1
theorem SK{e:ο}{t:TE}(h:PE X e t) (he:∀whole,isTrue e X.env whole=(do let v <-whole;standAt e.pos;holding [v] (truthy v)):=by intro _;rfl):PT X e (tB t):=by
 intro pins s σ H Q I hw;refine isTrue_plain (bE (h pins s σ H _ I hw) λv s1 ⟨x,H1,I1,r1,q1⟩=>?_) (he _)
 obtain⟨d,rfl,q⟩:=q1;cases r1;exact aiC ⟨H1,I1,q⟩
variable {tA xh:TT}{rest:List ο}
def Qt(t u:TT):TT:=λσ H Q=>t σ H λc H1=>if c=Θ then u σ H1 Q else Q Γ H1
def Qe(t u:TT):TT:=λσ H Q=>t σ H λc H1=>if c=Θ then Q Θ H1 else u σ H1 Q
def Qg(t:TT):TT:=λσ H Q=>t σ H λc H1=>Q (!c) H1
theorem SI(ha:PT X a tA):PW X (.BoolOp .And [a] pos) tA:=by
 intro wh pins s σ H Q I h;refine isTrue_and (bE (ha pins s σ H Q I h) λc s1 e=>?_)
 cases c with
 |true=>exact isTrue_and_nil e
 |false=>exact e
theorem SG(ha:PT X a tA):PW X (.BoolOp .Or [a] pos) tA:=by
 intro wh pins s σ H Q I h;refine isTrue_or (bE (ha pins s σ H Q I h) λc s1 e=>?_)
 cases c with
 |false=>exact isTrue_or_nil e
 |true=>exact e
theorem SJ(ha:PT X a tA) (hb:PW X (.BoolOp .And (b::rest) pos) xh):PW X (.BoolOp .And (a::b::rest) pos) (Qt tA xh):=by
 intro wh pins s σ H Q I h;refine isTrue_and (bE (ha pins s σ H _ I h) λc s1 ⟨H1,I1,q1⟩=>?_)
 cases c with
 |true=>exact hb wh pins s1 σ H1 Q I1 q1
 |false=>exact⟨H1,I1,q1⟩
theorem SH(ha:PT X a tA) (hb:PW X (.BoolOp .Or (b::rest) pos) xh):PW X (.BoolOp .Or (a::b::rest) pos) (Qe tA xh):=by
 intro wh pins s σ H Q I h;refine isTrue_or (bE (ha pins s σ H _ I h) λc s1 ⟨H1,I1,q1⟩=>?_)
 cases c with
 |true=>exact⟨H1,I1,q1⟩
 |false=>exact hb wh pins s1 σ H1 Q I1 q1
theorem SM(ha:PT X a tA):PT X (.UnaryOp .Not a pos) (Qg tA):=by
 intro pins s σ H Q I h;exact isTrue_not (ha pins s σ H (λc H1=>Q (!c) H1) I h)
def Qs(ta tb:TE):TE:=λσ H Q=>ta σ H λx H1=>∃c,x=.bl c/\if c=Θ then tb σ H1 Q else Q (.bl Γ) H1
def Qf(ta:TE):TE:=λσ H Q=>ta σ H λx H1=>∃c,x=.bl c/\Q (.bl (!c)) H1
theorem Uu{op}{t:TE}(h:PE X a t):PE X (.BoolOp op [a] pos) t:=λpins s σ H Q I hw=>BoolOp_one (h pins s σ H Q I hw)
theorem UI(ha:PE X a ta) (hb:PE X (.BoolOp .And (b::rest) pos) tb):PE X (.BoolOp .And (a::b::rest) pos) (Qs ta tb):=by
 intro pins s σ H Q I h;refine BoolOp_and (bE (ha pins s σ H _ I h) λv s1 ⟨x,H1,I1,r1,q1⟩=>?_)
 obtain⟨c,rfl,q1⟩:=q1;cases r1;refine aiC ?_;cases c with
 |true=>exact hb pins s1 σ H1 Q I1 q1
 |false=>exact⟨.bl Γ,H1,I1,rfl,q1⟩
theorem Uv(ha:PE X a ta):PE X (.UnaryOp .Not a pos) (Qf ta):=by
 intro pins s σ H Q I h;refine UnaryOp_ (bE (ha pins s σ H _ I h) λv s1 ⟨x,H1,I1,r1,q1⟩=>?_)
 obtain⟨c,rfl,q1⟩:=q1;cases r1;exact not_of (aiC ⟨.bl (!c),H1,I1,rfl,q1⟩)
end
def bW(K:Δ) (H:Hp) (a:Ξ) (xs:List V):Prop :=
 Rd H a (.lst xs) \/
  ∃(o:Obj) (its:Array Ψ) (n:Nat),K.lookup a=ζ o/\o.cls=.type "list"/\o.dict=η/\o.data=.seq its n/\its.size<=Ω/\Vals xs its.toList
def eu(K:Δ) (H:Hp) (a:Ξ) (xs:List V):Prop :=
 Rd H a (.tup xs) \/
  ∃(o:Obj) (its:Array Ψ) (n:Nat),K.lookup a=ζ o/\o.cls=.type "tuple"/\o.data=.seq its n/\its.size<=Ω/\Vals xs its.toList
def afa:Ψ->Option V
 |.none=>ζ .aH
 |.bool b=>ζ (.bl b)
 |.int i _=>ζ (.int i)
 |.str x _=>ζ (.str x)
 |.bytes b _=>ζ (.jP b)
 |.float b _=>ζ (.sG b)
 |.ref a=>ζ (.ref a)
 |.type n=>ζ (.ty n)
 |_=>η
theorem RelV.abs{x:V}{u:Ψ}(r:RelV x u):afa u=ζ x:=by
 cases x with
 |aH=>cases r;rfl
 |bl _=>cases r;rfl
 |int _=>obtain⟨t,rfl⟩:=r;rfl
 |str _=>obtain⟨t,rfl⟩:=r;rfl
 |jP _=>obtain⟨t,rfl⟩:=r;rfl
 |sG _=>obtain⟨t,rfl⟩:=r;rfl
 |ref _=>cases r;rfl
 |ty _=>cases r;rfl
theorem RelV.inj{x y:V}{u:Ψ}(r:RelV x u) (q:RelV y u):x=y:=ahA (r.abs.symm.trans q.abs)
theorem Vals.inj:∀{xs ys:List V}{us:List Ψ},Vals xs us->Vals ys us->xs=ys
 |_,_,_,.nil,.nil=>rfl
 |_,_,_,.cons r t,.cons r' t'=>by rw[r.inj r',Vals.inj t t']
section
variable {X:Cx}{pins:List (Ξ×Obj)}{σ:St}{H:Hp}{s:ι}{a:Ξ}{xs ys:List V}
theorem bW.of{K:Δ}(h:H a=ζ (.lst xs)):bW K H a xs:=.inl (.inl h)
theorem eu.of{K:Δ}(h:H a=ζ (.tup xs)):eu K H a xs:=.inl (.inl h)
theorem Inv.list(I:Inv X pins σ H s) (h:bW X.K H a xs):∃its:List Ψ,Vals xs its/\PlainL s.heap a its.toArray/\xs.length<=Ω:=by
 rcases h with h|⟨o,its,n,hk,hc,hd,hs,hz,r⟩
 ·obtain⟨z,its,n,r,e⟩:=h.ok I.hok;exact⟨its,r,⟨_,n,e,rfl,rfl,rfl⟩,z⟩
 ·refine⟨its.toList,r,⟨o,n,I.eE a o hk,hc,hd,by simpa using hs⟩,?_⟩
  have e:=r.length;simp only[aik]at e;omega
theorem Inv.tuple(I:Inv X pins σ H s) (h:eu X.K H a xs):∃its:List Ψ,Vals xs its/\IsTup s.heap a its.toArray/\xs.length<=Ω:=by
 rcases h with h|⟨o,its,n,hk,hc,hs,hz,r⟩
 ·obtain⟨z,its,r,p⟩:=h.ok I.hok;exact⟨its,r,p.tup,z⟩
 ·refine⟨its.toList,r,⟨o,I.eE a o hk,hc,n,by simpa using hs⟩,?_⟩
  have e:=r.length;simp only[aik]at e;omega
theorem Inv.Kc(I:Inv X pins σ H s) (h:bW X.K H a xs) (h':bW X.K H a ys):xs=ys:=by
 obtain⟨its,r,⟨o,n,e,_,_,d⟩,_⟩:=I.list h;obtain⟨its',r',⟨o',n',e',_,_,d'⟩,_⟩:=I.list h';rw[e]at e';cases e';rw[d]at d'
 injection d' with d1 _
 have:its=its':=by simpa using congrArg Array.toList d1
 subst this;exact r.inj r'
theorem Inv.PF(I:Inv X pins σ H s) (h:eu X.K H a xs) (h':eu X.K H a ys):xs=ys:=by
 obtain⟨its,r,⟨o,e,_,n,d⟩,_⟩:=I.tuple h;obtain⟨its',r',⟨o',e',_,n',d'⟩,_⟩:=I.tuple h';rw[e]at e';cases e';rw[d]at d'
 injection d' with d1 _
 have:its=its':=by simpa using congrArg Array.toList d1
 subst this;exact r.inj r'
end
abbrev Cx.iA(X:Cx) (E:Ψ->ι->Prop):Cx:={X with xe:=E}
abbrev Cx.eS(X:Cx):Cx:=X.iA λ_ _=>False
theorem Cx.Ok.iA{X:Cx}(ok:X.Ok) (E:Ψ->ι->Prop):(X.iA E).Ok :=
 ⟨ok.mod,ok.kind,ok.glob,ok.blt,ok.above,ok.inj,ok.has,ok.jn,ok.hd,ok.frames,ok.stk,ok.lz,ok.bs,ok.gk,ok.iT,ok.kg,ok.fW,ok.iw⟩
theorem Cx.Ok.i9{X:Cx}{E:Ψ->ι->Prop}(ok:(X.iA E).Ok):X.Ok :=
 ⟨ok.mod,ok.kind,ok.glob,ok.blt,ok.above,ok.inj,ok.has,ok.jn,ok.hd,ok.frames,ok.stk,ok.lz,ok.bs,ok.gk,ok.iT,ok.kg,ok.fW,ok.iw⟩
section
variable {X:Cx}{pins:List (Ξ×Obj)}{σ:St}{H:Hp}{s:ι}{E:Ψ->ι->Prop}
theorem Inv.iA(I:Inv X pins σ H s) (E:Ψ->ι->Prop):Inv (X.iA E) pins σ H s:=⟨I.ok.iA E,I.os,I.bare,I.base,I.loc,I.cell,I.free,I.gj,I.pin,I.hok,I.len⟩
theorem Inv.i9(I:Inv (X.iA E) pins σ H s):Inv X pins σ H s:=⟨I.ok.i9,I.os,I.bare,I.base,I.loc,I.cell,I.free,I.gj,I.pin,I.hok,I.len⟩
theorem SP.i9{D:Ends}{f:Flow}{s':ι}(h:SP (X.iA E) pins D f s'):SP X pins D f s':=by
 cases f with
 |next=>obtain⟨σ',H',I,q⟩:=h;exact⟨σ',H',I.i9,q⟩
 |brk=>obtain⟨σ',H',I,q⟩:=h;exact⟨σ',H',I.i9,q⟩
 |cont=>obtain⟨σ',H',I,q⟩:=h;exact⟨σ',H',I.i9,q⟩
 |ret u=>obtain⟨v,σ',H',I,r,q⟩:=h;exact⟨v,σ',H',I.i9,r,q⟩
theorem PT.eS{e:ο}{t:TT}(h:PT X.eS e t):PT X e t:=λpins s σ H Q I hw =>
 ahN (h pins s σ H Q (I.iA _) hw) (λ_ _ ⟨H',I',q⟩=>⟨H',I'.i9,q⟩) λ_ _ z=>False.elim z
theorem fu.eS{st:List aav}{t:TS}(h:fu X.eS st t):fu X st t:=λpins s σ H D I hw =>
 ahN (h pins s σ H D (I.iA _) hw) (λ_ _ q=>q.i9) λ_ _ z=>False.elim z
end
section
variable {X:Cx}{st:aav}{rest:List aav}{t u:TS}{e:ο}{te:TE}{pos:Pos}
def Qi:TS:=λD σ H=>D.nx σ H
def HE(t u:TS):TS:=λD σ H=>t {D with nx:=u D} σ H
theorem SQ:fu X [] Qi:=λ_ _ σ H _ I h=>ai4 ⟨σ,H,I,h⟩
theorem rF(h1:PS X st t) (h2:fu X rest u):fu X (st::rest) (HE t u):=by
 intro pins s σ H D I h;refine wpAny_execs_cons (bE (h1 pins s σ H {D with nx:=u D} I h) λf s1 q=>?_)
 cases f with
 |next =>
  obtain⟨σ',H',I',q⟩:=q;exact h2 pins s1 σ' H' D I' q
 |ret v=>exact q
 |brk=>exact q
 |cont=>exact q
theorem Iu(h1:PS X st t):fu X [st] t:=by
 intro pins s σ H D I h;refine wpAny_execs_cons (bE (h1 pins s σ H D I h) λf s1 q=>?_)
 cases f with
 |next=>exact ai4 q
 |ret v=>exact q
 |brk=>exact q
 |cont=>exact q
theorem Inv.quiet{pins:List (Ξ×Obj)}{σ:St}{H:Hp}{s:ι}(I:Inv X pins σ H s):interactive X.env=Γ:=by simp[interactive,I.ok.kind]
def Qn(te:TE):TS:=λD σ H=>te σ H λ_ H1=>D.nx σ H1
theorem SY(he:PE X e te) (hs:swapsWith e η pos.line X.env=pure Γ:=by rfl):PS X (.Expr e pos) (Qn te):=by
 intro pins s σ H D I h;exact wpAny_Expr_any (bE (he pins s σ H _ I h) λv s1 ⟨x,H1,I1,r1,q1⟩=>⟨σ,H1,I1,q1⟩) I.quiet hs
def Qc(te:TE):TS:=λD σ H=>te σ H D.rt
theorem Iz(he:PE X e te):PS X (.Return (ζ e) pos) (Qc te):=by
 intro pins s σ H D I h;exact wpAny_Return_some (bE (he pins s σ H _ I h) λv s1 ⟨x,H1,I1,r1,q1⟩=>⟨x,σ,H1,I1,r1,q1⟩)
def Ql(c:TT) (t u:TS):TS:=λD σ H=>c σ H λb H1=>if b=Θ then t D σ H1 else u D σ H1
theorem IA{c:ο}{a b:List aav}{tc:TT}(hc:PT X c tc) (ha:fu X a t) (hb:fu X b u):PS X (.If c a b pos) (Ql tc t u):=by
 intro pins s σ H D I h;refine wpAny_If (bE (hc pins s σ H _ I h) λd s1 ⟨H1,I1,q1⟩=>?_)
 cases d with
 |true=>exact ha pins s1 σ H1 D I1 q1
 |false=>exact hb pins s1 σ H1 D I1 q1
end
abbrev TG:=V->St->Hp->(St->Hp->Prop)->Prop
abbrev mF:=List V->St->Hp->(St->Hp->Prop)->Prop
def PG(X:Cx) (target:ο) (t:TG):Prop :=
 ∀(pins:List (Ξ×Obj)) (s:ι) (σ:St) (H:Hp) (v:V) (u:Ψ) (Q:St->Hp->Prop),Inv X pins σ H s->RelV v u->t v σ H Q ->
  wpAny (model X.prog X.w) X.A (assign target X.env u) (λ_ s'=>∃σ' H',Inv X pins σ' H' s'/\Q σ' H') X.xe s
def nY(X:Cx) (ts:List ο) (t:mF):Prop :=
 ∀(pins:List (Ξ×Obj)) (s:ι) (σ:St) (H:Hp) (vs:List V) (us:List Ψ) (Q:St->Hp->Prop),Inv X pins σ H s->Vals vs us->t vs σ H Q ->
  wpAny (model X.prog X.w) X.A (assignInOrder ((assignEach ts X.env).map (·.2)) us) (λ_ s'=>∃σ' H',Inv X pins σ' H' s'/\Q σ' H') X.xe s
abbrev Gm:=V->V->V->Hp->(Hp->Prop)->Prop
def M6(X:Cx) (t:Gm):Prop :=
 ∀(pins:List (Ξ×Obj)) (s:ι) (σ:St) (H:Hp) (o i v:V) (ov iv u:Ψ) (Q:Hp->Prop),Inv X pins σ H s->RelV o ov->RelV i iv->RelV v u->t o i v H Q ->
  wpAny (model X.prog X.w) X.A (setItem ov iv u) (λ_ s'=>∃H',Inv X pins σ H' s'/\Q H') X.xe s
section
variable {X:Cx}{pos:Pos}
def yT(i:Nat):TG:=λv σ H Q=>Q (σ.set i (ζ v)) H
theorem IP{i:Nat}{x:Str}(hN:X.N.Nodup) (hi:X.N[i]? = ζ x) (hx:Loc X.env.scope x) (hf:X.fn x=Θ\/X.env.scope.names.lookup x=ζ .local:=by first|exact .inl rfl|exact .inr rfl|assumption):PG X (.Name x pos) (yT i):=by
 intro pins s σ H v u Q I r h;exact wpAny_assign_Name (A7 I hN hi hx r (λs' I'=>⟨_,H,I',h⟩) hf)
def abH:mF:=λvs σ H Q=>vs=[]/\Q σ H
def abI(t:TG) (u:mF):mF:=λvs σ H Q=>∃v r,vs=v::r/\t v σ H λσ' H'=>u r σ' H' Q
theorem Ul:nY X [] abH:=by
 intro pins s σ H vs us Q I r h;obtain⟨e,h⟩:=h;subst e;cases r;exact assignInOrder_nil ⟨σ,H,I,h⟩
theorem Um{e:ο}{es:List ο}{t:TG}{u:mF}(h1:PG X e t) (h2:nY X es u)
  (hs:(assignEach (e::es) X.env).map (·.2)=assign e X.env::(assignEach es X.env).map (·.2):=by rfl):nY X (e::es) (abI t u):=by
 intro pins s σ H vs us Q I r h;obtain⟨v,vr,e1,h⟩:=h;subst e1;cases r with
 |cons r rr =>
  rw[hs];refine assignInOrder_cons (bE (h1 pins s σ H _ _ _ I r h) λ_ s1 ⟨σ1,H1,I1,q1⟩=>?_)
  exact h2 pins s1 σ1 H1 _ _ Q I1 rr q1
def abD(K:Δ) (n:Nat) (t:mF):TG:=λv σ H Q=>∃a xs,v=.ref a/\eu K H a xs/\xs.length=n/\t xs σ H Q
theorem Uo{es:List ο}{k:Nat}{t:mF}{n:Nat}(hc:X.calm=Θ) (h:nY X es t)
  (hn:(assignEach es X.env).length=n:=by rfl) (hst:(assignEach es X.env).findIdx? (·.1)=η:=by rfl):PG X (.Tuple es k pos) (abD X.K n t):=by
 intro pins s σ H v u Q I r hw;obtain⟨a,xs,e1,hq,hl,hw⟩:=hw;subst e1;cases r;obtain⟨its,rv,ht,hz⟩:=I.tuple hq;refine assign_Tuple_tuple (I.ok.hd hc) ht (by simp[hn,<-hl,rv.length]) hst λh' hx=>?_
 have I1:Inv X pins σ H {s with heap:=h'}:=I.kept (t':=s.toks) λb o e=>hx b o (ahx (ahq e)) e
 exact h pins _ σ H xs _ Q I1 (by simpa using rv) hw
def abG(to ti:TE) (t:Gm):TG:=λv σ H Q=>to σ H λo H1=>ti σ H1 λi H2=>t o i v H2 λH3=>Q σ H3
theorem Uq{o i:ο}{to ti:TE}{t:Gm}(ho:PE X o to) (hi:PE X i ti) (hs:M6 X t)
  (ha:∀v,assign (.Subscript o i pos) X.env v=(do
   let ov <-holding [v] (eval o X.env)
   let iv <-holding [v,ov] (eval i X.env)
   standAt pos
   holding [v,ov,iv] (setItem ov iv v)
   release [v,ov,iv] []):=by intro _;rfl):PG X (.Subscript o i pos) (abG to ti t):=by
 intro pins s σ H v u Q I r h;rw[ha];refine ahm (ajA (bE (ho pins s σ H _ I h) λov s1 ⟨x,H1,I1,r1,q1⟩=>?_))
 refine ahm (ajA (bE (hi pins s1 σ H1 _ I1 q1) λiv s2 ⟨y,H2,I2,r2,q2⟩=>?_))
 refine ahm (ajB (ahm (ajA (bE (hs pins s2 σ H2 x y v ov iv u _ I2 r1 r2 r q2) λ_ s3 ⟨H3,I3,q3⟩=>?_))))
 exact wpAny_release ⟨σ,H3,I3,q3⟩
def A5(te:TE) (g:TG):TS:=λD σ H=>te σ H λx H1=>g x σ H1 D.nx
theorem S0{tg e:ο}{te:TE}{g:TG}(he:PE X e te) (hg:PG X tg g) (hs:swapsWithSole [tg] e pos.line X.env=pure Γ:=by rfl) (hw:swappedStores [tg] e X.env=pure η:=by rfl)
  (h1:(assignEach [tg] X.env).map (·.2)=[assign tg X.env]:=by rfl):PS X (.Assign [tg] e pos) (A5 te g):=by
 intro pins s σ H D I h;refine wpAny_Assign_stores (bE (he pins s σ H _ I h) λv s1 ⟨x,H1,I1,r1,q1⟩=>?_) hs hw
 rw[h1];exact bE (hg pins s1 σ H1 x v _ I1 r1 q1) λ_ s2 q=>q
theorem Iw{i:Nat}{x:Str}{e:ο}{te:TE}{pos':Pos}(hN:X.N.Nodup) (hi:X.N[i]? = ζ x) (hx:Loc X.env.scope x) (he:PE X e te) (hs:swapsWith e (ζ (.Name x pos')) pos.line X.env=pure Γ:=by rfl) (hf:X.fn x=Θ\/X.env.scope.names.lookup x=ζ .local:=by first|exact .inl rfl|exact .inr rfl|assumption) :
  PS X (.Assign [.Name x pos'] e pos) (A5 te (yT i)):=by
 intro pins s σ H D I h;refine wpAny_Assign_Name (bE (he pins s σ H _ I h) λv s1 ⟨y,H1,I1,r1,q1⟩=>?_) hs
 exact A7 I1 hN hi hx r1 (λs2 I2=>⟨_,H1,I2,q1⟩) hf
end
structure It where
 go:Nat->Hp->Prop
 qd:Nat->Hp->V->Hp->Prop
 stop:Nat->Hp->Prop
def gT(X:Cx) (pins:List (Ξ×Obj)) (H:Hp) (b:Ξ):Prop :=
 H b=η/\b≠X.env.locals/\b∉X.fs/\(b∈X.ex\/X.s₀.heap.objs.size<=b)/\(∀x c,X.env.cells.lookup x=ζ c->c≠b)/\∀p∈X.pn++pins,p.1≠b
theorem Inv.yV{X:Cx}{pins:List (Ξ×Obj)}{σ:St}{H H':Hp}{s:ι}{b:Ξ}(I:Inv X pins σ H s) (hb:s.heap.objs.size<=b) (hn:H' b=η):gT X pins H' b:=by
 refine⟨hn,ail (ahv I.lt hb),I.BP hb,.inr (ahB I.sz hb),λx c e z=>?_,λp hp z=>?_⟩
 ·obtain⟨v,q⟩:=I.cell x c e;exact absurd (ahv q.lt (by rw[z];exact hb)) (ah0 _)
 ·exact absurd (ahv (ahq (I.pin p hp).1) (by rw[z];exact hb)) (ah0 _)
structure Turn (P:τ) (w:ω) (K:Δ) (tg:ο) (J:It) (fp:List Ξ) (it:Ξ) (tn:Nat->υ->Prop):Prop where
 mem:it∈fp
 obj:∀i h,tn i h->∀b∈fp,∃o,h.get? b=ζ o/\∀v,o.data≠.cell v
 keep:∀i h h',tn i h->(∀b∈fp,∀o,h.get? b=ζ o->h'.get? b=ζ o)->tn i h'
 item:∀(X:Cx),X.prog=P->X.w=w->X.K=K->X.calm=Θ->∀(i:Nat) (pins:List (Ξ×Obj)) (s:ι) (σ:St) (H:Hp) (E:Ψ->ι->Prop),Inv X pins σ H s->(∀b∈fp,gT X pins H b)->tn i s.heap->J.go i H ->
  wpAny (model P w) X.A (pyNext (.ref it)) (λr s1=>∃u,r=ζ u /\
   wpAny (model P w) X.A (letOwnedTupleGo tg (.ref it) u) (λ_ s2=>∃x H',Inv X pins σ H' s2/\RelV x u/\J.qd i H x H'/\tn (i+1) s2.heap/\∀b∈fp,H' b=η) E s1) E s
 done:∀(X:Cx),X.prog=P->X.w=w->X.K=K->X.calm=Θ->∀(i:Nat) (pins:List (Ξ×Obj)) (s:ι) (σ:St) (H:Hp) (E:Ψ->ι->Prop),Inv X pins σ H s->(∀b∈fp,gT X pins H b)->tn i s.heap->J.stop i H ->
  wpAny (model P w) X.A (pyNext (.ref it)) (λr s1=>r=η/\Inv X pins σ H s1) E s
 self:∀(A:ψ) (i:Nat) (s:ι) (Q:Ψ->ι->Prop) (E:Ψ->ι->Prop),tn i s.heap->Q (.ref it) s->wpAny (model P w) A (pyIter (.ref it)) Q E s
abbrev TI:=St->Hp->(It->Hp->Prop)->Prop
def M7(X:Cx) (pins:List (Ξ×Obj)) (σ:St) (tg:ο) (R:It->Hp->Prop) (itv:Ψ) (s2:ι):Prop :=
 ∃(it:Ξ) (fp:List Ξ) (tn:Nat->υ->Prop) (J:It) (H':Hp),itv=.ref it/\Inv X pins σ H' s2/\Turn X.prog X.w X.K tg J fp it tn/\tn 0 s2.heap/\(∀b∈fp,gT X pins H' b)/\R J H'
def PI(X:Cx) (tg iter:ο) (wi:TI):Prop :=
 ∀(pins:List (Ξ×Obj)) (s:ι) (σ:St) (H:Hp) (R:It->Hp->Prop),Inv X pins σ H s->wi σ H R ->
  wpAny (model X.prog X.w) X.A (eval iter X.env) (λv s1=>wpAny (model X.prog X.w) X.A (pyIter v) (M7 X pins σ tg R) X.xe s1) X.xe s
theorem DH{M:Model}{A:ψ}{E:Ψ->ι->Prop}{s:ι}{tg:ο}{it:Ξ}{u:Ψ}{o:Obj}{n:String}{vs:Array Ψ}{Q:Unit->ι->Prop}(ho:s.heap.get? it=ζ o) (hc:o.cls=.type n) (hd:o.data=.fields vs)
    (hn:["enumerate","zip","dict_itemiterator","dict_reverseitemiterator","odict_iterator","itertools.zip_longest","itertools.pairwise"].contains n=Γ) (hQ:Q () s):wpAny M A (letOwnedTupleGo tg (.ref it) u) Q E s:=by
  unfold letOwnedTupleGo;cases tg<;>first
    | exact ahD hQ
    | (cases u<;>first
        | exact ahD hQ
        | (refine ahm (wpAny_load ho ?_)
           rw[hc,hd];show wpAny M A (if(["enumerate","zip","dict_itemiterator","dict_reverseitemiterator","odict_iterator","itertools.zip_longest","itertools.pairwise"].contains n&&vs[0]? == ζ (rawInt _))=Θ then _ else _) Q E s
           rw[if_neg (by intro h;rw[hn,Bool.false_and]at h;cases h)]
           exact ahD hQ))
def uc(K:Δ) (a:Ξ):It :=
 ⟨λi H=>∃xs x,bW K H a xs/\xs[i]? = ζ x,λi H x H'=>H'=H/\∀xs,bW K H a xs->xs[i]? = ζ x,λi H=>∃xs,bW K H a xs/\xs.length<=i⟩
def wj(lo:Int) (n:Nat):It:=⟨λi _=>i<n,λi H x H'=>H'=H/\x=.int (lo+i),λi _=>n<=i⟩
theorem PD{P:τ}{w:ω}{K:Δ}{tg:ο}(a it:Ξ):Turn P w K tg (uc K a) [it] it (λi h=>h.IsListIter it a i) where
 mem:=by simp
 obj:=λi h st b hb=>by
  have e:b=it:=by simpa using hb
  subst e;obtain⟨o,e,c,d⟩:=st;exact⟨o,e,λv z=>by rw[d]at z;cases z⟩
 keep:=λi h h' st k=>st.at λo e=>k it (by simp) o e
 item:=by
  intro X hP hw hK hc i pins s σ H E I hf st hg;subst hP hw hK;obtain⟨xs,x,hq,hx⟩:=hg;obtain⟨its,rv,p,hz⟩:=I.list hq;obtain⟨u,hu,ru⟩:=rv.get hx;obtain⟨f0,f1,f2,f3,f4,f5⟩:=hf it (by simp)
  refine wpAny_pyNext_list_item st p.isList (x:=u) (by simpa using hu) λh' st' sb=>?_
  have I1:Inv X pins σ H {s with heap:=h'}:=I.turned (t':=s.toks) (λb o hb e=>(sb.2 b hb).trans e) f0 f1 f3 f4 f5
  obtain⟨o,e,c,d⟩:=id st';exact⟨u,rfl,DH (s:={s with heap:=h'}) e c d (by decide) ⟨x,H,I1,ru,⟨rfl,λys hy=>by rw[I.Kc hy hq];exact hx⟩,st',λb hb=>(hf b hb).1⟩⟩
 done:=by
  intro X hP hw hK hc i pins s σ H E I hf st hg;subst hP hw hK;obtain⟨xs,hq,hx⟩:=hg;obtain⟨its,rv,p,hz⟩:=I.list hq;obtain⟨f0,f1,f2,f3,f4,f5⟩:=hf it (by simp)
  have hl:=rv.length;exact wpAny_pyNext_list_end (I.ok.hd hc) st p.isList (by simp;omega) λh' eb=>⟨rfl,I.turned (t':=s.toks) (λb o hb e=>eb b o hb e) f0 f1 f3 f4 f5⟩
 self:=λ_ _ _ _ _ st h=>wpAny_pyIter_listiter st h
theorem PC{P:τ}{w:ω}{K:Δ}{tg:ο}(it:Ξ) (lo:Int) (n:Nat):Turn P w K tg (wj lo n) [it] it (λi h=>IsRangeIter h it (lo+(i:Nat)*1) ((n:Int)-(i:Nat)) 1) where
 mem:=by simp
 obj:=λi h st b hb=>by
  have e:b=it:=by simpa using hb
  subst e;exact⟨_,st,λv z=>by
   have z':Data.fields _=Data.cell v:=z;cases z'⟩
 keep:=λi h h' st k=>k it (by simp) _ st
 item:=by
  intro X hP hw hK hc i pins s σ H E I hf st hg;subst hP hw hK;obtain⟨f0,f1,f2,f3,f4,f5⟩:=hf it (by simp)
  have W:=Walks.range (prog:=X.prog) (w:=X.w) (I.ok.hd hc) it lo 1 n;refine W.item i s _ _ hg st λv h' tk hv st' kk=>?_
  obtain⟨t,rfl⟩:=hv;have I1:Inv X pins σ H {s with heap:=h',toks:=tk}:=I.turned (λb o hb e=>kk b o (by simpa using hb) e) f0 f1 f3 f4 f5
  refine⟨_,rfl,DH (s:={s with heap:=h',toks:=tk}) (n:="range_iterator") st' rfl rfl (by decide) ⟨.int (lo+i),H,I1,⟨t,?_⟩,⟨rfl,rfl⟩,st',λb hb=>(hf b hb).1⟩⟩
  rw[Int.mul_one]
 done:=by
  intro X hP hw hK hc i pins s σ H E I hf st hg;subst hP hw hK;obtain⟨f0,f1,f2,f3,f4,f5⟩:=hf it (by simp)
  exact wpAny_pyNext_range_end (I.ok.hd hc) st (by have:n<=i:=hg;omega) λh' eb=>⟨rfl,I.turned (t':=s.toks) (λb o hb e=>eb b o hb e) f0 f1 f3 f4 f5⟩
 self:=λ_ _ _ _ _ st h=>wpAny_pyIter_rangeiter st h
section
variable {X:Cx}{tg:ο}
def KI(K:Δ) (tl:TE):TI:=λσ H R=>tl σ H λx H1=>∃a,x=.ref a/\(∃xs,bW K H1 a xs)/\R (uc K a) H1
theorem II{l:ο}{tl:TE}(hl:PE X l tl):PI X tg l (KI X.K tl):=by
 intro pins s σ H R I h;refine bE (hl pins s σ H _ I h) λv s1 ⟨x,H1,I1,r1,q1⟩=>?_
 obtain⟨a,e,⟨xs,hq⟩,q⟩:=q1;subst e;cases r1;obtain⟨its,rv,p,hz⟩:=I1.list hq;refine ajC p.isList ?_;refine⟨s1.heap.objs.size,[s1.heap.objs.size],_,_,H1,rfl,I1.kept (t':=s1.toks) λb o e=>ahs _ e,PD a _,⟨_,ahG _ rfl,rfl,rfl⟩,λb hb=>?_,q⟩
 have e:b=s1.heap.objs.size:=by simpa using hb
 subst e;exact I1.yV (ahn _) (I1.hok.fresh (ahn _))
theorem Iq{pins:List (Ξ×Obj)}{σ:St}{H:Hp}{s:ι}{R:It->Hp->Prop}{E:Ψ->ι->Prop}{lo hi:Int}{t u v:Tok}{tk:Nat}(I:Inv X pins σ H s) (h1:-(2^62)<=lo) (h2:lo<2^62) (h3:-(2^62)<=hi) (h4:hi<2^62)
  (q:R (wj lo (hi-lo).toNat) H):wpAny (model X.prog X.w) X.A (pyIter (.ref s.heap.objs.size)) (M7 X pins σ tg R) E {s with heap:=s.heap.push {cls:=.type "range",data:=.fields #[.int lo t,.int hi u,.int 1 v]},toks:=tk}:=by
 refine wpAny_pyIter_range (IsRange.new ..) (small_one h1 h2 h3 h4) ?_;have I1:Inv X pins σ H {s with heap:=s.heap.push {cls:=.type "range",data:=.fields #[.int lo t,.int hi u,.int 1 v]},toks:=tk}:=I.kept λb o e=>ahs _ e
 refine⟨(s.heap.push {cls:=.type "range",data:=.fields #[.int lo t,.int hi u,.int 1 v]}).objs.size,[(s.heap.push {cls:=.type "range",data:=.fields #[.int lo t,.int hi u,.int 1 v]}).objs.size],_,_,H,rfl,
  I1.kept (t':=tk) λb o e=>ahs _ e,PC _ lo (hi-lo).toNat,?_,λb hb=>?_,q⟩
 ·have e1:lo+((0:Nat):Int)*1=lo:=by simp
  have e2:(((hi-lo).toNat:Nat):Int)-((0:Nat):Int)=Builtin.Range.rangeSize lo hi 1:=by rw[rangeSize_one];split<;>omega
  show IsRangeIter _ _ (lo+((0:Nat):Int)*1) ((((hi-lo).toNat:Nat):Int)-((0:Nat):Int)) 1;rw[e1,e2];exact ahG _ rfl
 ·have e:b=(s.heap.push {cls:=.type "range",data:=.fields #[.int lo t,.int hi u,.int 1 v]}).objs.size:=by simpa using hb
  subst e;exact I1.yV (ahn _) (I1.hok.fresh (ahn _))
def aas(ta:TA):TI:=λσ H R=>ta σ H λvs H1=>∃j:Int,vs=[.int j]/\-(2^62)<=j/\j<2^62/\R (wj 0 j.toNat) H1
def aar(ta:TA):TI:=λσ H R=>ta σ H λvs H1=>∃i j:Int,vs=[.int i,.int j]/\(-(2^62)<=i/\i<2^62/\-(2^62)<=j/\j<2^62)/\R (wj i (j-i).toNat) H1
theorem Uj{a:ο}{ta:TA}{p pos:Pos}(hg:Gl X "range") (hm:X.mg "range"=η) (ha:PA X [a] ta) (hs:μ [a] X.env=[(Γ,eval a X.env)]:=by rfl):PI X tg (.Call (.Name "range" p) [a] [] pos) (aas ta):=by
 intro pins s σ H R I h;refine Call_ (o8 I hg hm boot_range (aiU (bE (ha pos pins s σ H _ I h) λus s1 ⟨vs,H1,I1,r1,q1⟩=>?_) hs rfl))
 obtain⟨j,e,q1,q2,q⟩:=q1;subst e;cases r1 with
 |cons r rr =>
  cases rr;obtain⟨t,rfl⟩:=r;exact call_range_1 (Iq I1 (by omega) (by omega) q1 q2 (by simpa using q))
theorem Ui{a b:ο}{ta:TA}{p pos:Pos}(hg:Gl X "range") (hm:X.mg "range"=η) (ha:PA X [a,b] ta) (hs:μ [a,b] X.env=[(Γ,eval a X.env),(Γ,eval b X.env)]:=by rfl) (hs2:μ [b] X.env=[(Γ,eval b X.env)]:=by rfl) :
  PI X tg (.Call (.Name "range" p) [a,b] [] pos) (aar ta):=by
 intro pins s σ H R I h;refine Call_ (o8 I hg hm boot_range (aiU (bE (ha pos pins s σ H _ I h) λus s1 ⟨vs,H1,I1,r1,q1⟩=>?_) (by rw[hs,hs2]) (by rw[hs2];rfl)))
 obtain⟨i,j,e,⟨q1,q2,q3,q4⟩,q⟩:=q1;subst e;cases r1 with
 |cons r rr =>
  cases rr with
  |cons r' rr =>
   cases rr;obtain⟨t,rfl⟩:=r;obtain⟨t',rfl⟩:=r';exact call_range_2 (Iq I1 q1 q2 q3 q4 q)
def HH(wi:TI) (g:TG) (tb:TS):TS:=λD σ H=>wi σ H λJ H1=>∃W:Nat->Nat->St->Hp->Prop,(∃m,W 0 m σ H1)/\∀i m σ H,W i m σ H ->
 (J.stop i H/\D.nx σ H)\/(J.go i H/\∃N:St->Hp->Prop,(∀σ' H',N σ' H'->∃m',m'<m/\W (i+1) m' σ' H')/\∀x H',J.qd i H x H'->g x σ H' λσ2 H2=>tb {D with nx:=N,ct:=N,bk:=D.nx} σ2 H2)
def uU(fp:List Ξ) (h:υ):List (Ξ×Obj):=fp.filterMap λb=>(h.get? b).map λo=>(b,o)
theorem yu{fp:List Ξ}{h:υ}{b:Ξ}{o:Obj}(hb:b∈fp) (e:h.get? b=ζ o):(b,o)∈uU fp h:=aiV.mpr ⟨b,hb,by rw[e];rfl⟩
theorem VQ{fp:List Ξ}{h:υ}{p:Ξ×Obj}(hp:p∈uU fp h):p.1∈fp/\h.get? p.1=ζ p.2:=by
 obtain⟨b,hb,e⟩:=aiV.mp hp;cases q:h.get? b with
 |none=>rw[q]at e;cases e
 |some o =>
  rw[q]at e;have e':(b,o)=p:=ahA e;subst e';exact⟨hb,q⟩
theorem Inv.pinned{pins:List (Ξ×Obj)}{σ:St}{H:Hp}{s:ι}{fp:List Ξ}(I:Inv X pins σ H s) (hf:∀b∈fp,gT X pins H b) (ho:∀b∈fp,∃o,s.heap.get? b=ζ o/\∀v,o.data≠.cell v):Inv X (pins++uU fp s.heap) σ H s :=
 I.xO λp hp=>(ahT.mp hp).elim (λz=>I.pin p (ah7 _ z)) λz=>by
  obtain⟨hb,e⟩:=VQ z;obtain⟨f0,f1,f2,_⟩:=hf p.1 hb;obtain⟨o,e',d⟩:=ho p.1 hb;rw[e]at e';cases e';exact⟨e,f0,f1,f2,d⟩
theorem Inv.uz{pins pl:List (Ξ×Obj)}{σ:St}{H:Hp}{s:ι}(I:Inv X (pins++pl) σ H s):Inv X pins σ H s:=I.xO λp hp=>I.pin p (ah7 _ (ajz _ hp))
theorem IB{iter:ο}{body:List aav}{wi:TI}{g:TG}{tb:TS}{pos:Pos}(hp:PassesOwn (model X.prog X.w) X.A X.env X.xe) (hc:X.calm=Θ) (hi:PI X tg iter wi) (hg:PG X tg g) (hb:fu X body tb)
  (hs:∀x,foldedSetIterable iter X.env x=pure x:=by intro _;rfl):PS X (.For tg iter body [] pos) (HH wi g tb):=by
 intro pins s σ H D I h;refine wpAny_For (bE (hi pins s σ H _ I h) λv s1 h1=>bE h1 λitv s2 h2=>?_) hs
 obtain⟨it,fp,tn,J,H2,e,I2,T,st2,f2,W,⟨m0,w0⟩,turn⟩:=h2;subst e;have oE:∀{H':Hp},(∀b∈fp,H' b=η)->∀b∈fp,gT X pins H' b:=λhn b hb=>⟨hn b hb,(f2 b hb).2⟩
 refine codeAny_forLoop_any (λn s'=>∃i σ' H',Inv X pins σ' H' s'/\tn i s'.heap/\(∀b∈fp,H' b=η)/\W i n σ' H') ?_ m0 ⟨0,σ,H2,I2,st2,λb hb=>(f2 b hb).1,w0⟩
 rintro n s3 ⟨i,σ3,H3,I3,st3,LD,w3⟩
 rcases turn i n σ3 H3 w3 with⟨stop,qn⟩|⟨go,N,hN,step⟩
 ·refine aiW hp (bE (T.done X rfl rfl rfl hc i pins s3 σ3 H3 X.xe I3 (oE LD) st3 stop) λr s4 ⟨hr,I4⟩=>?_)
  subst hr;exact ai4 ⟨σ3,H3,I4,qn⟩
 ·refine aiW hp (bE (T.item X rfl rfl rfl hc i pins s3 σ3 H3 X.xe I3 (oE LD) st3 go) λr s4 ⟨u,hr,h4⟩=>?_)
  subst hr;refine aiW hp (bE h4 λ_ s5 ⟨x,H5,I5,r5,y5,oG,yU⟩=>?_)
  have I5':=I5.pinned (oE yU) (T.obj _ _ oG);refine aiW hp (bE (hg _ s5 σ3 H5 x u _ I5' r5 (step x H5 y5)) λ_ s6 ⟨NT,H6,I6,q6⟩=>?_)
  refine aiW hp (bE (hb _ s6 NT H6 _ I6 q6) λf s7 q7=>?_)
  have again:∀{i7:St}{H7:Hp},Inv X (pins++uU fp s5.heap) i7 H7 s7->N i7 H7->∃m,m<n/\∃i σ' H',Inv X pins σ' H' s7/\tn i s7.heap/\(∀b∈fp,H' b=η)/\W i m σ' H':=fun{i7 H7} I7 n7=>by
   obtain⟨m',hm,w7⟩:=hN i7 H7 n7;refine⟨m',hm,i+1,i7,H7,I7.uz,T.keep _ _ _ oG λb hb o e=>(I7.pin (b,o) (ah7 _ (ah7 _ (yu hb e)))).1,λb hb=>?_,w7⟩
   obtain⟨o,e,d⟩:=T.obj _ _ oG b hb;exact(I7.pin (b,o) (ah7 _ (ah7 _ (yu hb e)))).2.1
  cases f with
  |next=>obtain⟨i7,H7,I7,n7⟩:=q7;exact again I7 n7
  |cont=>obtain⟨i7,H7,I7,n7⟩:=q7;exact again I7 n7
  |brk=>obtain⟨i7,H7,I7,q7⟩:=q7;exact⟨i7,H7,I7.uz,q7⟩
  |ret v=>obtain⟨x7,i7,H7,I7,r7,q7⟩:=q7;exact⟨x7,i7,H7,I7.uz,r7,q7⟩
end
theorem abS{K:Δ}{a:Ξ}{xs:List V}{g:TG}{tb:TS}{D:Ends}{σ:St}{H:Hp}(Pv:Nat->St->Hp->Prop) (h0:Pv 0 σ H) (hl:∀i σ H,i<=xs.length->Pv i σ H->bW K H a xs)
  (hs:∀i x σ H,xs[i]? = ζ x->Pv i σ H->g x σ H λσ2 H2=>tb {D with nx:=Pv (i+1),ct:=Pv (i+1),bk:=D.nx} σ2 H2) (hd:∀σ H,Pv xs.length σ H->D.nx σ H) :
  ∃W:Nat->Nat->St->Hp->Prop,(∃m,W 0 m σ H)/\∀i m σ H,W i m σ H ->
   ((uc K a).stop i H/\D.nx σ H)\/((uc K a).go i H/\∃N:St->Hp->Prop,(∀σ' H',N σ' H'->∃m',m'<m/\W (i+1) m' σ' H')/\∀x H',(uc K a).qd i H x H'->g x σ H' λσ2 H2=>tb {D with nx:=N,ct:=N,bk:=D.nx} σ2 H2):=by
 refine⟨λi m σ H=>m=xs.length-i/\i<=xs.length/\Pv i σ H,⟨xs.length,by simp,aiv _,h0⟩,?_⟩
 rintro i m σ H ⟨rfl,hi,p⟩
 have q:=hl i σ H hi p
 by_cases hlt:i<xs.length
 ·refine .inr ⟨⟨xs,xs[i],q,by simp[hlt]⟩,Pv (i+1),λσ' H' p'=>⟨xs.length-(i+1),by omega,rfl,hlt,p'⟩,λx H' y=>?_⟩
  obtain⟨e,y⟩:=y;subst e;exact hs i x σ _ (y xs q) p
 ·have e:i=xs.length:=by omega
  subst e;exact .inl ⟨⟨xs,q,ahn _⟩,hd σ H p⟩
abbrev R2:=V->V->Hp->VK->Prop
def bR(X:Cx) (f:Ψ->Ψ->Sem Ψ) (r:R2):Prop :=
 ∀(pins:List (Ξ×Obj)) (s:ι) (σ:St) (H:Hp) (x y:V) (v u:Ψ) (Q:VK),Inv X pins σ H s->RelV x v->RelV y u->r x y H Q ->
  wpAny (model X.prog X.w) X.A (f v u) (EP X pins σ Q) X.xe s
def eF(X:Cx) (f:Ψ) (r:List V->Hp->VK->Prop):Prop :=
 ∀(pins:List (Ξ×Obj)) (s:ι) (σ:St) (H:Hp) (xs:List V) (us:List Ψ) (Q:VK),Inv X pins σ H s->Vals xs us->r xs H Q ->
  wpAny (model X.prog X.w) X.A (call f us) (EP X pins σ Q) X.xe s
def qu(r:R2) (ta tb:TE):TE:=λσ H Q=>ta σ H λx H1=>tb σ H1 λy H2=>r x y H2 Q
def rI(C:Int->Int->Prop) (g:Int->Int->V):R2:=λx y H Q=>∃i j,x=.int i/\y=.int j/\C i j/\Q (g i j) H
def j0(g:Int->Int->V):R2:=λx y H Q=>∃i j,x=.int i/\y=.int j/\Q (g i j) H
section
variable {X:Cx}{a b c:ο}{ta tb tc:TE}{pos:Pos}
theorem Ga(ha:PE X a ta) (hb:PE X b tb) {pins:List (Ξ×Obj)}{s:ι}{σ:St}{H:Hp}{R:V->V->Hp->Prop}(I:Inv X pins σ H s)
  (h:ta σ H λx H1=>tb σ H1 λy H2=>R x y H2) {Q:Ψ->ι->Prop}{f:Ψ->Ψ->Sem Ψ}
  (hf:∀v u s2 x y H2,Inv X pins σ H2 s2->RelV x v->RelV y u->R x y H2->wpAny (model X.prog X.w) X.A (f v u) Q X.xe s2) :
  wpAny (model X.prog X.w) X.A (eval a X.env) (λv s₁=>wpAny (model X.prog X.w) X.A (eval b X.env) (λu s₂=>wpAny (model X.prog X.w) X.A (f v u) Q X.xe s₂) X.xe s₁) X.xe s:=by
 refine bE (ha pins s σ H _ I h) λv s1 ⟨x,H1,I1,r1,q1⟩=>?_
 refine bE (hb pins s1 σ H1 _ I1 q1) λu s2 ⟨y,H2,I2,r2,q2⟩=>?_
 exact hf v u s2 x y H2 I2 r1 r2 q2
theorem Ut{op:Operator}{r:R2}(ho:bR X (binaryOp op) r) (ha:PE X a ta) (hb:PE X b tb):PE X (.BinOp a op b pos) (qu r ta tb):=by
 intro pins s σ H Q I h;exact wpAny_BinOp (Ga ha hb I h λv u s2 x y H2 I2 rx ry q=>ho pins s2 σ H2 x y v u Q I2 rx ry q)
theorem x9{f:Ψ->Ψ->Sem Ψ}{C:Int->Int->Prop}{g:Int->Int->Int}
  (rule:∀(i j:Int) (t u:Tok) (s:ι) (Q:Ψ->ι->Prop) (E:Ψ->ι->Prop),C i j->Q (.int (g i j) s.toks) {s with toks:=s.toks+1}->wpAny (model X.prog X.w) X.A (f (.int i t) (.int j u)) Q E s) :
  bR X f (rI C λi j=>.int (g i j)):=by
 intro pins s σ H x y v u Q I rx ry h;obtain⟨i,j,rfl,rfl,hc,q⟩:=h;obtain⟨t,rfl⟩:=rx;obtain⟨t',rfl⟩:=ry;exact rule i j t t' s _ _ hc ⟨.int (g i j),H,I.tok _,⟨_,rfl⟩,q⟩
theorem BE{f:Ψ->Ψ->Sem Ψ}{g:Int->Int->Int}
  (rule:∀(i j:Int) (t u:Tok) (s:ι) (Q:Ψ->ι->Prop) (E:Ψ->ι->Prop),Q (.int (g i j) s.toks) {s with toks:=s.toks+1}->wpAny (model X.prog X.w) X.A (f (.int i t) (.int j u)) Q E s) :
  bR X f (j0 λi j=>.int (g i j)):=by
 intro pins s σ H x y v u Q I rx ry h;obtain⟨i,j,rfl,rfl,q⟩:=h;obtain⟨t,rfl⟩:=rx;obtain⟨t',rfl⟩:=ry;exact rule i j t t' s _ _ ⟨.int (g i j),H,I.tok _,⟨_,rfl⟩,q⟩
theorem ya{f:Ψ->Ψ->Sem Ψ}{g:Int->Int->Bool}
  (rule:∀(i j:Int) (t u:Tok) (s:ι) (Q:Ψ->ι->Prop) (E:Ψ->ι->Prop),Q (.bool (g i j)) s->wpAny (model X.prog X.w) X.A (f (.int i t) (.int j u)) Q E s) :
  bR X f (j0 λi j=>.bl (g i j)):=by
 intro pins s σ H x y v u Q I rx ry h;obtain⟨i,j,rfl,rfl,q⟩:=h;obtain⟨t,rfl⟩:=rx;obtain⟨t',rfl⟩:=ry;exact rule i j t t' s _ _ ⟨.bl (g i j),H,I,rfl,q⟩
def afz(i j:Int):Prop:=0<j/\j<1073741824
def afy(i j:Int):Prop:=0<=j/\j<=1000000/\i.natAbs<2^64
def GB(i j:Int):Prop:=(-(2^64)<i/\i<2^64)\/(-(2^64)<j/\j<2^64)
theorem GB.ok{i j:Int}(h:GB i j):IntMulOk i j:=by
 rcases h with⟨h1,h2⟩|⟨h1,h2⟩
 ·exact .of_left (intBits_le_64 h1 h2)
 ·exact .of_right (intBits_le_64 h1 h2)
theorem Vk:bR X (binaryOp .Add) (j0 λi j=>.int (i+j)):=BE λ_ _ _ _ _ _ _ q=>add_int q
theorem U3:bR X (binaryOp .Sub) (j0 λi j=>.int (i-j)):=BE λ_ _ _ _ _ _ _ q=>sub_int q
theorem U8:bR X (binaryOp .Mult) (rI GB λi j=>.int (i*j)):=x9 λ_ _ _ _ _ _ _ hc q=>mul_int q hc.ok
theorem Vf:bR X (binaryOp .FloorDiv) (rI afz λi j=>.int (i/j)):=x9 λi j _ _ _ _ _ hc q=>by
 have h1:(0:Int)<j:=hc.1;have h2:j<1073741824:=hc.2;exact floordiv_int (by omega) (by rw[Int.fdiv_eq_ediv_of_nonneg i (by omega)];exact q) (.inl (PyProof.noPylong_small (by omega)))
theorem U9:bR X (binaryOp .Mod) (rI (λ_ j=>0<j) λi j=>.int (i % j)):=x9 λi j _ _ _ _ _ hc q=>by
 have h1:(0:Int)<j:=hc;exact mod_int' (by omega) (by rw[Int.fmod_eq_emod_of_nonneg i (by omega)];exact q)
theorem U5:bR X (binaryOp .Pow) (rI afy λi j=>.int (i^j.toNat)):=x9 λ_ _ _ _ _ _ _ hc q=>pow_int_small hc.1 hc.2.1 hc.2.2 q
theorem Vj:bR X (binaryOp .BitAnd) (j0 λi j=>.int (Builtin.bitAnd i j)):=BE λ_ _ _ _ _ _ _ q=>and_int q
end
def Bg:V->V->Bool
 |.aH,.aH=>Θ|.aH,.int _=>Θ|.int _,.aH=>Θ|.aH,.bl _=>Θ|.bl _,.aH=>Θ|.aH,.str _=>Θ|.str _,.aH=>Θ
 |.int _,.int _=>Θ|.bl _,.bl _=>Θ|.str _,.str _=>Θ|.jP _,.jP _=>Θ
 |.int _,.str _=>Θ|.str _,.int _=>Θ|.bl _,.str _=>Θ|.str _,.bl _=>Θ
 |_,_=>Γ
def Sv:R2:=λx y H Q=>Bg x y=Θ/\Q (.bl (decide (x=y))) H
def Sl:R2:=λx y H Q=>Bg x y=Θ/\Q (.bl (!decide (x=y))) H
theorem LS{i j:Int}:decide (V.int i=V.int j)=(i==j):=by
 rw[aie];simp
theorem LV{i j:Bool}:decide (V.bl i=V.bl j)=(i==j):=by
 rw[aie];simp
theorem LR{i j:Str}:decide (V.str i=V.str j)=(i==j):=by
 rw[aie];simp
theorem LU{i j:Array UInt8}:decide (V.jP i=V.jP j)=(i.toList==j.toList):=by
 rw[aie];cases i;cases j;simp
section
variable {X:Cx}{a b c:ο}{ta tb tc:TE}{pos:Pos}
theorem dP{pins:List (Ξ×Obj)}{σ:St}{H:Hp}{s:ι}{Q:VK}{k k':Bool}(I:Inv X pins σ H s) (q:Q (.bl k) H) (e:k=k'):EP X pins σ Q (.bool k') s:=by
 subst e;exact⟨.bl k,H,I,rfl,q⟩
theorem Vg:bR X (compareOp .Eq) Sv:=by
 intro pins s σ H x y v u Q I rx ry h;obtain⟨hs,q⟩:=h;cases x with
 |aH =>
  cases rx;cases y with
  |aH=>cases ry;exact PySem.EqNone.eq_none_none (dP I q (by simp))
  |bl j=>cases ry;exact PySem.EqNone.eq_none_bool (dP I q (by simp))
  |int j=>obtain⟨t',rfl⟩:=ry;exact PySem.EqNone.eq_none_int (dP I q (by simp))
  |str j=>obtain⟨t',rfl⟩:=ry;exact PySem.EqNone.eq_none_str (dP I q (by simp))
  |_=>exact absurd (show Γ=Θ from hs) ahO
 |bl i =>
  cases rx;cases y with
  |aH=>cases ry;exact PySem.EqNone.eq_bool_none (dP I q (by simp))
  |bl j=>cases ry;exact eq_bool (dP I q LV)
  |str j=>obtain⟨t',rfl⟩:=ry;exact PySem.EqMixed.eq_bool_str (dP I q (by simp))
  |_=>exact absurd (show Γ=Θ from hs) ahO
 |int i =>
  obtain⟨t,rfl⟩:=rx;cases y with
  |aH=>cases ry;exact PySem.EqNone.eq_int_none (dP I q (by simp))
  |int j=>obtain⟨t',rfl⟩:=ry;exact eq_int (dP I q LS)
  |str j=>obtain⟨t',rfl⟩:=ry;exact PySem.EqMixed.eq_int_str (dP I q (by simp))
  |_=>exact absurd (show Γ=Θ from hs) ahO
 |str i =>
  obtain⟨t,rfl⟩:=rx;cases y with
  |aH=>cases ry;exact PySem.EqNone.eq_str_none (dP I q (by simp))
  |bl j=>cases ry;exact PySem.EqMixed.eq_str_bool (dP I q (by simp))
  |int j=>obtain⟨t',rfl⟩:=ry;exact PySem.EqMixed.eq_str_int (dP I q (by simp))
  |str j=>obtain⟨t',rfl⟩:=ry;exact eq_str (dP I q LR)
  |_=>exact absurd (show Γ=Θ from hs) ahO
 |jP i =>
  obtain⟨t,rfl⟩:=rx;cases y with
  |jP j=>obtain⟨t',rfl⟩:=ry;exact PySem.W.eq_bytes (dP I q LU)
  |_=>exact absurd (show Γ=Θ from hs) ahO
 |_=>cases y<;>exact absurd (show Γ=Θ from hs) ahO
theorem U7:bR X (compareOp .NotEq) Sl:=by
 intro pins s σ H x y v u Q I rx ry h;obtain⟨hs,q⟩:=h;cases x with
 |aH =>
  cases rx;cases y with
  |aH=>cases ry;exact PySem.EqNone.ne_none_none (dP I q (by simp))
  |bl j=>cases ry;exact PySem.EqNone.ne_none_bool (dP I q (by simp))
  |int j=>obtain⟨t',rfl⟩:=ry;exact PySem.EqNone.ne_none_int (dP I q (by simp))
  |str j=>obtain⟨t',rfl⟩:=ry;exact PySem.EqNone.ne_none_str (dP I q (by simp))
  |_=>exact absurd (show Γ=Θ from hs) ahO
 |bl i =>
  cases rx;cases y with
  |aH=>cases ry;exact PySem.EqNone.ne_bool_none (dP I q (by simp))
  |bl j=>cases ry;exact ne_bool (dP I q (congrArg not LV))
  |str j=>obtain⟨t',rfl⟩:=ry;exact PySem.EqMixed.ne_bool_str (dP I q (by simp))
  |_=>exact absurd (show Γ=Θ from hs) ahO
 |int i =>
  obtain⟨t,rfl⟩:=rx;cases y with
  |aH=>cases ry;exact PySem.EqNone.ne_int_none (dP I q (by simp))
  |int j=>obtain⟨t',rfl⟩:=ry;exact ne_int (dP I q (congrArg not LS))
  |str j=>obtain⟨t',rfl⟩:=ry;exact PySem.EqMixed.ne_int_str (dP I q (by simp))
  |_=>exact absurd (show Γ=Θ from hs) ahO
 |str i =>
  obtain⟨t,rfl⟩:=rx;cases y with
  |aH=>cases ry;exact PySem.EqNone.ne_str_none (dP I q (by simp))
  |bl j=>cases ry;exact PySem.EqMixed.ne_str_bool (dP I q (by simp))
  |int j=>obtain⟨t',rfl⟩:=ry;exact PySem.EqMixed.ne_str_int (dP I q (by simp))
  |str j=>obtain⟨t',rfl⟩:=ry;exact ne_str (dP I q (congrArg not LR))
  |_=>exact absurd (show Γ=Θ from hs) ahO
 |jP i =>
  obtain⟨t,rfl⟩:=rx;cases y with
  |jP j=>obtain⟨t',rfl⟩:=ry;exact PySem.W.ne_bytes (dP I q (congrArg not LU))
  |_=>exact absurd (show Γ=Θ from hs) ahO
 |_=>cases y<;>exact absurd (show Γ=Θ from hs) ahO
theorem Va:bR X (compareOp .Lt) (j0 λi j=>.bl (decide (i<j))):=ya λ_ _ _ _ _ _ _ q=>lt_int q
theorem Vb:bR X (compareOp .LtE) (j0 λi j=>.bl (decide (i<=j))):=ya λ_ _ _ _ _ _ _ q=>le_int q
theorem Vd:bR X (compareOp .Gt) (j0 λi j=>.bl (decide (j<i))):=ya λ_ _ _ _ _ _ _ q=>gt_int q
theorem Ve:bR X (compareOp .GtE) (j0 λi j=>.bl (decide (j<=i))):=ya λ_ _ _ _ _ _ _ q=>ge_int q
theorem Vc:bR X (compareOp .Is) (λx y H Q=>y=.aH/\Q (.bl (decide (x=.aH))) H):=by
 intro pins s σ H x y v u Q I rx ry h;obtain⟨rfl,q⟩:=h;cases ry;refine is_none_gen (dP I q ?_);cases x<;>first
  |(cases rx;rfl)
  |(obtain⟨t,rfl⟩:=rx;rfl)
theorem U6:bR X (compareOp .NotIn) (λx y H Q=>∃i j,x=.str i/\y=.str j/\Q (.bl (!(!(Builtin.Str.occurrences j i 0 j.length 1).isEmpty))) H):=by
 intro pins s σ H x y v u Q I rx ry h;obtain⟨i,j,rfl,rfl,q⟩:=h;obtain⟨t,rfl⟩:=rx;obtain⟨t',rfl⟩:=ry;exact notIn_str (dP I q rfl)
theorem Jt(b:ο) {op:CmpOp}(h:op≠.In:=by decide) (h2:op≠.NotIn:=by decide):behindInMarks op b=Γ:=by
 have e1:(op==CmpOp.In)=Γ:=by cases op<;>first|rfl|exact absurd rfl h
 have e2:(op==CmpOp.NotIn)=Γ:=by cases op<;>first|rfl|exact absurd rfl h2
 cases b<;>simp[behindInMarks,e1,e2]
theorem UB{op:CmpOp}{r:R2}(ho:bR X (compareOp op) r) (ha:PE X a ta) (hb:PE X b tb) (hm:behindInMarks op b=Γ):PE X (.Compare a [op] [b] pos) (qu r ta tb):=by
 intro pins s σ H Q I h;exact wpAny_Compare1 (Ga ha hb I h λv u s2 x y H2 I2 rx ry q=>ho pins s2 σ H2 x y v u Q I2 rx ry q) hm
def P8(t:TE):TT:=λσ H Q=>t σ H λx H'=>∃k,x=.bl k/\Q k H'
theorem SN{op:CmpOp}{r:R2}(ho:bR X (compareOp op) r) (ha:PE X a ta) (hb:PE X b tb) (hm:behindInMarks op b=Γ):PT X (.Compare a [op] [b] pos) (P8 (qu r ta tb)):=by
 intro pins s σ H Q I h;refine wpAny_isTrue_Compare1 (bE (ha pins s σ H _ I h) λv s1 ⟨x,H1,I1,r1,q1⟩=>bE (hb pins s1 σ H1 _ I1 q1) λu s2 ⟨y,H2,I2,r2,q2⟩ =>
  bE (ho pins s2 σ H2 x y v u _ I2 r1 r2 q2) λc s3 ⟨z,H3,I3,r3,k,e,q3⟩=>?_) hm
 subst e;cases r3;exact aiC ⟨H3,I3,q3⟩
def Qo(r r':R2) (ta tb tc:TE):TE:=λσ H Q=>ta σ H λx H1=>tb σ H1 λy H2=>r x y H2 λz H3=>∃k,z=.bl k /\
 (if k=Θ then tc σ H3 λw' H4=>r' y w' H4 Q else Q (.bl Γ) H3)
theorem UC{op op':CmpOp}{r r':R2}(ho:bR X (compareOp op) r) (ho':bR X (compareOp op') r') (ha:PE X a ta) (hb:PE X b tb) (hc:PE X c tc)
  (hm:lastMarks [op,op'] [b,c]=Γ:=by with_unfolding_all rfl):PE X (.Compare a [op,op'] [b,c] pos) (Qo r r' ta tb tc):=by
 intro pins s σ H Q I h;refine Compare_chain (bE (ha pins s σ H _ I h) λv s1 ⟨x,H1,I1,r1,q1⟩=>chain_link (bE (hb pins s1 σ H1 _ I1 q1) λu s2 ⟨y,H2,I2,r2,q2⟩ =>
  bE (ho pins s2 σ H2 x y v u _ I2 r1 r2 q2) λd s3 ⟨z,H3,I3,r3,k,e,q3⟩=>?_)) hm
 subst e;cases r3;refine aiC ?_;cases k with
 |false=>exact ite_ff ⟨.bl Γ,H3,I3,rfl,q3⟩
 |true=>exact ite_tt (chain_last (bE (hc pins s3 σ H3 _ I3 q3) λw' s4 ⟨z',H4,I4,r4,q4⟩=>ho' pins s4 σ H4 y z' u w' Q I4 r2 r4 q4))
theorem r9:(Ω:Nat)<2^63:=by rw[sizeLine_eq];decide
theorem Jc:bR X (binaryOp .Add) (λx y H Q=>∃i j,x=.str i/\y=.str j/\i.length+j.length<=Ω/\Q (.str (i++j)) H):=by
 intro pins s σ H x y v u Q I rx ry h;obtain⟨i,j,rfl,rfl,hz,q⟩:=h;obtain⟨t,rfl⟩:=rx;obtain⟨t',rfl⟩:=ry;exact add_str (λt' tk=>⟨.str (i++j),H,I.tok _,⟨_,rfl⟩,q⟩) hz
theorem vals1{x:V}{us:List Ψ}(r:Vals [x] us):∃u,us=[u]/\RelV x u:=by
 cases r with
 |cons r1 r2=>cases r2;exact⟨_,rfl,r1⟩
theorem vals2{x y:V}{us:List Ψ}(r:Vals [x,y] us):∃u w',us=[u,w']/\RelV x u/\RelV y w':=by
 cases r with
 |cons r1 r2 =>
  cases r2 with
  |cons r3 r4=>cases r4;exact⟨_,_,rfl,r1,r3⟩
theorem ad0(hc:X.calm=Θ):eF X (.builtin "max") (λxs H Q=>∃i j,xs=[.int i,.int j]/\Q (.int (if j>i then j else i)) H):=by
 intro pins s σ H xs us Q I r h;obtain⟨i,j,rfl,q⟩:=h;obtain⟨u,w',rfl,⟨t,rfl⟩,⟨t',rfl⟩⟩:=vals2 r;refine max_two_ints (I.ok.hd hc) λh' tk k=>⟨_,H,I.kept k,?_,q⟩
 by_cases hj:j>i
 ·rw[if_pos hj,if_pos hj];exact⟨_,rfl⟩
 ·rw[if_neg hj,if_neg hj];exact⟨_,rfl⟩
theorem adZ(hc:X.calm=Θ):eF X (.builtin "min") (λxs H Q=>∃i j,xs=[.int i,.int j]/\Q (.int (if j<i then j else i)) H):=by
 intro pins s σ H xs us Q I r h;obtain⟨i,j,rfl,q⟩:=h;obtain⟨u,w',rfl,⟨t,rfl⟩,⟨t',rfl⟩⟩:=vals2 r;refine min_two_ints (I.ok.hd hc) λh' tk k=>⟨_,H,I.kept k,?_,q⟩
 by_cases hj:j<i
 ·rw[if_pos hj,if_pos hj];exact⟨_,rfl⟩
 ·rw[if_neg hj,if_neg hj];exact⟨_,rfl⟩
theorem MQ:eF X (.type "int") (λxs H Q=>(∃i,xs=[.int i]/\Q (.int i) H)\/∃k,xs=[.bl k]/\Q (.int (if k then 1 else 0)) H):=by
 intro pins s σ H xs us Q I r h
 rcases h with⟨i,rfl,q⟩|⟨k,rfl,q⟩
 ·obtain⟨u,rfl,t,rfl⟩:=vals1 r;exact call_int_int ⟨.int i,H,I,⟨_,rfl⟩,q⟩
 ·obtain⟨u,rfl,r1⟩:=vals1 r;cases r1;exact call_int_bool ⟨.int (if k then 1 else 0),H,I.tok _,⟨_,rfl⟩,q⟩
theorem adX:eF X (.type "str") (λxs H Q=>∃i,xs=[.int i]/\i.natAbs.log2<1920/\Q (.str (toString i)) H):=by
 intro pins s σ H xs us Q I r h;obtain⟨i,rfl,hz,q⟩:=h;obtain⟨u,rfl,t,rfl⟩:=vals1 r;exact PySem.P.str_of_int hz ⟨.str _,H,I.tok _,⟨_,rfl⟩,q⟩
end
structure Gs (h:υ) (x dx C:Ξ) (mA:Str->Option Ψ):Prop where
 obj:h.get? x=ζ (PySem.W.instObj C dx)
 ns:h.Ns1 dx mA
 ne:dx≠x
theorem Y4{h:υ}{dx:Ξ}{mA:Str->Option Ψ}(n:h.Ns1 dx mA):∃od,h.get? dx=ζ od/\∀name,PySem.W.lookIn name od=ζ (mA name):=by
 obtain⟨o,es,ep,ho,hd,hk,_,hm⟩:=n;refine⟨o,ho,λname=>?_⟩
 have e:=hm name;unfold nsFind findBy at e;rw[<-Array.find?_toList]at e;unfold PySem.W.lookIn;rw[hd];dsimp only;split
 ·rename_i y q;rw[q]at e;exact congrArg ζ e
 ·rename_i q;rw[q]at e;have a:es.toList.any (·.refKey)=Γ:=by
   rw[ajD];intro y hy;obtain⟨z,t,hkey⟩:=hk y (aki.mp hy);simp[DictEntry.refKey,hkey]
  have a':¬es.toList.any (·.refKey)=Θ:=by rw[a];exact ahO
  rw[if_neg a'];exact congrArg ζ e
theorem Gs.look{h:υ}{x dx C:Ξ}{mA:Str->Option Ψ}(I:Gs h x dx C mA):∃od,PySem.W.InstAt h x (PySem.W.instObj C dx) C (ζ od)/\∀name,PySem.W.lookIn name od=ζ (mA name) :=
 let⟨od,ho,hl⟩:=Y4 I.ns
 ⟨od,⟨I.obj,rfl,rfl,ho⟩,hl⟩
section
variable {P:τ}{w:ω}{H H':Hp}{h h':υ}{a C dx:Ξ}{fs fs':List (Str×V)}
theorem aal(hok:cD P w H h) (e:H a=ζ (.ins C dx fs)):∃mA,Gs h a dx C mA/\(∀f,p9 (fs.lookup f) (mA f))/\PySem.Within mA (fs.map (·.1))/\fs.length<=1000/\H dx=ζ (.own a):=by
 obtain⟨d,z,ne,ob,mA,n,r,q⟩:=(show dZ P w H h a (.ins C dx fs)from hok a _ e)
 exact⟨mA,⟨ob,n,ne⟩,r,q,z,d⟩
end
structure GA (K:Δ) (C:Ξ):Prop where
 pg:PySem.W.plainGet K C Str.empty=Θ
 hd:PySem.W.hasDictIn K C=Θ
 po:PySem.W.plainOver K C=Θ
 sa:PySem.W.findIn K (.ref C) "__setattr__"=ζ (ζ (.builtin "object.__setattr__"))
theorem GA.get{K:Δ}{C:Ξ}(c:GA K C) (f:Str):PySem.W.plainGet K C f=Θ:=c.pg
section
variable {X:Cx}{pins:List (Ξ×Obj)}{σ:St}{H:Hp}{s:ι}{A:ψ}{E:Ψ->ι->Prop}{Q:Ψ->ι->Prop}{c:Ψ}{b:Bool}
inductive iY (K:Δ) (H:Hp):V->Ψ->Prop where
 |aH:iY K H .aH (.type "NoneType")
 |bl (x:Bool):iY K H (.bl x) (.type "bool")
 |int (i:Int):iY K H (.int i) (.type "int")
 |str (x:Str):iY K H (.str x) (.type "str")
 |sG (x:UInt64):iY K H (.sG x) (.type "float")
 |lst {a:Ξ}{xs:List V}(e:H a=ζ (.lst xs)):iY K H (.ref a) (.type "list")
 |cO {a:Ξ}{o:Obj}{xs:List V}(e:H a=ζ (.cO o (.lst xs))):iY K H (.ref a) (.type "list")
 |tup {a:Ξ}{xs:List V}(e:H a=ζ (.tup xs)):iY K H (.ref a) (.type "tuple")
 |dK {a:Ξ}{kvs:List (Key×V)}(e:H a=ζ (.dK kvs)):iY K H (.ref a) (.type "dict")
 |dT {a:Ξ}{kvs:List (List Key×V)}(e:H a=ζ (.dT kvs)):iY K H (.ref a) (.type "dict")
 |ins {a C dx:Ξ}{fs:List (Str×V)}(e:H a=ζ (.ins C dx fs)) (cl:GA K C) (ha:PySem.W.findIn K (.ref C) "__class__"=ζ (ζ (.builtin "object.__class__")))
   (hn:PySem.W.specialIn K (.builtin "object.__class__") "__get__"=ζ (ζ (.builtin "getset_descriptor.__get__"))) (htk:PySem.W.takesIn K (.builtin "object.__class__")=ζ Θ)
   (hm:PySem.W.mroIn K C (.type "object")=ζ Θ):iY K H (.ref a) (.ref C)
theorem aad{x:V}{u t:Ψ}(I:Inv X pins σ H s) (rx:RelV x u) (ty:iY X.K H x t) (e:PySem.W.kitOne X.K t c=ζ b) (h:∀tk,Q (.bool b) {s with toks:=tk}) :
  wpAny (model X.prog X.w) A (call (.builtin "isinstance") [u,c]) Q E s:=by
 cases ty with
 |aH=>cases(show u=Value.none from rx);exact ah3 PySem.W.kitx_none I.eE True.intro e (λz=>nomatch z) h
 |bl y=>cases(show u=Value.bool y from rx);exact ah3 PySem.W.kitx_bool I.eE True.intro e (λz=>nomatch z) h
 |int i=>obtain⟨t,q⟩:=(show ∃t,u=Value.int i t from rx);cases q;exact ah3 PySem.W.kitx_int I.eE True.intro e (λz=>nomatch z) h
 |str y=>obtain⟨t,q⟩:=(show ∃t,u=Value.str y t from rx);cases q;exact ah3 PySem.W.kitx_str I.eE True.intro e (λz=>nomatch z) h
 |sG y=>obtain⟨t,q⟩:=(show ∃t,u=Value.float y t from rx);cases q;exact ah3 PySem.W.kitx_float I.eE True.intro e (λz=>nomatch z) h
 | @lst a xs ea =>
  cases(show u=Value.ref a from rx)
  obtain⟨_,_,n,_,h1⟩:=(show dZ X.prog X.w H s.heap a (.lst xs)from I.hok a _ ea)
  exact ah3 akj I.eE ⟨_,h1,rfl⟩ e (λz=>nomatch z) h
 | @cO a ob xs ea =>
  cases(show u=Value.ref a from rx)
  obtain⟨_,_,_,n,_,h1⟩:=(show dZ X.prog X.w H s.heap a (.cO ob (.lst xs))from I.hok a _ ea)
  exact ah3 akj I.eE ⟨_,h1,rfl⟩ e (λz=>nomatch z) h
 | @tup a xs ea =>
  cases(show u=Value.ref a from rx)
  obtain⟨_,_,_,p⟩:=(show dZ X.prog X.w H s.heap a (.tup xs)from I.hok a _ ea)
  obtain⟨o,h1,h2,_⟩:=p;exact ah3 PySem.W.kitx_tuple I.eE ⟨o,h1,h2⟩ e (λz=>nomatch z) h
 | @dK a kvs ea =>
  cases(show u=Value.ref a from rx)
  obtain⟨_,_,vs,_,p⟩:=(show dZ X.prog X.w H s.heap a (.dK kvs)from I.hok a _ ea)
  obtain⟨o,es,ep,h1,h2,_⟩:=p;exact ah3 ajE I.eE ⟨o,h1,h2.1⟩ e (λz=>nomatch z) h
 | @dT a kvs ea =>
  cases(show u=Value.ref a from rx)
  obtain⟨_,_,xs,_,o,es,ep,h1,h2,_⟩:=(show dZ X.prog X.w H s.heap a (.dT kvs)from I.hok a _ ea)
  exact ah3 ajE I.eE ⟨o,h1,h2.1⟩ e (λz=>nomatch z) h
 | @ins a C dx fs ea cl ha hn htk hm =>
  cases(show u=Value.ref a from rx)
  obtain⟨mA,O,_⟩:=aal I.hok ea;obtain⟨od,J,_⟩:=O.look;exact ah3 (PySem.W.kitx_own (cl.get _) cl.hd ha hn htk hm) I.eE J e (λz=>nomatch z) h
end
structure dg (k:Nat) (A:ψ):Prop where
 hd:A.handled=η
 dp:A.depth+3*k+5<recursionLimit
 un:A.units+16*k+200<aa0
theorem dg.mono{j k:Nat}{A:ψ}(r:dg k A) (h:j<=k):dg j A:=⟨r.hd,by have:=r.dp;omega,by have:=r.un;omega⟩
theorem dg.deeper{k:Nat}{A:ψ}(r:dg (k+1) A) (env:Env):dg k (A.deeper env) :=
 ⟨r.hd,by have:=r.dp;show A.depth+1+3*k+5<_;omega,by have:=r.un;show A.units+3+16*k+200<_;omega⟩
theorem dg.depth{k:Nat}{A:ψ}(r:dg k A):A.depth<recursionLimit:=by have:=r.dp;omega
def HF:TA:=λ_ H Q=>Q [] H
def AZ(ta:TE) (tr:TA):TA:=λσ H Q=>ta σ H λx H1=>tr σ H1 λxs H2=>Q (x::xs) H2
section
variable {X:Cx}{e:ο}{es:List ο}{te:TE}{t:TA}{pos:Pos}
theorem jC:PA X [] HF:=λ_ _ _ _ H Q I h=>Calls.spliced_nil ⟨[],H,I,.nil,h⟩
theorem iF(ha:PE X e te) (hr:PA X es t) (hs:μ (e::es) X.env=(Γ,eval e X.env)::μ es X.env:=by rfl):PA X (e::es) (AZ te t):=by
 intro pos pins s σ H Q I h;rw[hs];show wpAny _ _ (spliced ((Γ,eval e X.env)::aab pos (μ es X.env))) _ _ s;refine Calls.spliced_cons (bE (ha pins s σ H _ I h) λu s1 ⟨x,H1,I1,r1,q1⟩=>?_)
 exact bE (hr pos pins s1 σ H1 _ I1 q1) λus s2 ⟨xs,H2,I2,r2,q2⟩=>⟨x::xs,H2,I2,.cons r1 r2,q2⟩
def HD(t:TA):TE:=λσ H Q=>t σ H λxs H1=>xs.length<=Ω/\∀p,H1 p=η->Q (.ref p) (upd H1 p (.tup xs))
def Qj(t:TA):TE:=λσ H Q=>t σ H λxs H1=>xs.length<=Ω/\∀p,H1 p=η->Q (.ref p) (upd H1 p (.lst xs))
theorem IQ{x1}(h:PA X es t):PE X (.Tuple es x1 pos) (HD t):=by
 intro pins s σ H Q I hq;refine wpAny_Tuple_spliced (bE (h pos pins s σ H _ I hq) λus s1 ⟨xs,H1,I1,r,z,q⟩=>⟨by rw[<-r.length];exact z,?_⟩)
 have hf:H1 s1.heap.objs.size=η:=I1.hok.fresh (ahn _);refine⟨.ref s1.heap.objs.size,upd H1 s1.heap.objs.size (.tup xs),I1.laid (t':=s1.toks) (λb u e=>ahs _ e) (ahn _) ?_,rfl,q _ hf⟩
 exact⟨z,us,r,⟨_,ahG _ rfl,rfl,⟨_,rfl⟩,rfl⟩⟩
theorem IT(h:PA X es t):PE X (.List es pos) (Qj t):=by
 intro pins s σ H Q I hq;refine wpAny_List_spliced (bE (h pos pins s σ H _ I hq) λus s1 ⟨xs,H1,I1,r,z,q⟩=>⟨by rw[<-r.length];exact z,?_⟩)
 have hf:H1 s1.heap.objs.size=η:=I1.hok.fresh (ahn _);refine⟨.ref s1.heap.objs.size,upd H1 s1.heap.objs.size (.lst xs),I1.laid (t':=s1.toks) (λb u e=>ahs _ e) (ahn _) ?_,rfl,q _ hf⟩
 exact⟨z,us,0,r,ahG _ rfl⟩
end
abbrev Sp:=List V->Hp->VK->XK->Prop
abbrev mH:=List Env->Hp->ι->XK->Ψ->ι->Prop
structure mG (P:τ) (w:ω) (K:Δ) (mg:Str->Option Ψ) (base:υ) (A:ψ) (outer:List Env) (s:ι) (H:Hp):Prop where
 frames:A.frames=ζ outer
 mod:Mod K mg base
 bs:∀b o,base.get? b=ζ o->s.heap.get? b=ζ o/\H b=η
 gk:base.objs.size<=s.heap.objs.size
 fW:s.heap.FunFrames base outer
 iw:∀b∈frs outer,H b=η
 hok:cD P w H s.heap
 bare:aaL s.gens
def CE(outer:List Env) (P:τ) (w:ω) (H:Hp) (s:ι) (Q:VK) (u:Ψ) (s':ι):Prop :=
 ∃v H',s'.os=s.os/\aaL s'.gens/\Un (frs outer) [] H H' s.heap s'.heap/\cD P w H' s'.heap/\RelV v u/\Q v H'
def CR(CX:mH) (outer:List Env) (P:τ) (w:ω) (H:Hp) (s:ι) (Q:VK) (E:XK) (r:Result) (s':ι):Prop :=
 match r with
 |.ok (.ret u)=>CE outer P w H s Q u s'
 |.ok _=>False
 |.error e=>CX outer H s E e s'
structure bX (P:τ) (w:ω) (K:Δ) (mg:Str->Option Ψ) (base:υ) (CX:mH) (k:Nat) (f:Ξ) (fd:ν) (ps:List Str) (sp:Sp):Prop where
 len:∀vs H Q E,sp vs H Q E->vs.length=ps.length
 run:∀(A:ψ) (outer:List Env) (s:ι) (H:Hp) (args:Args) (us:List Ψ) (vs:List V) (Q:VK) (E:XK),dg k A->mG P w K mg base A outer s H->aa2 s fd args (ps.zip us)->Vals vs us->sp vs H Q E ->
  codeAny (model P w) A (.call (.ref f) args) (CR CX outer P w H s Q E) s
section
variable {X:Cx}{pins:List (Ξ×Obj)}{σ:St}{H:Hp}{s s':ι}
theorem Inv.zK(I:Inv X pins σ H s):mG X.prog X.w X.K X.mg X.base X.A X.stack s H :=
 ⟨I.ok.frames,I.ok.mod,I.bs,ahB I.ok.gk I.sz,I.stack,I.xo,I.hok,I.bare⟩
theorem Inv.after{Q:VK}{u:Ψ}(I:Inv X pins σ H s) (h:CE X.stack X.prog X.w H s Q u s'):EP X pins σ Q u s':=by
 obtain⟨v,H',os,bare,un,hok,r,q⟩:=h;obtain⟨hh,g,d,t,os'⟩:=s';obtain rfl:os'=s.os:=os;exact⟨v,H',I.call (h':=hh) (g':=g) (d':=d) (t':=t) (ch:=[]) un hok bare (λb z=>absurd z (by simp)),r,q⟩
end
def HK(sp:Sp) (nL:List V) (E:XK) (t:TA):TE:=λσ H Q=>t σ H λvs H1=>sp (vs++nL) H1 Q E
def Binds(K:Δ) (fd:ν) (ps:List Str) (ds:List Ψ):Prop :=
 ∀(s:ι) (us:List Ψ),K.In s.heap->(us++ds).length=ps.length->aa2 s fd ⟨us,[]⟩ (ps.zip (us++ds))
theorem Binds.all{K:Δ}{fd:ν}{ps:List Str}(h:∀us:List Ψ,us.length=ps.length->bindArgs fd ⟨us,[]⟩=pure (ps.zip us)):Binds K fd ps []:=λs us _ hl=>by
 rw[aim]at hl ⊢;exact .of_eq (h us hl)
def Passes(CX:mH) (X:Cx) (E:XK):Prop:=∀(pins:List (Ξ×Obj)) (σ:St) (H:Hp) (s:ι) (e:Ψ) (s':ι),Inv X pins σ H s->CX X.stack H s E e s'->X.xe e s'
section
variable {X:Cx}{CX:mH}{k:Nat}{f C:Ξ}{fd:ν}{ps:List Str}{sp:Sp}{nL:List V}{ds:List Ψ}{E:XK}{x m:Str}{p pos apos:Pos}{e o:ο}{es:List ο}{ta:TE}{t:TA}
theorem RU{pins:List (Ξ×Obj)}{σ:St}{H:Hp}{s:ι}{Q:VK}{us:List Ψ}{vs:List V}(F:bX X.prog X.w X.K X.mg X.base CX k f fd ps sp) (hr:dg k X.A) (hb:Binds X.K fd ps ds) (hd:Vals nL ds) (hx:Passes CX X E)
  (I:Inv X pins σ H s) (r:Vals vs us) (h:sp (vs++nL) H Q E):wpAny (model X.prog X.w) X.A (call (.ref f) us) (EP X pins σ Q) X.xe s:=by
 have r2:Vals (vs++nL) (us++ds):=r.append hd;have hl:(us++ds).length=ps.length:=by rw[<-r2.length];exact F.len _ _ _ _ h
 refine ai5 (aiD (F.run X.A X.stack s H ⟨us,[]⟩ (us++ds) (vs++nL) Q E hr I.zK (hb s us I.eE hl) r2 h) λr s' hq=>?_)
 cases r with
 |error e=>exact hx pins σ H s e s' I hq
 |ok fl =>
  cases fl with
  |ret u=>exact I.after hq
  |next=>exact False.elim hq
  |brk=>exact False.elim hq
  |cont=>exact False.elim hq
theorem IU(F:bX X.prog X.w X.K X.mg X.base CX k f fd ps sp) (hr:dg k X.A) (hg:Gl X x) (hm:X.mg x=ζ (.ref f)) (hk:PySem.W.keepIn X.K (.ref f)=Θ) (hb:Binds X.K fd ps ds) (hd:Vals nL ds) (hx:Passes CX X E)
  (ha:PA X (e::es) t) (hdb:(x==("__debug__":Str))=Γ:=by decide) (he:μ (e::es) X.env=(Γ,eval e X.env)::μ es X.env:=by rfl) (hpl:(aab pos (μ es X.env)).any (·.1)=Γ:=by rfl) :
  PE X (.Call (.Name x p) (e::es) [] pos) (HK sp nL E t):=by
 intro pins s σ H Q I h;refine aiE (sd I hg hm ?_ hdb);refine ajF (h₀:=X.base) I.ok.mod.jH hk (bE (ha pos pins s σ H _ I h) λus s1 ⟨vs,H1,I1,r,q⟩=>⟨I1.eE,?_⟩) he hpl
 exact RU F hr hb hd hx I1 r q
end
structure cK (N P:List Str) (sc:aaA):Prop where
 kind:sc.kind=.function
 co:sc.isCoroutine=Γ
 gen:sc.isGenerator=Γ
 nd:N.Nodup
 pre:N.take P.length=P
 par:∀x∈P,sc.names.lookup x=ζ .local\/sc.names.lookup x=ζ .cell
 Xy:∀y∈sc.names,y.2≠.free
theorem MT{kindOf:Str->Option aaw}{x:Str}:∀{binds:List (Str×Ψ)}{m:Str->Option Ψ},(∀v,(x,v)∉binds)->bindL kindOf binds m x=m x
 |[],_,_=>rfl
 |(n,v)::r,m,h=>by
  unfold bindL;rw[MT λw hw=>h w (ahX _ hw)]
  split
  ·have:x≠n:=by rintro rfl;exact h v aib
   simp[this]
  ·rfl
theorem MV{kindOf:Str->Option aaw}{x:Str}:∀{binds:List (Str×Ψ)}{m:Str->Option Ψ},(∀v,(x,v)∉binds)->bindC kindOf binds m x=m x
 |[],_,_=>rfl
 |(n,v)::r,m,h=>by
  unfold bindC;rw[MV λw hw=>h w (ahX _ hw)]
  split
  ·rfl
  ·have:x≠n:=by rintro rfl;exact h v aib
   simp[this]
theorem MU{kindOf:Str->Option aaw}{x:Str}{v:Ψ}:∀{P:List Str}{vs:List Ψ}{i:Nat}{m:Str->Option Ψ},P.Nodup->P[i]? = ζ x->vs[i]? = ζ v->kindOf x=ζ .local ->
  bindL kindOf (P.zip vs) m x=ζ v
 |[],_,_,_,_,h,_,_=>by simp at h
 |_::_,[],_,_,_,_,h,_=>by simp at h
 |p::P,w::vs,0,m,nd,h1,h2,hk=>by
  simp at h1 h2;subst h1;subst h2;show bindL kindOf ((p,w)::P.zip vs) m p=_;unfold bindL;rw[MT λv hv=>(aiw.mp nd).1 (aiF hv).1,if_pos hk]
  simp
 |p::P,w::vs,i+1,m,nd,h1,h2,hk=>by
  show bindL kindOf ((p,w)::P.zip vs) m x=_;unfold bindL;exact MU (i:=i) (aiw.mp nd).2 (by simpa using h1) (by simpa using h2) hk
theorem MW{kindOf:Str->Option aaw}{x:Str}{v:Ψ}:∀{P:List Str}{vs:List Ψ}{i:Nat}{m:Str->Option Ψ},P.Nodup->P[i]? = ζ x->vs[i]? = ζ v->kindOf x≠ζ .local ->
  bindC kindOf (P.zip vs) m x=ζ v
 |[],_,_,_,_,h,_,_=>by simp at h
 |_::_,[],_,_,_,_,h,_=>by simp at h
 |p::P,w::vs,0,m,nd,h1,h2,hk=>by
  simp at h1 h2;subst h1;subst h2;show bindC kindOf ((p,w)::P.zip vs) m p=_;unfold bindC;rw[MV λv hv=>(aiw.mp nd).1 (aiF hv).1,if_neg hk]
  simp
 |p::P,w::vs,i+1,m,nd,h1,h2,hk=>by
  show bindC kindOf ((p,w)::P.zip vs) m x=_;unfold bindC;exact MW (i:=i) (aiw.mp nd).2 (by simpa using h1) (by simpa using h2) hk
def start(N:List Str) (vs:List V):St:=vs.map ζ++π (N.length-vs.length) η
def fP(CX:mH) (P:τ) (w:ω) (K:Δ) (mg:Str->Option Ψ) (base:υ) (N:List Str) (qual:Str) (scope:aaA) (f:Ξ) (cd:Ψ) (A:ψ) (outer:List Env) (s:ι) (H:Hp) (E:XK):Cx where
 prog:=P
 w:=w
 K:=K
 mg:=mg
 base:=base
 A:=A.deeper (envOfC qual scope s.heap.objs.size f cd)
 N:=N
 s₀:=s
 H₀:=H
 env:=envOfC qual scope s.heap.objs.size f cd
 outer:=outer
 stack:=envOfC qual scope s.heap.objs.size f cd::outer
 ex:=[]
 calm:=Θ
 fn:=λ_=>Θ
 pn:=[]
 xe:=λe s'=>wpAny (model P w) (A.deeper (envOfC qual scope s.heap.objs.size f cd)) (leaving (envOfC qual scope s.heap.objs.size f cd) e) (λ_ s''=>CX outer H s E e s'') (λe' s''=>CX outer H s E e' s'') s'
theorem Mg{sc:aaA}{n:Nat}{x:Str}(h:sc.names.lookup x=ζ .cell):∃c,(cellsFrom n sc.names []).lookup x=ζ c:=by
 have q:=aiX sc.names n [] (.inl h);exact aiY.mp q
theorem Kz{CX:mH}{P:τ}{w:ω}{K:Δ}{mg:Str->Option Ψ}{base:υ}{N ps:List Str}{qual:Str}{scope:aaA}{f:Ξ}{cd:Ψ}{A:ψ}{outer:List Env}{s s1:ι}{H:Hp}{E:XK}{us:List Ψ}{vs:List V}
  (S:cK N ps scope) (hd:A.handled=η) (e0:mG P w K mg base A outer s H) (hl:vs.length=ps.length) (r:Vals vs us)
  (x:InCallC s s.heap.objs.size (bindL (envOfC qual scope s.heap.objs.size f cd).kindOf (ps.zip us) λ_=>η) (cellsFrom (s.heap.objs.size+1) scope.names []) (bindC (envOfC qual scope s.heap.objs.size f cd).kindOf (ps.zip us) λ_=>η) s1) :
  Inv (fP CX P w K mg base N qual scope f cd A outer s H E) [] (start N vs) H s1:=by
 have hpl:ps.length<=N.length:=by have:=congrArg List.length S.pre;rw[aix]at this;omega
 obtain⟨h1,tk,rfl,hk⟩:=x.done;have kO:∀b:Ξ,b∉(fP CX P w K mg base N qual scope f cd A outer s H E).ex:=λb z=>absurd (show b∈([]:List Ξ)from z) (by simp)
 refine⟨⟨e0.mod,S.kind,rfl,rfl,ahn _,λy z c h1 h2=>?_,λy hy=>?_,λy c _ h=>?_,λ_=>hd,ajG e0.frames,.inr ⟨rfl,rfl⟩,λb z=>absurd z (kO b),e0.bs,e0.gk,λb _ _=>kO b,λb z=>absurd z (kO b),e0.fW,e0.iw⟩,
  rfl,e0.bare,Un.kept hk,⟨_,x.toInCall.ns,λi y v h1 h2 h3=>?_⟩,λy c h=>⟨_,x.cell y c h⟩,e0.hok.fresh (ahn _),λy c h=>?_,λp hp=>absurd (show p∈([]:List (Ξ×Obj))from hp) (by simp),e0.hok.kept hk,?_⟩
 ·exact name_of_addr x.apart (aic h1) (aic h2)
 ·have hy:scope.names.lookup y=ζ .cell\/scope.names.lookup y=ζ .free:=hy
  rcases hy with hy|hy
  ·exact Mg hy
  ·exact absurd rfl (S.Xy _ (aic hy))
 ·exact aiS (x.above y c (aic h))
 ·have hi:i<vs.length:=by
   unfold start at h2
   by_cases hi:i<vs.length
   ·exact hi
   ·rw[ahW (by simpa using hi)]at h2
    rw[ajH]at h2;split at h2<;>cases h2
  have ha:vs[i]? = ζ v:=by
   unfold start at h2;rw[ahY (by simpa using hi),ahS]at h2
   cases e:vs[i]? with
   |none=>rw[e]at h2;cases h2
   |some a=>rw[e]at h2;cases h2;rfl
  obtain⟨u,hu,rv⟩:=r.get ha;have hp:ps[i]? = ζ y:=by
   rw[<-S.pre,ajI (by omega)];exact h1
  have JF:ps.Nodup:=by rw[<-S.pre];exact S.nd.sublist (akk _ _)
  refine⟨u,rv,?_⟩
  rcases S.par y (ahP hp)with k|k
  ·exact .inl ⟨k,MU JF hp hu k⟩
  ·obtain⟨c,e⟩:=Mg (n:=s.heap.objs.size+1) k;refine .inr ⟨.inl k,c,e,?_⟩;have q:=x.cell y c e;rw[MW JF hp hu (by show scope.names.lookup y≠_;rw[k];decide)]at q
   exact q
 ·exact e0.hok.fresh (aiS (x.above y c (aic h)))
 ·unfold start;show _=N.length;rw[ahC,ahr,List.length_replicate];omega
theorem DP{CX:mH}{P:τ}{w:ω}{K:Δ}{mg:Str->Option Ψ}{base:υ}{k:Nat}{f:Ξ}{name qual:Str}{params:aaN}{body:List aav}{scope:aaA}{dV kV doc pm cdv ct oc:Ψ}{an od:Option Ξ}
  {osl:Array (Option Ψ)}{N ps:List Str}{sp:Sp}(lk:K.lookup f=ζ ⟨oc,od,.func (PySem.W.fnOf name qual params body scope dV kV doc pm an cdv ct),osl⟩) (hcd:PySem.W.codeIn K cdv qual=Θ) (S:cK N ps scope)
  (len:∀vs H Q E,sp vs H Q E->vs.length=ps.length)
  (hbody:∀(A:ψ) (outer:List Env) (s:ι) (H:Hp) (vs:List V) (Q:VK) (E:XK),dg k (A.deeper (envOfC qual scope s.heap.objs.size f cdv))->sp vs H Q E ->
   ∃t,fu (fP CX P w K mg base N qual scope f cdv A outer s H E) body t/\t {nx:=λ_ H'=>Q .aH H',rt:=Q} (start N vs) H) :
  bX P w K mg base CX (k+1) f (PySem.W.fnOf name qual params body scope dV kV doc pm an cdv ct) ps sp:=by
 refine⟨len,λA outer s H args us vs Q E hr e0 hb r fF=>?_⟩
 have hl:=len _ _ _ _ fF;have KX:K.In s.heap:=e0.mod.jH.keeps λb o e=>(e0.bs b o e).1
 have lim:s.heap.NoLimit:=e0.mod.nolimit.keeps λb o e=>(e0.bs b o e).1
 have hkind:∀y∈ps.zip us,scope.names.lookup y.1=ζ .local\/(scope.names.lookup y.1=ζ .cell/\((cellsFrom (s.heap.objs.size+1) scope.names []).lookup y.1).isSome=Θ):=fun⟨n,v⟩ hy=>by
  rcases S.par n (aiF hy).1 with q|q
  ·exact .inl q
  ·exact .inr ⟨q,aiX _ _ _ (.inl q)⟩
 refine akl hr.depth (KX _ _ lk) rfl S.co S.gen rfl (akm KX hcd) (hb _ _ _ _ ?_);refine akn S.kind hkind λenv he s1 x=>?_
 subst he;refine⟨lim.keeps x.toInCall.keep,codeAny_func ?_⟩;obtain⟨t,ht,hq⟩:=hbody A outer s H vs Q E (hr.deeper _) fF;have I:Inv (fP CX P w K mg base N qual scope f cdv A outer s H E) [] (start N vs) H s1:=Kz S hr.hd e0 hl r x;refine ahN (ht [] s1 (start N vs) H _ I hq) (λfl s' hs=>?_) λe s' hs=>hs
 have fin:∀{σ':St}{H':Hp}{v:V}{u:Ψ},Inv (fP CX P w K mg base N qual scope f cdv A outer s H E) [] σ' H' s'->RelV v u->Q v H'->CE outer P w H s Q u s' :=
  fun{σ' H' v u} J rv q=>⟨v,H',J.os,J.bare,J.base,J.hok,rv,q⟩
 cases fl with
 |ret u =>
  obtain⟨v,σ',H',J,rv,q⟩:=hs;exact fin J rv q
 |next =>
  obtain⟨σ',H',J,q⟩:=hs;exact fin (v:=V.aH) (u:=Value.none) J rfl q
 |brk =>
  obtain⟨_,_,_,q⟩:=hs;exact False.elim q
 |cont =>
  obtain⟨_,_,_,q⟩:=hs;exact False.elim q
section
variable {X:Cx}{x:Str}{p pos:Pos}{e:ο}{es:List ο}{t:TA}{id T:String}{r:List V->Hp->VK->Prop}
def HL(r:List V->Hp->VK->Prop) (t:TA):TE:=λσ H Q=>t σ H λvs H1=>r vs H1 Q
theorem UG(hc:eF X (.builtin id) r) (hg:Gl X x) (hm:X.mg x=η) (hv:bootBuiltins x=ζ (.builtin id)) (ha:PA X (e::es) t) (hn:x≠"__name__":=by decide) (hdb:(x==("__debug__":Str))=Γ:=by decide)
  (he:μ (e::es) X.env=(Γ,eval e X.env)::μ es X.env:=by rfl) (hpl:(aab pos (μ es X.env)).any (·.1)=Γ:=by rfl):PE X (.Call (.Name x p) (e::es) [] pos) (HL r t):=by
 intro pins s σ H Q I h;refine aiE (o8 I hg hm hv ?_ hn hdb);exact PyProof.Rows.callWith_builtin1 (bE (ha pos pins s σ H _ I h) λus s1 ⟨vs,H1,I1,r1,q1⟩=>hc pins s1 σ H1 vs us Q I1 r1 q1) he hpl
theorem UD(hc:eF X (.type T) r) (hg:Gl X x) (hm:X.mg x=η) (hv:bootBuiltins x=ζ (.type T)) (ha:PA X (e::es) t) (hn:x≠"__name__":=by decide) (hdb:(x==("__debug__":Str))=Γ:=by decide)
  (he:μ (e::es) X.env=(Γ,eval e X.env)::μ es X.env:=by rfl) (hpl:(aab pos (μ es X.env)).any (·.1)=Γ:=by rfl):PE X (.Call (.Name x p) (e::es) [] pos) (HL r t):=by
 intro pins s σ H Q I h;refine aiE (o8 I hg hm hv ?_ hn hdb);exact aiU (bE (ha pos pins s σ H _ I h) λus s1 ⟨vs,H1,I1,r1,q1⟩=>hc pins s1 σ H1 vs us Q I1 r1 q1) he hpl
end
end L2
namespace HT
open PySem PyProof.Rows
section
variable {prog:τ}{w:ω}{A:ψ}{E:Ψ->ι->Prop}{s:ι}
theorem adU{t b:Ξ}{vs ws:List Ψ}{Q:Ψ->ι->Prop}(ht:IsTup s.heap t vs.toArray) (hb:IsTup s.heap b ws.toArray) (hv:vs≠[])
  (h1:ws=[]->Q (.ref t) s) (h2:ws≠[]->Q (.ref s.heap.objs.size) {s with heap:=s.heap.push {cls:=.type "tuple",data:=.seq (vs++ws).toArray} })
  (hsz:vs.length+ws.length<=Ω):wpAny (model prog w) A (binaryOp .Add (.ref t) (.ref b)) Q E s:=by
 obtain⟨⟨cls,dd,data,sl⟩,ho,hc,n,hd⟩:=id ht;obtain⟨⟨cls2,dd2,data2,sl2⟩,ho2,hc2,n2,hd2⟩:=id hb;simp only at hc hd hc2 hd2;subst hc hd hc2 hd2;have e:vs.toArray++ws.toArray=(vs++ws).toArray:=by simp
 by_cases hw:ws=[]
 ·exact concat_meets ⟨_,ho,rfl⟩ ⟨_,ho2,rfl⟩ noFill_tuple_add seq_tuple_add ako akp (akq _ _)
   (tuple_addW1 t b vs.toArray ws.toArray n n2 dd dd2 sl sl2 (by simpa using hv) (by simp[hw])) ⟨ho,ho2,h1 hw⟩
 ·refine concat_meets ⟨_,ho,rfl⟩ ⟨_,ho2,rfl⟩ noFill_tuple_add seq_tuple_add ako akp (akq _ _)
   (tuple_addW2 t b vs.toArray ws.toArray n n2 dd dd2 sl sl2 (by simpa using hv) (by simpa using hw) (by rw[ahE,ahE];exact hsz)) ⟨ho,ho2,?_⟩
  rw[e];exact h2 hw
def fk(n d:Nat):Option Int->Nat
 |none=>d
 |some v=>if v<0 then(v+(n:Int)).toNat else min v.toNat n
theorem RN(n d:Nat):fk n d η=d:=rfl
theorem RO(n d k:Nat):fk n d (ζ (k:Int))=min k n:=by
 show(if(k:Int)<0 then((k:Int)+(n:Int)).toNat else min (k:Int).toNat n)=min k n
 rw[if_neg (by omega),aiG]
end
end HT
namespace L2
open PySem PySem.Spec PyProof.Rows
abbrev TO:=St->Hp->(Option Int->Hp->Prop)->Prop
def PO(X:Cx) (e:Option ο) (t:TO):Prop :=
 ∀(pins:List (Ξ×Obj)) (s:ι) (σ:St) (H:Hp) (Q:Option Int->Hp->Prop),Inv X pins σ H s->t σ H Q ->
  wpAny (model X.prog X.w) X.A (evalPart e X.env) (λu s'=>∃o H',Inv X pins σ H' s'/\IsPart u o/\Q o H') X.xe s
def Qh:TO:=λ_ H Q=>Q η H
def Qd(t:TE):TO:=λσ H Q=>t σ H λx H1=>∃i,x=.int i/\Q (ζ i) H1
section
variable {X:Cx}{e:ο}{te:TE}{lo hi:Option ο}{tl th:TO}{pos p2:Pos}
theorem Td:PO X η Qh:=by
 intro pins s σ H Q I h;rw[evalPart_none];exact ahD ⟨η,H,I,.none,h⟩
theorem Tc(h:PE X e te):PO X (ζ e) (Qd te):=by
 intro pins s σ H Q I hw;rw[evalPart_some];refine bE (h pins s σ H _ I hw) λu s1 ⟨x,H1,I1,r1,q1⟩=>?_
 obtain⟨i,rfl,q⟩:=q1;obtain⟨t,rfl⟩:=r1;exact⟨ζ i,H1,I1,.int i t,q⟩
def Gn(X:Cx) (r:V->Option Int->Option Int->Hp->VK->Prop):Prop :=
 ∀(pins:List (Ξ×Obj)) (s:ι) (σ:St) (H:Hp) (x:V) (v vl vu:Ψ) (lo hi:Option Int) (sl:Ξ) (Q:VK),Inv X pins σ H s->RelV x v->s.heap.IsSliceOf sl vl vu .none->IsPart vl lo->IsPart vu hi->r x lo hi H Q ->
  ∃T id,typeLookup (.type T) "__getitem__"=pure (ζ (.builtin id))/\s.TypeIs v T/\wpAny (model X.prog X.w) X.A (getItem v (.ref sl)) (EP X pins σ Q) X.xe s
def P9(r:V->Option Int->Option Int->Hp->VK->Prop) (te:TE) (tl th:TO):TE:=λσ H Q=>te σ H λx H1=>tl σ H1 λl H2=>th σ H2 λu H3=>r x l u H3 Q
theorem IS{r:V->Option Int->Option Int->Hp->VK->Prop}(hr:Gn X r) (he:PE X e te) (hl:PO X lo tl) (hu:PO X hi th):PE X (.Subscript e (.Slice lo hi η p2) pos) (P9 r te tl th):=by
 intro pins s σ H Q I h;refine Subscript_ (bE (he pins s σ H _ I h) λv s1 ⟨x,H1,I1,r1,q1⟩=>?_)
 refine wpAny_Slice (bE (hl pins s1 σ H1 _ I1 q1) λvl s2 ⟨l,H2,I2,pl,q2⟩=>bE (hu pins s2 σ H2 _ I2 q2) λvu s3 ⟨u,H3,I3,pu,q3⟩=>?_)
 rw[evalPart_none];refine ahD ?_;have I4:Inv X pins σ H3 {s3 with heap:=s3.heap.push {cls:=.type "slice",data:=.fields #[vl,vu,.none]} }:=I3.kept (t':=s3.toks) λb ob q=>ahs _ q
 obtain⟨T,id,hT,ht,hg⟩:=hr pins {s3 with heap:=s3.heap.push {cls:=.type "slice",data:=.fields #[vl,vu,.none]} } σ H3 x v vl vu l u s3.heap.objs.size Q I4 r1 (Heap.IsSliceOf.new ..) pl pu q3
 show wpAny (model X.prog X.w) X.A (subscriptTail e (.Slice lo hi η p2) v (.ref s3.heap.objs.size)) (EP X pins σ Q) X.xe {s3 with heap:=s3.heap.push {cls:=.type "slice",data:=.fields #[vl,vu,.none]} }
 exact tail_any (ops:=[.ref s3.heap.objs.size,v]) ht hT hg (by with_unfolding_all rfl)
def sO(xs:List V) (lo hi:Option Int):List V:=(xs.drop (HT.fk xs.length 0 lo)).take (HT.fk xs.length xs.length hi-HT.fk xs.length 0 lo)
theorem ac7(xs:List V) (lo hi:Option Int):(sO xs lo hi).length<=xs.length:=by
 unfold sO;rw[aix,ai6];omega
def Sy(K:Δ):R2:=λx y H Q=>∃a b xs ys,x=.ref a/\y=.ref b/\eu K H a xs/\eu K H b ys/\xs≠[]/\xs.length+ys.length<=Ω /\
 (ys=[]->Q (.ref a) H)/\(ys≠[]->∀p,H p=η->Q (.ref p) (upd H p (.tup (xs++ys))))
theorem Vals.BR{xs:List V}{us:List Ψ}(r:Vals xs us):us=[]↔xs=[]:=by
 cases r with
 |nil=>simp
 |cons _ _=>simp
theorem Vh:bR X (binaryOp .Add) (Sy X.K):=by
 intro pins s σ H x y v u Q I rx ry h;obtain⟨a,b,xs,ys,rfl,rfl,ha,hb,hx,hz,q1,q2⟩:=h;cases rx;cases ry;obtain⟨its,r1,p1,_⟩:=I.tuple ha;obtain⟨its2,r2,p2,_⟩:=I.tuple hb;refine HT.adU p1 p2 (λz=>hx (r1.BR.mp z)) (λz=>⟨.ref a,H,I,rfl,q1 (r2.BR.mp z)⟩) (λz=>?_) (by rw[<-r1.length,<-r2.length];exact hz)
 refine⟨.ref s.heap.objs.size,_,I.laid (t':=s.toks) (o:=.tup (xs++ys)) (λb ob q=>ahs _ q) (ahn _) ?_,rfl,q2 (λw=>z (r2.BR.mpr w)) _ (I.hok.fresh (ahn _))⟩
 exact⟨by rw[ahC];exact hz,_,r1.append r2,mE.new _ _⟩
end
def gi(n:Nat) (i:Int):Option Nat:=if 0<=i then(if i<n then ζ i.toNat else η)else if -(n:Int)<=i then ζ (i+n).toNat else η
def cM{α:Type}(xs:List α) (i:Int):Option α:=(gi xs.length i).bind λj=>xs[j]?
theorem Kv{n:Nat}{i:Int}{j:Nat}(h:gi n i=ζ j):seqIndex? i n=ζ j/\j<n/\-(n:Int)<=i/\i<n:=by
 unfold gi at h
 by_cases h0:0<=i
 ·rw[if_pos h0]at h
  by_cases h1:i<n
  ·rw[if_pos h1]at h;have e:i.toNat=j:=ahA h;exact⟨by rw[seqIndex_of h0 h1,e],by omega,by omega,h1⟩
  ·rw[if_neg h1]at h;cases h
 ·rw[if_neg h0]at h
  by_cases h1:-(n:Int)<=i
  ·rw[if_pos h1]at h;have e:(i+n).toNat=j:=ahA h;exact⟨by rw[seqIndex_neg (by omega) h1,e],by omega,h1,by omega⟩
  ·rw[if_neg h1]at h;cases h
theorem Gf{α:Type}{xs:List α}{i:Int}{v:α}(h:cM xs i=ζ v):∃j,seqIndex? i xs.length=ζ j/\xs[j]? = ζ v/\j<xs.length/\-(xs.length:Int)<=i/\i<xs.length:=by
 unfold cM at h;cases e:gi xs.length i with
 |none=>rw[e]at h;cases h
 |some j =>
  rw[e]at h;obtain⟨h1,h2,h3,h4⟩:=Kv e;exact⟨j,h1,h,h2,h3,h4⟩
theorem ko{α:Type}{xs:List α}{j:Nat}{v:α}(h:xs[j]? = ζ v):cM xs (j:Int)=ζ v:=by
 have hj:j<xs.length:=(ahz.mp h).1;have e:gi xs.length (j:Int)=ζ j:=by
  unfold gi;rw[if_pos (by omega),if_pos (by omega)];simp
 unfold cM;rw[e];exact h
def M5(b:ο):Prop:=∀o i,subscripted b Γ o i=operate [o,i] (getItem o i)
def qb(X:Cx) (r:R2):Prop :=
 ∀(value slice:ο) (pins:List (Ξ×Obj)) (s:ι) (σ:St) (H:Hp) (x y:V) (v u:Ψ) (Q:VK),Inv X pins σ H s->RelV x v->RelV y u->r x y H Q ->
  subscripted slice Γ v u=operate [v,u] (getItem v u)->wpAny (model X.prog X.w) X.A (subscriptTail value slice v u) (EP X pins σ Q) X.xe s
def MtR(X:Cx) (id:String) (r:V->List V->Hp->VK->Prop):Prop :=
 ∀(pins:List (Ξ×Obj)) (s:ι) (σ:St) (H:Hp) (x:V) (xs:List V) (v:Ψ) (us:List Ψ) (Q:VK),Inv X pins σ H s->RelV x v->Vals xs us->r x xs H Q ->
  wpAny (model X.prog X.w) X.A (call (.builtin id) (v::us)) (EP X pins σ Q) X.xe s
section
variable {X:Cx}{a b:ο}{ta tb:TE}{pos:Pos}
theorem By{r:R2}(hr:qb X r) (ha:PE X a ta) (hb:PE X b tb) (hs:M5 b):PE X (.Subscript a b pos) (qu r ta tb):=by
 intro pins s σ H Q I h;exact Subscript_ (Ga ha hb I h λv u s2 x y H2 I2 rx ry q=>hr a b pins s2 σ H2 x y v u Q I2 rx ry q (hs _ _))
def Sn(K:Δ):R2:=λx y H Q=>∃p xs i v,x=.ref p/\y=.int i/\bW K H p xs/\cM xs i=ζ v/\Q v H
def Bs(K:Δ):R2:=λx y H Q=>∃p xs i v,x=.ref p/\y=.int i/\eu K H p xs/\cM xs i=ζ v/\Q v H
def Sm:R2:=λx y H Q=>∃z i c,x=.str z/\y=.int i/\z.length<=Ω/\cM z.cps.toList i=ζ c/\Q (.str ⟨#[c]⟩) H
theorem Z9:qb X (Sn X.K):=by
 intro value slice pins s σ H x y v u Q I rx ry h hs;obtain⟨p,xs,i,z,rfl,rfl,hq,he,q⟩:=h;cases rx;obtain⟨t,rfl⟩:=ry;obtain⟨its,r,pl,hz⟩:=I.list hq;obtain⟨j,h1,h2,h3,h4,h5⟩:=Gf he;obtain⟨w,ew,rw'⟩:=r.get h2;have hl:=r.length;have hn:=r9;have fin:EP X pins σ Q w s:=⟨z,H,I,rw',q⟩
 by_cases h0:0<=i
 ·have hj:i.toNat=j:=by
   rw[seqIndex_of h0 h5]at h1;exact ahA h1
  exact item_listR pl.isList h0 (by omega) (by rw[hj];simpa using ew) fin hs
 ·have hj:(i+(its.toArray.size:Int)).toNat=j:=by
   rw[seqIndex_neg (by omega) h4]at h1
   rw[ahE,<-hl];exact ahA h1
  exact subscriptTail_builtinR (x:=w) pl.isList.typeIs slot_list_getitem.lookup
   (wpAny_getItem_list_neg (Q:=λr s'=>r=w/\EP X pins σ Q r s') pl.isList (by omega) (by rw[ahE]<;>omega) (by omega) (by rw[hj];simpa using ew) ⟨rfl,fin⟩) hs
theorem Dp:qb X (Bs X.K):=by
 intro value slice pins s σ H x y v u Q I rx ry h hs;obtain⟨p,xs,i,z,rfl,rfl,hq,he,q⟩:=h;cases rx;obtain⟨t,rfl⟩:=ry;obtain⟨its,r,pl,hz⟩:=I.tuple hq;obtain⟨j,h1,h2,h3,h4,h5⟩:=Gf he;obtain⟨w,ew,rw'⟩:=r.get h2;have hl:=r.length;have hn:=r9;have fin:EP X pins σ Q w s:=⟨z,H,I,rw',q⟩;exact subscriptTail_builtinR (x:=w) pl.typeIs slot_tuple_getitem.lookup
  (getItem_tuple (j:=j) (Q:=λr s'=>r=w/\EP X pins σ Q r s') pl (by omega) (by omega) (by rw[ahE,<-hl];exact h1) (by simpa using ew) ⟨rfl,fin⟩) hs
theorem Z8:qb X Sm:=by
 intro value slice pins s σ H x y v u Q I rx ry h hs;obtain⟨z,i,c,rfl,rfl,hz,he,q⟩:=h;obtain⟨t,rfl⟩:=rx;obtain⟨t',rfl⟩:=ry;obtain⟨j,h1,h2,h3,h4,h5⟩:=Gf he;have hl:z.cps.toList.length=z.length:=by simp[Str.length]
 rw[hl]at h1 h4 h5;have hn:=r9;exact tail_any (ain s z t) slot_str_getitem.lookup (getItem_str (c:=c) (by
  have e1:decide (i < -(2^63:Int))=Γ:=decide_eq_false (by omega)
  have e2:decide (i ≥ 2^63)=Γ:=decide_eq_false (by omega)
  rw[e1,e2,Bool.or_false]) (by rw[h1];simpa using h2) ⟨.str ⟨#[c]⟩,H,I.tok _,⟨_,rfl⟩,q⟩) hs
theorem YX(its:List Ψ) (n j:Nat) (u:Ψ):Obj.mapSeq (·.setIfInBounds j u) {cls:=.type "list",data:=.seq its.toArray n}={cls:=.type "list",data:=.seq (its.set j u).toArray n}:=by
 simp[Obj.mapSeq]
theorem Inv.lst{pins:List (Ξ×Obj)}{σ:St}{H:Hp}{s:ι}{p:Ξ}{xs:List V}(I:Inv X pins σ H s) (h:H p=ζ (.lst xs)) :
  ∃(its:List Ψ) (n:Nat),Vals xs its/\s.heap.get? p=ζ {cls:=.type "list",data:=.seq its.toArray n}/\xs.length<=Ω:=by
 obtain⟨z,its,n,r,e⟩:=I.hok p _ h;exact⟨its,n,r,e,z⟩
theorem Inv.Y3{pins:List (Ξ×Obj)}{σ:St}{H:Hp}{s:ι}{p:Ξ}{xs ys:List V}{its its':List Ψ}{n n':Nat}{f:Obj->Obj}(I:Inv X pins σ H s) (h:H p=ζ (.lst xs))
  (ho:s.heap.get? p=ζ {cls:=.type "list",data:=.seq its.toArray n}) (hf:f {cls:=.type "list",data:=.seq its.toArray n}={cls:=.type "list",data:=.seq its'.toArray n'}) (r:Vals ys its') (hz:ys.length<=Ω) (t:Nat) :
  Inv X pins σ (upd H p (.lst ys)) {s with heap:=s.heap.update p f,toks:=t}:=by
 have e:(s.heap.update p f).get? p=ζ {cls:=.type "list",data:=.seq its'.toArray n'}:=by
  rw[akr f ho (by rw[hf]<;>rfl),hf]
 refine I.write (x:=p) (e:=p) (by rw[h];trivial) (.inl rfl) (λb u hb q=>(ai7 _ _ (ah2 hb)).trans q) ⟨_,e⟩ ?_
 exact⟨hz,its',n',r,e⟩
def Sj:V->V->V->Hp->(Hp->Prop)->Prop:=λo i v H Q=>∃p xs k j,o=.ref p/\i=.int k/\H p=ζ (.lst xs)/\gi xs.length k=ζ j/\Q (upd H p (.lst (xs.set j v)))
theorem set_list:M6 X Sj:=by
 intro pins s σ H o i v ov iv u Q I ro ri rv h;obtain⟨p,xs,k,j,rfl,rfl,hp,hj,q⟩:=h;cases ro;obtain⟨t,rfl⟩:=ri;obtain⟨its,n,r,ho,hz⟩:=I.lst hp;obtain⟨h1,h2,h3,h4⟩:=Kv hj;have hl:=r.length;have hn:=r9;have I':Inv X pins σ (upd H p (.lst (xs.set j v))) {s with heap:=s.heap.update p (Obj.mapSeq (·.setIfInBounds j u))} :=
  I.Y3 hp ho (YX its n j u) (r.set rv j) (by rw[List.length_set];exact hz) s.toks
 by_cases h0:0<=k
 ·have hk:k.toNat=j:=by
   rw[seqIndex_of h0 h4]at h1;exact ahA h1
  exact PySem.W.ki_setAt ho h0 (by omega) (by rw[ahE,<-hl];exact h4) (by rw[hk];exact⟨_,I',q⟩)
 ·have hk:(k+(its.toArray.size:Int)).toNat=j:=by
   rw[seqIndex_neg (by omega) h3]at h1
   rw[ahE,<-hl];exact ahA h1
  exact PySem.W.ki_setBack ho (by omega) (by rw[ahE,<-hl];exact h3) (by omega) (by rw[hk];exact⟨_,I',q⟩)
theorem QC(lo hi:Option Int) (n:Nat):(sliceBounds lo hi η n).1=((HT.fk n 0 lo:Nat):Int)/\(sliceBounds lo hi η n).2.1=((HT.fk n n hi:Nat):Int)/\(sliceBounds lo hi η n).2.2=1:=by
 refine⟨?_,?_,rfl⟩
 ·cases lo with
  |none=>simp[sliceBounds,HT.fk]
  |some i =>
   simp only[sliceBounds,HT.fk,aks,show(1:Int)>0 by decide,if_true]
   by_cases h:i<0
   ·simp only[h,if_true]<;>omega
   ·simp only[h,if_false]<;>omega
 ·cases hi with
  |none=>simp[sliceBounds,HT.fk]
  |some i =>
   simp only[sliceBounds,HT.fk,aks,show(1:Int)>0 by decide,if_true]
   by_cases h:i<0
   ·simp only[h,if_true]<;>omega
   ·simp only[h,if_false]<;>omega
theorem QD(its:List Ψ) (lo hi:Option Int):slicePick its.toArray lo hi η=((its.drop (HT.fk its.length 0 lo)).take (HT.fk its.length its.length hi-HT.fk its.length 0 lo)).toArray:=by
 obtain⟨h1,h2,h3⟩:=QC lo hi its.toArray.size;unfold slicePick;rw[h1,h2,h3];simp only[sliceRange_one,pick_run,ahE]<;>rfl
def Si(K:Δ):V->Option Int->Option Int->Hp->VK->Prop:=λx lo hi H Q=>∃a xs,x=.ref a/\bW K H a xs/\∀p,H p=η->Q (.ref p) (upd H p (.lst (sO xs lo hi)))
theorem QK:Gn X (Si X.K):=by
 intro pins s σ H x v vl vu lo hi sl Q I rx hs pl pu h;obtain⟨a,xs,rfl,hx,q⟩:=h;cases rx;obtain⟨its,r,ht,hz⟩:=I.list hx;have hlen:=r.length;refine⟨"list",_,slot_list_getitem.lookup,ht.isList.typeIs,?_⟩;refine wpAny_getItem_list_slice ht.isList hs pl pu .none (by simp) ?_ (by rw[ahE]<;>omega)
 rw[QD,<-hlen];refine⟨.ref s.heap.objs.size,_,I.laid (t':=s.toks) (o:=.lst (sO xs lo hi)) (λb ob q=>ahs _ q) (ahn _) ?_,rfl,q _ (I.hok.fresh (ahn _))⟩
 exact⟨ahB (ac7 xs lo hi) hz,_,0,(r.drop (HT.fk xs.length 0 lo)).take (HT.fk xs.length xs.length hi-HT.fk xs.length 0 lo),ahG _ rfl⟩
theorem ad3:eF X (.builtin "len") (λxs H Q=>∃p ys,xs=[.ref p]/\(bW X.K H p ys\/eu X.K H p ys)/\Q (.int ys.length) H):=by
 intro pins s σ H xs us Q I r h;obtain⟨p,ys,rfl,hq,q⟩:=h;obtain⟨u,rfl,rx⟩:=vals1 r;cases rx;have hn:=r9
 rcases hq with hq|hq
 ·obtain⟨its,r',pl,hz⟩:=I.list hq;have hlen:=r'.length;exact Calls.call_len_list pl.isList (by simp only[ahE]<;>omega) ⟨.int ys.length,H,I.tok _,⟨s.toks+1,by rw[ahE,hlen]⟩,q⟩
 ·obtain⟨its,r',pl,hz⟩:=I.tuple hq;have hlen:=r'.length;exact len_tuple pl (by simp only[ahE]<;>omega) ⟨.int ys.length,H,I.tok _,⟨s.toks+1,by rw[ahE,hlen]⟩,q⟩
theorem ad2:eF X (.builtin "len") (λxs H Q=>∃z,xs=[.str z]/\z.length<=Ω/\Q (.int z.length) H):=by
 intro pins s σ H xs us Q I r h;obtain⟨z,rfl,hz,q⟩:=h;obtain⟨u,rfl,t,rfl⟩:=vals1 r;have hn:=r9;exact len_str (by omega) ⟨.int z.length,H,I.tok _,⟨_,rfl⟩,q⟩
theorem ad1:eF X (.type "list") (λxs H Q=>∃p ys,xs=[.ref p]/\(bW X.K H p ys\/eu X.K H p ys)/\∀l,H l=η->Q (.ref l) (upd H l (.lst ys))):=by
 intro pins s σ H xs us Q I r h;obtain⟨p,ys,rfl,hq,q⟩:=h;obtain⟨u,rfl,rx⟩:=vals1 r;cases rx;have fin:∀(its:List Ψ),Vals ys its->ys.length<=Ω->∀(h':υ) (c':Nat),(∀b o',s.heap.get? b=ζ o'->h'.get? b=ζ o') ->
   h'.get? s.heap.objs.size=ζ {cls:=.type "list",dict:=η,data:=.seq its.toArray c',slots:=#[]}->EP X pins σ Q (.ref s.heap.objs.size) {s with heap:=h'}:=λits r' hz h' c' kp e =>
  ⟨.ref s.heap.objs.size,_,I.laid (t':=s.toks) kp (ahn _) (show dZ X.prog X.w _ h' _ (.lst ys)from⟨hz,its,c',r',e⟩),rfl,q _ (I.hok.fresh (ahn _))⟩
 rcases hq with hq|hq
 ·obtain⟨its,r',pl,hz⟩:=I.list hq;have hlen:=r'.length;obtain⟨o,ho,hc,n,hd⟩:=pl.isList;exact call_list_seq p (.inl rfl) ho hc hd (λh' c' kp e=>fin its r' hz h' c' kp e) (by simp only[ahE]<;>omega)
 ·obtain⟨its,r',pl,hz⟩:=I.tuple hq;have hlen:=r'.length;obtain⟨o,ho,hc,n,hd⟩:=pl;exact call_list_seq p (.inr rfl) ho hc hd (λh' c' kp e=>fin its r' hz h' c' kp e) (by simp only[ahE]<;>omega)
theorem adW:eF X (.type "tuple") (λxs H Q=>∃p ys,xs=[.ref p]/\((bW X.K H p ys/\∀l,H l=η->Q (.ref l) (upd H l (.tup ys)))\/(eu X.K H p ys/\Q (.ref p) H))):=by
 intro pins s σ H xs us Q I r h;obtain⟨p,ys,rfl,h⟩:=h;obtain⟨u,rfl,rx⟩:=vals1 r;cases rx
 rcases h with⟨hq,q⟩|⟨hq,q⟩
 ·obtain⟨its,r',pl,hz⟩:=I.list hq;have hlen:=r'.length;refine call_tuple_list pl.isList (λh' kp=>?_) (by simp only[ahE]<;>omega)
  have I1:Inv X pins σ H {s with heap:=h'}:=I.kept (t':=s.toks) kp
  have I2:Inv X pins σ (upd H h'.objs.size (.tup ys)) {s with heap:=h'.push {cls:=.type "tuple",data:=.seq its.toArray} } :=
   I1.laid (t':=s.toks) (λb o e=>ahs _ e) (ahn _) (show dZ X.prog X.w _ _ _ (.tup ys)from⟨hz,its,r',mE.new _ _⟩)
  exact⟨.ref h'.objs.size,_,I2,rfl,q _ (I1.hok.fresh (ahn _))⟩
 ·obtain⟨its,r',pl,hz⟩:=I.tuple hq;exact call_tuple_same pl ⟨.ref p,H,I,rfl,q⟩
def Hi(K:Δ) (T:String) (x:V) (H:Hp):Prop:=match x with
 |.str _=>T="str"
 |.int _=>T="int"
 |.ref p=>(T="list"/\∃xs,bW K H p xs)\/(T="tuple"/\((∃xs,H p=ζ (.tup xs))\/∃o,K.lookup p=ζ o/\o.cls=.type "tuple"/\o.dict=η)) \/
   (T="dict"/\((∃kvs,H p=ζ (.dK kvs))\/∃kvs,H p=ζ (.dT kvs)))\/(T="set"/\∃S n,H p=ζ (.set S n))
 |_=>False
theorem Po{pins:List (Ξ×Obj)}{σ:St}{H:Hp}{s:ι}{T:String}{x:V}{v:Ψ}(I:Inv X pins σ H s) (r:RelV x v) (ty:Hi X.K T x H) :
  s.TypeIs v T/\∀a,v=.ref a->∃ob,s.heap.get? a=ζ ob/\ob.dict=η:=by
 cases x with
 |str z =>
  obtain⟨t,rfl⟩:=r;cases(show T="str" from ty)
  exact⟨ain s z t,λ_ e=>nomatch e⟩
 |int i =>
  obtain⟨t,rfl⟩:=r;cases(show T="int" from ty)
  exact⟨typeIs_int s i t,λ_ e=>nomatch e⟩
 |ref p =>
  cases r
  rcases ty with⟨rfl,xs,hq⟩|⟨rfl,⟨xs,hk⟩|⟨o,hk,hc,hd⟩⟩|⟨rfl,hk⟩|⟨rfl,S,n,hk⟩
  ·obtain⟨its,_,pl,_⟩:=I.list hq;refine⟨pl.isList.typeIs,λa e=>?_⟩
   cases e;obtain⟨o,n,e,c,hd,_⟩:=pl;exact⟨o,e,hd⟩
  ·obtain⟨_,its,_,o,e,c,_,hd⟩:=(show dZ X.prog X.w H s.heap p (.tup xs)from I.hok p _ hk)
   refine⟨⟨o,e,c⟩,λa e2=>?_⟩
   cases e2;exact⟨o,e,hd⟩
  ·refine⟨⟨o,I.eE p o hk,hc⟩,λa e=>?_⟩
   cases e;exact⟨o,I.eE _ o hk,hd⟩
  ·have z:∃o,s.heap.get? p=ζ o/\o.ExactDict:=by
    rcases hk with⟨kvs,hk⟩|⟨kvs,hk⟩
    ·obtain⟨_,_,_,_,o,_,_,e,ex,_⟩:=I.hok p _ hk;exact⟨o,e,ex⟩
    ·obtain⟨_,_,_,_,o,_,_,e,ex,_⟩:=I.hok p _ hk;exact⟨o,e,ex⟩
   obtain⟨o,e,ex⟩:=z;refine⟨⟨o,e,ex.1⟩,λa e2=>?_⟩
   cases e2;exact⟨o,e,ex.2.1⟩
  ·obtain⟨o,_,_,_,e,ex,_⟩:=I.hok p _ hk;refine⟨⟨o,e,ex.1⟩,λa e2=>?_⟩
   cases e2;exact⟨o,e,ex.2.1⟩
 |_=>exact False.elim ty
def Qq(K:Δ) (T:String) (r:V->List V->Hp->VK->Prop) (to:TE) (t:TA):TE:=λσ H Q=>to σ H λx H1=>Hi K T x H1/\t σ H1 λxs H2=>r x xs H2 Q
variable {o e:ο}{es:List ο}{to:TE}{t:TA}{name:Str}{apos cpos:Pos}{T id:String}{r:V->List V->Hp->VK->Prop}
theorem m9(pa:PlainAttrs T) (slot:Slot T name id) (hty:typeOf (.builtin id)=pure (.type "method_descriptor")) (hm:MtR X id r) (ho:PE X o to) (ha:PA X (e::es) t)
  (hbase:aaz o name X.env (eval o X.env)=eval o X.env:=by rfl)
  (hfew:((aab cpos (μ (e::es) X.env)).all (λx=>!x.1)&&(aaK cpos (aax [] X.env)).all (λx=>x.1.isSome)
   && decide ((e::es).length+([]:List aay).length+(if([]:List aay).isEmpty then 0 else 1)<30))=Θ:=by rfl)
  (hline:(apos.endLine==cpos.line)=Θ:=by rfl) (hs:μ (e::es) X.env=(Γ,eval e X.env)::μ es X.env:=by rfl) (hplain:(aab cpos (μ es X.env)).any (·.1)=Γ:=by rfl) :
  PE X (.Call (.Attribute o name apos) (e::es) [] cpos) (Qq X.K T r to t):=by
 intro pins s σ H Q I h;refine wpAny_Call_method_late hbase hfew hline rfl (bE (ho pins s σ H _ I h) λv s1 ⟨x,H1,I1,r1,ty,q1⟩=>?_)
 obtain⟨h1,h2⟩:=Po I1 r1 ty;refine⟨T,id,pa,slot,hty,h1,h2,?_⟩;have hA:=ha cpos pins s1 σ H1 _ I1 q1;rw[hs]at hA ⊢;refine Calls.callWith_builtin (by show(Γ||(aab cpos (μ es X.env)).any (·.1))=Γ;rw[hplain]<;>rfl) (Calls.evalArgs_plain ?_)
 exact bE hA λus s2 ⟨vs,H2,I2,r2,q2⟩=>hm pins s2 σ H2 x vs v us Q I2 r1 r2 q2
end
def oh(X:Cx) (id:String) (r:V->List V->Hp->VK->Prop):Prop :=
 ∀(pins:List (Ξ×Obj)) (s:ι) (σ:St) (H:Hp) (x:V) (xs:List V) (v:Ψ) (us:List Ψ) (Q:VK),Inv X pins σ H s->RelV x v->Vals xs us->r x xs H Q ->
  wpAny (model X.prog X.w) X.A (call (.builtin id) (v::us)) (EP X pins σ Q) X.xe s
theorem Vals.one:∀{x:V}{us:List Ψ},Vals [x] us->∃u,us=[u]/\RelV x u
 |_,_,.cons r .nil=>⟨_,rfl,r⟩
theorem Vals.two:∀{x y:V}{us:List Ψ},Vals [x,y] us->∃u v,us=[u,v]/\RelV x u/\RelV y v
 |_,_,_,.cons r (.cons q .nil)=>⟨_,_,rfl,r,q⟩
theorem Vals.rep{xs:List V}{us:List Ψ}(h:Vals xs us):∀k:Nat,Vals (π k xs).flatten (π k us).flatten
 |0=>.nil
 |k+1=>by
  rw[aij,aij,aio,aio];exact Vals.append h (Vals.rep h k)
theorem foldl_rep(its:List Ψ):∀(k:Nat) (acc:List Ψ),
  List.foldl (λx1 x2=>x1++x2) acc.toArray (π k its.toArray)=(acc++(π k its).flatten).toArray
 |0,acc=>by simp
 |k+1,acc=>by
  have e:acc.toArray++its.toArray=(acc++its).toArray:=by simp
  have e2:(acc++its)++(π k its).flatten=acc++(π (k+1) its).flatten:=by
   rw[aij,aio,ah1]
  rw[<-e2,<-foldl_rep its k (acc++its),<-e,aij,ajJ]
section
variable {X:Cx}{pins:List (Ξ×Obj)}{σ:St}{H:Hp}{s:ι}{l b:Ξ}{xs ys zs:List V}
theorem Inv.BY{its its':List Ψ}{n:Nat}{f:Array Ψ->Array Ψ}{t':Nat}(I:Inv X pins σ H s) (hH:H l=ζ (.lst xs))
  (e:s.heap.get? l=ζ {cls:=.type "list",data:=.seq its.toArray n}) (hf:f its.toArray=its'.toArray) (hv:Vals ys its') (hz:ys.length<=Ω) :
  Inv X pins σ (upd H l (.lst ys)) {s with heap:=s.heap.update l (Obj.mapSeq f),toks:=t'}:=by
 have q:=akt e f;rw[hf]at q;refine I.write (x:=l) (e:=l) (by rw[hH];exact trivial) (.inl rfl) (λb' u hb hu=>(ai7 s.heap (Obj.mapSeq f) (ah2 hb)).trans hu) ⟨_,q⟩ ?_
 exact⟨hz,its',_,hv,q⟩
theorem Inv.Ka{its:List Ψ}{t':Nat}(I:Inv X pins σ H s) (hv:Vals ys its) (hz:ys.length<=Ω) :
  Inv X pins σ (upd H s.heap.objs.size (.lst ys)) {s with heap:=s.heap.push {cls:=.type "list",data:=.seq its.toArray},toks:=t'} :=
 I.laid (λ_ _ q=>ahs _ q) (ahn _) ⟨hz,its,0,hv,ahG _ rfl⟩
theorem Inv.fresh(I:Inv X pins σ H s):H s.heap.objs.size=η:=I.hok.fresh (ahn _)
theorem Inv.kY(I:Inv X pins σ H s) (hH:H l=ζ (.lst xs)):xs.length<=Ω/\∃(its:List Ψ) (n:Nat),Vals xs its/\xs.length=its.length/\s.heap.get? l=ζ {cls:=.type "list",data:=.seq its.toArray n}:=by
 obtain⟨z,its,n,r,e⟩:=I.hok l _ hH;exact⟨z,its,n,r,r.length,e⟩
theorem Js{n:Nat}(h:n<=Ω):Builtin.List.listTooLong n=Γ:=by
 unfold Builtin.List.listTooLong;exact decide_eq_false (by omega)
end
section
variable {X:Cx}
def SA:V->List V->Hp->VK->Prop:=λx vs H Q=>∃l xs y,x=.ref l/\vs=[y]/\H l=ζ (.lst xs)/\xs.length<Ω/\Q .aH (upd H l (.lst (xs++[y])))
theorem YR:oh X "list.append" SA:=by
 intro pins s σ H x vs v us Q I rx rv h;obtain⟨l,xs,y,rfl,rfl,hH,hz,q⟩:=h;cases rx;obtain⟨u,rfl,ru⟩:=rv.one;obtain⟨z,its,n,r,hl,e⟩:=I.kY hH;refine ah8 F.slot_list_append ⟨_,e,rfl⟩ F.entry_list_append (F.args_list_append_2 _ _) (aku l its.toArray n u (by rw[ahE];omega)) ⟨e,?_⟩
 refine⟨.aH,_,I.BY (its':=its++[u]) hH e (by simp) (r.append (.cons ru .nil)) ?_,rfl,q⟩
 rw[ahC,List.length_singleton];omega
def Su:V->List V->Hp->VK->Prop:=λx vs H Q=>∃l b xs zs,x=.ref l/\vs=[.ref b]/\H l=ζ (.lst xs)/\H b=ζ (.lst zs)/\xs.length+zs.length<=Ω/\Q .aH (upd H l (.lst (xs++zs)))
theorem YN:oh X "list.extend" Su:=by
 intro pins s σ H x vs v us Q I rx rv h;obtain⟨l,b,xs,zs,rfl,rfl,hH,hB,hz,q⟩:=h;cases rx;obtain⟨u,rfl,ru⟩:=rv.one;cases ru;obtain⟨z,its,n,r,hl,e⟩:=I.kY hH;obtain⟨z2,its2,n2,r2,hl2,e2⟩:=I.kY hB;have hsz:its.toArray.size+its2.toArray.size<=Ω:=by rw[ahE,ahE];omega
 have Dy:¬(!its.toArray.isEmpty&&Builtin.List.listTooLong (its.toArray.size+its2.toArray.size))=Θ:=by
  rw[Js hsz,Bool.and_false];exact ahO
 refine ah8 F.slot_list_extend ⟨_,e,rfl⟩ F.entry_list_extend (F.args_list_extend_2 _ _)
  (AutoSeq1.list_extend_list_list_0 l its.toArray n b its2.toArray n2 Dy (by rw[ahE];omega) (by omega)) ⟨e,e2,?_⟩
 refine⟨.aH,_,I.BY (its':=its++its2) hH e (by simp) (r.append r2) ?_,rfl,q⟩
 rw[ahC];omega
def Sz:R2:=λx y H Q=>∃l b xs zs,x=.ref l/\y=.ref b/\H l=ζ (.lst xs)/\H b=ζ (.lst zs)/\xs.length+zs.length<=Ω/\∀p,H p=η->Q (.ref p) (upd H p (.lst (xs++zs)))
theorem Vi:bR X (binaryOp .Add) Sz:=by
 intro pins s σ H x y v u Q I rx ry h;obtain⟨l,b,xs,zs,rfl,rfl,hH,hB,hz,q⟩:=h;cases rx;cases ry;obtain⟨z,its,n,r,hl,e⟩:=I.kY hH;obtain⟨z2,its2,n2,r2,hl2,e2⟩:=I.kY hB;refine PySem.P.add_list e e2 ?_ (by rw[ahE,ahE];omega)
 have ea:its.toArray++its2.toArray=(its++its2).toArray:=by simp
 rw[ea];exact⟨.ref _,_,I.Ka (t':=s.toks) (r.append r2) (by rw[ahC];omega),rfl,q _ I.fresh⟩
def Sk:R2:=λx y H Q=>∃l k xs,x=.ref l/\y=.int k/\H l=ζ (.lst xs)/\-(2^63)<=k/\k<2^63/\xs.length*k.toNat<=Ω /\
 ∀p,H p=η->Q (.ref p) (upd H p (.lst (π k.toNat xs).flatten))
theorem len_rep{α:Type}(xs:List α) (k:Nat):(π k xs).flatten.length=k*xs.length:=by
 induction k with
 |zero=>simp
 |succ k ih=>rw[aij,aio,ahC,ih,aiy,Nat.add_comm]
theorem U4:bR X (binaryOp .Mult) Sk:=by
 intro pins s σ H x y v u Q I rx ry h;obtain⟨l,k,xs,rfl,rfl,hH,h1,h2,hz,q⟩:=h;cases rx;obtain⟨t,rfl⟩:=ry;obtain⟨z,its,n,r,hl,e⟩:=I.kY hH;have hlen:its.toArray.size*k.toNat<=Ω:=by rw[ahE,<-hl];exact hz
 have hcap:¬its.toArray.size*k.toNat>(2^63-1)/8:=by
  have:(Ω:Nat)<=(2^63-1)/8:=by decide
  omega
 have hfit:¬(!Builtin.List.listFitsIndex k)=Θ:=by
  rw[fitsIndex_both h1 h2];exact ahO
 have Dy:¬Builtin.List.listTooLong (its.toArray.size*k.toNat)=Θ:=by
  rw[Js hlen];exact ahO
 have hnew:List.foldl (λx1 x2=>x1++x2) #[] (π (if its.toArray.isEmpty=Θ then 0 else k.toNat) its.toArray)=(π k.toNat its).flatten.toArray:=by
  have f0:∀m:Nat,List.foldl (λx1 x2=>x1++x2) #[] (π m its.toArray)=(π m its).flatten.toArray:=λm=>by
   have:=foldl_rep its m [];rw[ahy]at this;exact this
  rw[f0];cases its with
  |nil=>simp
  |cons a r'=>rw[if_neg (by simp)]
 refine wpAny_binaryOp_repeat_ref (T:="list") (U:="int") (by decide) ⟨_,e,rfl⟩ (λs'=>typeIs_int s' k t) noFill_list_mul F.fills_int_mul F.slot_int_rmul repeat_list F.slot_int_index.lookup
  (ah8 F.slot_int_rmul (typeIs_int s k t) F.entry_int_rmul (F.args_int_rmul_2 _ _) (int___rmul___int_list k t l its.toArray n)
   ⟨e,rfl,⟨_,e,rfl⟩,ah8 F.slot_list_mul ⟨_,e,rfl⟩ F.entry_list_mul (F.args_list_mul_2 _ _) (AutoListH.list___mul___list_int_3 l its.toArray n k t hfit hcap Dy) ⟨e,?_⟩⟩)
 rw[hnew];exact⟨.ref _,_,I.Ka (t':=s.toks) (r.rep k.toNat) (by rw[len_rep,Nat.mul_comm];exact hz),rfl,q _ I.fresh⟩
end
section
variable {prog:τ}{w:ω}{A:ψ}{E:Ψ->ι->Prop}{s:ι}
set_option maxRecDepth 100000 in
end
end L2
namespace NS
open PySem PySem.W PySem.Calls PyProof.Rows
theorem aaj{P:Params}{h:υ}:∀(ns:List Int) (vs:List Ψ),WellAll P h vs (ns.map WData.int)->IntsAre vs ns:=by
 intro ns
 induction ns with
 |nil =>
  intro vs w;rw[List.map_nil]at w;cases w;exact .nil
 |cons n ns ih =>
  intro vs w;rw[aht]at w;cases w with
  |cons a b =>
   cases a;exact .cons _ _ (ih _ b)
theorem Rt{l:OpenLaw}{n:Nat}(hn:l.most=ζ n) {P:Params}{h:υ}{args:List WData}{vals:List Ψ}
  (hpre:l.row.toRowW.claim.pre args=Θ) (hwl:WellAll P h vals args) :
  ∃a vs ns,vals=[Value.ref a]/\args=[WData.list (ns.map WData.int)]/\h.get? a=ζ {cls:=.type "list",data:=.seq vs.toArray}/\IntsAre vs ns/\ns.length<=n:=by
 have hsh:WShape.hasAll [] args [.list .int]=Θ:=(pre_splitW hpre).1;have hc:l.pre.holds [] {args:=args}=Θ:=(pre_splitW hpre).2;obtain⟨d,r,rfl,h1,h2⟩:=hasAllW_cons hsh;obtain rfl:=hasAllW_nil h2;obtain⟨xs,rfl,h3⟩:=hasW_list h1;obtain⟨ns,rfl⟩:=items_int h3;have hlen:ns.length<=n:=by
  unfold OpenLaw.pre at hc;have h4:(WTm.not (.lt (.lit (.int (n:Int))) (.len (.arg 0)))).holds [] {args:=[.list (ns.map .int)]}=Θ:=by
   have h4:=(holds_andW hc).1;rw[hn]at h4;exact h4
  have h5:=condW_of h4 (w_not (w_lt w_lit (w_len_list (w_arg rfl))));rw[ahr]at h5;refine ajK λq=>?_
  have q':(n:Int)<((ns.length:Nat):Int):=by omega
  first
   |(rw[decide_eq_true q']at h5;exact absurd h5 (by decide))
   |(simp at h5;omega)
 cases hwl with
 |cons w1 w2 =>
  cases w2;cases w1 with
  |list ho hall=>exact⟨_,_,ns,rfl,rfl,ho,aaj ns _ hall,hlen⟩
theorem S8(l:OpenLaw) (args:List WData):l.row.toRowW.claim.post args (.bool Θ) args=Θ :=
 postW_of (r:=l.row.toRowW) (X:=(Θ==Θ))
  (show WShape.has [] (.bool Θ) .bool=Θ by first|rfl|decide|simp[WShape.has,WShape.arms,WShape.armsAll])
  (show(WTm.eq .res (.lit (.bool Θ))).value [] {args:=args,res:=ζ (.bool Θ),after:=args}=ζ (.bool (Θ==Θ))from w_eq_bool (w_res rfl) w_lit) rfl
theorem aep{l:OpenLaw}{n:Nat}{q:τ}{loose:List Str}{XP:(Str->Option Ψ)->υ->Prop}{YP:ω->υ->Prop}{d:DefRec}
  (hn:l.most=ζ n) (hdf:d.params.defaults=[])
  (call:∀(w:ω) (s₀ s₁:ι) (mg mb:Str->Option Ψ) (fa:Ξ) (o:Obj) (pm cd doc:Ψ) (a:Ξ) (vs:List Ψ) (ns:List Int),
   Ground q loose [] XP w s₀ mg mb s₁.heap->YP w s₁.heap ->
   s₁.heap.get? fa=ζ o->o.data=.func (docDef d.name d.params d.body d.scope pm cd doc)->s₁.heap.CodeRec cd d.name->mg d.name=ζ (.ref fa) ->
   s₁.heap.get? a=ζ {cls:=.type "list",data:=.seq vs.toArray}->IntsAre vs ns->ns.length<=n->s₁.gens=#[] ->
   codeAny (model l.prog w) callerA (.call (.ref fa) ⟨[.ref a],[]⟩) (λr s'=>r=.ok (.ret (.bool Θ))/\OldK s₁.heap s'.heap/\s'.os=s₁.os/\aaL s'.gens) s₁) :
  WalkO q loose XP YP l.row.toRowW d [] (λf vs=>PySem.call f vs):=by
 intro w s₀ s₁ mg mb G Y fa o pm cd doc dV kV ho hd hcd hD hmg hg args vals as hpre hlay hrd hwl hlo;obtain rfl:dV=.none:=Dflts.none hD hdf;obtain rfl:kV=.none:=Dflts.noKw hD;obtain⟨a,vs,ns,rfl,rfl,hobj,hints,hlen⟩:=Rt hn hpre hwl;refine enter_call (aiD (call w s₀ s₁ mg mb fa o pm cd doc a vs ns G Y ho (fd_plain hd) hcd hmg hobj hints hlen hg) λr s' hq=>?_)
 obtain⟨rfl,h2,h3,h4⟩:=hq;exact⟨.inl ⟨.bool Θ,.bool Θ,[],rfl,λ_=>rfl,.bool Θ,S8 l _,λ_=>⟨List.Pairwise.nil,λ_ hm=>(nomatch hm)⟩⟩,h2,h3,h4⟩
end NS
namespace L2
open PySem PySem.Spec PyProof.Rows
theorem G7:∀{vs:List Ψ}{ns:List Int},IntsAre vs ns->Vals (ns.map V.int) vs
 |_,_,.nil=>.nil
 |_,_,.cons n t h=>.cons ⟨t,rfl⟩ (G7 h)
def cW(s:aav):aaN:=match s with
 |.FunctionDef _ a _ _ _ _ _ _ _ _=>a
 |_=>{posonlyargs:=[],args:=[],vararg:=η,kwonlyargs:=[],kw_defaults:=[],kwarg:=η,defaults:=[]}
def cF(s:aav):List aav:=match s with
 |.FunctionDef _ _ b _ _ _ _ _ _ _=>b
 |_=>[]
def aV(s:aav):aaA:=match s with
 |.FunctionDef _ _ _ _ _ _ sc _ _ _=>sc
 |_=>{kind:=.function,names:=[],isGenerator:=Γ,isCoroutine:=Γ}
abbrev bQ:mH:=λ_ _ _ _ _ _=>False
abbrev E0:XK:=λ_ _ _=>False
theorem UT{X:Cx}:Passes bQ X E0:=λ_ _ _ _ _ _ _ h=>h.elim
structure jS (K:Δ) (x qual:Str) (st:aav) (f:Ξ) (fd:ν):Prop where
 ex:∃(oc:Ψ) (od:Option Ξ) (kV doc pm:Ψ) (an:Option Ξ) (cdv ct:Ψ) (osl:Array (Option Ψ)),
  fd=PySem.W.fnOf x qual (cW st) (cF st) (aV st) .none kV doc pm an cdv ct/\K.lookup f=ζ ⟨oc,od,.func fd,osl⟩/\PySem.W.codeIn K cdv qual=Θ
 kp:PySem.W.keepIn K (.ref f)=Θ
section
variable {P:τ}{w:ω}{K:Δ}{mg:Str->Option Ψ}{base:υ}
theorem jS.ok{x qual:Str}{st:aav}{f:Ξ}{fd:ν}{N ps:List Str}{k:Nat}{sp:Sp}(F:jS K x qual st f fd) (S:cK N ps (aV st)) (len:∀vs H Q E,sp vs H Q E->vs.length=ps.length)
  (hbody:∀(cdv:Ψ) (A:ψ) (outer:List Env) (s:ι) (H:Hp) (vs:List V) (Q:VK) (E:XK),dg k (A.deeper (envOfC qual (aV st) s.heap.objs.size f cdv))->sp vs H Q E ->
   ∃t,fu (fP bQ P w K mg base N qual (aV st) f cdv A outer s H E).eS (cF st) t/\t {nx:=λ_ H'=>Q .aH H',rt:=Q} (start N vs) H):bX P w K mg base bQ (k+1) f fd ps sp:=by
 obtain⟨oc,od,kV,doc,pm,an,cdv,ct,osl,rfl,lk,hcd⟩:=F.ex;refine DP lk hcd S len λA outer s H vs Q E hr fF=>?_
 obtain⟨t,h,q⟩:=hbody cdv A outer s H vs Q E hr fF;exact⟨t,h.eS,q⟩
theorem jS.binds{x qual:Str}{st:aav}{f:Ξ}{fd:ν}{ps:List Str}(F:jS K x qual st f fd)
  (h:∀(kV doc pm:Ψ) (an:Option Ξ) (cdv ct:Ψ) (us:List Ψ),us.length=ps.length->bindArgs (PySem.W.fnOf x qual (cW st) (cF st) (aV st) .none kV doc pm an cdv ct) ⟨us,[]⟩=pure (ps.zip us)):Binds K fd ps []:=by
 obtain⟨oc,od,kV,doc,pm,an,cdv,ct,osl,rfl,lk,hcd⟩:=F.ex;exact .all (h kV doc pm an cdv ct)
theorem dI{x qual:Str}{st:aav}{f:Ξ}{oc:Ψ}{od an:Option Ξ}{osl:Array (Option Ψ)}{kV doc pm cdv ct:Ψ}(l:K.lookup f=ζ ⟨oc,od,.func (PySem.W.fnOf x qual (cW st) (cF st) (aV st) .none kV doc pm an cdv ct),osl⟩)
  (c:PySem.W.codeIn K cdv qual=Θ) (k:PySem.W.keepIn K (.ref f)=Θ):jS K x qual st f (PySem.W.fnOf x qual (cW st) (cF st) (aV st) .none kV doc pm an cdv ct):=⟨⟨oc,od,kV,doc,pm,an,cdv,ct,osl,rfl,l,c⟩,k⟩
end
section
variable {X:Cx}
theorem pv(i:Nat) {x:Str}{pos:Pos}(hN:X.N[i]? = ζ x:=by rfl) (hv:vZ X.env.scope x:=by first|exact Or.inl rfl|exact Or.inr (Or.inl rfl)|exact Or.inr (Or.inr rfl)) (hd:(x==("__debug__":Str))=Γ:=by decide)
  (hcd:(x==("__classdict__":Str))=Γ:=by decide):PE X (.Name x pos) (mU i):=Bx hN hv hd hcd
end
theorem pB{A B:Prop}(h:B):if Γ=Θ then A else B:=by
 rw[if_neg ahO];exact h
theorem pA{A B:Prop}(h:A):if Θ=Θ then A else B:=by
 rw[if_pos rfl];exact h
def fZ(X:Cx) (N':List Str) (scope:aaA) (cl:List (Str×Ξ)) (C:Ξ) (s₀:ι) (H₀:Hp) (ex:List Ξ) (pn:List (Ξ×Obj)):Cx where
 prog:=X.prog
 w:=X.w
 K:=X.K
 mg:=X.mg
 base:=X.base
 A:=X.A
 N:=N'
 s₀:=s₀
 H₀:=H₀
 env:=compEnvC scope cl C X.env
 outer:=X.stack
 stack:=X.stack
 ex:=ex
 fn:=λx=>scope.names.lookup x==ζ NameKind.cell
 calm:=X.calm
 pn:=pn
 xe:=λ_ _=>False
structure cP (X:Cx) (N':List Str) (pick:List (Option Nat)) (scope:aaA):Prop where
 kind:scope.kind=.function
 nd:N'.Nodup
 names:∀x∈scope.names,x.2=.local->scope.names.lookup x.1=ζ .local
 uniq:(scope.names.map (·.1)).Nodup
 len:pick.length=N'.length
 got:∀(i j:Nat) (x:Str),pick[i]? = ζ (ζ j)->N'[i]? = ζ x->scope.names.lookup x=ζ .free/\X.N[j]? = ζ x
 free:∀x∈scope.names,x.2=.free->X.env.kindOf x.1=ζ .cell\/X.env.kindOf x.1=ζ .free
def kC(pick:List (Option Nat)) (σ:St):St:=pick.map λo=>o.bind λj=>(σ[j]?).bind id
def qa(X:Cx) (ifs:List ο) (t:TT):Prop :=
 ∀(pins:List (Ξ×Obj)) (s:ι) (σ:St) (H:Hp) (Q:Bool->Hp->Prop),Inv X pins σ H s->t σ H Q ->
  wpAny (model X.prog X.w) X.A (forIn ifs Θ λc r=>if r=Θ then do let ok <-isTrue c X.env (eval c X.env);pure (ForInStep.yield ok)else pure (ForInStep.yield r)) (TP X pins σ Q) X.xe s
def P7:TT:=λ_ H Q=>Q Θ H
theorem Uc{X:Cx}:qa X [] P7:=λpins s σ H Q I h=>wpAny_tests_nil ⟨H,I,h⟩
theorem Ub{X:Cx}{c:ο}{t:TT}(h:PT X c t):qa X [c] t:=λpins s σ H Q I q=>wpAny_tests_one (h pins s σ H Q I q)
def NQ(J:It) (g:TG) (tt:TT) (te:TE) (Q:VK) (σ:St) (H:Hp):Prop:=∃W:Nat->Nat->St->List V->Hp->Prop,(∃m,W 0 m σ [] H) /\
  ∀i m σ' ys H,W i m σ' ys H->ys.length<Ω /\
    ((J.stop i H/\∀p,H p=η->Q (.ref p) (upd H p (.lst ys))) \/
     (J.go i H/\∃N:St->List V->Hp->Prop,(∀σ2 zs H2,N σ2 zs H2->∃m',m'<m/\W (i+1) m' σ2 zs H2)/\∀x H',J.qd i H x H'->g x σ' H' λσ2 H2=>tt σ2 H2 λb H3 =>
        if b=Θ then te σ2 H3 λy H4=>N σ2 (ys++[y]) H4 else N σ2 ys H3))
def A0(wi:TI) (pick:List (Option Nat)) (g:TG) (tt:TT) (te:TE):TE:=λσ H Q=>wi σ H λJ H1=>NQ J g tt te Q (kC pick σ) H1
def gc(env:Env):List (Str×aaw)->List (Str×Ξ)->List (Str×Ξ)
 |[],acc=>acc
 |(n,k)::r,acc=>gc env r (if(k==NameKind.free)=Θ then(n,(env.cells.lookup n).getD 0)::acc else acc)
theorem zV{env:Env}:∀(names:List (Str×aaw)) (acc:List (Str×Ξ)),(∀x∈names,x.2=.free->∃c,env.cells.lookup x.1=ζ c) ->
  (forIn names acc fun(x:Str×aaw) cs=>(if(x.2==NameKind.free)=Θ then do let a <-cellOf env x.1;pure (ForInStep.yield ((x.1,a)::cs))else pure (ForInStep.yield cs):Sem (ForInStep (List (Str×Ξ)))))=pure (gc env names acc)
 |[],acc,_=>rfl
 |(n,k)::r,acc,h=>by
  rw[ai8]
  by_cases hk:(k==NameKind.free)=Θ
  ·obtain⟨c,hc⟩:=h (n,k) aib (by simpa using hk)
   have e1:cellOf env n=pure c:=by unfold cellOf;rw[show env.cells.lookup n=ζ c from hc]
   simp only[hk,if_true,e1,pure_bind];rw[zV r _ λx hx=>h x (ahX _ hx)]
   show _=pure (gc env r (if(k==NameKind.free)=Θ then _ else _))
   rw[if_pos hk,show env.cells.lookup n=ζ c from hc]
   rfl
  ·simp only[hk,Bool.false_eq_true,if_false,pure_bind];rw[zV r _ λx hx=>h x (ahX _ hx)]
   show _=pure (gc env r (if(k==NameKind.free)=Θ then _ else _))
   rw[if_neg hk]
theorem Gi{env:Env}{x:Str}{c:Ξ}:∀(names:List (Str×aaw)) (acc:List (Str×Ξ)),(gc env names acc).lookup x=ζ c ->
  ((x,NameKind.free)∈names/\c=(env.cells.lookup x).getD 0)\/acc.lookup x=ζ c
 |[],acc,h=>.inr h
 |(n,k)::r,acc,h=>by
  unfold gc at h
  rcases Gi r _ h with⟨a,b⟩|q
  ·exact .inl ⟨ahX _ a,b⟩
  ·by_cases hk:(k==NameKind.free)=Θ
   ·rw[if_pos hk,ahV]at q;cases hx:x==n with
    |true =>
     rw[hx]at q;have e1:x=n:=by simpa using hx
     have e2:k=.free:=by simpa using hk
     subst e1;subst e2;exact .inl ⟨aib,(ahA q).symm⟩
    |false=>rw[hx]at q;exact .inr q
   ·rw[if_neg hk]at q;exact .inr q
theorem Gj{env:Env}{x:Str}:∀(names:List (Str×aaw)) (acc:List (Str×Ξ)),(acc.lookup x).isSome=Θ\/(x,NameKind.free)∈names->((gc env names acc).lookup x).isSome=Θ
 |[],acc,h=>h.elim id λz=>by cases z
 |(n,k)::r,acc,h=>by
  unfold gc;refine Gj r _ ?_
  by_cases hk:(k==NameKind.free)=Θ
  ·rw[if_pos hk,ahV];cases hx:x==n with
   |true=>exact .inl rfl
   |false =>
    refine h.imp id λz=>?_
    rcases aho.mp z with e|z
    ·exact absurd (show(x==n)=Θ by cases e;simp) (by rw[hx];simp)
    ·exact z
  ·rw[if_neg hk];refine h.imp id λz=>?_
   rcases aho.mp z with e|z
   ·exact absurd (show(k==NameKind.free)=Θ by cases e;rfl) hk
   ·exact z
theorem Fd{x:Str}{c:Ξ}:∀(names:List (Str×aaw)) (n:Nat) (acc:List (Str×Ξ)),(cellsFrom n names acc).lookup x=ζ c->(n<=c/\(x,NameKind.cell)∈names)\/acc.lookup x=ζ c
 |[],_,_,h=>.inr h
 |(y,k)::r,n,acc,h=>by
  unfold cellsFrom at h
  by_cases hk:(k==NameKind.cell)=Θ
  ·rw[if_pos hk]at h
   rcases Fd r _ _ h with⟨a,b⟩|q
   ·exact .inl ⟨ahB (ajL _) a,ahX _ b⟩
   ·rw[ahV]at q;cases hx:x==y with
    |true =>
     rw[hx]at q;have e1:x=y:=by simpa using hx
     have e2:k=.cell:=by simpa using hk
     subst e1;subst e2;exact .inl ⟨aiz (ahA q),aib⟩
    |false=>rw[hx]at q;exact .inr q
  ·rw[if_neg hk]at h
   rcases Fd r _ _ h with⟨a,b⟩|q
   ·exact .inl ⟨a,ahX _ b⟩
   ·exact .inr q
theorem Fc:∀(names:List (Str×aaw)) (n:Nat) (acc:List (Str×Ξ)),(∀x y c,acc.lookup x=ζ c->acc.lookup y=ζ c->x=y)->(∀x c,acc.lookup x=ζ c->c<n) ->
  ∀x y c,(cellsFrom n names acc).lookup x=ζ c->(cellsFrom n names acc).lookup y=ζ c->x=y
 |[],_,_,hi,_,x,y,c,h1,h2=>hi x y c h1 h2
 |(z,k)::r,n,acc,hi,hl,x,y,c,h1,h2=>by
  unfold cellsFrom at h1 h2
  by_cases hk:(k==NameKind.cell)=Θ
  ·rw[if_pos hk]at h1 h2;refine Fc r (n+1) ((z,n)::acc) (λx y c e1 e2=>?_) (λx c e=>?_) x y c h1 h2
   ·rw[ahV]at e1 e2;cases hx:x==z with
    |true =>
     rw[hx]at e1;cases hy:y==z with
     |true=>exact(by simpa using hx:x=z).trans (by simpa using hy:y=z).symm
     |false =>
      rw[hy]at e2;have e3:n=c:=ahA e1;exact absurd (e3▸hl y c e2) (ah0 _)
    |false =>
     rw[hx]at e1;cases hy:y==z with
     |true =>
      rw[hy]at e2;have e3:n=c:=ahA e2;exact absurd (e3▸hl x c e1) (ah0 _)
     |false=>rw[hy]at e2;exact hi x y c e1 e2
   ·rw[ahV]at e;cases hx:x==z with
    |true=>rw[hx]at e;have e3:n=c:=ahA e;exact e3▸ai9 n
    |false=>rw[hx]at e;exact akv (hl x c e)
  ·rw[if_neg hk]at h1 h2;exact Fc r n acc hi hl x y c h1 h2
theorem Fe{x:Str}{c:Ξ}:∀(names:List (Str×aaw)) (h:υ) (acc:List (Str×Ξ)),(cellsFrom h.objs.size names acc).lookup x=ζ c->acc.lookup x=ζ c\/(h.objs.size<=c/\(pushCells h names).IsCell c η)
 |[],_,_,e=>.inl e
 |(y,k)::r,h,acc,e=>by
  unfold cellsFrom at e;unfold pushCells
  by_cases hk:(k==NameKind.cell)=Θ
  ·rw[if_pos hk]at e ⊢;have e':=e;rw[show h.objs.size+1=(h.push {cls:=.type "cell",data:=.cell η}).objs.size from(aif ..).symm]at e'
   rcases Fe r _ _ e' with q|⟨a,q⟩
   ·rw[ahV]at q;cases hx:x==y with
    |true =>
     rw[hx]at q;have e3:h.objs.size=c:=ahA q;subst e3;exact .inr ⟨ahn _,_,ajM _ _ _ _ (ahG _ rfl),rfl⟩
    |false=>rw[hx]at q;exact .inl q
   ·refine .inr ⟨?_,q⟩;rw[aif]at a;omega
  ·rw[if_neg hk]at e ⊢;exact Fe r h acc e
theorem Om{M:Model}{A:ψ}{E:Ψ->ι->Prop}{s:ι}{scope:aaA}{globals:Ξ}{cl:List (Str×Ξ)}{qual:Str}{env:Env}{Q:Env->ι->Prop}
  (hQ:∀h',(∀b o,s.heap.get? b=ζ o->h'.get? b=ζ o)->h'.Ns s.heap.objs.size (λ_=>η) ->
   (∀x c,(cellsFrom (s.heap.objs.size+1) scope.names cl).lookup x=ζ c->cl.lookup x=ζ c\/(s.heap.objs.size<c/\h'.IsCell c η)) ->
   Q {scope,locals:=s.heap.objs.size,globals,cells:=cellsFrom (s.heap.objs.size+1) scope.names cl,qual,func:=η,code:=env.code,frame:=env.frame,builtins:=env.builtins} {s with heap:=h'}) :
  wpAny M A (newFunctionEnv scope globals cl [] qual η .none (ζ env)) Q E s:=by
 simp only[newFunctionEnv,akw,if_true];refine ahm (wpAny_alloc ?_);refine ahm (wpAny_layCells _ (λname kind cells=>by cases hkc:kind==NameKind.cell<;>simp[hkc]) _ _ _ _ ?_)
 rw[show({s with heap:=s.heap.push {cls:=.type "dict",data:=.dict #[]} }:ι).heap.objs.size=s.heap.objs.size+1 from aif ..]
 refine ahm (ahD (ahD ?_));refine hQ _ (λb o e=>ajM _ _ b o (ahs _ e)) ((Heap.Ns.new s.heap (.type "dict")).keeps (ajM _ _)) λx c e=>?_
 have e':=e;rw[show s.heap.objs.size+1=(s.heap.push {cls:=.type "dict",data:=.dict #[]}).objs.size from(aif ..).symm]at e'
 rcases Fe scope.names (s.heap.push {cls:=.type "dict",data:=.dict #[]}) cl e' with q|⟨a,q⟩
 ·exact .inl q
 ·refine .inr ⟨?_,q⟩;rw[aif]at a;omega
theorem xJ{env:Env}{x:Str}{k':aaw}:∀{names:List (Str×aaw)},(names.map fun(n,k)=>if(k==NameKind.free&&env.scope.kind == .function&&env.kindOf n==ζ .cell)then(n,NameKind.cell)else(n,k)).lookup x=ζ k' ->
  ∃k,names.lookup x=ζ k/\(k'=k\/(k=.free/\k'=.cell))
 |[],h=>by cases h
 |(n,k)::r,h=>by
  rw[aht]at h
  by_cases hc:(k==NameKind.free&&env.scope.kind == .function&&env.kindOf n==ζ .cell)=Θ
  ·have e:(match((n,k):Str×aaw)with|(n,k)=>if(k==NameKind.free&&env.scope.kind == .function&&env.kindOf n==ζ .cell)then(n,NameKind.cell)else(n,k))=(n,NameKind.cell):=if_pos hc
   rw[e,ahV]at h;rw[ahV];cases hx:x==n with
   |true =>
    rw[hx]at h;have hk:k=.free:=by
     simp only[ahL]at hc
     simpa using hc.1.1
    exact⟨k,rfl,.inr ⟨hk,(ahA h).symm⟩⟩
   |false=>rw[hx]at h;exact xJ h
  ·have e:(match((n,k):Str×aaw)with|(n,k)=>if(k==NameKind.free&&env.scope.kind == .function&&env.kindOf n==ζ .cell)then(n,NameKind.cell)else(n,k))=(n,k):=if_neg hc
   rw[e,ahV]at h;rw[ahV];cases hx:x==n with
   |true=>rw[hx]at h;exact⟨k,rfl,.inl (ahA h).symm⟩
   |false=>rw[hx]at h;exact xJ h
theorem Br{env:Env}{x:Str}{k:aaw}:∀{names:List (Str×aaw)},names.lookup x=ζ k ->
  ∃k',(names.map fun(n,k)=>if(k==NameKind.free&&env.scope.kind == .function&&env.kindOf n==ζ .cell)then(n,NameKind.cell)else(n,k)).lookup x=ζ k'/\(k'=k\/(k=.free/\k'=.cell))
 |[],h=>by cases h
 |(n,j)::r,h=>by
  rw[aht];rw[ahV]at h
  by_cases hc:(j==NameKind.free&&env.scope.kind == .function&&env.kindOf n==ζ .cell)=Θ
  ·have e:(match((n,j):Str×aaw)with|(n,k)=>if(k==NameKind.free&&env.scope.kind == .function&&env.kindOf n==ζ .cell)then(n,NameKind.cell)else(n,k))=(n,NameKind.cell):=if_pos hc
   rw[e,ahV];cases hx:x==n with
   |true =>
    rw[hx]at h;have hk:j=.free:=by
     simp only[ahL]at hc
     simpa using hc.1.1
    exact⟨.cell,rfl,.inr ⟨(ahA h).symm.trans hk,rfl⟩⟩
   |false=>rw[hx]at h;exact Br h
  ·have e:(match((n,j):Str×aaw)with|(n,k)=>if(k==NameKind.free&&env.scope.kind == .function&&env.kindOf n==ζ .cell)then(n,NameKind.cell)else(n,k))=(n,j):=if_neg hc
   rw[e,ahV];cases hx:x==n with
   |true=>rw[hx]at h;exact⟨j,rfl,.inl (ahA h)⟩
   |false=>rw[hx]at h;exact Br h
theorem BZ{x:Str}{k:aaw}:∀{names:List (Str×aaw)},(names.map (·.1)).Nodup->(x,k)∈names->names.lookup x=ζ k
 |[],_,h=>by cases h
 |(n,j)::r,nd,h=>by
  have nd:(n::r.map (·.1)).Nodup:=nd;obtain⟨n1,n2⟩:=aiw.mp nd;rw[ahV]
  rcases aho.mp h with e|h2
  ·cases e;simp
  ·have hx:(x==n)=Γ:=by
    have:x≠n:=by
     intro e;exact n1 (ahw.mpr ⟨(x,k),h2,e⟩)
    simpa using this
   rw[hx];exact BZ n2 h2
theorem adK{prog:τ}{w:ω}{A:ψ}{R:Result->ι->Prop}{s:ι}{elt target iter:ο}{ifs:List ο}{scope:aaA}{pos:Pos}{it acc:Ψ}{env:Env}(I:Nat->ι->Prop)
  (turn:∀n s,I n s->wpAny (model prog w) A (pyNext it) (λr s₁=>match r with
   |none=>R (.ok .next) s₁
   |some v=>wpAny (model prog w) A (letOwnedTupleGo target it v) (λ_ s₁'=>wpAny (model prog w) A (assign target env v) (λ_ s₂ =>
     wpAny (model prog w) A (forIn ifs Θ λc r=>if r=Θ then do let ok <-isTrue c env (eval c env);pure (ForInStep.yield ok)else pure (ForInStep.yield r)) (λok s₃ =>
      if ok=Θ then wpAny (model prog w) A (eval elt env) (λx s₄ =>
       wpAny (model prog w) A (call (.builtin "list.append") [acc,x]) (λ_ s₅=>∃m,m<n/\I m s₅) (λ_ _=>False) s₄) (λ_ _=>False) s₃
      else ∃m,m<n/\I m s₃) (λ_ _=>False) s₂) (λ_ _=>False) s₁') (λ_ _=>False) s₁) (λ_ _=>False) s)
  (n:Nat) (h:I n s) :
  codeAny (model prog w) A (.compLoop (.ListComp elt [⟨target,iter,ifs,0⟩] scope pos) 0 it acc env) R s:=by
 refine codeAny_loop rfl I (λn s hI=>?_) n h
 show wpAny _ A ((compTurn (.ListComp elt [⟨target,iter,ifs,0⟩] scope pos) 0 it acc env).onRaise (λx=>do noteFrame x env;theTreesLotGoes x)) _ _ s
 refine wpAny_noted ?_;rw[compTurn_list];refine ahm (ajB (ahm (ahN (turn n s hI) (λr s₁ h₁=>?_) λ_ _ h'=>h'.elim)))
 cases r with
 |none=>exact ahD h₁
 |some v =>
  refine ahm (ahN h₁ (λ_ s₁' h₁'=>?_) λ_ _ h'=>h'.elim)
  refine ahm (ahN h₁' (λ_ s₂ h₂=>ahm (ahN h₂ (λok s₃ h₃=>?_) λ_ _ h'=>h'.elim)) λ_ _ h'=>h'.elim)
  cases ok with
  |false=>exact ahD ⟨rfl,h₃⟩
  |true =>
   exact ahm (ahm (ahN h₃ (λx s₄ h₄=>ahm (ahN h₄ (λ_ s₅ h₅=>ahD (ahD ⟨rfl,h₅⟩)) λ_ _ h'=>h'.elim)) λ_ _ h'=>h'.elim))
section
variable {X:Cx}{N':List Str}{pick:List (Option Nat)}{scope:aaA}{pins:List (Ξ×Obj)}{σ:St}{H₂:Hp}{s₂:ι}{tg:ο}{J:It}{fp:List Ξ}{it:Ξ}{tn:Nat->υ->Prop}
theorem Me(S:cP X N' pick scope) (I:Inv X pins σ H₂ s₂):closureFor scope X.env=pure (gc X.env scope.names []):=by
 have e:=zV (env:=X.env) scope.names [] λx hx hk=>I.ok.has x.1 (S.free x hx hk)
 show((forIn scope.names ([]:List (Str×Ξ)) fun(x:Str×aaw) cs=>(if(x.2==NameKind.free)=Θ then do let a <-cellOf X.env x.1;pure (ForInStep.yield ((x.1,a)::cs))else pure (ForInStep.yield cs):Sem (ForInStep (List (Str×Ξ))))) >>= λcs=>pure cs)=_
 rw[e,pure_bind]
theorem vP(S:cP X N' pick scope) (I:Inv X pins σ H₂ s₂) {x:Str}{c:Ξ}(h:(gc X.env scope.names []).lookup x=ζ c):(x,NameKind.free)∈scope.names/\X.env.cells.lookup x=ζ c:=by
 rcases Gi _ _ h with⟨a,b⟩|q
 ·refine⟨a,?_⟩;obtain⟨c',hc⟩:=I.ok.has x (S.free _ a rfl);rw[hc]at b ⊢;rw[b];rfl
 ·cases q
theorem vN(S:cP X N' pick scope) (I:Inv X pins σ H₂ s₂) {n:Nat}{x:Str}{c:Ξ}(h:(cellsFrom n scope.names (gc X.env scope.names [])).lookup x=ζ c) :
  (n<=c/\scope.names.lookup x=ζ .cell)\/(scope.names.lookup x=ζ .free/\X.env.cells.lookup x=ζ c):=by
 rcases Fd _ _ _ h with⟨a,b⟩|q
 ·exact .inl ⟨a,BZ S.uniq b⟩
 ·obtain⟨a,b⟩:=vP S I q;exact .inr ⟨BZ S.uniq a,b⟩
theorem Mf(S:cP X N' pick scope) (I:Inv X pins σ H₂ s₂) {n:Nat}{x:Str}{c:Ξ}(hx:scope.names.lookup x=ζ .free) (hc:X.env.cells.lookup x=ζ c) :
  (cellsFrom n scope.names (gc X.env scope.names [])).lookup x=ζ c:=by
 have h1:((gc X.env scope.names []).lookup x).isSome=Θ:=Gj _ _ (.inr (aic hx));obtain⟨c',h2⟩:=aiY.mp (aiX scope.names n _ (.inr h1))
 rcases vN S I h2 with⟨_,z⟩|⟨_,z⟩
 ·rw[hx]at z;cases z
 ·rw[hc]at z;cases z;exact h2
theorem abL(I:Inv X pins σ H₂ s₂) {b:Ξ}(hb:b∈frs X.stack):b<s₂.heap.objs.size:=by
 rcases aho.mp (I.mW b hb)with e|hb
 ·rw[e];exact I.lt
 ·by_cases q:b<s₂.heap.objs.size
  ·exact q
  ·exact absurd hb (I.BP (Nat.not_lt.mp q))
theorem adI(S:cP X N' pick scope) (I:Inv X pins σ H₂ s₂) (hf:∀b∈fp,gT X pins H₂ b) (hfo:∀b∈fp,b<s₂.heap.objs.size) {n:Nat}{C:Ξ}{s₄:ι}(hn:s₂.heap.objs.size<=n) (hC:s₂.heap.objs.size<=C) (hCn:C<n)
  (hos:s₄.os=s₂.os) (hge:s₄.gens=s₂.gens) (kp:∀b o,s₂.heap.get? b=ζ o->s₄.heap.get? b=ζ o) (ns:s₄.heap.Ns C λ_=>η)
  (ce:∀x c,(cellsFrom n scope.names (gc X.env scope.names [])).lookup x=ζ c->(gc X.env scope.names []).lookup x=ζ c\/(n<=c/\s₄.heap.IsCell c η)) :
  Inv (fZ X N' scope (cellsFrom n scope.names (gc X.env scope.names [])) C s₂ H₂ fp (X.pn++pins)) [] (kC pick σ) H₂ s₄:=by
 have fr:∀{a:Ξ},s₂.heap.objs.size<=a->H₂ a=η:=λh=>I.hok.fresh h
 have old:∀{x:Str}{c:Ξ},X.env.cells.lookup x=ζ c->c<s₂.heap.objs.size:=fun{x c} e=>let⟨v,z⟩:=I.cell x c e;z.lt
 have S9:∀p∈X.pn++pins,p.1<s₂.heap.objs.size:=λp hp=>ahq (I.pin p hp).1
 refine⟨⟨I.ok.mod,S.kind,I.ok.glob,I.ok.blt,hC,?inj,?has,?jn,I.ok.hd,I.ok.frames,.inl rfl,?lz,I.bs,ahB I.ok.gk I.sz,?iT,?kg,I.stack,I.xo⟩,
  hos,by rw[hge];exact I.bare,Un.kept kp,⟨_,ns,?loc⟩,?cell,fr hC,?gj,?pin,I.hok.kept kp,?len⟩
 case inj =>
  refine Fc _ _ _ (λx y c h1 h2=>?_) λx c h=>?_
  ·exact I.ok.inj x y c (vP S I h1).2 (vP S I h2).2
  ·exact ahv (old (vP S I h).2) hn
 case has =>
  intro x hx;have hx:(relabel scope X.env).names.lookup x=ζ .cell\/(relabel scope X.env).names.lookup x=ζ .free:=hx;have go:∀k,scope.names.lookup x=ζ k->k=.cell\/k=.free->∃c,(cellsFrom n scope.names (gc X.env scope.names [])).lookup x=ζ c:=λk hk hq=>by
   rcases hq with rfl|rfl
   ·exact aiY.mp (aiX _ _ _ (.inl hk))
   ·obtain⟨c,hc⟩:=I.ok.has x (S.free _ (aic hk) rfl);exact⟨c,Mf S I hk hc⟩
  rcases hx with hx|hx
  ·obtain⟨k,hk,e|⟨e,_⟩⟩:=xJ hx
   ·exact go k hk (.inl e.symm)
   ·exact go k hk (.inr e)
  ·obtain⟨k,hk,e|⟨_,e⟩⟩:=xJ hx
   ·exact go k hk (.inr e.symm)
   ·cases e
 case jn =>
  intro x c hx hc;have hx:scope.names.lookup x=ζ .cell:=by simpa[fZ]using hx
  rcases vN S I hc with⟨a,_⟩|⟨a,_⟩
  ·exact ahB hn a
  ·rw[hx]at a;cases a
 case lz =>
  intro b hb;refine⟨ahx (ahv (hfo b hb) hC),λx c hc=>?_⟩
  rcases vN S I hc with⟨a,_⟩|⟨_,a⟩
  ·exact ail (ahv (hfo b hb) (ahB hn a))
  ·exact(hf b hb).2.2.2.2.1 x c a
 case iT =>
  intro b o e hb
  rcases(hf b hb).2.2.2.1 with z|z
  ·exact I.ok.iT b o e z
  ·exact absurd (ahv (ahq e) (ahB I.ok.gk z)) (ah0 _)
 case kg =>
  intro b hb hs
  rcases aho.mp (I.mW b hs)with e|e
  ·exact(hf b hb).2.1 e
  ·exact(hf b hb).2.2.1 e
 case loc =>
  intro i x v h1 h2 h3;have h1:N'[i]? = ζ x:=h1;have hp:∃j,pick[i]? = ζ (ζ j)/\σ[j]? = ζ (ζ v):=by
   unfold kC at h2;rw[ahS]at h2;cases e:pick[i]? with
   |none=>rw[e]at h2;cases h2
   |some o =>
    rw[e]at h2;cases o with
    |none=>cases h2
    |some j =>
     refine⟨j,rfl,?_⟩;have h2':(σ[j]?).bind id=ζ v:=ahA h2;cases e2:σ[j]? with
     |none=>rw[e2]at h2';cases h2'
     |some q=>rw[e2]at h2';exact congrArg ζ h2'
  obtain⟨j,hj,hv⟩:=hp;obtain⟨hfr,hN⟩:=S.got i j x hj h1;have hk:=S.free _ (aic hfr) rfl;obtain⟨m,hm,hl⟩:=I.loc;obtain⟨u,ru,lk⟩:=hl j x v hN hv (.inr hk);refine⟨u,ru,?_⟩
  rcases lk with⟨z,_⟩|⟨_,c,hc,hcell⟩
  ·rcases hk with q|q<;>(rw[show X.env.kindOf x=_ from z]at q;cases q)
  ·refine .inr ⟨?_,c,Mf S I hfr hc,hcell.keeps kp⟩;show(relabel scope X.env).names.lookup x=ζ .cell\/(relabel scope X.env).names.lookup x=ζ .free;obtain⟨k',hk',e|⟨_,e⟩⟩:=Br (env:=X.env) hfr
   ·exact .inr (by rw[<-e];exact hk')
   ·exact .inl (by rw[<-e];exact hk')
 case cell =>
  intro x c hc
  rcases ce x c hc with z|⟨_,z⟩
  ·obtain⟨v,q⟩:=I.cell x c (vP S I z).2;exact⟨v,q.keeps kp⟩
  ·exact⟨η,z⟩
 case gj =>
  intro x c hc
  rcases vN S I hc with⟨a,_⟩|⟨_,a⟩
  ·exact fr (ahB hn a)
  ·exact I.gj x c a
 case pin =>
  intro p hp;have hp:p∈X.pn++pins:=by simpa[fZ]using hp
  obtain⟨e,n0,ne,nf,d⟩:=I.pin p hp;refine⟨kp _ _ e,n0,ahx (ahv (S9 p hp) hC),λz=>?_,d⟩
  rcases aho.mp (I.mW _ z)with e|e
  ·exact ne e
  ·exact nf e
 case len =>
  unfold kC;rw[ahr];exact S.len
end
section
variable {X:Cx}{N':List Str}{pick:List (Option Nat)}{scope:aaA}{pins:List (Ξ×Obj)}{σ:St}{H₂:Hp}{s₂:ι}{tg:ο}{J:It}{fp:List Ξ}{it:Ξ}{tn:Nat->υ->Prop}
 {elt iter:ο}{ifs:List ο}{pos:Pos}{g:TG}{tt:TT}{te:TE}
theorem L8{E:Ψ->ι->Prop}{RR:Ψ->Ξ->Result->ι->Prop}{Qv:V->Hp->Prop}(S:cP X N' pick scope) (hc:X.calm=Θ) (iZ:Inv X pins σ H₂ s₂) (T:Turn X.prog X.w X.K tg J fp it tn) (st:tn 0 s₂.heap) (hf:∀b∈fp,gT X pins H₂ b)
    (hg:∀cl C s₀ H₀ ex pn,PG (fZ X N' scope cl C s₀ H₀ ex pn) tg g) (hi:∀cl C s₀ H₀ ex pn,qa (fZ X N' scope cl C s₀ H₀ ex pn) ifs tt) (he:∀cl C s₀ H₀ ex pn,PE (fZ X N' scope cl C s₀ H₀ ex pn) elt te)
    {W:Nat->Nat->St->List V->Hp->Prop}{m0:Nat}(h0:W 0 m0 (kC pick σ) [] H₂)
    (turn:∀i m σ' ys H,W i m σ' ys H->ys.length<Ω /\
      ((J.stop i H/\∀p,H p=η->Qv (.ref p) (upd H p (.lst ys))) \/
       (J.go i H/\∃N:St->List V->Hp->Prop,(∀σ2 zs H2,N σ2 zs H2->∃m',m'<m/\W (i+1) m' σ2 zs H2)/\∀x H',J.qd i H x H'->g x σ' H' λσ2 H2=>tt σ2 H2 λb H3 =>
          if b=Θ then te σ2 H3 λy H4=>N σ2 (ys++[y]) H4 else N σ2 ys H3)))
    (fin:∀(D C:Ξ) (H':Hp) (s':ι) (m:Str->Option Ψ),Inv X pins σ H' s'->gT X pins H' C->s'.heap.Ns C m->Qv (.ref D) H'->RR (.ref D) C (.ok .next) s') :
    wpAny (model X.prog X.w) X.A (newList []) (λacc s₃=>wpAny (model X.prog X.w) X.A (newFunctionEnv scope X.env.globals (gc X.env scope.names []) [] X.env.qual η .none (ζ X.env)) (λcenv s₄ =>
      codeAny (model X.prog X.w) X.A (.compStart (.ListComp elt [⟨tg,iter,ifs,0⟩] scope pos) 0 (.ref it) acc {cenv with scope:=relabel scope X.env}) (RR acc cenv.locals) s₄) E s₃) E s₂:=by
  have hfo:∀b∈fp,b<s₂.heap.objs.size:=λb hb=>let⟨o,e,_⟩:=T.obj 0 _ st b hb;ahq e
  refine ajN (Om λh₄ kp ns ce=>?_)
  generalize DG:s₂.heap.push {cls:=.type "list",dict:=η,data:=.seq ([]:List Ψ).toArray}=H3 at kp ns ce ⊢
  have hC:H3.objs.size=s₂.heap.objs.size+1:=by rw[<-DG,aif]
  have vm:∀b o,s₂.heap.get? b=ζ o->h₄.get? b=ζ o:=λb o e=>kp b o (DG▸ahs _ e)
  have hD:h₄.get? s₂.heap.objs.size=ζ {cls:=.type "list",data:=.seq ([]:List Ψ).toArray}:=kp _ _ (DG▸ahG _ rfl);have nF:s₂.heap.objs.size<=H3.objs.size:=by rw[hC];exact ajL _
  have hDC:s₂.heap.objs.size≠H3.objs.size:=by rw[hC];exact ahx (ai9 _)
  generalize hcl:cellsFrom (H3.objs.size+1) scope.names (gc X.env scope.names [])=cl at ce
  have Gv:Inv (fZ X N' scope cl H3.objs.size s₂ H₂ fp (X.pn++pins)) [] (kC pick σ) H₂ {s₂ with heap:=h₄}:=by
    subst hcl;exact adI S iZ hf hfo (n:=H3.objs.size+1) (ahB nF (ajL _)) nF (ai9 _) rfl rfl vm ns λx c e=>ce x c e
  have DC:∀x c,cl.lookup x=ζ c->c≠s₂.heap.objs.size:=λx c e=>by
    subst hcl
    rcases vN S iZ e with⟨a,_⟩|⟨_,a⟩
    · refine ail (ahv ?_ a)
      rw[hC];exact akv (ai9 _)
    · obtain⟨v,z⟩:=iZ.cell x c a
      exact ahx z.lt
  have aaY:∀x c,X.env.cells.lookup x=ζ c->c≠H3.objs.size:=λx c e=>by
    obtain⟨v,z⟩:=iZ.cell x c e;exact ahx (ahv z.lt nF)
  generalize gP:fZ X N' scope cl H3.objs.size s₂ H₂ fp (X.pn++pins)=X' at Gv
  have wD:X'.prog=X.prog:=by subst gP;rfl
  have xw:X'.w=X.w:=by subst gP;rfl
  have xK:X'.K=X.K:=by subst gP;rfl
  have xA:X'.A=X.A:=by subst gP;rfl
  have GL:X'.calm=Θ:=by subst gP;exact hc
  have wH:X'.env.locals=H3.objs.size:=by subst gP;rfl
  have N6:X'.env.cells=cl:=by subst gP;rfl
  have N2:X'.env=compEnvC scope cl H3.objs.size X.env:=by subst gP;rfl
  have Ay:X'.fs=frs X.stack:=by subst gP;rfl
  have Az:X'.ex=fp:=by subst gP;rfl
  have Ax:X'.s₀=s₂:=by subst gP;rfl
  have GG:X'.pn=X.pn++pins:=by subst gP;rfl
  have NZ:X'.xe=λ_ _=>False:=by subst gP;rfl
  have Oh:X'.H₀=H₂:=by subst gP;rfl
  have hg':PG X' tg g:=by subst gP;exact hg _ _ _ _ _ _
  have hi':qa X' ifs tt:=by subst gP;exact hi _ _ _ _ _ _
  have he':PE X' elt te:=by subst gP;exact he _ _ _ _ _ _
  have oE:∀{H':Hp}{pl:List (Ξ×Obj)},(∀b∈fp,H' b=η)->(∀p∈pl,s₂.heap.objs.size<=p.1)->∀b∈fp,gT X' pl H' b:=fun{H' pl} hn hp b hb=>by
    have hlt:=hfo b hb;obtain⟨_,f1,f2,f3,f4,f5⟩:=hf b hb;refine⟨hn b hb,by rw[wH];exact ahx (ahv hlt nF),?_,.inl (by rw[Az];exact hb),λx c e=>?_,λp gx=>?_⟩
    · rw[Ay]
      intro z
      rcases aho.mp (iZ.mW b z)with e|e
      · exact f1 e
      · exact f2 e
    · have:=Gv.ok.lz b (by rw[Az];exact hb)
      exact this.2 x c e
    · rcases ahT.mp gx with z|z
      · rw[GG]at z;exact f5 p z
      · exact ail (ahv hlt (hp p z))
  have IG:∀{H':Hp}{s':ι}{σ':St}{o:Obj},Inv X' [] σ' H' s'->s'.heap.get? s₂.heap.objs.size=ζ o->H' s₂.heap.objs.size=η->(∀v,o.data≠.cell v)->Inv X' [(s₂.heap.objs.size,o)] σ' H' s':=fun{H' s' σ' o} I e hn hnc =>
    I.xO λp hp=>by
      obtain rfl:p=(s₂.heap.objs.size,o):=by simpa using hp
      refine⟨e,hn,by rw[wH];exact hDC,?_,hnc⟩
      rw[Ay];intro z;exact absurd (abL iZ z) (ah0 _)
  have z9:H₂ s₂.heap.objs.size=η:=iZ.hok.fresh (ahn _)
  let Iv:Nat->ι->Prop:=λn s'=>∃(i:Nat) (σ':St) (ys:List V) (H':Hp) (its:List Ψ) (k:Nat),Inv X' [(s₂.heap.objs.size,{cls:=.type "list",data:=.seq its.toArray k})] σ' H' s'/\Vals ys its/\tn i s'.heap/\(∀b∈fp,H' b=η)/\W i n σ' ys H'
  have loop:codeAny (model X.prog X.w) X.A (.compLoop (.ListComp elt [⟨tg,iter,ifs,0⟩] scope pos) 0 (.ref it) (.ref s₂.heap.objs.size) X'.env) (RR (.ref s₂.heap.objs.size) H3.objs.size) {s₂ with heap:=h₄}:=by
    refine adK Iv ?_ m0 ⟨0,_,[],H₂,[],_,IG Gv hD z9 (λv q=>nomatch q),.nil,T.keep _ _ _ st λb _ o e=>vm b o e,λb hb=>(hf b hb).1,h0⟩
    rintro n s5 ⟨i,wu,ys,H5,its,k,I5,rv,oG,yU,w5⟩
    obtain⟨hlen,tr⟩:=turn i n wu ys H5 w5;have p5:∀{o:Obj},∀p∈[(s₂.heap.objs.size,o)],s₂.heap.objs.size<=p.1:=fun{o} p hp=>by
      obtain rfl:p=(s₂.heap.objs.size,o):=by simpa using hp
      exact ahn _
    rw[<-xA]
    rcases tr with⟨stop,qf⟩|⟨go,N,hN,step⟩
    · have dn:=T.done X' wD xw xK GL i _ s5 wu H5 (λ_ _=>False) I5 (oE yU p5) oG stop
      rw[xA]at dn ⊢;refine ahN dn (λr s6 h6=>?_) λ_ _ z=>z
      obtain⟨rfl,I6⟩:=h6;show RR (.ref s₂.heap.objs.size) H3.objs.size (.ok .next) s6;obtain⟨eD,nD,_⟩:=I6.pin _ (ah7 _ aib);have oA:Un (frs X.stack) fp H₂ H5 s₂.heap s6.heap:=by
        have:=I6.base;rw[Ay,Az,Ax,Oh]at this;exact this
      have lt:∀{b:Ξ}{o:Obj},s₂.heap.get? b=ζ o->b≠s₂.heap.objs.size:=λe=>ahx (ahq e)
      have Pn:Un (frs X.stack) fp H₂ (upd H5 s₂.heap.objs.size (.lst ys)) s₂.heap s6.heap :=
        ⟨oA.keep,oA.slot,λb o e n hx=>by rw[bA (lt e)];exact oA.free b o e n hx,oA.there,λb xs e=>by rw[bA (dG e z9)];exact oA.tups b xs e,
          λb o u e=>by rw[bA (dG e z9)];exact oA.gA b o u e,λb ps e=>by rw[bA (dG e z9)];exact oA.gJ b ps e⟩
      have aaH:cD X.prog X.w (upd H5 s₂.heap.objs.size (.lst ys)) s6.heap:=λb u e=>by
        by_cases hb:b=s₂.heap.objs.size
        · subst hb
          rw[gI]at e;cases e;exact⟨aiS hlen,its,k,rv,eD⟩
        · rw[bA hb]at e
          have:=I6.hok b u e;rw[wD,xw]at this;exact this.stay (λ_ _ _ q=>q) (λc q=>by rw[bA (dG q nD)];exact q) λc xs q=>by rw[bA (dG q nD)];exact q
      have I7:Inv X pins σ (upd H5 s₂.heap.objs.size (.lst ys)) s6:=by
        refine iZ.Fj (ch:=fp) ?_ Pn aaH I6.bare λb hb=>?_
        · have:=I6.os;rw[Ax]at this;exact this
        · obtain⟨_,f1,f2,f3,f4,f5⟩:=hf b hb
          exact⟨f3,f1,f4,f5⟩
      obtain⟨m6,n6,_⟩:=I6.loc;rw[wH]at n6;have hC6:H5 H3.objs.size=η:=by have:=I6.free;rw[wH]at this;exact this
      refine fin _ _ _ s6 m6 I7 ⟨by rw[bA (ah2 hDC)];exact hC6,?_,?_,.inr (ahB iZ.sz nF),aaY,λp hp=>?_⟩ n6 (qf _ nD)
      · exact ail (ahv iZ.lt nF)
      · intro z
        exact absurd z (iZ.BP nF)
      · exact ahx (ahv (ahq (iZ.pin p hp).1) nF)
    · have itm:=T.item X' wD xw xK GL i _ s5 wu H5 (λ_ _=>False) I5 (oE yU p5) oG go
      refine ahN itm (λr s6 h6=>?_) λ_ _ z=>z
      obtain⟨u,rfl,h6⟩:=h6;refine ahN h6 (λ_ s7 h7=>?_) λ_ _ z=>z
      obtain⟨x,H7,I7,rx,y7,Ba,fr7⟩:=h7;have I7':=I7.pinned (oE fr7 p5) (T.obj _ _ Ba);have mp:∀{α:Type}{t:Sem α}{Q:α->ι->Prop}{s:ι},wpAny (model X'.prog X'.w) X'.A t Q X'.xe s->wpAny (model X.prog X.w) X'.A t Q (λ_ _=>False) s:=fun{α t Q s} h=>by
        rw[wD,xw,NZ]at h;exact h
      refine ahN (mp (hg' _ s7 wu H7 x u _ I7' rx (step x H7 y7))) (λ_ s8 h8=>?_) λ_ _ z=>z
      obtain⟨ue,H8,I8,q8⟩:=h8;refine ahN (mp (hi' _ s8 ue H8 _ I8 q8)) (λok s9 h9=>?_) λ_ _ z=>z
      obtain⟨H9,I9,q9⟩:=h9;have Kl:∀{σ':St}{H':Hp}{s':ι},Inv X' ([(s₂.heap.objs.size,{cls:=.type "list",data:=.seq its.toArray k})]++uU fp s7.heap) σ' H' s'->tn (i+1) s'.heap/\∀b∈fp,H' b=η:=fun{σ' H' s'} I=>by
        refine⟨T.keep _ _ _ Ba λb hb o e=>(I.pin (b,o) (ah7 _ (ah7 _ (yu hb e)))).1,λb hb=>?_⟩
        obtain⟨o,e,d⟩:=T.obj _ _ Ba b hb;exact(I.pin (b,o) (ah7 _ (ah7 _ (yu hb e)))).2.1
      cases ok with
      | false =>
        rw[if_neg ahO]at q9 ⊢;obtain⟨m',hm,w9⟩:=hN _ _ _ q9;obtain⟨t9,f9⟩:=Kl I9;exact⟨m',hm,i+1,ue,ys,H9,its,k,I9.uz,rv,t9,f9,w9⟩
      | true =>
        rw[if_pos rfl]at q9 ⊢;refine ahN (mp (he' _ s9 ue H9 _ I9 q9)) (λv uQ h10=>?_) λ_ _ z=>z
        obtain⟨y,Nb,Na,ry,rV⟩:=h10;obtain⟨m',hm,O7⟩:=hN _ _ _ rV;obtain⟨Qw,f10⟩:=Kl Na;have M9:=Na.uz;obtain⟨eD,nD,cU,nfD,dD⟩:=M9.pin _ (ah7 _ aib);have hl:=rv.length;refine ah8 F.slot_list_append ⟨_,eD,rfl⟩ F.entry_list_append (F.args_list_append_2 _ _) (aku s₂.heap.objs.size its.toArray k v (by rw[ahE];omega)) ⟨eD,?_⟩
        have q:=akt eD (·.push v);have I11:Inv X' [] ue Nb {uQ with heap:=uQ.heap.update s₂.heap.objs.size (Obj.mapSeq (·.push v))}:=by
          refine(M9.xO (rK:=[]) λp hp=>by cases hp).turned (t':=uQ.toks) (it:=s₂.heap.objs.size) (λb o hb e=>(ai7 uQ.heap (Obj.mapSeq (·.push v)) (ah2 hb)).trans e) nD cU (.inr (by rw[Ax];exact ahn _)) (λx c hc=>DC x c (by rw[<-N6];exact hc)) λp hp=>?_
          have hp:p∈X.pn++pins:=by rw[aim,GG]at hp;exact hp
          exact ahx (ahq (iZ.pin p hp).1)
        rw[show its.toArray.push v=(its++[v]).toArray by simp]at q
        refine⟨m',hm,i+1,ue,ys++[y],Nb,its++[v],_,IG I11 q nD (λv q=>nomatch q),rv.append (.cons ry .nil),?_,f10,O7⟩
        refine T.keep _ _ _ Qw λb hb o e=>(ai7 uQ.heap (Obj.mapSeq (·.push v)) ?_).trans e
        exact ail (hfo b hb)
  have e4:({scope:=relabel scope X.env,locals:=H3.objs.size,globals:=X.env.globals,cells:=cl,qual:=X.env.qual,func:=η,code:=X.env.code,frame:=X.env.frame,builtins:=X.env.builtins}:Env)=X'.env:=by rw[N2];rfl
  have HS:tn 0 h₄:=T.keep _ _ _ st λb _ o e=>vm b o e
  have goal:codeAny (model X.prog X.w) X.A (.compStart (.ListComp elt [⟨tg,iter,ifs,0⟩] scope pos) 0 (.ref it) (.ref s₂.heap.objs.size) X'.env) (RR (.ref s₂.heap.objs.size) H3.objs.size) {s₂ with heap:=h₄} :=
    codeAny_compStart_list loop (T.self _ 0 _ _ _ HS loop)
  rw[<-e4]at goal;exact goal
theorem Inv.gone{H':Hp}{s':ι}{h':υ}{C:Ξ}(I:Inv X pins σ H' s') (f:gT X pins H' C) (hs:aaU C s'.heap h'):Inv X pins σ H' {s' with heap:=h'}:=by
 obtain⟨f0,f1,f2,f3,f4,f5⟩:=f;exact I.turned (t':=s'.toks) (λb o hb e=>(hs.2 b hb).trans e) f0 f1 f3 f4 f5
theorem UA{wi:TI}(S:cP X N' pick scope) (hc:X.calm=Θ) (hit:PI X tg iter wi)
  (hg:∀cl C s₀ H₀ ex pn,PG (fZ X N' scope cl C s₀ H₀ ex pn) tg g) (hi:∀cl C s₀ H₀ ex pn,qa (fZ X N' scope cl C s₀ H₀ ex pn) ifs tt) (he:∀cl C s₀ H₀ ex pn,PE (fZ X N' scope cl C s₀ H₀ ex pn) elt te)
  (hs:∀x,foldedSetIterable iter X.env x=pure x:=by intro _;rfl) :
  PE X (.ListComp elt [⟨tg,iter,ifs,0⟩] scope pos) (A0 wi pick g tt te):=by
 intro pins s σ H Q I h;rw[eval_ListComp];refine akx (use:=η) rfl hs (Me S I) S.kind S.names (bE (hit pins s σ H _ I h) λv s1 h1=>bE h1 λitv s2 h2=>?_)
 obtain⟨it,fp,tn,J,H2,rfl,I2,T,st2,f2,W,⟨m0,w0⟩,turn⟩:=h2;refine L8 (RR:=λacc C=>compPost (model X.prog X.w) X.A X.xe η (EP X pins σ Q) acc C) (Qv:=Q) S hc I2 T st2 f2 hg hi he w0 turn ?_
 intro D C H' s' m I' f' n' q';exact⟨m,n',λh' hs'=>⟨.ref D,H',I'.gone f' hs',rfl,q'⟩⟩
def Qa(i:Nat) (t:TE):TS:=λD σ H=>t σ H λv H1=>D.nx (σ.set i (ζ v)) H1
theorem SW{wi:TI}{i:Nat}{y:Str}{py spos:Pos}(hsw:swapsWith (.ListComp elt [⟨tg,iter,ifs,0⟩] scope pos) (ζ (.Name y py)) spos.line X.env=pure Θ) (hN:X.N.Nodup) (hy:X.N[i]? = ζ y) (hl:X.env.scope.names.lookup y=ζ .local)
  (S:cP X N' pick scope) (hc:X.calm=Θ) (hit:PI X tg iter wi)
  (hg:∀cl C s₀ H₀ ex pn,PG (fZ X N' scope cl C s₀ H₀ ex pn) tg g) (hi:∀cl C s₀ H₀ ex pn,qa (fZ X N' scope cl C s₀ H₀ ex pn) ifs tt) (he:∀cl C s₀ H₀ ex pn,PE (fZ X N' scope cl C s₀ H₀ ex pn) elt te)
  (hs:∀x,foldedSetIterable iter X.env x=pure x:=by intro _;rfl) :
  PS X (.Assign [.Name y py] (.ListComp elt [⟨tg,iter,ifs,0⟩] scope pos) spos) (Qa i (A0 wi pick g tt te)):=by
 intro pins s σ H D I h;rw[exec_Assign_Name_used _ _ _ _ hsw];refine ahm (ajB (ahm ?_));show wpAny _ X.A (do let _ <-comprehension (.ListComp elt [⟨tg,iter,ifs,0⟩] scope pos) scope X.env _ (newList []) Γ (eval iter X.env) (ζ (assign (.Name y py) X.env))) _ _ s
 refine ahm (ahN (akx (use:=ζ (assign (.Name y py) X.env)) (Q:=λ_ s'=>SP X pins D .next s') rfl hs (Me S I) S.kind S.names
  (bE (hit pins s σ H _ I h) λv s1 h1=>bE h1 λitv s2 h2=>?_)) (λ_ s' hq=>ahD (ahD hq)) λ_ _ e=>e)
 obtain⟨it,fp,tn,J,H2,rfl,I2,T,st2,f2,W,⟨m0,w0⟩,turn⟩:=h2;refine L8 (RR:=λacc C=>compPost (model X.prog X.w) X.A X.xe (ζ (assign (.Name y py) X.env)) (λ_ s'=>SP X pins D .next s') acc C) (Qv:=λv H1=>D.nx (σ.set i (ζ v)) H1) S hc I2 T st2 f2 hg hi he w0 turn ?_
 intro Da C H' s' m I' f' n' q';show wpAny _ X.A (assign (.Name y py) X.env (.ref Da)) _ _ _;refine wpAny_assign_Name (HR I' hN hy (.inl hl) (v:=.ref Da) rfl (λs'' I'' ⟨a,sb,ha⟩=>?_) (.inr hl))
 have hCa:C≠a:=by
  rcases ha with e|e
  ·rw[e];exact f'.2.1
  ·exact ah2 (f'.2.2.2.2.1 _ _ e)
 exact⟨m,n'.sameBut sb hCa,λh' hs'=>⟨_,H',I''.gone f' hs',q'⟩⟩
end
def Mb(XN:List Str) (xn:List (Str×aaw)) (N':List Str) (pick:List (Option Nat)) (names:List (Str×aaw)):Bool :=
 decide N'.Nodup&&names.all (λx=>decide (names.lookup x.1=ζ x.2))&&decide ((names.map (·.1)).Nodup)&&(pick.length==N'.length) &&
 (pick.zip N').all (λq=>match q.1 with|none=>Θ|some j=>decide (names.lookup q.2=ζ NameKind.free)&&decide (XN[j]? = ζ q.2)) &&
 names.all (λx=>decide (x.2≠NameKind.free)||(decide (xn.lookup x.1=ζ NameKind.cell)||decide (xn.lookup x.1=ζ NameKind.free)))
theorem cP.of{X:Cx}{N':List Str}{pick:List (Option Nat)}{scope:aaA}(hk:scope.kind=.function) (h:Mb X.N X.env.scope.names N' pick scope.names=Θ):cP X N' pick scope:=by
 unfold Mb at h;simp only[ahL,ahQ,decide_eq_true_eq,beq_iff_eq,aiH]at h;obtain⟨⟨⟨⟨⟨h1,h2⟩,h3⟩,h4⟩,h5⟩,h6⟩:=h;refine⟨hk,h1,λx hx e=>by rw[<-e];exact h2 x hx,h3,h4,λi j x hp hN=>?_,λx hx e=>?_⟩
 ·have hm:(ζ j,x)∈pick.zip N':=by
   have:(pick.zip N')[i]? = ζ (ζ j,x):=by rw[aky];exact⟨hp,hN⟩
   exact ahP this
  exact h5 _ hm |> λz=>by simpa using z
 ·rcases h6 x hx with z|z|z
  ·exact absurd e z
  ·exact .inl z
  ·exact .inr z
end L2
namespace PySem
open Sem (wp)
section
variable {prog:τ}{w:ω}{A:ψ}{E:Ψ->ι->Prop}{s:ι}
theorem XJ{it l:Ξ}{i:Nat}{items:Array Ψ}{x:Ψ}{Q:Ψ->ι->Prop}(hit:s.heap.IsTupleIter it l i)
  (hl:s.heap.IsTuple l items) (hx:items[i]? = ζ x)
  (hQ:∀h',h'.IsTupleIter it l (i+1)->aaU it s.heap h'->Q x {s with heap:=h'}) :
  wpAny (model prog w) A (Builtin.SmallTypes.nextOf (.ref it)) Q E s:=by
 obtain⟨o,ho,hc,hd⟩:=id hit;obtain⟨ol,vz,_,nl,hdl⟩:=hl;unfold Builtin.SmallTypes.nextOf;refine ahm (aja (name:=Str.ofString "__next__") hit.typeIs ajb
  (ajc ajb hit.typeIs akz ?_ (akA _)))
 show wpAny _ _ (field (.ref it) 0 >>= _) _ _ s;refine ahm (ah9 ho hd (x:=.ref l) rfl ?_);show wpAny _ _ (if(Value.ref l==Value.none)=Θ then _ else _) _ _ s
 rw[if_neg (show ¬((Value.ref l==Value.none)=Θ)from ahO)]
 show wpAny _ _ (field (.ref it) 1 >>= _) _ _ s;refine ahm (ah9 ho hd (x:=.int i 0) rfl ?_);show wpAny _ _ (seqItems? (.ref l) >>= _) _ _ s;refine ahm (aip vz hdl ?_);simp only[aiG,hx];refine ahm (wpAny_setField ho hd (by simp) (ahD ⟨x,rfl,ahD (hQ _ ?_ (Heap.SameBut.update ..))⟩))
 exact⟨_,akr _ ho (Obj.isFreed_of_fields (Obj.data_mapFields hd _)),(Obj.cls_mapFields ..).trans hc,by
  rw[Obj.data_mapFields hd];simp[rawInt]⟩
theorem XM{it l:Ξ}{i:Nat}{items:Array Ψ}{Q:Ψ->ι->Prop}(hh:A.handled=η)
  (hit:s.heap.IsTupleIter it l i) (hl:s.heap.IsTuple l items) (hx:items[i]? = η)
  (hE:∀h' e,Heap.ExtBut it s.heap h'->(∃o,h'.get? e=ζ o/\o.cls=.type "StopIteration")->E (.ref e) {s with heap:=h'}) :
  wpAny (model prog w) A (Builtin.SmallTypes.nextOf (.ref it)) Q E s:=by
 obtain⟨o,ho,hc,hd⟩:=id hit;obtain⟨ol,vz,_,nl,hdl⟩:=hl;unfold Builtin.SmallTypes.nextOf;refine ahm (aja (name:=Str.ofString "__next__") hit.typeIs ajb
  (ajc ajb hit.typeIs akz ?_ (akA _)))
 show wpAny _ _ (field (.ref it) 0 >>= _) _ _ s;refine ahm (ah9 ho hd (x:=.ref l) rfl ?_);show wpAny _ _ (if(Value.ref l==Value.none)=Θ then _ else _) _ _ s
 rw[if_neg (show ¬((Value.ref l==Value.none)=Θ)from ahO)]
 show wpAny _ _ (field (.ref it) 1 >>= _) _ _ s;refine ahm (ah9 ho hd (x:=.int i 0) rfl ?_);show wpAny _ _ (seqItems? (.ref l) >>= _) _ _ s;refine ahm (aip vz hdl ?_);simp only[aiG,hx];refine ahm (wpAny_rule (ahm (wpAny_setField ho hd (by simp) ?_)))
 show wpAny _ _ (newExc (.type "StopIteration") [] >>= _) _ _ _;refine ahm ?_;simp only[newExc,newTuple];refine ahm (ajN ?_ (by size_fits))
 refine ahm (m:=firstArgMember _ _) (wpAny_of_eq (a:=Value.none) (by first|rfl|(simp only[firstArgMember];rfl)) ?_)
 refine ajN ?_ (by size_fits)
 simp only[raiseNew];refine ahm (wpAny_handled ?_)
 first|rw[show A.in1.handled=η from hh]|rw[hh]
 refine ahm (ahD (wpAny_throw ?_));exact hE _ _ (((Heap.SameBut.update ..).extBut.push _).push _) ⟨_,ahG _ rfl,rfl⟩
theorem Draws.tuple{prog:τ}{w:ω}{A:ψ}(hh:A.handled=η) (it l:Ξ) (hne:l≠it) (items:Array Ψ) :
  abg prog w A it [it,l] items.size (λi v=>items[i]? = ζ v) (λi h=>h.IsTupleIter it l i/\h.IsTuple l items) where
 live:=λ_ _ st=>let⟨o,ho,_⟩:=st.1;⟨o,ho⟩
 frame:=λ_ _ _ st hk=>⟨st.1.at λo e=>hk it (by simp) o e,let⟨o,e,r⟩:=st.2;⟨o,hk l (by simp) o e,r⟩⟩
 item:=λi s Q E hi st hQ=>by
  refine XJ st.1 st.2 (x:=items[i]) (by simp[hi]) λh' aaP hs'=>?_
  exact hQ _ h' s.toks (by simp[hi]) ⟨aaP,let⟨o,e,r⟩:=st.2;⟨o,hs'.extBut _ _ hne e,r⟩⟩ hs'
 done:=λs Q E st hE=>XM hh st.1 st.2 (by simp) hE
structure ZA (z TI TO i1 i2:Ξ) (f1 f2:List Ξ):Prop where
 TIz:TI≠z
 TOz:TO≠z
 TITO:TI≠TO
 TIi1:TI≠i1
 TIi2:TI≠i2
 m1:i1∈f1
 m2:i2∈f2
 z1:z∉f1
 z2:z∉f2
 o1:TO∉f1
 o2:TO∉f2
 x1:i1∉f2
 x2:i2∉f1
theorem NX{z TI TO i1 i2:Ξ}{f1 f2:List Ξ}{n1 n2 k:Nat}{P1 P2:Nat->Ψ->Prop}{S1 S2:Nat->υ->Prop}{a b:Ψ}{Q:Ψ->ι->Prop}(D:ZA z TI TO i1 i2 f1 f2) (D1:abg prog w A i1 f1 n1 P1 S1) (D2:abg prog w A i2 f2 n2 P2 S2)
  (hz:aaW s.heap z TI TO .none) (hTI:aaD s.heap TI (.ref i1) (.ref i2)) (hTO:aaD s.heap TO a b)
  (h1:S1 k s.heap) (h2:S2 k s.heap) (hx:k<n1) (hy:k<n2)
  (hQ:∀x y h' tk,P1 k x->P2 k y->aaW h' z TI TO (rawInt s.heap.objs.size)->aaD h' TO x y->S1 (k+1) h'->S2 (k+1) h'->aaD h' s.heap.objs.size x y ->
   (∀c o,c≠z->c≠TO->c≠i1->c≠i2->s.heap.get? c=ζ o->h'.get? c=ζ o)->Q (.ref s.heap.objs.size) {s with heap:=h',toks:=tk}) :
  wpAny (model prog w) A (Builtin.«zip.__next__» ⟨[.ref z],[]⟩) (λfin s'=>∃v,fin=.done (.ret v)/\Q v s') E s:=by
 have yh:i1≠z:=λe=>D.z1 (e▸D.m1)
 have BN:i2≠z:=λe=>D.z2 (e▸D.m2)
 have BQ:TO≠i1:=λe=>D.o1 (e▸D.m1)
 have JC:TO≠i2:=λe=>D.o2 (e▸D.m2)
 have n12:i1≠i2:=λe=>D.x1 (e▸D.m2)
 show wpAny _ _ (field (.ref z) 2 >>= _) _ _ _;refine ahm (ah9 hz rfl (x:=.bool Γ) rfl ?_);show wpAny _ _ (field (.ref z) 3 >>= _) _ _ _;refine ahm (ah9 hz rfl (x:=.ref TI) rfl ?_);refine ahm (aip hTI rfl ?_);show wpAny _ _ (Builtin.SmallTypes.ownedTupleIsFree (.ref z) >>= _) _ _ _;refine ahm ?_;unfold Builtin.SmallTypes.ownedTupleIsFree;refine ahm (ah9 hz rfl (x:=.none) rfl (ahD ?_));simp only[if_true];refine ahm (wpAny_rule ?_);refine ahm (ah9 hz rfl (x:=.ref TO) rfl ?_);refine ahm (aiI hz (by simp) λh₁ nA hs₁=>?_)
 replace nA:aaW h₁ z TI TO .ellipsis:=nA
 refine ahm ?_;simp only[akB,akC,ai8,List.forIn_nil];refine ahm (ahm (ajd ?_));show wpAny _ _ (Builtin.SmallTypes.nextOf (.ref i1) >>= _) _ _ _;refine ahm (D1.item k _ _ _ hx (D1.frame _ _ _ h1 λc hc o e=>hs₁.extBut _ _ (λq=>D.z1 (q▸hc)) e) λx h₂ tk₂ px Le hs₂=>ahD ?_)
 have vB:aaD h₂ TO a b:=hs₂.extBut _ _ BQ (hs₁.extBut _ _ D.TOz hTO);refine ahm (aip vB rfl ?_);refine ahm (ajO vB λh₃ yQ jj=>?_)
 replace yQ:aaD h₃ TO x b:=yQ
 refine ahm (wpAny_letGo (ahD ?_));refine ahm (ahm (ajd ?_));show wpAny _ _ (Builtin.SmallTypes.nextOf (.ref i2) >>= _) _ _ _;refine ahm (D2.item k _ _ _ hy (D2.frame _ _ _ h2 λc hc o e=>jj.extBut _ _ (λq=>D.o2 (q▸hc)) (hs₂.extBut _ _ (λq=>D.x1 (q▸hc)) (hs₁.extBut _ _ (λq=>D.z2 (q▸hc)) e))) λy h₄ tk₄ py abu nE=>ahD ?_)
 have La:aaD h₄ TO x b:=nE.extBut _ _ JC yQ;refine ahm (aip La rfl ?_);refine ahm (ajO La λh₅ yP nC=>?_)
 replace yP:aaD h₅ TO x y:=yP
 refine ahm (wpAny_letGo (ahD (ahD ?_)));refine ahm (aip yP rfl ?_);refine ahm (wpAny_newTuple ?_);have hsz:h₅.objs.size=s.heap.objs.size:=by rw[nC.1,nE.1,jj.1,hs₂.1,hs₁.1]
 have KJ:aaW h₅ z TI TO .ellipsis:=nC.extBut _ _ D.TOz.symm (nE.extBut _ _ BN.symm (jj.extBut _ _ D.TOz.symm (hs₂.extBut _ _ yh.symm nA)));have aaO:∀c o,c≠z->c≠TO->c≠i1->c≠i2->s.heap.get? c=ζ o->h₅.get? c=ζ o:=λc o c1 c2 c3 c4 e =>
  nC.extBut _ _ c2 (nE.extBut _ _ c4 (jj.extBut _ _ c2 (hs₂.extBut _ _ c3 (hs₁.extBut _ _ c1 e))))
 have abv:S1 (k+1) h₅:=D1.frame _ _ _ Le λc hc o e=>nC.extBut _ _ (λq=>D.o1 (q▸hc)) (nE.extBut _ _ (λq=>D.x2 (q▸hc)) (jj.extBut _ _ (λq=>D.o1 (q▸hc)) e))
 have abt:S2 (k+1) h₅:=D2.frame _ _ _ abu λc hc o e=>nC.extBut _ _ (λq=>D.o2 (q▸hc)) e
 have KO:z<h₅.objs.size:=ahq KJ;show wpAny _ _ (Builtin.SmallTypes.ownedTupleHandOut (.ref z) (.ref h₅.objs.size) >>= _) _ _ _;refine ahm ?_;unfold Builtin.SmallTypes.ownedTupleHandOut;have aau:aaW (h₅.push {cls:=.type "tuple",data:=.seq #[x,y]}) z TI TO .ellipsis:=ahs _ KJ;refine ahm (aiI aau (by simp) λaat Ds KU=>?_)
 replace Ds:aaW aat z TI TO (rawInt h₅.objs.size):=Ds
 refine aiI Ds (by simp) λyJ yK KS=>?_
 replace yK:aaW yJ z TI TO (rawInt h₅.objs.size):=yK
 have up:∀c o,c≠z->h₅.get? c=ζ o->yJ.get? c=ζ o:=λc o c1 e=>KS.extBut _ _ c1 (KU.extBut _ _ c1 (ahs _ e))
 have K9:aaD yJ h₅.objs.size x y:=KS.extBut _ _ (ail KO) (KU.extBut _ _ (ail KO) (ahG _ rfl));rw[hsz]at yK K9;refine ahD ⟨_,rfl,?_⟩;show Q (.ref h₅.objs.size) _;rw[hsz];exact hQ x y yJ _ px py yK (up _ _ D.TOz yP) (D1.frame _ _ _ abv λc hc o e=>up c o (λq=>D.z1 (q▸hc)) e) (D2.frame _ _ _ abt λc hc o e=>up c o (λq=>D.z2 (q▸hc)) e) K9 λc o c1 c2 c3 c4 e=>up c o c1 (aaO c o c1 c2 c3 c4 e)
theorem NY{z TI TO i1 i2:Ξ}{f1 f2:List Ξ}{n1 n2 k:Nat}{P1 P2:Nat->Ψ->Prop}{S1 S2:Nat->υ->Prop}{a b:Ψ}{Q:Fin->ι->Prop}(D:ZA z TI TO i1 i2 f1 f2) (D1:abg prog w A i1 f1 n1 P1 S1) (D2:abg prog w A i2 f2 n2 P2 S2)
  (hz:aaW s.heap z TI TO .none) (hTI:aaD s.heap TI (.ref i1) (.ref i2)) (hTO:aaD s.heap TO a b)
  (h1:S1 k s.heap) (h2:S2 k s.heap) (hend:k=n1\/(k<n1/\k=n2))
  (hE:∀h' tk e,(∀c o,c≠z->c≠TO->c≠i1->c≠i2->s.heap.get? c=ζ o->h'.get? c=ζ o)->(∃o,h'.get? e=ζ o/\o.cls=.type "StopIteration")->E (.ref e) {s with heap:=h',toks:=tk}) :
  wpAny (model prog w) A (Builtin.«zip.__next__» ⟨[.ref z],[]⟩) Q E s:=by
 have yh:i1≠z:=λe=>D.z1 (e▸D.m1)
 have BN:i2≠z:=λe=>D.z2 (e▸D.m2)
 have BQ:TO≠i1:=λe=>D.o1 (e▸D.m1)
 have JC:TO≠i2:=λe=>D.o2 (e▸D.m2)
 show wpAny _ _ (field (.ref z) 2 >>= _) _ _ _;refine ahm (ah9 hz rfl (x:=.bool Γ) rfl ?_);show wpAny _ _ (field (.ref z) 3 >>= _) _ _ _;refine ahm (ah9 hz rfl (x:=.ref TI) rfl ?_);refine ahm (aip hTI rfl ?_);show wpAny _ _ (Builtin.SmallTypes.ownedTupleIsFree (.ref z) >>= _) _ _ _;refine ahm ?_;unfold Builtin.SmallTypes.ownedTupleIsFree;refine ahm (ah9 hz rfl (x:=.none) rfl (ahD ?_));simp only[if_true];refine ahm (wpAny_rule ?_);refine ahm (ah9 hz rfl (x:=.ref TO) rfl ?_);refine ahm (aiI hz (by simp) λh₁ nA hs₁=>?_)
 replace nA:aaW h₁ z TI TO .ellipsis:=nA
 refine ahm ?_;simp only[akB,akC,ai8,List.forIn_nil];refine ahm (ahm (ajd ?_));show wpAny _ _ (Builtin.SmallTypes.nextOf (.ref i1) >>= _) _ _ _;have Lf:S1 k h₁:=D1.frame _ _ _ h1 λc hc o e=>hs₁.extBut _ _ (λq=>D.z1 (q▸hc)) e
 rcases hend with rfl|⟨hlt,rfl⟩
 ·refine ahm (D1.done _ _ _ Lf λh₂ e hs₂ he=>?_)
  obtain⟨oe,pF,hce⟩:=he;have KN:aaW h₂ z TI TO .ellipsis:=hs₂ _ _ yh.symm nA;have Dz:e≠z:=λx=>by subst x;rw[KN]at pF;cases pF;simp at hce
  refine aiI KN (by simp) λh₃ _ jj=>hE h₃ _ e (λc o c1 _ c3 _ x=>jj.extBut _ _ c1 (hs₂ _ _ c3 (hs₁.extBut _ _ c1 x))) ⟨oe,jj.extBut _ _ Dz pF,hce⟩
 ·refine ahm (D1.item k _ _ _ hlt Lf λx h₂ tk₂ px Le hs₂=>ahD ?_)
  have vB:aaD h₂ TO a b:=hs₂.extBut _ _ BQ (hs₁.extBut _ _ D.TOz hTO);refine ahm (aip vB rfl ?_);refine ahm (ajO vB λh₃ yQ jj=>?_)
  refine ahm (wpAny_letGo (ahD ?_));refine ahm (ahm (ajd ?_));show wpAny _ _ (Builtin.SmallTypes.nextOf (.ref i2) >>= _) _ _ _;refine ahm (D2.done _ _ _ (D2.frame _ _ _ h2 λc hc o e=>jj.extBut _ _ (λq=>D.o2 (q▸hc)) (hs₂.extBut _ _ (λq=>D.x1 (q▸hc)) (hs₁.extBut _ _ (λq=>D.z2 (q▸hc)) e))) λh₄ e nE he=>?_)
  obtain⟨oe,pF,hce⟩:=he;have KL:aaW h₄ z TI TO .ellipsis:=nE _ _ BN.symm (jj.extBut _ _ D.TOz.symm (hs₂.extBut _ _ yh.symm nA));have Dz:e≠z:=λx=>by subst x;rw[KL]at pF;cases pF;simp at hce
  refine aiI KL (by simp) λh₅ _ nC=>hE h₅ _ e (λc o c1 c2 c3 c4 x=>nC.extBut _ _ c1 (nE _ _ c4 (jj.extBut _ _ c2 (hs₂.extBut _ _ c3 (hs₁.extBut _ _ c1 x))))) ⟨oe,nC.extBut _ _ Dz pF,hce⟩
theorem SD{z TI TO i1 i2:Ξ}{f1 f2:List Ξ}{n1 n2 k:Nat}{P1 P2:Nat->Ψ->Prop}{S1 S2:Nat->υ->Prop}{a b:Ψ}{Q:Option Ψ->ι->Prop}(D:ZA z TI TO i1 i2 f1 f2) (D1:abg prog w A.in1 i1 f1 n1 P1 S1) (D2:abg prog w A.in1 i2 f2 n2 P2 S2)
  (hz:aaW s.heap z TI TO .none) (hTI:aaD s.heap TI (.ref i1) (.ref i2)) (hTO:aaD s.heap TO a b)
  (h1:S1 k s.heap) (h2:S2 k s.heap) (hx:k<n1) (hy:k<n2)
  (hQ:∀x y h' tk,P1 k x->P2 k y->aaW h' z TI TO (rawInt s.heap.objs.size)->aaD h' TO x y->S1 (k+1) h'->S2 (k+1) h'->aaD h' s.heap.objs.size x y ->
   (∀c o,c≠z->c≠TO->c≠i1->c≠i2->s.heap.get? c=ζ o->h'.get? c=ζ o)->Q (ζ (.ref s.heap.objs.size)) {s with heap:=h',toks:=tk}) :
  wpAny (model prog w) A (pyNext (.ref z)) Q E s:=by
 have hT:s.TypeIs (.ref z) "zip":=⟨_,hz,rfl⟩;unfold pyNext;exact ahm (wpAny_attempt (aja (name:=Str.ofString "__next__") hT aje
  (ajc aje hT F.entry_zip_next
   (NX D D1 D2 hz hTI hTO h1 h2 hx hy λx y h' tk a0 b0 a1 a2 a3 a4 a5 a7=>ahD (hQ x y h' tk a0 b0 a1 a2 a3 a4 a5 a7)) (F.args_zip_next_1 _))))
theorem SE{z TI TO i1 i2:Ξ}{f1 f2:List Ξ}{n1 n2 k:Nat}{P1 P2:Nat->Ψ->Prop}{S1 S2:Nat->υ->Prop}{a b:Ψ}{Q:Option Ψ->ι->Prop}(D:ZA z TI TO i1 i2 f1 f2) (D1:abg prog w A.in1 i1 f1 n1 P1 S1) (D2:abg prog w A.in1 i2 f2 n2 P2 S2)
  (hz:aaW s.heap z TI TO .none) (hTI:aaD s.heap TI (.ref i1) (.ref i2)) (hTO:aaD s.heap TO a b)
  (h1:S1 k s.heap) (h2:S2 k s.heap) (hend:k=n1\/(k<n1/\k=n2))
  (hQ:∀h' tk,(∀c o,c≠z->c≠TO->c≠i1->c≠i2->s.heap.get? c=ζ o->h'.get? c=ζ o)->Q η {s with heap:=h',toks:=tk}):wpAny (model prog w) A (pyNext (.ref z)) Q E s:=by
 have hT:s.TypeIs (.ref z) "zip":=⟨_,hz,rfl⟩;unfold pyNext;refine ahm (wpAny_attempt (aja (name:=Str.ofString "__next__") hT aje
  (ajc aje hT F.entry_zip_next (NY D D1 D2 hz hTI hTO h1 h2 hend λh' tk e hk he=>?_) (F.args_zip_next_1 _))))
 obtain⟨o,ho,hc⟩:=he;refine ahm (wpAny_isInstance (T:="StopIteration") (b:=Θ) ⟨o,ho,hc⟩ isSubtype_stop ?_);exact ahD (hQ _ _ hk)
abbrev wC(h:υ) (l1:Ξ):υ:=h.push {cls:=.type "tuple_iterator",data:=.fields #[.ref l1,.int 0 0]}
abbrev wB(h:υ) (l1 l2:Ξ):υ:=(wC h l1).push {cls:=.type "tuple_iterator",data:=.fields #[.ref l2,.int 0 0]}
abbrev wA(h:υ) (l1 l2:Ξ):υ:=(wB h l1 l2).push {cls:=.type "tuple",data:=.seq #[.ref h.objs.size,.ref (wC h l1).objs.size]}
abbrev wz(h:υ) (l1 l2:Ξ):υ:=(wA h l1 l2).push {cls:=.type "tuple",data:=.seq #[.none,.none]}
abbrev qc(h:υ) (l1 l2:Ξ):υ:=(wz h l1 l2).push {cls:=.type "zip",data:=.fields #[.none,.bool Γ,.bool Γ,.ref (wB h l1 l2).objs.size,.ref (wA h l1 l2).objs.size]}
theorem afn{h:υ}{a:Ξ}{xs:Array Ψ}(x:h.IsTuple a xs) (o:Obj):(h.push o).IsTuple a xs:=let⟨q,e,r⟩:=x;⟨q,ahs _ e,r⟩
theorem YW(l1 l2:Ξ) (xs ys:Array Ψ) :
  Meets (Builtin.«zip.__new__» ⟨[.type "zip",.ref l1,.ref l2],[]⟩) (λ_ R s=>s.heap.IsTuple l1 xs/\s.heap.IsTuple l2 ys /\
   R (.ok (.ret (.ref (wz s.heap l1 l2).objs.size))) {s with heap:=qc s.heap l1 l2}) :=
 .of_wp λprog w A R s h=>by
  obtain⟨hp,g,d,tk,os⟩:=s;obtain⟨hl1,hl2,h⟩:=h;have hsub:=sub_zip;have hL1:Heap.IsTuple (Shared.heap ⟨hp,g,d,tk,os⟩) l1 xs:=hl1;have hL2:Heap.IsTuple (Shared.heap ⟨hp.push {cls:=.type "tuple_iterator",data:=.fields #[.ref l1,.int 0 0]},g,d,tk,os⟩) l2 ys:=afn hl2 _
  wp_walk using wpAny_pyIter_tuple hL1,wpAny_pyIter_tuple hL2
  exact⟨_,rfl,h⟩
theorem adV{l1 l2:Ξ}{xs ys:Array Ψ}{Q:Ψ->ι->Prop}(hl1:s.heap.IsTuple l1 xs) (hl2:s.heap.IsTuple l2 ys)
  (h:∀h',aaW h' (s.heap.objs.size+4) (s.heap.objs.size+2) (s.heap.objs.size+3) .none->aaD h' (s.heap.objs.size+2) (.ref s.heap.objs.size) (.ref (s.heap.objs.size+1)) ->
   aaD h' (s.heap.objs.size+3) .none .none->h'.IsTupleIter s.heap.objs.size l1 0->h'.IsTupleIter (s.heap.objs.size+1) l2 0 ->
   (∀c o,s.heap.get? c=ζ o->h'.get? c=ζ o)->Q (.ref (s.heap.objs.size+4)) {s with heap:=h'}) :
  wpAny (model prog w) A (call (.type "zip") [.ref l1,.ref l2]) Q E s:=by
 refine callType_new F.called_zip (by decide) (F.typeCall_zip_2 _ _) (F.newCall_zip_2 _ _) (λobj=>F.args_object_init_3 obj _ _) F.entry_zip_new
  (YW l1 l2 xs ys) ⟨hl1,hl2,?_⟩
 have z1:(wC s.heap l1).objs.size=s.heap.objs.size+1:=aif ..;have z2:(wB s.heap l1 l2).objs.size=s.heap.objs.size+2:=by rw[aif,z1]
 have z3:(wA s.heap l1 l2).objs.size=s.heap.objs.size+3:=by rw[aif,z2]
 have z4:(wz s.heap l1 l2).objs.size=s.heap.objs.size+4:=by rw[aif,z3]
 have g5:(qc s.heap l1 l2).get? (wz s.heap l1 l2).objs.size=ζ _:=ahG _ rfl;have g4:(qc s.heap l1 l2).get? (wA s.heap l1 l2).objs.size=ζ _:=ahs _ (ahG _ rfl);have g3:(qc s.heap l1 l2).get? (wB s.heap l1 l2).objs.size=ζ _:=ahs _ (ahs _ (ahG _ rfl));have g2:(qc s.heap l1 l2).get? (wC s.heap l1).objs.size=ζ _:=ahs _ (ahs _ (ahs _ (ahG _ rfl)));have g1:(qc s.heap l1 l2).get? s.heap.objs.size=ζ _:=ahs _ (ahs _ (ahs _ (ahs _ (ahG _ rfl))));show _/\_;rw[z2,z3,z4]at g5;rw[z1,z2]at g3;rw[z3]at g4;rw[z1]at g2;rw[z4];exact⟨⟨_,g5,rfl⟩,h _ g5 g3 g4 ⟨_,g1,rfl,rfl⟩ ⟨_,g2,rfl,rfl⟩ λc o x =>
  ahs _ (ahs _ (ahs _ (ahs _ (ahs _ x))))⟩
open AutoSeq1 (wpAny_loadPart')
end
end PySem
namespace L2
open PySem PySem.Spec PyProof.Rows
section
variable {X:Cx}{pins:List (Ξ×Obj)}{σ:St}{H:Hp}{s:ι}{K:Δ}
theorem abO{a b:Ξ}{xs:List V}(I:Inv X pins σ H s) (f:gT X pins H b) (q:eu X.K H a xs):a≠b:=by
 rintro rfl
 rcases q with(q|⟨o,q⟩)|⟨o,its,n,q,_⟩
 ·rw[f.1]at q;cases q
 ·rw[f.1]at q;cases q
 ·have e:=I.ok.mod.jH a o q
  rcases f.2.2.2.1 with z|z
  ·exact I.ok.iT _ _ e z
  ·exact absurd (ahv (ahq e) (ahB I.ok.gk z)) (ah0 _)
theorem abP{a b:Ξ}{xs:List V}(I:Inv X pins σ H s) (f:gT X pins H b) (q:bW X.K H a xs):a≠b:=by
 rintro rfl
 rcases q with(q|⟨o,q⟩)|⟨o,its,n,q,_⟩
 ·rw[f.1]at q;cases q
 ·rw[f.1]at q;cases q
 ·have e:=I.ok.mod.jH a o q
  rcases f.2.2.2.1 with z|z
  ·exact I.ok.iT _ _ e z
  ·exact absurd (ahv (ahq e) (ahB I.ok.gk z)) (ah0 _)
theorem Inv.Py{h':υ}{t':Nat}{ch:List Ξ}{T:Ξ}{vs:List V}{us:List Ψ}(I:Inv X pins σ H s) (hf:∀b∈ch,gT X pins H b) (k:∀b o,b∉ch->s.heap.get? b=ζ o->h'.get? b=ζ o)
  (hT:s.heap.objs.size<=T) (th:∀b∈ch,∃o,h'.get? b=ζ o) (rv:Vals vs us) (hz:vs.length<=Ω) (tup:mE h' T us.toArray):Inv X pins σ (upd H T (.tup vs)) {s with heap:=h',toks:=t'}:=by
 have hn:H T=η:=I.hok.fresh hT;have jE:∀b u,H b=ζ u->b∉ch:=λb u e z=>by rw[(hf b z).1]at e;cases e
 refine I.step (g':=s.gens) (d':=s.drawn) (ch:=ch) (λb hb=>?_) (λb o _ _ hc e _=>k b o hc e) (λb o _ _ hc e _=>⟨o.slots,k b o hc e⟩) (λb o _ e n=>?_)
  (λb o hc e=>⟨o,k b o hc e⟩) (λb xs e=>by rw[bA (dG e hn)];exact e) (λb o u e=>by rw[bA (dG e hn)];exact e) (λb ps e=>⟨#[],by rw[bA (dG e hn),e];simp⟩) (λm hm=>?_) (λb u e=>?_) I.bare
 ·obtain⟨f0,f1,f2,f3,f4,f5⟩:=hf b hb;exact⟨f3,f1,f4,f5⟩
 ·rw[bA (ahx (ahv (ahq e) hT))];exact n
 ·obtain⟨o,es,ep,ho,r⟩:=hm;exact⟨o,es,ep,k _ o (λz=>(hf _ z).2.1 rfl) ho,r⟩
 ·by_cases hb:b=T
  ·subst hb;rw[gI]at e;cases e;exact⟨hz,us,rv,tup⟩
  ·rw[bA hb]at e;refine(I.hok b u e).stay (λc v hc q=>k c v ?_ q) (λc q=>by rw[bA (dG q hn)];exact q) λc xs q=>by rw[bA (dG q hn)];exact q
   rcases hc with z|z
   ·rw[z];exact jE b u e
   ·exact jE c _ z
theorem Inv.Pz{h':υ}{t':Nat}{ch:List Ξ}(I:Inv X pins σ H s) (hf:∀b∈ch,gT X pins H b) (k:∀b o,b∉ch->s.heap.get? b=ζ o->h'.get? b=ζ o):Inv X pins σ H {s with heap:=h',toks:=t'}:=by
 have jE:∀b u,H b=ζ u->b∉ch:=λb u e z=>by rw[(hf b z).1]at e;cases e
 refine I.step (g':=s.gens) (d':=s.drawn) (ch:=ch) (λb hb=>?_) (λb o _ _ hc e _=>k b o hc e) (λb o _ _ hc e _=>⟨o.slots,k b o hc e⟩) (λb o _ e n=>n)
  (λb o hc e=>⟨o,k b o hc e⟩) (λb xs e=>e) (λb o u e=>e) (λb ps e=>⟨#[],by rw[e];simp⟩) (λm hm=>?_) (λb u e=>?_) I.bare
 ·obtain⟨f0,f1,f2,f3,f4,f5⟩:=hf b hb;exact⟨f3,f1,f4,f5⟩
 ·obtain⟨o,es,ep,ho,r⟩:=hm;exact⟨o,es,ep,k _ o (λz=>(hf _ z).2.1 rfl) ho,r⟩
 ·refine(I.hok b u e).stay (λc v hc q=>k c v ?_ q) (λc q=>q) λc xs q=>q
  rcases hc with z|z
  ·rw[z];exact jE b u e
  ·exact jE c _ z
end
structure Gq (P:τ) (w:ω) (K:Δ) (Sq:Hp->Ξ->List V->Prop) (oi:υ->Ξ->Ξ->Nat->Prop) (z8:υ->Ξ->Array Ψ->Prop):Prop where
 get:∀{X:Cx}{pins:List (Ξ×Obj)}{σ:St}{H:Hp}{s:ι}{a:Ξ}{xs:List V},X.K=K->Inv X pins σ H s->Sq H a xs->∃its:List Ψ,Vals xs its/\z8 s.heap a its.toArray/\xs.length<=Ω
 inj:∀{X:Cx}{pins:List (Ξ×Obj)}{σ:St}{H:Hp}{s:ι}{a:Ξ}{xs ys:List V},X.K=K->Inv X pins σ H s->Sq H a xs->Sq H a ys->xs=ys
 ne:∀{X:Cx}{pins:List (Ξ×Obj)}{σ:St}{H:Hp}{s:ι}{a b:Ξ}{xs:List V},X.K=K->Inv X pins σ H s->gT X pins H b->Sq H a xs->a≠b
 sI:∀(A:ψ) (it l:Ξ) (items:Array Ψ),A.handled=η->l≠it->abg P w A it [it,l] items.size (λi v=>items[i]? = ζ v) (λi h=>oi h it l i/\z8 h l items)
 obj:∀{h:υ}{it l:Ξ}{i:Nat},oi h it l i->∃o,h.get? it=ζ o/\∀v,o.data≠.cell v
 at':∀{h h':υ}{it l:Ξ}{i:Nat},oi h it l i->(∀o,h.get? it=ζ o->h'.get? it=ζ o)->oi h' it l i
theorem Ro{P:τ}{w:ω}{K:Δ}:Gq P w K (eu K) (λh it l i=>h.IsTupleIter it l i) (λh a xs=>h.IsTuple a xs) where
 get:=λe I q=>by subst e;obtain⟨its,r,p,z⟩:=I.tuple q;exact⟨its,r,p,z⟩
 inj:=λe I q q'=>by subst e;exact I.PF q q'
 ne:=λe I f q=>by subst e;exact abO I f q
 sI:=λA it l items hh hne=>Draws.tuple hh it l hne items
 obj:=λst=>by obtain⟨o,e,c,d⟩:=st;exact⟨o,e,λv z=>by rw[d]at z;cases z⟩
 at':=λst k=>st.at k
theorem Rp{P:τ}{w:ω}{K:Δ}:Gq P w K (bW K) (λh it l i=>h.IsListIter it l i) (λh a xs=>h.IsList a xs) where
 get:=λe I q=>by subst e;obtain⟨its,r,p,z⟩:=I.list q;exact⟨its,r,p.isList,z⟩
 inj:=λe I q q'=>by subst e;exact I.Kc q q'
 ne:=λe I f q=>by subst e;exact abP I f q
 sI:=λA it l items hh hne=>Draws.list hh it l hne items
 obj:=λst=>by obtain⟨o,e,c,d⟩:=st;exact⟨o,e,λv z=>by rw[d]at z;cases z⟩
 at':=λst k=>st.at k
def z7(Sq:Hp->Ξ->List V->Prop) (a1 a2:Ξ):It :=
  ⟨λi H=>∃xs ys x y,Sq H a1 xs/\Sq H a2 ys/\xs[i]? = ζ x/\ys[i]? = ζ y,
   λi H v H'=>∃t x y,v=.ref t/\H t=η/\H'=upd H t (.tup [x,y])/\∀xs ys,Sq H a1 xs->Sq H a2 ys->xs[i]? = ζ x/\ys[i]? = ζ y,
   λi H=>∃xs ys,Sq H a1 xs/\Sq H a2 ys/\(i=xs.length\/(i<xs.length/\i=ys.length))⟩
theorem AQ{xs:List V}{us:List Ψ}{i:Nat}{u:Ψ}(r:Vals xs us) (h:us.toArray[i]? = ζ u):∃x,xs[i]? = ζ x/\RelV x u:=by
 have h':us[i]? = ζ u:=by simpa using h
 have hi:i<xs.length:=by rw[r.length];exact(ahz.mp h').1
 obtain⟨u',e,q⟩:=r.get (i:=i) (x:=xs[i]) (ahI hi);rw[h']at e;cases e;exact⟨xs[i],ahI hi,q⟩
theorem Hs{P:τ}{w:ω}{K:Δ}{Sq:Hp->Ξ->List V->Prop}{oi:υ->Ξ->Ξ->Nat->Prop}{z8:υ->Ξ->Array Ψ->Prop}(S:Gq P w K Sq oi z8) {es:List ο}{k:Nat}{pt:Pos}(a1 a2 z TI TO i1 i2:Ξ)
  (n1:TI≠z) (n2:TO≠z) (n3:TI≠TO) (n4:TI≠i1) (n5:TI≠i2) (n6:TO≠i1) (n7:TO≠i2) (n8:i1≠z) (n9:i2≠z) (rV:i1≠i2) :
  Turn P w K (.Tuple es k pt) (z7 Sq a1 a2) [z,TI,TO,i1,i2] z (λi h=>aaW h z TI TO .none/\aaD h TI (.ref i1) (.ref i2)/\(∃a b,aaD h TO a b)/\oi h i1 a1 i/\oi h i2 a2 i) where
 mem:=by simp
 obj:=λi h st b hb=>by
  obtain⟨hz,hTI,⟨a,b',hTO⟩,h1,h2⟩:=st;simp only[aho,ahJ,or_false]at hb
  rcases hb with rfl|rfl|rfl|rfl|rfl
  ·exact⟨_,hz,λv q=>nomatch q⟩
  ·exact⟨_,hTI,λv q=>nomatch q⟩
  ·exact⟨_,hTO,λv q=>nomatch q⟩
  ·exact S.obj h1
  ·exact S.obj h2
 keep:=λi h h' st kp=>by
  obtain⟨hz,hTI,⟨a,b,hTO⟩,h1,h2⟩:=st;exact⟨kp _ (by simp) _ hz,kp _ (by simp) _ hTI,⟨a,b,kp _ (by simp) _ hTO⟩,S.at' h1 λo e=>kp _ (by simp) o e,S.at' h2 λo e=>kp _ (by simp) o e⟩
 item:=by
  intro X hP hw hK hc i pins s σ H E I hf st hg;subst hP hw;obtain⟨xs,ys,x,y,q1,q2,hx,hy⟩:=hg;obtain⟨hz,hTI,⟨a,b,hTO⟩,h1,h2⟩:=st;obtain⟨us,r1,p1,l1⟩:=S.get hK I q1;obtain⟨vs,r2,p2,l2⟩:=S.get hK I q2;have ne1:∀{b:Ξ},b∈[z,TI,TO,i1,i2]->a1≠b:=λhb=>S.ne hK I (hf _ hb) q1
  have ne2:∀{b:Ξ},b∈[z,TI,TO,i1,i2]->a2≠b:=λhb=>S.ne hK I (hf _ hb) q2
  have hx':i<us.toArray.size:=by have:=(ahz.mp hx).1;have:=r1.length;simp;omega
  have hy':i<vs.toArray.size:=by have:=(ahz.mp hy).1;have:=r2.length;simp;omega
  have D:ZA z TI TO i1 i2 [i1,a1] [i2,a2]:=⟨n1,n2,n3,n4,n5,by simp,by simp,by simp only[aho,ahJ,or_false,not_or];exact⟨n8.symm,(ne1 (by simp)).symm⟩,by simp only[aho,ahJ,or_false,not_or];exact⟨n9.symm,(ne2 (by simp)).symm⟩,
   by simp only[aho,ahJ,or_false,not_or];exact⟨n6,(ne1 (by simp)).symm⟩,by simp only[aho,ahJ,or_false,not_or];exact⟨n7,(ne2 (by simp)).symm⟩,
   by simp only[aho,ahJ,or_false,not_or];exact⟨rV,(ne2 (by simp)).symm⟩,by simp only[aho,ahJ,or_false,not_or];exact⟨rV.symm,(ne1 (by simp)).symm⟩⟩
  refine SD D (S.sI X.A.in1 i1 a1 us.toArray (I.ok.hd hc) (ne1 (by simp))) (S.sI X.A.in1 i2 a2 vs.toArray (I.ok.hd hc) (ne2 (by simp))) hz hTI hTO ⟨h1,p1⟩ ⟨h2,p2⟩ hx' hy' λu v h' tk pu pv hz' Lb s1 s2 hT kp=>?_
  refine⟨_,rfl,?_⟩;refine wpAny_letOwnedTupleGo_zip (s:={s with heap:=h',toks:=tk}) hz' λh'' KP k8=>?_
  obtain⟨x',ex,rx⟩:=AQ r1 pu;obtain⟨y',ey,ry⟩:=AQ r2 pv;have lt:∀{c:Ξ}{o:Obj},s.heap.get? c=ζ o->c≠s.heap.objs.size:=λe=>ahx (ahq e)
  have vm:∀c o,c∉[z,TO,i1,i2]->s.heap.get? c=ζ o->h''.get? c=ζ o:=λc o hcn e=>by
   simp only[aho,ahJ,or_false,not_or]at hcn;exact k8.extBut _ _ hcn.1 (kp c o hcn.1 hcn.2.1 hcn.2.2.1 hcn.2.2.2 e)
  have hT2:mE h'' s.heap.objs.size [u,v].toArray:=⟨_,k8.extBut _ _ (lt hz).symm hT,rfl,⟨_,rfl⟩,rfl⟩;have I2:Inv X pins σ (upd H s.heap.objs.size (.tup [x',y'])) {s with heap:=h'',toks:=tk}:=by
   refine I.Py (ch:=[z,TO,i1,i2]) (us:=[u,v]) (λb hb=>hf b ?_) vm (ahn _) (λb hb=>?_) (.cons rx (.cons ry .nil)) (by show 2<=Ω;decide) hT2
   ·simp only[aho,ahJ,or_false]at hb ⊢
    rcases hb with rfl|rfl|rfl|rfl<;>simp
   ·simp only[aho,ahJ,or_false]at hb
    rcases hb with rfl|rfl|rfl|rfl
    ·exact⟨_,KP⟩
    ·exact⟨_,k8.extBut _ _ n2 Lb⟩
    ·obtain⟨o,e,_⟩:=S.obj s1.1;exact⟨_,k8.extBut _ _ n8 e⟩
    ·obtain⟨o,e,_⟩:=S.obj s2.1;exact⟨_,k8.extBut _ _ n9 e⟩
  refine⟨.ref s.heap.objs.size,_,I2,rfl,⟨_,x',y',rfl,I.hok.fresh (ahn _),rfl,λxs' ys' w1 w2=>?_⟩,⟨KP,?_,⟨_,_,k8.extBut _ _ n2 Lb⟩,S.at' s1.1 λo e=>k8.extBut _ _ n8 e,S.at' s2.1 λo e=>k8.extBut _ _ n9 e⟩,λb hb=>?_⟩
  ·rw[S.inj hK I w1 q1,S.inj hK I w2 q2];exact⟨ex,ey⟩
  ·exact k8.extBut _ _ n1 (kp _ _ n1 n3 n4 n5 hTI)
  ·have hb':b≠s.heap.objs.size:=by
    simp only[aho,ahJ,or_false]at hb
    rcases hb with rfl|rfl|rfl|rfl|rfl
    ·exact lt hz
    ·exact lt hTI
    ·exact lt hTO
    ·obtain⟨o,e,_⟩:=S.obj h1;exact lt e
    ·obtain⟨o,e,_⟩:=S.obj h2;exact lt e
   rw[bA hb'];exact(hf b hb).1
 done:=by
  intro X hP hw hK hc i pins s σ H E I hf st hg;subst hP hw;obtain⟨xs,ys,q1,q2,hend⟩:=hg;obtain⟨hz,hTI,⟨a,b,hTO⟩,h1,h2⟩:=st;obtain⟨us,r1,p1,l1⟩:=S.get hK I q1;obtain⟨vs,r2,p2,l2⟩:=S.get hK I q2;have ne1:∀{b:Ξ},b∈[z,TI,TO,i1,i2]->a1≠b:=λhb=>S.ne hK I (hf _ hb) q1
  have ne2:∀{b:Ξ},b∈[z,TI,TO,i1,i2]->a2≠b:=λhb=>S.ne hK I (hf _ hb) q2
  have D:ZA z TI TO i1 i2 [i1,a1] [i2,a2]:=⟨n1,n2,n3,n4,n5,by simp,by simp,by simp only[aho,ahJ,or_false,not_or];exact⟨n8.symm,(ne1 (by simp)).symm⟩,by simp only[aho,ahJ,or_false,not_or];exact⟨n9.symm,(ne2 (by simp)).symm⟩,
   by simp only[aho,ahJ,or_false,not_or];exact⟨n6,(ne1 (by simp)).symm⟩,by simp only[aho,ahJ,or_false,not_or];exact⟨n7,(ne2 (by simp)).symm⟩,
   by simp only[aho,ahJ,or_false,not_or];exact⟨rV,(ne2 (by simp)).symm⟩,by simp only[aho,ahJ,or_false,not_or];exact⟨rV.symm,(ne1 (by simp)).symm⟩⟩
  have e1:=r1.length;have e2:=r2.length;refine SE D (S.sI X.A.in1 i1 a1 us.toArray (I.ok.hd hc) (ne1 (by simp))) (S.sI X.A.in1 i2 a2 vs.toArray (I.ok.hd hc) (ne2 (by simp))) hz hTI hTO (k:=i) ⟨h1,p1⟩ ⟨h2,p2⟩ (by simp only[ahE];omega) λh' tk kp=>?_
  refine⟨rfl,I.Pz (ch:=[z,TO,i1,i2]) (λb hb=>hf b ?_) λc o hcn e=>?_⟩
  ·simp only[aho,ahJ,or_false]at hb ⊢
   rcases hb with rfl|rfl|rfl|rfl<;>simp
  ·simp only[aho,ahJ,or_false,not_or]at hcn;exact kp c o hcn.1 hcn.2.1 hcn.2.2.1 hcn.2.2.2 e
 self:=λA i s Q E st h=>ajP st.1 h
section
variable {X:Cx}{es':List ο}{kt:Nat}{pt:Pos}
def KH(Sq:Hp->Ξ->List V->Prop) (ta:TA):TI:=λσ H R=>ta σ H λvs H1=>∃a b,vs=[.ref a,.ref b]/\(∃xs ys,Sq H1 a xs/\Sq H1 b ys)/\R (z7 Sq a b) H1
theorem GD{pins:List (Ξ×Obj)}{σ:St}{H:Hp}{s:ι}{n:Nat}(I:Inv X pins σ H s) (hn:s.heap.objs.size=n):∀b∈[n+4,n+2,n+3,n,n+1],gT X pins H b:=λb hb=>by
 have:s.heap.objs.size<=b:=by
  simp only[aho,ahJ,or_false]at hb
  rcases hb with rfl|rfl|rfl|rfl|rfl<;>rw[hn]
  ·exact ajf _ _
  ·exact ajf _ _
  ·exact ajf _ _
  ·exact ahn _
  ·exact ajf _ _
 exact I.yV this (I.hok.fresh this)
theorem Ud{a b:ο}{ta:TA}{p pos:Pos}(hg:Gl X "zip") (hm:X.mg "zip"=η) (ha:PA X [a,b] ta) (hs:μ [a,b] X.env=[(Γ,eval a X.env),(Γ,eval b X.env)]:=by rfl) (hs2:μ [b] X.env=[(Γ,eval b X.env)]:=by rfl) :
  PI X (.Tuple es' kt pt) (.Call (.Name "zip" p) [a,b] [] pos) (KH (eu X.K) ta):=by
 intro pins s σ H R I h;refine Call_ (o8 I hg hm boot_zip (aiU (bE (ha pos pins s σ H _ I h) λus s1 ⟨vs,H1,I1,r1,q1⟩=>?_) (by rw[hs,hs2]) (by rw[hs2];rfl)))
 obtain⟨a1,a2,e,⟨xs,ys,q1,q2⟩,q⟩:=q1;subst e;cases r1 with
 |cons r rr =>
  cases rr with
  |cons r' rr =>
   cases rr;cases r;cases r';obtain⟨us,ru,pu,lu⟩:=I1.tuple q1;obtain⟨vs,rv,pv,lv⟩:=I1.tuple q2;refine adV pu pv λh' hz hTI hTO t1 t2 kp=>ajP hz ?_
   generalize hn:s1.heap.objs.size=n at hz hTI hTO t1 t2
   have ne:∀{i j:Nat},i≠j->n+i≠n+j:=λh e=>h (ajg e)
   have kQ:∀{i:Nat},i≠0->n+i≠n:=λh e=>h (ajg (e.trans (aiJ n).symm))
   refine⟨n+4,_,_,_,H1,rfl,I1.kept (t':=s1.toks) kp,Hs Ro a1 a2 (n+4) (n+2) (n+3) n (n+1) (ne (by decide)) (ne (by decide)) (ne (by decide)) (kQ (by decide)) (ne (by decide)) (kQ (by decide)) (ne (by decide)) (kQ (by decide)).symm (ne (by decide)) (kQ (by decide)).symm,⟨hz,hTI,⟨_,_,hTO⟩,t1,t2⟩,GD I1 hn,q⟩
theorem Ue{a b:ο}{ta:TA}{p pos:Pos}(hg:Gl X "zip") (hm:X.mg "zip"=η) (ha:PA X [a,b] ta) (hs:μ [a,b] X.env=[(Γ,eval a X.env),(Γ,eval b X.env)]:=by rfl) (hs2:μ [b] X.env=[(Γ,eval b X.env)]:=by rfl) :
  PI X (.Tuple es' kt pt) (.Call (.Name "zip" p) [a,b] [] pos) (KH (bW X.K) ta):=by
 intro pins s σ H R I h;refine Call_ (o8 I hg hm boot_zip (aiU (bE (ha pos pins s σ H _ I h) λus s1 ⟨vs,H1,I1,r1,q1⟩=>?_) (by rw[hs,hs2]) (by rw[hs2];rfl)))
 obtain⟨a1,a2,e,⟨xs,ys,q1,q2⟩,q⟩:=q1;subst e;cases r1 with
 |cons r rr =>
  cases rr with
  |cons r' rr =>
   cases rr;cases r;cases r';obtain⟨us,ru,pu,lu⟩:=I1.list q1;obtain⟨vs,rv,pv,lv⟩:=I1.list q2;refine call_zip_2 pu.isList pv.isList λh' hz hTI hTO t1 t2 _ kp=>ajP hz ?_
   generalize hn:s1.heap.objs.size=n at hz hTI hTO t1 t2
   have ne:∀{i j:Nat},i≠j->n+i≠n+j:=λh e=>h (ajg e)
   have kQ:∀{i:Nat},i≠0->n+i≠n:=λh e=>h (ajg (e.trans (aiJ n).symm))
   refine⟨n+4,_,_,_,H1,rfl,I1.kept (t':=s1.toks) kp,Hs Rp a1 a2 (n+4) (n+2) (n+3) n (n+1) (ne (by decide)) (ne (by decide)) (ne (by decide)) (kQ (by decide)) (ne (by decide)) (kQ (by decide)) (ne (by decide)) (kQ (by decide)).symm (ne (by decide)) (kQ (by decide)).symm,⟨hz,hTI,⟨_,_,hTO⟩,t1,t2⟩,GD I1 hn,q⟩
end
section
variable {X:Cx}
theorem Hv{A:ψ}{bs:List Bool}{its:List Ψ}(r:Vals (bs.map V.bl) its):TruthOf X.prog X.w A (λi v=>its.toArray[i]? = ζ v) (λi=>bs.getD i Γ):=by
 intro i v s Q E hP hQ;obtain⟨x,ex,rx⟩:=AQ r hP;rw[ahS]at ex;cases e:bs[i]? with
 |none=>rw[e]at ex;cases ex
 |some b =>
  rw[e]at ex;cases ex;cases rx;refine aiC ?_;have:bs.getD i Γ=b:=by rw[aiK,e];rfl
  have hQ:Q (bs.getD i Γ) s:=hQ;rw[this]at hQ;exact hQ
theorem range_all(bs:List Bool):((ε bs.length).all λi=>bs.getD i Γ)=bs.all id:=by
 rw[aie,ahQ,ahQ]
 constructor
 ·intro h b hb;obtain⟨i,hi,e⟩:=aiq.mp hb;have:=h i (ahH.mpr hi);rw[aiK,ahI hi]at this;rw[<-e];exact this
 ·intro h i hi;have hi:=ahH.mp hi;rw[aiK,ahI hi];exact h _ (aih hi)
theorem range_any(bs:List Bool):((ε bs.length).any λi=>bs.getD i Γ)=bs.any id:=by
 rw[aie,ajQ,ajQ]
 constructor
 ·rintro ⟨i,hi,h⟩
  have hi:=ahH.mp hi;rw[aiK,ahI hi]at h;exact⟨_,aih hi,h⟩
 ·rintro ⟨b,hb,h⟩
  obtain⟨i,hi,e⟩:=aiq.mp hb;refine⟨i,ahH.mpr hi,?_⟩;rw[aiK,ahI hi,e];exact h
theorem MZ{pins:List (Ξ×Obj)}{σ:St}{H:Hp}{s:ι}{h':υ}{tk:Nat}{o:Obj}(I:Inv X pins σ H s) (kp:∀b q,b∉[s.heap.objs.size]->(s.heap.push o).get? b=ζ q->h'.get? b=ζ q):Inv X pins σ H {s with heap:=h',toks:=tk} :=
 I.kept λb q e=>kp b q (by simp only[aho,ahJ,or_false];exact ahx (ahq e)) (ahs _ e)
theorem ad6(hc:X.calm=Θ):eF X (.builtin "all") (λxs H Q=>∃(p:Ξ) (bs:List Bool),xs=[.ref p]/\bW X.K H p (bs.map V.bl)/\Q (.bl (bs.all id)) H):=by
 intro pins s σ H xs us Q I r h;obtain⟨p,bs,rfl,hp,q⟩:=h;obtain⟨u,rfl,ru⟩:=vals1 r;cases ru;obtain⟨its,rv,pl,hz⟩:=I.list hp;have hL:=pl.isList;have Dv:p≠s.heap.objs.size:=by obtain⟨o,e,_⟩:=hL;exact ahx (ahq e)
 refine call_all_walk (ajC hL ⟨s.heap.objs.size,_,_,its.toArray.size,_,_,λi=>bs.getD i Γ,rfl,Walks.list (A:=X.A.in1) (I.ok.hd hc) s.heap.objs.size p Dv its.toArray,⟨⟨_,ahG _ rfl,rfl,rfl⟩,hL.push _⟩,Hv rv,λh' tk kp=>?_⟩)
 have hl:=rv.length;rw[ahr]at hl;have I1:Inv X pins σ H {s with heap:=h',toks:=tk}:=MZ I kp
 refine⟨.bl (bs.all id),H,I1,?_,q⟩;show Value.bool _=Value.bool _;rw[ahE,<-hl,range_all]
theorem ad5(hc:X.calm=Θ):eF X (.builtin "any") (λxs H Q=>∃(p:Ξ) (bs:List Bool),xs=[.ref p]/\bW X.K H p (bs.map V.bl)/\Q (.bl (bs.any id)) H):=by
 intro pins s σ H xs us Q I r h;obtain⟨p,bs,rfl,hp,q⟩:=h;obtain⟨u,rfl,ru⟩:=vals1 r;cases ru;obtain⟨its,rv,pl,hz⟩:=I.list hp;have hL:=pl.isList;have Dv:p≠s.heap.objs.size:=by obtain⟨o,e,_⟩:=hL;exact ahx (ahq e)
 refine call_any_walk (ajC hL ⟨s.heap.objs.size,_,_,its.toArray.size,_,_,λi=>bs.getD i Γ,rfl,Walks.list (A:=X.A.in1) (I.ok.hd hc) s.heap.objs.size p Dv its.toArray,⟨⟨_,ahG _ rfl,rfl,rfl⟩,hL.push _⟩,Hv rv,λh' tk kp=>?_⟩)
 have hl:=rv.length;rw[ahr]at hl;have I1:Inv X pins σ H {s with heap:=h',toks:=tk}:=MZ I kp
 refine⟨.bl (bs.any id),H,I1,?_,q⟩;show Value.bool _=Value.bool _;rw[ahE,<-hl,range_any]
def tyName(H:Hp):V->String->Prop
 |.aH,n=>n="NoneType"
 |.bl _,n=>n="bool"
 |.int _,n=>n="int"
 |.str _,n=>n="str"
 |.ref a,n=>(n="list"/\((∃xs,H a=ζ (.lst xs))\/∃o xs,H a=ζ (.cO o (.lst xs))))\/(n="tuple"/\∃xs,H a=ζ (.tup xs))\/(n="dict"/\((∃k,H a=ζ (.dK k))\/∃k,H a=ζ (.dT k)))
 |_,_=>False
theorem Pp{K:Δ}{H:Hp}{x:V}{n:String}(h:tyName H x n):iY K H x (.type n):=by
 cases x with
 |aH=>cases(show n="NoneType" from h);exact .aH
 |bl b=>cases(show n="bool" from h);exact .bl b
 |int b=>cases(show n="int" from h);exact .int b
 |str b=>cases(show n="str" from h);exact .str b
 |ref a =>
  rcases h with⟨rfl,⟨xs,e⟩|⟨o,xs,e⟩⟩|⟨rfl,xs,e⟩|⟨rfl,⟨k,e⟩|⟨k,e⟩⟩
  ·exact .lst e
  ·exact .cO e
  ·exact .tup e
  ·exact .dK e
  ·exact .dT e
 |_=>exact False.elim h
def uG(n T:String):Bool:=n==T||(n=="bool"&&T=="int")
def Ze(n T:String):Option Bool:=if(Value.type n==Value.type T)=Θ then ζ Θ else if PySem.W.kitMeta T=Θ then(fastBuiltinMro n).map (·.contains (Value.type T))else η
theorem Kg{K:Δ}{n T:String}(hn:n∈["NoneType","bool","int","str","list","tuple","dict"]) (hT:T∈["bool","int","str","list","tuple","dict"]):PySem.W.kitOne K (.type n) (.type T)=ζ (uG n T):=by
 show Ze n T=ζ (uG n T);simp only[aho,ahJ,or_false]at hn hT
 rcases hn with rfl|rfl|rfl|rfl|rfl|rfl|rfl<;>rcases hT with rfl|rfl|rfl|rfl|rfl|rfl<;>decide +kernel
theorem Pq{H:Hp}{x:V}{n:String}(h:tyName H x n):n∈["NoneType","bool","int","str","list","tuple","dict"]:=by
 cases x with
 |aH=>cases(show n="NoneType" from h);simp
 |bl b=>cases(show n="bool" from h);simp
 |int b=>cases(show n="int" from h);simp
 |str b=>cases(show n="str" from h);simp
 |ref a=>rcases h with⟨rfl,_⟩|⟨rfl,_⟩|⟨rfl,_⟩<;>simp
 |_=>exact False.elim h
theorem ad4:eF X (.builtin "isinstance") (λxs H Q=>∃x n T,xs=[x,.ty T]/\tyName H x n/\T∈["bool","int","str","list","tuple","dict"]/\Q (.bl (uG n T)) H):=by
 intro pins s σ H xs us Q I r h;obtain⟨x,n,T,rfl,hx,hT,q⟩:=h;obtain⟨u,v,rfl,ru,rv⟩:=Vals.two r;cases(show v=Value.type T from rv)
 exact aad I ru (Pp hx) (Kg (Pq hx) hT) λtk=>⟨.bl _,H,I.tok tk,rfl,q⟩
end
def lA(ea C:Ξ):υ->Prop:=λh=>∃o,h.get? ea=ζ o/\o.cls=.ref C
def LQ(a:Ξ):υ->Prop:=PySem.W.KitAt a "dict"
structure Def (K:Δ) (mg:Str->Option Ψ) (x:Str) (st:aav) (ps:List Str) (f:Ξ) (fd:ν):Prop where
 fn:jS K x x st f fd
 at':mg x=ζ (.ref f)
 bd:Binds K fd ps []
section
variable {X:Cx}
theorem Uy{x:Str}{st:aav}{ps:List Str}{f:Ξ}{fd:ν}{k:Nat}{sp:Sp}{e:ο}{es:List ο}{t:TA}{p pos:Pos}(D:Def X.K X.mg x st ps f fd) (G:bX X.prog X.w X.K X.mg X.base bQ k f fd ps sp) (hr:dg k X.A) (ha:PA X (e::es) t) (hg:Gl X x:=by rfl)
  (hdb:(x==("__debug__":Str))=Γ:=by decide) (he:μ (e::es) X.env=(Γ,eval e X.env)::μ es X.env:=by rfl) (hpl:(aab pos (μ es X.env)).any (·.1)=Γ:=by rfl) :
  PE X (.Call (.Name x p) (e::es) [] pos) (HK sp [] E0 t):=IU G hr hg D.at' D.fn.kp D.bd .nil UT ha hdb he hpl
theorem Ur{x:Str}{n:String}{pos:Pos}(hg:Gl X x) (hm:X.mg x=η) (hv:bootBuiltins x=ζ (.type n)) (hn:x≠"__name__":=by decide) (hd:(x==("__debug__":Str))=Γ:=by decide):PE X (.Name x pos) (tC (.ty n)):=UH hg hm hv rfl hn hd
end
def isStar:ο->Bool
 |.Starred _ _=>Θ
 |_=>Γ
theorem bS{a:ο}{es:List ο}{env:Env}(h:isStar a=Γ):μ (a::es) env=(Γ,eval a env)::μ es env:=by
 cases a<;>first|(cases h;done)|(simp only[μ];done)
def noStar(es:List ο):Bool:=es.all λa=>!isStar a
theorem g9{es:List ο}{env:Env}{pos:Pos}(h:noStar es=Θ):(aab pos (μ es env)).any (·.1)=Γ:=by
 induction es with
 |nil=>simp only[μ];rfl
 |cons a es ih =>
  have h:(!isStar a&&noStar es)=Θ:=h;rw[ahL]at h;rw[bS (by simpa using h.1)]
  have:=ih h.2
  simpa[aab]using this
theorem uI{a:ο}{env:Env}(h:isStar a=Γ):μ [a] env=[(Γ,eval a env)]:=by
 rw[bS h];simp only[μ]
theorem A8{a b:ο}{env:Env}(h:isStar a=Γ) (g:isStar b=Γ):μ [a,b] env=[(Γ,eval a env),(Γ,eval b env)]:=by
 rw[bS h,uI g]
theorem oF{a:ο}{env:Env}{pos:Pos}(h:isStar a=Γ):((aab pos (μ [a] env)).all (λx=>!x.1)&&(aaK pos (aax [] env)).all (λx=>x.1.isSome)
   && decide ([a].length+([]:List aay).length+(if([]:List aay).isEmpty then 0 else 1)<30))=Θ:=by
 rw[uI h];simp[aab,aaK,aax]
inductive D where
 |aH|bl (b:Bool)|int (i:Int)|str (x:Str)|ty (n:String)|tup (l:List D)|lst (l:List D)|ref (k:Nat)|bw (l:List Int)|fn (x:Str) (n:Nat)|exc (x:Str)|gQ|dct (ks:List (Int×Int))|lam (k:Nat) (e:ο) (ns:List Str) (l:List D)
inductive Cell where
 |lst (l:List D)
mutual
def noRef:D->Bool
 |.tup l=>bP l
 |.lst l=>bP l
 |.ref _=>Γ
 |.aH=>Θ
 |.bl _=>Θ
 |.int _=>Θ
 |.str _=>Θ
 |.ty _=>Θ
 |.bw _=>Θ
 |.fn _ _=>Θ
 |.exc _=>Θ
 |.gQ=>Θ
 |.dct _=>Θ
 |.lam _ _ _ _=>Γ
def bP:List D->Bool
 |[]=>Θ
 |d::l=>noRef d&&bP l
end
mutual
def gv:D->Bool
 |.tup l=>gM l
 |.lst l=>gM l
 |.lam _ _ _ _=>Γ
 |.ref _=>Θ
 |.aH=>Θ
 |.bl _=>Θ
 |.int _=>Θ
 |.str _=>Θ
 |.ty _=>Θ
 |.bw _=>Θ
 |.fn _ _=>Θ
 |.exc _=>Θ
 |.gQ=>Θ
 |.dct _=>Θ
def gM:List D->Bool
 |[]=>Θ
 |d::l=>gv d&&gM l
end
mutual
theorem JA:∀d:D,noRef d=Θ->gv d=Θ
 |.tup l,h=>by unfold noRef at h;unfold gv;exact yo l h
 |.lst l,h=>by unfold noRef at h;unfold gv;exact yo l h
 |.lam _ _ _ _,h=>by unfold noRef at h;cases h
 |.ref _,h=>by unfold noRef at h;cases h
 |.aH,_=>by unfold gv;rfl
 |.bl _,_=>by unfold gv;rfl
 |.int _,_=>by unfold gv;rfl
 |.str _,_=>by unfold gv;rfl
 |.ty _,_=>by unfold gv;rfl
 |.bw _,_=>by unfold gv;rfl
 |.fn _ _,_=>by unfold gv;rfl
 |.exc _,_=>by unfold gv;rfl
 |.gQ,_=>by unfold gv;rfl
 |.dct _,_=>by unfold gv;rfl
theorem yo:∀l:List D,bP l=Θ->gM l=Θ
 |[],_=>by unfold gM;rfl
 |d::l,h=>by
  unfold bP at h;rw[ahL]at h;unfold gM;rw[JA d h.1,yo l h.2];rfl
end
theorem u9:∀{l m:List D},bP (l++m)=(bP l&&bP m)
 |[],m=>by simp[bP]
 |d::l,m=>by simp[bP,u9 (l:=l),Bool.and_assoc]
theorem Jx:∀{l:List D}{i:Nat}{d:D},bP l=Θ->noRef d=Θ->bP (l.set i d)=Θ
 |[],i,d,h,g=>h
 |b::l,0,d,h,g=>by simp_all[bP]
 |b::l,i+1,d,h,g=>by
  simp only[bP,ahL]at h;simp only[List.set_cons_succ,bP,ahL];exact⟨h.1,Jx h.2 g⟩
theorem iG:∀{l:List D},bP l=Θ↔∀d∈l,noRef d=Θ
 |[]=>by simp[bP]
 |d::l=>by simp[bP,iG (l:=l)]
theorem XE{l:List Int}:bP (l.map D.int)=Θ:=iG.mpr λd h=>by
 obtain⟨i,_,rfl⟩:=ahw.mp h;rfl
inductive R (α:Type) where
 |ok (a:α) (c:List Cell)
 |bad
def R.bind{α β:Type}(r:R α) (f:α->List Cell->R β):R β:=match r with
 |.ok a c=>f a c
 |.bad=>.bad
@[simp] theorem R.aA{α β:Type}{a:α}{c:List Cell}{f:α->List Cell->R β}:(R.ok a c).bind f=f a c:=rfl
@[simp] theorem R.ahf{α β:Type}{f:α->List Cell->R β}:(R.bad:R α).bind f=.bad:=rfl
def pe:List Str:=["greatest_among","web_of","other_web","turned_at","pairs_web","field_web","net_web"]
def yE(x:Str):Str:=x++".<locals>."++"<lambda>"
def pM(c:Ξ) (q:Str):υ->Prop:=λh=>h.CodeRec (.ref c) q
def o9(a:Ξ) (o:Obj):υ->Prop:=λh=>h.get? a=ζ o
def we(e:ο) (o:Obj) (q:Str) (c:Ξ) (cl:List (Str×Ξ)):Prop:=match e with
 |.Lambda params body scope _=>∃pm ctv,o=PySem.W.kla_obj "<lambda>" q params body scope cl pm c ctv
 |_=>False
def vp:HO->Bool
 |.cR _=>Θ
 |_=>Γ
def iJ(H:Hp) (cl:List (Str×Ξ)):List Str->List V->Prop
 |[],xs=>xs=[]
 |x::ns,xs=>∃v r c oc u,xs=v::r/\cl.lookup x=ζ c/\H c=ζ (.cO oc (.own 0))/\oc.data=.cell (ζ u)/\RelV v u/\iJ H cl ns r
def wm(cl:List (Str×Ξ)) (ns:List Str):Prop:=(∀x y c,cl.lookup x=ζ c->cl.lookup y=ζ c->x=y)/\∀x c,cl.lookup x=ζ c->x∈ns
def TabAt(H:Hp) (P:Ξ) (q:Str):Prop:=∃ps,H P=ζ (.cR ps)/\abh ps.toList/\∀pos cv,codeAmong pos ps.toList=ζ cv->∃c,cv=.ref c/\H c=ζ (.ext (pM c q))
def p7(K:Δ) (H:Hp):Prop:=∀x∈pe,∀c P,PySem.W.tabIn K x=ζ (c,P)->TabAt H P (yE x)
theorem iJ.mono{H H':Hp}{cl:List (Str×Ξ)}:∀{ns:List Str}{xs:List V},(∀c o,H c=ζ (.cO o (.own 0))->H' c=ζ (.cO o (.own 0)))->iJ H cl ns xs->iJ H' cl ns xs
 |[],_,_,h=>h
 |x::ns,xs,k,h=>by
  obtain⟨v,r,c,oc,u,e,h0,h1,h2,h3,h4⟩:=h;exact⟨v,r,c,oc,u,e,h0,k _ _ h1,h2,h3,iJ.mono k h4⟩
theorem iJ.get{H:Hp}{cl:List (Str×Ξ)}:∀{ns:List Str}{xs:List V}{i:Nat}{x:Str},iJ H cl ns xs->ns[i]? = ζ x->∃v c oc u,xs[i]? = ζ v/\cl.lookup x=ζ c/\H c=ζ (.cO oc (.own 0))/\oc.data=.cell (ζ u)/\RelV v u
 |[],_,_,_,_,e=>by cases e
 |_::ns,xs,0,_,h,e=>by
  obtain⟨v,r,c,oc,u,rfl,h0,h1,h2,h3,h4⟩:=h;cases e;exact⟨v,c,oc,u,rfl,h0,h1,h2,h3⟩
 |_::ns,xs,i+1,x,h,e=>by
  obtain⟨v,r,c,oc,u,rfl,h0,h1,h2,h3,h4⟩:=h;exact iJ.get (i:=i) h4 e
theorem iJ.length{H:Hp}{cl:List (Str×Ξ)}:∀{ns:List Str}{xs:List V},iJ H cl ns xs->xs.length=ns.length
 |[],xs,h=>by cases(show xs=[]from h);rfl
 |_::ns,xs,h=>by
  obtain⟨v,r,c,oc,u,rfl,h0,h1,h2,h3,h4⟩:=h;simp[iJ.length h4]
theorem TabAt.mono{H H':Hp}{P:Ξ}{q:Str}(h:TabAt H P q) (k1:∀ps,H P=ζ (.cR ps)->H' P=ζ (.cR ps)) (k2:∀c φ,H c=ζ (.ext φ)->H' c=ζ (.ext φ)):TabAt H' P q:=by
 obtain⟨ps,h1,h2,h3⟩:=h;exact⟨ps,k1 ps h1,h2,λpos cv e=>let⟨c,e1,e2⟩:=h3 pos cv e;⟨c,e1,k2 _ _ e2⟩⟩
theorem p7.mono{K:Δ}{H H':Hp}(h:p7 K H) (k1:∀P ps,H P=ζ (.cR ps)->H' P=ζ (.cR ps)) (k2:∀c φ,H c=ζ (.ext φ)->H' c=ζ (.ext φ)):p7 K H':=λx hx c P e=>(h x hx c P e).mono (k1 P) k2
def p8(K:Δ) (ρ:List Ξ) (H:Hp) (a:Ξ) (xs:List V):Prop:=(Rd H a (.lst xs)/\a∉ρ)\/bW K (λ_=>η) a xs
mutual
def Rel(K:Δ) (ρ:List Ξ) (H:Hp):D->V->Prop
 |.aH,v=>v=.aH
 |.bl b,v=>v=.bl b
 |.int i,v=>v=.int i
 |.str x,v=>v=.str x
 |.ty n,v=>v=.ty n
 |.tup l,v=>∃a xs,v=.ref a/\H a=ζ (.tup xs)/\aM K ρ H l xs
 |.lst l,v=>∃a xs,v=.ref a/\(H a=ζ (.lst xs)/\a∉ρ)/\aM K ρ H l xs
 |.ref k,v=>∃a,v=.ref a/\ρ[k]? = ζ a
 |.bw l,v=>∃a,v=.ref a/\p8 K ρ H a (l.map V.int)
 |.fn x n,v=>∃a,v=.ref a/\θ K ξ x=ζ (ζ (.ref a))
 |.gQ,v=>∃a,v=.ref a/\H a=ζ (.ext (LQ a))
 |.dct ks,v=>∃a kvs,v=.ref a/\H a=ζ (.dT kvs)/\∀p:Int×Int,((kvs.any λkv=>decide (kv.1=[Sum.inl p.1,Sum.inl p.2]))=decide (p∈ks))
 |.exc x,v=>∃a C,v=.ref a/\θ K ξ x=ζ (ζ (.ref C))/\H a=ζ (.ext (lA a C))
 |.lam _ e ns l,v=>∃a o q c cl xs,v=.ref a/\H a=ζ (.ext (o9 a o))/\we e o q c cl/\H c=ζ (.ext (pM c q))/\wm cl ns/\iJ H cl ns xs/\aM K ρ H l xs
def aM(K:Δ) (ρ:List Ξ) (H:Hp):List D->List V->Prop
 |[],xs=>xs=[]
 |d::l,xs=>∃x r,xs=x::r/\Rel K ρ H d x/\aM K ρ H l r
end
theorem p8.sql{K:Δ}{ρ:List Ξ}{H:Hp}{a:Ξ}{xs:List V}(h:p8 K ρ H a xs):bW K H a xs:=by
 rcases h with⟨h,_⟩|(h|h)
 ·exact .inl h
 ·rcases h with h|⟨o,h⟩<;>cases h
 ·exact .inr h
def afx(K:Δ) (ρ:List Ξ) (H:Hp) (a:Ξ):Cell->Prop
 |.lst l=>bP l=Θ/\∃xs,H a=ζ (.lst xs)/\aM K ρ H l xs
structure Wd (K:Δ) (ρ:List Ξ) (H:Hp) (c:List Cell):Prop where
 nd:ρ.Nodup
 len:ρ.length=c.length
 fH:∀(k:Nat) (a:Ξ) (cl:Cell),ρ[k]? = ζ a->c[k]? = ζ cl->afx K ρ H a cl
 tab:p7 K H
structure Ext (ρ:List Ξ) (H:Hp) (ρ':List Ξ) (H':Hp):Prop where
 pre:∀(k:Nat) (a:Ξ),ρ[k]? = ζ a->ρ'[k]? = ζ a
 keep:∀a o,H a=ζ o->a∉ρ->vp o=Γ->H' a=ζ o/\a∉ρ'
theorem Ext.refl{ρ:List Ξ}{H:Hp}:Ext ρ H ρ H:=⟨λ_ _ h=>h,λ_ _ h n _=>⟨h,n⟩⟩
theorem Ext.trans{ρ aI cN:List Ξ}{H H1 H2:Hp}(x:Ext ρ H aI H1) (y:Ext aI H1 cN H2):Ext ρ H cN H2 :=
 ⟨λk a h=>y.pre k a (x.pre k a h),λa o h n t=>let⟨h1,n1⟩:=x.keep a o h n t;y.keep a o h1 n1 t⟩
section
variable {K:Δ}{ρ ρ':List Ξ}{H H':Hp}{c c':List Cell}
theorem Wd.at'(W:Wd K ρ H c) {a:Ξ}(h:a∈ρ):∃xs,H a=ζ (.lst xs):=by
 obtain⟨k,hk,e⟩:=aiq.mp h;have hc:k<c.length:=by rw[<-W.len];exact hk
 have q:=W.fH k a c[k] (by rw[ahI hk,e]) (ahI hc)
 cases hcl:c[k]with
 |lst l=>rw[hcl]at q;obtain⟨_,xs,h,_⟩:=q;exact⟨xs,h⟩
theorem Wd.XA(W:Wd K ρ H c) {a:Ξ}{xs:List V}(h:H a=ζ (.tup xs)):a∉ρ:=λm=>by
 obtain⟨ys,e⟩:=W.at' m;rw[e]at h;cases h
theorem Wd.nil(W:Wd K ρ H c) {a:Ξ}(h:H a=η):a∉ρ:=λm=>by
 obtain⟨ys,e⟩:=W.at' m;rw[e]at h;cases h
theorem AS(W:Wd K ρ H c) (x:Ext ρ H ρ' H') {a:Ξ}{xs:List V}(h:H a=ζ (.tup xs)):H' a=ζ (.tup xs):=(x.keep a _ h (W.XA h) rfl).1
theorem J4(x:Ext ρ H ρ' H') {a:Ξ}{xs:List V}(h:H a=ζ (.lst xs)/\a∉ρ):H' a=ζ (.lst xs)/\a∉ρ':=x.keep a _ h.1 h.2 rfl
theorem HV(x:Ext ρ H ρ' H') {a:Ξ}{xs:List V}(h:p8 K ρ H a xs):p8 K ρ' H' a xs:=by
 rcases h with⟨h,n⟩|h
 ·rcases h with h|⟨o,h⟩
  ·exact .inl ⟨.inl (x.keep a _ h n rfl).1,(x.keep a _ h n rfl).2⟩
  ·exact .inl ⟨.inr ⟨o,(x.keep a _ h n rfl).1⟩,(x.keep a _ h n rfl).2⟩
 ·exact .inr h
mutual
theorem Rel.mono(W:Wd K ρ H c) (x:Ext ρ H ρ' H'):∀(d:D) (v:V),Rel K ρ H d v->Rel K ρ' H' d v
 |.aH,v,h=>h
 |.bl b,v,h=>h
 |.int i,v,h=>h
 |.str y,v,h=>h
 |.ty n,v,h=>h
 |.tup l,v,h=>by
  obtain⟨a,xs,e,s,r⟩:=h;exact⟨a,xs,e,AS W x s,aM.mono W x l xs r⟩
 |.lst l,v,h=>by
  obtain⟨a,xs,e,s,r⟩:=h;exact⟨a,xs,e,J4 x s,aM.mono W x l xs r⟩
 |.ref k,v,h=>by
  obtain⟨a,e,s⟩:=h;exact⟨a,e,x.pre k a s⟩
 |.bw l,v,h=>by
  obtain⟨a,e,s⟩:=h;exact⟨a,e,HV x s⟩
 |.fn a n,v,h=>h
 |.gQ,v,h=>by
  obtain⟨a,e,q⟩:=h;exact⟨a,e,(x.keep a _ q (λm=>by obtain⟨ys,z⟩:=W.at' m;rw[z]at q;cases q) rfl).1⟩
 |.dct ks,v,h=>by
  obtain⟨a,kvs,e,q,z⟩:=h;exact⟨a,kvs,e,(x.keep a _ q (λm=>by obtain⟨ys,z⟩:=W.at' m;rw[z]at q;cases q) rfl).1,z⟩
 |.exc y,v,h=>by
  obtain⟨a,C,e,n,q⟩:=h;exact⟨a,C,e,n,(x.keep a _ q (λm=>by obtain⟨ys,z⟩:=W.at' m;rw[z]at q;cases q) rfl).1⟩
 |.lam _ y ns l,v,h=>by
  obtain⟨a,o,q,c,cl,xs,e,h1,h2,h3,h4,h5,h6⟩:=h;have nr:∀(b:Ξ) (u:HO),H b=ζ u->(∀ys,u≠.lst ys)->b∉ρ:=λb u q n m=>by obtain⟨ys,z⟩:=W.at' m;rw[z]at q;exact n ys (ahA q).symm
  exact⟨a,o,q,c,cl,xs,e,(x.keep a _ h1 (nr a _ h1 λ_ z=>nomatch z) rfl).1,h2,(x.keep c _ h3 (nr c _ h3 λ_ z=>nomatch z) rfl).1,h4,h5.mono (λb o z=>(x.keep b _ z (nr b _ z λ_ z=>nomatch z) rfl).1),aM.mono W x l xs h6⟩
theorem aM.mono(W:Wd K ρ H c) (x:Ext ρ H ρ' H'):∀(l:List D) (xs:List V),aM K ρ H l xs->aM K ρ' H' l xs
 |[],xs,h=>h
 |d::l,xs,h=>by
  obtain⟨y,r,e,h1,h2⟩:=h;exact⟨y,r,e,Rel.mono W x d y h1,aM.mono W x l r h2⟩
end
theorem aM.length:∀{l:List D}{xs:List V},aM K ρ H l xs->xs.length=l.length
 |[],xs,h=>by cases(show xs=[]from h);rfl
 |d::l,xs,h=>by
  obtain⟨y,r,rfl,h1,h2⟩:=h;simp only[ahu,aM.length h2]
theorem aM.get:∀{l:List D}{xs:List V}{i:Nat}{d:D},aM K ρ H l xs->l[i]? = ζ d->∃x,xs[i]? = ζ x/\Rel K ρ H d x
 |[],_,_,_,_,e=>by cases e
 |_::l,_,0,_,h,e=>by
  obtain⟨y,r,rfl,h1,h2⟩:=h;cases e;exact⟨y,rfl,h1⟩
 |_::l,_,i+1,_,h,e=>by
  obtain⟨y,r,rfl,h1,h2⟩:=h;exact aM.get (i:=i) h2 e
theorem aM.append:∀{l m:List D}{xs ys:List V},aM K ρ H l xs->aM K ρ H m ys->aM K ρ H (l++m) (xs++ys)
 |[],m,xs,ys,h,g=>by cases(show xs=[]from h);exact g
 |d::l,m,xs,ys,h,g=>by
  obtain⟨y,r,rfl,h1,h2⟩:=h;exact⟨y,r++ys,rfl,h1,aM.append h2 g⟩
theorem aM.set:∀{l:List D}{xs:List V}{d:D}{x:V}(i:Nat),aM K ρ H l xs->Rel K ρ H d x->aM K ρ H (l.set i d) (xs.set i x)
 |[],xs,d,x,i,h,g=>by cases(show xs=[]from h);exact rfl
 |b::l,xs,d,x,0,h,g=>by
  obtain⟨y,r,rfl,h1,h2⟩:=h;exact⟨x,r,rfl,g,h2⟩
 |b::l,xs,d,x,i+1,h,g=>by
  obtain⟨y,r,rfl,h1,h2⟩:=h;exact⟨y,r.set i x,rfl,h1,aM.set i h2 g⟩
theorem aM.take:∀{l:List D}{xs:List V}(n:Nat),aM K ρ H l xs->aM K ρ H (l.take n) (xs.take n)
 |l,xs,0,h=>by simp only[List.take_zero];exact rfl
 |[],xs,n+1,h=>by cases(show xs=[]from h);exact rfl
 |d::l,xs,n+1,h=>by
  obtain⟨y,r,rfl,h1,h2⟩:=h;exact⟨y,r.take n,rfl,h1,aM.take n h2⟩
theorem aM.drop:∀{l:List D}{xs:List V}(n:Nat),aM K ρ H l xs->aM K ρ H (l.drop n) (xs.drop n)
 |l,xs,0,h=>h
 |[],xs,n+1,h=>by cases(show xs=[]from h);exact rfl
 |d::l,xs,n+1,h=>by
  obtain⟨y,r,rfl,h1,h2⟩:=h;exact aM.drop n h2
theorem aM.ints{l:List Int}:aM K ρ H (l.map D.int) (l.map V.int):=by
 induction l with
 |nil=>exact rfl
 |cons a l ih=>exact⟨_,_,rfl,rfl,ih⟩
theorem aM.F7:∀{l:List Bool}{xs:List V},aM K ρ H (l.map D.bl) xs->xs=l.map V.bl
 |[],xs,h=>h
 |a::l,xs,h=>by
  obtain⟨y,r,rfl,h1,h2⟩:=h;cases(show y=V.bl a from h1)
  rw[aM.F7 h2];rfl
theorem Ext.fresh{p:Ξ}{o:HO}(W:Wd K ρ H c) (h:H p=η):Ext ρ H ρ (upd H p o) :=
 ⟨λ_ _ e=>e,λa u e n _=>⟨by rw[bA (dG e h)];exact e,n⟩⟩
theorem Wd.fresh{p:Ξ}{o:HO}(W:Wd K ρ H c) (h:H p=η):Wd K ρ (upd H p o) c :=
 ⟨W.nd,W.len,λk a cl e1 e2=>by
  have q:=W.fH k a cl e1 e2;cases cl with
  |lst l =>
   obtain⟨nr,xs,e,r⟩:=q;exact⟨nr,xs,by rw[bA (dG e h)];exact e,aM.mono W (Ext.fresh W h) l xs r⟩,
  W.tab.mono (λP ps e=>by rw[bA (dG e h)];exact e) (λb φ e=>by rw[bA (dG e h)];exact e)⟩
theorem Ext.cell{p:Ξ}{o:HO}(W:Wd K ρ H c) (h:H p=η):Ext ρ H (ρ++[p]) (upd H p o) :=
 ⟨λk a e=>by rw[ahY (ahz.mp e).1];exact e,λa u e n _=>⟨by rw[bA (dG e h)];exact e,by
  rw[ahT]
  rintro (z|z)
  ·exact n z
  ·exact dG e h (by simpa using z)⟩⟩
theorem Wd.cell{p:Ξ}{l:List D}{xs:List V}(W:Wd K ρ H c) (h:H p=η) (nr:bP l=Θ) (r:aM K ρ H l xs):Wd K (ρ++[p]) (upd H p (.lst xs)) (c++[.lst l]):=by
 have X:=Ext.cell (o:=.lst xs) W h;refine⟨?_,by simp[W.len],λk a cl e1 e2=>?_,W.tab.mono (λP ps e=>by rw[bA (dG e h)];exact e) (λb φ e=>by rw[bA (dG e h)];exact e)⟩
 ·rw[ajR];refine⟨W.nd,by simp,?_⟩
  intro a ha b hb;rw[aiA]at hb;subst hb;exact λz=>W.nil h (z▸ha)
 ·by_cases hk:k<c.length
  ·rw[ahY hk]at e2;rw[ahY (by rw[W.len];exact hk)]at e1
   have q:=W.fH k a cl e1 e2;cases cl with
   |lst l' =>
    obtain⟨j5,ys,e,r'⟩:=q;exact⟨j5,ys,by rw[bA (dG e h)];exact e,aM.mono W X l' ys r'⟩
  ·have hk':k=c.length:=by
    have:=(ahz.mp e2).1;simp at this;omega
   subst hk';rw[ahW (ahn _),aiZ]at e2;rw[ahW (by rw[W.len];exact ahn _),W.len,aiZ]at e1
   cases e1;cases e2;exact⟨nr,xs,gI,aM.mono W X l xs r⟩
theorem Ext.write{k:Nat}{p:Ξ}{o:HO}(h:ρ[k]? = ζ p):Ext ρ H ρ (upd H p o) :=
 ⟨λ_ _ e=>e,λa u e n _=>⟨by rw[bA (λz=>n (by rw[z];exact ahP h))];exact e,n⟩⟩
theorem Wd.write{k:Nat}{p:Ξ}{l:List D}{xs:List V}(W:Wd K ρ H c) (h:ρ[k]? = ζ p) (nr:bP l=Θ) (r:aM K ρ H l xs):Wd K ρ (upd H p (.lst xs)) (c.set k (.lst l)):=by
 have X:=Ext.write (H:=H) (o:=.lst xs) h;obtain⟨ys,hy⟩:=W.at' (ahP h);refine⟨W.nd,by simp[W.len],λj a cl e1 e2=>?_,W.tab.mono (λP ps e=>by rw[bA (BV e hy λz=>nomatch z)];exact e) (λb φ e=>by rw[bA (BV e hy λz=>nomatch z)];exact e)⟩
 by_cases hj:j=k
 ·subst hj;rw[h]at e1;cases e1;have hl:j<c.length:=by rw[<-W.len];exact(ahz.mp h).1
  rw[ah6 hl]at e2;cases e2;exact⟨nr,xs,gI,aM.mono W X l xs r⟩
 ·rw[aii (ah2 hj)]at e2;have q:=W.fH j a cl e1 e2;have hap:a≠p:=by
   intro e;subst e;have h1:=(ahz.mp h);have h2:=(ahz.mp e1);exact hj ((aiT W.nd (h₀:=h2.1) (h₁:=h1.1)).mp (h2.2.trans h1.2.symm))
  cases cl with
  |lst l' =>
   obtain⟨j5,ys,e,r'⟩:=q;exact⟨j5,ys,by rw[bA hap];exact e,aM.mono W X l' ys r'⟩
mutual
theorem Rel.low(h:∀a,a∈ρ'->a∈ρ):∀(d:D) (v:V),noRef d=Θ->Rel K ρ H d v->Rel K ρ' H d v
 |.aH,v,_,r=>r
 |.bl b,v,_,r=>r
 |.int i,v,_,r=>r
 |.str y,v,_,r=>r
 |.ty n,v,_,r=>r
 |.tup l,v,n,r=>by
  obtain⟨a,xs,e,s,r⟩:=r;exact⟨a,xs,e,s,aM.low h l xs n r⟩
 |.lst l,v,n,r=>by
  obtain⟨a,xs,e,s,r⟩:=r;exact⟨a,xs,e,⟨s.1,λq=>s.2 (h a q)⟩,aM.low h l xs n r⟩
 |.ref k,v,n,r=>by cases n
 |.bw l,v,n,r=>by
  obtain⟨a,e,s⟩:=r;refine⟨a,e,?_⟩
  rcases s with⟨s,z⟩|s
  ·exact .inl ⟨s,λq=>z (h a q)⟩
  ·exact .inr s
 |.fn a m,v,n,r=>r
 |.exc y,v,n,r=>r
 |.gQ,v,n,r=>r
 |.dct _,v,n,r=>r
 |.lam _ _ _ _,v,n,r=>by cases n
theorem aM.low(h:∀a,a∈ρ'->a∈ρ):∀(l:List D) (xs:List V),bP l=Θ->aM K ρ H l xs->aM K ρ' H l xs
 |[],xs,_,r=>r
 |d::l,xs,n,r=>by
  obtain⟨y,ys,e,h1,h2⟩:=r;have n:(noRef d&&bP l)=Θ:=n;rw[ahL]at n;exact⟨y,ys,e,Rel.low h d y n.1 h1,aM.low h l ys n.2 h2⟩
end
theorem Wd.cut{n:Nat}(W:Wd K ρ H c) (hn:n<=c.length):Wd K (ρ.take n) H (c.take n):=by
 have sub:∀a,a∈ρ.take n->a∈ρ:=λa h=>ahU h
 refine⟨W.nd.sublist (akk _ _),by simp[W.len],λk a cl e1 e2=>?_,W.tab⟩
 rw[ajh]at e1 e2;split at e1
 ·rename_i hk;rw[if_pos hk]at e2;have q:=W.fH k a cl e1 e2;cases cl with
  |lst l =>
   obtain⟨nr,xs,e,r⟩:=q;exact⟨nr,xs,e,aM.low sub l xs nr r⟩
 ·cases e1
theorem Ext.cut{n:Nat}(x:Ext ρ H ρ' H') (hn:ρ.length<=n):Ext ρ H (ρ'.take n) H' :=
 ⟨λk a e=>by rw[ajh,if_pos (ahv (ahz.mp e).1 hn)];exact x.pre k a e,λa o e z t=>let⟨h1,h2⟩:=x.keep a o e z t;⟨h1,λq=>h2 (ahU q)⟩⟩
theorem Ext.len(W:Wd K ρ H c) (W':Wd K ρ' H' c') (x:Ext ρ H ρ' H'):c.length<=c'.length:=by
 rw[<-W.len,<-W'.len]
 by_cases h:ρ.length<=ρ'.length
 ·exact h
 ·exfalso;have h':ρ'.length<ρ.length:=Nat.lt_of_not_le h;have e:=x.pre ρ'.length ρ[ρ'.length] (ahI h');rw[aid (ahn _)]at e;cases e
end
abbrev Ev:=List (Option D)
def post{α β:Type}(K:Δ) (Rl:List Ξ->Hp->α->β->Prop) (r:R α) (ρ:List Ξ) (H:Hp) (Q:β->Hp->Prop):Prop:=match r with
 |.ok a c=>∀ρ' H' b,Wd K ρ' H' c->Ext ρ H ρ' H'->Rl ρ' H' a b->Q b H'
 |.bad=>False
structure dX (K:Δ) (ρ:List Ξ) (H:Hp) (e:Ev) (σ:St):Prop where
 get:∀(i:Nat) (d:D),e[i]? = ζ (ζ d)->∃v,σ[i]? = ζ (ζ v)/\Rel K ρ H d v
 len:e.length=σ.length
def tD{α β:Type}(K:Δ) (Rl:List Ξ->Hp->α->β->Prop) (d:Ev->List Cell->R α):St->Hp->(β->Hp->Prop)->Prop :=
 λσ H Q=>∃ρ e c,Wd K ρ H c/\dX K ρ H e σ/\post K Rl (d e c) ρ H Q
section
variable {α β γ δ:Type}{K:Δ}{ρ ρ':List Ξ}{H H':Hp}{c:List Cell}{e:Ev}{σ:St}{Rl:List Ξ->Hp->α->β->Prop}{Rm:List Ξ->Hp->γ->δ->Prop}
theorem dX.mono(V:dX K ρ H e σ) (W:Wd K ρ H c) (x:Ext ρ H ρ' H'):dX K ρ' H' e σ :=
 ⟨λi d h=>let⟨v,h1,h2⟩:=V.get i d h;⟨v,h1,Rel.mono W x d v h2⟩,V.len⟩
theorem dX.set(V:dX K ρ H e σ) {d:D}{v:L2.V}(r:Rel K ρ H d v) (i:Nat):dX K ρ H (e.set i (ζ d)) (σ.set i (ζ v)):=by
 refine⟨λj b h=>?_,by simp[V.len]⟩
 by_cases hj:j=i
 ·subst hj;have hl:j<e.length:=by
   have:=(ahz.mp h).1
   simpa using this
  rw[ah6 hl]at h;cases h;exact⟨v,by rw[ah6 (by rw[<-V.len];exact hl)],r⟩
 ·rw[aii (ah2 hj)]at h ⊢;exact V.get j b h
theorem post.ext{r:R α}{Q:β->Hp->Prop}(p:post K Rl r ρ H Q) (x:Ext ρ H ρ' H'):post K Rl r ρ' H' Q:=by
 cases r with
 |ok a c=>exact λcN H2 b W y r=>p cN H2 b W (x.trans y) r
 |bad=>exact p
theorem post.mono{r:R α}{Q Q':β->Hp->Prop}(p:post K Rl r ρ H Q) (h:∀b H,Q b H->Q' b H):post K Rl r ρ H Q':=by
 cases r with
 |ok a c=>exact λcN H2 b W y r=>h _ _ (p cN H2 b W y r)
 |bad=>exact p
theorem post.bind{r:R α}{f:α->List Cell->R γ}{Q:δ->Hp->Prop}{S:β->Hp->Prop}(p:post K Rm (r.bind f) ρ H Q)
  (h:∀a c1 ρ' H' b,r=.ok a c1->Wd K ρ' H' c1->Ext ρ H ρ' H'->Rl ρ' H' a b->post K Rm (f a c1) ρ' H' Q->S b H'):post K Rl r ρ H S:=by
 cases r with
 |ok a c1=>exact λρ' H' b W x r=>h a c1 ρ' H' b rfl W x r (post.ext (r:=f a c1) p x)
 |bad=>exact p
theorem post.here{a:α}{b:β}{Q:β->Hp->Prop}(p:post K Rl (.ok a c) ρ H Q) (W:Wd K ρ H c) (r:Rl ρ H a b):Q b H:=p ρ H b W Ext.refl r
end
abbrev aY(X:Cx) (e:ο) (d:Ev->List Cell->R D):Prop:=PE X e (tD X.K (Rel X.K) d)
abbrev jR(X:Cx) (e:ο) (d:Ev->List Cell->R Bool):Prop:=PT X e (tD X.K (λ_ _ a b=>a=b) d)
abbrev tZ(X:Cx) (e:ο) (d:Ev->List Cell->R Bool):Prop:=PW X e (tD X.K (λ_ _ a b=>a=b) d)
abbrev iz(X:Cx) (es:List ο) (d:Ev->List Cell->R (List D)):Prop:=PA X es (tD X.K (aM X.K) d)
section
variable {X:Cx}{e:ο}{es:List ο}{st:aav}{sts:List aav}
theorem PE.imp{t t':TE}(h:PE X e t) (i:∀σ H Q,t' σ H Q->t σ H Q):PE X e t':=λpins s σ H Q I q=>h pins s σ H Q I (i _ _ _ q)
theorem PT.imp{t t':TT}(h:PT X e t) (i:∀σ H Q,t' σ H Q->t σ H Q):PT X e t':=λpins s σ H Q I q=>h pins s σ H Q I (i _ _ _ q)
theorem PW.imp{t t':TT}(h:PW X e t) (i:∀σ H Q,t' σ H Q->t σ H Q):PW X e t':=λwh pins s σ H Q I q=>h wh pins s σ H Q I (i _ _ _ q)
theorem PA.imp{t t':TA}(h:PA X es t) (i:∀σ H Q,t' σ H Q->t σ H Q):PA X es t':=λpos pins s σ H Q I q=>h pos pins s σ H Q I (i _ _ _ q)
theorem PS.imp{t t':TS}(h:PS X st t) (i:∀D σ H,t' D σ H->t D σ H):PS X st t':=λpins s σ H D I q=>h pins s σ H D I (i _ _ _ q)
theorem fu.imp{t t':TS}(h:fu X sts t) (i:∀D σ H,t' D σ H->t D σ H):fu X sts t':=λpins s σ H D I q=>h pins s σ H D I (i _ _ _ q)
end
def ak(i:Nat):Ev->List Cell->R D:=λe c=>match e[i]? with
 |some (ζ d)=>.ok d c
 |_=>.bad
def dC(d:D):Ev->List Cell->R D:=λ_ c=>.ok d c
section
variable {X:Cx}
theorem av(i:Nat) {x:Str}{pos:Pos}(hN:X.N[i]? = ζ x:=by rfl) (hv:vZ X.env.scope x:=by first|exact Or.inl rfl|exact Or.inr (Or.inl rfl)|exact Or.inr (Or.inr rfl)) (hd:(x==("__debug__":Str))=Γ:=by decide)
  (hcd:(x==("__classdict__":Str))=Γ:=by decide):aY X (.Name x pos) (ak i):=(Bx hN hv hd hcd).imp λσ H Q h=>by
 obtain⟨ρ,e,c,W,V,p⟩:=h;unfold ak at p;cases q:e[i]? with
 |none=>rw[q]at p;exact p.elim
 |some o =>
  rw[q]at p;cases o with
  |none=>exact p.elim
  |some d =>
   obtain⟨v,hv,r⟩:=V.get i d q;exact⟨v,hv,p.here W r⟩
theorem nc{e:ο}{v:V}{d:D}(h:PE X e (tC v)) (r:∀ρ H,Rel X.K ρ H d v):aY X e (dC d):=h.imp λσ H Q h=>by
 obtain⟨ρ,e,c,W,V,p⟩:=h;exact post.here (r:=r ρ H) p W
theorem aR{i j pos}:aY X (.Constant (.int i) j pos) (dC (.int i)):=nc BA λ_ _=>rfl
theorem iS{b j pos}:aY X (.Constant (.bool b) j pos) (dC (.bl b)):=nc BC λ_ _=>rfl
theorem rM{j pos}:aY X (.Constant .none j pos) (dC .aH):=nc Uw λ_ _=>rfl
theorem cj{x j pos}:aY X (.Constant (.str x) j pos) (dC (.str x)):=nc Us λ_ _=>rfl
theorem gh{x:Str}{n:String}{pos:Pos}(hg:Gl X x) (hm:X.mg x=η) (hv:bootBuiltins x=ζ (.type n)) (hn:x≠"__name__":=by decide) (hd:(x==("__debug__":Str))=Γ:=by decide):aY X (.Name x pos) (dC (.ty n)):=nc (Ur hg hm hv hn hd) λ_ _=>rfl
theorem UL{x:Str}{i:Int}{t:Tok}{pos:Pos}(hg:Gl X x) (hm:X.mg x=ζ (.int i t)) (hd:(x==("__debug__":Str))=Γ:=by decide):aY X (.Name x pos) (dC (.int i)):=nc (BB (v:=.int i) hg hm ⟨t,rfl⟩ hd) λ_ _=>rfl
end
end L2
namespace L2
open PySem PySem.Spec PyProof.Rows
def au(f:D->D->List Cell->R D) (a b:Ev->List Cell->R D):Ev->List Cell->R D:=λe c=>(a e c).bind λx c=>(b e c).bind λy c=>f x y c
def r2(K:Δ) (f:D->D->List Cell->R D):R2:=λv u H Q=>∃ρ x y c,Wd K ρ H c/\Rel K ρ H x v/\Rel K ρ H y u/\post K (Rel K) (f x y c) ρ H Q
def r1(K:Δ) (f:D->List Cell->R D):V->Hp->VK->Prop:=λv H Q=>∃ρ x c,Wd K ρ H c/\Rel K ρ H x v/\post K (Rel K) (f x c) ρ H Q
def rN(K:Δ) (f:List D->List Cell->R D):List V->Hp->VK->Prop:=λvs H Q=>∃ρ xs c,Wd K ρ H c/\aM K ρ H xs vs/\post K (Rel K) (f xs c) ρ H Q
def aF(f:List D->List Cell->R D) (a:Ev->List Cell->R (List D)):Ev->List Cell->R D:=λe c=>(a e c).bind λxs c=>f xs c
section
variable {X:Cx}{a b:ο}{da db dd:Ev->List Cell->R D}{pos:Pos}{K:Δ}{σ:St}{H:Hp}{Q:VK}{f:D->D->List Cell->R D}
theorem wZ(h:tD K (Rel K) (au f da db) σ H Q):tD K (Rel K) da σ H λv H1=>tD K (Rel K) db σ H1 λu H2=>r2 K f v u H2 Q:=by
 obtain⟨ρ,e,c,W,V,p⟩:=h;refine⟨ρ,e,c,W,V,post.bind p λx c1 aI H1 v _ W1 X1 r1 p1=>⟨aI,e,c1,W1,V.mono W X1,post.bind p1 λy c2 cN H2 u _ W2 X2 r2 p2=>⟨cN,x,y,c2,W2,Rel.mono W1 X2 _ _ r1,r2,p2⟩⟩⟩
theorem HC{g:List D->List Cell->R D}{ds:Ev->List Cell->R (List D)}(h:tD K (Rel K) (aF g ds) σ H Q):tD K (aM K) ds σ H λvs H1=>rN K g vs H1 Q:=by
 obtain⟨ρ,e,c,W,V,p⟩:=h;exact⟨ρ,e,c,W,V,post.bind p λx c1 aI H1 v _ W1 X1 r1 p1=>⟨aI,x,c1,W1,r1,p1⟩⟩
theorem bh{op:Operator}(ho:bR X (binaryOp op) (r2 X.K f)) (ha:aY X a da) (hb:aY X b db):aY X (.BinOp a op b pos) (au f da db):=(Ut ho ha hb).imp λσ H Q h=>wZ h
theorem iE{op:CmpOp}(ho:bR X (compareOp op) (r2 X.K f)) (ha:aY X a da) (hb:aY X b db) (hm:behindInMarks op b=Γ:=by first|exact Jt _|rfl):aY X (.Compare a [op] [b] pos) (au f da db):=(UB ho ha hb hm).imp λσ H Q h=>wZ h
theorem cu(hr:qb X (r2 X.K f)) (ha:aY X a da) (hb:aY X b db) (hs:M5 b:=by exact λ_ _=>rfl):aY X (.Subscript a b pos) (au f da db):=(By hr ha hb hs).imp λσ H Q h=>wZ h
def E9(f g:D->D->List Cell->R D) (a b d:Ev->List Cell->R D):Ev->List Cell->R D:=λe c=>(a e c).bind λx c=>(b e c).bind λy c=>(f x y c).bind λz c=>match z with
 |.bl Θ=>(d e c).bind λu c=>g y u c
 |.bl Γ=>.ok (.bl Γ) c
 |_=>.bad
end
def aq:Ev->List Cell->R (List D):=λ_ c=>.ok [] c
def ao(a:Ev->List Cell->R D) (r:Ev->List Cell->R (List D)):Ev->List Cell->R (List D):=λe c=>(a e c).bind λx c=>(r e c).bind λxs c=>.ok (x::xs) c
def cX(a:Ev->List Cell->R (List D)):Ev->List Cell->R D:=λe c=>(a e c).bind λxs c=>if xs.length<=Ω then .ok (.tup xs) c else .bad
def bx(a:Ev->List Cell->R (List D)):Ev->List Cell->R D:=λe c=>(a e c).bind λxs c=>if xs.length<=Ω then .ok (.lst xs) c else .bad
def er(a:Ev->List Cell->R (List D)):Ev->List Cell->R D:=λe c=>(a e c).bind λxs c=>if xs.length<=Ω/\bP xs=Θ then .ok (.ref c.length) (c++[.lst xs])else .bad
section
variable {X:Cx}{a:ο}{es:List ο}{da:Ev->List Cell->R D}{ds:Ev->List Cell->R (List D)}{pos:Pos}{K:Δ}{ρ:List Ξ}{H:Hp}{c:List Cell}{Q:VK}{xs:List D}{vs:List V}
theorem aB:iz X [] aq:=jC.imp λσ H Q h=>by
 obtain⟨ρ,e,c,W,V,p⟩:=h;exact post.here (b:=[]) p W rfl
theorem ay(ha:aY X a da) (hr:iz X es ds) (hs:μ (a::es) X.env=(Γ,eval a X.env)::μ es X.env:=by exact bS rfl):iz X (a::es) (ao da ds):=(iF ha hr hs).imp λσ H Q h=>by
 obtain⟨ρ,e,c,W,V,p⟩:=h;refine⟨ρ,e,c,W,V,post.bind p λx c1 aI H1 v _ W1 X1 r1 p1=>⟨aI,e,c1,W1,V.mono W X1,post.bind p1 λy c2 cN H2 u _ W2 X2 r2 p2=>?_⟩⟩
 exact p2.here W2 ⟨v,u,rfl,Rel.mono W1 X2 _ _ r1,r2⟩
theorem BS(W:Wd K ρ H c) (r:aM K ρ H xs vs) (p:post K (Rel K) (.ok (.tup xs) c) ρ H Q):∀q,H q=η->Q (.ref q) (upd H q (.tup vs)):=λq hq =>
 p ρ _ _ (W.fresh hq) (Ext.fresh W hq) ⟨q,vs,rfl,gI,aM.mono W (Ext.fresh W hq) _ _ r⟩
theorem yq(W:Wd K ρ H c) (r:aM K ρ H xs vs) (p:post K (Rel K) (.ok (.lst xs) c) ρ H Q):∀q,H q=η->Q (.ref q) (upd H q (.lst vs)):=λq hq =>
 p ρ _ _ (W.fresh hq) (Ext.fresh W hq) ⟨q,vs,rfl,⟨gI,W.nil hq⟩,aM.mono W (Ext.fresh W hq) _ _ r⟩
theorem BU(W:Wd K ρ H c) (nr:bP xs=Θ) (r:aM K ρ H xs vs) (p:post K (Rel K) (.ok (.ref c.length) (c++[.lst xs])) ρ H Q):∀q,H q=η->Q (.ref q) (upd H q (.lst vs)):=λq hq =>
 p (ρ++[q]) _ _ (W.cell hq nr r) (Ext.cell W hq) ⟨q,rfl,by rw[ahW (by rw[W.len];exact ahn _),W.len,aiZ];rfl⟩
theorem j3{x1}(h:iz X es ds):aY X (.Tuple es x1 pos) (cX ds):=(IQ h).imp λσ H Q h=>by
 obtain⟨ρ,e,c,W,V,p⟩:=h;refine⟨ρ,e,c,W,V,post.bind p λx c1 aI H1 v _ W1 X1 r1 p1=>?_⟩
 split at p1
 ·rename_i hl;exact⟨by rw[r1.length];exact hl,BS W1 r1 p1⟩
 ·exact p1.elim
theorem fK(h:iz X es ds):aY X (.List es pos) (bx ds):=(IT h).imp λσ H Q h=>by
 obtain⟨ρ,e,c,W,V,p⟩:=h;refine⟨ρ,e,c,W,V,post.bind p λx c1 aI H1 v _ W1 X1 r1 p1=>?_⟩
 split at p1
 ·rename_i hl;exact⟨by rw[r1.length];exact hl,yq W1 r1 p1⟩
 ·exact p1.elim
theorem kI(h:iz X es ds):aY X (.List es pos) (er ds):=(IT h).imp λσ H Q h=>by
 obtain⟨ρ,e,c,W,V,p⟩:=h;refine⟨ρ,e,c,W,V,post.bind p λx c1 aI H1 v _ W1 X1 r1 p1=>?_⟩
 split at p1
 ·rename_i hl;exact⟨by rw[r1.length];exact hl.1,BU W1 hl.2 r1 p1⟩
 ·exact p1.elim
end
def aX:D->D->List Cell->R D:=λx y c=>match x,y with
 |.int i,.int j=>.ok (.int (i+j)) c
 |.str a,.str b=>if a.length+b.length<=Ω then .ok (.str (a++b)) c else .bad
 |.tup l,.tup m=>if l.length≠0/\l.length+m.length<=Ω then .ok (.tup (l++m)) c else .bad
 |_,_=>.bad
def g8:D->D->List Cell->R D:=λx y c=>match x,y with
 |.int i,.int j=>.ok (.int (i-j)) c
 |_,_=>.bad
def eB:D->D->List Cell->R D:=λx y c=>match x,y with
 |.int i,.int j=>if(-(2^64)<i/\i<2^64)\/(-(2^64)<j/\j<2^64)then .ok (.int (i*j)) c else .bad
 |_,_=>.bad
def fq:D->D->List Cell->R D:=λx y c=>match x,y with
 |.int i,.int j=>if 0<j/\j<1073741824 then .ok (.int (i/j)) c else .bad
 |_,_=>.bad
def cV:D->D->List Cell->R D:=λx y c=>match x,y with
 |.int i,.int j=>if 0<j then .ok (.int (i % j)) c else .bad
 |_,_=>.bad
def rH:D->D->List Cell->R D:=λx y c=>match x,y with
 |.int i,.int j=>if 0<=j/\j<=1000000/\i.natAbs<2^64 then .ok (.int (i^j.toNat)) c else .bad
 |_,_=>.bad
def pN(p:Int->Int->Bool):D->D->List Cell->R D:=λx y c=>match x,y with
 |.int i,.int j=>.ok (.bl (p i j)) c
 |_,_=>.bad
section
variable {X:Cx}
theorem ef:bR X (binaryOp .Add) (r2 X.K aX):=by
 intro pins s σ H v u vv uu Q I rv ru h;obtain⟨ρ,x,y,c,W,rx,ry,p⟩:=h;unfold aX at p;split at p
 ·cases rx;cases ry;exact Vk pins s σ H _ _ vv uu Q I rv ru ⟨_,_,rfl,rfl,p.here W rfl⟩
 ·split at p
  ·rename_i hl;cases rx;cases ry;exact Jc pins s σ H _ _ vv uu Q I rv ru ⟨_,_,rfl,rfl,hl,p.here W rfl⟩
  ·exact p.elim
 ·split at p
  ·rename_i hl;obtain⟨a,xs,rfl,sa,ra⟩:=rx;obtain⟨b,ys,rfl,sb,rb⟩:=ry;refine Vh pins s σ H _ _ vv uu Q I rv ru ⟨a,b,xs,ys,rfl,rfl,eu.of sa,eu.of sb,λz=>hl.1 ?_,by rw[ra.length,rb.length];exact hl.2,λz=>?_,λ_=>BS W (ra.append rb) p⟩
   ·rw[<-ra.length,z];rfl
   ·refine p.here W ⟨a,xs++ys,rfl,by rw[z,aim];exact sa,ra.append rb⟩
  ·exact p.elim
 ·exact p.elim
theorem u5:bR X (binaryOp .Sub) (r2 X.K g8):=by
 intro pins s σ H v u vv uu Q I rv ru h;obtain⟨ρ,x,y,c,W,rx,ry,p⟩:=h;unfold g8 at p;split at p
 ·cases rx;cases ry;exact U3 pins s σ H _ _ vv uu Q I rv ru ⟨_,_,rfl,rfl,p.here W rfl⟩
 ·exact p.elim
theorem oQ:bR X (binaryOp .Mult) (r2 X.K eB):=by
 intro pins s σ H v u vv uu Q I rv ru h;obtain⟨ρ,x,y,c,W,rx,ry,p⟩:=h;unfold eB at p;split at p
 ·split at p
  ·rename_i hl;cases rx;cases ry;exact U8 pins s σ H _ _ vv uu Q I rv ru ⟨_,_,rfl,rfl,hl,p.here W rfl⟩
  ·exact p.elim
 ·exact p.elim
theorem u6:bR X (binaryOp .FloorDiv) (r2 X.K fq):=by
 intro pins s σ H v u vv uu Q I rv ru h;obtain⟨ρ,x,y,c,W,rx,ry,p⟩:=h;unfold fq at p;split at p
 ·split at p
  ·rename_i hl;cases rx;cases ry;exact Vf pins s σ H _ _ vv uu Q I rv ru ⟨_,_,rfl,rfl,hl,p.here W rfl⟩
  ·exact p.elim
 ·exact p.elim
theorem kK:bR X (binaryOp .Mod) (r2 X.K cV):=by
 intro pins s σ H v u vv uu Q I rv ru h;obtain⟨ρ,x,y,c,W,rx,ry,p⟩:=h;unfold cV at p;split at p
 ·split at p
  ·rename_i hl;cases rx;cases ry;exact U9 pins s σ H _ _ vv uu Q I rv ru ⟨_,_,rfl,rfl,hl,p.here W rfl⟩
  ·exact p.elim
 ·exact p.elim
theorem Jj:bR X (binaryOp .Pow) (r2 X.K rH):=by
 intro pins s σ H v u vv uu Q I rv ru h;obtain⟨ρ,x,y,c,W,rx,ry,p⟩:=h;unfold rH at p;split at p
 ·split at p
  ·rename_i hl;cases rx;cases ry;exact U5 pins s σ H _ _ vv uu Q I rv ru ⟨_,_,rfl,rfl,hl,p.here W rfl⟩
  ·exact p.elim
 ·exact p.elim
theorem ye{f:Ψ->Ψ->Sem Ψ}{q:Int->Int->Bool}(h:bR X f (j0 λi j=>.bl (q i j))):bR X f (r2 X.K (pN q)):=by
 intro pins s σ H v u vv uu Q I rv ru hh;obtain⟨ρ,x,y,c,W,rx,ry,p⟩:=hh;unfold pN at p;split at p
 ·cases rx;cases ry;exact h pins s σ H _ _ vv uu Q I rv ru ⟨_,_,rfl,rfl,p.here W rfl⟩
 ·exact p.elim
abbrev jG:=pN λi j=>decide (i<j)
abbrev B4:=pN λi j=>decide (i<=j)
abbrev gX:=pN λi j=>decide (j<i)
abbrev Lj:=pN λi j=>decide (j<=i)
theorem yd:bR X (compareOp .Lt) (r2 X.K jG):=ye Va
theorem Jk:bR X (compareOp .LtE) (r2 X.K B4):=ye Vb
theorem Jl:bR X (compareOp .Gt) (r2 X.K gX):=ye Vd
theorem Wz:bR X (compareOp .GtE) (r2 X.K Lj):=ye Ve
end
def Ez:D->D->Option Bool
 |.aH,.aH=>ζ Θ|.aH,.int _=>ζ Γ|.int _,.aH=>ζ Γ|.aH,.bl _=>ζ Γ|.bl _,.aH=>ζ Γ|.aH,.str _=>ζ Γ|.str _,.aH=>ζ Γ
 |.int i,.int j=>ζ (decide (i=j))|.bl a,.bl b=>ζ (decide (a=b))|.str x,.str y=>ζ (decide (x=y))
 |.int _,.str _=>ζ Γ|.str _,.int _=>ζ Γ|.bl _,.str _=>ζ Γ|.str _,.bl _=>ζ Γ
 |_,_=>η
def bT:D->D->List Cell->R D:=λx y c=>match Ez x y with
 |some b=>.ok (.bl b) c
 |none=>.bad
def cU:D->D->List Cell->R D:=λx y c=>match Ez x y with
 |some b=>.ok (.bl (!b)) c
 |none=>.bad
def iV:D->Bool
 |.aH=>Θ
 |_=>Γ
def jh:D->D->List Cell->R D:=λx y c=>match y with
 |.aH=>.ok (.bl (iV x)) c
 |_=>.bad
section
variable {X:Cx}{K:Δ}{ρ:List Ξ}{H:Hp}{c:List Cell}
theorem LM{x y:D}{v u:V}{b:Bool}(rx:Rel K ρ H x v) (ry:Rel K ρ H y u) (h:Ez x y=ζ b):Bg v u=Θ/\decide (v=u)=b:=by
 cases x<;>cases y<;>first
  |(cases rx;cases ry;cases h;refine⟨rfl,?_⟩;simp;done)
  |(cases h;done)
theorem gu:bR X (compareOp .Eq) (r2 X.K bT):=by
 intro pins s σ H v u vv uu Q I rv ru h;obtain⟨ρ,x,y,c,W,rx,ry,p⟩:=h;unfold bT at p;split at p
 ·rename_i b hb;obtain⟨h1,h2⟩:=LM rx ry hb;exact Vg pins s σ H _ _ vv uu Q I rv ru ⟨h1,by rw[h2];exact p.here W rfl⟩
 ·exact p.elim
theorem jD:bR X (compareOp .NotEq) (r2 X.K cU):=by
 intro pins s σ H v u vv uu Q I rv ru h;obtain⟨ρ,x,y,c,W,rx,ry,p⟩:=h;unfold cU at p;split at p
 ·rename_i b hb;obtain⟨h1,h2⟩:=LM rx ry hb;exact U7 pins s σ H _ _ vv uu Q I rv ru ⟨h1,by rw[h2];exact p.here W rfl⟩
 ·exact p.elim
theorem aah{x:D}{v:V}(rx:Rel K ρ H x v):decide (v=.aH)=iV x:=by
 cases x<;>first
  |(cases rx;rfl;done)
  |(cases rx;simp[iV];done)
  |(obtain⟨a,xs,rfl,_⟩:=rx;simp[iV];done)
  |(obtain⟨a,rfl,_⟩:=rx;simp[iV];done)
  |(obtain⟨a,o,q,c,cl,xs,rfl,_⟩:=rx;simp[iV];done)
theorem BK:bR X (compareOp .Is) (r2 X.K jh):=by
 intro pins s σ H v u vv uu Q I rv ru h;obtain⟨ρ,x,y,c,W,rx,ry,p⟩:=h;unfold jh at p;split at p
 ·cases ry;exact Vc pins s σ H _ _ vv uu Q I rv ru ⟨rfl,by rw[aah rx];exact p.here W rfl⟩
 ·exact p.elim
theorem UP{a b d:ο}{da db dd:Ev->List Cell->R D}{pos:Pos}{op op':CmpOp}{f g:D->D->List Cell->R D}(ho:bR X (compareOp op) (r2 X.K f)) (ho':bR X (compareOp op') (r2 X.K g)) (ha:aY X a da) (hb:aY X b db) (hd:aY X d dd)
  (h1:lastMarks [op,op'] [b,d]=Γ:=by with_unfolding_all rfl) :
  aY X (.Compare a [op,op'] [b,d] pos) (E9 f g da db dd):=(UC ho ho' ha hb hd h1).imp λσ H Q h=>by
 obtain⟨ρ,e,c,W,V,p⟩:=h;refine⟨ρ,e,c,W,V,post.bind p λx c1 aI H1 v _ W1 X1 r1 p1=>⟨aI,e,c1,W1,V.mono W X1,post.bind p1 λy c2 cN H2 u _ W2 X2 r2 p2=>⟨cN,x,y,c2,W2,Rel.mono W1 X2 _ _ r1,r2,post.bind p2 λz c3 ug H3 w _ W3 X3 r3 p3=>?_⟩⟩⟩
 have V3:=(V.mono W X1).mono W1 (X2.trans X3);cases z with
 |bl k =>
  cases r3;refine⟨k,rfl,?_⟩;cases k with
  |true =>
   refine pA ⟨ug,e,c3,W3,V3,post.bind p3 λt c4 uf H4 w4 _ W4 X4 r4 p4=>⟨uf,y,t,c4,W4,Rel.mono W2 (X3.trans X4) _ _ r2,r4,p4⟩⟩
  |false=>exact pB (p3.here W3 rfl)
 |_=>exact p3.elim
end
def gp(c:List Cell):D->Option (List D)
 |.tup l=>ζ l
 |.lst l=>ζ l
 |.bw l=>ζ (l.map D.int)
 |.ref k=>match c[k]? with
  |some (.lst l)=>ζ l
  |none=>η
 |_=>η
def aG:D->D->List Cell->R D:=λx y c=>match y with
 |.int i=>match gp c x with
  |some l=>match cM l i with
   |some d=>.ok d c
   |none=>.bad
  |none=>.bad
 |_=>.bad
section
variable {X:Cx}{K:Δ}{ρ:List Ξ}{H:Hp}{c:List Cell}
theorem xx{x:D}{v:V}{l:List D}(W:Wd K ρ H c) (rx:Rel K ρ H x v) (h:gp c x=ζ l):∃a xs,v=.ref a/\(bW K H a xs\/eu K H a xs)/\aM K ρ H l xs:=by
 cases x with
 |tup m =>
  cases h;obtain⟨a,xs,e,s,r⟩:=rx;exact⟨a,xs,e,.inr (eu.of s),r⟩
 |lst m =>
  cases h;obtain⟨a,xs,e,s,r⟩:=rx;exact⟨a,xs,e,.inl (bW.of s.1),r⟩
 |bw m =>
  cases h;obtain⟨a,e,s⟩:=rx;exact⟨a,_,e,.inl s.sql,aM.ints⟩
 |ref k =>
  obtain⟨a,e,s⟩:=rx;unfold gp at h;dsimp only at h;cases hc:c[k]? with
  |none=>rw[hc]at h;cases h
  |some cl =>
   cases cl with
   |lst m =>
    rw[hc]at h;cases h;obtain⟨_,xs,hx,r⟩:=W.fH k a _ s hc;exact⟨a,xs,e,.inl (bW.of hx),r⟩
 |_=>cases h
theorem aes{l:List D}{xs:List V}{i:Int}{d:D}(r:aM K ρ H l xs) (h:cM l i=ζ d):∃v,cM xs i=ζ v/\Rel K ρ H d v:=by
 unfold cM at h ⊢;rw[r.length];cases e:gi l.length i with
 |none=>rw[e]at h;cases h
 |some j =>
  rw[e]at h;exact r.get (i:=j) h
theorem cI:qb X (r2 X.K aG):=by
 intro value slice pins s σ H v u vv uu Q I rv ru h hs;obtain⟨ρ,x,y,c,W,rx,ry,p⟩:=h;unfold aG at p;split at p
 ·split at p
  ·rename_i l hl;split at p
   ·rename_i d hd;cases ry;obtain⟨a,xs,rfl,sq,r⟩:=xx W rx hl;obtain⟨w,hw,rw'⟩:=aes r hd
    rcases sq with sq|sq
    ·exact Z9 value slice pins s σ H _ _ vv uu Q I rv ru ⟨a,xs,_,w,rfl,rfl,sq,hw,p.here W rw'⟩ hs
    ·exact Dp value slice pins s σ H _ _ vv uu Q I rv ru ⟨a,xs,_,w,rfl,rfl,sq,hw,p.here W rw'⟩ hs
   ·exact p.elim
  ·exact p.elim
 ·exact p.elim
end
def aJ(a:Ev->List Cell->R D):Ev->List Cell->R Bool:=λe c=>(a e c).bind λx c=>match x with
 |.bl b=>.ok b c
 |_=>.bad
def kh(a b:Ev->List Cell->R Bool):Ev->List Cell->R Bool:=λe c=>(a e c).bind λx c=>if x=Θ then b e c else .ok Γ c
def fG(a b:Ev->List Cell->R Bool):Ev->List Cell->R Bool:=λe c=>(a e c).bind λx c=>if x=Θ then .ok Θ c else b e c
def eO(a:Ev->List Cell->R Bool):Ev->List Cell->R Bool:=λe c=>(a e c).bind λx c=>.ok (!x) c
def fY(a b:Ev->List Cell->R D):Ev->List Cell->R D:=λe c=>(a e c).bind λx c=>match x with
 |.bl k=>if k=Θ then b e c else .ok (.bl Γ) c
 |_=>.bad
def jN(a:Ev->List Cell->R D):Ev->List Cell->R D:=λe c=>(a e c).bind λx c=>match x with
 |.bl k=>.ok (.bl (!k)) c
 |_=>.bad
section
variable {X:Cx}{a b c':ο}{da db:Ev->List Cell->R D}{ta tb:Ev->List Cell->R Bool}{pos:Pos}{rest:List ο}
theorem MS(h:tD X.K (λ_ _ a b=>a=b) (aJ da) σ H Q):tD X.K (Rel X.K) da σ H λx H'=>∃k,x=.bl k/\Q k H':=by
 obtain⟨ρ,e,c,W,V,p⟩:=h;refine⟨ρ,e,c,W,V,post.bind p λx c1 aI H1 v _ W1 X1 r1 p1=>?_⟩
 cases x with
 |bl k=>cases r1;exact⟨k,rfl,p1.here W1 rfl⟩
 |_=>exact p1.elim
theorem gV(ha:aY X a da) (he:∀whole,isTrue a X.env whole=(do let v <-whole;standAt a.pos;holding [v] (truthy v)):=by intro _;rfl):jR X a (aJ da):=(SK ha he).imp λσ H Q h=>MS h
theorem dJ{op:CmpOp}{f:D->D->List Cell->R D}(ho:bR X (compareOp op) (r2 X.K f)) (ha:aY X a da) (hb:aY X b db) (hm:behindInMarks op b=Γ:=by first|exact Jt _|rfl):jR X (.Compare a [op] [b] pos) (aJ (au f da db)) :=
 (SN ho ha hb hm).imp λσ H Q h=>wZ (Q:=λx H'=>∃k,x=.bl k/\Q k H') (MS h)
theorem IY(ha:jR X a ta):tZ X (.BoolOp .And [a] pos) ta:=SI ha
theorem oO(ha:jR X a ta):tZ X (.BoolOp .Or [a] pos) ta:=SG ha
theorem IX(ha:jR X a ta) (hb:tZ X (.BoolOp .And (b::rest) pos) tb):tZ X (.BoolOp .And (a::b::rest) pos) (kh ta tb):=(SJ ha hb).imp λσ H Q h=>by
 obtain⟨ρ,e,c,W,V,p⟩:=h;refine⟨ρ,e,c,W,V,post.bind p λx c1 aI H1 v _ W1 X1 r1 p1=>?_⟩
 cases r1;cases x with
 |true=>exact pA ⟨aI,e,c1,W1,V.mono W X1,p1⟩
 |false=>exact pB (post.here (a:=Γ) p1 W1 rfl)
theorem oN(ha:jR X a ta) (hb:tZ X (.BoolOp .Or (b::rest) pos) tb):tZ X (.BoolOp .Or (a::b::rest) pos) (fG ta tb):=(SH ha hb).imp λσ H Q h=>by
 obtain⟨ρ,e,c,W,V,p⟩:=h;refine⟨ρ,e,c,W,V,post.bind p λx c1 aI H1 v _ W1 X1 r1 p1=>?_⟩
 cases r1;cases x with
 |true=>exact pA (post.here (a:=Θ) p1 W1 rfl)
 |false=>exact pB ⟨aI,e,c1,W1,V.mono W X1,p1⟩
theorem j4(ha:jR X a ta):jR X (.UnaryOp .Not a pos) (eO ta):=(SM ha).imp λσ H Q h=>by
 obtain⟨ρ,e,c,W,V,p⟩:=h;refine⟨ρ,e,c,W,V,post.bind p λx c1 aI H1 v _ W1 X1 r1 p1=>?_⟩
 cases r1;exact p1.here W1 rfl
theorem jz{op}(h:aY X a da):aY X (.BoolOp op [a] pos) da:=Uu h
theorem jf(ha:aY X a da) (hb:aY X (.BoolOp .And (b::rest) pos) db):aY X (.BoolOp .And (a::b::rest) pos) (fY da db):=(UI ha hb).imp λσ H Q h=>by
 obtain⟨ρ,e,c,W,V,p⟩:=h;refine⟨ρ,e,c,W,V,post.bind p λx c1 aI H1 v _ W1 X1 r1 p1=>?_⟩
 cases x with
 |bl k =>
  cases r1;refine⟨k,rfl,?_⟩;cases k with
  |true=>exact pA ⟨aI,e,c1,W1,V.mono W X1,p1⟩
  |false=>exact pB (post.here (a:=D.bl Γ) p1 W1 rfl)
 |_=>exact p1.elim
theorem uV(ha:aY X a da):aY X (.UnaryOp .Not a pos) (jN da):=(Uv ha).imp λσ H Q h=>by
 obtain⟨ρ,e,c,W,V,p⟩:=h;refine⟨ρ,e,c,W,V,post.bind p λx c1 aI H1 v _ W1 X1 r1 p1=>?_⟩
 cases x with
 |bl k=>cases r1;exact⟨k,rfl,p1.here W1 rfl⟩
 |_=>exact p1.elim
end
inductive Fl where
 |nx (e:Ev)|rt (d:D)|bk (e:Ev)|ct (e:Ev)
abbrev aa:=List Cell
abbrev af:=Ev->List Cell->R D
abbrev ah:=Ev->List Cell->R Fl
abbrev ai:=Ev->List Cell->R Bool
abbrev aj:=Ev->List Cell->R (List D)
inductive FV where
 |nx (σ:St)|rt (v:V)|bk (σ:St)|ct (σ:St)
def nW(K:Δ) (ρ:List Ξ) (H:Hp):Fl->FV->Prop
 |.nx e,f=>∃σ,f=.nx σ/\dX K ρ H e σ
 |.rt d,f=>∃v,f=.rt v/\Rel K ρ H d v
 |.bk e,f=>∃σ,f=.bk σ/\dX K ρ H e σ
 |.ct e,f=>∃σ,f=.ct σ/\dX K ρ H e σ
def En(Z:Ends):FV->Hp->Prop
 |.nx σ,H=>Z.nx σ H
 |.rt v,H=>Z.rt v H
 |.bk σ,H=>Z.bk σ H
 |.ct σ,H=>Z.ct σ H
def AY(K:Δ) (d:ah):TS:=λZ σ H=>tD K (nW K) d σ H (En Z)
abbrev jt(X:Cx) (st:aav) (d:ah):Prop:=PS X st (AY X.K d)
abbrev cA(X:Cx) (st:List aav) (d:ah):Prop:=fu X st (AY X.K d)
def bL:ah:=λe c=>.ok (.nx e) c
def aD(a b:ah):ah:=λe c=>(a e c).bind λf c=>match f with
 |.nx e=>b e c
 |f=>.ok f c
def aP(a:af):ah:=λe c=>(a e c).bind λx c=>.ok (.rt x) c
def dS(a:af):ah:=λe c=>(a e c).bind λ_ c=>.ok (.nx e) c
def bz(t:ai) (a b:ah):ah:=λe c=>(t e c).bind λx c=>if x=Θ then a e c else b e c
def aE(i:Nat) (a:af):ah:=λe c=>(a e c).bind λx c=>.ok (.nx (e.set i (ζ x))) c
def je:ah:=λ_ _=>.bad
section
variable {X:Cx}{st:aav}{rest:List aav}{t u:ah}{e:ο}{da:af}{pos:Pos}
theorem fh:cA X [] bL:=SQ.imp λZ σ H h=>by
 obtain⟨ρ,e,c,W,V,p⟩:=h;exact p.here W ⟨σ,rfl,V⟩
theorem aU(h1:jt X st t) (h2:cA X rest u):cA X (st::rest) (aD t u):=(rF h1 h2).imp λZ σ H h=>by
 obtain⟨ρ,e,c,W,V,p⟩:=h;refine⟨ρ,e,c,W,V,post.bind p λf c1 aI H1 b _ W1 X1 r1 p1=>?_⟩
 cases f with
 |nx e1=>obtain⟨σ1,rfl,V1⟩:=r1;exact⟨aI,e1,c1,W1,V1,p1⟩
 |rt d=>obtain⟨v,rfl,V1⟩:=r1;exact post.here (Q:=En Z) (show post X.K (nW X.K) (.ok (Fl.rt d) c1) aI H1 (En Z)from p1) W1 ⟨_,rfl,V1⟩
 |bk e1=>obtain⟨σ1,rfl,V1⟩:=r1;exact post.here (Q:=En Z) (show post X.K (nW X.K) (.ok (Fl.bk e1) c1) aI H1 (En Z)from p1) W1 ⟨_,rfl,V1⟩
 |ct e1=>obtain⟨σ1,rfl,V1⟩:=r1;exact post.here (Q:=En Z) (show post X.K (nW X.K) (.ok (Fl.ct e1) c1) aI H1 (En Z)from p1) W1 ⟨_,rfl,V1⟩
theorem aZ(h1:jt X st t):cA X [st] t:=Iu h1
theorem xy:jt X st je:=λ_ _ _ _ _ _ h=>by
 obtain⟨ρ,e,c,W,V,p⟩:=h;exact p.elim
theorem cg(he:aY X e da):jt X (.Return (ζ e) pos) (aP da):=(Iz he).imp λZ σ H h=>by
 obtain⟨ρ,e,c,W,V,p⟩:=h;refine⟨ρ,e,c,W,V,post.bind p λx c1 aI H1 v _ W1 X1 r1 p1=>p1.here W1 ⟨v,rfl,r1⟩⟩
theorem kE(he:aY X e da) (hs:swapsWith e η pos.line X.env=pure Γ:=by rfl):jt X (.Expr e pos) (dS da):=(SY he hs).imp λZ σ H h=>by
 obtain⟨ρ,e,c,W,V,p⟩:=h;refine⟨ρ,e,c,W,V,post.bind p λx c1 aI H1 v _ W1 X1 r1 p1=>p1.here W1 ⟨σ,rfl,V.mono W X1⟩⟩
theorem d9{c':ο}{a b:List aav}{tc:ai}(hc:jR X c' tc) (ha:cA X a t) (hb:cA X b u):jt X (.If c' a b pos) (bz tc t u):=(IA hc ha hb).imp λZ σ H h=>by
 obtain⟨ρ,e,c,W,V,p⟩:=h;refine⟨ρ,e,c,W,V,post.bind p λx c1 aI H1 v _ W1 X1 r1 p1=>?_⟩
 cases r1;cases x with
 |true=>exact pA ⟨aI,e,c1,W1,V.mono W X1,p1⟩
 |false=>exact pB ⟨aI,e,c1,W1,V.mono W X1,p1⟩
theorem bK{i:Nat}{x:Str}{pos':Pos}(he:aY X e da) (hN:X.N.Nodup:=by decide +kernel) (hi:X.N[i]? = ζ x:=by rfl) (hx:Loc X.env.scope x:=by first|exact Or.inl rfl|exact Or.inr rfl) (hs:swapsWith e (ζ (.Name x pos')) pos.line X.env=pure Γ:=by rfl)
  (hf:X.fn x=Θ\/X.env.scope.names.lookup x=ζ .local:=by first|exact .inl rfl|exact .inr rfl):jt X (.Assign [.Name x pos'] e pos) (aE i da):=(Iw hN hi hx he hs).imp λZ σ H h=>by
 obtain⟨ρ,e,c,W,V,p⟩:=h;refine⟨ρ,e,c,W,V,post.bind p λx c1 aI H1 v _ W1 X1 r1 p1=>p1.here W1 ⟨_,rfl,(V.mono W X1).set r1 i⟩⟩
end
abbrev Gd:=D->Ev->aa->R Ev
def xg(K:Δ) (g:Gd):TG:=λv σ H Q=>∃ρ x e c,Wd K ρ H c/\dX K ρ H e σ/\Rel K ρ H x v/\post K (λρ H e σ=>dX K ρ H e σ) (g x e c) ρ H Q
def Qm(K:Δ) (g:List D->Ev->aa->R Ev):mF:=λvs σ H Q=>∃ρ xs e c,Wd K ρ H c/\dX K ρ H e σ/\aM K ρ H xs vs/\post K (λρ H e σ=>dX K ρ H e σ) (g xs e c) ρ H Q
abbrev nZ(X:Cx) (e:ο) (g:Gd):Prop:=PG X e (xg X.K g)
abbrev zZ(X:Cx) (es:List ο) (g:List D->Ev->aa->R Ev):Prop:=nY X es (Qm X.K g)
def az(i:Nat):Gd:=λx e c=>.ok (e.set i (ζ x)) c
def iu:List D->Ev->aa->R Ev:=λxs e c=>match xs with
 |[]=>.ok e c
 |_=>.bad
def eg(g:Gd) (r:List D->Ev->aa->R Ev):List D->Ev->aa->R Ev:=λxs e c=>match xs with
 |x::xs=>(g x e c).bind λe c=>r xs e c
 |_=>.bad
def gY(n:Nat) (g:List D->Ev->aa->R Ev):Gd:=λx e c=>match x with
 |.tup l=>if l.length=n then g l e c else .bad
 |_=>.bad
theorem PG.imp{X:Cx}{e:ο}{t t':TG}(h:PG X e t) (i:∀v σ H Q,t' v σ H Q->t v σ H Q):PG X e t':=λpins s σ H x u Q I r q=>h pins s σ H x u Q I r (i _ _ _ _ q)
theorem nY.imp{X:Cx}{es:List ο}{t t':mF}(h:nY X es t) (i:∀v σ H Q,t' v σ H Q->t v σ H Q):nY X es t':=λpins s σ H x u Q I r q=>h pins s σ H x u Q I r (i _ _ _ _ q)
section
variable {X:Cx}{pos:Pos}
theorem b9{i:Nat}{x:Str}(hN:X.N.Nodup:=by decide +kernel) (hi:X.N[i]? = ζ x:=by rfl) (hx:Loc X.env.scope x:=by first|exact Or.inl rfl|exact Or.inr rfl) (hf:X.fn x=Θ\/X.env.scope.names.lookup x=ζ .local:=by first|exact .inl rfl|exact .inr rfl):nZ X (.Name x pos) (az i) :=
 (IP hN hi hx hf).imp λv σ H Q h=>by
  obtain⟨ρ,x,e,c,W,V,r,p⟩:=h;exact p.here W (V.set r i)
theorem DI:zZ X [] iu:=Ul.imp λv σ H Q h=>by
 obtain⟨ρ,xs,e,c,W,V,r,p⟩:=h;cases xs with
 |nil=>exact⟨r,p.here W V⟩
 |cons x xs=>exact p.elim
theorem sF{e:ο}{es:List ο}{g:Gd}{u:List D->Ev->aa->R Ev}(h1:nZ X e g) (h2:zZ X es u) (hs:(assignEach (e::es) X.env).map (·.2)=assign e X.env::(assignEach es X.env).map (·.2):=by rfl):zZ X (e::es) (eg g u) :=
 (Um h1 h2 hs).imp λv σ H Q h=>by
  obtain⟨ρ,xs,e,c,W,V,r,p⟩:=h;cases xs with
  |nil=>exact p.elim
  |cons x xs =>
   obtain⟨y,ys,rfl,rx,rs⟩:=r;exact⟨y,ys,rfl,ρ,x,e,c,W,V,rx,post.bind p λe1 c1 aI H1 σ1 _ W1 X1 V1 p1=>⟨aI,xs,e1,c1,W1,V1,aM.mono W X1 _ _ rs,p1⟩⟩
theorem DJ{es:List ο}{k:Nat}{g:List D->Ev->aa->R Ev}{n:Nat}(h:zZ X es g) (hc:X.calm=Θ:=by rfl) (hn:(assignEach es X.env).length=n:=by rfl) (hst:(assignEach es X.env).findIdx? (·.1)=η:=by rfl):nZ X (.Tuple es k pos) (gY n g) :=
 (Uo hc h hn hst).imp λv σ H Q h=>by
  obtain⟨ρ,x,e,c,W,V,r,p⟩:=h;cases x with
  |tup l =>
   obtain⟨a,xs,rfl,s,rs⟩:=r;unfold gY at p;dsimp only at p;split at p
   ·rename_i hl;exact⟨a,xs,rfl,eu.of s,rs.length.trans hl,ρ,l,e,c,W,V,rs,p⟩
   ·exact p.elim
  |_=>exact p.elim
def fS(a:af) (g:Gd):ah:=λe c=>(a e c).bind λx c=>(g x e c).bind λe c=>.ok (.nx e) c
theorem mY{tg e:ο}{da:af}{g:Gd}(he:aY X e da) (hg:nZ X tg g) (hs:swapsWithSole [tg] e pos.line X.env=pure Γ:=by rfl) (hw:swappedStores [tg] e X.env=pure η:=by rfl)
  (h1:(assignEach [tg] X.env).map (·.2)=[assign tg X.env]:=by rfl):jt X (.Assign [tg] e pos) (fS da g):=(S0 he hg hs hw h1).imp λZ σ H h=>by
 obtain⟨ρ,e,c,W,V,p⟩:=h;refine⟨ρ,e,c,W,V,post.bind p λx c1 aI H1 v _ W1 X1 r1 p1=>⟨aI,x,e,c1,W1,V.mono W X1,r1,post.bind p1 λe2 c2 cN H2 σ2 _ W2 X2 V2 p2=>p2.here W2 ⟨σ2,rfl,V2⟩⟩⟩
def kD:D->D->D->aa->R Unit:=λo i v c=>match o,i with
 |.ref k,.int i=>match c[k]? with
  |some (.lst l)=>match gi l.length i with
   |some j=>if noRef v=Θ then .ok () (c.set k (.lst (l.set j v)))else .bad
   |none=>.bad
  |none=>.bad
 |_,_=>.bad
def fV(o i:af):Gd:=λx e c=>(o e c).bind λo c=>(i e c).bind λi c=>(kD o i x c).bind λ_ c=>.ok e c
theorem nG{o i:ο}{dO di:af}(ho:aY X o dO) (hi:aY X i di)
  (ha:∀v,assign (.Subscript o i pos) X.env v=(do
   let ov <-holding [v] (eval o X.env)
   let iv <-holding [v,ov] (eval i X.env)
   standAt pos
   holding [v,ov,iv] (setItem ov iv v)
   release [v,ov,iv] []):=by intro _;rfl):nZ X (.Subscript o i pos) (fV dO di):=(Uq ho hi set_list ha).imp λv σ H Q h=>by
 obtain⟨ρ,x,e,c,W,V,rx,p⟩:=h;refine⟨ρ,e,c,W,V,post.bind p λo c1 aI H1 ov _ W1 X1 r1 p1=>⟨aI,e,c1,W1,V.mono W X1,post.bind p1 λi c2 cN H2 iv _ W2 X2 r2 p2=>?_⟩⟩
 have V2:=(V.mono W X1).mono W1 X2;have RP:=Rel.mono W (X1.trans X2) _ _ rx;have ro:=Rel.mono W1 X2 _ _ r1;unfold kD at p2;split at p2
 ·rename_i k i _ _;split at p2
  ·rename_i l hl;split at p2
   ·rename_i j hj;split at p2
    ·rename_i hv;obtain⟨a,rfl,ha⟩:=ro;cases r2;obtain⟨nr,ys,hy,rl⟩:=W2.fH k a _ ha hl;refine⟨a,ys,i,j,rfl,rfl,hy,by rw[rl.length];exact hj,?_⟩
     exact p2 cN _ σ (W2.write ha (Jx nr hv) (rl.set j RP)) (Ext.write ha) (V2.mono W2 (Ext.write ha))
    ·exact p2.elim
   ·exact p2.elim
  ·exact p2.elim
 ·exact p2.elim
end
structure Src where
 items:List D
 stays:aa->Prop
def JS(K:Δ) (ρ:List Ξ) (H:Hp) (s:Src) (J:It):Prop :=
 ∀ρ' H' c',Wd K ρ' H' c'->Ext ρ H ρ' H'->s.stays c'->∀i:Nat,
  (∀d,s.items[i]? = ζ d->J.go i H'/\∀x H2,J.qd i H' x H2->Wd K ρ' H2 c'/\Ext ρ' H' ρ' H2/\Rel K ρ' H2 d x)/\(i=s.items.length->J.stop i H')
def HG(K:Δ) (d:Ev->aa->R Src):TI:=tD K (JS K) d
abbrev PId(X:Cx) (tg iter:ο) (d:Ev->aa->R Src):Prop:=PI X tg iter (HG X.K d)
theorem PI.imp{X:Cx}{tg iter:ο}{t t':TI}(h:PI X tg iter t) (i:∀σ H Q,t' σ H Q->t σ H Q):PI X tg iter t':=λpins s σ H Q I q=>h pins s σ H Q I (i _ _ _ q)
def cS(a:af):Ev->aa->R Src:=λe c=>(a e c).bind λx c=>match x with
 |.lst l=>.ok ⟨l,λ_=>True⟩ c
 |.bw l=>.ok ⟨l.map D.int,λ_=>True⟩ c
 |.ref k=>match c[k]? with
  |some (.lst l)=>.ok ⟨l,λc=>c[k]? = ζ (.lst l)⟩ c
  |none=>.bad
 |_=>.bad
def aL(lo hi:Int):List D:=(ε (hi-lo).toNat).map fun(i:Nat)=>D.int (lo+(i:Int))
def bG(a:aj):Ev->aa->R Src:=λe c=>(a e c).bind λxs c=>match xs with
 |[.int j]=>if -(2^62)<=j/\j<2^62 then .ok ⟨aL 0 j,λ_=>True⟩ c else .bad
 |_=>.bad
def cY(a:aj):Ev->aa->R Src:=λe c=>(a e c).bind λxs c=>match xs with
 |[.int i,.int j]=>if -(2^62)<=i/\i<2^62/\-(2^62)<=j/\j<2^62 then .ok ⟨aL i j,λ_=>True⟩ c else .bad
 |_=>.bad
section
variable {X:Cx}{tg:ο}{K:Δ}{ρ:List Ξ}{H:Hp}
theorem Dl{l:List D}{a:Ξ}{st:aa->Prop}(h:∀ρ' H' c',Wd K ρ' H' c'->Ext ρ H ρ' H'->st c'->∃xs,bW K H' a xs/\aM K ρ' H' l xs):JS K ρ H ⟨l,st⟩ (uc K a):=by
 intro ρ' H' c' W E s i;obtain⟨xs,q,r⟩:=h ρ' H' c' W E s;refine⟨λd hd=>?_,λe=>⟨xs,q,by rw[r.length];exact aiz e.symm⟩⟩
 obtain⟨x,hx,rx⟩:=r.get hd;refine⟨⟨xs,x,q,hx⟩,λy H2 hy=>?_⟩
 obtain⟨rfl,hy⟩:=hy;have:=hy xs q;rw[hx]at this;cases this;exact⟨W,Ext.refl,rx⟩
theorem jV{lo hi:Int}{i:Nat}{d:D}(h:(aL lo hi)[i]? = ζ d):i<(hi-lo).toNat/\d=.int (lo+i):=by
 unfold aL at h;rw[ahS]at h;cases q:(ε (hi-lo).toNat)[i]? with
 |none=>rw[q]at h;cases h
 |some j =>
  rw[q]at h;have h1:=(ahz.mp q);obtain⟨h2,h3⟩:=h1;rw[aji]at h3;subst h3;cases h;exact⟨by simpa using h2,rfl⟩
theorem Ko{lo hi:Int}{st:aa->Prop}:JS K ρ H ⟨aL lo hi,st⟩ (wj lo (hi-lo).toNat):=by
 intro ρ' H' c' W E s i;refine⟨λd hd=>?_,λe=>?_⟩
 ·obtain⟨h1,rfl⟩:=jV hd;refine⟨h1,λx H2 hy=>?_⟩
  obtain⟨rfl,rfl⟩:=hy;exact⟨W,Ext.refl,rfl⟩
 ·have:(aL lo hi).length=(hi-lo).toNat:=by simp[aL]
  show(hi-lo).toNat<=i;rw[e];exact aiz this.symm
theorem k7{l:ο}{dl:af}(hl:aY X l dl):PId X tg l (cS dl):=(II hl).imp λσ H Q h=>by
 obtain⟨ρ,e,c,W,V,p⟩:=h;refine⟨ρ,e,c,W,V,post.bind p λx c1 aI H1 v _ W1 X1 r1 p1=>?_⟩
 cases x with
 |lst l =>
  obtain⟨a,xs,rfl,s,rs⟩:=r1;exact⟨a,rfl,⟨xs,bW.of s.1⟩,p1.here W1 (Dl λρ' H' c' W' E _=>⟨xs,bW.of (J4 E s).1,aM.mono W1 E _ _ rs⟩)⟩
 |bw l =>
  obtain⟨a,rfl,s⟩:=r1;exact⟨a,rfl,⟨_,s.sql⟩,p1.here W1 (Dl λρ' H' c' W' E _=>⟨_,(HV E s).sql,aM.ints⟩)⟩
 |ref k =>
  obtain⟨a,rfl,ha⟩:=r1;dsimp only at p1;split at p1
  ·rename_i l hl;obtain⟨_,xs,hx,rs⟩:=W1.fH k a _ ha hl;refine⟨a,rfl,⟨xs,bW.of hx⟩,p1.here W1 (Dl λρ' H' c' W' E st=>?_)⟩
   obtain⟨_,ys,hy,rs'⟩:=W'.fH k a _ (E.pre k a ha) st;exact⟨ys,bW.of hy,rs'⟩
  ·exact p1.elim
 |_=>exact p1.elim
theorem fm{a:ο}{da:aj}{p pos:Pos}(ha:iz X [a] da) (hm:X.mg "range"=η) (hg:Gl X "range":=by rfl) (hs:μ [a] X.env=[(Γ,eval a X.env)]:=by exact uI rfl):PId X tg (.Call (.Name "range" p) [a] [] pos) (bG da) :=
 (Uj hg hm ha hs).imp λσ H Q h=>by
  obtain⟨ρ,e,c,W,V,p⟩:=h;refine⟨ρ,e,c,W,V,post.bind p λx c1 aI H1 v _ W1 X1 r1 p1=>?_⟩
  split at p1
  ·rename_i j _;split at p1
   ·rename_i hj;obtain⟨y,ys,rfl,ry,rs⟩:=r1;cases ry;cases rs;refine⟨j,rfl,hj.1,hj.2,p1.here W1 ?_⟩;have:=Ko (K:=X.K) (ρ:=aI) (H:=H1) (lo:=0) (hi:=j) (st:=λ_=>True)
    rw[Int.sub_zero]at this;exact this
   ·exact p1.elim
  ·exact p1.elim
theorem ji{a b:ο}{da:aj}{p pos:Pos}(ha:iz X [a,b] da) (hm:X.mg "range"=η) (hg:Gl X "range":=by rfl) (hs:μ [a,b] X.env=[(Γ,eval a X.env),(Γ,eval b X.env)]:=by exact A8 rfl rfl) (hs2:μ [b] X.env=[(Γ,eval b X.env)]:=by exact uI rfl):PId X tg (.Call (.Name "range" p) [a,b] [] pos) (cY da) :=
 (Ui hg hm ha hs hs2).imp λσ H Q h=>by
  obtain⟨ρ,e,c,W,V,p⟩:=h;refine⟨ρ,e,c,W,V,post.bind p λx c1 aI H1 v _ W1 X1 r1 p1=>?_⟩
  split at p1
  ·rename_i i j _;split at p1
   ·rename_i hj;obtain⟨y,ys,rfl,ry,z,zs,rfl,rz,rs⟩:=r1;cases ry;cases rz;cases rs;exact⟨i,j,rfl,hj,p1.here W1 Ko⟩
   ·exact p1.elim
  ·exact p1.elim
theorem ZW{l m:List D}{a b:Ξ}{st:aa->Prop}(h:∀ρ' H' c',Wd K ρ' H' c'->Ext ρ H ρ' H'->st c'->∃xs ys,eu K H' a xs/\eu K H' b ys/\aM K ρ' H' l xs/\aM K ρ' H' m ys):JS K ρ H ⟨List.zipWith (λx y=>.tup [x,y]) l m,st⟩ (z7 (eu K) a b):=by
 intro ρ' H' c' W E s i;obtain⟨xs,ys,q1,q2,r1,r2⟩:=h ρ' H' c' W E s;refine⟨λd hd=>?_,λe=>⟨xs,ys,q1,q2,?_⟩⟩
 ·have hd:(List.zipWith (λx y=>D.tup [x,y]) l m)[i]? = ζ d:=hd
  rw[akD]at hd;cases e1:l[i]? with
  |none=>rw[e1]at hd;cases hd
  |some x =>
   cases e2:m[i]? with
   |none=>rw[e1,e2]at hd;cases hd
   |some y =>
    rw[e1,e2]at hd;cases hd;obtain⟨v,hv,rv⟩:=r1.get e1;obtain⟨u,hu,ru⟩:=r2.get e2;refine⟨⟨xs,ys,v,u,q1,q2,hv,hu⟩,λz H2 hz=>?_⟩
    obtain⟨t,v',u',rfl,ht,rfl,hz⟩:=hz;obtain⟨z1,z2⟩:=hz xs ys q1 q2;rw[hv]at z1;rw[hu]at z2;cases z1;cases z2;exact⟨W.fresh ht,Ext.fresh W ht,t,[v,u],rfl,gI,v,[u],rfl,Rel.mono W (Ext.fresh W ht) _ _ rv,u,[],rfl,Rel.mono W (Ext.fresh W ht) _ _ ru,rfl⟩
 ·have e:i=(List.zipWith (λx y=>D.tup [x,y]) l m).length:=e
  rw[akE]at e;rw[r1.length,r2.length];omega
open Classical in
def cJ(st:aa->Prop) (g:Gd) (b:ah):List D->ah
 |[],e,c=>if st c then .ok (.nx e) c else .bad
 |x::xs,e,c=>if st c then(g x e c).bind λe c=>(b e c).bind λf c=>match f with
   |.nx e=>cJ st g b xs e c
   |.ct e=>cJ st g b xs e c
   |.bk e=>.ok (.nx e) c
   |.rt d=>.ok (.rt d) c
  else .bad
def bU(s:Ev->aa->R Src) (g:Gd) (b:ah):ah:=λe c=>(s e c).bind λs c=>cJ s.stays g b s.items e c
theorem gq{iter:ο}{body:List aav}{ds:Ev->aa->R Src}{g:Gd}{db:ah}{pos:Pos}(hi:PId X tg iter ds) (hg:nZ X tg g) (hb:cA X body db) (hp:PassesOwn (model X.prog X.w) X.A X.env X.xe:=by exact PassesOwn.never) (hc:X.calm=Θ:=by rfl)
  (hs:∀x,foldedSetIterable iter X.env x=pure x:=by intro _;rfl):jt X (.For tg iter body [] pos) (bU ds g db):=(IB hp hc hi hg hb hs).imp λZ σ H h=>by
 obtain⟨ρ,e,c,W,V,p⟩:=h;refine⟨ρ,e,c,W,V,post.bind p λs c1 aI H1 J _ W1 X1 j1 p1=>?_⟩
 refine⟨λi m σ H=>∃ρ e c,Wd X.K ρ H c/\Ext aI H1 ρ H/\dX X.K ρ H e σ/\i<=s.items.length/\m=s.items.length-i/\post X.K (nW X.K) (cJ s.stays g db (s.items.drop i) e c) ρ H (En Z),
  ⟨_,aI,e,c1,W1,Ext.refl,V.mono W X1,aiv _,rfl,p1⟩,?_⟩
 rintro i m σ2 H2 ⟨cN,e2,c2,W2,X2,V2,hi2,rfl,p2⟩
 by_cases hl:i<s.items.length
 ·rw[akF hl]at p2;unfold cJ at p2;split at p2
  ·rename_i hst;obtain⟨go,yl⟩:=(j1 cN H2 c2 W2 X2 hst i).1 _ (ahI hl);refine .inr ⟨go,λσ' H'=>∃ρ e c,Wd X.K ρ H' c/\Ext aI H1 ρ H'/\dX X.K ρ H' e σ'/\i+1<=s.items.length/\post X.K (nW X.K) (cJ s.stays g db (s.items.drop (i+1)) e c) ρ H' (En Z),?_,λx H3 hy=>?_⟩
   ·rintro σ' H' ⟨ρ,e,c,w,x,v,l,q⟩
    exact⟨s.items.length-(i+1),by omega,ρ,e,c,w,x,v,l,rfl,q⟩
   ·obtain⟨W3,X3,r3⟩:=yl x H3 hy;refine⟨cN,_,e2,c2,W3,V2.mono W2 X3,r3,post.bind (post.ext p2 X3) λe4 c4 uf H4 NU _ W4 X4 V4 p4=>?_⟩
    refine⟨uf,e4,c4,W4,V4,post.bind p4 λf c5 om H5 b _ W5 X5 r5 p5=>?_⟩
    have vY:=((X2.trans X3).trans X4).trans X5;cases f with
    |nx e1=>obtain⟨σ1,rfl,V1⟩:=r5;exact⟨om,e1,c5,W5,vY,V1,hl,p5⟩
    |ct e1=>obtain⟨σ1,rfl,V1⟩:=r5;exact⟨om,e1,c5,W5,vY,V1,hl,p5⟩
    |bk e1=>obtain⟨σ1,rfl,V1⟩:=r5;exact post.here (Q:=En Z) (show post X.K (nW X.K) (.ok (Fl.nx e1) c5) om H5 (En Z)from p5) W5 ⟨_,rfl,V1⟩
    |rt d=>obtain⟨v,rfl,V1⟩:=r5;exact post.here (Q:=En Z) (show post X.K (nW X.K) (.ok (Fl.rt d) c5) om H5 (En Z)from p5) W5 ⟨_,rfl,V1⟩
  ·exact p2.elim
 ·obtain rfl:i=s.items.length:=by omega
  rw[akG (ahn _)]at p2;unfold cJ at p2;split at p2
  ·rename_i hst;exact .inl ⟨(j1 cN H2 c2 W2 X2 hst _).2 rfl,post.here (Q:=En Z) p2 W2 ⟨σ2,rfl,V2⟩⟩
  ·exact p2.elim
end
def ee(pick:List (Option Nat)) (e:Ev):Ev:=pick.map λo=>o.bind λj=>(e[j]?).bind id
open Classical in
def bC(st:aa->Prop) (g:Gd) (t:ai) (el:af):List D->Ev->List D->aa->R (List D)
 |[],e,acc,c=>if st c then .ok acc c else .bad
 |x::xs,e,acc,c=>if st c then(g x e c).bind λe c=>(t e c).bind λk c=>if k=Θ then(el e c).bind λy c=>bC st g t el xs e (acc++[y]) c else bC st g t el xs e acc c else .bad
def br(s:Ev->aa->R Src) (pick:List (Option Nat)) (g:Gd) (t:ai) (el:af):af:=λe c=>(s e c).bind λs c =>
 if s.items.length<Ω then(bC s.stays g t el s.items (ee pick e) [] c).bind λl c=>.ok (.lst l) c else .bad
def aW:ai:=λ_ c=>.ok Θ c
abbrev zY(X:Cx) (ifs:List ο) (t:ai):Prop:=qa X ifs (tD X.K (λ_ _ a b=>a=b) t)
section
variable {X:Cx}{N':List Str}{pick:List (Option Nat)}{scope:aaA}{tg elt iter:ο}{ifs:List ο}{pos:Pos}{ds:Ev->aa->R Src}{g:Gd}{dt:ai}{de:af}
theorem gg:zY X [] aW:=λpins s σ H Q I h=>by
 obtain⟨ρ,e,c,W,V,p⟩:=h;exact Uc pins s σ H Q I (post.here (b:=Θ) p W rfl)
theorem kH{c':ο}(h:jR X c' dt):zY X [c'] dt:=Ub h
theorem dX.picked{K:Δ}{ρ:List Ξ}{H:Hp}{e:Ev}{σ:St}(V:dX K ρ H e σ):dX K ρ H (ee pick e) (kC pick σ):=by
 refine⟨λi d h=>?_,by simp[ee,kC]⟩
 unfold ee at h;unfold kC;rw[ahS]at h ⊢;cases q:pick[i]? with
 |none=>rw[q]at h;cases h
 |some o =>
  rw[q]at h;cases o with
  |none=>cases h
  |some j =>
   have h':(e[j]?).bind id=ζ d:=ahA h;cases q2:e[j]? with
   |none=>rw[q2]at h';cases h'
   |some z =>
    rw[q2]at h';have h'':z=ζ d:=h';subst h'';obtain⟨v,hv,r⟩:=V.get j d q2;exact⟨v,by simp[hv],r⟩
theorem adJ{K:Δ}{aI:List Ξ}{H1:Hp}{c1:aa}{e:Ev}{σ:St}{s:Src}{J:It}{Q:VK}(W1:Wd K aI H1 c1) (V1:dX K aI H1 e σ) (j1:JS K aI H1 s J) (hn:s.items.length<Ω)
  (p1:post K (Rel K) ((bC s.stays g dt de s.items e [] c1).bind λl c=>.ok (.lst l) c) aI H1 Q):NQ J (xg K g) (tD K (λ_ _ a b=>a=b) dt) (tD K (Rel K) de) Q σ H1:=by
 refine⟨λi m σ ys H=>∃ρ e acc c,Wd K ρ H c/\Ext aI H1 ρ H/\dX K ρ H e σ/\aM K ρ H acc ys/\acc.length<=i/\i<=s.items.length/\m=s.items.length-i/\post K (Rel K) ((bC s.stays g dt de (s.items.drop i) e acc c).bind λl c=>.ok (.lst l) c) ρ H Q,
  ⟨_,aI,e,[],c1,W1,Ext.refl,V1,rfl,ahn _,aiv _,rfl,p1⟩,?_⟩
 rintro i m σ2 ys H2 ⟨cN,e2,acc,c2,W2,X2,V2,r2,ha,hi2,rfl,p2⟩
 refine⟨by rw[r2.length];omega,?_⟩
 by_cases hl:i<s.items.length
 ·rw[akF hl]at p2;unfold bC at p2;split at p2
  ·rename_i hst;obtain⟨go,yl⟩:=(j1 cN H2 c2 W2 X2 hst i).1 _ (ahI hl);refine .inr ⟨go,λσ' ys' H'=>∃ρ e acc c,Wd K ρ H' c/\Ext aI H1 ρ H'/\dX K ρ H' e σ'/\aM K ρ H' acc ys'/\acc.length<=i+1/\i+1<=s.items.length/\post K (Rel K) ((bC s.stays g dt de (s.items.drop (i+1)) e acc c).bind λl c=>.ok (.lst l) c) ρ H' Q,?_,λx H3 hy=>?_⟩
   ·rintro σ' ys' H' ⟨ρ,e,acc,c,w,x,v,r,a,l,q⟩
    exact⟨s.items.length-(i+1),by omega,ρ,e,acc,c,w,x,v,r,a,l,rfl,q⟩
   ·obtain⟨W3,X3,r3⟩:=yl x H3 hy;have assoc:∀{α β γ:Type}(r:R α) (f:α->aa->R β) (g:β->aa->R γ),(r.bind f).bind g=r.bind λa c=>(f a c).bind g:=λr f g=>by cases r<;>rfl
    rw[assoc]at p2;refine⟨cN,_,e2,c2,W3,V2.mono W2 X3,r3,post.bind (post.ext p2 X3) λe4 c4 uf H4 NU _ W4 X4 V4 p4=>?_⟩
    rw[assoc]at p4;refine⟨uf,e4,c4,W4,V4,post.bind p4 λk c5 om H5 b _ W5 X5 r5 p5=>?_⟩
    cases r5;have vY:=((X2.trans X3).trans X4).trans X5;have Ir:=aM.mono W2 ((X3.trans X4).trans X5) _ _ r2;cases k with
    |true =>
     refine pA ?_;rw[if_pos rfl,assoc]at p5;refine⟨om,e4,c5,W5,V4.mono W4 X5,post.bind p5 λy c6 NV H6 v _ W6 X6 r6 p6=>?_⟩
     refine⟨NV,e4,acc++[y],c6,W6,vY.trans X6,(V4.mono W4 X5).mono W5 X6,(aM.mono W5 X6 _ _ Ir).append ⟨v,[],rfl,r6,rfl⟩,by simp;exact ha,hl,p6⟩
    |false =>
     refine pB ?_;rw[if_neg ahO]at p5;exact⟨om,e4,acc,c5,W5,vY,V4.mono W4 X5,Ir,Nat.le_succ_of_le ha,hl,p5⟩
  ·exact p2.elim
 ·obtain rfl:i=s.items.length:=by omega
  rw[akG (ahn _)]at p2;unfold bC at p2;split at p2
  ·rename_i hst;exact .inl ⟨(j1 cN H2 c2 W2 X2 hst _).2 rfl,yq W2 r2 p2⟩
  ·exact p2.elim
theorem Ma{σ:St}{H:Hp}{Q:VK}{K:Δ}(h:tD K (Rel K) (br ds pick g dt de) σ H Q):A0 (HG K ds) pick (xg K g) (tD K (λ_ _ a b=>a=b) dt) (tD K (Rel K) de) σ H Q:=by
 obtain⟨ρ,e,c,W,V,p⟩:=h;refine⟨ρ,e,c,W,V,post.bind p λs c1 aI H1 J _ W1 X1 j1 p1=>?_⟩
 split at p1
 ·rename_i hn;exact adJ W1 (V.mono W X1).picked j1 hn p1
 ·exact p1.elim
theorem fT(S:cP X N' pick scope) (hit:PId X tg iter ds)
  (hg:∀cl C s₀ H₀ ex pn,nZ (fZ X N' scope cl C s₀ H₀ ex pn) tg g) (hi:∀cl C s₀ H₀ ex pn,zY (fZ X N' scope cl C s₀ H₀ ex pn) ifs dt) (he:∀cl C s₀ H₀ ex pn,aY (fZ X N' scope cl C s₀ H₀ ex pn) elt de)
  (hc:X.calm=Θ:=by rfl) (hs:∀x,foldedSetIterable iter X.env x=pure x:=by intro _;rfl) :
  aY X (.ListComp elt [⟨tg,iter,ifs,0⟩] scope pos) (br ds pick g dt de):=(UA S hc hit hg hi he hs).imp λσ H Q h=>Ma h
theorem mX{i:Nat}{y:Str}{py spos:Pos}(S:cP X N' pick scope) (hit:PId X tg iter ds)
  (hg:∀cl C s₀ H₀ ex pn,nZ (fZ X N' scope cl C s₀ H₀ ex pn) tg g) (hi:∀cl C s₀ H₀ ex pn,zY (fZ X N' scope cl C s₀ H₀ ex pn) ifs dt) (he:∀cl C s₀ H₀ ex pn,aY (fZ X N' scope cl C s₀ H₀ ex pn) elt de)
  (hsw:swapsWith (.ListComp elt [⟨tg,iter,ifs,0⟩] scope pos) (ζ (.Name y py)) spos.line X.env=pure Θ:=by rfl) (hN:X.N.Nodup:=by decide +kernel) (hy:X.N[i]? = ζ y:=by rfl) (hl:X.env.scope.names.lookup y=ζ .local:=by rfl)
  (hc:X.calm=Θ:=by rfl) (hs:∀x,foldedSetIterable iter X.env x=pure x:=by intro _;rfl) :
  jt X (.Assign [.Name y py] (.ListComp elt [⟨tg,iter,ifs,0⟩] scope pos) spos) (aE i (br ds pick g dt de)):=(SW (g:=xg X.K g) (tt:=tD X.K (λ_ _ a b=>a=b) dt) (te:=tD X.K (Rel X.K) de) hsw hN hy hl S hc hit hg hi he hs).imp λZ σ H h=>by
 refine Ma (g:=g) (dt:=dt) (de:=de) ?_;obtain⟨ρ,e,c,W,V,p⟩:=h;refine⟨ρ,e,c,W,V,post.bind p λx c1 aI H1 v _ W1 X1 r1 p1=>p1.here W1 ⟨_,rfl,(V.mono W X1).set r1 i⟩⟩
end
def bY(K:Δ) (n:Nat) (m:List D->aa->R D):Sp:=λvs H Q _=>∃ρ xs c,Wd K ρ H c/\aM K ρ H xs vs/\xs.length=n/\post K (Rel K) (m xs c) ρ H Q
def aC(n:Nat) (m:List D->aa->R D) (a:aj):af:=λe c=>(a e c).bind λxs c=>if xs.length=n then m xs c else .bad
def cH(n:Nat) (xs:List D):Ev:=xs.map ζ++π (n-xs.length) η
def dF(own:Bool) (n:Nat) (v:D) (c:aa):R D:=match v with
 |.ref k=>match c[k]? with
  |some (.lst l)=>if n<=k then(if own=Θ then .ok (.ref n) (c.take n++[.lst l])else .ok (.lst l) (c.take n))else .bad
  |none=>.bad
 |v=>if noRef v=Θ then .ok v (c.take n)else .bad
def cB(n:Nat) (own:Bool) (d:ah):List D->aa->R D:=λxs c=>(d (cH n xs) c).bind λf c'=>match f with
 |.rt v=>dF own c.length v c'
 |.nx _=>dF own c.length .aH c'
 |_=>.bad
section
variable {P:τ}{w:ω}{K:Δ}{mg:Str->Option Ψ}{base:υ}
theorem sH{own:Bool}{ρ aI:List Ξ}{H H1:Hp}{c c1:aa}{v:D}{x:V}{Q:VK}(W:Wd K ρ H c) (W1:Wd K aI H1 c1) (X1:Ext ρ H aI H1) (r:Rel K aI H1 v x) (p:post K (Rel K) (dF own c.length v c1) ρ H Q):Q x H1:=by
 have hn:=Ext.len W W1 X1;have Wc:=W1.cut hn;have Xc:=X1.cut (n:=c.length) (aiz W.len);unfold dF at p;split at p
 ·rename_i k;split at p
  ·rename_i l hl;split at p
   ·rename_i hk;obtain⟨a,rfl,ha⟩:=r;obtain⟨nr,xs,hx,rl⟩:=W1.fH k a _ ha hl;have na:a∉aI.take c.length:=by
     intro h;obtain⟨j,hj,e⟩:=aiq.mp h;have hj2:j<c.length:=by simp at hj;omega
     rw[akH]at e;have hk1:=ahz.mp ha;have hjl:j<aI.length:=by simp at hj;omega
     have:=(aiT W1.nd (h₀:=hjl) (h₁:=hk1.1)).mp (e.trans hk1.2.symm);omega
    have sub:∀b,b∈aI.take c.length->b∈aI:=λb h=>ahU h
    split at p
    ·have lr:(aI.take c.length).length=c.length:=by simp[W1.len];omega
     refine p (aI.take c.length++[a]) H1 (.ref a) ?_ ?_ ⟨a,rfl,?_⟩
     ·refine⟨?_,by simp[W1.len],λj b cl e1 e2=>?_,W1.tab⟩
      ·rw[ajR];refine⟨Wc.nd,by simp,?_⟩
       intro y hy z hz;rw[aiA]at hz;subst hz;exact λq=>na (q▸hy)
      ·by_cases hj:j<c.length
       ·rw[ahY (by rw[lr];exact hj)]at e1
        rw[ahY (by simp;omega)]at e2
        have q:=Wc.fH j b cl e1 e2;cases cl with
        |lst l' =>
         obtain⟨j5,ys,hy,r'⟩:=q;refine⟨j5,ys,hy,aM.low (ρ:=aI) (λz hz=>?_) l' ys j5 ?_⟩
         ·rcases ahT.mp hz with hz|hz
          ·exact sub z hz
          ·rw[aiA]at hz;subst hz;exact ahP ha
         ·have e1':aI[j]? = ζ b:=by rw[ajh,if_pos hj]at e1;exact e1
          have e2':c1[j]? = ζ (.lst l'):=by rw[ajh,if_pos hj]at e2;exact e2
          obtain⟨_,zs,hz,rz⟩:=W1.fH j b _ e1' e2';rw[hy]at hz;cases hz;exact rz
       ·have hj':j=c.length:=by
         have:=(ahz.mp e1).1;rw[ahC,lr]at this;simp at this;omega
        subst hj';rw[ahW (by rw[lr];exact ahn _),lr,aiZ]at e1
        rw[ahW (by simp;omega),show c.length-(List.take c.length c1).length=0 by simp;omega]at e2
        cases e1;cases e2;refine⟨nr,xs,hx,aM.low (ρ:=aI) (λz hz=>?_) l xs nr rl⟩
        rcases ahT.mp hz with hz|hz
        ·exact sub z hz
        ·rw[aiA]at hz;subst hz;exact ahP ha
     ·refine⟨λj b e=>?_,λb o e z t=>?_⟩
      ·have q:=Xc.pre j b e;rw[ahY (ahz.mp q).1];exact q
      ·obtain⟨h1,h2⟩:=X1.keep b o e z t;refine⟨h1,λq=>h2 ?_⟩
       rcases ahT.mp q with q|q
       ·exact sub b q
       ·rw[aiA]at q;subst q;exact ahP ha
     ·rw[ahW (by rw[lr];exact ahn _),lr,aiZ];rfl
    ·exact p (aI.take c.length) H1 (.ref a) Wc Xc ⟨a,xs,rfl,⟨hx,na⟩,aM.low sub l xs nr rl⟩
   ·exact p.elim
  ·exact p.elim
 ·split at p
  ·rename_i hv;exact p _ H1 x Wc Xc (Rel.low (λb h=>ahU h) _ _ hv r)
  ·exact p.elim
theorem dX.start{ρ:List Ξ}{H:Hp}{xs:List D}{vs:List V}{N:List Str}(r:aM K ρ H xs vs):dX K ρ H (cH N.length xs) (start N vs):=by
 have hl:=r.length;refine⟨λi d h=>?_,by simp[cH,L2.start,hl]⟩
 unfold cH at h;unfold L2.start
 by_cases hi:i<xs.length
 ·rw[ahY (by simpa using hi),ahS]at h
  cases q:xs[i]? with
  |none=>rw[q]at h;cases h
  |some x =>
   rw[q]at h;cases h;obtain⟨v,hv,rv⟩:=r.get q;exact⟨v,by rw[ahY (by simp[hl];exact hi),ahS,hv];rfl,rv⟩
 ·rw[ahW (by simpa using ajK hi)]at h
  have:=ahP h;rw[List.mem_replicate]at this;cases this.2
theorem ek{x qual:Str}{st:aav}{f:Ξ}{fd:ν}{N ps:List Str}{k n m:Nat}{own:Bool}{d:ah}(F:jS K x qual st f fd) (S:cK N ps (aV st)) (hN:N.length=n) (hm:ps.length=m)
  (hb:∀(cdv:Ψ) (A:ψ) (outer:List Env) (s:ι) (H:Hp) (E:XK),dg k (A.deeper (envOfC qual (aV st) s.heap.objs.size f cdv))->cA (fP bQ P w K mg base N qual (aV st) f cdv A outer s H E).eS (cF st) d) :
  bX P w K mg base bQ (k+1) f fd ps (bY K m (cB n own d)):=by
 subst hN;subst hm;refine F.ok S (λvs H Q E h=>?_) (λcdv A outer s H vs Q E hr h=>⟨_,hb cdv A outer s H E hr,?_⟩)
 ·obtain⟨ρ,xs,c,W,r,hl,p⟩:=h;exact r.length.trans hl
 ·obtain⟨ρ,xs,c,W,r,hl,p⟩:=h;refine⟨ρ,cH N.length xs,c,W,dX.start r,post.bind p λfl c1 aI H1 b _ W1 X1 r1 p1=>?_⟩
  cases fl with
  |nx e1 =>
   obtain⟨σ1,rfl,V1⟩:=r1;exact sH (v:=.aH) (x:=.aH) (H1:=H1) W W1 X1 rfl (by
    unfold cB at p;exact id (α:=post K (Rel K) (dF own c.length .aH c1) ρ H Q) (by
     rename_i he;rw[he]at p;exact p))
  |rt d =>
   obtain⟨v,rfl,V1⟩:=r1;exact sH (v:=d) (x:=v) (H1:=H1) W W1 X1 V1 (by
    unfold cB at p;rename_i he;rw[he]at p;exact p)
  |bk e1=>exact p1.elim
  |ct e1=>exact p1.elim
end
section
variable {X:Cx}
theorem bH{x:Str}{st:aav}{ps:List Str}{f:Ξ}{fd:ν}{k n:Nat}{m:List D->aa->R D}{e:ο}{es:List ο}{da:aj}{p pos:Pos}(D:Def X.K X.mg x st ps f fd) (G:bX X.prog X.w X.K X.mg X.base bQ k f fd ps (bY X.K n m)) (hr:dg k X.A) (ha:iz X (e::es) da) (hg:Gl X x:=by rfl)
  (hdb:(x==("__debug__":Str))=Γ:=by decide) (he:μ (e::es) X.env=(Γ,eval e X.env)::μ es X.env:=by exact bS rfl) (hpl:(aab pos (μ es X.env)).any (·.1)=Γ:=by exact g9 rfl) :
  aY X (.Call (.Name x p) (e::es) [] pos) (aC n m da):=(Uy D G hr ha hg hdb he hpl).imp λσ H Q h=>by
 obtain⟨ρ,e,c,W,V,q⟩:=h;refine⟨ρ,e,c,W,V,post.bind q λxs c1 aI H1 vs _ W1 X1 r1 p1=>?_⟩
 split at p1
 ·rename_i hl;exact⟨aI,xs,c1,W1,by rw[aim];exact r1,hl,p1⟩
 ·exact p1.elim
theorem bB{id:String}{x:Str}{p pos:Pos}{e:ο}{es:List ο}{da:aj}{f:List D->aa->R D}(hc:eF X (.builtin id) (rN X.K f)) (hm:X.mg x=η) (hv:bootBuiltins x=ζ (.builtin id)) (ha:iz X (e::es) da) (hg:Gl X x:=by rfl) (hn:x≠"__name__":=by decide) (hdb:(x==("__debug__":Str))=Γ:=by decide)
  (he:μ (e::es) X.env=(Γ,eval e X.env)::μ es X.env:=by exact bS rfl) (hpl:(aab pos (μ es X.env)).any (·.1)=Γ:=by exact g9 rfl):aY X (.Call (.Name x p) (e::es) [] pos) (aF f da):=(UG hc hg hm hv ha hn hdb he hpl).imp λσ H Q h=>HC h
theorem jB{T:String}{x:Str}{p pos:Pos}{e:ο}{es:List ο}{da:aj}{f:List D->aa->R D}(hc:eF X (.type T) (rN X.K f)) (hm:X.mg x=η) (hv:bootBuiltins x=ζ (.type T)) (ha:iz X (e::es) da) (hg:Gl X x:=by rfl) (hn:x≠"__name__":=by decide) (hdb:(x==("__debug__":Str))=Γ:=by decide)
  (he:μ (e::es) X.env=(Γ,eval e X.env)::μ es X.env:=by exact bS rfl) (hpl:(aab pos (μ es X.env)).any (·.1)=Γ:=by exact g9 rfl):aY X (.Call (.Name x p) (e::es) [] pos) (aF f da):=(UD hc hg hm hv ha hn hdb he hpl).imp λσ H Q h=>HC h
end
def aT:List D->aa->R D:=λxs c=>match xs with
 |[x]=>match gp c x with
  |some l=>.ok (.int l.length) c
  |none=>match x with
   |.str z=>if z.length<=Ω then .ok (.int z.length) c else .bad
   |_=>.bad
 |_=>.bad
def Hj:D->Option String
 |.aH=>ζ "NoneType"
 |.bl _=>ζ "bool"
 |.int _=>ζ "int"
 |.str _=>ζ "str"
 |.tup _=>ζ "tuple"
 |.lst _=>ζ "list"
 |.ref _=>ζ "list"
 |_=>η
def bN:List D->aa->R D:=λxs c=>match xs with
 |[.gQ,.ty T]=>if T∈["bool","int","str","list","tuple","dict"]then .ok (.bl (uG "dict" T)) c else .bad
 |[x,.ty T]=>match Hj x with
  |some n=>if T∈["bool","int","str","list","tuple","dict"]then .ok (.bl (uG n T)) c else .bad
  |none=>.bad
 |_=>.bad
def ki:List D->Option (List Bool)
 |[]=>ζ []
 |.bl b::l=>(ki l).map (b :: ·)
 |_=>η
theorem zT(l:List Bool):ki (l.map D.bl)=ζ l:=by
 induction l with
 |nil=>rfl
 |cons a l ih=>simp[ki,ih]
theorem vR:∀{l:List D}{bs:List Bool},ki l=ζ bs->l=bs.map D.bl
 |[],bs,h=>by cases h;rfl
 |d::l,bs,h=>by
  cases d with
  |bl b =>
   unfold ki at h;cases q:ki l with
   |none=>rw[q]at h;cases h
   |some r=>rw[q]at h;cases h;rw[vR q];rfl
  |_=>cases h
def m8(f:List Bool->Bool):List D->aa->R D:=λxs c=>match xs with
 |[.lst l]=>match ki l with
  |some bs=>.ok (.bl (f bs)) c
  |none=>.bad
 |_=>.bad
def gS:=m8 λbs=>bs.all id
def pY:=m8 λbs=>bs.any id
def rW:List D->aa->R D:=λxs c=>match xs with
 |[.int i,.int j]=>.ok (.int (if j>i then j else i)) c
 |_=>.bad
def fM:List D->aa->R D:=λxs c=>match xs with
 |[.int i,.int j]=>.ok (.int (if j<i then j else i)) c
 |_=>.bad
def gf:List D->aa->R D:=λxs c=>match xs with
 |[x]=>match gp c x with
  |some l=>.ok (.tup l) c
  |none=>.bad
 |_=>.bad
section
variable {X:Cx}{K:Δ}{ρ:List Ξ}{H:Hp}{c:aa}
theorem eU:eF X (.builtin "len") (rN X.K aT):=by
 intro pins s σ H vs us Q I rv h;obtain⟨ρ,xs,c,W,rx,p⟩:=h;unfold aT at p;split at p
 ·rename_i x;obtain⟨v,r,rfl,hx,hr⟩:=rx;cases hr;split at p
  ·rename_i l hl;obtain⟨a,ys,rfl,sq,r⟩:=xx W hx hl;exact ad3 pins s σ H _ us Q I rv ⟨a,ys,rfl,sq,by rw[r.length];exact p.here W rfl⟩
  ·split at p
   ·split at p
    ·rename_i hz;cases hx;exact ad2 pins s σ H _ us Q I rv ⟨_,rfl,hz,p.here W rfl⟩
    ·exact p.elim
   ·exact p.elim
 ·exact p.elim
theorem Pr{x:D}{v:V}{n:String}(W:Wd K ρ H c) (rx:Rel K ρ H x v) (h:Hj x=ζ n):tyName H v n:=by
 cases x with
 |aH=>cases rx;cases h;exact rfl
 |bl b=>cases rx;cases h;exact rfl
 |int b=>cases rx;cases h;exact rfl
 |str b=>cases rx;cases h;exact rfl
 |tup l=>obtain⟨a,xs,rfl,s,r⟩:=rx;cases h;exact .inr (.inl ⟨rfl,xs,s⟩)
 |lst l=>obtain⟨a,xs,rfl,s,r⟩:=rx;cases h;exact .inl ⟨rfl,.inl ⟨xs,s.1⟩⟩
 |ref k =>
  obtain⟨a,rfl,s⟩:=rx;cases h;obtain⟨xs,e⟩:=W.at' (ahP s);exact .inl ⟨rfl,.inl ⟨xs,e⟩⟩
 |_=>cases h
theorem gC:eF X (.builtin "isinstance") (rN X.K bN):=by
 intro pins s σ H vs us Q I rv h;obtain⟨ρ,xs,c,W,rx,p⟩:=h;unfold bN at p;split at p
 ·split at p
  ·rename_i hT;obtain⟨v,r,rfl,⟨a,rfl,hH⟩,u,r',rfl,hu,hr⟩:=rx;cases hr;cases hu;obtain⟨u1,u2,rfl,r1,r2⟩:=Vals.two rv;cases r1;cases r2;obtain⟨hp,_,_⟩:=I.hok a _ hH;exact ah3 ajE I.eE hp (Kg (n:="dict") (by simp) hT) (λz=>nomatch z) λtk=>⟨.bl _,H,I.tok _,rfl,p.here W rfl⟩
  ·exact p.elim
 ·split at p
  ·rename_i n hn;split at p
   ·rename_i hT;obtain⟨v,r,rfl,hx,u,r',rfl,hu,hr⟩:=rx;cases hr;cases hu;exact ad4 pins s σ H _ us Q I rv ⟨v,n,_,rfl,Pr W hx hn,hT,p.here W rfl⟩
   ·exact p.elim
  ·exact p.elim
 ·exact p.elim
theorem Fg(hc:X.calm=Θ:=by rfl):eF X (.builtin "all") (rN X.K gS):=by
 intro pins s σ H vs us Q I rv h;obtain⟨ρ,xs,c,W,rx,p⟩:=h;unfold gS m8 at p;split at p
 ·split at p
  ·rename_i bs hb;obtain⟨v,r,rfl,⟨a,ys,rfl,s1,r1⟩,hr⟩:=rx;cases hr;rw[vR hb]at r1;cases r1.F7;exact ad6 hc pins s σ H _ us Q I rv ⟨a,bs,rfl,bW.of s1.1,p.here W rfl⟩
  ·exact p.elim
 ·exact p.elim
theorem adS(hc:X.calm=Θ:=by rfl):eF X (.builtin "any") (rN X.K pY):=by
 intro pins s σ H vs us Q I rv h;obtain⟨ρ,xs,c,W,rx,p⟩:=h;unfold pY m8 at p;split at p
 ·split at p
  ·rename_i bs hb;obtain⟨v,r,rfl,⟨a,ys,rfl,s1,r1⟩,hr⟩:=rx;cases hr;rw[vR hb]at r1;cases r1.F7;exact ad5 hc pins s σ H _ us Q I rv ⟨a,bs,rfl,bW.of s1.1,p.here W rfl⟩
  ·exact p.elim
 ·exact p.elim
theorem adO(hc:X.calm=Θ:=by rfl):eF X (.builtin "max") (rN X.K rW):=by
 intro pins s σ H vs us Q I rv h;obtain⟨ρ,xs,c,W,rx,p⟩:=h;unfold rW at p;split at p
 ·obtain⟨v,r,rfl,hx,u,r',rfl,hu,hr⟩:=rx;cases hr;cases hx;cases hu;exact ad0 hc pins s σ H _ us Q I rv ⟨_,_,rfl,p.here W rfl⟩
 ·exact p.elim
theorem sP(hc:X.calm=Θ:=by rfl):eF X (.builtin "min") (rN X.K fM):=by
 intro pins s σ H vs us Q I rv h;obtain⟨ρ,xs,c,W,rx,p⟩:=h;unfold fM at p;split at p
 ·obtain⟨v,r,rfl,hx,u,r',rfl,hu,hr⟩:=rx;cases hr;cases hx;cases hu;exact adZ hc pins s σ H _ us Q I rv ⟨_,_,rfl,p.here W rfl⟩
 ·exact p.elim
theorem vO:eF X (.type "tuple") (rN X.K gf):=by
 intro pins s σ H vs us Q I rv h;obtain⟨ρ,xs,c,W,rx,p⟩:=h;unfold gf at p;split at p
 ·rename_i x;obtain⟨v,r,rfl,hx,hr⟩:=rx;cases hr;split at p
  ·rename_i l hl;obtain⟨a,ys,rfl,sq,r⟩:=xx W hx hl;refine adW pins s σ H _ us Q I rv ⟨a,ys,rfl,?_⟩
   rcases sq with sq|sq
   ·exact .inl ⟨sq,BS W r p⟩
   ·refine .inr ⟨sq,?_⟩;cases x with
    |tup m=>cases hl;exact p.here W hx
    |lst m =>
     obtain⟨b,zs,e,s1,_⟩:=hx;cases e;exfalso
     rcases sq with sq|⟨o,its,n,hk,hcl,_⟩
     ·rcases sq with sq|⟨o,sq⟩<;>(rw[s1.1]at sq;cases sq)
     ·have:=I.bs a o (I.ok.mod.jH a o hk);rw[s1.1]at this;cases this.2
    |bw m =>
     exfalso;obtain⟨b,e,s1⟩:=hx;cases e;obtain⟨i1,_,pl,_⟩:=I.list s1.sql;obtain⟨i2,_,pt,_⟩:=I.tuple sq;obtain⟨o1,e1,c1,_⟩:=pl.isList;obtain⟨o2,e2,c2,_⟩:=pt;rw[e1]at e2;cases e2;rw[c1]at c2;exact absurd c2 (by decide)
    |ref k =>
     exfalso;obtain⟨b,e,s1⟩:=hx;cases e;obtain⟨zs,hz⟩:=W.at' (ahP s1)
     rcases sq with sq|⟨o,its,n,hk,hcl,_⟩
     ·rcases sq with sq|⟨o,sq⟩<;>(rw[hz]at sq;cases sq)
     ·have:=I.bs a o (I.ok.mod.jH a o hk);rw[hz]at this;cases this.2
    |_=>cases hl
  ·exact p.elim
 ·exact p.elim
end
def lB(o a:af):af:=λe c=>(o e c).bind λx c=>match x with
 |.ref k=>(a e c).bind λy c=>match c[k]? with
  |some (.lst l)=>if l.length<Ω/\noRef y=Θ then .ok .aH (c.set k (.lst (l++[y])))else .bad
  |none=>.bad
 |_=>.bad
theorem IW{X:Cx}{o e:ο}{dO da:af}{apos cpos:Pos}(ho:aY X o dO) (ha:aY X e da)
  (hbase:aaz o "append" X.env (eval o X.env)=eval o X.env:=by rfl)
  (hfew:((aab cpos (μ [e] X.env)).all (λx=>!x.1)&&(aaK cpos (aax [] X.env)).all (λx=>x.1.isSome)
   && decide ([e].length+([]:List aay).length+(if([]:List aay).isEmpty then 0 else 1)<30))=Θ:=by exact oF rfl)
  (hline:(apos.endLine==cpos.line)=Θ:=by rfl) (hs:μ [e] X.env=(Γ,eval e X.env)::μ [] X.env:=by exact bS rfl) (hplain:(aab cpos (μ [] X.env)).any (·.1)=Γ:=by exact g9 rfl) :
  aY X (.Call (.Attribute o "append" apos) [e] [] cpos) (lB dO da) :=
 (m9 ai0 PySem.F.slot_list_append PySem.F.type_list_append YR ho (iF ha jC hs) hbase hfew hline hs hplain).imp λσ H Q h=>by
  obtain⟨ρ,e,c,W,V,p⟩:=h;refine⟨ρ,e,c,W,V,post.bind p λx c1 aI H1 v _ W1 X1 r1 p1=>?_⟩
  cases x with
  |ref k =>
   obtain⟨a,rfl,ha⟩:=r1;obtain⟨xs,hx⟩:=W1.at' (ahP ha);refine⟨.inl ⟨rfl,xs,bW.of hx⟩,aI,e,c1,W1,V.mono W X1,post.bind p1 λy c2 cN H2 u _ W2 X2 r2 p2=>?_⟩
   split at p2
   ·rename_i l hl;split at p2
    ·rename_i hh;obtain⟨nr,ys,hy,rl⟩:=W2.fH k a _ (X2.pre k a ha) hl;refine⟨a,ys,u,rfl,rfl,hy,by rw[rl.length];exact hh.1,?_⟩
     refine p2 cN _ .aH (W2.write (X2.pre k a ha) (by rw[u9,nr];simp[bP,hh.2]) (rl.append ⟨u,[],rfl,r2,rfl⟩)) (Ext.write (X2.pre k a ha)) rfl
    ·exact p2.elim
   ·exact p2.elim
  |_=>exact p1.elim
section
variable (e:Ev) (c:aa) (a b d:af) (ta tb:ai) (s t:ah) (l:aj) (g:Gd) (gs:List D->Ev->aa->R Ev)
@[simp] theorem bD(i:Nat):ak i e c=match e[i]? with|some (ζ d)=>.ok d c|_=>.bad:=rfl
@[simp] theorem fC(d:D):dC d e c=.ok d c:=rfl
@[simp] theorem dw(f:D->D->aa->R D):au f a b e c=(a e c).bind λx c=>(b e c).bind λy c=>f x y c:=rfl
@[simp] theorem iM(f:List D->aa->R D):aF f l e c=(l e c).bind λxs c=>f xs c:=rfl
@[simp] theorem afZ(f g:D->D->aa->R D):E9 f g a b d e c=(a e c).bind λx c=>(b e c).bind λy c=>(f x y c).bind λz c=>match z with
 |.bl Θ=>(d e c).bind λu c=>g y u c
 |.bl Γ=>.ok (.bl Γ) c
 |_=>.bad:=rfl
@[simp] theorem bI:aq e c=.ok [] c:=rfl
@[simp] theorem bJ:ao a l e c=(a e c).bind λx c=>(l e c).bind λxs c=>.ok (x::xs) c:=rfl
@[simp] theorem mK:cX l e c=(l e c).bind λxs c=>if xs.length<=Ω then .ok (.tup xs) c else .bad:=rfl
@[simp] theorem ou:bx l e c=(l e c).bind λxs c=>if xs.length<=Ω then .ok (.lst xs) c else .bad:=rfl
@[simp] theorem afL:er l e c=(l e c).bind λxs c=>if xs.length<=Ω/\bP xs=Θ then .ok (.ref c.length) (c++[.lst xs])else .bad:=rfl
@[simp] theorem jT:aJ a e c=(a e c).bind λx c=>match x with|.bl b=>.ok b c|_=>.bad:=rfl
@[simp] theorem af1:kh ta tb e c=(ta e c).bind λx c=>if x=Θ then tb e c else .ok Γ c:=rfl
@[simp] theorem wI:fG ta tb e c=(ta e c).bind λx c=>if x=Θ then .ok Θ c else tb e c:=rfl
@[simp] theorem Ob:eO ta e c=(ta e c).bind λx c=>.ok (!x) c:=rfl
@[simp] theorem Og:fY a b e c=(a e c).bind λx c=>match x with|.bl k=>if k=Θ then b e c else .ok (.bl Γ) c|_=>.bad:=rfl
@[simp] theorem Oa:jN a e c=(a e c).bind λx c=>match x with|.bl k=>.ok (.bl (!k)) c|_=>.bad:=rfl
@[simp] theorem x_call(n:Nat) (m:List D->aa->R D):aC n m l e c=(l e c).bind λxs c=>if xs.length=n then m xs c else .bad:=rfl
@[simp] theorem afG:bL e c=.ok (.nx e) c:=rfl
@[simp] theorem af0:je e c=.bad:=rfl
@[simp] theorem mL:aD s t e c=(s e c).bind λf c=>match f with|.nx e=>t e c|f=>.ok f c:=rfl
@[simp] theorem oq:aP a e c=(a e c).bind λx c=>.ok (.rt x) c:=rfl
@[simp] theorem uo:dS a e c=(a e c).bind λ_ c=>.ok (.nx e) c:=rfl
@[simp] theorem iK:bz ta s t e c=(ta e c).bind λx c=>if x=Θ then s e c else t e c:=rfl
@[simp] theorem gG(i:Nat):aE i a e c=(a e c).bind λx c=>.ok (.nx (e.set i (ζ x))) c:=rfl
@[simp] theorem wK:fS a g e c=(a e c).bind λx c=>(g x e c).bind λe c=>.ok (.nx e) c:=rfl
@[simp] theorem afU(i:Nat) (x:D):az i x e c=.ok (e.set i (ζ x)) c:=rfl
@[simp] theorem afT:iu [] e c=.ok e c:=rfl
@[simp] theorem afV(x:D) (xs:List D):eg g gs (x::xs) e c=(g x e c).bind λe c=>gs xs e c:=rfl
@[simp] theorem afS(n:Nat) (xs:List D):gY n gs (.tup xs) e c=if xs.length=n then gs xs e c else .bad:=rfl
@[simp] theorem wJ(x:D):fV a b x e c=(a e c).bind λo c=>(b e c).bind λi c=>(kD o i x c).bind λ_ c=>.ok e c:=rfl
@[simp] theorem iL(sr:Ev->aa->R Src):bU sr g s e c=(sr e c).bind λq c=>cJ q.stays g s q.items e c:=rfl
@[simp] theorem i8(n:Nat) (own:Bool) (xs:List D):cB n own s xs c=(s (cH n xs) c).bind λf c'=>match f with
 |.rt v=>dF own c.length v c'
 |.nx _=>dF own c.length .aH c'
 |_=>.bad:=rfl
@[simp] theorem afC(n:Nat) (xs:List D):cH n xs=xs.map ζ++π (n-xs.length) η:=rfl
@[simp] theorem fB(sr:Ev->aa->R Src) (pick:List (Option Nat)):br sr pick g ta a e c=(sr e c).bind λq c =>
 if q.items.length<Ω then(bC q.stays g ta a q.items (ee pick e) [] c).bind λl c=>.ok (.lst l) c else .bad:=rfl
@[simp] theorem mJ:aW e c=.ok Θ c:=rfl
@[simp] theorem ju(i j:Int):aX (.int i) (.int j) c=.ok (.int (i+j)) c:=rfl
@[simp] theorem af2(x y:List D):aX (.tup x) (.tup y) c=if x.length≠0/\x.length+y.length<=Ω then .ok (.tup (x++y)) c else .bad:=rfl
@[simp] theorem GO(i j:Int):g8 (.int i) (.int j) c=.ok (.int (i-j)) c:=rfl
theorem GP(i j:Int):eB (.int i) (.int j) c=if(-(2^64)<i/\i<2^64)\/(-(2^64)<j/\j<2^64)then .ok (.int (i*j)) c else .bad:=rfl
theorem Oe(i j:Int):fq (.int i) (.int j) c=if 0<j/\j<1073741824 then .ok (.int (i/j)) c else .bad:=rfl
theorem Oc(i j:Int):cV (.int i) (.int j) c=if 0<j then .ok (.int (i % j)) c else .bad:=rfl
theorem N9(i j:Int):rH (.int i) (.int j) c=if 0<=j/\j<=1000000/\i.natAbs<2^64 then .ok (.int (i^j.toNat)) c else .bad:=rfl
@[simp] theorem afY(p:Int->Int->Bool) (i j:Int):pN p (.int i) (.int j) c=.ok (.bl (p i j)) c:=rfl
@[simp] theorem GR(i j:Int):bT (.int i) (.int j) c=.ok (.bl (decide (i=j))) c:=rfl
@[simp] theorem afI(i j:Int):cU (.int i) (.int j) c=.ok (.bl (!decide (i=j))) c:=rfl
@[simp] theorem afX(i j:Bool):bT (.bl i) (.bl j) c=.ok (.bl (decide (i=j))) c:=rfl
@[simp] theorem afJ(i j:Bool):cU (.bl i) (.bl j) c=.ok (.bl (!decide (i=j))) c:=rfl
@[simp] theorem afW(i j:Str):bT (.str i) (.str j) c=.ok (.bl (decide (i=j))) c:=rfl
@[simp] theorem afH(i j:Str):cU (.str i) (.str j) c=.ok (.bl (!decide (i=j))) c:=rfl
@[simp] theorem x_is(x:D):jh x .aH c=.ok (.bl (iV x)) c:=rfl
@[simp] theorem ags:iV .aH=Θ:=rfl
@[simp] theorem n_bl(b:Bool):iV (.bl b)=Γ:=rfl
@[simp] theorem agu(b:Int):iV (.int b)=Γ:=rfl
@[simp] theorem agr(b:Str):iV (.str b)=Γ:=rfl
@[simp] theorem agq(b:List D):iV (.tup b)=Γ:=rfl
@[simp] theorem agt(b:List D):iV (.lst b)=Γ:=rfl
@[simp] theorem GQ(xs:List D) (i:Int):aG (.tup xs) (.int i) c=match cM xs i with|some d=>.ok d c|none=>.bad:=rfl
@[simp] theorem gU(xs:List D) (i:Int):aG (.lst xs) (.int i) c=match cM xs i with|some d=>.ok d c|none=>.bad:=rfl
@[simp] theorem afM(xs:List D):aT [.tup xs] c=.ok (.int xs.length) c:=rfl
@[simp] theorem afO(xs:List D):aT [.lst xs] c=.ok (.int xs.length) c:=rfl
@[simp] theorem afN(xs:List Int):aT [.bw xs] c=.ok (.int xs.length) c:=by
 show R.ok (D.int ((xs.map D.int).length:Nat)) c=_;rw[ahr]
@[simp] theorem afK(i j:Int):rW [.int i,.int j] c=.ok (.int (if j>i then j else i)) c:=rfl
@[simp] theorem um(i j:Int):fM [.int i,.int j] c=.ok (.int (if j<i then j else i)) c:=rfl
@[simp] theorem agc:noRef .aH=Θ:=rfl
@[simp] theorem r_bl(b:Bool):noRef (.bl b)=Θ:=rfl
@[simp] theorem age(b:Int):noRef (.int b)=Θ:=rfl
@[simp] theorem agb(b:Str):noRef (.str b)=Θ:=rfl
@[simp] theorem Se(b:List D):noRef (.tup b)=bP b:=by simp[noRef]
@[simp] theorem Sf(b:List D):noRef (.lst b)=bP b:=by simp[noRef]
@[simp] theorem agd:bP []=Θ:=by simp[bP]
@[simp] theorem agf(d:D) (b:List D):bP (d::b)=(noRef d&&bP b):=by simp[bP]
@[simp] theorem q_bl(own:Bool) (n:Nat) (b:Bool):dF own n (.bl b) c=.ok (.bl b) (c.take n):=rfl
@[simp] theorem agk(own:Bool) (n:Nat):dF own n .aH c=.ok .aH (c.take n):=rfl
@[simp] theorem agm(own:Bool) (n:Nat) (b:Int):dF own n (.int b) c=.ok (.int b) (c.take n):=rfl
@[simp] theorem agj(own:Bool) (n:Nat) (b:Str):dF own n (.str b) c=.ok (.str b) (c.take n):=rfl
@[simp] theorem agi(own:Bool) (n:Nat) (b:List D):dF own n (.tup b) c=if bP b=Θ then .ok (.tup b) (c.take n)else .bad:=by
 show(if noRef (.tup b)=Θ then R.ok (D.tup b) (c.take n)else R.bad)=_
 rw[Se]
@[simp] theorem agl(own:Bool) (n:Nat) (b:List D):dF own n (.lst b) c=if bP b=Θ then .ok (.lst b) (c.take n)else .bad:=by
 show(if noRef (.lst b)=Θ then R.ok (D.lst b) (c.take n)else R.bad)=_
 rw[Sf]
@[simp] theorem gH:bG l e c=(l e c).bind λxs c=>match xs with
 |[.int j]=>if -(2^62)<=j/\j<2^62 then .ok ⟨aL 0 j,λ_=>True⟩ c else .bad
 |_=>.bad:=rfl
@[simp] theorem mO:cY l e c=(l e c).bind λxs c=>match xs with
 |[.int i,.int j]=>if -(2^62)<=i/\i<2^62/\-(2^62)<=j/\j<2^62 then .ok ⟨aL i j,λ_=>True⟩ c else .bad
 |_=>.bad:=rfl
@[simp] theorem afD:cS a e c=(a e c).bind λx c=>match x with
 |.lst l=>.ok ⟨l,λ_=>True⟩ c
 |.bw l=>.ok ⟨l.map D.int,λ_=>True⟩ c
 |.ref k=>match c[k]? with
  |some (.lst l)=>.ok ⟨l,λc=>c[k]? = ζ (.lst l)⟩ c
  |none=>.bad
 |_=>.bad:=rfl
end
section
variable (g:Gd) (s:ah) (t:ai) (a:af) (e:Ev) (c:aa)
@[simp] theorem abQ:cJ (λ_=>True) g s [] e c=.ok (.nx e) c:=by simp[cJ]
@[simp] theorem lq(x:D) (xs:List D):cJ (λ_=>True) g s (x::xs) e c=(g x e c).bind λe c=>(s e c).bind λf c=>match f with
   |.nx e=>cJ (λ_=>True) g s xs e c
   |.ct e=>cJ (λ_=>True) g s xs e c
   |.bk e=>.ok (.nx e) c
   |.rt d=>.ok (.rt d) c:=by
 conv=>lhs;unfold cJ
 exact if_pos trivial
@[simp] theorem ahb(acc:List D):bC (λ_=>True) g t a [] e acc c=.ok acc c:=by simp[bC]
@[simp] theorem iy(x:D) (xs acc:List D):bC (λ_=>True) g t a (x::xs) e acc c=(g x e c).bind λe c=>(t e c).bind λk c=>if k=Θ then(a e c).bind λy c=>bC (λ_=>True) g t a xs e (acc++[y]) c else bC (λ_=>True) g t a xs e acc c:=by
 conv=>lhs;unfold bC
 exact if_pos trivial
end
@[simp] theorem gz{α:Type}(a:α) (l:List α):(a::l)[0]? = ζ a:=rfl
@[simp] theorem gs{α:Type}(a:α) (l:List α) (n:Nat):(a::l)[n+1]? = l[n]?:=rfl
@[simp] theorem pX{α:Type}(a:α) (l:List α):cM (a::l) 0=ζ a:=by simp[cM,gi]
@[simp] theorem at1{α:Type}(a b:α) (l:List α):cM (a::b::l) 1=ζ b:=by
 unfold cM gi;rw[if_pos (by decide),if_pos (by simp;omega)]
 rfl
@[simp] theorem at2{α:Type}(a b d:α) (l:List α):cM (a::b::d::l) 2=ζ d:=by
 unfold cM gi;rw[if_pos (by decide),if_pos (by simp;omega)]
 rfl
@[simp] theorem at3{α:Type}(a b d f:α) (l:List α):cM (a::b::d::f::l) 3=ζ f:=by
 unfold cM gi;rw[if_pos (by decide),if_pos (by simp;omega)]
 rfl
@[simp] theorem at4{α:Type}(a b d f h:α) (l:List α):cM (a::b::d::f::h::l) 4=ζ h:=by
 unfold cM gi;rw[if_pos (by decide),if_pos (by simp;omega)]
 rfl
theorem dR{n:Nat}(h:n<=1000):n<=Ω:=ahB h (by decide)
@[simp] theorem sl0:(0:Nat)<=Ω:=aiv _
@[simp] theorem sl1:(1:Nat)<=Ω:=by decide
@[simp] theorem sl2:(2:Nat)<=Ω:=by decide
@[simp] theorem sl3:(3:Nat)<=Ω:=by decide
@[simp] theorem Bd:(4:Nat)<=Ω:=by decide
@[simp] theorem sl5:(5:Nat)<=Ω:=by decide
@[simp] theorem sl6:(6:Nat)<=Ω:=by decide
@[simp] theorem st0:(0:Nat)<Ω:=by decide
@[simp] theorem st1:(1:Nat)<Ω:=by decide
@[simp] theorem st2:(2:Nat)<Ω:=by decide
@[simp] theorem st3:(3:Nat)<Ω:=by decide
@[simp] theorem HS:(4:Nat)<Ω:=by decide
@[simp] theorem oG:(5:Nat)<Ω:=by decide
@[simp] theorem agW(i:Int) (c:aa):bN [.int i,.ty "int"] c=.ok (.bl Θ) c:=rfl
@[simp] theorem agX(i:Int) (c:aa):bN [.int i,.ty "bool"] c=.ok (.bl Γ) c:=rfl
@[simp] theorem agU(i:Int) (c:aa):bN [.int i,.ty "str"] c=.ok (.bl Γ) c:=rfl
@[simp] theorem agT(i:Int) (c:aa):bN [.int i,.ty "tuple"] c=.ok (.bl Γ) c:=rfl
@[simp] theorem agV(i:Int) (c:aa):bN [.int i,.ty "list"] c=.ok (.bl Γ) c:=rfl
@[simp] theorem ag1(i:Bool) (c:aa):bN [.bl i,.ty "int"] c=.ok (.bl Θ) c:=rfl
@[simp] theorem ag2(i:Bool) (c:aa):bN [.bl i,.ty "bool"] c=.ok (.bl Θ) c:=rfl
@[simp] theorem agZ(i:Bool) (c:aa):bN [.bl i,.ty "str"] c=.ok (.bl Γ) c:=rfl
@[simp] theorem agY(i:Bool) (c:aa):bN [.bl i,.ty "tuple"] c=.ok (.bl Γ) c:=rfl
@[simp] theorem ag0(i:Bool) (c:aa):bN [.bl i,.ty "list"] c=.ok (.bl Γ) c:=rfl
@[simp] theorem agH(i:Str) (c:aa):bN [.str i,.ty "int"] c=.ok (.bl Γ) c:=rfl
@[simp] theorem agI(i:Str) (c:aa):bN [.str i,.ty "bool"] c=.ok (.bl Γ) c:=rfl
@[simp] theorem agF(i:Str) (c:aa):bN [.str i,.ty "str"] c=.ok (.bl Θ) c:=rfl
@[simp] theorem agE(i:Str) (c:aa):bN [.str i,.ty "tuple"] c=.ok (.bl Γ) c:=rfl
@[simp] theorem agG(i:Str) (c:aa):bN [.str i,.ty "list"] c=.ok (.bl Γ) c:=rfl
@[simp] theorem agM(c:aa):bN [.aH,.ty "int"] c=.ok (.bl Γ) c:=rfl
@[simp] theorem agN(c:aa):bN [.aH,.ty "bool"] c=.ok (.bl Γ) c:=rfl
@[simp] theorem agK(c:aa):bN [.aH,.ty "str"] c=.ok (.bl Γ) c:=rfl
@[simp] theorem agJ(c:aa):bN [.aH,.ty "tuple"] c=.ok (.bl Γ) c:=rfl
@[simp] theorem agL(c:aa):bN [.aH,.ty "list"] c=.ok (.bl Γ) c:=rfl
@[simp] theorem agC(i:List D) (c:aa):bN [.tup i,.ty "int"] c=.ok (.bl Γ) c:=rfl
@[simp] theorem agD(i:List D) (c:aa):bN [.tup i,.ty "bool"] c=.ok (.bl Γ) c:=rfl
@[simp] theorem agA(i:List D) (c:aa):bN [.tup i,.ty "str"] c=.ok (.bl Γ) c:=rfl
@[simp] theorem agz(i:List D) (c:aa):bN [.tup i,.ty "tuple"] c=.ok (.bl Θ) c:=rfl
@[simp] theorem agB(i:List D) (c:aa):bN [.tup i,.ty "list"] c=.ok (.bl Γ) c:=rfl
@[simp] theorem agR(i:List D) (c:aa):bN [.lst i,.ty "int"] c=.ok (.bl Γ) c:=rfl
@[simp] theorem agS(i:List D) (c:aa):bN [.lst i,.ty "bool"] c=.ok (.bl Γ) c:=rfl
@[simp] theorem agP(i:List D) (c:aa):bN [.lst i,.ty "str"] c=.ok (.bl Γ) c:=rfl
@[simp] theorem agO(i:List D) (c:aa):bN [.lst i,.ty "tuple"] c=.ok (.bl Γ) c:=rfl
@[simp] theorem agQ(i:List D) (c:aa):bN [.lst i,.ty "list"] c=.ok (.bl Θ) c:=rfl
section
variable (c:aa) {i j:Int}
theorem BW(h1:-18446744073709551616<i) (h2:i<18446744073709551616):eB (.int i) (.int j) c=.ok (.int (i*j)) c:=by
 rw[GP,if_pos];exact .inl ⟨by omega,by omega⟩
theorem mul_r(h1:-18446744073709551616<j) (h2:j<18446744073709551616):eB (.int i) (.int j) c=.ok (.int (i*j)) c:=by
 rw[GP,if_pos];exact .inr ⟨by omega,by omega⟩
theorem sJ(h1:0<j) (h2:j<1073741824):fq (.int i) (.int j) c=.ok (.int (i/j)) c:=by
 rw[Oe,if_pos ⟨h1,h2⟩]
theorem ni(h1:0<j):cV (.int i) (.int j) c=.ok (.int (i % j)) c:=by
 rw[Oc,if_pos h1]
theorem IF(h1:0<=j) (h2:j<=1000000) (h3:i.natAbs<18446744073709551616):rH (.int i) (.int j) c=.ok (.int (i^j.toNat)) c:=by
 rw[N9,if_pos ⟨h1,h2,h3⟩]
end
section
variable {g:Gd}{s:ah}{t:ai}{a:af}
theorem nO{c:aa}(inv:Ev->Prop) (F:D->Bool) (G:D->D):∀(items:List D) (e:Ev) (acc:List D),inv e ->
  (∀x∈items,∀e,inv e->∃e',g x e c=.ok e' c/\inv e'/\t e' c=.ok (F x) c/\(F x=Θ->a e' c=.ok (G x) c)) ->
  bC (λ_=>True) g t a items e acc c=.ok (acc++(items.filter F).map G) c
 |[],e,acc,_,_=>by simp
 |x::xs,e,acc,hi,h=>by
  obtain⟨e',h1,h2,h3,h4⟩:=h x aib e hi;rw[iy,h1,R.aA,h3,R.aA];cases hF:F x with
  |true =>
   rw[if_pos rfl,h4 hF,R.aA,nO inv F G xs e' _ h2 λy hy=>h y (ahX _ hy)]
   simp[hF]
  |false =>
   rw[if_neg ahO,nO inv F G xs e' _ h2 λy hy=>h y (ahX _ hy)]
   simp[hF]
theorem LH(inv:Ev->Prop):∀(items:List D) (e:Ev) (c:aa),inv e ->
  (∀x∈items,∀e c,inv e->∃e' e'' c' c'',g x e c=.ok e' c'/\s e' c'=.ok (.nx e'') c''/\inv e'') ->
  ∃e' c',inv e'/\cJ (λ_=>True) g s items e c=.ok (.nx e') c'
 |[],e,c,hi,_=>⟨e,c,hi,by simp⟩
 |x::xs,e,c,hi,h=>by
  obtain⟨e',e'',c',c'',h1,h2,h3⟩:=h x aib e c hi;obtain⟨e3,c3,i3,h4⟩:=LH inv xs e'' c'' h3 λy hy=>h y (ahX _ hy)
  exact⟨e3,c3,i3,by rw[lq,h1,R.aA,h2];exact h4⟩
theorem LG(inv:Ev->aa->Prop):∀(items:List D) (e:Ev) (c:aa),inv e c ->
  (∀x∈items,∀e c,inv e c->∃e' e'' c' c'',g x e c=.ok e' c'/\s e' c'=.ok (.nx e'') c''/\inv e'' c'') ->
  ∃e' c',inv e' c'/\cJ (λ_=>True) g s items e c=.ok (.nx e') c'
 |[],e,c,hi,_=>⟨e,c,hi,by simp⟩
 |x::xs,e,c,hi,h=>by
  obtain⟨e',e'',c',c'',h1,h2,h3⟩:=h x aib e c hi;obtain⟨e3,c3,i3,h4⟩:=LG inv xs e'' c'' h3 λy hy=>h y (ahX _ hy)
  exact⟨e3,c3,i3,by rw[lq,h1,R.aA,h2];exact h4⟩
end
theorem oW{lo hi:Int}{d:D}(h:d∈aL lo hi):∃i:Int,d=.int i/\lo<=i/\i<hi:=by
 unfold aL at h;obtain⟨k,hk,rfl⟩:=ahw.mp h;have:=ahH.mp hk;exact⟨lo+k,rfl,by omega,by omega⟩
theorem d7{lo hi:Int}:(aL lo hi).length=(hi-lo).toNat:=by simp[aL]
def dB(c:aa):D->Option (List D)
 |.lst l=>ζ l
 |.ref k=>match c[k]? with
  |some (.lst l)=>ζ l
  |none=>η
 |_=>η
def uH(c:aa):D->aa->Prop
 |.ref k=>λc'=>c'[k]? = c[k]?
 |_=>λ_=>True
def c7:D->D->aa->R D:=λx y c=>match dB c x,dB c y with
 |some l,ζ m=>if l.length+m.length<=Ω then .ok (.lst (l++m)) c else .bad
 |_,_=>.bad
def cutD(xs:List D) (lo hi:Option Int):List D:=(xs.drop (HT.fk xs.length 0 lo)).take (HT.fk xs.length xs.length hi-HT.fk xs.length 0 lo)
def dW(a:af) (lo hi:Ev->aa->R (Option Int)):af:=λe c=>(a e c).bind λx c=>(lo e c).bind λl c=>(hi e c).bind λu c=>match dB c x with
 |some xs=>.ok (.lst (cutD xs l u)) c
 |none=>.bad
def cz:Ev->aa->R (Option Int):=λ_ c=>.ok η c
def cy(a:af):Ev->aa->R (Option Int):=λe c=>(a e c).bind λx c=>match x with
 |.int i=>.ok (ζ i) c
 |_=>.bad
def vI(a:aj):Ev->aa->R Src:=λe c=>(a e c).bind λxs c=>match xs with
 |[.tup l,.tup m]=>.ok ⟨List.zipWith (λx y=>.tup [x,y]) l m,λ_=>True⟩ c
 |[x,y]=>match dB c x,dB c y with
  |some l,ζ m=>.ok ⟨List.zipWith (λx y=>.tup [x,y]) l m,λc'=>uH c x c'/\uH c y c'⟩ c
  |_,_=>.bad
 |_=>.bad
section
variable {X:Cx}{K:Δ}{ρ ρ':List Ξ}{H H':Hp}{c c':aa}
theorem o5{x:D}{v:V}{l:List D}(W:Wd K ρ H c) (rx:Rel K ρ H x v) (h:dB c x=ζ l):∃a xs,v=.ref a/\H a=ζ (.lst xs)/\aM K ρ H l xs:=by
 cases x with
 |lst m =>
  cases h;obtain⟨a,xs,e,s,r⟩:=rx;exact⟨a,xs,e,s.1,r⟩
 |ref k =>
  obtain⟨a,e,s⟩:=rx;unfold dB at h;dsimp only at h;cases hc:c[k]? with
  |none=>rw[hc]at h;cases h
  |some cl =>
   cases cl with
   |lst m =>
    rw[hc]at h;cases h;obtain⟨_,xs,hx,r⟩:=W.fH k a _ s hc;exact⟨a,xs,e,hx,r⟩
 |_=>cases h
theorem J5{x:D}{v:V}{l:List D}(W:Wd K ρ H c) (W':Wd K ρ' H' c') (E:Ext ρ H ρ' H') (rx:Rel K ρ H x v) (h:dB c x=ζ l) (st:uH c x c') {a:Ξ}(e:v=.ref a):∃xs,bW K H' a xs/\aM K ρ' H' l xs:=by
 have RQ:=Rel.mono W E x v rx;have h':dB c' x=ζ l:=by
  cases x with
  |lst m=>exact h
  |ref k =>
   have st:c'[k]? = c[k]?:=st;unfold dB at h ⊢;dsimp only at h ⊢;rw[st];exact h
  |_=>cases h
 obtain⟨b,xs,e2,hx,r⟩:=o5 W' RQ h';rw[e]at e2;cases e2;exact⟨xs,bW.of hx,r⟩
theorem kL:bR X (binaryOp .Add) (r2 X.K c7):=by
 intro pins s σ H v u vv uu Q I rv ru h;obtain⟨ρ,x,y,c,W,rx,ry,p⟩:=h;unfold c7 at p;split at p
 ·rename_i l m hl hm;split at p
  ·rename_i hz;obtain⟨a,xs,rfl,ha,ra⟩:=o5 W rx hl;obtain⟨b,ys,rfl,hb,rb⟩:=o5 W ry hm;exact Vi pins s σ H _ _ vv uu Q I rv ru ⟨a,b,xs,ys,rfl,rfl,ha,hb,by rw[ra.length,rb.length];exact hz,yq W (ra.append rb) p⟩
  ·exact p.elim
 ·exact p.elim
abbrev t7(X:Cx) (e:Option ο) (d:Ev->aa->R (Option Int)):Prop:=PO X e (tD X.K (λ_ _ a b=>a=b) d)
theorem PO.imp{e:Option ο}{t t':TO}(h:PO X e t) (i:∀σ H Q,t' σ H Q->t σ H Q):PO X e t':=λpins s σ H Q I q=>h pins s σ H Q I (i _ _ _ q)
theorem iR:t7 X η cz:=Td.imp λσ H Q h=>by
 obtain⟨ρ,e,c,W,Vv,p⟩:=h;exact p.here W rfl
theorem iQ{e:ο}{d:af}(h:aY X e d):t7 X (ζ e) (cy d):=(Tc h).imp λσ H Q h=>by
 obtain⟨ρ,e,c,W,Vv,p⟩:=h;refine⟨ρ,e,c,W,Vv,post.bind p λx c1 aI H1 v _ W1 X1 r1 p1=>?_⟩
 cases x with
 |int i=>cases r1;exact⟨i,rfl,p1.here W1 rfl⟩
 |_=>exact p1.elim
theorem ac3{l:List D}{xs:List V}{lo hi:Option Int}(r:aM K ρ H l xs):aM K ρ H (cutD l lo hi) (sO xs lo hi):=by
 unfold cutD sO;rw[r.length];exact(r.drop _).take _
theorem oM{e:ο}{lo hi:Option ο}{p2 pos:Pos}{da:af}{dl dh:Ev->aa->R (Option Int)}(he:aY X e da) (hl:t7 X lo dl) (hh:t7 X hi dh):aY X (.Subscript e (.Slice lo hi η p2) pos) (dW da dl dh) :=
 (IS QK he hl hh).imp λσ H Q h=>by
  obtain⟨ρ,e,c,W,Vv,p⟩:=h;refine⟨ρ,e,c,W,Vv,post.bind p λx c1 aI H1 v _ W1 X1 r1 p1=>⟨aI,e,c1,W1,Vv.mono W X1,post.bind p1 λl c2 cN H2 l' _ W2 X2 r2 p2=>⟨cN,e,c2,W2,(Vv.mono W X1).mono W1 X2,post.bind p2 λu c3 ug H3 u' _ W3 X3 r3 p3=>?_⟩⟩⟩
  cases r2;cases r3;have rx:=Rel.mono W1 (X2.trans X3) _ _ r1;split at p3
  ·rename_i xs hs;obtain⟨a,ys,rfl,ha,r⟩:=o5 W3 rx hs;exact⟨a,ys,rfl,bW.of ha,yq W3 (ac3 r) p3⟩
  ·exact p3.elim
theorem PI.or{tg iter:ο}{t t':TI}(h:PI X tg iter t) (h':PI X tg iter t'):PI X tg iter (λσ H R=>t σ H R\/t' σ H R):=λpins s σ H R I q=>q.elim (h pins s σ H R I) (h' pins s σ H R I)
theorem ZV{l m:List D}{a b:Ξ}{st:aa->Prop}(h:∀ρ' H' c',Wd K ρ' H' c'->Ext ρ H ρ' H'->st c'->∃xs ys,bW K H' a xs/\bW K H' b ys/\aM K ρ' H' l xs/\aM K ρ' H' m ys):JS K ρ H ⟨List.zipWith (λx y=>.tup [x,y]) l m,st⟩ (z7 (bW K) a b):=by
 intro ρ' H' c' W E s i;obtain⟨xs,ys,q1,q2,r1,r2⟩:=h ρ' H' c' W E s;refine⟨λd hd=>?_,λe=>⟨xs,ys,q1,q2,?_⟩⟩
 ·have hd:(List.zipWith (λx y=>D.tup [x,y]) l m)[i]? = ζ d:=hd
  rw[akD]at hd;cases e1:l[i]? with
  |none=>rw[e1]at hd;cases hd
  |some x =>
   cases e2:m[i]? with
   |none=>rw[e1,e2]at hd;cases hd
   |some y =>
    rw[e1,e2]at hd;cases hd;obtain⟨v,hv,rv⟩:=r1.get e1;obtain⟨u,hu,ru⟩:=r2.get e2;refine⟨⟨xs,ys,v,u,q1,q2,hv,hu⟩,λz H2 hz=>?_⟩
    obtain⟨t,v',u',rfl,ht,rfl,hz⟩:=hz;obtain⟨z1,z2⟩:=hz xs ys q1 q2;rw[hv]at z1;rw[hu]at z2;cases z1;cases z2;exact⟨W.fresh ht,Ext.fresh W ht,t,[v,u],rfl,gI,v,[u],rfl,Rel.mono W (Ext.fresh W ht) _ _ rv,u,[],rfl,Rel.mono W (Ext.fresh W ht) _ _ ru,rfl⟩
 ·have e:i=(List.zipWith (λx y=>D.tup [x,y]) l m).length:=e
  rw[akE]at e;rw[r1.length,r2.length];omega
theorem aao{es:List ο}{k:Nat}{pt:Pos}{a b:ο}{da:aj}{p pos:Pos}(ha:iz X [a,b] da) (hm:X.mg "zip"=η) (hg:Gl X "zip":=by rfl) (hs:μ [a,b] X.env=[(Γ,eval a X.env),(Γ,eval b X.env)]:=by exact A8 rfl rfl) (hs2:μ [b] X.env=[(Γ,eval b X.env)]:=by exact uI rfl) :
  PId X (.Tuple es k pt) (.Call (.Name "zip" p) [a,b] [] pos) (vI da):=((Ud hg hm ha hs hs2).or (Ue hg hm ha hs hs2)).imp λσ H Q h=>by
 obtain⟨ρ,e,c,W,Vv,p⟩:=h;cases hd:da e c with
 |bad=>unfold vI at p;rw[hd]at p;exact p.elim
 |ok xs c1 =>
  have p0:=p;unfold vI at p0;rw[hd,R.aA]at p0;split at p0
  ·left
   refine⟨ρ,e,c,W,Vv,?_⟩;rw[hd];intro aI H1 vs W1 X1 r1;obtain⟨y,ys,rfl,ry,z,zs,rfl,rz,rs⟩:=r1;cases rs;obtain⟨a1,xs,rfl,s1,t1⟩:=ry;obtain⟨a2,ys,rfl,s2,t2⟩:=rz;exact⟨a1,a2,rfl,⟨xs,ys,eu.of s1,eu.of s2⟩,post.here (post.ext p0 X1) W1 (ZW λρ' H' c' W' E _=>⟨xs,ys,eu.of (AS W1 E s1),eu.of (AS W1 E s2),aM.mono W1 E _ _ t1,aM.mono W1 E _ _ t2⟩)⟩
  ·rename_i x y _;split at p0
   ·rename_i l m hl hm'
    right
    refine⟨ρ,e,c,W,Vv,?_⟩;rw[hd];intro aI H1 vs W1 X1 r1;obtain⟨v,ys,rfl,ry,u,zs,rfl,rz,rs⟩:=r1;cases rs;obtain⟨a1,xs,rfl,s1,t1⟩:=o5 W1 ry hl;obtain⟨a2,ys,rfl,s2,t2⟩:=o5 W1 rz hm';refine⟨a1,a2,rfl,⟨xs,ys,bW.of s1,bW.of s2⟩,post.here (post.ext p0 X1) W1 (ZV λρ' H' c' W' E st=>?_)⟩
    obtain⟨xs',q1,q2⟩:=J5 W1 W' E ry hl st.1 rfl;obtain⟨ys',q3,q4⟩:=J5 W1 W' E rz hm' st.2 rfl;exact⟨xs',ys',q1,q3,q2,q4⟩
   ·exact p0.elim
  ·exact p0.elim
end
section
variable (e:Ev) (c:aa) (a:af) (lo hi:Ev->aa->R (Option Int)) (l:aj)
@[simp] theorem N7:dW a lo hi e c=(a e c).bind λx c=>(lo e c).bind λl c=>(hi e c).bind λu c=>match dB c x with
 |some xs=>.ok (.lst (cutD xs l u)) c
 |none=>.bad:=rfl
@[simp] theorem afF:cz e c=.ok η c:=rfl
@[simp] theorem afE:cy a e c=(a e c).bind λx c=>match x with
 |.int i=>.ok (ζ i) c
 |_=>.bad:=rfl
@[simp] theorem afB:vI l e c=(l e c).bind λxs c=>match xs with
 |[.tup l,.tup m]=>.ok ⟨List.zipWith (λx y=>.tup [x,y]) l m,λ_=>True⟩ c
 |[x,y]=>match dB c x,dB c y with
  |some l,ζ m=>.ok ⟨List.zipWith (λx y=>.tup [x,y]) l m,λc'=>uH c x c'/\uH c y c'⟩ c
  |_,_=>.bad
 |_=>.bad:=rfl
@[simp] theorem agy(x:List D):dB c (.lst x)=ζ x:=rfl
end
section
variable {g:Gd}{s:ah}{t:ai}{a:af}
theorem aev{dO da:af}{e:Ev}{c:aa}{acc:List D}{y:D}(ho:dO e (c++[.lst acc])=.ok (.ref c.length) (c++[.lst acc])) (ha:da e (c++[.lst acc])=.ok y (c++[.lst acc])) (hy:noRef y=Θ) (hl:acc.length+1<=1000000) :
  lB dO da e (c++[.lst acc])=.ok .aH (c++[.lst (acc++[y])]):=by
 have h1:acc.length<Ω:=ahv (by omega:acc.length<1000000) (by decide)
 unfold lB;rw[ho,R.aA];dsimp only;rw[ha,R.aA];have e1:(c++[Cell.lst acc])[c.length]? = ζ (.lst acc):=by simp
 have e2:(c++[Cell.lst acc]).set c.length (.lst (acc++[y]))=c++[.lst (acc++[y])]:=by simp
 rw[e1];dsimp only;rw[if_pos ⟨h1,hy⟩,e2]
end
mutual
def eT:D->Option aa3
 |.aH=>ζ .none
 |.bl b=>ζ (.bool b)
 |.int i=>ζ (.int i)
 |.str x=>if PyData.strOk x=Θ then ζ (.str x)else η
 |.tup l=>match gB l with
  |some r=>ζ (.tuple r)
  |none=>η
 |.lst l=>match gB l with
  |some r=>ζ (.list r)
  |none=>η
 |.ty _=>η
 |.ref _=>η
 |.bw _=>η
 |.fn _ _=>η
 |.exc _=>η
 |.gQ=>η
 |.dct _=>η
 |.lam _ _ _ _=>η
def gB:List D->Option (List aa3)
 |[]=>ζ []
 |d::l=>match eT d,gB l with
  |some a,ζ r=>ζ (a::r)
  |_,_=>η
end
def gR(c:aa):D->Option aa3
 |.ref k=>match c[k]? with
  |some (.lst l)=>match gB l with
   |some r=>ζ (.list r)
   |none=>η
  |none=>η
 |d=>eT d
def kP:D->D->aa->R D:=λx y c=>match gR c x,gR c y with
 |some p,ζ q=>if p.depth<=64/\q.depth<=64 then .ok (.bl (!p.eqv q)) c else .bad
 |_,_=>.bad
def inD:D->D->aa->R D:=λx y c=>match gR c x,gR c y with
 |some p,ζ (.list ys)=>if p.depth<=62 then .ok (.bl (ys.any λz=>z.eqv p)) c else .bad
 |some p,ζ (.tuple ys)=>if p.depth<=62 then .ok (.bl (ys.any λz=>z.eqv p)) c else .bad
 |_,_=>.bad
def nh:D->D->aa->R D:=λx y c=>match gR c x,gR c y with
 |some p,ζ (.list ys)=>if p.depth<=62 then .ok (.bl (!ys.any λz=>z.eqv p)) c else .bad
 |some p,ζ (.tuple ys)=>if p.depth<=62 then .ok (.bl (!ys.any λz=>z.eqv p)) c else .bad
 |_,_=>.bad
section
variable {X:Cx}{pins:List (Ξ×Obj)}{σ:St}{ρ:List Ξ}{H:Hp}{s:ι}{c:aa}
mutual
theorem iD(I:Inv X pins σ H s):∀(d:D) (v:V) (u:Ψ) (p:aa3),Rel X.K ρ H d v->RelV v u->eT d=ζ p->(∃as,Reads s.heap u p as)/\p.canLay0=Θ
 |.aH,v,u,p,r,ru,e=>by
  cases r;cases ru;cases e;exact⟨⟨_,.none⟩,by simp[PyData.canLay0]⟩
 |.bl b,v,u,p,r,ru,e=>by
  cases r;cases ru;cases e;exact⟨⟨_,.bool b⟩,by simp[PyData.canLay0]⟩
 |.int i,v,u,p,r,ru,e=>by
  cases r;obtain⟨t,rfl⟩:=ru;cases e;exact⟨⟨_,.int i t⟩,by simp[PyData.canLay0]⟩
 |.str x,v,u,p,r,ru,e=>by
  cases r;obtain⟨t,rfl⟩:=ru;unfold eT at e;split at e
  ·rename_i hx;cases e;exact⟨⟨_,.str x t⟩,by simpa[PyData.canLay0]using hx⟩
  ·cases e
 |.tup l,v,u,p,r,ru,e=>by
  obtain⟨a,xs,rfl,ha,rs⟩:=r;cases ru;unfold eT at e;split at e
  ·rename_i q hq;cases e;obtain⟨its,vs,⟨o,h1,h2,n,h3⟩,_⟩:=I.tuple (eu.of ha);obtain⟨⟨as,ra⟩,hc⟩:=xM I l xs its q rs vs hq;exact⟨⟨_,.tuple h1 h2 h3 (by simpa using ra)⟩,by simpa[PyData.canLay0]using hc⟩
  ·cases e
 |.lst l,v,u,p,r,ru,e=>by
  obtain⟨a,xs,rfl,ha,rs⟩:=r;cases ru;unfold eT at e;split at e
  ·rename_i q hq;cases e;obtain⟨its,vs,pl,_⟩:=I.list (bW.of ha.1);obtain⟨o,h1,h2,n,h3⟩:=pl.isList;obtain⟨⟨as,ra⟩,hc⟩:=xM I l xs its q rs vs hq;exact⟨⟨_,.list h1 h2 h3 (by simpa using ra)⟩,by simpa[PyData.canLay0]using hc⟩
  ·cases e
 |.ty _,v,u,p,r,ru,e=>by simp[eT]at e
 |.ref _,v,u,p,r,ru,e=>by simp[eT]at e
 |.bw _,v,u,p,r,ru,e=>by simp[eT]at e
 |.fn _ _,v,u,p,r,ru,e=>by simp[eT]at e
 |.exc _,v,u,p,r,ru,e=>by simp[eT]at e
 |.gQ,v,u,p,r,ru,e=>by simp[eT]at e
 |.dct _,v,u,p,r,ru,e=>by simp[eT]at e
 |.lam _ _ _ _,v,u,p,r,ru,e=>by simp[eT]at e
theorem xM(I:Inv X pins σ H s):∀(l:List D) (vs:List V) (us:List Ψ) (ps:List aa3),aM X.K ρ H l vs->Vals vs us->gB l=ζ ps->(∃as,ReadsAll s.heap us ps as)/\PyData.canLayAll0 ps=Θ
 |[],vs,us,ps,r,ru,e=>by
  cases r;cases ru;cases e;exact⟨⟨_,.nil⟩,by simp[PyData.canLayAll0]⟩
 |d::l,vs,us,ps,r,ru,e=>by
  obtain⟨x,xs,rfl,r1,r2⟩:=r;cases ru with
  |cons q1 q2 =>
   unfold gB at e;split at e
   ·rename_i a r e1 e2;cases e;obtain⟨⟨as,ra⟩,ca⟩:=iD I d x _ a r1 q1 e1;obtain⟨⟨bs,rb⟩,cb⟩:=xM I l xs _ r r2 q2 e2;exact⟨⟨_,.cons ra rb⟩,by simp[PyData.canLayAll0,ca,cb]⟩
   ·cases e
end
theorem jZ(I:Inv X pins σ H s) (W:Wd X.K ρ H c) {d:D}{v:V}{u:Ψ}{p:aa3}(r:Rel X.K ρ H d v) (ru:RelV v u) (e:gR c d=ζ p):(∃as,Reads s.heap u p as)/\p.canLay0=Θ:=by
 cases d with
 |ref k =>
  unfold gR at e;dsimp only at e;cases hc:c[k]? with
  |none=>rw[hc]at e;cases e
  |some cl =>
   cases cl with
   |lst l =>
    rw[hc]at e;dsimp only at e;split at e
    ·rename_i q hq;cases e;obtain⟨a,rfl,s1⟩:=r;cases ru;obtain⟨_,xs,hx,rs⟩:=W.fH k a _ s1 hc;obtain⟨its,vs,pl,_⟩:=I.list (bW.of hx);obtain⟨o,h1,h2,n,h3⟩:=pl.isList;obtain⟨⟨as,ra⟩,hc⟩:=xM I l xs its q rs vs hq;exact⟨⟨_,.list h1 h2 h3 (by simpa using ra)⟩,by simpa[PyData.canLay0]using hc⟩
    ·cases e
 |aH=>exact iD I _ v u p r ru e
 |bl b=>exact iD I _ v u p r ru e
 |int b=>exact iD I _ v u p r ru e
 |str b=>exact iD I _ v u p r ru e
 |tup b=>exact iD I _ v u p r ru e
 |lst b=>exact iD I _ v u p r ru e
 |ty b=>exact iD I _ v u p r ru e
 |bw b=>exact iD I _ v u p r ru e
 |fn b n=>exact iD I _ v u p r ru e
 |exc b=>exact iD I _ v u p r ru e
 |dct b=>exact iD I _ v u p r ru e
 |gQ=>exact iD I _ v u p r ru e
 |lam k y ns l=>exact iD I _ v u p r ru e
theorem V0(hu:X.A.units+64<aa0):bR X (compareOp .NotEq) (r2 X.K kP):=by
 intro pins s σ H v u vv uu Q I rv ru h;obtain⟨ρ,x,y,c,W,rx,ry,p⟩:=h;unfold kP at p;split at p
 ·rename_i a b ha hb;split at p
  ·rename_i hd;obtain⟨⟨as,ra⟩,ca⟩:=jZ I W rx rv ha;obtain⟨⟨bs,rb⟩,cb⟩:=jZ I W ry ru hb;exact PySem.SeqAt.compareNe_shaped ra rb (by simp[PySem.SeqAt.shaped,ca,hd.1]) (by simp[PySem.SeqAt.shaped,cb,hd.2]) hu ⟨.bl _,H,I,rfl,p.here W rfl⟩
  ·exact p.elim
 ·exact p.elim
theorem yH{A:ψ}{p:aa3}{ys:List aa3}(hu:A.units+64<aa0) (hd:p.depth<=62):A.units+1+min (PyData.depthAll ys) p.depth<aa0:=by
 have:=Nat.min_le_right (PyData.depthAll ys) p.depth;omega
theorem BL(hu:X.A.units+64<aa0):bR X (compareOp .In) (r2 X.K inD):=by
 intro pins s σ H v u vv uu Q I rv ru h;obtain⟨ρ,x,y,c,W,rx,ry,p⟩:=h;unfold inD at p;split at p
 ·rename_i a ys ha hb;split at p
  ·rename_i hd;obtain⟨⟨as,ra⟩,ca⟩:=jZ I W rx rv ha;obtain⟨⟨bs,rb⟩,cb⟩:=jZ I W ry ru hb;exact PySem.SeqAt.in_list_reads rb ra (by simpa[PyData.canLay0]using cb) ca (yH hu hd) ⟨.bl _,H,I,rfl,p.here W rfl⟩
  ·exact p.elim
 ·rename_i a ys ha hb;split at p
  ·rename_i hd;obtain⟨⟨as,ra⟩,ca⟩:=jZ I W rx rv ha;obtain⟨⟨bs,rb⟩,cb⟩:=jZ I W ry ru hb;exact PySem.SeqAt.in_tuple_reads rb ra (by simpa[PyData.canLay0]using cb) ca (yH hu hd) ⟨.bl _,H,I,rfl,p.here W rfl⟩
  ·exact p.elim
 ·exact p.elim
theorem VZ(hu:X.A.units+64<aa0):bR X (compareOp .NotIn) (r2 X.K nh):=by
 intro pins s σ H v u vv uu Q I rv ru h;obtain⟨ρ,x,y,c,W,rx,ry,p⟩:=h;unfold nh at p;split at p
 ·rename_i a ys ha hb;split at p
  ·rename_i hd;obtain⟨⟨as,ra⟩,ca⟩:=jZ I W rx rv ha;obtain⟨⟨bs,rb⟩,cb⟩:=jZ I W ry ru hb;exact PySem.SeqAt.notIn_list_reads rb ra (by simpa[PyData.canLay0]using cb) ca (yH hu hd) ⟨.bl _,H,I,rfl,p.here W rfl⟩
  ·exact p.elim
 ·rename_i a ys ha hb;split at p
  ·rename_i hd;obtain⟨⟨as,ra⟩,ca⟩:=jZ I W rx rv ha;obtain⟨⟨bs,rb⟩,cb⟩:=jZ I W ry ru hb;exact PySem.SeqAt.notIn_tuple_reads rb ra (by simpa[PyData.canLay0]using cb) ca (yH hu hd) ⟨.bl _,H,I,rfl,p.here W rfl⟩
  ·exact p.elim
 ·exact p.elim
end
theorem nB{A:ψ}{k:Nat}(hr:dg k A):A.units+64<aa0:=by have:=hr.un;omega
section
variable (c:aa)
@[simp] theorem ag8:eT .aH=ζ .none:=by simp only[eT]
@[simp] theorem aha(b:Bool):eT (.bl b)=ζ (.bool b):=by simp only[eT]
@[simp] theorem ag9(i:Int):eT (.int i)=ζ (.int i):=by simp only[eT]
@[simp] theorem ag7:gB []=ζ []:=by simp only[gB]
end
end L2
namespace L2
open PySem PySem.Spec PyProof.Rows
def vV:D->D->aa->R D:=λx y c=>match x,y with
 |.int i,.int j=>.ok (.int (Builtin.bitAnd i j)) c
 |_,_=>.bad
section
variable {X:Cx}
theorem WC:bR X (binaryOp .BitAnd) (r2 X.K vV):=by
 intro pins s σ H v u vv uu Q I rv ru h;obtain⟨ρ,x,y,c,W,rx,ry,p⟩:=h;unfold vV at p;split at p
 ·cases rx;cases ry;exact Vj pins s σ H _ _ vv uu Q I rv ru ⟨_,_,rfl,rfl,p.here W rfl⟩
 ·exact p.elim
end
def Gy(K:Δ) (H:Hp) (l:List Env) (x:Str) (h₀:υ) (H₀:Hp) (e:Ψ) (h:υ):Prop :=
 ∃ea C t B,e=.ref ea/\θ K ξ x=ζ (ζ (.ref C))/\aaB B l ea (.ref C) (.ref t) h/\(∀b u,H b=ζ u->∃o,B.get? b=ζ o) /\
  (∀b o,h₀.get? b=ζ o->b∉frs l->∃o',B.get? b=ζ o')/\∀b o,h₀.get? b=ζ o->H₀ b=η->b∉frs l->B.get? b=ζ o
def i6(P:τ) (w:ω) (K:Δ):mH:=λouter H s E e s'=>∃x H',s'.os=s.os/\aaL s'.gens/\Un (frs outer) [] H H' s.heap s'.heap/\cD P w H' s'.heap/\Gy K H' outer x s.heap H e s'.heap/\E (.str x 0) η H'
def wo(X:Cx) (x:Str) (H2:Hp):Prop :=
 ∀pins σ H1 s1 e s2,Inv X pins σ H1 s1->s2.os=s1.os->aaL s2.gens->Un (frs X.stack) [] H1 H2 s1.heap s2.heap->cD X.prog X.w H2 s2.heap->Gy X.K H2 X.stack x s1.heap H1 e s2.heap->X.xe e s2
def Ab(X:Cx) (x:Str) (H2:Hp):Prop:=wo X x H2 /\
 (∀pins σ s ea C args h',Inv X pins σ H2 s->θ X.K ξ x=ζ (ζ (.ref C))->Heap.MadeExcOf s.heap h' ea (.ref C) args->X.xe (.ref ea) {s with heap:=h'})
theorem US{X:Cx}:Passes (i6 X.prog X.w X.K) X λv _ H'=>∀x,v=.str x 0->wo X x H':=by
 intro pins σ H s e s' I h;obtain⟨x,H',h1,h2,h3,h4,h5,h6⟩:=h;exact h6 x rfl pins σ H s e s' I h1 h2 h3 h4 h5
theorem Jm{P:τ}{w:ω}{H:Hp}{h:υ}{a:Ξ}{o:HO}(x:dZ P w H h a o):∃u,h.get? a=ζ u:=by
 cases o with
 |lst xs=>obtain⟨_,_,_,_,e⟩:=x;exact⟨_,e⟩
 |tup xs=>obtain⟨_,_,_,_,e,_⟩:=x;exact⟨_,e⟩
 |dK kvs=>obtain⟨_,_,_,_,o,_,_,e,_⟩:=x;exact⟨_,e⟩
 |dT kvs=>obtain⟨_,_,_,_,o,_,_,e,_⟩:=x;exact⟨_,e⟩
 |set S n=>obtain⟨o,_,_,_,e,_⟩:=x;exact⟨_,e⟩
 |ins C dx fs=>obtain⟨_,_,_,e,_⟩:=x;exact⟨_,e⟩
 |own y=>obtain⟨_,e⟩:=x;exact⟨_,e⟩
 |xd fs=>obtain⟨_,⟨_,_,_,e,_⟩,_⟩:=x;exact⟨_,e⟩
 |xH lo hi=>obtain⟨_,_,_,e⟩:=x;exact⟨_,e⟩
 |cO ob u=>obtain⟨e,_⟩:=x;exact⟨_,e⟩
 |cR ps=>exact⟨_,(show h.get? a=ζ _ from x)⟩
 |met f y=>exact⟨_,(show h.get? a=ζ _ from x)⟩
 |ext φ=>obtain⟨_,⟨_,e⟩,_⟩:=x;exact⟨_,e⟩
section
variable {P:τ}{w:ω}{K:Δ}{mg:Str->Option Ψ}{base:υ}{N:List Str}{qual:Str}{scope:aaA}{f:Ξ}{cd:Ψ}{A:ψ}{outer:List Env}{s:ι}{H:Hp}{E:XK}
theorem Dw{H:Hp}{h h' B:υ}(x:cD P w H h) (st:B.StaysIn h') (sh:∀b o,B.get? b=ζ o->h.get? b=ζ o) (gm:∀b u,H b=ζ u->∃o,B.get? b=ζ o):cD P w H h':=λa o e=>by
 refine(x a o e).stay (λb u hb q=>?_) (λ_ q=>q) λ_ _ q=>q
 have hb':∃u',H b=ζ u':=by
  rcases hb with rfl|hb
  ·exact⟨_,e⟩
  ·exact⟨_,hb⟩
 obtain⟨u',hu⟩:=hb';obtain⟨o',ho⟩:=gm b u' hu;have:=sh b o' ho;rw[q]at this;cases this;exact st b _ ho
theorem Y7{pins:List (Ξ×Obj)}{σ:St}{H1:Hp}{s1:ι}{x:Str}{C ea:Ξ}{args:List Ψ}{h':υ}(I:Inv (fP (i6 P w K) P w K mg base N qual scope f cd A outer s H E) pins σ H1 s1) (hn:θ K ξ x=ζ (ζ (.ref C)))
  (hx:Heap.MadeExcOf s1.heap h' ea (.ref C) args) (hE:E (.str x 0) η H1):(fP (i6 P w K) P w K mg base N qual scope f cd A outer s H E).xe (.ref ea) {s1 with heap:=h'}:=by
 have hfr:(A.deeper (envOfC qual scope s.heap.objs.size f cd)).frames=ζ (envOfC qual scope s.heap.objs.size f cd::outer):=I.ok.frames;have hst:=I.stack;have hsF:=I.xo;have hb:=I.base;have hfs:frs (envOfC qual scope s.heap.objs.size f cd::outer)=s.heap.objs.size::frs outer:=rfl;have gW:∀b:Ξ,b∉(fP (i6 P w K) P w K mg base N qual scope f cd A outer s H E).ex:=λb z=>absurd (show b∈([]:List Ξ)from z) (by simp)
 let as:=frs (envOfC qual scope s.heap.objs.size f cd::outer)
 have hin:∀env∈(envOfC qual scope s.heap.objs.size f cd::outer),∀a,env.frame=ζ a->a∈as:=λenv he b hb=>aiV.mpr ⟨env,he,hb⟩
 have hF:s1.heap.FunFrames (PySem.W.hideAll s1.heap as) (envOfC qual scope s.heap.objs.size f cd::outer):=PySem.W.funFrames_hide hst hin;show wpAny (model P w) (A.deeper (envOfC qual scope s.heap.objs.size f cd)) (leaving (envOfC qual scope s.heap.objs.size f cd) (.ref ea)) _ _ _;refine wpAny_leaves_madeW (base:=PySem.W.hideAll s1.heap as) hfr rfl (λb o q=>ajy _ q) hF hx λh'' t fl _ _ up=>?_
 have jJ:∀b o,s1.heap.get? b=ζ o->b∉as->(PySem.W.hideAll s1.heap as).get? b=ζ o:=λb o q n=>akf _ q n
 have st:(PySem.W.hideAll s1.heap as).StaysIn h'':=fl.1;have old:∀b o,s.heap.get? b=ζ o->b∉frs outer->b∉as:=λb o q n m=>by
  have m:b∈s.heap.objs.size::frs outer:=m
  rcases aho.mp m with e|m
  ·exact absurd (ahq q) (by rw[e];exact ah0 _)
  ·exact n m
 have gm:∀b u,H1 b=ζ u->∃o,(PySem.W.hideAll s1.heap as).get? b=ζ o:=λb u e=>by
  have hna:b∉as:=λm=>by rw[hsF b m]at e;cases e
  have hlt:=(I.hok b u e).lt;obtain⟨o,ho⟩:∃o,s1.heap.get? b=ζ o:=by
   have:=(I.hok b u e);exact Jm this
  exact⟨o,jJ b o ho hna⟩
 refine⟨x,H1,I.os,I.bare,⟨λb o q n nf _=>?_,λb o q n hf _=>?_,λb o q n hx'=>hb.free b o q n hx',λb o q hx'=>?_,hb.tups,hb.gA,hb.gJ⟩,Dw I.hok st (λb o q=>ajy _ q) gm,⟨ea,C,t,_,rfl,hn,fl,gm,λb o q n=>?_,λb o q n nf=>?_⟩,hE⟩
 ·exact st b o (jJ b o (hb.keep b o q n nf (gW b)) (old b o q nf))
 ·obtain⟨sl,e1⟩:=hb.slot b o q n hf (gW b);have hm:b∈as:=ahX _ hf;obtain⟨_,o2,ho2,hd2⟩:=hst.mem hm;rw[e1]at ho2;cases ho2;obtain⟨sl2,e2⟩:=up b _ (hx.keeps _ _ e1) hd2;exact⟨sl2,e2⟩
 ·obtain⟨o1,e1⟩:=hb.there b o q (gW b)
  by_cases hm:b∈as
  ·obtain⟨_,o2,ho2,hd2⟩:=hst.mem hm;obtain⟨sl2,e2⟩:=up b _ (hx.keeps _ _ ho2) hd2;exact⟨_,e2⟩
  ·exact⟨_,st b _ (jJ b _ e1 hm)⟩
 ·obtain⟨o1,e1⟩:=hb.there b o q (gW b);exact⟨o1,jJ b o1 e1 (old b o q n)⟩
 ·exact jJ b o (hb.keep b o q n nf (gW b)) (old b o q nf)
theorem Y6{pins:List (Ξ×Obj)}{σ:St}{H1 H2:Hp}{s1 s2:ι}{x:Str}{e:Ψ}(I:Inv (fP (i6 P w K) P w K mg base N qual scope f cd A outer s H E) pins σ H1 s1) (hos:s2.os=s1.os) (hba:aaL s2.gens)
  (un:Un (frs (envOfC qual scope s.heap.objs.size f cd::outer)) [] H1 H2 s1.heap s2.heap) (hok:cD P w H2 s2.heap) (DQ:Gy K H2 (envOfC qual scope s.heap.objs.size f cd::outer) x s1.heap H1 e s2.heap) (hE:E (.str x 0) η H2) :
  (fP (i6 P w K) P w K mg base N qual scope f cd A outer s H E).xe e s2:=by
 obtain⟨ea,C,t,B,rfl,hn,fl,gm,old,eq⟩:=DQ;have hfr:(A.deeper (envOfC qual scope s.heap.objs.size f cd)).frames=ζ (envOfC qual scope s.heap.objs.size f cd::outer):=I.ok.frames;have hst:=I.stack;have hb:=I.base;have gW:∀b:Ξ,b∉(fP (i6 P w K) P w K mg base N qual scope f cd A outer s H E).ex:=λb z=>absurd (show b∈([]:List Ξ)from z) (by simp)
 let as:=frs (envOfC qual scope s.heap.objs.size f cd::outer)
 have olds:∀b o,s.heap.get? b=ζ o->b∉frs outer->b∉as:=λb o q n m=>by
  have m:b∈s.heap.objs.size::frs outer:=m
  rcases aho.mp m with e|m
  ·exact absurd (ahq q) (by rw[e];exact ah0 _)
  ·exact n m
 have sh:∀b o,B.get? b=ζ o->s2.heap.get? b=ζ o:=fl.1;have fr2:=fl.2.2.1;show wpAny (model P w) (A.deeper (envOfC qual scope s.heap.objs.size f cd)) (leaving (envOfC qual scope s.heap.objs.size f cd) (.ref ea)) _ _ _;refine wpAny_leaves_onW hfr rfl fl λh'' LI up=>?_
 have st:B.StaysIn h'':=LI.1;have I':s2.os=s.os:=hos.trans I.os;have frame:∀b,b∈as->∃o,s2.heap.get? b=ζ o/\∀vs,o.data≠.fields vs:=λb hm=>(fr2.mem hm).2
 refine⟨x,H2,I',hba,⟨λb o q n nf _=>?_,λb o q n hf _=>?_,λb o q n _=>?_,λb o q _=>?_,λb xs q=>un.tups b xs (hb.tups b xs q),λb o u q=>un.gA b o u (hb.gA b o u q),λb ps q=>?_⟩,Dw hok st sh gm,⟨ea,C,t,B,rfl,hn,LI,gm,λb o q n=>?_,λb o q n nf=>?_⟩,hE⟩
 ·exact st b o (eq b o (hb.keep b o q n nf (gW b)) (hb.free b o q n (gW b)) (olds b o q nf))
 ·obtain⟨sl,e1⟩:=hb.slot b o q n hf (gW b);have hm:b∈as:=ahX _ hf;obtain⟨sl2,e2⟩:=un.slot b _ e1 (hb.free b o q n (gW b)) hm (by simp)
  obtain⟨o3,yM,DB⟩:=frame b hm;rw[e2]at yM;cases yM;obtain⟨Bd,e4⟩:=up b _ e2 DB;exact⟨Bd,e4⟩
 ·obtain⟨o1,e1⟩:=hb.there b o q (gW b);exact un.free b o1 e1 (hb.free b o q n (gW b)) (by simp)
 ·obtain⟨o1,e1⟩:=hb.there b o q (gW b)
  by_cases hm:b∈as
  ·obtain⟨o3,yM,DB⟩:=frame b hm;obtain⟨Bd,e4⟩:=up b _ yM DB;exact⟨_,e4⟩
  ·obtain⟨o2,e2⟩:=old b o1 e1 hm;exact⟨_,st b _ e2⟩
 ·obtain⟨m1,q1⟩:=hb.gJ b ps q;obtain⟨m2,q2⟩:=un.gJ b _ q1;exact⟨m1++m2,by rw[q2,akg]⟩
 ·obtain⟨o1,e1⟩:=hb.there b o q (gW b);exact old b o1 e1 (olds b o q n)
 ·exact eq b o (hb.keep b o q n nf (gW b)) (hb.free b o q n (gW b)) (olds b o q nf)
theorem ae9{x:Str}{H2:Hp}(hE:E (.str x 0) η H2):Ab (fP (i6 P w K) P w K mg base N qual scope f cd A outer s H E) x H2 :=
 ⟨λpins σ H1 s1 e s2 I h1 h2 h3 h4 h5=>Y6 I h1 h2 h3 h4 h5 hE,λpins σ s1 ea C args h' I hn hx=>Y7 I hn hx hE⟩
end
section
variable {X:Cx}
theorem SX{x:Str}{C:Ξ}{B newId initId:String}{bm:List Ψ}{txt:Str}{j:Nat}{np cpos pos tpos:Pos}{t:TS}(hn:θ X.K ξ x=ζ (ζ (.ref C))) (hm:X.mg x=ζ (.ref C)) (hO:∀h,X.K.In h->OwnCls x C bm newId X.mg h) (FB:ExcBaseFacts B newId initId bm) (hc:X.calm=Θ)
  (ht:∀D σ H,t D σ H->Ab X x H) (hg:Gl X x:=by rfl) (hd:(x==("__debug__":Str))=Γ:=by decide):PS X (.Raise (ζ (.Call (.Name x np) [.Constant (.str txt) j tpos] [] cpos)) η pos) t:=by
 intro pins s σ H D I h;have acc:=ht D σ H h;obtain⟨tl,N,nm,q,bs,hdct,sn,sub,ab,col,dd,k0,k1,k2,k3,k5,mN,hC,hN,hni,T⟩:=(hO s.heap I.eE).obj;refine wpAny_Raise_call_subT (C:=C) (nm:=nm) (q:=q) (N:=N) (bs:=bs) (bm:=tl) (hdct:=hdct) (sn:=sn) (sub:=sub) (ab:=ab) (col:=col) (dd:=dd) (k0:=k0) (k1:=k1) (k2:=k2) (k3:=k3) (k5:=k5)
  FB (mN:=mN) (T.hasType FB.hasBase) (I.ok.hd hc) (by rfl) hni (sd I hg hm ⟨rfl,?_⟩ hd)
 have hs:μ [Expr.Constant (.str txt) j tpos] X.env=[(Γ,eval (.Constant (.str txt) j tpos) X.env)]:=by simp only[μ]
 rw[hs];refine Calls.evalArgs_plain ?_;show wpAny _ _ (spliced ((Γ,eval (Expr.Constant (.str txt) j tpos) X.env)::[])) _ _ _;refine Calls.spliced_cons (Calls.Constant_str ?_);refine Calls.spliced_nil ?_;refine⟨rfl,by show 1<=Ω;decide,hC,hN,T,λh' e hx=>?_⟩
 exact acc.2 pins σ _ e C _ h' (I.tok _) hn hx
end
abbrev Xd:=Ev->aa->R Str
def AX(X:Cx) (P:Str->Hp->Prop) (d:Xd):St->Hp->Prop:=λσ H=>tD X.K (λ_ _ a b=>a=b) d σ H P
abbrev zX(X:Cx) (P:Str->Hp->Prop) (st:aav) (d:Xd):Prop:=PS X st λ_ σ H=>AX X P d σ H
abbrev jr(X:Cx) (P:Str->Hp->Prop) (st:List aav) (d:Xd):Prop:=fu X st λ_ σ H=>AX X P d σ H
abbrev M8(X:Cx) (P:Str->Hp->Prop) (e:ο) (d:Xd):Prop:=PE X e λσ H _=>AX X P d σ H
def Bc(K:Δ) (n:Nat) (m:List D->aa->R Str):Sp:=λvs H _ E=>∃ρ xs c,Wd K ρ H c/\aM K ρ H xs vs/\xs.length=n/\post K (λ_ _ a b=>a=b) (m xs c) ρ H λx H'=>E (.str x 0) η H'
def fnX(n:Nat) (d:Xd):List D->aa->R Str:=λxs c=>(d (cH n xs) c).bind λx c'=>.ok x (c'.take c.length)
def uq(a b:Xd):Xd:=λe c=>match a e c with
 |.ok x c'=>.ok x c'
 |.bad=>b e c
def wL(t:ah) (u:Xd):Xd:=λe c=>(t e c).bind λf c=>match f with
 |.nx e=>u e c
 |_=>.bad
def ur(t:ai) (a b:Xd):Xd:=λe c=>(t e c).bind λk c=>if k=Θ then a e c else b e c
def uv(x:Str):Xd:=λ_ c=>.ok x c
def wN:Xd:=λ_ _=>.bad
def wM(n:Nat) (m:List D->aa->R Str) (a:aj):Xd:=λe c=>(a e c).bind λxs c=>if xs.length=n then m xs c else .bad
section
variable {X:Cx}{P:Str->Hp->Prop}{st:aav}{sts rest:List aav}{e:ο}{a b d u:Xd}{t:ah}{pos:Pos}
theorem PS.eS{st:aav}{t:TS}(h:PS X.eS st t):PS X st t:=λpins s σ H D I hw =>
 ahN (h pins s σ H D (I.iA _) hw) (λ_ _ q=>q.i9) λ_ _ z=>False.elim z
theorem PA.eS{es:List ο}{t:TA}(h:PA X.eS es t):PA X es t:=λpos pins s σ H Q I hw =>
 ahN (h pos pins s σ H Q (I.iA _) hw) (λ_ _ ⟨v,H',I',r,q⟩=>⟨v,H',I'.i9,r,q⟩) λ_ _ z=>False.elim z
theorem N4(ha:jr X P sts a) (hb:jr X P sts b):jr X P sts (uq a b):=λpins s σ H D I h=>by
 obtain⟨ρ,e,c,W,V,p⟩:=h;unfold uq at p;cases q:a e c with
 |ok x c' =>
  rw[q]at p;exact ha pins s σ H D I ⟨ρ,e,c,W,V,by rw[q];exact p⟩
 |bad =>
  rw[q]at p;exact hb pins s σ H D I ⟨ρ,e,c,W,V,p⟩
theorem GI:jr X P sts wN:=λpins s σ H D I h=>by
 obtain⟨ρ,e,c,W,V,p⟩:=h;exact p.elim
theorem SR:fu X sts λ_ _ _=>False:=λ_ _ _ _ _ _ h=>h.elim
theorem uh(h:zX X P st d):jr X P (st::rest) d:=(rF h (SR (sts:=rest))).imp λZ σ H q=>q
theorem GK(h1:jt X.eS st t) (h2:jr X P rest u):jr X P (st::rest) (wL t u):=(rF (PS.eS h1) h2).imp λZ σ H h=>by
 obtain⟨ρ,e,c,W,V,p⟩:=h;refine⟨ρ,e,c,W,V,post.bind p λf c1 aI H1 b _ W1 X1 r1 p1=>?_⟩
 cases f with
 |nx e1=>obtain⟨σ1,rfl,V1⟩:=r1;exact⟨aI,e1,c1,W1,V1,p1⟩
 |rt d=>exact p1.elim
 |bk e1=>exact p1.elim
 |ct e1=>exact p1.elim
theorem GJ{c':ο}{A B:List aav}{tc:ai}(hc:jR X.eS c' tc) (ha:jr X P A a) (hb:jr X P B b):zX X P (.If c' A B pos) (ur tc a b):=(IA (PT.eS hc) ha hb).imp λZ σ H h=>by
 obtain⟨ρ,e,c,W,V,p⟩:=h;refine⟨ρ,e,c,W,V,post.bind p λx c1 aI H1 v _ W1 X1 r1 p1=>?_⟩
 cases r1;cases x with
 |true=>exact pA ⟨aI,e,c1,W1,V.mono W X1,p1⟩
 |false=>exact pB ⟨aI,e,c1,W1,V.mono W X1,p1⟩
theorem N3(he:M8 X P e d):zX X P (.Return (ζ e) pos) d:=(Iz he).imp λZ σ H h=>h
structure vX (K:Δ) (mg:Str->Option Ψ) (x:Str) (bm:List Ψ) (newId:String):Prop where
 ex:∃C,θ K ξ x=ζ (ζ (.ref C))/\mg x=ζ (.ref C)/\∀h,K.In h->OwnCls x C bm newId mg h
theorem GH{x:Str}{B newId initId:String}{bm:List Ψ}{txt:Str}{j:Nat}{np cpos tpos:Pos}(hC:vX X.K X.mg x bm newId) (FB:ExcBaseFacts B newId initId bm) (hc:X.calm=Θ:=by rfl) (hg:Gl X x:=by rfl) (hd:(x==("__debug__":Str))=Γ:=by decide) :
  zX X (Ab X) (.Raise (ζ (.Call (.Name x np) [.Constant (.str txt) j tpos] [] cpos)) η pos) (uv x):=by
 obtain⟨C,hn,hm,hO⟩:=hC.ex;refine SX hn hm hO FB hc (λZ σ H h=>?_) hg hd
 obtain⟨ρ,e,c,W,V,p⟩:=h;exact p.here W rfl
theorem N5{x:Str}{st:aav}{ps:List Str}{f:Ξ}{fd:ν}{k n:Nat}{m:List D->aa->R Str}{e:ο}{es:List ο}{da:aj}{p:Pos}(D:Def X.K X.mg x st ps f fd) (G:bX X.prog X.w X.K X.mg X.base (i6 X.prog X.w X.K) k f fd ps (Bc X.K n m)) (hr:dg k X.A) (ha:iz X.eS (e::es) da) (hx:∀x H',P x H'->wo X x H':=by first|exact λ_ _ h=>h.1|exact λ_ _ h=>h) (hg:Gl X x:=by rfl)
  (hdb:(x==("__debug__":Str))=Γ:=by decide) (he:μ (e::es) X.env=(Γ,eval e X.env)::μ es X.env:=by exact bS rfl) (hpl:(aab pos (μ es X.env)).any (·.1)=Γ:=by exact g9 rfl) :
  M8 X P (.Call (.Name x p) (e::es) [] pos) (wM n m da) :=
 (IU G hr hg D.at' D.fn.kp D.bd .nil (US (X:=X)) (PA.eS ha) hdb he hpl).imp λσ H Q h=>by
  obtain⟨ρ,e,c,W,V,q⟩:=h;refine⟨ρ,e,c,W,V,post.bind q λxs c1 aI H1 vs _ W1 X1 r1 p1=>?_⟩
  split at p1
  ·rename_i hl;refine⟨aI,xs,c1,W1,by rw[aim];exact r1,hl,post.mono p1 λx H' acc y hy=>?_⟩
   cases hy;exact hx _ _ acc
  ·exact p1.elim
end
section
variable {P:τ}{w:ω}{K:Δ}{mg:Str->Option Ψ}{base:υ}
theorem abT{x qual:Str}{st:aav}{f:Ξ}{fd:ν}{N ps:List Str}{k n m:Nat}{d:Xd}(F:jS K x qual st f fd) (S:cK N ps (aV st)) (hN:N.length=n) (hm:ps.length=m)
  (hb:∀(cdv:Ψ) (A:ψ) (outer:List Env) (s:ι) (H:Hp) (E:XK),dg k (A.deeper (envOfC qual (aV st) s.heap.objs.size f cdv))->jr (fP (i6 P w K) P w K mg base N qual (aV st) f cdv A outer s H E) (Ab (fP (i6 P w K) P w K mg base N qual (aV st) f cdv A outer s H E)) (cF st) d) :
  bX P w K mg base (i6 P w K) (k+1) f fd ps (Bc K m (fnX n d)):=by
 subst hN;subst hm;obtain⟨oc,od,kV,doc,pm,an,cdv,ct,osl,rfl,lk,hcd⟩:=F.ex;refine DP lk hcd S (λvs H Q E h=>?_) λA outer s H vs Q E hr h=>⟨_,hb cdv A outer s H E hr,?_⟩
 ·obtain⟨ρ,xs,c,W,r,hl,p⟩:=h;exact r.length.trans hl
 ·obtain⟨ρ,xs,c,W,r,hl,p⟩:=h;refine⟨ρ,cH N.length xs,c,W,dX.start r,post.bind p λy c1 aI H1 b _ W1 X1 r1 p1=>?_⟩
  cases r1;refine ae9 ?_;have hn:=Ext.len W W1 X1;have p0:=p;unfold fnX at p0;rename_i he;rw[he,R.aA]at p0;exact p0 (aI.take c.length) H1 _ (W1.cut hn) (X1.cut (aiz W.len)) rfl
end
abbrev Cx.held(X:Cx) (e:Ψ):Cx:={X with A:=X.A.mark (ζ e),calm:=Γ,xe:=λ_ _=>False}
abbrev Cx.tried(X:Cx) (W:Ψ->ι->Prop) (pn:List (Ξ×Obj)):Cx:={X with xe:=W,pn:=pn}
section
variable {X:Cx}{pins rK:List (Ξ×Obj)}{σ:St}{H H1 H2:Hp}{s s1 s2:ι}
theorem Cx.Ok.held(ok:X.Ok) (e:Ψ):(X.held e).Ok :=
 ⟨ok.mod,ok.kind,ok.glob,ok.blt,ok.above,ok.inj,ok.has,ok.jn,(λz=>by cases z),ok.frames,ok.stk,ok.lz,ok.bs,ok.gk,ok.iT,ok.kg,ok.fW,ok.iw⟩
theorem Cx.Ok.tried(ok:X.Ok) (W:Ψ->ι->Prop) (pn:List (Ξ×Obj)):(X.tried W pn).Ok :=
 ⟨ok.mod,ok.kind,ok.glob,ok.blt,ok.above,ok.inj,ok.has,ok.jn,ok.hd,ok.frames,ok.stk,ok.lz,ok.bs,ok.gk,ok.iT,ok.kg,ok.fW,ok.iw⟩
theorem Cx.Ok.wX{W:Ψ->ι->Prop}{pn:List (Ξ×Obj)}(ok:(X.tried W pn).Ok):X.Ok :=
 ⟨ok.mod,ok.kind,ok.glob,ok.blt,ok.above,ok.inj,ok.has,ok.jn,ok.hd,ok.frames,ok.stk,ok.lz,ok.bs,ok.gk,ok.iT,ok.kg,ok.fW,ok.iw⟩
theorem Inv.held(I:Inv X pins σ H s) (e:Ψ):Inv (X.held e) pins σ H s:=⟨I.ok.held e,I.os,I.bare,I.base,I.loc,I.cell,I.free,I.gj,I.pin,I.hok,I.len⟩
theorem Inv.Ph{e:Ψ}(I:Inv (X.held e) pins σ H s) (ok:X.Ok):Inv X pins σ H s:=⟨ok,I.os,I.bare,I.base,I.loc,I.cell,I.free,I.gj,I.pin,I.hok,I.len⟩
theorem Inv.tried(I:Inv X pins σ H s) (W:Ψ->ι->Prop):Inv (X.tried W (X.pn++pins)) [] σ H s:=⟨I.ok.tried W _,I.os,I.bare,I.base,I.loc,I.cell,I.free,I.gj,λp hp=>I.pin p (by simpa using hp),I.hok,I.len⟩
theorem Inv.wX{W:Ψ->ι->Prop}(I:Inv (X.tried W (X.pn++pins)) rK σ H s):Inv X pins σ H s:=⟨I.ok.wX,I.os,I.bare,I.base,I.loc,I.cell,I.free,I.gj,λp hp=>I.pin p (ajz _ hp),I.hok,I.len⟩
theorem abK(ok:X.Ok) {b:Ξ}(h:b∈X.fs):b∈frs X.stack:=by
 rcases ok.stk with e|⟨e,hf⟩
 ·rw[e];exact h
 ·rw[e];unfold frs;rw[ai3,hf];exact ahX _ h
theorem land{ea C:Ξ}{t:Ξ}{B h':υ}(I:Inv X pins σ H1 s1) (hos:s2.os=s1.os) (hba:aaL s2.gens) (un:Un (frs X.stack) [] H1 H2 s1.heap s2.heap) (hok:cD X.prog X.w H2 s2.heap)
  (DS:aaB B X.stack ea (.ref C) (.ref t) s2.heap) (fl:aaB B X.stack ea (.ref C) (.ref t) h') (up:s2.heap.UpToSlots h') (gm:∀b u,H2 b=ζ u->∃o,B.get? b=ζ o)
  (old:∀b o,s1.heap.get? b=ζ o->b∉frs X.stack->∃o',B.get? b=ζ o') (eq:∀b o,s1.heap.get? b=ζ o->H1 b=η->b∉frs X.stack->B.get? b=ζ o) :
  H2 ea=η/\Inv X pins σ (upd H2 ea (.ext (lA ea C))) {s2 with heap:=h'}:=by
 have st:B.StaysIn h':=fl.1;have hne:B.get? ea=η:=fl.2.1;have hfree:H2 ea=η:=by
  cases q:H2 ea with
  |none=>rfl
  |some u=>obtain⟨o,ho⟩:=gm ea u q;rw[hne]at ho;cases ho
 obtain⟨oe,he,hc⟩:=fl.there;have aaT:∃vs,oe.data=.fields vs:=by
  obtain⟨ob,ws,h1,h2,h3,_⟩:=fl.first;rw[he]at h1;cases h1;exact⟨_,h3⟩
 have jL:∀b∈frs X.stack,b≠ea:=λb hb e=>by
  subst e;obtain⟨_,o,ho,hd⟩:=fl.2.2.1.mem hb;rw[he]at ho;cases ho;obtain⟨vs,q⟩:=aaT;exact hd vs q
 have hs1:s1.heap.get? ea=η:=by
  cases q:s1.heap.get? ea with
  |none=>rfl
  |some o =>
   obtain⟨o',ho'⟩:=old ea o q λm=>jL ea m rfl
   rw[hne]at ho';cases ho'
 have ne1:∀b o,s1.heap.get? b=ζ o->b≠ea:=λb o q e=>by subst e;rw[hs1]at q;cases q
 have neT:∀b u,H1 b=ζ u->b≠ea:=λb u q=>by
  obtain⟨o,ho⟩:=Jm (I.hok b u q);exact ne1 b o ho
 have yL:cD X.prog X.w H2 h':=Dw hok st DS.1 gm;have aaE:cD X.prog X.w (upd H2 ea (.ext (lA ea C))) h':=λa o e=>by
  by_cases ha:a=ea
  ·subst ha;rw[gI]at e;cases e;exact⟨⟨oe,he,hc⟩,⟨oe,he⟩,λh1 h2 ⟨o,ho,hoc⟩ k=>⟨o,k o ho,hoc⟩⟩
  ·rw[bA ha]at e;refine(yL a o e).stay (λb u _ q=>q) (λb q=>?_) λb xs q=>?_
   ·rw[bA (dG q hfree)];exact q
   ·rw[bA (dG q hfree)];exact q
 refine⟨hfree,?_⟩;have key:=I.step (h':=h') (H':=upd H2 ea (.ext (lA ea C))) (g':=s2.gens) (t':=s2.toks) (d':=s2.drawn) (ch:=[]) (λ_ z=>nomatch z)
  (λb o hb hf _ q n=>st b o (eq b o q n λm=>by
   rcases aho.mp (I.mW b m)with z|z
   ·exact hb z
   ·exact hf z))
  (λb o hb hf _ q n=>by
   have hm:=abK I.ok hf;obtain⟨sl,e1⟩:=un.slot b o q n hm (by simp)
   obtain⟨_,o2,ho2,hd2⟩:=DS.2.2.1.mem hm;rw[e1]at ho2;cases ho2;obtain⟨sl2,e2⟩:=up b _ e1 hd2;exact⟨sl2,e2⟩)
  (λb o _ q n=>by rw[bA (ne1 b o q)];exact un.free b o q n (by simp))
  (λb o _ q=>by
   by_cases hm:b∈frs X.stack
   ·obtain⟨_,o2,ho2,hd2⟩:=DS.2.2.1.mem hm;obtain⟨sl2,e2⟩:=up b _ ho2 hd2;exact⟨_,e2⟩
   ·obtain⟨o',ho'⟩:=old b o q hm;exact⟨o',st b o' ho'⟩)
  (λb xs q=>by rw[bA (neT b _ q)];exact un.tups b xs q) (λb o u q=>by rw[bA (neT b _ q)];exact un.gA b o u q) (λb ps q=>by
   obtain⟨m,e⟩:=un.gJ b ps q;exact⟨m,by rw[bA (neT b _ q)];exact e⟩)
  (λm hn=>by
   by_cases hm:X.env.locals∈frs X.stack
   ·obtain⟨o,es,ep,ho,hd,r⟩:=hn;obtain⟨sl,e1⟩:=un.slot _ o ho I.free hm (by simp)
    exact up.ns ⟨_,es,ep,e1,hd,r⟩
   ·obtain⟨o,es,ep,ho,hd,r⟩:=hn;exact⟨o,es,ep,st _ _ (eq _ o ho I.free hm),hd,r⟩) aaE hba
 obtain⟨h2,g2,d2,t2,o2⟩:=s2;have e:o2=s1.os:=hos;subst e;exact key
theorem XT{n:Str}{hpos:Pos}{E:Ψ->ι->Prop}{Q:Unit->ι->Prop}(I:Inv X pins σ H s) (hl:X.env.kindOf n=ζ .local) (h:∀s',Inv X pins (π X.N.length η) H s'->Q () s') :
  wpAny (model X.prog X.w) X.A (do bindName X.env n .none;unbindBehindTheSuite X.env n hpos) Q E s:=by
 obtain⟨m,hn,_⟩:=I.loc;refine wpAny_nameGoes hl hn (by rw[I.ok.kind];rfl) λh' m' hn' sb=>?_
 have rQ:∀b o,b≠X.env.locals->s.heap.get? b=ζ o->h'.get? b=ζ o:=λb o hb e=>(sb.2 b hb).trans e
 have rT:∀b o,X.s₀.heap.get? b=ζ o->b≠X.env.locals:=λb o e=>ahx (ahv (ahq e) I.ok.above)
 have B:=I.base;refine h _ ⟨I.ok,I.os,I.bare,⟨λb o q n f x=>rQ b o (rT b o q) (B.keep b o q n f x),λb o q n f x=>?_,B.free,λb o q x=>?_,B.tups,B.gA,B.gJ⟩,⟨m',hn',λi x v _ h _=>?_⟩,λx c e=>?_,I.free,I.gj,λp hp=>?_,λa o e=>?_,by simp⟩
 ·obtain⟨sl,e⟩:=B.slot b o q n f x;exact⟨sl,rQ b _ (rT b o q) e⟩
 ·obtain⟨o',e⟩:=B.there b o q x;exact⟨o',rQ b _ (rT b o q) e⟩
 ·rw[ajH]at h;split at h<;>cases h
 ·obtain⟨v,o,ho,hd⟩:=I.cell x c e;refine⟨v,o,rQ c o (λz=>?_) ho,hd⟩
  obtain⟨o',es,ep,ho',hd',_⟩:=hn;rw[z,ho']at ho;cases ho;rw[hd']at hd;cases hd
 ·obtain⟨p1,p2,p3,p4,p5⟩:=I.pin p hp;exact⟨rQ _ _ p3 p1,p2,p3,p4,p5⟩
 ·refine(I.hok a o e).stay (λb u hb q=>rQ b u (λz=>?_) q) (λ_ q=>q) λ_ _ q=>q
  subst z
  rcases hb with rfl|hb
  ·rw[I.free]at e;cases e
  ·rw[I.free]at hb;cases hb
theorem SV{i:Nat}{n cn:Str}{Cn:Ξ}{body:List aav}{b₀:aav}{suite:List aav}{np hpos pos:Pos}{tb:(Str->Hp->Prop)->St->Hp->Prop}{th:Ξ->TS}
  (hB:∀W pn,fu (X.tried W pn) body λ_ σ H=>tb (wo (X.tried W pn)) σ H) (mono:∀(A A':Str->Hp->Prop) σ H,(∀x H',A x H'->A' x H')->tb A σ H->tb A' σ H) (hS:∀ea,fu (X.held (.ref ea)) (b₀::suite) (th ea))
  (hN:X.N.Nodup) (hi:X.N[i]? = ζ n) (hl:X.env.scope.names.lookup n=ζ .local) (hg:Gl X cn) (hm:X.mg cn=ζ (.ref Cn)) (jL:X.stack=X.env::X.outer/\X.env.frame=ζ X.env.locals) (hd:(cn==("__debug__":Str))=Γ:=by decide) :
  PS X (.Try body [.ExceptHandler (ζ (.Name cn np)) (ζ n) (b₀::suite) hpos] [] [] pos) λD σ H=>tb (λx H2=>∃C,θ X.K ξ x=ζ (ζ (.ref C))/\PySem.W.exmOne X.K (.ref C) (.ref Cn)=ζ Θ /\
   ∀(ea:Ξ) (σ':St),σ'.length=X.N.length->H2 ea=η->th ea {nx:=λ_ _=>False,rt:=D.rt} (σ'.set i (ζ (.ref ea))) (upd H2 ea (.ext (lA ea C)))) σ H:=by
 intro pins s σ H D I h;refine wpAny_Try_except ?_;refine ahN (hB (λe s₁=>wpAny (model X.prog X.w) X.A (noteFrame e X.env) (λ_ s₂=>wpAny (model X.prog X.w) X.A (setFlight e η) (λ_ s₃=>wpAny (model X.prog X.w) X.A (handleBy e X.env [.ExceptHandler (ζ (.Name cn np)) (ζ n) (b₀::suite) hpos]) (SP X pins D) X.xe s₃) X.xe s₂) X.xe s₁) (X.pn++pins)
  [] s σ H {nx:=λ_ _=>False,rt:=λ_ _=>False} (I.tried _) (mono _ _ σ H (λx H2 acc=>?_) h)) (λf s' q=>?_) λ_ _ z=>z
 ·obtain⟨C,hn,hx,hth⟩:=acc;intro rK σ' H1 s1 e s2 I1 hos hba un hok DQ;obtain⟨ea,C',t,B,rfl,hn',fl,gm,old,eq⟩:=DQ;have K1:θ X.K ξ x=ζ (ζ (.ref C')):=hn';rw[hn]at K1;cases K1;have ok:X.Ok:=I.ok;have hfr:X.A.frames=ζ (X.env::X.outer):=by rw[ok.frames,jL.1]
  have fl:aaB B (X.env::X.outer) ea (.ref C) (.ref t) s2.heap:=by
   have z:aaB B X.stack ea (.ref C) (.ref t) s2.heap:=fl;rw[jL.1]at z;exact z
  show wpAny (model X.prog X.w) X.A (noteFrame (.ref ea) X.env) _ _ s2;refine wpAny_looks_onW hfr jL.2 fl λh3 held Pg=>?_
  refine wpAny_landsW held λh4 DR Pf=>?_
  have Hh:s2.heap.UpToSlots h4:=Pg.trans Pf;have L4:=land (X:=X.tried _ _) I1 hos hba un hok (by show aaB B X.stack _ _ _ _;rw[jL.1];exact fl) (by show aaB B X.stack _ _ _ _;rw[jL.1];exact DR) Hh gm old eq
  have I4:Inv X pins σ' (upd H2 ea (.ext (lA ea C))) {s2 with heap:=h4}:=L4.2.wX
  refine wpAny_handleBy_cons (codeAny_handlers_test ?_) (by intro q;cases q)
  refine sd (X:=X.held (.ref ea)) (I4.held _) hg hm ?_ hd;have LT:PySem.W.Looks (model X.prog X.w) h4 (typeOf (.ref ea)) (.ref C):=by
   obtain⟨ob,hob,hc⟩:=DR.there;rw[<-hc];exact(akI hob).andThen .now
  refine(PySem.W.exm_one I4.eE LT hx).here ?_;dsimp only;refine codeAny_handlers_suite_as ?_;refine lands_againW DR λh5 fl5 Pe=>?_
  have L5:=land (X:=X.tried _ _) I1 hos hba un hok (by show aaB B X.stack _ _ _ _;rw[jL.1];exact fl) (by show aaB B X.stack _ _ _ _;rw[jL.1];exact fl5) (Hh.trans Pe) gm old eq
  have I5:Inv X pins σ' (upd H2 ea (.ext (lA ea C))) {s2 with heap:=h5}:=L5.2.wX
  refine A7 (X:=X.held (.ref ea)) (v:=.ref ea) (I5.held _) hN hi (.inl hl) rfl (λs6 I6=>?_) (.inr hl)
  refine ahN (hS ea pins s6 _ _ {nx:=λ_ _=>False,rt:=D.rt} I6 (hth ea σ' (by rw[I5.len]) L5.1)) (λf s7 q=>?_) λ_ _ z=>z.elim
  cases f with
  |next=>obtain⟨_,_,_,z⟩:=q;exact z.elim
  |brk=>obtain⟨_,_,_,z⟩:=q;exact z.elim
  |cont=>obtain⟨_,_,_,z⟩:=q;exact z.elim
  |ret u =>
   obtain⟨v,i7,H7,I7,rv,q7⟩:=q;exact XT (X:=X) (I7.Ph ok) hl λs8 I8=>⟨v,_,H7,I8,rv,q7⟩
 ·cases f with
  |next=>obtain⟨_,_,_,z⟩:=q;exact z.elim
  |brk=>obtain⟨_,_,_,z⟩:=q;exact z.elim
  |cont=>obtain⟨_,_,_,z⟩:=q;exact z.elim
  |ret u=>obtain⟨_,_,_,_,_,z⟩:=q;exact z.elim
end
end L2
namespace PySem.W
open PySem PySem.Spec PySem.Calls PyProof.Rows Builtin Builtin.ObjectAttr Builtin.Getset_descriptor
structure kB (K:Frag) (C:Ξ):Prop where
 ga:findIn K (.ref C) "__getattribute__"=ζ (ζ (.builtin "BaseException.__getattribute__"))
 gn:findIn K (.ref C) "__getattr__"=ζ η
 cl:findIn K (.ref C) "__class__"=ζ (ζ (.builtin "object.__class__"))
 ob:mroIn K C (.type "object")=ζ Θ
 be:subIn K (.ref C) (.type "BaseException")=ζ Θ
 cc:(clsIn K C).isSome=Θ
def Ey(K:Frag) (C:Ξ):Bool:=findIn K (.ref C) "__getattribute__"==ζ (ζ (.builtin "BaseException.__getattribute__"))&&findIn K (.ref C) "__getattr__"==ζ η&&findIn K (.ref C) "__class__"==ζ (ζ (.builtin "object.__class__")) &&
 mroIn K C (.type "object")==ζ Θ&&subIn K (.ref C) (.type "BaseException")==ζ Θ&&(clsIn K C).isSome
theorem kB.of{K:Frag}{C:Ξ}(h:Ey K C=Θ):kB K C:=by
 unfold Ey at h;simp only[ahL,beq_iff_eq]at h;exact⟨h.1.1.1.1.1,h.1.1.1.1.2,h.1.1.1.2,h.1.1.2,h.1.2,h.2⟩
section
variable {prog:τ}{w:ω}{A:ψ}{E:Ψ->ι->Prop}{K:Frag}{h:υ}{g:Array GenState}{d:Drawn}{t:Nat}{os:OsState}{a C:Ξ}{o:Obj}
theorem ab4{R:Result->ι->Prop}{tp:Ψ}(Z:kB K C) (X:K.In h) (hx:h.get? a=ζ o) (hc:o.cls=.ref C) (hq:R (.ok (.ret (.ref C))) ⟨h,g,d,t,os⟩) :
  codeAny (model prog w) A (.call (.builtin "getset_descriptor.__get__") ⟨[.builtin "object.__class__",.ref a,tp],[]⟩) R ⟨h,g,d,t,os⟩:=by
 have L0:Looks (model prog w) h (typeOf (.ref a)) (.ref C):=hc▸(Looks.ld hx).andThen .now;have L1:=looks_mroIn (M:=model prog w) X Z.ob;refine codeAny_call_builtin KF.slot_gs.plain KF.entry_gs (KF.slot_gs.check _ _ _ _ _ _ _ _ KF.type_class (KF.args_gs _ _ _) ?_);unfold Builtin.«getset_descriptor.__get__» descrGet;rw[dga_obj];refine ahm (ahD ?_);unfold descrGetter descrCheckInstance descrNameAndClass isInstance;simp only[KF.owner_class]
 repeat lk
 refine⟨Code.quiet_builtin _ (by decide +kernel),codeAny_builtin KF.entry_class ?_⟩
 unfold Builtin.«object.__class__» shownTypeOf
 repeat lk
 exact hq
theorem ab5{tk:Tok}{Q:Fin->ι->Prop}(Z:kB K C) (X:K.In h) (hx:h.get? a=ζ o) (hc:o.cls=.ref C) (hq:Q (.done (.ret (.ref C))) ⟨h,g,d,t,os⟩) :
  wpAny (model prog w) A (Builtin.«object.__getattribute__» ⟨[.ref a,.str "__class__" tk],[]⟩) Q E ⟨h,g,d,t,os⟩:=by
 have hT5:(⟨h,g,d,t,os⟩:ι).TypeIs (.builtin "object.__class__") "getset_descriptor":=akJ;have f5:=akJ;have f6:=F.slot_gs_get.lookup;have f7:=F.slot_gs_set.lookup;have L1:=looks_findIn (M:=model prog w) X Z.cl
 repeat (any_goals (first|assumption|(with_reducible refine ajS hx ?_;rw[hc])|with_reducible refine L1.at ?_|wp_step))
 refine ab4 Z X hx hc ?_
 repeat (any_goals (first|assumption|wp_step))
theorem ab9{nameV:Ψ}{Q:Unit->ι->Prop}(Z:kB K C) (X:K.In h) (hx:h.get? a=ζ o) (hc:o.cls=.ref C) (hq:Q () ⟨h,g,d,t,os⟩) :
  wpAny (model prog w) A (checkBuiltinCall "BaseException.__getattribute__" ⟨[.ref a,nameV],[]⟩) Q E ⟨h,g,d,t,os⟩:=by
 have hk:builtinKind "BaseException.__getattribute__"=ζ .slot:=by decide +kernel
 have hsplit:splitId "BaseException.__getattribute__"=ζ ("BaseException","__getattribute__"):=by decide +kernel
 have ha:=F.args_bexc_ga (.ref a) nameV;have L1:=looks_subIn (M:=model prog w) X Z.be;simp only[checkBuiltinCall,hk,hsplit];refine ahm ?_
 ·unfold isInstance
  repeat (first|(with_reducible refine ajS hx ?_;rw[hc])|with_reducible refine L1.at ?_|wp_step)
  exact hq
theorem ab6{tk:Tok}{R:Result->ι->Prop}(Z:kB K C) (X:K.In h) (hx:h.get? a=ζ o) (hc:o.cls=.ref C) (hq:R (.ok (.ret (.ref C))) ⟨h,g,d,t,os⟩) :
  codeAny (model prog w) A (.call (.builtin "BaseException.__getattribute__") ⟨[.ref a,.str "__class__" tk],[]⟩) R ⟨h,g,d,t,os⟩ :=
 codeAny_call_builtin F.excAttr_ValueError.ga.plain F.entry_bexc_ga (ab9 Z X hx hc (ab5 Z X hx hc hq))
theorem ab7{tk:Tok}{Q:Ψ->ι->Prop}(Z:kB K C) (X:K.In h) (hx:h.get? a=ζ o) (hc:o.cls=.ref C) (hq:Q (.ref C) ⟨h,g,d,t,os⟩):wpAny (model prog w) A (getAttrBy (.ref a) (.str "__class__" tk) Γ) Q E ⟨h,g,d,t,os⟩:=by
 have f3:=F.excAttr_ValueError.ga.bind (.ref a);have sj:(Value.builtin "BaseException.__getattribute__"==Value.builtin "object.__getattribute__")=Γ:=by decide +kernel
 have Dt:(onTheHeap (Value.ref C)&&Value.builtin "BaseException.__getattribute__"==Value.builtin "object.__getattribute__")=Γ:=by rw[sj];rfl
 have L1:=looks_findIn (M:=model prog w) X Z.ga;have L2:=looks_findIn (M:=model prog w) X Z.gn
 repeat (any_goals (first|assumption|(with_reducible refine ajS hx ?_;rw[hc])|with_reducible refine L1.at ?_|with_reducible refine L2.at ?_|wp_step))
 refine ab6 Z X hx hc ?_
 repeat (any_goals (first|assumption|wp_step))
theorem ab8{Q:Option Ψ->ι->Prop}(Z:kB K C) (X:K.In h) (hx:h.get? a=ζ o) (hc:o.cls=.ref C) (hq:Q (ζ (.ref C)) ⟨h,g,d,t+1,os⟩):wpAny (model prog w) A (getAttr? (.ref a) "__class__") Q E ⟨h,g,d,t,os⟩:=by
 unfold getAttr? getAttrBy?
 repeat (any_goals (first|assumption|with_reducible apply ab7 Z X hx hc|wp_step))
theorem Kf(Z:kB K C):KitX K (.ref a) (.ref C) (L2.lA a C) where
 ty:=λM h _ ⟨o,hx,hc⟩=>hc▸(Looks.ld hx).andThen .now
 it:=λ_ _ X _=>by
  have pH:=Z.cc;unfold clsIn at pH;split at pH
  ·rename_i c' d' cd' Be ho;intro A' Q' E' s' k q;unfold isType loadHead;exact ahm (wpAny_loadPart (k _ _ (X _ _ ho)) (ahD q))
  ·cases pH
 ne:=λh tp dd its n sl X htp=>by
  have pH:=Z.cc;refine Bool.eq_false_iff.mpr λq=>?_
  have e:C=tp:=Value.ref.inj (beq_iff_eq.mp q);subst e;unfold clsIn at pH;split at pH
  ·rename_i c' d' cd' Be ho;have z:=(X _ _ ho).symm.trans htp;cases z
  ·cases pH
 ca:=fun{_ _ _ _ _ s} X ⟨o,hx,hc⟩ k=>by obtain⟨h,g,d,t,os⟩:=s;exact ab8 Z X hx hc k
end
end PySem.W
namespace L2
open PySem PySem.Spec PyProof.Rows
structure jq (k:Nat) (A:ψ):Prop where
 dp:A.depth+3*k+5<recursionLimit
 un:A.units+16*k+200<aa0
theorem jq.deeper{k:Nat}{A:ψ}(r:jq (k+1) A) (env:Env):jq k (A.deeper env) :=
 ⟨by have:=r.dp;show A.depth+1+3*k+5<_;omega,by have:=r.un;show A.units+3+16*k+200<_;omega⟩
theorem jq.depth{k:Nat}{A:ψ}(r:jq k A):A.depth<recursionLimit:=by have:=r.dp;omega
structure Aa (P:τ) (w:ω) (K:Δ) (mg:Str->Option Ψ) (base:υ) (k:Nat) (f:Ξ) (fd:ν) (ps:List Str) (sp:Sp):Prop where
 len:∀vs H Q E,sp vs H Q E->vs.length=ps.length
 run:∀(A:ψ) (outer:List Env) (s:ι) (H:Hp) (args:Args) (us:List Ψ) (vs:List V) (Q:VK) (E:XK),jq k A->mG P w K mg base A outer s H->aa2 s fd args (ps.zip us)->Vals vs us->sp vs H Q E ->
  codeAny (model P w) A (.call (.ref f) args) (CR bQ outer P w H s Q E) s
abbrev vK(P:τ) (w:ω) (K:Δ) (mg:Str->Option Ψ) (base:υ) (N:List Str) (qual:Str) (scope:aaA) (f:Ξ) (cd:Ψ) (A:ψ) (outer:List Env) (s:ι) (H:Hp) (E:XK):Cx :=
 {fP bQ P w K mg base N qual scope f cd A outer s H E with calm:=Γ}
section
variable {P:τ}{w:ω}{K:Δ}{mg:Str->Option Ψ}{base:υ}
theorem aai{N ps:List Str}{qual:Str}{scope:aaA}{f:Ξ}{cd:Ψ}{A:ψ}{outer:List Env}{s s1:ι}{H:Hp}{E:XK}{us:List Ψ}{vs:List V}
  (S:cK N ps scope) (e0:mG P w K mg base A outer s H) (hl:vs.length=ps.length) (r:Vals vs us)
  (x:InCallC s s.heap.objs.size (bindL (envOfC qual scope s.heap.objs.size f cd).kindOf (ps.zip us) λ_=>η) (cellsFrom (s.heap.objs.size+1) scope.names []) (bindC (envOfC qual scope s.heap.objs.size f cd).kindOf (ps.zip us) λ_=>η) s1) :
  Inv (vK P w K mg base N qual scope f cd A outer s H E) [] (start N vs) H s1:=by
 have I:Inv (fP bQ P w K mg base N qual scope f cd {A with handled:=η} outer s H E) [] (start N vs) H s1:=Kz S rfl ⟨e0.frames,e0.mod,e0.bs,e0.gk,e0.fW,e0.iw,e0.hok,e0.bare⟩ hl r x
 have ok:=I.ok;exact⟨⟨ok.mod,ok.kind,ok.glob,ok.blt,ok.above,ok.inj,ok.has,ok.jn,(λz=>by cases z),ajG e0.frames,ok.stk,ok.lz,ok.bs,ok.gk,ok.iT,ok.kg,ok.fW,ok.iw⟩,I.os,I.bare,I.base,I.loc,I.cell,I.free,I.gj,I.pin,I.hok,I.len⟩
theorem abW{k:Nat}{f:Ξ}{name qual:Str}{params:aaN}{body:List aav}{scope:aaA}{dV kV doc pm cdv ct oc:Ψ}{an od:Option Ξ}
  {osl:Array (Option Ψ)}{N ps:List Str}{sp:Sp}(lk:K.lookup f=ζ ⟨oc,od,.func (PySem.W.fnOf name qual params body scope dV kV doc pm an cdv ct),osl⟩) (hcd:PySem.W.codeIn K cdv qual=Θ) (S:cK N ps scope)
  (len:∀vs H Q E,sp vs H Q E->vs.length=ps.length)
  (hbody:∀(A:ψ) (outer:List Env) (s:ι) (H:Hp) (vs:List V) (Q:VK) (E:XK),jq k (A.deeper (envOfC qual scope s.heap.objs.size f cdv))->sp vs H Q E ->
   ∃t,fu (vK P w K mg base N qual scope f cdv A outer s H E) body t/\t {nx:=λ_ H'=>Q .aH H',rt:=Q} (start N vs) H) :
  Aa P w K mg base (k+1) f (PySem.W.fnOf name qual params body scope dV kV doc pm an cdv ct) ps sp:=by
 refine⟨len,λA outer s H args us vs Q E hr e0 hb r fF=>?_⟩
 have hl:=len _ _ _ _ fF;have KX:K.In s.heap:=e0.mod.jH.keeps λb o e=>(e0.bs b o e).1
 have lim:s.heap.NoLimit:=e0.mod.nolimit.keeps λb o e=>(e0.bs b o e).1
 have hkind:∀y∈ps.zip us,scope.names.lookup y.1=ζ .local\/(scope.names.lookup y.1=ζ .cell/\((cellsFrom (s.heap.objs.size+1) scope.names []).lookup y.1).isSome=Θ):=fun⟨n,v⟩ hy=>by
  rcases S.par n (aiF hy).1 with q|q
  ·exact .inl q
  ·exact .inr ⟨q,aiX _ _ _ (.inl q)⟩
 refine akl hr.depth (KX _ _ lk) rfl S.co S.gen rfl (akm KX hcd) (hb _ _ _ _ ?_);refine akn S.kind hkind λenv he s1 x=>?_
 subst he;refine⟨lim.keeps x.toInCall.keep,codeAny_func ?_⟩;obtain⟨t,ht,hq⟩:=hbody A outer s H vs Q E (hr.deeper _) fF;have I:Inv (vK P w K mg base N qual scope f cdv A outer s H E) [] (start N vs) H s1:=aai S e0 hl r x;refine ahN (ht [] s1 (start N vs) H _ I hq) (λfl s' hs=>?_) λe s' hs=>hs
 have fin:∀{σ':St}{H':Hp}{v:V}{u:Ψ},Inv (vK P w K mg base N qual scope f cdv A outer s H E) [] σ' H' s'->RelV v u->Q v H'->CE outer P w H s Q u s' :=
  fun{σ' H' v u} J rv q=>⟨v,H',J.os,J.bare,J.base,J.hok,rv,q⟩
 cases fl with
 |ret u =>
  obtain⟨v,σ',H',J,rv,q⟩:=hs;exact fin J rv q
 |next =>
  obtain⟨σ',H',J,q⟩:=hs;exact fin (v:=V.aH) (u:=Value.none) J rfl q
 |brk =>
  obtain⟨_,_,_,q⟩:=hs;exact False.elim q
 |cont =>
  obtain⟨_,_,_,q⟩:=hs;exact False.elim q
theorem abV{x qual:Str}{st:aav}{f:Ξ}{fd:ν}{N ps:List Str}{k n m:Nat}{own:Bool}{d:ah}(F:jS K x qual st f fd) (S:cK N ps (aV st)) (hN:N.length=n) (hm:ps.length=m)
  (hb:∀(cdv:Ψ) (A:ψ) (outer:List Env) (s:ι) (H:Hp) (E:XK),jq k (A.deeper (envOfC qual (aV st) s.heap.objs.size f cdv))->cA (vK P w K mg base N qual (aV st) f cdv A outer s H E).eS (cF st) d) :
  Aa P w K mg base (k+1) f fd ps (bY K m (cB n own d)):=by
 subst hN;subst hm;obtain⟨oc,od,kV,doc,pm,an,cdv,ct,osl,rfl,lk,hcd⟩:=F.ex;refine abW lk hcd S (λvs H Q E h=>?_) λA outer s H vs Q E hr h=>⟨_,(hb cdv A outer s H E hr).eS,?_⟩
 ·obtain⟨ρ,xs,c,W,r,hl,p⟩:=h;exact r.length.trans hl
 ·obtain⟨ρ,xs,c,W,r,hl,p⟩:=h;refine⟨ρ,cH N.length xs,c,W,dX.start r,post.bind p λfl c1 aI H1 b _ W1 X1 r1 p1=>?_⟩
  cases fl with
  |nx e1 =>
   obtain⟨σ1,rfl,V1⟩:=r1;exact sH (v:=.aH) (x:=.aH) (H1:=H1) W W1 X1 rfl (by
    unfold cB at p;exact id (α:=post K (Rel K) (dF own c.length .aH c1) ρ H Q) (by
     rename_i he;rw[he]at p;exact p))
  |rt d =>
   obtain⟨v,rfl,V1⟩:=r1;exact sH (v:=d) (x:=v) (H1:=H1) W W1 X1 V1 (by
    unfold cB at p;rename_i he;rw[he]at p;exact p)
  |bk e1=>exact p1.elim
  |ct e1=>exact p1.elim
end
section
variable {X:Cx}
theorem UM{x:Str}{st:aav}{ps:List Str}{f:Ξ}{fd:ν}{k n:Nat}{m:List D->aa->R D}{e:ο}{es:List ο}{da:aj}{p pos:Pos}(D:Def X.K X.mg x st ps f fd) (G:Aa X.prog X.w X.K X.mg X.base k f fd ps (bY X.K n m)) (hr:jq k X.A) (ha:iz X (e::es) da) (hg:Gl X x:=by rfl)
  (hdb:(x==("__debug__":Str))=Γ:=by decide) (he:μ (e::es) X.env=(Γ,eval e X.env)::μ es X.env:=by exact bS rfl) (hpl:(aab pos (μ es X.env)).any (·.1)=Γ:=by exact g9 rfl) :
  aY X (.Call (.Name x p) (e::es) [] pos) (aC n m da):=by
 intro pins s σ H Q I h;obtain⟨ρ,e',c,W,V,q⟩:=h;refine aiE (sd I hg D.at' ?_ hdb);refine ajF (h₀:=X.base) I.ok.mod.jH D.fn.kp (bE (ha pos pins s σ H (λvs H1=>bY X.K n m vs H1 Q E0) I ⟨ρ,e',c,W,V,post.bind q λxs c1 aI H1 vs _ W1 X1 r1 p1=>?_⟩) λus s1 ⟨vs,H1,I1,r,q⟩=>⟨I1.eE,?_⟩) he hpl
 ·split at p1
  ·rename_i hl;exact⟨aI,xs,c1,W1,r1,hl,p1⟩
  ·exact p1.elim
 ·have hl:us.length=ps.length:=by rw[<-r.length];exact G.len _ _ _ E0 q
  have hb:=D.bd s1 us I1.eE (by simpa using hl)
  rw[aim]at hb;refine ai5 (aiD (G.run X.A X.stack s1 H1 ⟨us,[]⟩ us vs Q E0 hr I1.zK hb r q) λr s' hq=>?_)
  cases r with
  |error e=>exact False.elim hq
  |ok fl =>
   cases fl with
   |ret u=>exact I1.after hq
   |next=>exact False.elim hq
   |brk=>exact False.elim hq
   |cont=>exact False.elim hq
end
structure vW (K:Δ) (T:List Str):Prop where
 cls:∀x∈T,∀C,θ K ξ x=ζ (ζ (.ref C))->PySem.W.kB K C/\PySem.W.kitOne K (.ref C) (.type "ValueError")=ζ Θ
 two:∀x∈T,∀y∈T,∀C C',θ K ξ x=ζ (ζ (.ref C))->θ K ξ y=ζ (ζ (.ref C'))->PySem.W.kitOne K (.ref C) (.ref C')=ζ (x==y)
def GN(K:Δ) (x:Str):Bool:=match θ K ξ x with
 |some (ζ (.ref C))=>PySem.W.Ey K C&&PySem.W.kitOne K (.ref C) (.type "ValueError")==ζ Θ
 |_=>Θ
def GS(K:Δ) (x y:Str):Bool:=match θ K ξ x,θ K ξ y with
 |some (ζ (.ref C)),ζ (ζ (.ref C'))=>PySem.W.kitOne K (.ref C) (.ref C')==ζ (x==y)
 |_,_=>Θ
def Aw(K:Δ) (T:List Str):Bool:=T.all λx=>GN K x&&T.all λy=>GS K x y
theorem vW.of{K:Δ}{T:List Str}(h:Aw K T=Θ):vW K T:=by
 unfold Aw at h;rw[ahQ]at h;refine⟨λx hx C e=>?_,λx hx y hy C C' e e'=>?_⟩
 ·have q:=h x hx;rw[ahL]at q;have q:=q.1;unfold GN at q;rw[e]at q;simp only[ahL,beq_iff_eq]at q;exact⟨.of q.1,q.2⟩
 ·have q:=h x hx;rw[ahL,ahQ]at q;have q:=q.2 y hy;unfold GS at q;rw[e,e']at q
  simpa using q
def gw(T:List Str):List D->aa->R D:=λxs c=>match xs with
 |[.exc x,.fn y _]=>if x∈T/\y∈T then .ok (.bl (x==y)) c else .bad
 |[.exc x,.ty n]=>if x∈T/\n="ValueError" then .ok (.bl Θ) c else .bad
 |_=>.bad
section
variable {X:Cx}{T:List Str}
theorem jm(Z:vW X.K T):eF X (.builtin "isinstance") (rN X.K (gw T)):=by
 intro pins s σ H vs us Q I rv h;obtain⟨ρ,xs,c,W,rx,p⟩:=h;unfold gw at p;split at p
 ·split at p
  ·rename_i hT;obtain⟨v,r,rfl,⟨a,C,rfl,hC,hH⟩,u,r',rfl,⟨a',rfl,hC'⟩,hr⟩:=rx;cases hr;obtain⟨u1,u2,rfl,r1,r2⟩:=rv.two;cases r1;cases r2;obtain⟨hp,_,_⟩:=I.hok a _ hH;exact ah3 (PySem.W.Kf (Z.cls _ hT.1 C hC).1) I.eE hp (Z.two _ hT.1 _ hT.2 C a' hC hC') (λz=>nomatch z) λtk=>⟨.bl _,H,I.tok _,rfl,p.here W rfl⟩
  ·exact p.elim
 ·split at p
  ·rename_i hT;obtain⟨v,r,rfl,⟨a,C,rfl,hC,hH⟩,u,r',rfl,hu,hr⟩:=rx;cases hr;cases hu;obtain⟨u1,u2,rfl,r1,r2⟩:=rv.two;cases r1;cases r2;obtain⟨hp,_,_⟩:=I.hok a _ hH;obtain⟨_,rfl⟩:=hT;rename_i hx;exact ah3 (PySem.W.Kf (Z.cls _ hx C hC).1) I.eE hp (Z.cls _ hx C hC).2 (λz=>nomatch z) λtk=>⟨.bl Θ,H,I.tok _,rfl,p.here W rfl⟩
  ·exact p.elim
 ·exact p.elim
theorem jA{x:Str}{C:Ξ}{pos:Pos}(hm:X.mg x=ζ (.ref C)) (hn:θ X.K ξ x=ζ (ζ (.ref C))) (hg:Gl X x:=by rfl) (hd:(x==("__debug__":Str))=Γ:=by decide):aY X (.Name x pos) (dC (.fn x 0)) :=
 nc (BB (v:=.ref C) hg hm rfl hd) λ_ _=>⟨C,rfl,hn⟩
end
open PySem.SeqAt
section
variable {X:Cx}
def Sx:V->List V->Hp->VK->Prop:=λx vs H Q=>∃l,∃bs:List Bool,x=.ref l/\vs=[.bl Θ]/\H l=ζ (.lst (bs.map V.bl))/\Q (.int (bs.countP id:Nat)) H
def Ss:V->List V->Hp->VK->Prop:=λx vs H Q=>∃l,∃bs:List Bool,∃j,x=.ref l/\vs=[.bl Θ]/\H l=ζ (.lst (bs.map V.bl))/\bs.findIdx? id=ζ j/\Q (.int (j:Nat)) H
theorem Vals.F9:∀{bs:List Bool}{us:List Ψ},Vals (bs.map V.bl) us->us=bs.map Value.bool
 |[],_,.nil=>rfl
 |b::bs,_,.cons r t=>by cases r;rw[Vals.F9 t];rfl
def eqT:Ψ->Bool
 |.bool b=>b
 |_=>Γ
theorem acd(bs:List Bool):(bs.map Value.bool).countP eqT=bs.countP id:=by
 induction bs with
 |nil=>rfl
 |cons b bs ih=>rw[aht,akK,akK,ih];rfl
theorem LL{A:ψ}{s:ι}(bs:List Bool):∀y,y∈(bs.map Value.bool).toArray->EqAt A s y (.bool Θ) (eqT y):=λy hy=>by
 rw[List.mem_toArray,ahw]at hy;obtain⟨b,_,rfl⟩:=hy;have:=EqAt.bool_bool (A:=A) (s:=s) b Θ;cases b<;>exact this
theorem YQ:oh X "list.count" Sx:=by
 intro pins s σ H x vs v us Q I rx rv h;obtain⟨l,bs,rfl,rfl,hH,q⟩:=h;cases rx;obtain⟨u,rfl,ru⟩:=rv.one;cases ru;obtain⟨z,its,n,r,hl,e⟩:=I.kY hH;cases r.F9;refine ah8 F.slot_list_count ⟨_,e,rfl⟩ F.entry_list_count (F.args_list_count_2 _ _) (list_countAt l (bs.map Value.bool).toArray n η #[] (.bool Θ) eqT) ⟨e,LL bs,?_⟩;refine⟨.int (bs.countP id:Nat),H,I.tok _,⟨s.toks,?_⟩,q⟩;rw[List.toList_toArray,acd]
theorem YM:oh X "list.index" Ss:=by
 intro pins s σ H x vs v us Q I rx rv h;obtain⟨l,bs,j,rfl,rfl,hH,hj,q⟩:=h;cases rx;obtain⟨u,rfl,ru⟩:=rv.one;cases ru;obtain⟨z,its,n,r,hl,e⟩:=I.kY hH;cases r.F9;rw[List.findIdx?_eq_some_iff_getElem]at hj;obtain⟨h1,h2,h3⟩:=hj;have hz:bs.length<=Ω:=by simpa using z
 have hs:(j:Int)<2^63-1:=by
  have:Ω<2^62:=by decide
  omega
 refine ah8 F.slot_list_index ⟨_,e,rfl⟩ F.entry_list_index (F.args_list_index_2 _ _) (list_indexAt l (bs.map Value.bool).toArray n η #[] (.bool Θ) eqT j (by simpa using h1) hs (by simpa[eqT]using h2) (λm hm hlt=>by have:=h3 m hlt;simpa[eqT]using this)) ⟨e,LL bs,?_⟩
 exact⟨.int (j:Nat),H,I.tok _,⟨s.toks,rfl⟩,q⟩
end
def E8(o a:af):af:=λe c=>(o e c).bind λx c=>match x with
 |.lst l=>(a e c).bind λy c=>match y,ki l with
  |.bl Θ,ζ bs=>.ok (.int (bs.countP id:Nat)) c
  |_,_=>.bad
 |_=>.bad
def E7(o a:af):af:=λe c=>(o e c).bind λx c=>match x with
 |.lst l=>(a e c).bind λy c=>match y,ki l with
  |.bl Θ,ζ bs=>match bs.findIdx? id with
   |some j=>.ok (.int (j:Nat)) c
   |none=>.bad
  |_,_=>.bad
 |_=>.bad
theorem aM.F8{K:Δ}{ρ:List Ξ}{H:Hp}:∀{bs:List Bool}{xs:List V},aM K ρ H (bs.map D.bl) xs->xs=bs.map V.bl
 |[],_,h=>h
 |b::bs,_,h=>by
  obtain⟨x,r,rfl,h1,h2⟩:=h;cases h1;rw[aM.F8 h2];rfl
section
variable {X:Cx}
theorem UO{o e:ο}{dO da:af}{apos cpos:Pos}(ho:aY X o dO) (ha:aY X e da)
  (hbase:aaz o "count" X.env (eval o X.env)=eval o X.env:=by rfl)
  (hfew:((aab cpos (μ [e] X.env)).all (λx=>!x.1)&&(aaK cpos (aax [] X.env)).all (λx=>x.1.isSome)
   && decide ([e].length+([]:List aay).length+(if([]:List aay).isEmpty then 0 else 1)<30))=Θ:=by exact oF rfl)
  (hline:(apos.endLine==cpos.line)=Θ:=by rfl) (hs:μ [e] X.env=(Γ,eval e X.env)::μ [] X.env:=by exact bS rfl) (hplain:(aab cpos (μ [] X.env)).any (·.1)=Γ:=by exact g9 rfl) :
  aY X (.Call (.Attribute o "count" apos) [e] [] cpos) (E8 dO da) :=
 (m9 ai0 PySem.F.slot_list_count PySem.F.type_list_count YQ ho (iF ha jC hs) hbase hfew hline hs hplain).imp λσ H Q h=>by
  obtain⟨ρ,e,c,W,V,p⟩:=h;refine⟨ρ,e,c,W,V,post.bind p λx c1 aI H1 v _ W1 X1 r1 p1=>?_⟩
  cases x with
  |lst l =>
   obtain⟨a,xs,rfl,hx,rl⟩:=r1;refine⟨.inl ⟨rfl,xs,bW.of hx.1⟩,aI,e,c1,W1,V.mono W X1,post.bind p1 λy c2 cN H2 u _ W2 X2 r2 p2=>?_⟩
   split at p2
   ·rename_i bs hb _;cases r2;rw[vR hb]at rl;cases rl.F8;exact⟨a,bs,rfl,rfl,(X2.keep a _ hx.1 hx.2 rfl).1,p2.here W2 rfl⟩
   ·exact p2.elim
  |_=>exact p1.elim
theorem UK{o e:ο}{dO da:af}{apos cpos:Pos}(ho:aY X o dO) (ha:aY X e da)
  (hbase:aaz o "index" X.env (eval o X.env)=eval o X.env:=by rfl)
  (hfew:((aab cpos (μ [e] X.env)).all (λx=>!x.1)&&(aaK cpos (aax [] X.env)).all (λx=>x.1.isSome)
   && decide ([e].length+([]:List aay).length+(if([]:List aay).isEmpty then 0 else 1)<30))=Θ:=by exact oF rfl)
  (hline:(apos.endLine==cpos.line)=Θ:=by rfl) (hs:μ [e] X.env=(Γ,eval e X.env)::μ [] X.env:=by exact bS rfl) (hplain:(aab cpos (μ [] X.env)).any (·.1)=Γ:=by exact g9 rfl) :
  aY X (.Call (.Attribute o "index" apos) [e] [] cpos) (E7 dO da) :=
 (m9 ai0 PySem.F.slot_list_index PySem.F.type_list_index YM ho (iF ha jC hs) hbase hfew hline hs hplain).imp λσ H Q h=>by
  obtain⟨ρ,e,c,W,V,p⟩:=h;refine⟨ρ,e,c,W,V,post.bind p λx c1 aI H1 v _ W1 X1 r1 p1=>?_⟩
  cases x with
  |lst l =>
   obtain⟨a,xs,rfl,hx,rl⟩:=r1;refine⟨.inl ⟨rfl,xs,bW.of hx.1⟩,aI,e,c1,W1,V.mono W X1,post.bind p1 λy c2 cN H2 u _ W2 X2 r2 p2=>?_⟩
   split at p2
   ·rename_i bs hb _;cases r2;rw[vR hb]at rl;cases rl.F8;split at p2
    ·rename_i j hj;exact⟨a,bs,j,rfl,rfl,(X2.keep a _ hx.1 hx.2 rfl).1,hj,p2.here W2 rfl⟩
    ·exact p2.elim
   ·exact p2.elim
  |_=>exact p1.elim
def rC(T:List Str) (i n:Nat) (b:ah) (x:Xd) (h:af):ah:=λe c=>match b e c with
 |.ok f c=>.ok f c
 |.bad=>(x e c).bind λy c=>if y∈T then(h ((π n η).set i (ζ (.exc y))) c).bind λv c=>.ok (.rt v) c else .bad
theorem SS{body:List aav}{h₀:ExceptHandler}{pos:Pos}{t:TS}(hb:fu X.eS body t):PS X (.Try body [h₀] [] [] pos) t:=λpins s σ H D I h=>by
 refine wpAny_Try_except (ahN (hb pins s σ H D (I.iA _) h) (λf s' q=>?_) λ_ _ z=>z.elim)
 have q:=q.i9;cases f with
 |next=>exact ai4 q
 |brk=>exact q
 |cont=>exact q
 |ret u=>exact q
theorem Rq{T:List Str}{i m:Nat}{n cn:Str}{Cn:Ξ}{body:List aav}{he:ο}{rpos np hpos pos:Pos}{b:ah}{x:Xd}{h:af}
  (hb:cA X.eS body b) (hx:∀W pn,jr (X.tried W pn) (wo (X.tried W pn)) body x) (hS:∀ea,aY (X.held (.ref ea)) he h)
  (hm:X.mg cn=ζ (.ref Cn)) (hT:∀y∈T,∃C,θ X.K ξ y=ζ (ζ (.ref C))/\PySem.W.exmOne X.K (.ref C) (.ref Cn)=ζ Θ)
  (hN:X.N.Nodup:=by decide +kernel) (hi:X.N[i]? = ζ n:=by rfl) (hlen:X.N.length=m:=by rfl) (hl:X.env.scope.names.lookup n=ζ .local:=by rfl) (hg:Gl X cn:=by rfl) (jL:X.stack=X.env::X.outer/\X.env.frame=ζ X.env.locals:=by exact⟨rfl,rfl⟩) (hd:(cn==("__debug__":Str))=Γ:=by decide) :
  jt X (.Try body [.ExceptHandler (ζ (.Name cn np)) (ζ n) [.Return (ζ he) rpos] hpos] [] [] pos) (rC T i m b x h):=by
 intro pins s σ H D I hh;obtain⟨ρ,e,c,W,V,p⟩:=hh;unfold rC at p;cases q:b e c with
 |ok f c1 =>
  rw[q]at p;exact SS hb pins s σ H D I ⟨ρ,e,c,W,V,by rw[q];exact p⟩
 |bad =>
  rw[q]at p;dsimp only at p;refine SV (X:=X) (th:=λea=>AY X.K (aP h)) (tb:=λA σ H=>tD X.K (λ_ _ a b=>a=b) x σ H A) hx (λA A' σ H hA ⟨ρ,e,c,W,V,p⟩=>⟨ρ,e,c,W,V,p.mono hA⟩)
   (λea=>aZ (cg (hS ea))) hN hi hl hg hm jL hd pins s σ H D I ⟨ρ,e,c,W,V,post.bind p λy c1 aI H1 b _ W1 X1 r1 p1=>?_⟩
  cases r1;split at p1
  ·rename_i hy;obtain⟨C,hC,hC2⟩:=hT y hy;refine⟨C,hC,hC2,λea σ' hl' hf=>?_⟩
   refine⟨aI,(π m η).set i (ζ (.exc y)),c1,W1.fresh hf,⟨λj d hj=>?_,by simp[hl',hlen]⟩,?_⟩
   ·by_cases e1:j=i
    ·subst e1;have hlt:j<m:=by
      have:=(ahz.mp hj).1
      simpa using this
     rw[ah6 (by simpa using hlt)]at hj
     cases hj;refine⟨.ref ea,by rw[ah6 (by rw[hl',hlen];exact hlt)],ea,C,rfl,hC,gI⟩
    ·rw[aii (ah2 e1),ajH]at hj;split at hj<;>cases hj
   ·have p2:=p1.ext (Ext.fresh (p:=ea) (o:=.ext (lA ea C)) W1 hf);unfold aP;cases qh:h ((π m η).set i (ζ (.exc y))) c1 with
    |bad=>rw[qh]at p2;exact p2.elim
    |ok v c2 =>
     rw[qh]at p2;exact λcN H2 f W2 X2 r2=>by
      have z:=p2 cN H2 f W2 X2 r2;obtain⟨v',rfl,_⟩:=r2;exact z
  ·exact p1.elim
end
theorem jq.held{k:Nat}{A:ψ}{h:Option Ψ}(r:dg k A):jq k (A.mark h):=⟨r.dp,r.un⟩
theorem ael:bootBuiltins "ValueError"=ζ (.type "ValueError"):=by decide +kernel
abbrev wV:List Ψ:=[.type "ValueError",.type "Exception",.type "BaseException",.type "object"]
theorem UW{K:Δ}{h:υ}{mg:Str->Option Ψ}{x:Str}{C:Ξ}{bmB:List Ψ}{newId:String}(X:K.In h) (e:mg x=ζ (.ref C)) (q:PySem.W.excIn K C bmB newId=Θ):OwnCls x C bmB newId mg h:=by
 refine⟨e,?_⟩;unfold PySem.W.excIn at q;split at q
 ·rename_i dd cd sl ho;split at q
  ·rename_i C' bm k0 k1 k2 k3 n k5 hm hs;simp only[ahL,beq_iff_eq,Bool.not_eq_true']at q;obtain⟨⟨⟨⟨⟨rfl,rfl⟩,K6⟩,ht⟩,hok⟩,hni⟩:=q;obtain⟨nm,bs,mro,ns,qn,hd,sn,sub,ab,col,del⟩:=cd;dsimp only at hm K6 hok hni;subst hm K6;have hsl:sl=#[k0,k1,k2,k3,ζ (.builtin n),k5]:=by
    obtain⟨l⟩:=sl;simp only at hs;rw[hs]
   subst hsl;exact⟨bm,ns,nm,qn,bs,hd,sn,sub,ab,col,dd,k0,k1,k2,k3,k5,_,X _ _ ho,.of_isNs (PySem.W.isNs_of_in X hok),PySem.W.nsMap_none_of_in X hok hni,PySem.W.tail_of_in X ht⟩
  ·cases q
 ·cases q
theorem vX.of{K:Δ}{mg:Str->Option Ψ}{x:Str}{C:Ξ}(n:θ K ξ x=ζ (ζ (.ref C))) (m:mg x=ζ (.ref C)) (q:PySem.W.excIn K C wV "ValueError.__new__"=Θ):vX K mg x wV "ValueError.__new__" :=
 ⟨C,n,m,λ_ X=>UW X m q⟩
def Av(K:Δ) (T:List Str) (Cn:Ξ):Bool:=T.all λy=>match θ K ξ y with
 |some (ζ (.ref C))=>PySem.W.exmOne K (.ref C) (.ref Cn)==ζ Θ
 |_=>Γ
theorem N1{K:Δ}{T:List Str}{Cn:Ξ}(h:Av K T Cn=Θ):∀y∈T,∃C,θ K ξ y=ζ (ζ (.ref C))/\PySem.W.exmOne K (.ref C) (.ref Cn)=ζ Θ:=λy hy=>by
 have q:=ahQ.mp h y hy;split at q
 ·rename_i C e;exact⟨C,e,by simpa using q⟩
 ·cases q
def sM:af:=λ_ c=>.ok .gQ c
section
variable {X:Cx}
theorem UN{pos:Pos}:aY X (.Dict [] [] pos) sM:=by
 intro pins s σ H Q I h;obtain⟨ρ,e,c,W,V,p⟩:=h;refine wpAny_Dict_empty ?_;have hf:H s.heap.objs.size=η:=I.hok.fresh (ahn _);refine⟨.ref s.heap.objs.size,upd H s.heap.objs.size (.ext (LQ s.heap.objs.size)),I.laid (t':=s.toks) (λb u e=>ahs _ e) (ahn _) ?_,rfl,p ρ _ _ (W.fresh hf) (Ext.fresh W hf) ⟨_,rfl,gI⟩⟩
 exact⟨⟨_,ahG _ rfl,rfl⟩,⟨_,ahG _ rfl⟩,λh1 h2 ⟨o,ho,hc⟩ k=>⟨o,k o ho,hc⟩⟩
end
theorem aM.rep{K:Δ}{ρ:List Ξ}{H:Hp}{l:List D}{xs:List V}(r:aM K ρ H l xs):∀n:Nat,aM K ρ H (π n l).flatten (π n xs).flatten
 |0=>rfl
 |n+1=>by
  rw[aij,aij,aio,aio];exact aM.append r (aM.rep r n)
def iP:D->D->aa->R D:=λx y c=>match x,y with
 |.lst l,.int k=>if -(2^63)<=k/\k<2^63/\l.length*k.toNat<=Ω/\bP l=Θ then .ok (.ref c.length) (c++[.lst (π k.toNat l).flatten])else .bad
 |_,_=>.bad
theorem Jy{l:List D}(h:bP l=Θ):∀n:Nat,bP (π n l).flatten=Θ
 |0=>by simp
 |n+1=>by rw[aij,aio,u9,h,Jy h n];rfl
theorem BJ{X:Cx}:bR X (binaryOp .Mult) (r2 X.K iP):=by
 intro pins s σ H v u vv uu Q I rv ru h;obtain⟨ρ,x,y,c,W,rx,ry,p⟩:=h;unfold iP at p;split at p
 ·split at p
  ·rename_i hl;obtain⟨a,xs,rfl,sa,ra⟩:=rx;cases ry;exact U4 pins s σ H _ _ vv uu Q I rv ru ⟨a,_,xs,rfl,rfl,sa.1,hl.1,hl.2.1,by rw[ra.length];exact hl.2.2.1,BU W (Jy hl.2.2.2 _) (aM.rep ra _) p⟩
  ·exact p.elim
 ·exact p.elim
def d8(o a:af):af:=λe c=>(o e c).bind λx c=>match x with
 |.ref k=>(a e c).bind λy c=>match y with
  |.lst m=>match c[k]? with
   |some (.lst l)=>if l.length+m.length<=Ω/\bP m=Θ then .ok .aH (c.set k (.lst (l++m)))else .bad
   |none=>.bad
  |_=>.bad
 |_=>.bad
theorem rO{X:Cx}{o e:ο}{dO da:af}{apos cpos:Pos}(ho:aY X o dO) (ha:aY X e da)
  (hbase:aaz o "extend" X.env (eval o X.env)=eval o X.env:=by rfl)
  (hfew:((aab cpos (μ [e] X.env)).all (λx=>!x.1)&&(aaK cpos (aax [] X.env)).all (λx=>x.1.isSome)
   && decide ([e].length+([]:List aay).length+(if([]:List aay).isEmpty then 0 else 1)<30))=Θ:=by exact oF rfl)
  (hline:(apos.endLine==cpos.line)=Θ:=by rfl) (hs:μ [e] X.env=(Γ,eval e X.env)::μ [] X.env:=by exact bS rfl) (hplain:(aab cpos (μ [] X.env)).any (·.1)=Γ:=by exact g9 rfl) :
  aY X (.Call (.Attribute o "extend" apos) [e] [] cpos) (d8 dO da) :=
 (m9 ai0 PySem.F.slot_list_extend PySem.F.type_list_extend YN ho (iF ha jC hs) hbase hfew hline hs hplain).imp λσ H Q h=>by
  obtain⟨ρ,e,c,W,V,p⟩:=h;refine⟨ρ,e,c,W,V,post.bind p λx c1 aI H1 v _ W1 X1 r1 p1=>?_⟩
  cases x with
  |ref k =>
   obtain⟨a,rfl,ha⟩:=r1;obtain⟨xs,hx⟩:=W1.at' (ahP ha);refine⟨.inl ⟨rfl,xs,bW.of hx⟩,aI,e,c1,W1,V.mono W X1,post.bind p1 λy c2 cN H2 u _ W2 X2 r2 p2=>?_⟩
   cases y with
   |lst m =>
    obtain⟨b,zs,rfl,sb,rb⟩:=r2;dsimp only at p2;split at p2
    ·rename_i l hl;split at p2
     ·rename_i hh;obtain⟨nr,ys,hy,rl⟩:=W2.fH k a _ (X2.pre k a ha) hl;refine⟨a,b,ys,zs,rfl,rfl,hy,sb.1,by rw[rl.length,rb.length];exact hh.1,?_⟩
      refine p2 cN _ .aH (W2.write (X2.pre k a ha) (by rw[u9,nr,hh.2];rfl) (rl.append rb)) (Ext.write (X2.pre k a ha)) rfl
     ·exact p2.elim
    ·exact p2.elim
   |_=>exact p2.elim
  |_=>exact p1.elim
section
variable (e:Ev) (c:aa) (o a:af)
@[simp] theorem N8(m:List D) (k:Int):iP (.lst m) (.int k) c=if -(2^63)<=k/\k<2^63/\m.length*k.toNat<=Ω/\bP m=Θ then .ok (.ref c.length) (c++[.lst (π k.toNat m).flatten])else .bad:=rfl
end
theorem DN{α:Type}{st:aa->Prop}{g:Gd}{s:ah}(C:Nat->aa) (E:Nat->α->Ev):∀(items:List D) (k:Nat) (v:α),(∀i,i<=items.length->st (C (k+i))) ->
  (∀i x,items[i]? = ζ x->∀v,∃e',g x (E (k+i) v) (C (k+i))=.ok e' (C (k+i))/\∃v',s e' (C (k+i))=.ok (.nx (E (k+i+1) v')) (C (k+i+1))) ->
  ∃v',cJ st g s items (E k v) (C k)=.ok (.nx (E (k+items.length) v')) (C (k+items.length))
 |[],k,v,hst,_=>⟨v,by
   have:=hst 0 (ahn _);rw[aiJ]at this;unfold cJ;rw[if_pos this];rfl⟩
 |x::xs,k,v,hst,h=>by
  obtain⟨e',h1,v',h2⟩:=h 0 x rfl v;obtain⟨v2,h3⟩:=DN C E xs (k+1) v' (λi hi=>by
   have:=hst (i+1) (by simp only[ahu];omega)
   rwa[show k+(i+1)=k+1+i by omega]at this) (λi y hy v=>by
   have:=h (i+1) y (by simpa using hy) v
   rwa[show k+(i+1)=k+1+i by omega]at this)
  refine⟨v2,?_⟩;unfold cJ;rw[if_pos (by have:=hst 0 (aiv _);exact this)]
  rw[aiJ]at h1 h2;rw[h1,R.aA,h2];simp only[R.aA];rw[h3,ahu,show k+(xs.length+1)=k+1+xs.length by omega]
theorem LF{α:Type}{g:Gd}{s:ah}(C:Nat->aa) (E:Nat->α->Ev) {N:Int}{n:Nat}(hN:N=n) (v:α)
  (h:∀i,i<n->∀v,∃e',g (.int (i:Nat)) (E i v) (C i)=.ok e' (C i)/\∃v',s e' (C i)=.ok (.nx (E (i+1) v')) (C (i+1))) :
  ∃v',cJ (λ_=>True) g s (aL 0 N) (E 0 v) (C 0)=.ok (.nx (E n v')) (C n):=by
 have hl:(aL 0 N).length=n:=by rw[d7];omega
 have:=DN (st:=λ_=>True) C E (aL 0 N) 0 v (λ_ _=>trivial) (λi x hx v=>by
  obtain⟨h1,rfl⟩:=jV hx;rw[ahZ,aiL];exact h i (by omega) v)
 rwa[hl,ahZ]at this
def pD:List D->aa->R D:=λxs c=>match xs with
 |[.int i]=>.ok (.int i) c
 |[.bl k]=>.ok (.int (if k then 1 else 0)) c
 |_=>.bad
theorem adR{X:Cx}:eF X (.type "int") (rN X.K pD):=by
 intro pins s σ H vs us Q I rv h;obtain⟨ρ,xs,c,W,rx,p⟩:=h;unfold pD at p;split at p
 ·obtain⟨v,r,rfl,hx,hr⟩:=rx;cases hr;cases hx;exact MQ pins s σ H _ us Q I rv (.inl ⟨_,rfl,p.here W rfl⟩)
 ·obtain⟨v,r,rfl,hx,hr⟩:=rx;cases hr;cases hx;exact MQ pins s σ H _ us Q I rv (.inr ⟨_,rfl,p.here W rfl⟩)
 ·exact p.elim
@[simp] theorem afQ(k:Bool) (c:aa):pD [.bl k] c=.ok (.int (if k then 1 else 0)) c:=rfl
@[simp] theorem afR(i:Int) (c:aa):pD [.int i] c=.ok (.int i) c:=rfl
abbrev Up(l:List Nat):Prop:=l.Pairwise (· < ·)
def vL(mask:Nat):Nat->Nat->Nat->Nat->Nat->Nat->Bool
 |0,_,_,_,_,_=>Γ
 |n+1,j,more,i,q,acc =>
  if acc |||(1 <<< j)=2^(mask+1)-1 then Θ
  else if more>0 then vL mask n (j+1) (more-1) i q (acc |||(1 <<< j))
  else vL mask n ((i*5+1+q/32) % (mask+1)) (SetTable.runEnd mask ((i*5+1+q/32) % (mask+1))-(i*5+1+q/32) % (mask+1)) ((i*5+1+q/32) % (mask+1)) (q/32) (acc |||(1 <<< j))
def Fb(mask:Nat):Nat->Nat->Nat->Nat->Bool
 |0,_,_,_=>Γ
 |n+1,i,q,acc =>
  if acc |||((2^(SetTable.runEnd mask i+1-i)-1) <<< i)=2^(mask+1)-1 then Θ
  else Fb mask n ((i*5+1+q/32) % (mask+1)) (q/32) (acc |||((2^(SetTable.runEnd mask i+1-i)-1) <<< i))
def BH(m:Nat):Prop:=m=7\/m=31\/m=127
def VO(m:Nat):Prop:=m=31\/m=127
def afk(mask:Nat) (owner:Array (Option Nat)) (k:Nat):Prop:=owner.toList.length=mask+1/\(owner.toList.filterMap id).Perm (ε k)
structure TblI (t:SetTable) (n:Nat):Prop where
 size:t.place.size=n
 up:Up t.place.toList
 le:∀j∈t.place.toList,j<=t.mask
 dm:t.dummies=#[]
 mask:(t.mask=7/\n<=4)\/(t.mask=31/\n<=18)\/(t.mask=127/\n<=76)
 plain:t.plain=Θ
section
variable {prog:τ}{w:ω}{A:ψ}{s:ι}{E:Ψ->ι->Prop}
set_option maxHeartbeats 3200000 in
end
abbrev nD(ns:List Nat):List D:=ns.map λn:Nat=>D.int n
section
variable {X:Cx}
theorem ym(ns:List Nat):bP (nD ns)=Θ:=by
 have e:nD ns=(ns.map λn:Nat=>(n:Int)).map D.int:=by simp[nD]
 rw[e];exact XE
end
theorem Qy{a b:ο}{env:Env}{pos:Pos}(h:isStar a=Γ) (g:isStar b=Γ):((aab pos (μ [a,b] env)).all (λx=>!x.1)&&(aaK pos (aax [] env)).all (λx=>x.1.isSome)
   && decide ([a,b].length+([]:List aay).length+(if([]:List aay).isEmpty then 0 else 1)<30))=Θ:=by
 rw[A8 h g];simp[aab,aaK,aax]
section
variable {X:Cx}
def So:V->List V->Hp->VK->Prop:=λx vs H Q=>∃l xs y,∃i:Int,x=.ref l/\vs=[.int i,y]/\H l=ζ (.lst xs)/\(0<=i/\i<=xs.length)/\xs.length<Ω/\Q .aH (upd H l (.lst (xs.take i.toNat++y::xs.drop i.toNat)))
theorem YL:oh X "list.insert" So:=by
 intro pins s σ H x vs v us Q I rx rv h;obtain⟨l,xs,y,i,rfl,rfl,hH,hi,hz,q⟩:=h;cases rx;cases rv with
 |cons r0 rr =>
  cases rr with
  |cons ru rr =>
   cases rr;obtain⟨t,rfl⟩:=r0;rename_i u;obtain⟨z,its,n,r,hl,e⟩:=I.kY hH;have hsl:Ω<2^62:=by decide
   have hfit:¬(!Builtin.List.listFitsIndex i)=Θ:=by
    have:Builtin.List.listFitsIndex i=Θ:=by
     unfold Builtin.List.listFitsIndex;simp only[ahL,decide_eq_true_eq];omega
    rw[this];decide
   refine ah8 F.slot_list_insert ⟨_,e,rfl⟩ F.entry_list_insert (F.args_list_insert_3 _ _ _) (AutoSeq1.list_insert_list_int_val_1 l its.toArray n i t u hfit (by rw[ahE];omega)) ⟨e,?_⟩
   refine⟨.aH,_,I.BY (its':=its.take i.toNat++u::its.drop i.toNat) hH e ?_ ((r.take i.toNat).append (.cons ru (r.drop i.toNat))) ?_,rfl,q⟩
   ·have hk:(if i<0 then(i+(its.toArray.size:Int)).toNat else min i.toNat its.toArray.size)=i.toNat:=by
     rw[if_neg (by omega),ahE];omega
    show(its.toArray.extract 0 (if i<0 then(i+(its.toArray.size:Int)).toNat else min i.toNat its.toArray.size)).push u++its.toArray.extract (if i<0 then(i+(its.toArray.size:Int)).toNat else min i.toNat its.toArray.size)=_
    rw[hk];apply ajT.mp;simp[ajU,ajj]
   ·simp only[ahC,aix,ahu,ai6];omega
def vJ(o a b:af):af:=λe c=>(o e c).bind λx c=>match x with
 |.ref k=>(a e c).bind λi c=>(b e c).bind λy c=>match i,c[k]? with
  |.int i,ζ (.lst l)=>if(0<=i/\i<=l.length)/\l.length<Ω/\noRef y=Θ then .ok .aH (c.set k (.lst (l.take i.toNat++y::l.drop i.toNat)))else .bad
  |_,_=>.bad
 |_=>.bad
theorem XC{l:List D}(h:bP l=Θ) (n:Nat):bP (l.take n)=Θ:=iG.mpr λd hd=>iG.mp h d (ahU hd)
theorem XF{l:List D}(h:bP l=Θ) (n:Nat):bP (l.drop n)=Θ:=iG.mpr λd hd=>iG.mp h d (ajV hd)
theorem UJ{o a b:ο}{dO da db:af}{apos cpos:Pos}(ho:aY X o dO) (ha:aY X a da) (hb:aY X b db)
  (hbase:aaz o "insert" X.env (eval o X.env)=eval o X.env:=by rfl)
  (hfew:((aab cpos (μ [a,b] X.env)).all (λx=>!x.1)&&(aaK cpos (aax [] X.env)).all (λx=>x.1.isSome)
   && decide ([a,b].length+([]:List aay).length+(if([]:List aay).isEmpty then 0 else 1)<30))=Θ:=by exact Qy rfl rfl)
  (hline:(apos.endLine==cpos.line)=Θ:=by rfl) (hs:μ [a,b] X.env=(Γ,eval a X.env)::μ [b] X.env:=by exact bS rfl) (hs2:μ [b] X.env=(Γ,eval b X.env)::μ [] X.env:=by exact bS rfl) (hplain:(aab cpos (μ [b] X.env)).any (·.1)=Γ:=by exact g9 rfl) :
  aY X (.Call (.Attribute o "insert" apos) [a,b] [] cpos) (vJ dO da db) :=
 (m9 ai0 PySem.F.slot_list_insert PySem.F.type_list_insert YL ho (iF ha (iF hb jC hs2) hs) hbase hfew hline hs hplain).imp λσ H Q h=>by
  obtain⟨ρ,e,c,W,V,p⟩:=h;refine⟨ρ,e,c,W,V,post.bind p λx c1 aI H1 v _ W1 X1 r1 p1=>?_⟩
  cases x with
  |ref k =>
   obtain⟨ad,rfl,hk⟩:=r1;obtain⟨xs,hx⟩:=W1.at' (ahP hk);refine⟨.inl ⟨rfl,xs,bW.of hx⟩,aI,e,c1,W1,V.mono W X1,post.bind p1 λi c2 cN H2 ui _ W2 X2 r2 p2=>⟨cN,e,c2,W2,(V.mono W X1).mono W1 X2,post.bind p2 λy c3 ug H3 u _ W3 X3 r3 p3=>?_⟩⟩
   split at p3
   ·rename_i i' l hl _;split at p3
    ·rename_i hh;cases r2;obtain⟨nr,ys,hy,rl⟩:=W3.fH k ad _ (X3.pre k ad (X2.pre k ad hk)) hl;refine⟨ad,ys,u,i',rfl,rfl,hy,by rw[rl.length];exact hh.1,by rw[rl.length];exact hh.2.1,?_⟩
     refine p3 ug _ .aH (W3.write (X3.pre k ad (X2.pre k ad hk)) ?_ ((rl.take _).append ⟨u,_,rfl,r3,rl.drop _⟩)) (Ext.write (X3.pre k ad (X2.pre k ad hk))) rfl;rw[u9,XC nr];simp[bP,hh.2.2,XF nr]
    ·exact p3.elim
   ·exact p3.elim
  |_=>exact p1.elim
def o7:List D->aa->R D:=λxs c=>match xs with
 |[x]=>match gp c x with
  |some l=>if bP l=Θ then .ok (.ref c.length) (c++[.lst l])else .bad
  |none=>.bad
 |_=>.bad
theorem adP:eF X (.type "list") (rN X.K o7):=by
 intro pins s σ H vs us Q I rv h;obtain⟨ρ,xs,c,W,rx,p⟩:=h;unfold o7 at p;split at p
 ·rename_i x;obtain⟨v,r,rfl,hx,hr⟩:=rx;cases hr;split at p
  ·rename_i l hl;split at p
   ·rename_i nr;obtain⟨a,ys,rfl,sq,r⟩:=xx W hx hl;exact ad1 pins s σ H _ us Q I rv ⟨a,ys,rfl,sq,BU W nr r p⟩
   ·exact p.elim
  ·exact p.elim
 ·exact p.elim
end
@[simp] theorem Od(o a b:af) (e:Ev) (c:aa):vJ o a b e c=(o e c).bind λx c=>match x with
 |.ref k=>(a e c).bind λi c=>(b e c).bind λy c=>match i,c[k]? with
  |.int i,ζ (.lst l)=>if(0<=i/\i<=l.length)/\l.length<Ω/\noRef y=Θ then .ok .aH (c.set k (.lst (l.take i.toNat++y::l.drop i.toNat)))else .bad
  |_,_=>.bad
 |_=>.bad:=rfl
mutual
def fR(c:aa) (n:Nat):D->Option D
 |.ref k=>match c[k]? with
  |some (.lst l)=>if n<=k then ζ (.lst l)else η
  |none=>η
 |.lst l=>match mS c n l with
  |some m=>ζ (.lst m)
  |none=>η
 |.tup l=>match mS c n l with
  |some m=>ζ (.tup m)
  |none=>η
 |.aH=>ζ .aH
 |.bl b=>ζ (.bl b)
 |.int i=>ζ (.int i)
 |.str x=>ζ (.str x)
 |.ty x=>ζ (.ty x)
 |.bw x=>ζ (.bw x)
 |.fn x m=>ζ (.fn x m)
 |.exc x=>ζ (.exc x)
 |.gQ=>ζ .gQ
 |.dct ks=>ζ (.dct ks)
 |.lam _ _ _ _=>η
def mS(c:aa) (n:Nat):List D->Option (List D)
 |[]=>ζ []
 |d::l=>match fR c n d,mS c n l with
  |some a,ζ m=>ζ (a::m)
  |_,_=>η
end
section
variable {K:Δ}{aI:List Ξ}{H1:Hp}{c1:aa}{n:Nat}
mutual
theorem HA(W1:Wd K aI H1 c1):∀(d:D) (v:V) (d':D),Rel K aI H1 d v->fR c1 n d=ζ d'->Rel K (aI.take n) H1 d' v
 |.ref k,v,d',r,h=>by
  unfold fR at h;split at h
  ·rename_i l hl;split at h
   ·rename_i hk;cases h;obtain⟨a,rfl,ha⟩:=r;obtain⟨nr,xs,hx,rl⟩:=W1.fH k a _ ha hl;refine⟨a,xs,rfl,⟨hx,λq=>?_⟩,aM.low (λb h=>ahU h) l xs nr rl⟩
    obtain⟨j,hj,e⟩:=aiq.mp q;rw[akH]at e;have hk1:=ahz.mp ha;have hjl:j<aI.length:=by simp at hj;omega
    have:=(aiT W1.nd (h₀:=hjl) (h₁:=hk1.1)).mp (e.trans hk1.2.symm);simp at hj;omega
   ·cases h
  ·cases h
 |.lst l,v,d',r,h=>by
  unfold fR at h;split at h
  ·rename_i m hm;cases h;obtain⟨a,xs,rfl,s,rl⟩:=r;exact⟨a,xs,rfl,⟨s.1,λq=>s.2 (ahU q)⟩,AU W1 l xs m rl hm⟩
  ·cases h
 |.tup l,v,d',r,h=>by
  unfold fR at h;split at h
  ·rename_i m hm;cases h;obtain⟨a,xs,rfl,s,rl⟩:=r;exact⟨a,xs,rfl,s,AU W1 l xs m rl hm⟩
  ·cases h
 |.aH,v,d',r,h=>by unfold fR at h;cases h;exact Rel.low (λb h=>ahU h) _ _ rfl r
 |.bl b,v,d',r,h=>by unfold fR at h;cases h;exact Rel.low (λb h=>ahU h) _ _ rfl r
 |.int i,v,d',r,h=>by unfold fR at h;cases h;exact Rel.low (λb h=>ahU h) _ _ rfl r
 |.str x,v,d',r,h=>by unfold fR at h;cases h;exact Rel.low (λb h=>ahU h) _ _ rfl r
 |.ty x,v,d',r,h=>by unfold fR at h;cases h;exact Rel.low (λb h=>ahU h) _ _ rfl r
 |.bw x,v,d',r,h=>by unfold fR at h;cases h;exact Rel.low (λb h=>ahU h) _ _ rfl r
 |.fn x m,v,d',r,h=>by unfold fR at h;cases h;exact Rel.low (λb h=>ahU h) _ _ rfl r
 |.exc x,v,d',r,h=>by unfold fR at h;cases h;exact Rel.low (λb h=>ahU h) _ _ rfl r
 |.gQ,v,d',r,h=>by unfold fR at h;cases h;exact Rel.low (λb h=>ahU h) _ _ rfl r
 |.dct ks,v,d',r,h=>by unfold fR at h;cases h;exact Rel.low (λb h=>ahU h) _ _ rfl r
 |.lam _ _ _ _,v,d',r,h=>by unfold fR at h;cases h
theorem AU(W1:Wd K aI H1 c1):∀(l:List D) (xs:List V) (m:List D),aM K aI H1 l xs->mS c1 n l=ζ m->aM K (aI.take n) H1 m xs
 |[],xs,m,r,h=>by unfold mS at h;cases h;exact r
 |d::l,xs,m,r,h=>by
  unfold mS at h;split at h
  ·rename_i a m' ha hm;cases h;obtain⟨y,ys,rfl,r1,r2⟩:=r;exact⟨y,ys,rfl,HA W1 d y a r1 ha,AU W1 l ys m' r2 hm⟩
  ·cases h
end
end
def kc(n:Nat) (v:D) (c:aa):R D:=match fR c n v with
 |some d=>.ok d (c.take n)
 |none=>.bad
def ly(n:Nat) (d:ah):List D->aa->R D:=λxs c=>(d (cH n xs) c).bind λf c'=>match f with
 |.rt v=>kc c.length v c'
 |.nx _=>kc c.length .aH c'
 |_=>.bad
theorem LJ{K:Δ}{ρ aI:List Ξ}{H H1:Hp}{c c1:aa}{v:D}{x:V}{Q:VK}(W:Wd K ρ H c) (W1:Wd K aI H1 c1) (X1:Ext ρ H aI H1) (r:Rel K aI H1 v x) (p:post K (Rel K) (kc c.length v c1) ρ H Q):Q x H1:=by
 have hn:=Ext.len W W1 X1;have Wc:=W1.cut hn;have Xc:=X1.cut (n:=c.length) (aiz W.len);unfold kc at p;split at p
 ·rename_i d hd;exact p _ H1 x Wc Xc (HA W1 v x d r hd)
 ·exact p.elim
section
variable {P:τ}{w:ω}{K:Δ}{mg:Str->Option Ψ}{base:υ}
theorem DO{x qual:Str}{st:aav}{f:Ξ}{fd:ν}{N ps:List Str}{k n m:Nat}{d:ah}(F:jS K x qual st f fd) (S:cK N ps (aV st)) (hN:N.length=n) (hm:ps.length=m)
  (hb:∀(cdv:Ψ) (A:ψ) (outer:List Env) (s:ι) (H:Hp) (E:XK),dg k (A.deeper (envOfC qual (aV st) s.heap.objs.size f cdv))->cA (fP bQ P w K mg base N qual (aV st) f cdv A outer s H E).eS (cF st) d) :
  bX P w K mg base bQ (k+1) f fd ps (bY K m (ly n d)):=by
 subst hN;subst hm;refine F.ok S (λvs H Q E h=>?_) (λcdv A outer s H vs Q E hr h=>⟨_,hb cdv A outer s H E hr,?_⟩)
 ·obtain⟨ρ,xs,c,W,r,hl,p⟩:=h;exact r.length.trans hl
 ·obtain⟨ρ,xs,c,W,r,hl,p⟩:=h;refine⟨ρ,cH N.length xs,c,W,dX.start r,post.bind p λfl c1 aI H1 b _ W1 X1 r1 p1=>?_⟩
  cases fl with
  |nx e1 =>
   obtain⟨σ1,rfl,V1⟩:=r1;exact LJ (v:=.aH) (x:=.aH) (H1:=H1) W W1 X1 rfl (by unfold ly at p;rename_i he;rw[he]at p;exact p)
  |rt d =>
   obtain⟨v,rfl,V1⟩:=r1;exact LJ (v:=d) (x:=v) (H1:=H1) W W1 X1 V1 (by unfold ly at p;rename_i he;rw[he]at p;exact p)
  |bk e1=>exact p1.elim
  |ct e1=>exact p1.elim
end
@[simp] theorem AB(n:Nat) (d:ah) (xs:List D) (c:aa):ly n d xs c=(d (cH n xs) c).bind λf c'=>match f with
 |.rt v=>kc c.length v c'
 |.nx _=>kc c.length .aH c'
 |_=>.bad:=rfl
end L2
namespace L2
open PySem PySem.Spec PyProof.Rows
theorem Hw{l c:Int}{t u:Tok}{v:Ψ}:∀(xs:List Ψ),abh xs->abh (xs++[.int l t,.int c u,v])
 |[],_=>trivial
 |.int _ _ :: .int _ _::_::rest,h=>Hw (l:=l) (c:=c) (t:=t) (u:=u) (v:=v) rest h
theorem MY{pos p:Pos}{v cv:Ψ}:∀(xs:List Ψ),abh xs->codeAmong p (xs++[rawInt pos.line,rawInt pos.col,v])=ζ cv->codeAmong p xs=ζ cv\/cv=v
 |[],_,h=>by
  simp only[ahy,rawInt,codeAmong]at h;split at h
  ·exact .inr (ahA h).symm
  ·cases h
 |.int a _ :: .int b _::x::rest,ht,h=>by
  simp only[aiM,codeAmong]at h ⊢;split at h
  ·rename_i hc;rw[if_pos hc];exact .inl h
  ·rename_i hc;rw[if_neg hc];exact MY rest ht h
structure afm (H H':Hp) (n:Nat) (P:Ξ) (q:Str) (e:ο) (cl:List (Str×Ξ)) (a:Ξ):Prop where
 at':∃o c,H' a=ζ (.ext (o9 a o))/\we e o q c cl/\H' c=ζ (.ext (pM c q))
 keep:∀b u,H b=ζ u->vp u=Γ->H' b=ζ u
 new:∀b,b<n->H b=η->H' b=η
 tabs:∀b ps,b≠P->H b=ζ (.cR ps)->H' b=ζ (.cR ps)
 tab:TabAt H' P q
section
variable {X:Cx}{pins:List (Ξ×Obj)}{σ:St}{H:Hp}{s:ι}
theorem Mc{h1 h2:υ}{c:Ξ}{q:Str}(x:h1.CodeRec (.ref c) q) (k:∀o,h1.get? c=ζ o->h2.get? c=ζ o):h2.CodeRec (.ref c) q:=by
 obtain⟨c',oc,vs,t,e,h,r⟩:=x;cases e;exact⟨_,oc,vs,t,rfl,k _ h,r⟩
theorem Zb{c P:Ξ}{q:Str}{params:aaN}{body:ο}{scope:aaA}{pos:Pos}{clos:List (Str×Ξ)}{Q:Ψ->ι->Prop}
  (I:Inv X pins σ H s) (hcode:X.env.code=.ref c) (hq:X.env.qual++"<lambda>"=q) (hC:PySem.W.codeHdIn X.K c P=Θ) (hT:TabAt H P q) (hcl:closureFor scope X.env=pure clos) (hdef:defaultsOf params X.env=([],[]))
  (h:∀a H' s',Inv X pins σ H' s'->s.heap.objs.size<=a->afm H H' s.heap.objs.size P q (.Lambda params body scope pos) clos a->Q (.ref a) s') :
  wpAny (model X.prog X.w) X.A (eval (.Lambda params body scope pos) X.env) Q X.xe s:=by
 obtain⟨ps,hP,ht,hcs⟩:=hT;have vC:s.heap.get? P=ζ (PySem.W.tabObj ps):=I.hok P _ hP;have hns:s.heap.Ns ξ X.mg:=I.mod.glob.keeps I.bk;obtain⟨bm,ob,b1,b2,b3,b4,b5,b6⟩:=I.mod.bmod;have vS:=I.bk _ _ b3;have hgP:ξ≠P:=λz=>by
  obtain⟨o,es,ep,e,hd,_⟩:=hns;rw[z,vC]at e;cases e;cases hd
 have hbP:bm≠P:=λz=>by rw[z,vC]at vS;cases vS;cases b4
 have hbG:bm≠ξ:=λz=>by
  obtain⟨o,es,ep,e,hd,_⟩:=hns;rw[z,e]at vS;cases vS;rw[hd]at b6;cases b6
 have hB:s.heap.BuiltinsAt X.mg P:=⟨bm,ob,b1,b2,hbG,hbP,vS,b4,b5,b6⟩;have C:PySem.W.CodeHd s.heap c P:=akL I.eE hC;refine PySem.W.kla_eval hdef ?_;rw[hq];have Lc:P<s.heap.objs.size:=ahq vC;cases hf:codeAmong pos ps.toList with
 |some cv =>
  obtain⟨c',rfl,hc'⟩:=hcs pos cv hf;refine PySem.W.kla_makeFunctionHit hcl I.ok.glob hns hcode C vC ht hf hB λctv h' tk hk hsz=>?_
  generalize ho:({cls:=.type "function",data:=.func (PySem.W.kla_fn "<lambda>" q params body scope clos ((X.mg "__name__").getD .none) (.ref c') ctv)}:Obj)=o
  have hof:o.isFreed=Γ:=by rw[<-ho];rfl
  have hn:H h'.objs.size=η:=I.hok.fresh hsz;have nb:∀b u,H b=ζ u->b≠h'.objs.size:=λb u e=>dG e hn
  refine h h'.objs.size (upd H h'.objs.size (.ext (o9 h'.objs.size o))) _ (I.laid (t':=tk) (λb u e=>ahs _ (hk b u e)) hsz ?_) hsz ⟨⟨o,c',gI,⟨_,ctv,ho.symm⟩,by rw[bA (nb _ _ hc')];exact hc'⟩,λb u e _=>by rw[bA (nb b u e)];exact e,λb hb e=>by rw[bA (ahx (ahv hb hsz))];exact e,λb ps' _ e=>by rw[bA (nb b _ e)];exact e,⟨ps,by rw[bA (nb _ _ hP)];exact hP,ht,λp v e=>let⟨d,e1,e2⟩:=hcs p v e;⟨d,e1,by rw[bA (nb _ _ e2)];exact e2⟩⟩⟩
  exact⟨ahG _ hof,⟨_,ahG _ hof⟩,λh1 h2 e k=>k _ e⟩
 |none =>
  refine PySem.W.kla_makeFunction hcl I.ok.glob hns hcode C vC ht hf hgP hB λc' ctv h' tk hx hge hlt hrec htb=>?_
  generalize ho:PySem.W.kla_obj "<lambda>" q params body scope clos ((X.mg "__name__").getD .none) c' ctv=o
  have hsz:s.heap.objs.size<=h'.objs.size:=ahB hge (aiS hlt);have hof:o.isFreed=Γ:=by rw[<-ho];rfl
  have hnc:H c'=η:=I.hok.fresh hge;have hna:H h'.objs.size=η:=I.hok.fresh hsz;have hca:c'≠h'.objs.size:=ahx hlt;have hPc:P≠c':=ahx (ahv Lc hge);have hPa:P≠h'.objs.size:=ahx (ahv Lc hsz)
  generalize hps:ps ++ #[rawInt pos.line,rawInt pos.col,.ref c']=ps' at htb
  let H':Hp:=upd (upd (upd H P (.cR ps')) c' (.ext (pM c' q))) h'.objs.size (.ext (o9 h'.objs.size o))
  have pX:∀b,b≠P->b≠c'->b≠h'.objs.size->H' b=H b:=λb n1 n2 n3=>by
   show upd (upd (upd H P (.cR ps')) c' _) h'.objs.size _ b=_;rw[bA n3,bA n2,bA n1]
  have tX:H' P=ζ (.cR ps'):=by
   show upd (upd (upd H P (.cR ps')) c' _) h'.objs.size _ P=_;rw[bA hPa,bA hPc,gI]
  have Ge:H' c'=ζ (.ext (pM c' q)):=by
   show upd (upd (upd H P (.cR ps')) c' _) h'.objs.size _ c'=_;rw[bA hca,gI]
  have MX:H' h'.objs.size=ζ (.ext (o9 h'.objs.size o)):=gI;have old:∀b u,H b=ζ u->vp u=Γ->H' b=ζ u:=λb u e t=>by
   rw[pX b (λz=>by rw[z,hP]at e;cases e;cases t) (dG e hnc) (dG e hna)];exact e
  have kp:∀b ob,b≠P->s.heap.get? b=ζ ob->(h'.push o).get? b=ζ ob:=λb ob n e=>ahs _ (hx b ob n e)
  have aaF:cD X.prog X.w H' (h'.push o):=λb u e=>by
   by_cases h1:b=h'.objs.size
   ·subst h1;rw[MX]at e;cases e;exact⟨ahG _ hof,⟨_,ahG _ hof⟩,λh1 h2 e k=>k _ e⟩
   ·by_cases h2:b=c'
    ·subst h2;rw[Ge]at e;cases e;obtain⟨d,oc,vs,t,e0,e1,e2⟩:=id hrec;cases e0;refine⟨Mc hrec λo e=>ahs _ e,⟨oc,ahs _ e1⟩,λh1 h2 x k=>Mc x k⟩
    ·by_cases h3:b=P
     ·subst h3;rw[tX]at e;cases e;exact ahs _ htb
     ·rw[pX b h3 h2 h1]at e;refine(I.hok b u e).stay (λd w hd z=>kp d w ?_ z) (λd z=>?_) λd xs z=>?_
      ·rcases hd with hd|hd
       ·rw[hd];exact h3
       ·intro z2;rw[z2,hP]at hd;cases hd
      ·exact old d _ z rfl
      ·exact old d _ z rfl
  have I':Inv X pins σ H' {s with heap:=h'.push o,toks:=tk}:=by
   refine I.step (g':=s.gens) (d':=s.drawn) (ch:=[]) (λ_ z=>nomatch z) (λb ob _ _ _ e n=>kp b ob (λz=>by rw[z,hP]at n;cases n) e) (λb ob _ _ _ e n=>⟨ob.slots,kp b ob (λz=>by rw[z,hP]at n;cases n) e⟩) (λb ob _ e n=>?_) (λb ob _ e=>?_) (λb xs e=>old b _ e rfl) (λb o' u e=>old b _ e rfl) (λb ps2 e=>?_) (λm hm=>?_) aaF I.bare
   ·have hb:=ahq e;rw[pX b (λz=>by rw[z,hP]at n;cases n) (ahx (ahv hb hge)) (ahx (ahv hb hsz))]
    exact n
   ·by_cases hb:b=P
    ·subst hb;exact⟨_,ahs _ htb⟩
    ·exact⟨ob,kp b ob hb e⟩
   ·by_cases hb:b=P
    ·subst hb;rw[hP]at e;cases e;exact⟨#[rawInt pos.line,rawInt pos.col,.ref c'],by rw[tX,hps]⟩
    ·refine⟨#[],?_⟩;rw[pX b hb (dG e hnc) (dG e hna),e];simp
   ·have hLP:X.env.locals≠P:=λz=>by have:=I.free;rw[z,hP]at this;cases this
    obtain⟨ol,es,ep,e,r⟩:=hm;exact⟨ol,es,ep,kp _ _ hLP e,r⟩
  refine h h'.objs.size H' _ I' hsz ⟨⟨o,c',MX,⟨_,ctv,ho.symm⟩,Ge⟩,old,λb hb e=>?_,λb ps2 nb e=>?_,⟨ps',tX,?_,λp v e=>?_⟩⟩
  ·rw[pX b (λz=>by rw[z,hP]at e;cases e) (ahx (ahv hb hge)) (ahx (ahv hb hsz))];exact e
  ·rw[pX b nb (dG e hnc) (dG e hna)];exact e
  ·rw[<-hps,ajW];exact Hw _ ht
  ·rw[<-hps,ajW]at e
   rcases MY ps.toList ht e with e|e
   ·obtain⟨d,e1,e2⟩:=hcs p v e;exact⟨d,e1,old d _ e2 rfl⟩
   ·exact⟨c',e,Ge⟩
end
def fX(H:Hp) (F:Ξ->Option Obj):Hp:=λb=>match F b with
 |some o=>ζ (.cO o (.own 0))
 |none=>H b
def c8(H:Hp) (F:Ξ->Option Obj):Hp:=λb=>match F b with
 |some _=>η
 |none=>H b
section
variable {H H':Hp}{F:Ξ->Option Obj}{b:Ξ}{o:Obj}{u:HO}
theorem nJ(h:F b=ζ o):fX H F b=ζ (.cO o (.own 0)):=by unfold fX;rw[h]
theorem jk(h:F b=η):fX H F b=H b:=by unfold fX;rw[h]
theorem qo(h:F b=ζ o):c8 H F b=η:=by unfold c8;rw[h]
theorem jb(h:F b=η):c8 H F b=H b:=by unfold c8;rw[h]
theorem Gz(hF:∀b o,F b=ζ o->H b=η) (h:H b=ζ u):F b=η:=by
 cases e:F b with
 |none=>rfl
 |some o=>rw[hF b o e]at h;cases h
theorem jM(hF:∀b o,F b=ζ o->H b=η) (h:H b=ζ u):fX H F b=ζ u:=by rw[jk (Gz hF h)];exact h
end
section
variable {X:Cx}{pins:List (Ξ×Obj)}{σ:St}{H H':Hp}{s s':ι}{F:Ξ->Option Obj}
structure Gx (X:Cx) (H:Hp) (s:ι) (F:Ξ->Option Obj):Prop where
 heap:∀b o,F b=ζ o->s.heap.get? b=ζ o
 free:∀b o,F b=ζ o->H b=η
 high:∀b o,F b=ζ o->X.s₀.heap.objs.size<=b
 loc:∀b o,F b=ζ o->b≠X.env.locals
theorem LB{P:τ}{w:ω}{h:υ}(hok:cD P w H h) (hF:∀b o,F b=ζ o->H b=η) (hh:∀b o,F b=ζ o->h.get? b=ζ o):cD P w (fX H F) h:=λb u e=>by
 cases hb:F b with
 |some o =>
  rw[nJ hb]at e;cases e;exact⟨hh b o hb,o,hh b o hb⟩
 |none =>
  rw[jk hb]at e;exact(hok b u e).stay (λ_ _ _ z=>z) (λc z=>jM hF z) λc xs z=>jM hF z
theorem LC(I:Inv X pins σ H s) (Z:Gx X H s F):mG X.prog X.w X.K X.mg X.base X.A X.stack s (fX H F):=by
 have e:=I.zK;have sz:X.base.objs.size<=X.s₀.heap.objs.size:=I.ok.gk;refine⟨e.frames,e.mod,λb o h=>?_,e.gk,e.fW,λb hb=>?_,LB I.hok Z.free Z.heap,e.bare⟩
 ·obtain⟨h1,h2⟩:=e.bs b o h;refine⟨h1,?_⟩;cases hb:F b with
  |none=>rw[jk hb];exact h2
  |some ob=>exact absurd (ahv (ahq h) (ahB sz (Z.high b ob hb))) (ah0 _)
 ·cases hF:F b with
  |none=>rw[jk hF];exact e.iw b hb
  |some ob =>
   exfalso
   rcases aho.mp (I.mW b hb)with z|z
   ·exact Z.loc b ob hF z
   ·obtain⟨_,o2,ho,_⟩:=I.ok.fW.mem z;exact absurd (ahv (ahq ho) (Z.high b ob hF)) (ah0 _)
theorem Pj{fs:List Ξ}{h h':υ}{P:τ}{w:ω}(hF:∀b o,F b=ζ o->H b=η) (hh:∀b o,F b=ζ o->h.get? b=ζ o) (hfs:∀b o,F b=ζ o->b∉fs) (un:Un fs [] (fX H F) H' h h') (hok:cD P w H' h'):Un fs [] H (c8 H' F) h h'/\cD P w (c8 H' F) h':=by
 have fz:∀b o,F b=ζ o->H' b=ζ (.cO o (.own 0)):=λb o e=>un.gA b o _ (nJ e)
 have nn:∀{b:Ξ}{u:HO},H b=ζ u->F b=η:=λe=>Gz hF e
 refine⟨⟨λb o e n hb hx=>?_,λb o e n hb hx=>?_,λb o e n hx=>?_,un.there,λb xs e=>?_,λb o u e=>?_,λb ps e=>?_⟩,λb u e=>?_⟩
 ·cases hb':F b with
  |none=>exact un.keep b o e (by rw[jk hb'];exact n) hb hx
  |some ob =>
   have e1:=hh b ob hb';rw[e]at e1;cases e1;exact(hok b _ (fz b o hb')).1
 ·cases hb':F b with
  |none=>exact un.slot b o e (by rw[jk hb'];exact n) hb hx
  |some ob=>exact absurd hb (hfs b ob hb')
 ·cases hb':F b with
  |none=>rw[jb hb'];exact un.free b o e (by rw[jk hb'];exact n) hx
  |some ob=>exact qo hb'
 ·rw[jb (nn e)];exact un.tups b xs (jM hF e)
 ·rw[jb (nn e)];exact un.gA b o u (jM hF e)
 ·obtain⟨more,z⟩:=un.gJ b ps (jM hF e);exact⟨more,by rw[jb (nn e)];exact z⟩
 ·cases hb:F b with
  |some ob=>rw[qo hb]at e;cases e
  |none =>
   rw[jb hb]at e;have st:∀{c:Ξ}{v:HO},H' c=ζ v->(∀o,v≠.cO o (.own 0))->c8 H' F c=ζ v:=fun{c v} z n=>by
    cases hc:F c with
    |none=>rw[jb hc];exact z
    |some oc=>rw[fz c oc hc]at z;exact absurd (ahA z).symm (n oc)
   exact(hok b u e).stay (λ_ _ _ z=>z) (λc z=>st z λ_ q=>nomatch q) λc xs z=>st z λ_ q=>nomatch q
theorem RT{k:Nat}{f:Ξ}{fd:ν}{ps:List Str}{sp:Sp}{us:List Ψ}{vs:List V}{Q:VK}(G:bX X.prog X.w X.K X.mg X.base bQ k f fd ps sp) (hr:dg k X.A) (hb:Binds X.K fd ps []) (I:Inv X pins σ H s) (Z:Gx X H s F) (r:Vals vs us)
  (h:sp vs (fX H F) (λv H'=>Q v (c8 H' F)) E0):wpAny (model X.prog X.w) X.A (call (.ref f) us) (EP X pins σ Q) X.xe s:=by
 have hl:us.length=ps.length:=by rw[<-r.length];exact G.len _ _ _ _ h
 have hb':=hb s us I.eE (by rw[aim];exact hl)
 rw[aim]at hb';refine ai5 (aiD (G.run X.A X.stack s (fX H F) ⟨us,[]⟩ us vs _ E0 hr (LC I Z) hb' r h) λr s' hq=>?_)
 cases r with
 |error e=>exact False.elim hq
 |ok fl =>
  cases fl with
  |ret u =>
   obtain⟨v,H',os,bare,un,hok,rv,q⟩:=hq;obtain⟨AR,aaG⟩:=Pj Z.free Z.heap (λb o e hb=>by
    have:=(LC I Z).iw b hb;rw[nJ e]at this;cases this) un hok
   exact⟨v,c8 H' F,I.Fj os AR aaG bare λb z=>absurd z (by simp),rv,q⟩
  |next=>exact False.elim hq
  |brk=>exact False.elim hq
  |cont=>exact False.elim hq
end
section
variable {K:Δ}{ρ ρ':List Ξ}{H H':Hp}{c c':aa}{F:Ξ->Option Obj}
theorem GW(W:Wd K ρ H c) (k:∀b u,H b=ζ u->vp u=Γ->H' b=ζ u) (t:p7 K H'):Ext ρ H ρ H'/\Wd K ρ H' c:=by
 have X:Ext ρ H ρ H':=⟨λ_ _ e=>e,λa o e n z=>⟨k a o e z,n⟩⟩
 refine⟨X,W.nd,W.len,λj a cl e1 e2=>?_,t⟩
 have q:=W.fH j a cl e1 e2;cases cl with
 |lst l =>
  obtain⟨nr,xs,e,r⟩:=q;exact⟨nr,xs,k _ _ e rfl,aM.mono W X l xs r⟩
theorem GX(W:Wd K ρ H c) (hF:∀b o,F b=ζ o->H b=η):Ext ρ H ρ (fX H F)/\Wd K ρ (fX H F) c :=
 GW W (λb u e _=>jM hF e) (W.tab.mono (λ_ _ e=>jM hF e) λ_ _ e=>jM hF e)
theorem ja{b:Ξ}{u:HO}(hF:∀b o,F b=ζ o->H b=ζ (.cO o (.own 0))) (e:H b=ζ u) (n:∀o,u≠.cO o (.own 0)):c8 H F b=ζ u:=by
 cases hc:F b with
 |none=>rw[jb hc];exact e
 |some oc=>rw[hF b oc hc]at e;exact absurd (ahA e).symm (n oc)
mutual
theorem Rel.c8(hF:∀b o,F b=ζ o->H b=ζ (.cO o (.own 0))):∀(d:D) (v:V),gv d=Θ->Rel K ρ H d v->Rel K ρ (c8 H F) d v
 |.aH,v,_,h=>h
 |.bl b,v,_,h=>h
 |.int i,v,_,h=>h
 |.str y,v,_,h=>h
 |.ty n,v,_,h=>h
 |.tup l,v,n,h=>by
  obtain⟨a,xs,e,s,r⟩:=h;exact⟨a,xs,e,ja hF s (λ_ z=>nomatch z),aM.c8 hF l xs (by unfold gv at n;exact n) r⟩
 |.lst l,v,n,h=>by
  obtain⟨a,xs,e,s,r⟩:=h;exact⟨a,xs,e,⟨ja hF s.1 (λ_ z=>nomatch z),s.2⟩,aM.c8 hF l xs (by unfold gv at n;exact n) r⟩
 |.ref k,v,_,h=>h
 |.bw l,v,_,h=>by
  obtain⟨a,e,s⟩:=h;refine⟨a,e,?_⟩
  rcases s with⟨s,z⟩|s
  ·rcases s with s|⟨o,s⟩
   ·exact .inl ⟨.inl (ja hF s (λ_ z=>nomatch z)),z⟩
   ·exact .inl ⟨.inr ⟨o,ja hF s (λ_ z=>nomatch z)⟩,z⟩
  ·exact .inr s
 |.fn a n,v,_,h=>h
 |.gQ,v,_,h=>by
  obtain⟨a,e,q⟩:=h;exact⟨a,e,ja hF q (λ_ z=>nomatch z)⟩
 |.dct ks,v,_,h=>by
  obtain⟨a,kvs,e,q,z⟩:=h;exact⟨a,kvs,e,ja hF q (λ_ z=>nomatch z),z⟩
 |.exc y,v,_,h=>by
  obtain⟨a,C,e,n,q⟩:=h;exact⟨a,C,e,n,ja hF q (λ_ z=>nomatch z)⟩
 |.lam _ _ _ _,v,n,h=>by unfold gv at n;cases n
theorem aM.c8(hF:∀b o,F b=ζ o->H b=ζ (.cO o (.own 0))):∀(l:List D) (xs:List V),gM l=Θ->aM K ρ H l xs->aM K ρ (c8 H F) l xs
 |[],xs,_,h=>h
 |d::l,xs,n,h=>by
  obtain⟨y,r,e,h1,h2⟩:=h;unfold gM at n;rw[ahL]at n;exact⟨y,r,e,Rel.c8 hF d y n.1 h1,aM.c8 hF l r n.2 h2⟩
end
theorem GV(W:Wd K ρ H c) (hF:∀b o,F b=ζ o->H b=ζ (.cO o (.own 0))):Wd K ρ (c8 H F) c:=by
 refine⟨W.nd,W.len,λj a cl e1 e2=>?_,W.tab.mono (λ_ _ e=>ja hF e (λ_ z=>nomatch z)) λ_ _ e=>ja hF e (λ_ z=>nomatch z)⟩
 have q:=W.fH j a cl e1 e2;cases cl with
 |lst l =>
  obtain⟨nr,xs,e,r⟩:=q;exact⟨nr,xs,ja hF e (λ_ z=>nomatch z),aM.c8 hF l xs (yo l nr) r⟩
theorem ab1(x:Ext ρ (fX H F) ρ' H') (hF:∀b o,F b=ζ o->H b=η):Ext ρ H ρ' (c8 H' F) :=
 ⟨x.pre,λa o e n t=>by
  obtain⟨h1,h2⟩:=x.keep a o (jM hF e) n t;exact⟨by rw[jb (Gz hF e)];exact h1,h2⟩⟩
theorem ab3(x:Ext ρ (c8 H F) ρ' H') (W':Wd K ρ' H' c') (hF:∀b o,F b=ζ o->H b=ζ (.cO o (.own 0))) (hn:∀b o,F b=ζ o->H' b=η):Ext ρ H ρ' (fX H' F) :=
 ⟨x.pre,λa o e n t=>by
  cases hc:F a with
  |some oc =>
   have:=hF a oc hc;rw[e]at this;cases this;exact⟨nJ hc,W'.nil (hn a oc hc)⟩
  |none =>
   obtain⟨h1,h2⟩:=x.keep a o (by rw[jb hc];exact e) n t
   exact⟨by rw[jk hc];exact h1,h2⟩⟩
end
end L2
namespace L2
open PySem PySem.Spec PyProof.Rows
structure gD (X:Cx) (ns:List Str) (js:List Nat) (scope:aaA):Prop where
 names:∀x∈scope.names,x.2=.free->X.env.kindOf x.1=ζ .cell\/X.env.kindOf x.1=ζ .free
 got:∀(i j:Nat) (x:Str),js[i]? = ζ j->ns[i]? = ζ x->(x,NameKind.free)∈scope.names/\X.N[j]? = ζ x/\(X.env.kindOf x=ζ .cell\/X.env.kindOf x=ζ .free)
 all:∀x,(x,NameKind.free)∈scope.names->x∈ns
def Ke(XN:List Str) (xn:List (Str×aaw)) (ns:List Str) (js:List Nat) (names:List (Str×aaw)):Bool :=
 names.all (λx=>decide (x.2≠NameKind.free)||((decide (xn.lookup x.1=ζ NameKind.cell)||decide (xn.lookup x.1=ζ NameKind.free))&&decide (x.1∈ns))) &&
 (js.zip ns).all (λq=>decide ((q.2,NameKind.free)∈names)&&decide (XN[q.1]? = ζ q.2)&&(decide (xn.lookup q.2=ζ NameKind.cell)||decide (xn.lookup q.2=ζ NameKind.free)))
theorem gD.of{X:Cx}{ns:List Str}{js:List Nat}{scope:aaA}(h:Ke X.N X.env.scope.names ns js scope.names=Θ):gD X ns js scope:=by
 unfold Ke at h;simp only[ahL,ahQ,decide_eq_true_eq,aiH]at h;obtain⟨h1,h2⟩:=h;refine⟨λx hx e=>?_,λi j x hj hx=>?_,λx hx=>?_⟩
 ·rcases h1 x hx with z|z
  ·exact absurd e z
  ·exact z.1
 ·have hm:(j,x)∈js.zip ns:=by
   have:(js.zip ns)[i]? = ζ (j,x):=by rw[aky];exact⟨hj,hx⟩
   exact ahP this
  obtain⟨⟨a,b⟩,d⟩:=h2 _ hm;exact⟨a,b,d⟩
 ·rcases h1 _ hx with z|z
  ·exact absurd rfl z
  ·exact z.2
section
variable {X:Cx}{pins:List (Ξ×Obj)}{σ:St}{H:Hp}{s:ι}{ns:List Str}{js:List Nat}{scope:aaA}
abbrev lD(X:Cx) (scope:aaA):List (Str×Ξ):=gc X.env scope.names []
theorem gD.clos(S:gD X ns js scope) (I:Inv X pins σ H s):closureFor scope X.env=pure (lD X scope):=by
 have e:=zV (env:=X.env) scope.names [] λx hx hk=>I.ok.has x.1 (S.names x hx hk)
 show((forIn scope.names ([]:List (Str×Ξ)) fun(x:Str×aaw) cs=>(if(x.2==NameKind.free)=Θ then do let a <-cellOf X.env x.1;pure (ForInStep.yield ((x.1,a)::cs))else pure (ForInStep.yield cs):Sem (ForInStep (List (Str×Ξ))))) >>= λcs=>pure cs)=_
 rw[e,pure_bind]
theorem gD.cap(S:gD X ns js scope) (I:Inv X pins σ H s) {x:Str}{c:Ξ}(h:(lD X scope).lookup x=ζ c):(x,NameKind.free)∈scope.names/\X.env.cells.lookup x=ζ c:=by
 rcases Gi _ _ h with⟨a,b⟩|q
 ·refine⟨a,?_⟩;obtain⟨c',hc⟩:=I.ok.has x (S.names _ a rfl);rw[hc]at b ⊢;rw[b];rfl
 ·cases q
theorem gD.has(S:gD X ns js scope) (I:Inv X pins σ H s) {x:Str}(h:(x,NameKind.free)∈scope.names):∃c,(lD X scope).lookup x=ζ c:=aiY.mp (Gj _ _ (.inr h))
theorem gD.cl(S:gD X ns js scope) (I:Inv X pins σ H s):wm (lD X scope) ns:=⟨λx y c h1 h2=>I.ok.inj x y c (S.cap I h1).2 (S.cap I h2).2,λx c h=>S.all x (S.cap I h).1⟩
open Classical in
def nI(cl:List (Str×Ξ)) (h:υ):Ξ->Option Obj:=λb=>if ∃x,cl.lookup x=ζ b then h.get? b else η
theorem DM{cl:List (Str×Ξ)}{h:υ}{b:Ξ}{o:Obj}(e:nI cl h b=ζ o):(∃x,cl.lookup x=ζ b)/\h.get? b=ζ o:=by
 unfold nI at e;split at e
 ·rename_i z;exact⟨z,e⟩
 ·cases e
theorem LA{cl:List (Str×Ξ)}{h:υ}{b:Ξ}{o:Obj}{x:Str}(e:cl.lookup x=ζ b) (g:h.get? b=ζ o):nI cl h b=ζ o:=by
 unfold nI;rw[if_pos ⟨x,e⟩,g]
theorem gD.fz(S:gD X ns js scope) (I:Inv X pins σ H s) (hfn:∀x,X.fn x=Θ):Gx X H s (nI (lD X scope) s.heap):=by
 refine⟨λb o e=>(DM e).2,λb o e=>?_,λb o e=>?_,λb o e=>?_⟩
 all_goals
  obtain⟨⟨x,hx⟩,_⟩:=DM e;have hc:=(S.cap I hx).2
 ·exact I.gj x b hc
 ·exact I.ok.jn x b (hfn x) hc
 ·exact I.nP x b hc
theorem gD.cells(S:gD X ns js scope) (I:Inv X pins σ H s) (i j:Nat) (x:Str) (v:V) (hj:js[i]? = ζ j) (hx:ns[i]? = ζ x) (hv:σ[j]? = ζ (ζ v)):∃c oc u,(lD X scope).lookup x=ζ c/\nI (lD X scope) s.heap c=ζ oc/\oc.data=.cell (ζ u)/\RelV v u:=by
 obtain⟨h1,h2,h3⟩:=S.got i j x hj hx;obtain⟨c,hc⟩:=S.has I h1;have hce:=(S.cap I hc).2;obtain⟨m,hm,hl⟩:=I.loc;obtain⟨u,ru,lk⟩:=hl j x v h2 hv (h3.elim (λz=>.inr (.inl z)) λz=>.inr (.inr z))
 rcases lk with⟨k,_⟩|⟨_,c',hc',oc,ho,hd⟩
 ·rcases h3 with z|z<;>(rw[z]at k;cases k)
 ·rw[hce]at hc';cases hc';exact⟨c,oc,u,hc,LA hc ho,hd,ru⟩
structure afl (H H':Hp) (P:Ξ) (q:Str) (e:ο) (cl:List (Str×Ξ)) (a:Ξ):Prop where
 at':∃o c,H' a=ζ (.ext (o9 a o))/\we e o q c cl/\H' c=ζ (.ext (pM c q))
 keep:∀b u,H b=ζ u->vp u=Γ->H' b=ζ u
 tabs:∀b ps,b≠P->H b=ζ (.cR ps)->H' b=ζ (.cR ps)
 tab:TabAt H' P q
def Qk(P:Ξ) (q:Str) (e:ο) (cl:List (Str×Ξ)):TE:=λ_ H Q=>TabAt H P q/\∀a H',afl H H' P q e cl a->Q (.ref a) H'
theorem Ux{c P:Ξ}{q:Str}{params:aaN}{body:ο}{pos:Pos}(S:gD X ns js scope) (hcode:X.env.code=.ref c) (hq:X.env.qual++"<lambda>"=q) (hC:PySem.W.codeHdIn X.K c P=Θ) (hdef:defaultsOf params X.env=([],[])) :
  PE X (.Lambda params body scope pos) (Qk P q (.Lambda params body scope pos) (lD X scope)):=λpins s σ H Q I h =>
 Zb I hcode hq hC h.1 (S.clos I) hdef λa H' s' I' hge N=>⟨.ref a,H',I',rfl,h.2 a H' ⟨N.at',N.keep,N.tabs,N.tab⟩⟩
def Qp(cl:List (Str×Ξ)) (ns:List Str) (js:List Nat) (sp:Sp) (t:TA):TE:=λσ H Q=>t σ H λvs H1=>wm cl ns->∀F:Ξ->Option Obj,(∀b o,F b=ζ o->H1 b=η) ->
 (∀(i j:Nat) (x:Str) (v:V),js[i]? = ζ j->ns[i]? = ζ x->σ[j]? = ζ (ζ v)->∃c oc u,cl.lookup x=ζ c/\F c=ζ oc/\oc.data=.cell (ζ u)/\RelV v u)->sp vs (fX H1 F) (λv H'=>Q v (c8 H' F)) E0
theorem UE{x:Str}{st:aav}{ps:List Str}{f:Ξ}{fd:ν}{k:Nat}{sp:Sp}{e:ο}{es:List ο}{t:TA}{p pos:Pos}(D:Def X.K X.mg x st ps f fd) (G:bX X.prog X.w X.K X.mg X.base bQ k f fd ps sp) (hr:dg k X.A) (S:gD X ns js scope) (hfn:∀x,X.fn x=Θ) (ha:PA X (e::es) t) (hg:Gl X x:=by rfl)
  (hdb:(x==("__debug__":Str))=Γ:=by decide) (he:μ (e::es) X.env=(Γ,eval e X.env)::μ es X.env:=by rfl) (hpl:(aab pos (μ es X.env)).any (·.1)=Γ:=by rfl) :
  PE X (.Call (.Name x p) (e::es) [] pos) (Qp (lD X scope) ns js sp t):=by
 intro pins s σ H Q I h;refine aiE (sd I hg D.at' ?_ hdb);refine ajF (h₀:=X.base) I.ok.mod.jH D.fn.kp (bE (ha pos pins s σ H _ I h) λus s1 ⟨vs,H1,I1,r,q⟩=>⟨I1.eE,?_⟩) he hpl
 exact RT G hr D.bd I1 (S.fz I1 hfn) r (q (S.cl I1) _ (λb o e=>(S.fz I1 hfn).free b o e) λi j x v h1 h2 h3=>S.cells I1 i j x v h1 h2 h3)
end
def getAll(e:Ev):List Nat->Option (List D)
 |[]=>ζ []
 |j::js=>match e[j]?,getAll e js with
  |some (ζ d),ζ l=>ζ (d::l)
  |_,_=>η
def sN(k:Nat) (m:List D->aa->R D) (d1:af) (E:ο) (ns:List Str) (js:List Nat):af:=λe c=>(d1 e c).bind λx c=>match getAll e js with
 |some l=>(m [x,.lam k E ns l] c).bind λv c=>if noRef v=Θ then .ok v c else .bad
 |none=>.bad
section
variable {X:Cx}{K:Δ}{ρ:List Ξ}{H Hf:Hp}{σ:St}
theorem MP{e:Ev}{cl:List (Str×Ξ)}{F:Ξ->Option Obj}(Vv:dX K ρ H e σ) (hV:∀d v,Rel K ρ H d v->Rel K ρ Hf d v) (hf:∀c o,F c=ζ o->Hf c=ζ (.cO o (.own 0))):∀(js:List Nat) (ns:List Str) (l:List D),js.length=ns.length->getAll e js=ζ l ->
  (∀(i j:Nat) (x:Str) (v:V),js[i]? = ζ j->ns[i]? = ζ x->σ[j]? = ζ (ζ v)->∃c oc u,cl.lookup x=ζ c/\F c=ζ oc/\oc.data=.cell (ζ u)/\RelV v u)->∃xs,iJ Hf cl ns xs/\aM K ρ Hf l xs
 |[],[],l,_,h,_=>by
  unfold getAll at h;cases h;exact⟨[],rfl,rfl⟩
 |j::js,x::ns,l,hl,h,hc=>by
  unfold getAll at h;split at h
  ·rename_i d r hd hr;cases h;obtain⟨v,hv,rv⟩:=Vv.get j d hd;obtain⟨c,oc,u,h1,h2,h3,h4⟩:=hc 0 j x v rfl rfl hv;obtain⟨xs,h5,h6⟩:=MP Vv hV hf js ns r (Nat.succ.inj hl) hr λi j x v a b d=>hc (i+1) j x v a b d
   exact⟨v::xs,⟨v,xs,c,oc,u,rfl,h1,hf c oc h2,h3,h4,h5⟩,v,xs,rfl,hV d v rv,h6⟩
  ·cases h
 |[],_::_,_,hl,_,_=>by cases hl
 |_::_,[],_,hl,_,_=>by cases hl
def B5(K:Δ):List (Str×Ξ):=pe.filterMap λx=>(PySem.W.tabIn K x).map λq=>(x,q.2)
def uF(K:Δ):Bool:=(B5 K).all λa=>(B5 K).all λb=>!(a.2==b.2)||(a.1==b.1)
theorem PU(h:uF K=Θ) {x y:Str}{c d P:Ξ}(hx:x∈pe) (hy:y∈pe) (tx:PySem.W.tabIn K x=ζ (c,P)) (ty:PySem.W.tabIn K y=ζ (d,P)):x=y:=by
 unfold uF at h;have m:∀{z:Str}{c:Ξ},z∈pe->PySem.W.tabIn K z=ζ (c,P)->(z,P)∈B5 K:=fun{z c} hz tz=>aiV.mpr ⟨z,hz,by rw[tz];rfl⟩
 have:=ahQ.mp (ahQ.mp h _ (m hx tx)) _ (m hy ty)
 simpa using this
theorem Wd.XI{c:aa}{a:Ξ}{o:Obj}{u:HO}(W:Wd K ρ H c) (h:H a=ζ (.cO o u)):a∉ρ:=λm=>by
 obtain⟨ys,e⟩:=W.at' m;rw[e]at h;cases h
theorem UQ{kk:Nat}{x y:Str}{st:aav}{ps:List Str}{f c P:Ξ}{fd:ν}{k:Nat}{m:List D->aa->R D}{e1 body:ο}{d1:af}{params:aaN}{scope:aaA}{ns:List Str}{js:List Nat}{p pos o6:Pos}
  (D:Def X.K X.mg x st ps f fd) (G:bX X.prog X.w X.K X.mg X.base bQ k f fd ps (bY X.K 2 m)) (hr:dg k X.A) (he1:aY X e1 d1) (S:gD X ns js scope) (hjn:js.length=ns.length) (hfn:∀x,X.fn x=Θ) (hy:y∈pe) (ht:PySem.W.tabIn X.K y=ζ (c,P)) (hap:uF X.K=Θ) (hcode:X.env.code=.ref c) (hq:X.env.qual++"<lambda>"=yE y) (hC:PySem.W.codeHdIn X.K c P=Θ)
  (hdef:defaultsOf params X.env=([],[]):=by rfl) (hg:Gl X x:=by rfl)
  (hdb:(x==("__debug__":Str))=Γ:=by decide) (hs1:μ [e1,.Lambda params body scope o6] X.env=(Γ,eval e1 X.env)::μ [.Lambda params body scope o6] X.env:=by exact bS rfl) (hs2:μ [.Lambda params body scope o6] X.env=(Γ,eval (.Lambda params body scope o6) X.env)::μ [] X.env:=by exact bS rfl) (hpl:(aab pos (μ [.Lambda params body scope o6] X.env)).any (·.1)=Γ:=by exact g9 rfl) :
  aY X (.Call (.Name x p) [e1,.Lambda params body scope o6] [] pos) (sN kk m d1 (.Lambda params body scope o6) ns js) :=
 PE.imp (UE D G hr S hfn (iF he1 (iF (Ux (c:=c) (P:=P) (q:=yE y) S hcode hq hC hdef) jC hs2) hs1) hg hdb hs1 hpl) λσ H Q h=>by
  obtain⟨ρ,e,c0,W,V,pp⟩:=h;refine⟨ρ,e,c0,W,V,post.bind pp λx1 c1 aI H1 v _ W1 X1 r1 p1=>?_⟩
  have V1:=V.mono W X1;refine⟨W1.tab y hy c P ht,λa H' N=>?_⟩
  have PZ:p7 X.K H':=λz hz d P' tz=>by
   by_cases hP:P'=P
   ·subst hP;rw[PU hap hz hy tz ht];exact N.tab
   ·exact(W1.tab z hz d P' tz).mono (λps e=>N.tabs P' ps hP e) λc φ e=>N.keep c _ e rfl
  obtain⟨X2,W2⟩:=GW W1 N.keep PZ;intro hcl F hF DC;obtain⟨X3,W3⟩:=GX W2 hF;have M4:=X2.trans X3;split at p1
  ·rename_i l hl;obtain⟨xs,hxs,hrs⟩:=MP (Hf:=fX H' F) V1 (λd v r=>Rel.mono W1 M4 d v r) (λc o e=>nJ e) js ns l hjn hl DC
   obtain⟨o,cc,ha,hobj,hcc⟩:=N.at';refine⟨aI,[x1,.lam kk _ ns l],c1,W3,⟨v,[.ref a],rfl,Rel.mono W1 M4 x1 v r1,.ref a,[],rfl,⟨a,o,yE y,cc,_,xs,rfl,jM hF ha,hobj,jM hF hcc,hcl,hxs,hrs⟩,rfl⟩,rfl,?_⟩;cases hm:m [x1,.lam kk _ ns l] c1 with
   |bad=>rw[hm]at p1;exact p1.elim
   |ok d c2 =>
    rw[hm,R.aA]at p1;split at p1
    ·rename_i hn;intro ρ' H4 b W4 X4 r4;have fz:∀b o,F b=ζ o->H4 b=ζ (.cO o (.own 0)):=λb o e=>(X4.keep b _ (nJ e) (W3.XI (nJ e)) rfl).1
     exact p1 ρ' (c8 H4 F) b (GV W4 fz) (X2.trans (ab1 X4 hF)) (Rel.c8 fz d b (JA d hn) r4)
    ·exact p1.elim
  ·exact p1.elim
end
def NR(s:ι) (H:Hp) (outer:List Env) (cl:List (Str×Ξ)) (ns:List Str) (cs:List V):Prop :=
 cs.length=ns.length/\∀(i:Nat) (x:Str),ns[i]? = ζ x->∃v c u,cs[i]? = ζ v/\cl.lookup x=ζ c/\s.heap.IsCell c (ζ u)/\RelV v u/\H c=η/\c∉frs outer
def ua(P:τ) (w:ω) (K:Δ) (mg:Str->Option Ψ) (base:υ) (k:Nat) (E:ο) (ns:List Str) (n:Nat) (sp:Sp):Prop :=
 ∀(A:ψ) (outer:List Env) (s:ι) (H:Hp) (a:Ξ) (o:Obj) (q:Str) (cc:Ξ) (cl:List (Str×Ξ)) (us:List Ψ) (vs cs:List V) (Q:VK),dg k A->mG P w K mg base A outer s H->s.heap.get? a=ζ o->we E o q cc cl->s.heap.CodeRec (.ref cc) q->wm cl ns ->
  NR s H outer cl ns cs->Vals vs us->vs.length=n->sp (vs++cs) H Q E0->codeAny (model P w) A (.call (.ref a) ⟨us,[]⟩) (CR bQ outer P w H s Q E0) s
def vj(P:τ) (w:ω) (K:Δ) (mg:Str->Option Ψ) (base:υ) (N:List Str) (qual:Str) (scope:aaA) (f:Ξ) (cd:Ψ) (cl:List (Str×Ξ)) (A:ψ) (outer:List Env) (s:ι) (H:Hp):Cx where
 prog:=P
 w:=w
 K:=K
 mg:=mg
 base:=base
 A:=A.deeper (PySem.W.envX qual scope s.heap.objs.size f cd cl)
 N:=N
 s₀:=s
 H₀:=H
 env:=PySem.W.envX qual scope s.heap.objs.size f cd cl
 outer:=outer
 stack:=PySem.W.envX qual scope s.heap.objs.size f cd cl::outer
 ex:=[]
 calm:=Θ
 fn:=λ_=>Γ
 pn:=[]
 xe:=λ_ _=>False
structure wg (ps ns:List Str) (scope:aaA):Prop where
 kind:scope.kind=.function
 co:scope.isCoroutine=Γ
 gen:scope.isGenerator=Γ
 nd:(ps++ns).Nodup
 par:∀x∈ps,scope.names.lookup x=ζ .local
 cap:∀x∈ns,scope.names.lookup x=ζ .free
 Jv:∀y∈scope.names,y.2≠.cell
 free:∀y∈scope.names,y.2=.free->y.1∈ns
theorem wg.of{ps ns:List Str}{scope:aaA}(h1:scope.kind=.function) (h2:scope.isCoroutine=Γ) (h3:scope.isGenerator=Γ)
  (h:(decide (ps++ns).Nodup&&ps.all (λx=>decide (scope.names.lookup x=ζ NameKind.local))&&ns.all (λx=>decide (scope.names.lookup x=ζ NameKind.free))&&scope.names.all (λy=>decide (y.2≠NameKind.cell)&&(decide (y.2≠NameKind.free)||decide (y.1∈ns))))=Θ):wg ps ns scope:=by
 simp only[ahL,ahQ,decide_eq_true_eq,aiH]at h;obtain⟨⟨⟨a,b⟩,c⟩,d⟩:=h;exact⟨h1,h2,h3,a,b,c,λy hy=>(d y hy).1,λy hy e=>(d y hy).2.elim (λz=>absurd e z) id⟩
theorem NW{x:Str}:∀{ps:List Str}{us:List Ψ},x∉ps->(ps.zip us).reverse.lookup x=η:=fun{ps us} h=>by
 cases e:(ps.zip us).reverse.lookup x with
 |none=>rfl
 |some v=>exact absurd (aiF (List.mem_reverse.mp (aic e))).1 h
theorem J8{x:Str}{v:Ψ}:∀{l m:List (Str×Ψ)},l.lookup x=η->(l++m).lookup x=m.lookup x
 |[],_,_=>rfl
 |(y,u)::l,m,h=>by
  rw[ahV]at h;rw[aiM,ahV];cases hb:x==y with
  |true=>rw[hb]at h;cases h
  |false=>rw[hb]at h;exact J8 (v:=v) h
theorem J7{x:Str}{v:Ψ}:∀{l m:List (Str×Ψ)},l.lookup x=ζ v->(l++m).lookup x=ζ v
 |(y,u)::l,m,h=>by
  rw[ahV]at h;rw[aiM,ahV];cases hb:x==y with
  |true=>rw[hb]at h;exact h
  |false=>rw[hb]at h;exact J7 h
theorem GC{x:Str}{v:Ψ}:∀{ps:List Str}{us:List Ψ}{i:Nat},ps.Nodup->ps[i]? = ζ x->us[i]? = ζ v->(ps.zip us).reverse.lookup x=ζ v
 |p::ps,u::us,0,nd,h1,h2=>by
  cases h1;cases h2;rw[ajX,akM,J8 (v:=v) (NW (aiw.mp nd).1)];simp
 |p::ps,u::us,i+1,nd,h1,h2=>by
  rw[ajX,akM];exact J7 (GC (i:=i) (aiw.mp nd).2 (by simpa using h1) (by simpa using h2))
 |[],_,_,_,h1,_=>by simp at h1
 |_::_,[],_,_,_,h2=>by simp at h2
theorem Za{P:τ}{w:ω}{K:Δ}{mg:Str->Option Ψ}{base:υ}{k:Nat}{params:aaN}{body:ο}{scope:aaA}{pos:Pos}{ps ns:List Str}{sp:Sp}(S:wg ps ns scope)
  (hbind:∀(q:Str) (cl:List (Str×Ξ)) (pm cdv ct:Ψ) (us:List Ψ),us.length=ps.length->bindArgs (PySem.W.kla_fn "<lambda>" q params body scope cl pm cdv ct) ⟨us,[]⟩=pure (ps.zip us))
  (hb:∀(q:Str) (f:Ξ) (cd:Ψ) (cl:List (Str×Ξ)) (A:ψ) (outer:List Env) (s:ι) (H:Hp) (vs:List V) (Q:VK),dg k (A.deeper (PySem.W.envX q scope s.heap.objs.size f cd cl))->sp vs H Q E0->∃t,PE (vj P w K mg base (ps++ns) q scope f cd cl A outer s H) body t/\t (vs.map ζ) H Q) :
  ua P w K mg base (k+1) (.Lambda params body scope pos) ns ps.length sp:=by
 intro A outer s H a o q cc cl us vs cs Q hr e0 ho hobj hcd hcl hcap rv hlen fF;obtain⟨pm,ctv,rfl⟩:=hobj;have KX:K.In s.heap:=e0.mod.jH.keeps λb o e=>(e0.bs b o e).1
 have lim:s.heap.NoLimit:=e0.mod.nolimit.keeps λb o e=>(e0.bs b o e).1
 have hul:us.length=ps.length:=by rw[<-rv.length];exact hlen
 refine PySem.W.kla_callFunE hr.depth ho rfl S.co S.gen rfl hcd ?_;rw[hbind q cl pm (.ref cc) ctv us hul];have XQ:ps.Nodup:=(ajR.mp S.nd).1;refine ahD (wpAny_newFunctionEnv S.Jv (λy hy=>S.par y.1 (aiF hy).1) (λh₁ hns KW=>⟨lim.fresh _ KW,?_⟩) S.kind)
 show codeAny _ _ (.expr body (PySem.W.envX q scope s.heap.objs.size a (.ref cc) cl)) _ _;have hk₁:∀b ob,s.heap.get? b=ζ ob->h₁.get? b=ζ ob:=λb ob e=>KW.extBut b ob (ahx (ahq e)) (ahs _ e)
 obtain⟨t,ht,hq⟩:=hb q a (.ref cc) cl A outer s H (vs++cs) Q (hr.deeper _) fF;have kO:∀b:Ξ,b∉(vj P w K mg base (ps++ns) q scope a (.ref cc) cl A outer s H).ex:=λb z=>absurd (show b∈([]:List Ξ)from z) (by simp)
 have Li:∀x c,cl.lookup x=ζ c->∃v u,s.heap.IsCell c (ζ u)/\RelV v u/\H c=η:=λx c e=>by
  obtain⟨i,hi,ei⟩:=aiq.mp (hcl.2 x c e);obtain⟨v,c',u,_,h2,h3,h4,h5,_⟩:=hcap.2 i x (by rw[ahI hi,ei])
  rw[e]at h2;cases h2;exact⟨v,u,h3,h4,h5⟩
 have Km:∀{c:Ξ}{u:Option Ψ},s.heap.IsCell c u->h₁.IsCell c u:=fun{c u} ⟨o,e,d⟩=>⟨o,hk₁ c o e,d⟩
 have I:Inv (vj P w K mg base (ps++ns) q scope a (.ref cc) cl A outer s H) [] ((vs++cs).map ζ) H {s with heap:=h₁,toks:=s.toks+(ps.zip us).length}:=by
  refine⟨⟨e0.mod,S.kind,rfl,rfl,ahn _,hcl.1,λx hx=>?_,λx c h=>absurd h (by simp[vj]),λ_=>hr.hd,ajG e0.frames,.inr ⟨rfl,rfl⟩,λb z=>absurd z (kO b),e0.bs,e0.gk,λb _ _=>kO b,λb z=>absurd z (kO b),e0.fW,e0.iw⟩,
   rfl,e0.bare,Un.kept hk₁,⟨_,hns,λi x v h1 h2 h3=>?_⟩,λx c h=>?_,e0.hok.fresh (ahn _),λx c h=>?_,λp hp=>absurd (show p∈([]:List (Ξ×Obj))from hp) (by simp),e0.hok.kept hk₁,?_⟩
  ·have hx:scope.names.lookup x=ζ .cell\/scope.names.lookup x=ζ .free:=hx
   rcases hx with hx|hx
   ·exact absurd rfl (S.Jv _ (aic hx))
   ·have hm:=S.free _ (aic hx) rfl;obtain⟨i,hi,ei⟩:=aiq.mp hm;obtain⟨v,c',u,_,h2,_⟩:=hcap.2 i x (by rw[ahI hi,ei])
    exact⟨c',h2⟩
  ·have h1:(ps++ns)[i]? = ζ x:=h1;have h2':(vs++cs)[i]? = ζ v:=by
    rw[ahS]at h2;cases e:(vs++cs)[i]? with
    |none=>rw[e]at h2;cases h2
    |some b=>rw[e]at h2;cases h2;rfl
   by_cases hi:i<ps.length
   ·rw[ahY hi]at h1;rw[ahY (by omega)]at h2'
    obtain⟨u,hu,ru⟩:=rv.get h2';refine⟨u,ru,.inl ⟨S.par x (ahP h1),?_⟩⟩;exact GC XQ h1 hu
   ·rw[ahW (by omega)]at h1
    rw[ahW (by omega),hlen]at h2'
    obtain⟨v',c,u,e1,e2,e3,e4,_⟩:=hcap.2 _ x h1;rw[h2']at e1;cases e1;exact⟨u,e4,.inr ⟨.inr (S.cap x (ahP h1)),c,e2,Km e3⟩⟩
  ·obtain⟨v,u,h3,_⟩:=Li x c h;exact⟨_,Km h3⟩
  ·obtain⟨v,u,_,_,h5⟩:=Li x c h;exact h5
  ·show((vs++cs).map ζ).length=(ps++ns).length;rw[ahr,ahC,ahC,hlen,hcap.1]
 refine PySem.W.kla_codeExpr (ahN (ht [] _ _ H Q I hq) (λu s' hs=>?_) λe s' hs=>False.elim hs)
 obtain⟨v,H',J,ru,q⟩:=hs;exact⟨v,H',J.os,J.bare,J.base,J.hok,ru,q⟩
section
variable {M:Model}{A:ψ}{E:Ψ->ι->Prop}{s:ι}{env:Env}{pos:Pos}{Q:Ψ->ι->Prop}
theorem ad7{a:Ξ}{o:Obj}{fd:ν}{e:ο}{rest:List ο}(hd:o.data=.func fd) (h:wpAny M A (spliced (aab pos (μ (e::rest) env))) (λvs s₁=>s₁.heap.get? a=ζ o/\wpAny M A (call (.ref a) ([]++vs)) Q E s₁) E s)
  (he:μ (e::rest) env=(Γ,eval e env)::μ rest env) (hplain:(aab pos (μ rest env)).any (·.1)=Γ) :
  wpAny M A (callWith pos (.ref a) [] (aab pos (μ (e::rest) env)) []) Q E s:=by
 rw[he]at h ⊢;refine PySem.W.callWith_of (P:=λh=>h.get? a=ζ o) (by show((Γ||(aab pos (μ rest env)).any (·.1))||false)=Γ;rw[hplain];rfl) (λh e=>⟨.frame,.inl rfl,?_⟩) (PySem.Calls.evalArgs_plain h)
 obtain⟨oc,od,dt,sl⟩:=o;cases hd;exact(akI (part:=η) e).andThen PySem.W.Looks.now
end
section
variable {X:Cx}{pins:List (Ξ×Obj)}{σ:St}{H H':Hp}{s s':ι}{F:Ξ->Option Obj}
theorem Pk{P:τ}{w:ω}{h:υ}(hok:cD P w H h) (hF:∀b o,F b=ζ o->H b=ζ (.cO o (.own 0))):cD P w (c8 H F) h:=λb u e=>by
 cases hb:F b with
 |some o=>rw[qo hb]at e;cases e
 |none =>
  rw[jb hb]at e;exact(hok b u e).stay (λ_ _ _ z=>z) (λc z=>ja hF z λ_ q=>nomatch q) λc xs z=>ja hF z λ_ q=>nomatch q
theorem uA{b:Ξ}(h:H b=η):c8 H F b=η:=by
 unfold c8;split<;>first|rfl|exact h
theorem RS{k n:Nat}{Ex:ο}{ns:List Str}{sp:Sp}{a cc:Ξ}{o:Obj}{q:Str}{cl:List (Str×Ξ)}{us:List Ψ}{vs cs:List V}{Q:VK}(G:ua X.prog X.w X.K X.mg X.base k Ex ns n sp) (hr:dg k X.A) (I:Inv X pins σ H s)
  (ha:H a=ζ (.ext (o9 a o))) (hobj:we Ex o q cc cl) (hcc:H cc=ζ (.ext (pM cc q))) (hcl:wm cl ns) (hcs:iJ H cl ns cs) (r:Vals vs us) (hn:vs.length=n)
  (h:∀F:Ξ->Option Obj,(∀b o,F b=ζ o->H b=ζ (.cO o (.own 0)))->sp (vs++cs) (c8 H F) (λv H'=>(∀b o,F b=ζ o->H' b=η)->Q v (fX H' F)) E0) :
  wpAny (model X.prog X.w) X.A (call (.ref a) us) (EP X pins σ Q) X.xe s:=by
 have hF:∀b ob,nI cl s.heap b=ζ ob->H b=ζ (.cO ob (.own 0)):=λb ob e=>by
  obtain⟨⟨x,hx⟩,hg⟩:=DM e;obtain⟨i,hi,ei⟩:=aiq.mp (hcl.2 x b hx);obtain⟨v,c,oc,u,_,h2,h3,_⟩:=hcs.get (i:=i) (x:=x) (by rw[ahI hi,ei])
  rw[hx]at h2;cases h2;have:=(I.hok b _ h3).1;rw[hg]at this;cases this;exact h3
 generalize hFd:nI cl s.heap=F at hF
 have e:=I.zK;have e0:mG X.prog X.w X.K X.mg X.base X.A X.stack s (c8 H F):=⟨e.frames,e.mod,λb o h=>⟨(e.bs b o h).1,uA (e.bs b o h).2⟩,e.gk,e.fW,λb hb=>uA (e.iw b hb),Pk I.hok hF,e.bare⟩
 have nf:∀b ob,F b=ζ ob->b∉frs X.stack:=λb ob z hb=>by
  have:=I.xo b hb;rw[hF b ob z]at this;cases this
 have cap:NR s (c8 H F) X.stack cl ns cs:=by
  refine⟨hcs.length,λi x hx=>?_⟩
  obtain⟨v,c,oc,u,h1,h2,h3,h4,h5⟩:=hcs.get hx;have hg:=(I.hok c _ h3).1;have hf:F c=ζ oc:=by rw[<-hFd];exact LA h2 hg
  exact⟨v,c,u,h1,h2,⟨oc,hg,h4⟩,h5,qo hf,nf c oc hf⟩
 refine ai5 (aiD (G X.A X.stack s (c8 H F) a o q cc cl us vs cs _ hr e0 (I.hok a _ ha).1 hobj (I.hok cc _ hcc).1 hcl cap r hn (h F hF)) λrr s' hq=>?_)
 cases rr with
 |error e=>exact False.elim hq
 |ok fl =>
  cases fl with
  |next=>exact False.elim hq
  |brk=>exact False.elim hq
  |cont=>exact False.elim hq
  |ret u =>
   obtain⟨v,H',os,bare,un,hok,rv,q⟩:=hq;have gF:∀b ob,F b=ζ ob->s.heap.get? b=ζ ob:=λb ob z=>(I.hok b _ (hF b ob z)).1
   have hn':∀b ob,F b=ζ ob->H' b=η:=λb ob z=>un.free b ob (gF b ob z) (qo z) (by simp)
   have hg':∀b ob,F b=ζ ob->s'.heap.get? b=ζ ob:=λb ob z=>un.keep b ob (gF b ob z) (qo z) (nf b ob z) (by simp)
   have Fn:∀{b:Ξ},H b=η->F b=η:=fun{b} z=>by
    cases e:F b with
    |none=>rfl
    |some ob=>rw[hF b ob e]at z;cases z
   have old:∀{b:Ξ}{u:HO},H b=ζ u->(∀o,u≠.cO o (.own 0))->F b=η/\c8 H F b=ζ u:=fun{b u} z nq=>by
    cases e:F b with
    |none=>exact⟨rfl,by rw[jb e];exact z⟩
    |some ob=>rw[hF b ob e]at z;exact absurd (ahA z).symm (nq ob)
   have AR:Un (frs X.stack) [] H (fX H' F) s.heap s'.heap:=by
    refine⟨λb o e n hb hx=>un.keep b o e (uA n) hb hx,λb o e n hb hx=>un.slot b o e (uA n) hb hx,λb o e n hx=>?_,un.there,λb xs e=>?_,λb o u e=>?_,λb ps e=>?_⟩
    ·rw[jk (Fn n)];exact un.free b o e (uA n) hx
    ·obtain⟨h1,h2⟩:=old e λ_ z=>nomatch z
     rw[jk h1];exact un.tups b xs h2
    ·cases z:F b with
     |some ob =>
      have:=hF b ob z;rw[e]at this;cases this;exact nJ z
     |none=>rw[jk z];exact un.gA b o u (by rw[jb z];exact e)
    ·obtain⟨h1,h2⟩:=old e λ_ z=>nomatch z
     rw[jk h1];exact un.gJ b ps h2
   exact⟨v,fX H' F,I.Fj os AR (LB hok hn' hg') bare λb z=>absurd z (by simp),rv,q hn'⟩
end
open Classical in
def pL(i n:Nat) (cR:List (ο×List Str×(List D->aa->R D))) (a:aj):af:=λe c=>match e[i]? with
 |some (ζ (.lam k E ns l))=>match cR[k]? with
  |some t=>if E=t.1/\ns=t.2.1 then(a e c).bind λxs c=>if xs.length=n/\gM xs=Θ/\gM l=Θ then t.2.2 (xs++l) c else .bad else .bad
  |none=>.bad
 |_=>.bad
theorem UR{X:Cx}(i:Nat) {n:Nat}{cR:List (ο×List Str×(List D->aa->R D))}{x:Str}{e:ο}{es:List ο}{da:aj}{p pos:Pos}(hT:∀t∈cR,∃k,ua X.prog X.w X.K X.mg X.base k t.1 t.2.1 n (bY X.K (n+t.2.1.length) t.2.2)/\dg k X.A) (ha:iz X (e::es) da)
  (hN:X.N[i]? = ζ x:=by rfl) (hv:vZ X.env.scope x:=by first|exact Or.inl rfl|exact Or.inr (Or.inl rfl)|exact Or.inr (Or.inr rfl)) (hd:(x==("__debug__":Str))=Γ:=by decide)
  (hcd:(x==("__classdict__":Str))=Γ:=by decide) (he:μ (e::es) X.env=(Γ,eval e X.env)::μ es X.env:=by exact bS rfl) (hpl:(aab pos (μ es X.env)).any (·.1)=Γ:=by exact g9 rfl) :
  aY X (.Call (.Name x p) (e::es) [] pos) (pL i n cR da):=by
 intro pins s σ H Q I h;obtain⟨ρ,ev,c,W,Vv,q⟩:=h;unfold pL at q;split at q
 ·rename_i kk Ex ns l hf;obtain⟨v,hσ,rl⟩:=Vv.get i _ hf;obtain⟨a,o,qn,cc,cl,cs,rfl,ha1,hobj,hcc,hcl,hcs,hrs⟩:=id rl;split at q
  ·rename_i t ht;split at q
   ·rename_i hzy;obtain⟨rfl,rfl⟩:=hzy;obtain⟨k,G,hr⟩:=hT _ (ahP ht);refine aiE (bE (Bx hN hv hd hcd pins s σ H (λv H1=>v=.ref a/\H1=H) I ⟨_,hσ,rfl,rfl⟩) λu s1 ⟨v,H1,I1,r1,q1⟩=>?_)
    obtain⟨rfl,rfl⟩:=q1;cases r1;have hdata:∃fd,o.data=.func fd:=by
     cases hE:t.1 with
     |Lambda params body scope lp =>
      rw[hE]at hobj;obtain⟨pm,ctv,rfl⟩:=hobj;exact⟨_,rfl⟩
     |_=>rw[hE]at hobj;exact hobj.elim
    obtain⟨fd,hdata⟩:=hdata;refine ad7 hdata (bE (ha pos pins s1 σ H1 (λvs H2=>∃aI xs c1,Wd X.K aI H2 c1/\Ext ρ H1 aI H2/\aM X.K aI H2 xs vs/\xs.length=n/\gM xs=Θ/\gM l=Θ/\post X.K (Rel X.K) (t.2.2 (xs++l) c1) aI H2 Q) I1 ⟨ρ,ev,c,W,Vv,post.bind q λxs c1 aI H2 vs _ W1 X1 r1 p1=>?_⟩) λus s2 ⟨vs,H2,I2,r2,aI,xs,c1,W1,X1,rx,hl,n1,n2,p1⟩=>?_) he hpl
    ·split at p1
     ·rename_i hc;exact⟨aI,xs,c1,W1,X1,r1,hc.1,hc.2.1,hc.2.2,p1⟩
     ·exact p1.elim
    ·obtain⟨a',o',qn',cc',cl',cs',ea,ha2,aaJ,aaZ,aaX,K7,KY⟩:=Rel.mono W X1 _ _ rl;cases ea;have eo:o=o':=by
      have e1:=(X1.keep a _ ha1 (λm=>by obtain⟨ys,z⟩:=W.at' m;rw[z]at ha1;cases ha1) rfl).1
      have g1:=(I2.hok a _ e1).1;have g2:=(I2.hok a _ ha2).1;have g1':s2.heap.get? a=ζ o:=g1;have Lz:s2.heap.get? a=ζ o':=g2;rw[g1']at Lz;exact ahA Lz
     subst eo;refine⟨(I2.hok a _ ha2).1,?_⟩;refine RS (cs:=cs') G hr I2 ha2 aaJ aaZ aaX K7 r2 (by rw[rx.length];exact hl) λF hF=>?_
     refine⟨aI,xs++l,c1,GV W1 hF,aM.append (aM.c8 hF xs vs n1 rx) (aM.c8 hF l cs' n2 KY),by rw[ahC,hl,<-KY.length,K7.length],?_⟩
     cases hm:t.2.2 (xs++l) c1 with
     |bad=>rw[hm]at p1;exact p1.elim
     |ok d c2 =>
      rw[hm]at p1;intro ρ' H4 b W4 X4 r4 K0;obtain⟨X5,W5⟩:=GX W4 K0;exact p1 ρ' (fX H4 F) b W5 (ab3 X4 W4 hF K0) (Rel.mono W4 X5 d b r4)
   ·exact q.elim
  ·exact q.elim
 ·exact q.elim
@[simp] theorem Of(i n:Nat) (cR:List (ο×List Str×(List D->aa->R D))) (a:aj) (e:Ev) (c:aa) {k:Nat}{Ex:ο}{ns:List Str}{l:List D}{m:List D->aa->R D}(h:e[i]? = ζ (ζ (.lam k Ex ns l))) (ht:cR[k]? = ζ (Ex,ns,m)):pL i n cR a e c=(a e c).bind λxs c=>if xs.length=n/\gM xs=Θ/\gM l=Θ then m (xs++l) c else .bad:=by
 unfold pL;rw[h];dsimp only;rw[ht];dsimp only;rw[if_pos ⟨rfl,rfl⟩]
def yF(d:af):List D->aa->R D:=λxs c=>d (xs.map ζ) c
theorem Sd{K:Δ}{ρ:List Ξ}{H:Hp}{xs:List D}{vs:List V}(r:aM K ρ H xs vs):dX K ρ H (xs.map ζ) (vs.map ζ):=by
 refine⟨λi d h=>?_,by rw[ahr,ahr,r.length]⟩
 rw[ahS]at h;cases e:xs[i]? with
 |none=>rw[e]at h;cases h
 |some y =>
  rw[e]at h;cases h;obtain⟨v,hv,rv⟩:=r.get e;exact⟨v,by rw[ahS,hv];rfl,rv⟩
theorem Zd{P:τ}{w:ω}{K:Δ}{mg:Str->Option Ψ}{base:υ}{k:Nat}{params:aaN}{body:ο}{scope:aaA}{pos:Pos}{ps ns:List Str}{d:af}(S:wg ps ns scope)
  (hbind:∀(q:Str) (cl:List (Str×Ξ)) (pm cdv ct:Ψ) (us:List Ψ),us.length=ps.length->bindArgs (PySem.W.kla_fn "<lambda>" q params body scope cl pm cdv ct) ⟨us,[]⟩=pure (ps.zip us))
  (hb:∀(q:Str) (f:Ξ) (cd:Ψ) (cl:List (Str×Ξ)) (A:ψ) (outer:List Env) (s:ι) (H:Hp),dg k (A.deeper (PySem.W.envX q scope s.heap.objs.size f cd cl))->aY (vj P w K mg base (ps++ns) q scope f cd cl A outer s H) body d) :
  ua P w K mg base (k+1) (.Lambda params body scope pos) ns ps.length (bY K (ps.length+ns.length) (yF d)) :=
 Za S hbind λq f cd cl A outer s H vs Q hr h=>⟨_,hb q f cd cl A outer s H hr,by
  obtain⟨ρ,xs,c,W,r,hl,p⟩:=h;exact⟨ρ,xs.map ζ,c,W,Sd r,p⟩⟩
section
variable {P:τ}{w:ω}{K:Δ}{mg:Str->Option Ψ}{base:υ}
theorem abU{x:Str}{st:aav}{f:Ξ}{fd:ν}{N ps:List Str}{k n m:Nat}{own:Bool}{d:ah}(F:jS K x x st f fd) (hn:θ K ξ x=ζ (ζ (.ref f))) (S:cK N ps (aV st)) (hN:N.length=n) (hm:ps.length=m)
  (hb:∀(cdv:Ψ) (A:ψ) (outer:List Env) (s:ι) (H:Hp) (E:XK),(∀c P,PySem.W.tabIn K x=ζ (c,P)->cdv=.ref c)->dg k (A.deeper (envOfC x (aV st) s.heap.objs.size f cdv))->cA (fP bQ P w K mg base N x (aV st) f cdv A outer s H E).eS (cF st) d) :
  bX P w K mg base bQ (k+1) f fd ps (bY K m (cB n own d)):=by
 obtain⟨oc,od,kV,doc,pm,an,zR,ct,osl,hfd,lk,hcd⟩:=F.ex;have key:∀(cdv:Ψ),(∀(A:ψ) (outer:List Env) (s:ι) (H:Hp) (E:XK),dg k (A.deeper (envOfC x (aV st) s.heap.objs.size f cdv))->cA (fP bQ P w K mg base N x (aV st) f cdv A outer s H E).eS (cF st) d)->cdv=zR->bX P w K mg base bQ (k+1) f fd ps (bY K m (cB n own d)):=by
  intro cdv hb' e;subst e;subst hN;subst hm;subst hfd;refine DP lk hcd S (λvs H Q E h=>?_) λA outer s H vs Q E hr h=>⟨_,fu.eS (hb' A outer s H E hr),?_⟩
  ·obtain⟨ρ,xs,c,W,r,hl,p⟩:=h;exact r.length.trans hl
  ·obtain⟨ρ,xs,c,W,r,hl,p⟩:=h;refine⟨ρ,cH N.length xs,c,W,dX.start r,post.bind p λfl c1 aI H1 b _ W1 X1 r1 p1=>?_⟩
   cases fl with
   |nx e1 =>
    obtain⟨σ1,rfl,V1⟩:=r1;exact sH (v:=.aH) (x:=.aH) (H1:=H1) W W1 X1 rfl (by
     unfold cB at p;exact id (α:=post K (Rel K) (dF own c.length .aH c1) ρ H Q) (by
      rename_i he;rw[he]at p;exact p))
   |rt d =>
    obtain⟨v,rfl,V1⟩:=r1;exact sH (v:=d) (x:=v) (H1:=H1) W W1 X1 V1 (by
     unfold cB at p;rename_i he;rw[he]at p;exact p)
   |bk e1=>exact p1.elim
   |ct e1=>exact p1.elim
 refine key zR (λA outer s H E hr=>hb zR A outer s H E (λc P' ht=>?_) hr) rfl
 unfold PySem.W.tabIn at ht;rw[hn]at ht;dsimp only at ht;rw[lk,hfd]at ht;dsimp only at ht;cases zR with
 |ref c' =>
  dsimp only at ht;split at ht
  ·split at ht
   ·cases ht;rfl
   ·cases ht
  ·cases ht
 |_=>cases ht
end
def afi(H:Hp) (ts:List Ξ):Prop:=∀b,H b=η\/(∃o xs,H b=ζ (.cO o (.lst xs)))\/(b∈ts/\H b=ζ (.cR #[]))
theorem Y9{P:τ}{w:ω}{K:Δ}{mg mb:Str->Option Ψ}{k:Nat}{fa a:Ξ}{fd:ν}{x:Str}{sp:Sp}{s₁:ι}{vs:List Ψ}{ns:List Int}{ts:List (Ξ×Ξ)}
  (KX:K.In s₁.heap) (hns:s₁.heap.Ns ξ mg) (hb:s₁.heap.Ns builtinsNs mb) (hbb:∀x:Str,x≠"__name__"->mb x=bootBuiltins x) (hlim:s₁.heap.NoLimit)
  (hbm:∃bm ob,mg "__builtins__"=ζ (.ref bm)/\bm≠builtinsNs/\s₁.heap.get? bm=ζ ob/\ob.cls=.type "module"/\ob.dict=ζ builtinsNs/\ob.data=.plain) (hg:s₁.gens=#[])
  (ha:s₁.heap.get? a=ζ {cls:=.type "list",data:=.seq vs.toArray}) (hi:IntsAre vs ns) (hl:ns.length<=Ω) (hr:dg k callerA)
  (DF:∀q∈ts,PySem.W.codeHdIn K q.1 q.2=Θ/\s₁.heap.get? q.2=ζ (PySem.W.tabObj #[])) (hKt:PySem.W.noTabs K=Θ)
  (F:∀base:υ,K.In base->base.Ns ξ mg->bX P w K mg base bQ k fa fd [x] sp) (hbind:∀(s:ι) (u:Ψ),aa2 s fd ⟨[u],[]⟩ [(x,u)])
  (fF:∀H:Hp,(∀q∈ts,H q.2=ζ (.cR #[]))->bW K H a (ns.map V.int)->sp [.ref a] H (λv _=>v=.bl Θ) λ_ _ _=>False) :
  codeAny (model P w) callerA (.call (.ref fa) ⟨[.ref a],[]⟩) (λr s'=>r=.ok (.ret (.bool Θ))/\OldK s₁.heap s'.heap/\s'.os=s₁.os/\aaL s'.gens) s₁:=by
 have rv:=G7 hi;have Y5:=hi.length;have jK:∀b,b∈ts.map (·.2)->s₁.heap.get? b=ζ (PySem.W.tabObj #[]):=λb h=>by
  obtain⟨q,hq,rfl⟩:=ahw.mp h;exact(DF q hq).2
 have nat:a∉ts.map (·.2):=λh=>by have:=jK a h;rw[ha]at this;cases this
 have core:∀H:Hp,afi H (ts.map (·.2))->(∀q∈ts,H q.2=ζ (.cR #[]))->bW K H a (ns.map V.int)->cD P w H s₁.heap->(∀b,H b≠η->b=a\/b∈ts.map (·.2))->(H a≠η->K.lookup a=η) ->
   codeAny (model P w) callerA (.call (.ref fa) ⟨[.ref a],[]⟩) (λr s'=>r=.ok (.ret (.bool Θ))/\OldK s₁.heap s'.heap/\s'.os=s₁.os/\aaL s'.gens) s₁:=by
  intro H hO hT hS hok hA hK;have Gb:∀{b:Ξ}{o:Obj},s₁.heap.get? b=ζ o->H b=η->(k9 s₁.heap H).get? b=ζ o:=λe n=>aaS e n
  have XH:∀{b:Ξ}{o:Obj},s₁.heap.get? b=ζ o->o.cls≠.type "list"->o.cls≠.none->H b=η:=fun{b o} e d1 d2=>by
   cases q:H b with
   |none=>rfl
   |some u =>
    rcases hA b (by rw[q];simp)with e'|e'
    ·subst e';rw[ha]at e;cases e;exact absurd rfl d1
    ·rw[jK b e']at e;cases e;exact absurd rfl d2
  have kO:∀{b:Ξ}{o:Obj}{es:Array DictEntry}{ep:Nat},s₁.heap.get? b=ζ o->o.data=.dict es ep->H b=η:=fun{b o es ep} e d=>by
   cases q:H b with
   |none=>rfl
   |some u =>
    rcases hA b (by rw[q];simp)with e'|e'
    ·subst e';rw[ha]at e;cases e;have d':Data.seq vs.toArray _=Data.dict es ep:=d;cases d'
    ·rw[jK b e']at e;cases e;have d':Data.fields #[]=Data.dict es ep:=d;cases d'
  have yi:∀{b:Ξ}{m:Str->Option Ψ},s₁.heap.Ns b m->(k9 s₁.heap H).Ns b m:=fun{b m} ⟨o,es,ep,e,d,r⟩=>⟨o,es,ep,Gb e (kO e d),d,r⟩
  have Ld:K.In (k9 s₁.heap H):=λb o e=>Gb (KX b o e) (by
   cases q:H b with
   |none=>rfl
   |some u =>
    rcases hA b (by rw[q];simp)with e'|e'
    ·subst e';rw[hK (by rw[q];simp)]at e;cases e
    ·have h1:=KX b o e;rw[jK b e']at h1;cases h1;have h2:=ahQ.mp hKt (b,_) (PySem.W.mem_of_lookupK e);exact absurd (show Γ=Θ from h2) ahO)
  have hM:Mod K mg (k9 s₁.heap H):=⟨Ld,yi hns,⟨mb,yi hb,hbb⟩,let⟨mc,h1,h2⟩:=hlim;⟨mc,yi h1,h2⟩,let⟨bm,ob,b1,b2,b3,b4,b5⟩:=hbm;⟨bm,ob,b1,b2,Gb b3 (XH b3 (by rw[b4];simp) (by rw[b4];simp)),b4,b5⟩⟩
  have e0:mG P w K mg (k9 s₁.heap H) callerA [] s₁ H:=⟨rfl,hM,λb o e=>VR e,aiz (aaR _ _),trivial,λb hb=>absurd (show b∈([]:List Ξ)from hb) (by simp),hok,.of_eq hg⟩
  refine aiD ((F _ Ld (yi hns)).run callerA [] s₁ H ⟨[.ref a],[]⟩ [.ref a] [.ref a] _ _ hr e0 (hbind s₁ (.ref a)) (.cons rfl .nil) (fF H hT hS)) λr s' h=>?_
  cases r with
  |error e=>exact False.elim h
  |ok fl =>
   cases fl with
   |next=>exact False.elim h
   |brk=>exact False.elim h
   |cont=>exact False.elim h
   |ret u =>
    obtain⟨v,H',os,bare,un,yL,r',q⟩:=h;have q':v=.bl Θ:=q;subst q';obtain rfl:u=Value.bool Θ:=r';have main:∀b o,s₁.heap.get? b=ζ o->s'.heap.get? b=ζ o\/(b∈ts.map (·.2)/\o=PySem.W.tabObj #[]/\∃ps,s'.heap.get? b=ζ (PySem.W.tabObj ps)):=λb o e=>by
     rcases hO b with z|⟨ob,xs,z⟩|⟨hm,z⟩
     ·exact .inl (un.keep b o e z (by intro z;exact absurd (show b∈([]:List Ξ)from z) (by simp)) (by simp))
     ·have z2:=un.gA b ob _ z;obtain⟨e1,_⟩:=hok b _ z;obtain⟨e2,_⟩:=yL b _ z2;rw[e]at e1;cases e1;exact .inl e2
     ·obtain⟨more,z2⟩:=un.gJ b _ z;have e2:s'.heap.get? b=ζ (PySem.W.tabObj (#[]++more)):=yL b _ z2;have e1:=jK b hm;rw[e]at e1;cases e1;exact .inr ⟨hm,rfl,_,e2⟩
    refine⟨rfl,⟨λb o e=>?_,λb o e=>?_⟩,os,bare⟩
    ·rcases main b o e with z|⟨hm,rfl,ps,z⟩
     ·exact .inl z
     ·obtain⟨q,hq,rfl⟩:=ahw.mp hm;have hC:=akL KX (DF q hq).1;exact .inr (.inl ⟨(hC.tab (DF q hq).2).isCodeTable,rfl,#[],ps,rfl,by rw[Array.empty_append];exact z⟩)
    ·rcases main b o e with z|⟨_,_,ps,z⟩
     ·exact⟨o,z⟩
     ·exact⟨_,z⟩
 have af4:∀(H:Hp) b,H b=ζ (.cR #[])->b∈ts.map (·.2)->dZ P w H s₁.heap b (.cR #[]):=λH b _ h=>jK b h
 cases hk:K.lookup a with
 |some o =>
  have e:=KX a o hk;rw[ha]at e;cases e
  let H:Hp:=λb=>if b∈ts.map (·.2)then ζ (.cR #[])else η
  refine core H (λb=>?_) (λq hq=>if_pos (akN hq)) (.inr ⟨_,vs.toArray,_,hk,rfl,rfl,rfl,by rw[ahE,Y5];exact hl,by simpa using rv⟩) (λb u z=>?_) (λb z=>?_) λz=>absurd (if_neg nat) z
  ·by_cases hb:b∈ts.map (·.2)
   ·exact .inr (.inr ⟨hb,if_pos hb⟩)
   ·exact .inl (if_neg hb)
  ·by_cases hb:b∈ts.map (·.2)
   ·have z':=(if_pos hb).symm.trans z;cases z';exact jK b hb
   ·have z':=(if_neg hb).symm.trans z;cases z'
  ·by_cases hb:b∈ts.map (·.2)
   ·exact .inr hb
   ·exact absurd (if_neg hb) z
 |none =>
  let H:Hp:=λb=>if b∈ts.map (·.2)then ζ (.cR #[])else if b=a then ζ (.cO {cls:=.type "list",data:=.seq vs.toArray} (.lst (ns.map V.int)))else η
  have Ha:H a=ζ (.cO {cls:=.type "list",data:=.seq vs.toArray} (.lst (ns.map V.int))):=(if_neg nat).trans (if_pos rfl);refine core H (λb=>?_) (λq hq=>if_pos (akN hq)) (.inl (.inr ⟨_,Ha⟩)) (λb u z=>?_) (λb z=>?_) λ_=>hk
  ·by_cases hb:b∈ts.map (·.2)
   ·exact .inr (.inr ⟨hb,if_pos hb⟩)
   ·by_cases hb2:b=a
    ·exact .inr (.inl ⟨_,_,(if_neg hb).trans (if_pos hb2)⟩)
    ·exact .inl ((if_neg hb).trans (if_neg hb2))
  ·by_cases hb:b∈ts.map (·.2)
   ·have z':=(if_pos hb).symm.trans z;cases z';exact jK b hb
   ·by_cases hb2:b=a
    ·have z':=((if_neg hb).trans (if_pos hb2)).symm.trans z;cases z';subst hb2;exact⟨ha,by rw[ahr];exact hl,vs,_,rv,ha⟩
    ·have z':=((if_neg hb).trans (if_neg hb2)).symm.trans z;cases z'
  ·by_cases hb:b∈ts.map (·.2)
   ·exact .inr hb
   ·by_cases hb2:b=a
    ·exact .inl hb2
    ·exact absurd ((if_neg hb).trans (if_neg hb2)) z
def AV(K:Δ) (ts:List (Ξ×Ξ)):Bool:=pe.all λx=>match PySem.W.tabIn K x with
 |some q=>decide (q∈ts)
 |none=>Θ
theorem PY{K:Δ}{H:Hp}{ts:List (Ξ×Ξ)}(h:AV K ts=Θ) (hT:∀q∈ts,H q.2=ζ (.cR #[])):p7 K H:=λx hx c P e=>by
 have:=ahQ.mp h x hx;rw[e]at this;exact⟨#[],hT (c,P) (of_decide_eq_true this),trivial,λpos cv z=>by cases z⟩
theorem OH{l:aa1}{n k:Nat}{q:τ}{loose:List Str}{XP:(Str->Option Ψ)->υ->Prop}{YP:ω->υ->Prop}{d:DefRec}{K:Params->Δ}{x:Str}{m:List D->aa->R D}{ts:List (Ξ×Ξ)}
  (hn:l.most=ζ n) (hn2:n<=Ω) (hdf:d.params.defaults=[]) (hr:dg k callerA)
  (hY:∀(w:ω) (h:υ),YP w h->(K w.params).In h/\∀q∈ts,h.get? q.2=ζ (PySem.W.tabObj #[]))
  (hK:∀p,(ts.all λq=>PySem.W.codeHdIn (K p) q.1 q.2)=Θ/\PySem.W.noTabs (K p)=Θ/\AV (K p) ts=Θ)
  (F:∀(w:ω) (mg:Str->Option Ψ) (fa:Ξ) (h:υ),(K w.params).In h->h.Ns ξ mg->mg d.name=ζ (.ref fa) ->
   ∃fd:ν,(∀(s:ι) (u:Ψ),aa2 s fd ⟨[u],[]⟩ [(x,u)]) /\
    ∀base:υ,(K w.params).In base->base.Ns ξ mg->bX l.prog w (K w.params) mg base bQ k fa fd [x] (bY (K w.params) 1 m))
  (hm:∀ns:List Int,ns.length<=n->∃c,m [.bw ns] []=.ok (.bl Θ) c) :
  PySem.W.WalkO q loose XP YP l.row.toRowW d [] (λf vs=>PySem.call f vs):=by
 refine NS.aep hn hdf λw s₀ s₁ mg mb fa o pm cd doc a vs ns G Y ho hd hcd hmg hobj hints hlen hg=>?_
 obtain⟨KX,hT⟩:=hY w _ Y;obtain⟨fd,hb,hF⟩:=F w mg fa _ KX G.T.g hmg;obtain⟨k1,k2,k3⟩:=hK w.params;refine Y9 (ts:=ts) KX G.T.g G.T.b G.T.builtins G.T.nolimit G.T.bmain hg hobj hints (ahB hlen hn2) hr (λq hq=>⟨ahQ.mp k1 q hq,hT q hq⟩) k2 hF hb λH h1 h2=>?_
 obtain⟨c,hc⟩:=hm ns hlen;refine⟨[],[.bw ns],[],⟨.nil,rfl,λk a cl e=>(by cases e),PY k3 h1⟩,⟨.ref a,[],rfl,⟨a,rfl,?_⟩,rfl⟩,rfl,?_⟩
 ·rcases h2 with hS|hS
  ·exact .inl ⟨hS,by simp⟩
  ·exact .inr (.inr hS)
 ·rw[hc];exact λρ' H' b _ _ r=>r
section
variable {κ:Type} [DecidableEq κ]
def fD(kvs:List (κ×V)) (k:κ):Option V:=(kvs.find? λkv=>decide (kv.1=k)).map (·.2)
def putK(kvs:List (κ×V)) (k:κ) (v:V):List (κ×V) :=
 if(kvs.any λkv=>decide (kv.1=k))=Θ then kvs.map (λkv=>if kv.1=k then(kv.1,v)else kv)else kvs++[(k,v)]
theorem jv{p:κ×V}{r:List (κ×V)}{k:κ}(e:p.1=k):fD (p::r) k=ζ p.2:=by simp[fD,aiN,e]
theorem jw{p:κ×V}{r:List (κ×V)}{k:κ}(e:¬p.1=k):fD (p::r) k=fD r k:=by simp[fD,aiN,e]
theorem qm(k:κ):∀kvs:List (κ×V),(kvs.any λkv=>decide (kv.1=k))=(fD kvs k).isSome
 |[]=>rfl
 |p::r=>by
  rw[ajY]
  by_cases e:p.1=k
  ·simp only[jv e,decide_eq_true e,Bool.true_or,akw]
  ·rw[jw e,decide_eq_false e,Bool.false_or];exact qm k r
theorem Hg(k j:κ) (y:V):∀kvs:List (κ×V),fD (kvs.map λkv=>if kv.1=k then(kv.1,y)else kv) j=(fD kvs j).map λx=>if j=k then y else x
 |[]=>rfl
 |p::r=>by
  have ih:=Hg k j y r;rw[aht]
  by_cases h:p.1=k
  ·rw[if_pos h]
   by_cases e:p.1=j
   ·rw[jv (p:=(p.1,y)) e,jv e,ajk,if_pos (e.symm.trans h)]
   ·rw[jw (p:=(p.1,y)) e,jw e,ih]
  ·rw[if_neg h]
   by_cases e:p.1=j
   ·rw[jv (p:=p) e,jv e,ajk,if_neg (λz=>h (e.trans z))]
   ·rw[jw (p:=p) e,jw e,ih]
theorem G9(k j:κ) (y:V):∀kvs:List (κ×V),fD kvs k=η->fD (kvs++[(k,y)]) j=if j=k then ζ y else fD kvs j
 |[],_=>by
  by_cases e:k=j
  ·rw[if_pos e.symm];exact jv (p:=(k,y)) e
  ·rw[if_neg (λz=>e z.symm)];exact jw (p:=(k,y)) e
 |p::r,hn=>by
  rw[aiM];have hk:¬p.1=k:=λz=>by rw[jv z]at hn;cases hn
  rw[jw hk]at hn;have ih:=G9 k j y r hn
  by_cases e:p.1=j
  ·rw[jv e,jv e,if_neg (λz=>hk (e.trans z))]
  ·rw[jw e,jw e,ih]
theorem Pd(kvs:List (κ×V)) (k j:κ) (y:V):fD (putK kvs k y) j=if j=k then ζ y else fD kvs j:=by
 unfold putK
 by_cases a:(kvs.any λkv=>decide (kv.1=k))=Θ
 ·rw[if_pos a,Hg];rw[qm]at a
  by_cases e:j=k
  ·obtain⟨x,hx⟩:=aiY.mp a;rw[if_pos e,e,hx,ajk,if_pos rfl]
  ·rw[if_neg e];cases fD kvs j with
   |none=>rfl
   |some x=>rw[ajk,if_neg e]
 ·rw[if_neg a];refine G9 k j y kvs ?_;rw[qm]at a;cases q:fD kvs k with
  |none=>rfl
  |some x=>rw[q]at a;exact(a rfl).elim
theorem yC(kvs:List (κ×V)) (k:κ) (v:V):(putK kvs k v).length<=kvs.length+1:=by
 unfold putK;split
 ·rw[ahr];omega
 ·rw[ahC,ahu,ahK];omega
theorem p9.Dq{o:Option V}{u:Option Ψ}(r:p9 o u):o.isSome=u.isSome:=by
 cases o with
 |none=>cases u with
  |none=>rfl
  |some _=>exact(show False from r).elim
 |some _=>cases u with
  |none=>exact(show False from r).elim
  |some _=>rfl
theorem KV.val{kvs:List (κ×V)}{vs:List (κ×Ψ)}(r:KV kvs vs) (k:κ):p9 (fD kvs k) (valueAt vs k):=by
 unfold KV at r
 induction r with
 |nil=>exact True.intro
 | @cons p q ps qs h t ih =>
  obtain⟨h1,h2⟩:=h
  by_cases e:p.1=k
  ·have e':q.1=k:=h1.symm.trans e;have b:valueAt (q::qs) k=ζ q.2:=by simp[valueAt,aiN,e']
   rw[jv e,b];exact h2
  ·have e':¬q.1=k:=λz=>e (h1.trans z)
   have b:valueAt (q::qs) k=valueAt qs k:=by simp[valueAt,aiN,e']
   rw[jw e,b];exact ih
theorem KV.any{kvs:List (κ×V)}{vs:List (κ×Ψ)}(r:KV kvs vs) (k:κ):(kvs.any λkv=>decide (kv.1=k))=vs.any λkv=>decide (kv.1=k):=by
 unfold KV at r
 induction r with
 |nil=>rfl
 |cons h t ih=>rw[ajY,ajY,ih,h.1]
theorem KV.repl{kvs:List (κ×V)}{vs:List (κ×Ψ)}(r:KV kvs vs) (k:κ) {y:V}{u:Ψ}(ry:RelV y u) :
  KV (kvs.map λkv=>if kv.1=k then(kv.1,y)else kv) (vs.map λkv=>if kv.1=k then(kv.1,u)else kv):=by
 unfold KV at r ⊢
 induction r with
 |nil=>exact .nil
 | @cons p q ps qs h t ih =>
  rw[aht,aht];refine .cons ?_ ih;obtain⟨h1,h2⟩:=h
  by_cases e:p.1=k
  ·rw[if_pos e,if_pos (h1.symm.trans e)];exact⟨h1,ry⟩
  ·rw[if_neg e,if_neg (λz=>e (h1.trans z))];exact⟨h1,h2⟩
theorem KV.put{kvs:List (κ×V)}{vs:List (κ×Ψ)}(r:KV kvs vs) (k:κ) {y:V}{u:Ψ}(ry:RelV y u):KV (putK kvs k y) (stored vs k u):=by
 unfold putK stored;rw[r.any k]
 by_cases e:(vs.any λkv=>decide (kv.1=k))=Θ
 ·rw[if_pos e,if_pos e];exact r.repl k ry
 ·rw[if_neg e,if_neg e];exact Paired.snoc r ⟨rfl,ry⟩
theorem KV.length{kvs:List (κ×V)}{vs:List (κ×Ψ)}(r:KV kvs vs):kvs.length=vs.length:=ajx r
end
theorem Dk{P:τ}{w:ω}{k:Key}{u:Ψ}(r:RelV (kV k) u):(iU P w).is k u=Θ:=by
 cases k with
 |inl i=>obtain⟨t,e⟩:=(show ∃t,u=Value.int i t from r);subst e;exact YV P w i t
 |inr x=>obtain⟨t,e⟩:=(show ∃t,u=Value.str x t from r);subst e;exact YU P w x t
theorem Ky{P:τ}{w:ω}:∀{ks:List Key}{us:List Ψ},Vals (ks.map kV) us->ItemsAre (iU P w) ks us
 |[],_,r=>by rw[List.map_nil]at r;cases r;exact .nil
 |k::ks,_,r=>by
  rw[aht]at r;cases r with
  |cons h t=>exact .cons (Dk h) (Ky t)
abbrev KT(H:Hp):List (List Key×V)->List (List Key×Ξ×Ψ)->Prop:=Paired λp q=>p.1=q.1/\H q.2.1=ζ (.tup (p.1.map kV))/\RelV p.2 q.2.2
theorem KT.val{H:Hp}{kvs:List (List Key×V)}{xs:List (List Key×Ξ×Ψ)}(r:KT H kvs xs) (k:List Key):p9 (fD kvs k) ((atKey xs k).map (·.2)):=by
 induction r with
 |nil=>exact True.intro
 | @cons p q ps qs h t ih =>
  obtain⟨h1,_,h2⟩:=h
  by_cases e:p.1=k
  ·have e':q.1=k:=h1.symm.trans e;have b:atKey (q::qs) k=ζ q.2:=by simp[atKey,aiN,e']
   rw[jv e,b];exact h2
  ·have e':¬q.1=k:=λz=>e (h1.trans z)
   have b:atKey (q::qs) k=atKey qs k:=by simp[atKey,aiN,e']
   rw[jw e,b];exact ih
theorem KT.repl{H:Hp}{kvs:List (List Key×V)}{xs:List (List Key×Ξ×Ψ)}(r:KT H kvs xs) (k:List Key) {y:V}{u:Ψ}(ry:RelV y u) :
  KT H (kvs.map λkv=>if kv.1=k then(kv.1,y)else kv) (xs.map (putAt k u)):=by
 induction r with
 |nil=>exact .nil
 | @cons p q ps qs h t ih =>
  rw[aht,aht];refine .cons ?_ ih;obtain⟨h1,h2,h3⟩:=h;unfold putAt
  by_cases e:p.1=k
  ·rw[if_pos e,if_pos (h1.symm.trans e)];exact⟨h1,h2,ry⟩
  ·rw[if_neg e,if_neg (λz=>e (h1.trans z))];exact⟨h1,h2,h3⟩
theorem KT.put{H:Hp}{kvs:List (List Key×V)}{xs:List (List Key×Ξ×Ψ)}(r:KT H kvs xs) (k:List Key) {b:Ξ}{y:V}{u:Ψ}(hb:H b=ζ (.tup (k.map kV))) (ry:RelV y u) :
  KT H (putK kvs k y) (storedH xs k b u):=by
 have e:(kvs.any λkv=>decide (kv.1=k))=(atKey xs k).isSome:=by
  rw[qm,(r.val k).Dq,akO]
 unfold putK storedH;rw[e]
 by_cases q:(atKey xs k).isSome=Θ
 ·rw[if_pos q,if_pos q];exact r.repl k ry
 ·rw[if_neg q,if_neg q];exact Paired.snoc r ⟨rfl,hb,ry⟩
theorem KT.keeps{H H':Hp}{kvs:List (List Key×V)}{xs:List (List Key×Ξ×Ψ)}(r:KT H kvs xs) (ht:∀b ys,H b=ζ (.tup ys)->H' b=ζ (.tup ys)):KT H' kvs xs :=
 Paired.BX r λ_ _ z=>⟨z.1,ht _ _ z.2.1,z.2.2⟩
section
variable {P:τ}{w:ω}{H:Hp}{h:υ}{a:Ξ}
theorem Ip{u:HO}(ok:cD P w H h) (e:Rd H a u):dZ P w H h a u:=e.ok ok
theorem LP{kvs:List (Key×V)}(ok:cD P w H h) (e:Rd H a (.dK kvs)):kvs.length<=Ω/\(a==sysModules)=Γ/\∃vs,KV kvs vs/\h.DictOf (iU P w) a vs :=
 show dZ P w H h a (.dK kvs)from Ip ok e
theorem acp{kvs:List (Key×V)}(ok:cD P w H h) (e:H a=ζ (.dK kvs)):kvs.length<=Ω/\(a==sysModules)=Γ/\∃vs,KV kvs vs/\h.DictOf (iU P w) a vs:=LP ok (.inl e)
theorem CI{ks:List Key}(ok:cD P w H h) (e:H a=ζ (.tup (ks.map kV))):(tupleKind (iU P w)).is h ks a:=by
 obtain⟨_,its,r,o,h1,h2,⟨n,h3⟩,_⟩:=(show dZ P w H h a (.tup (ks.map kV))from ok a _ e)
 exact⟨o,its.toArray,n,h1,h2,h3,by simpa using Ky r⟩
theorem LN{kvs:List (List Key×V)}(ok:cD P w H h) (e:Rd H a (.dT kvs)):kvs.length<=Ω/\(a==sysModules)=Γ /\
  ∃xs,KT H kvs xs/\h.DictOfH (tupleKind (iU P w)) a xs:=by
 obtain⟨z,y,xs,r,o,es,ep,h1,h2,h3,h4,h5⟩:=(show dZ P w H h a (.dT kvs)from Ip ok e)
 refine⟨z,y,xs,r,o,es,ep,h1,h2,h3,h4,λx hx=>?_,h5⟩
 have all:∀{l:List (List Key×V)}{m:List (List Key×Ξ×Ψ)},KT H l m->∀x∈m,(tupleKind (iU P w)).is h x.1 x.2.1:=by
  intro l m q
  induction q with
  |nil=>intro x hx;exact nomatch hx
  | @cons p q ps qs hq t ih =>
   intro x hx
   rcases aho.mp hx with e|hx
   ·subst e;exact CI ok (by rw[<-hq.1];exact hq.2.1)
   ·exact ih x hx
 exact all r x hx
theorem acn{kvs:List (List Key×V)}(ok:cD P w H h) (e:H a=ζ (.dT kvs)):kvs.length<=Ω/\(a==sysModules)=Γ /\
  ∃xs,KT H kvs xs/\h.DictOfH (tupleKind (iU P w)) a xs:=LN ok (.inl e)
end
def wk(H:Hp) (a:Ξ) (y:V) (r:Option V):Prop :=
 (∃kvs k,Rd H a (.dK kvs)/\y=kV k/\r=fD kvs k)\/∃kvs k b,Rd H a (.dT kvs)/\y=.ref b/\H b=ζ (.tup (k.map kV))/\r=fD kvs k
def ud(H:Hp) (a:Ξ) (y v:V) (H':Hp):Prop :=
 (∃kvs k,H a=ζ (.dK kvs)/\y=kV k/\kvs.length<Ω/\H'=upd H a (.dK (putK kvs k v))) \/
 ∃kvs k b,H a=ζ (.dT kvs)/\y=.ref b/\H b=ζ (.tup (k.map kV))/\kvs.length<Ω/\H'=upd H a (.dT (putK kvs k v))
theorem wk.t{H:Hp}{a b:Ξ}{kvs:List (List Key×V)}{k:List Key}(e:H a=ζ (.dT kvs)) (eb:H b=ζ (.tup (k.map kV))):wk H a (.ref b) (fD kvs k):=.inr ⟨kvs,k,b,.inl e,rfl,eb,rfl⟩
theorem ud.t{H:Hp}{a b:Ξ}{kvs:List (List Key×V)}{k:List Key}{v:V}(e:H a=ζ (.dT kvs)) (eb:H b=ζ (.tup (k.map kV))) (hl:kvs.length<Ω) :
  ud H a (.ref b) v (upd H a (.dT (putK kvs k v))):=.inr ⟨kvs,k,b,e,rfl,eb,hl,rfl⟩
section
variable {X:Cx}{pins:List (Ξ×Obj)}{σ:St}{H:Hp}{s:ι}{a:Ξ}{y v:V}{u r:Ψ}{o:Option V}{A:ψ}{E:Ψ->ι->Prop}
theorem Inv.big(I:Inv X pins σ H s):sysModules<s.heap.objs.size:=by
 have h:ξ<s.heap.objs.size:=(I.mod.glob.keeps I.bk).lt;exact Nat.lt_trans (by decide) h
theorem ac1{Q:Ψ->ι->Prop}(hu:A.units+1<aa0) (I:Inv X pins σ H s) (g:wk H a y o) (ry:RelV y u) (h:∀s',Inv X pins σ H s'->Q (.bool o.isSome) s') :
  wpAny (model X.prog X.w) A (compareOp .In u (.ref a)) Q E s:=by
 rcases g with⟨kvs,k,e,ey,l⟩|⟨kvs,k,b,e,ey,eb,l⟩
 ·subst ey;obtain⟨z,hd,vs,rel,dd⟩:=LP I.hok e;refine wpAny_in_of (Dk ry) hd dd.mapOf ?_;rw[<-(rel.val k).Dq,<-l];exact h _ (I.tok _)
 ·subst ey;cases(show u=Value.ref b from ry)
  obtain⟨z,hd,xs,rel,dd⟩:=LN I.hok e;refine wpAny_in_heap (tupleKind_room_in1 hu) (CI I.hok eb) hd dd ?_;have q:=(rel.val k).Dq;rw[akO]at q;rw[<-q,<-l];exact h _ (I.tok _)
theorem LY{h':υ}{t':Nat}{ob:HO}(I:Inv X pins σ H s) (mu:wc (H a)) (hs:aaU a s.heap h') (he:∃q,h'.get? a=ζ q) (new:dZ X.prog X.w (upd H a ob) h' a ob) :
  Inv X pins σ (upd H a ob) {s with heap:=h',toks:=t'} :=
 I.write (x:=a) (e:=a) mu (.inl rfl) (λb q hb z=>(hs.2 b hb).trans z) he new
theorem acq{P:τ}{w:ω}{H':Hp}{h':υ}{kvs:List (Key×V)}{vs:List (Key×Ψ)}(z:kvs.length<=Ω) (hd:(a==sysModules)=Γ) (rel:KV kvs vs) (dd:h'.DictOf (iU P w) a vs) :
  dZ P w H' h' a (.dK kvs):=⟨z,hd,vs,rel,dd⟩
theorem ac0{H':Hp}{Q:Unit->ι->Prop}(hu:A.units+1<aa0) (I:Inv X pins σ H s) (g:ud H a y v H') (ry:RelV y u) (rv:RelV v r) (h:∀s',Inv X pins σ H' s'->Q () s') :
  wpAny (model X.prog X.w) A (setItem (.ref a) u r) Q E s:=by
 rcases g with⟨kvs,k,e,ey,l,eH⟩|⟨kvs,k,b,e,ey,eb,l,eH⟩
 ·subst ey eH;obtain⟨z,hd,vs,rel,dd⟩:=acp I.hok e;have hz:vs.length<=Ω:=by rw[<-rel.length];exact z
  have hl:(putK kvs k v).length<=Ω:=by have:=yC kvs k v;omega
  refine wpAny_setItem_pairs (hsz:=hz) (Dk ry) dd λh' zL hs=>h _ ?_
  have he:∃q,h'.get? a=ζ q:=let⟨q,_,_,hq,_⟩:=zL;⟨q,hq⟩
  exact LY I (by rw[e];exact True.intro) hs he (acq hl hd (rel.put k rv) zL)
 ·subst ey eH;cases(show u=Value.ref b from ry)
  obtain⟨z,hd,xs,rel,dd⟩:=acn I.hok e;have hz:xs.length<=Ω:=by rw[<-ajx rel];exact z
  have hl:(putK kvs k v).length<=Ω:=by have:=yC kvs k v;omega
  refine wpAny_setItem_heap (hsz:=hz) (tupleKind_room_in1 hu) (CI I.hok eb) dd λh' zL hs=>h _ ?_
  obtain⟨q,es,ep,hq,h2,h3,h4,_,h5⟩:=zL;refine LY I (by rw[e];exact True.intro) hs ⟨q,hq⟩ ⟨hl,hd,_,(rel.put k eb rv).keeps λc ys ec=>?_,q,es,ep,hq,h2,h3,h4,h5⟩
  rw[bA (BV ec e (λz=>nomatch z))]
  exact ec
end
def Bo(td ty tv:TE):TS:=λD σ H=>tv σ H λv H1=>td σ H1 λx H2=>ty σ H2 λy H3=>∃a H4,x=.ref a/\ud H3 a y v H4/\D.nx σ H4
section
variable {X:Cx}{o i e value:ο}{pos pos' tpos:Pos}{td ty tv:TE}
theorem IC(hu:X.A.units+1<aa0) (ho:PE X o td) (hi:PE X i ty) (hv:PE X value tv) (hs:swapsWith value (ζ (.Subscript o i pos')) pos.line X.env=pure Γ) :
  PS X (.Assign [.Subscript o i pos'] value pos) (Bo td ty tv):=by
 intro pins s σ H D I h;refine wpAny_Assign_Subscript (bE (hv pins s σ H _ I h) λr s1 ⟨v,H1,I1,rv,q1⟩=>bE (ho pins s1 σ H1 _ I1 q1) λu s2 ⟨x,H2,I2,rx,q2⟩=>bE (hi pins s2 σ H2 _ I2 q2) λiv s3 ⟨y,H3,I3,ry,a,H4,ex,g,q3⟩=>?_) hs
 subst ex;obtain rfl:u=Value.ref a:=rx;exact ac0 hu I3 g ry rv λs4 I4=>⟨σ,H4,I4,q3⟩
end
theorem aco{P:τ}{w:ω}{H:Hp}(h:υ) (hb:sysModules<h.objs.size):dZ P w H (h.push {cls:=.type "dict",data:=.dict #[]}) h.objs.size (.dT []) :=
 ⟨aiv _,beq_eq_false_iff_ne.mpr (ah2 (ahx hb)),[],.nil,_,#[],0,ahG _ rfl,⟨rfl,rfl,rfl⟩,rfl,rfl,List.nodup_nil⟩
def HJ:TE:=λ_ H Q=>∀p,H p=η->Q (.ref p) (upd H p (.dT []))
section
variable {X:Cx}{pos:Pos}
theorem Uz:PE X (.Dict [] [] pos) HJ:=λpins s σ H Q I h =>
 wpAny_Dict_empty ⟨.ref s.heap.objs.size,_,I.laid (a:=s.heap.objs.size) (o:=.dT []) (t':=s.toks) (λ_ _ q=>ahs _ q) (ahn _) (aco s.heap I.big),rfl,h _ (I.hok.fresh (ahn _))⟩
end
section
variable {X:Cx}
def yI:D->D->aa->R D:=λx y c=>match x,y with
 |.tup [.int a,.int b],.dct ks=>.ok (.bl (decide ((a,b)∈ks))) c
 |_,_=>.bad
theorem Wy(hu:X.A.units+64<aa0):bR X (compareOp .In) (r2 X.K yI):=by
 intro pins s σ H v u vv uu Q I rv ru h;obtain⟨ρ,x,y,c,W,rx,ry,p⟩:=h;unfold yI at p;split at p
 ·rename_i a b ks;obtain⟨t,xs,rfl,ht,rl⟩:=rx;obtain⟨x1,r1,rfl,e1,rl⟩:=rl;obtain⟨x2,r2,rfl,e2,rl⟩:=rl;cases(show x1=V.int a from e1)
  cases(show x2=V.int b from e2)
  cases(show r2=[]from rl)
  obtain⟨d,kvs,rfl,hd,hk⟩:=ry;obtain rfl:uu=Value.ref d:=ru;have g:wk H d (.ref t) (fD kvs [Sum.inl a,Sum.inl b]):=wk.t hd (show H t=ζ (.tup ([Sum.inl a,Sum.inl b].map kV))from ht)
  refine ac1 (by omega) I g rv λs3 I3=>⟨.bl (fD kvs [Sum.inl a,Sum.inl b]).isSome,H,I3,rfl,?_⟩
  rw[<-qm,hk (a,b)];exact p.here W rfl
 ·exact p.elim
end
structure GdN (L:Nat) (l:List (Nat×Int)):Prop where
 nd:(l.map (·.1)).Nodup
 lt:∀p∈l,p.1<L
def yG:HO->Bool
 |.dK _=>Θ
 |.cO _ (.dK _)=>Θ
 |_=>Γ
section
variable {K:Δ}{ρ:List Ξ}{H H':Hp}{c:aa}
theorem QA(k:∀a o,H a=ζ o->yG o=Γ->H' a=ζ o) {a:Ξ}{xs:List V}(h:p8 K ρ H a xs):p8 K ρ H' a xs:=by
 rcases h with⟨h,n⟩|h
 ·rcases h with h|⟨o,h⟩
  ·exact .inl ⟨.inl (k a _ h rfl),n⟩
  ·exact .inl ⟨.inr ⟨o,k a _ h rfl⟩,n⟩
 ·exact .inr h
mutual
theorem Rel.nd(k:∀a o,H a=ζ o->yG o=Γ->H' a=ζ o):∀(d:D) (v:V),Rel K ρ H d v->Rel K ρ H' d v
 |.aH,v,h=>h
 |.bl b,v,h=>h
 |.int i,v,h=>h
 |.str y,v,h=>h
 |.ty n,v,h=>h
 |.tup l,v,h=>by
  obtain⟨a,xs,e,s,r⟩:=h;exact⟨a,xs,e,k a _ s rfl,aM.nd k l xs r⟩
 |.lst l,v,h=>by
  obtain⟨a,xs,e,s,r⟩:=h;exact⟨a,xs,e,⟨k a _ s.1 rfl,s.2⟩,aM.nd k l xs r⟩
 |.ref _,v,h=>h
 |.bw l,v,h=>by
  obtain⟨a,e,s⟩:=h;exact⟨a,e,QA k s⟩
 |.fn a n,v,h=>h
 |.gQ,v,h=>by
  obtain⟨a,e,q⟩:=h;exact⟨a,e,k a _ q rfl⟩
 |.dct ks,v,h=>by
  obtain⟨a,kvs,e,q,z⟩:=h;exact⟨a,kvs,e,k a _ q rfl,z⟩
 |.exc y,v,h=>by
  obtain⟨a,C,e,n,q⟩:=h;exact⟨a,C,e,n,k a _ q rfl⟩
 |.lam _ y ns l,v,h=>by
  obtain⟨a,o,q,c,cl,xs,e,h1,h2,h3,h4,h5,h6⟩:=h;exact⟨a,o,q,c,cl,xs,e,k a _ h1 rfl,h2,k c _ h3 rfl,h4,h5.mono (λb o z=>k b _ z rfl),aM.nd k l xs h6⟩
theorem aM.nd(k:∀a o,H a=ζ o->yG o=Γ->H' a=ζ o):∀(l:List D) (xs:List V),aM K ρ H l xs->aM K ρ H' l xs
 |[],xs,h=>h
 |d::l,xs,h=>by
  obtain⟨y,r,e,h1,h2⟩:=h;exact⟨y,r,e,Rel.nd k d y h1,aM.nd k l r h2⟩
end
theorem Wd.XR(W:Wd K ρ H c) (k:∀a o,H a=ζ o->yG o=Γ->H' a=ζ o):Wd K ρ H' c :=
 ⟨W.nd,W.len,λi a cl e1 e2=>by
  have q:=W.fH i a cl e1 e2;cases cl with
  |lst l =>
   obtain⟨nr,xs,h,r⟩:=q;exact⟨nr,xs,k a _ h rfl,aM.nd k l xs r⟩,W.tab.mono (λP ps e=>k P _ e rfl) λc φ e=>k c _ e rfl⟩
end
end L2
namespace L2
open PySem PySem.Spec PyProof.Rows
def rG(p:Int×Int):D:=.tup [.int p.1,.int p.2]
def iI(qs:List (Int×Int)):List (Int×Int):=qs.flatMap λq=>[q,(q.2,q.1)]
def z6(kvs:List (List Key×V)) (ks:List (Int×Int)):Prop:=∀p:Int×Int,(kvs.any λkv=>decide (kv.1=[Sum.inl p.1,Sum.inl p.2]))=decide (p∈ks)
theorem z6.put{kvs:List (List Key×V)}{ks:List (Int×Int)}(h:z6 kvs ks) (q:Int×Int) (v:V):z6 (putK kvs [Sum.inl q.1,Sum.inl q.2] v) (ks++[q]):=λp=>by
 have e:=h p;rw[qm]at e ⊢;rw[Pd]
 by_cases hq:p=q
 ·subst hq;simp
 ·have hne:¬([Sum.inl p.1,Sum.inl p.2]:List Key)=[Sum.inl q.1,Sum.inl q.2]:=λz=>hq (by
   simp only[akP,Sum.inl.injEq,and_true]at z;exact Prod.ext z.1 z.2)
  rw[if_neg hne,e];simp[hq]
def Bt:D->Option (Int×Int)
 |.tup [.int a,.int b]=>ζ (a,b)
 |_=>η
def kG:List D->Option (List (Int×Int))
 |[]=>ζ []
 |d::l=>match Bt d,kG l with
  |some p,ζ ps=>ζ (p::ps)
  |_,_=>η
theorem ID:∀{l:List D}{ps:List (Int×Int)},kG l=ζ ps->l=ps.map rG
 |[],ps,h=>by cases h;rfl
 |d::l,ps,h=>by
  unfold kG at h;split at h
  ·rename_i p qs h1 h2;cases h;rw[ID h2];unfold Bt at h1;split at h1
   ·cases h1;rfl
   ·cases h1
  ·cases h
theorem IE:∀ps:List (Int×Int),kG (ps.map rG)=ζ ps
 |[]=>rfl
 |p::ps=>by
  unfold kG;rw[aht];have:=IE ps;simp[rG,Bt,this]
def mZ(i j k:Nat):ah:=λe c=>match e[i]? with
 |some (ζ d)=>match(dB c d).bind kG with
  |some ps=>if ps.length<2000/\e.length=4 then .ok (.nx ((e.set j (ζ (.dct (iI ps)))).set k η)) c else .bad
  |none=>.bad
 |_=>.bad
theorem S7{α β:Type}{K:Δ}{Rl:List Ξ->Hp->α->β->Prop}{r:R α}{ρ aI:List Ξ}{H H1:Hp}{Q:β->Hp->Prop}(x:Ext ρ H aI H1) (p:post K Rl r ρ H Q):post K Rl r aI H1 Q:=by
 cases r with
 |ok a c=>exact λρ' H' b W X R=>p ρ' H' b W (x.trans X) R
 |bad=>exact p
theorem iC:10000<Ω:=by decide
section
variable {K:Δ}{ρ:List Ξ}{H0:Hp}{c:aa}
def Gu(K:Δ) (H0:Hp) (a:Ξ) (s0:Option V) (v1:V) (ps:List (Int×Int)) (i:Nat) (σ:St) (H:Hp):Prop :=
 ∃x kvs,(∀b o,H0 b=ζ o->H b=ζ o)/\σ=[s0,ζ v1,ζ (.ref a),x]/\H a=ζ (.dT kvs)/\z6 kvs (iI (ps.take i))/\kvs.length<=2*i
theorem S4{H:Hp}{p:Int×Int}{v:V}(r:Rel K ρ H (rG p) v):∃b,v=.ref b/\H b=ζ (.tup [.int p.1,.int p.2]):=by
 obtain⟨b,xs,rfl,hb,rl⟩:=r;obtain⟨x1,r1,rfl,e1,rl⟩:=rl;obtain⟨x2,r2,rfl,e2,rl⟩:=rl;cases(show x1=V.int p.1 from e1)
 cases(show x2=V.int p.2 from e2)
 cases(show r2=[]from rl)
 exact⟨b,rfl,hb⟩
def Kr(K:Δ):TS :=
 HE (Bo (mU 2) (mU 3) (tC (.bl Θ))) (Bo (mU 2) (HD (AZ (qu (Bs K) (mU 3) (tC (.int 1))) (AZ (qu (Bs K) (mU 3) (tC (.int 0))) HF))) (tC (.bl Θ)))
theorem Z1{a:Ξ}{s0:Option V}{v1:V}{ps:List (Int×Int)}{i:Nat}{p:Int×Int}{b:Ξ}{D:Ends}(ha:H0 a=η) (hb:H0 b=ζ (.tup [.int p.1,.int p.2])) (hp:ps[i]? = ζ p) (hl:ps.length<2000)
  (hD:∀σ H,Gu K H0 a s0 v1 ps (i+1) σ H->D.nx σ H) {σ:St}{H:Hp}(h:Gu K H0 a s0 v1 ps i σ H):Kr K D (σ.set 3 (ζ (.ref b))) H:=by
 obtain⟨x,kvs,M,rfl,hd,hk,hlen⟩:=h;have hi:i<ps.length:=(ahz.mp hp).1;have sz:=iC;have K8:=M b _ hb;have hba:b≠a:=λe=>by rw[e,ha]at hb;cases hb
 refine⟨.ref a,rfl,.ref b,rfl,a,_,rfl,ud.t (k:=[Sum.inl p.1,Sum.inl p.2]) hd K8 (by omega),?_⟩
 have k1:=hk.put p (.bl Θ);have l1:=yC kvs [Sum.inl p.1,Sum.inl p.2] (.bl Θ)
 generalize putK kvs [Sum.inl p.1,Sum.inl p.2] (.bl Θ)=pq at k1 l1
 have hb1:upd H a (.dT pq) b=ζ (.tup [.int p.1,.int p.2]):=by rw[bA hba];exact K8
 have hd1:upd H a (.dT pq) a=ζ (.dT pq):=by unfold upd;rw[if_pos rfl]
 refine⟨.ref a,rfl,.ref b,rfl,b,[.int p.1,.int p.2],1,.int p.2,rfl,rfl,.inl (.inl hb1),rfl,.ref b,rfl,b,[.int p.1,.int p.2],0,.int p.1,rfl,rfl,.inl (.inl hb1),rfl,by show 2<=Ω;omega,λt ht=>?_⟩
 have jK:t≠a:=λe=>by rw[e,hd1]at ht;cases ht
 have hat:a≠t:=ah2 jK;have hd2:upd (upd H a (.dT pq)) t (.tup [.int p.2,.int p.1]) a=ζ (.dT pq):=by rw[bA hat];exact hd1
 have ht2:upd (upd H a (.dT pq)) t (.tup [.int p.2,.int p.1]) t=ζ (.tup ([Sum.inl p.2,Sum.inl p.1].map kV)):=by unfold upd;rw[if_pos rfl];rfl
 refine⟨a,_,rfl,ud.t (k:=[Sum.inl p.2,Sum.inl p.1]) hd2 ht2 (by omega),?_⟩
 have k2:=k1.put (p.2,p.1) (.bl Θ);have l2:=yC pq [Sum.inl p.2,Sum.inl p.1] (.bl Θ);refine hD _ _ ⟨ζ (.ref b),_,λu o e=>?_,rfl,by unfold upd;rw[if_pos rfl],?_,by omega⟩
 ·have KQ:u≠a:=λz=>by rw[z,ha]at e;cases e
  have hut:u≠t:=λz=>by
   rw[z]at e;have:=M t o e;rw[bA jK,this]at ht;cases ht
  rw[bA KQ,bA hut,bA KQ];exact M u o e
 ·have e:iI (ps.take (i+1))=iI (ps.take i)++[p]++[(p.2,p.1)]:=by
   rw[List.take_add_one,hp];unfold iI;rw[akQ];simp
  rw[e];exact k2
end
theorem Kd{α:Type}{l:List α}(h:l.length=4):∃a b d f,l=[a,b,d,f]:=by
 match l,h with
 |[a,b,d,f],_=>exact⟨a,b,d,f,rfl⟩
theorem YZ{K:Δ}{ρ:List Ξ}{H:Hp}{c:aa}(W:Wd K ρ H c) {d:D}{v:V}{l:List D}(r:Rel K ρ H d v) (h:dB c d=ζ l):∃a xs,v=.ref a/\H a=ζ (.lst xs)/\aM K ρ H l xs:=by
 cases d with
 |lst m =>
  have e:ζ m=ζ l:=h;cases e;obtain⟨a,xs,rfl,hs,rl⟩:=r;exact⟨a,xs,rfl,hs.1,rl⟩
 |ref k =>
  obtain⟨a,rfl,ha⟩:=r;unfold dB at h;dsimp only at h;cases hc:c[k]? with
  |none=>rw[hc]at h;cases h
  |some cl =>
   cases cl with
   |lst m =>
    rw[hc]at h;cases h;obtain⟨_,xs,hx,rl⟩:=W.fH k a _ ha hc;exact⟨a,xs,rfl,hx,rl⟩
 |_=>cases h
theorem Rr{X:Cx}{A B:aav}{rest:List aav}{dr:ah}(hA:PS X A (A5 HJ (yT 2))) (hB:PS X B (HH (KI X.K (mU 1)) (yT 3) (Kr X.K))) (hr:cA X rest dr):cA X (A::B::rest) (aD (mZ 1 2 3) dr) :=
 (rF hA (rF hB hr)).imp λZ σ H h=>by
  obtain⟨ρ,e,c,W,V,p⟩:=h;unfold aD mZ at p;cases he:e[1]? with
  |none=>rw[he]at p;exact p.elim
  |some od =>
   cases od with
   |none=>rw[he]at p;exact p.elim
   |some d =>
    rw[he]at p;dsimp only at p;cases hl:dB c d with
    |none=>rw[hl]at p;exact p.elim
    |some l =>
     rw[hl,ajl]at p;cases hq:kG l with
     |none=>rw[hq]at p;exact p.elim
     |some ps =>
      rw[hq]at p;dsimp only at p
      by_cases hh:ps.length<2000/\e.length=4
      ·rw[if_pos hh]at p;have el:=ID hq;subst el;obtain⟨v1,hv1,rd⟩:=V.get 1 d he;obtain⟨e0,e1,e2,e3,rfl⟩:=Kd hh.2;obtain⟨s0,s1,s2,s3,rfl⟩:=Kd (V.len.symm.trans hh.2);cases he;cases hv1;obtain⟨b,xs,rfl,hb,rl⟩:=YZ W rd hl;have hx:=rl.length;rw[ahr]at hx;intro a ha;have M0:∀u o,H u=ζ o->upd H a (.dT []) u=ζ o:=λu o z=>by
        rw[bA (λy=>by rw[y,ha]at z;cases z)];exact z
       refine⟨.ref b,rfl,b,rfl,⟨xs,bW.of (M0 b _ hb)⟩,abS (K:=X.K) (a:=b) (xs:=xs) (Gu X.K H a s0 (.ref b) ps) ⟨s3,[],M0,rfl,by unfold upd;rw[if_pos rfl],λq=>by simp[iI],aiv _⟩ (λi σ H' _ q=>?_) (λi x σ H' hxi q=>?_) (λσ H' q=>?_)⟩
       ·obtain⟨_,_,M,_⟩:=q;exact bW.of (M b _ hb)
       ·have hi:i<ps.length:=by rw[<-hx];exact(ahz.mp hxi).1
        obtain⟨x',hx',rp⟩:=aM.get rl (i:=i) (d:=rG ps[i]) (by simp[hi])
        rw[hxi]at hx';cases hx';obtain⟨t,rfl,ht⟩:=S4 rp;exact Z1 ha ht (ahI hi) hh.1 (λσ H q=>q) q
       ·obtain⟨x,kvs,M,rfl,hd,hk,_⟩:=q;rw[hx,air]at hk;have E:Ext ρ H ρ H':=⟨λ_ _ z=>z,λu o z n _=>⟨M u o z,n⟩⟩
        refine⟨ρ,[e0,ζ d,ζ (.dct (iI ps)),η],c,W.XR (λu o z _=>M u o z),⟨λi g hg=>?_,rfl⟩,S7 E p⟩
        match i,hg with
        |0,hg =>
         obtain⟨v,hv,r⟩:=V.get 0 g hg;exact⟨v,hv,Rel.mono W E _ _ r⟩
        |1,hg =>
         cases hg;exact⟨.ref b,rfl,Rel.mono W E _ _ rd⟩
        |2,hg =>
         cases hg;exact⟨.ref a,rfl,a,kvs,rfl,hd,hk⟩
        |3,hg=>cases hg
        |(n+4),hg=>simp at hg
      ·rw[if_neg hh]at p;exact p.elim
theorem KR{A:ψ}(h:A.units+64<aa0):A.units+1<aa0:=by omega
def dH(sep:Str):List Str->Str
 |[x]=>x
 |l=>Builtin.Str.glued sep l
theorem HN:∀{ss:List Str}{us:List Ψ},Vals (ss.map V.str) us->∃l:List (Str×Tok),us=strValues l/\l.map (·.1)=ss
 |[],us,h=>by cases h;exact⟨[],rfl,rfl⟩
 |x::ss,us,h=>by
  cases h with
  |cons r rr =>
   obtain⟨t,rfl⟩:=r;obtain⟨l,rfl,e⟩:=HN rr;exact⟨(x,t)::l,rfl,by rw[aht,e]⟩
section
variable {X:Cx}
def rJoin:V->List V->Hp->VK->Prop:=λx vs H Q=>∃sep a ss,x=.str sep/\vs=[.ref a]/\H a=ζ (.lst (ss.map V.str))/\Builtin.Str.tooLong (Array.foldl (λx1 x2=>x1+x2.length+sep.length) 0 ss.toArray)=Γ/\(dH sep ss).length<=Ω/\Q (.str (dH sep ss)) H
theorem YK:oh X "str.join" rJoin:=by
 intro pins s σ H x vs v us Q I rx rv h;obtain⟨sep,a,ss,rfl,rfl,hH,hz,hw,q⟩:=h;obtain⟨t,rfl⟩:=rx;obtain⟨u,rfl,ru⟩:=rv.one;cases ru;obtain⟨its,r,p,_⟩:=I.list (bW.of (K:=X.K) hH);obtain⟨l,rfl,e⟩:=HN r;refine ah8 F.slot_str_join (ain s sep t) F.entry_str_join (F.args_str_join_2 _ _) (PySem.meets_str_join_list sep t a l (by rw[e];exact hz)) ⟨p.isList,?_⟩
 match l,e with
 |[],e =>
  subst e;exact⟨hw,.str _,H,I.tok _,⟨_,rfl⟩,q⟩
 |[y],e =>
  subst e;exact⟨.str _,H,I,⟨_,rfl⟩,q⟩
 |y::z::l,e =>
  subst e;exact⟨hw,.str _,H,I.tok _,⟨_,rfl⟩,q⟩
def Sw:V->List V->Hp->VK->Prop:=λx vs H Q=>∃a b,x=.str a/\vs=[.str b]/\Q (.int ((Builtin.Str.occurrences a b 0 a.length (a.length+1)).length:Nat)) H
theorem YO:oh X "str.count" Sw:=by
 intro pins s σ H x vs v us Q I rx rv h;obtain⟨a,b,rfl,rfl,q⟩:=h;obtain⟨t,rfl⟩:=rx;obtain⟨u,rfl,ru⟩:=rv.one;obtain⟨t',rfl⟩:=ru;refine call_gives F.slot_str_count (ain s a t) F.entry_str_count (F.args_str_count_2 _ _) (PySem.gives_str_count a b t t') ?_;exact⟨.int _,H,I.tok _,⟨_,rfl⟩,q⟩
def mV:List D->Option (List Str)
 |[]=>ζ []
 |.str x::l=>(mV l).map (x :: ·)
 |_::_=>η
theorem HP{K:Δ}{ρ:List Ξ}{H:Hp}:∀{l:List D}{ss:List Str}{xs:List V},mV l=ζ ss->aM K ρ H l xs->xs=ss.map V.str
 |[],ss,xs,h,r=>by cases h;exact r
 |d::l,ss,xs,h,r=>by
  obtain⟨y,r',rfl,h1,h2⟩:=r;cases d with
  |str x =>
   unfold mV at h;cases hs:mV l with
   |none=>rw[hs]at h;cases h
   |some ss' =>
    rw[hs]at h;cases h;cases(show y=V.str x from h1)
    rw[HP hs h2];rfl
  |_=>cases h
def fO(o a:af):af:=λe c=>(o e c).bind λx c=>match x with
 |.str sep=>(a e c).bind λy c=>match(dB c y).bind mV with
  |some ss=>if Builtin.Str.tooLong (Array.foldl (λx1 x2=>x1+x2.length+sep.length) 0 ss.toArray)=Γ/\(dH sep ss).length<=Ω then .ok (.str (dH sep ss)) c else .bad
  |none=>.bad
 |_=>.bad
theorem uW{o e:ο}{dO da:af}{apos cpos:Pos}(ho:aY X o dO) (ha:aY X e da)
  (hbase:aaz o "join" X.env (eval o X.env)=eval o X.env:=by rfl)
  (hfew:((aab cpos (μ [e] X.env)).all (λx=>!x.1)&&(aaK cpos (aax [] X.env)).all (λx=>x.1.isSome)
   && decide ([e].length+([]:List aay).length+(if([]:List aay).isEmpty then 0 else 1)<30))=Θ:=by exact oF rfl)
  (hline:(apos.endLine==cpos.line)=Θ:=by rfl) (hs:μ [e] X.env=(Γ,eval e X.env)::μ [] X.env:=by exact bS rfl) (hplain:(aab cpos (μ [] X.env)).any (·.1)=Γ:=by exact g9 rfl) :
  aY X (.Call (.Attribute o "join" apos) [e] [] cpos) (fO dO da) :=
 (m9 ajZ PySem.F.slot_str_join PySem.F.type_str_join YK ho (iF ha jC hs) hbase hfew hline hs hplain).imp λσ H Q h=>by
  obtain⟨ρ,e,c,W,V,p⟩:=h;refine⟨ρ,e,c,W,V,post.bind p λx c1 aI H1 v _ W1 X1 r1 p1=>?_⟩
  cases x with
  |str sep =>
   cases(show v=L2.V.str sep from r1)
   refine⟨rfl,aI,e,c1,W1,V.mono W X1,post.bind p1 λy c2 cN H2 u _ W2 X2 r2 p2=>?_⟩
   cases hl:dB c2 y with
   |none=>rw[hl]at p2;exact p2.elim
   |some l =>
    rw[hl,ajl]at p2;cases hq:mV l with
    |none=>rw[hq]at p2;exact p2.elim
    |some ss =>
     rw[hq]at p2;dsimp only at p2
     by_cases hh:Builtin.Str.tooLong (Array.foldl (λx1 x2=>x1+x2.length+sep.length) 0 ss.toArray)=Γ/\(dH sep ss).length<=Ω
     ·rw[if_pos hh]at p2;obtain⟨a,xs,rfl,hx,rl⟩:=o5 W2 r2 hl;have:=HP hq rl;subst this;exact⟨sep,a,ss,rfl,rfl,hx,hh.1,hh.2,p2.here W2 rfl⟩
     ·rw[if_neg hh]at p2;exact p2.elim
  |_=>exact p1.elim
def jO(o a:af):af:=λe c=>(o e c).bind λx c=>match x with
 |.str w=>(a e c).bind λy c=>match y with
  |.str z=>.ok (.int ((Builtin.Str.occurrences w z 0 w.length (w.length+1)).length:Nat)) c
  |_=>.bad
 |_=>.bad
theorem IV{o e:ο}{dO da:af}{apos cpos:Pos}(ho:aY X o dO) (ha:aY X e da)
  (hbase:aaz o "count" X.env (eval o X.env)=eval o X.env:=by rfl)
  (hfew:((aab cpos (μ [e] X.env)).all (λx=>!x.1)&&(aaK cpos (aax [] X.env)).all (λx=>x.1.isSome)
   && decide ([e].length+([]:List aay).length+(if([]:List aay).isEmpty then 0 else 1)<30))=Θ:=by exact oF rfl)
  (hline:(apos.endLine==cpos.line)=Θ:=by rfl) (hs:μ [e] X.env=(Γ,eval e X.env)::μ [] X.env:=by exact bS rfl) (hplain:(aab cpos (μ [] X.env)).any (·.1)=Γ:=by exact g9 rfl) :
  aY X (.Call (.Attribute o "count" apos) [e] [] cpos) (jO dO da) :=
 (m9 ajZ PySem.F.slot_str_count PySem.F.type_str_count YO ho (iF ha jC hs) hbase hfew hline hs hplain).imp λσ H Q h=>by
  obtain⟨ρ,e,c,W,V,p⟩:=h;refine⟨ρ,e,c,W,V,post.bind p λx c1 aI H1 v _ W1 X1 r1 p1=>?_⟩
  cases x with
  |str w =>
   cases(show v=L2.V.str w from r1)
   refine⟨rfl,aI,e,c1,W1,V.mono W X1,post.bind p1 λy c2 cN H2 u _ W2 X2 r2 p2=>?_⟩
   cases y with
   |str z =>
    cases(show u=L2.V.str z from r2)
    exact⟨w,z,rfl,rfl,p2.here W2 rfl⟩
   |_=>exact p2.elim
  |_=>exact p1.elim
end
def dM(x y:Str):List Nat:=Builtin.Str.occurrences x y 0 x.length (x.length+1)
def bO(x y:Str):List Str:=if(decide (x.length<y.length)||decide (Builtin.Str.strKind x<Builtin.Str.strKind y))=Θ then[x]else if(dM x y).isEmpty=Θ then[x]else Builtin.Str.partsBetween x (dM x y) y.length
theorem G8:∀(ss:List Str) (n:Nat),Vals (ss.map V.str) (strsFrom n ss)
 |[],n=>.nil
 |x::ss,n=>by
  have e:strsFrom n (x::ss)=.str x n::strsFrom (n+1) ss:=by
   first
    |rfl
    |simp[strsFrom]
  rw[e,aht];exact .cons ⟨_,rfl⟩ (G8 ss (n+1))
section
variable {X:Cx}
def Sg:V->List V->Hp->VK->Prop:=λx vs H Q=>∃w y,x=.str w/\vs=[.str y]/\(y.length==0)=Γ/\w.length<=Ω/\(bO w y).length<=Ω/\∀p,H p=η->Q (.ref p) (upd H p (.lst ((bO w y).map V.str)))
theorem YJ:oh X "str.split" Sg:=by
 intro pins s σ H x vs v us Q I rx rv h;obtain⟨w,y,rfl,rfl,hy,hw,hl,q⟩:=h;obtain⟨t,rfl⟩:=rx;obtain⟨u,rfl,ru⟩:=rv.one;obtain⟨t',rfl⟩:=ru;have hf:H s.heap.objs.size=η:=I.hok.fresh (ahn _);have q':=q _ hf;cases h1:(decide (w.length<y.length)||decide (Builtin.Str.strKind w<Builtin.Str.strKind y))with
 |true =>
  have e:bO w y=[w]:=by unfold bO;rw[if_pos h1]
  rw[e]at q' hl;refine ah8 aj0 (ain s w t) aj1 (aj2 _ _) (PySem.meets_str_split_cannot_occur w y t t' h1) ?_;refine⟨.ref s.heap.objs.size,_,I.laid (t':=s.toks) (o:=.lst ([w].map V.str)) (λb u e=>ahs _ e) (ahn _) ?_,rfl,q'⟩
  exact⟨hl,[.str w t],0,.cons ⟨_,rfl⟩ .nil,ahG _ rfl⟩
 |false =>
  cases h2:(dM w y).isEmpty with
  |true =>
   have e:bO w y=[w]:=by unfold bO;rw[if_neg (by rw[h1];decide),if_pos h2]
   rw[e]at q' hl;refine ah8 aj0 (ain s w t) aj1 (aj2 _ _) (PySem.meets_str_split_not_found w y t t' h1 hy h2) ?_;refine⟨.ref s.heap.objs.size,_,I.laid (t':=s.toks) (o:=.lst ([w].map V.str)) (λb u e=>ahs _ e) (ahn _) ?_,rfl,q'⟩
   exact⟨hl,[.str w t],0,.cons ⟨_,rfl⟩ .nil,ahG _ rfl⟩
  |false =>
   have e:bO w y=Builtin.Str.partsBetween w (dM w y) y.length:=by unfold bO;rw[if_neg (by rw[h1];decide),if_neg (by rw[h2];decide)]
   rw[e]at q' hl;refine ah8 aj0 (ain s w t) aj1 (aj2 _ _) (PySem.meets_str_split_sep w y t t' h1 hy h2 hw hl) ?_;refine⟨.ref s.heap.objs.size,_,I.laid (t':=s.toks+(Builtin.Str.partsBetween w (dM w y) y.length).length) (o:=.lst ((Builtin.Str.partsBetween w (dM w y) y.length).map V.str)) (λb u e=>ahs _ e) (ahn _) ?_,rfl,q'⟩
   exact⟨by rw[ahr];exact hl,strsFrom s.toks (Builtin.Str.partsBetween w (dM w y) y.length),0,G8 _ _,ahG _ rfl⟩
def iW(o a:af):af:=λe c=>(o e c).bind λx c=>match x with
 |.str w=>(a e c).bind λy c=>match y with
  |.str z=>if(z.length==0)=Γ/\w.length<=Ω/\(bO w z).length<=Ω then .ok (.lst ((bO w z).map D.str)) c else .bad
  |_=>.bad
 |_=>.bad
theorem Im{K:Δ}{ρ:List Ξ}{H:Hp}:∀ss:List Str,aM K ρ H (ss.map D.str) (ss.map V.str)
 |[]=>rfl
 |x::ss=>⟨_,_,rfl,rfl,Im ss⟩
theorem xQ{o e:ο}{dO da:af}{apos cpos:Pos}(ho:aY X o dO) (ha:aY X e da)
  (hbase:aaz o "split" X.env (eval o X.env)=eval o X.env:=by rfl)
  (hfew:((aab cpos (μ [e] X.env)).all (λx=>!x.1)&&(aaK cpos (aax [] X.env)).all (λx=>x.1.isSome)
   && decide ([e].length+([]:List aay).length+(if([]:List aay).isEmpty then 0 else 1)<30))=Θ:=by exact oF rfl)
  (hline:(apos.endLine==cpos.line)=Θ:=by rfl) (hs:μ [e] X.env=(Γ,eval e X.env)::μ [] X.env:=by exact bS rfl) (hplain:(aab cpos (μ [] X.env)).any (·.1)=Γ:=by exact g9 rfl) :
  aY X (.Call (.Attribute o "split" apos) [e] [] cpos) (iW dO da) :=
 (m9 ajZ PySem.F.slot_str_split PySem.F.type_str_split YJ ho (iF ha jC hs) hbase hfew hline hs hplain).imp λσ H Q h=>by
  obtain⟨ρ,e,c,W,V,p⟩:=h;refine⟨ρ,e,c,W,V,post.bind p λx c1 aI H1 v _ W1 X1 r1 p1=>?_⟩
  cases x with
  |str w =>
   cases(show v=L2.V.str w from r1)
   refine⟨rfl,aI,e,c1,W1,V.mono W X1,post.bind p1 λy c2 cN H2 u _ W2 X2 r2 p2=>?_⟩
   cases y with
   |str z =>
    cases(show u=L2.V.str z from r2)
    dsimp only at p2
    by_cases hh:(z.length==0)=Γ/\w.length<=Ω/\(bO w z).length<=Ω
    ·rw[if_pos hh]at p2;refine⟨w,z,rfl,rfl,hh.1,hh.2.1,hh.2.2,λa ha=>?_⟩
     exact p2 cN _ (.ref a) (W2.fresh ha) (Ext.fresh W2 ha) ⟨a,_,rfl,⟨by unfold upd;rw[if_pos rfl],W2.nil ha⟩,Im _⟩
    ·rw[if_neg hh]at p2;exact p2.elim
   |_=>exact p2.elim
  |_=>exact p1.elim
theorem BD{x y:Str}{t:Tok}{pos:Pos}(hg:Gl X x) (hm:X.mg x=ζ (.str y t)) (hd:(x==("__debug__":Str))=Γ:=by decide):aY X (.Name x pos) (dC (.str y)):=nc (BB (v:=.str y) hg hm ⟨t,rfl⟩ hd) λ_ _=>rfl
def fJ:List D->aa->R D:=λxs c=>match xs with
 |[.int i]=>if i.natAbs.log2<1920 then .ok (.str (toString i)) c else .bad
 |_=>.bad
theorem Ff:eF X (.type "str") (rN X.K fJ):=by
 intro pins s σ H vs us Q I rv h;obtain⟨ρ,xs,c,W,rx,p⟩:=h;unfold fJ at p;split at p
 ·rename_i i;obtain⟨v,r,rfl,hx,hr⟩:=rx;cases hr;cases hx
  by_cases hb:i.natAbs.log2<1920
  ·rw[if_pos hb]at p;exact adX pins s σ H _ us Q I rv ⟨i,rfl,hb,p.here W rfl⟩
  ·rw[if_neg hb]at p;exact p.elim
 ·exact p.elim
theorem F6:bootBuiltins "str"=ζ (.type "str"):=by decide +kernel
def eY:D->D->aa->R D:=λx y c=>match x,y with
 |.str z,.int i=>if z.length<=Ω then(match cM z.cps.toList i with|some ch=>.ok (.str ⟨#[ch]⟩) c|none=>.bad)else .bad
 |_,_=>.bad
theorem vt:qb X (r2 X.K eY):=by
 intro value slice pins s σ H x y v u Q I rx ry h hs;obtain⟨ρ,a,b,c,W,ra,rb,p⟩:=h;unfold eY at p;split at p
 ·rename_i z i;cases(show x=L2.V.str z from ra)
  cases(show y=L2.V.int i from rb)
  by_cases hl:z.length<=Ω
  ·rw[if_pos hl]at p;cases hat:cM z.cps.toList i with
   |none=>rw[hat]at p;exact p.elim
   |some ch =>
    rw[hat]at p;exact Z8 value slice pins s σ H _ _ v u Q I rx ry ⟨z,i,ch,rfl,rfl,hl,hat,p.here W rfl⟩ hs
  ·rw[if_neg hl]at p;exact p.elim
 ·exact p.elim
end
abbrev Pb:=SetTable.Probe
def ae7(m:Nat) (p:Pb):Pb:=if p.more>0 then{p with j:=p.j+1,more:=p.more-1}else{p with j:=(p.i*5+1+p.perturb/32) % (m+1),more:=SetTable.runEnd m ((p.i*5+1+p.perturb/32) % (m+1))-(p.i*5+1+p.perturb/32) % (m+1),i:=(p.i*5+1+p.perturb/32) % (m+1),perturb:=p.perturb/32}
def Kw(m:Nat):Nat->Pb->Pb
 |0,p=>p
 |n+1,p=>Kw m n (ae7 m p)
def SO(m i q:Nat):Pb:=⟨i,SetTable.runEnd m i-i,i,q,η⟩
def Qz(m:Nat) (h:Int):Pb:=SO m (SetTable.bits h % (m+1)) (SetTable.bits h)
def tX(m:Nat) (h:Int) (n:Nat):Nat:=(Kw m n (Qz m h)).j
def Reach(m:Nat) (P:Nat->Prop) (h:Int) (j:Nat):Prop:=∃n,n<10*(m+15)/\tX m h n=j/\∀k,k<n->P (tX m h k)
theorem Reach.mono{m:Nat}{P Q:Nat->Prop}{h:Int}{j:Nat}(r:Reach m P h j) (i:∀k,P k->Q k):Reach m Q h j :=
 let⟨n,h1,h2,h3⟩:=r;⟨n,h1,h2,λk hk=>i _ (h3 k hk)⟩
structure afw (h:Int):Prop where
 go:∀m,BH m->vL m (10*(m+15)) (SetTable.bits h % (m+1)) (SetTable.runEnd m (SetTable.bits h % (m+1))-SetTable.bits h % (m+1)) (SetTable.bits h % (m+1)) (SetTable.bits h) 0=Θ
 lay:∀m,VO m->Fb m (m+15) (SetTable.bits h % (m+1)) (SetTable.bits h) 0=Θ
structure Gk (t:SetTable) (es:Array (Int×Ψ)):Prop where
 size:t.place.size=es.size
 up:Up t.place.toList
 le:∀j∈t.place.toList,j<=t.mask
 dm:t.dummies=#[]
 mask:(t.mask=7/\es.size<=4)\/(t.mask=31/\es.size<=18)\/(t.mask=127/\es.size<=76)
 reach:∀q∈t.place.toList.zip es.toList,Reach t.mask (·∈t.place.toList) q.2.1 q.1
theorem Gk.ok{t:SetTable}{es:Array (Int×Ψ)}(I:Gk t es):BH t.mask:=by
 have:=I.mask;unfold BH;omega
structure LayT (mask:Nat) (owner:Array (Option Nat)) (hs:List Int) (k:Nat):Prop where
 lay:afk mask owner k
 way:∀j i,owner.toList.getD j η=ζ i->∃h,hs[i]? = ζ h/\Reach mask (λs=>owner.getD s (ζ 0)≠η) h j
def hT(ks:List Int):Int:=reduceHash (Builtin.Tuple.tupleHashOf (ks.map hashInt))
def nX(ks:List Int):Prop:=∃i j:Nat,i<8/\j<8/\ks=[(i:Int),(j:Int)]
def hP(n:Nat):Int:=hT [((n/8:Nat):Int),((n % 8:Nat):Int)]
def Jh(h:Int):Bool:=([7,31,127].all λm=>vL m (10*(m+15)) (SetTable.bits h % (m+1)) (SetTable.runEnd m (SetTable.bits h % (m+1))-SetTable.bits h % (m+1)) (SetTable.bits h % (m+1)) (SetTable.bits h) 0) && [31,127].all λm=>Fb m (m+15) (SetTable.bits h % (m+1)) (SetTable.bits h) 0
theorem ae4:((ε 64).all λn=>Jh (hP n))=Θ:=by decide +kernel
def eqZ(a b:Int):Bool:=match a,b with
 |.ofNat x,.ofNat y=>Nat.beq x y
 |.negSucc x,.negSucc y=>Nat.beq x y
 |_,_=>Γ
def yp(l:List Int):Bool:=match l with
 |[]=>Θ
 |x::r=>r.all (λy=>!eqZ x y)&&yp r
theorem LK(a:Int):eqZ a a=Θ:=by cases a<;>exact Nat.beq_refl _
theorem ae6:yp ((ε 64).map hP)=Θ:=by decide +kernel
theorem JB:∀{l:List Int},yp l=Θ->∀{i k:Nat}{x:Int},l[i]? = ζ x->l[k]? = ζ x->i=k
 |[],_,i,k,x,h,_=>by simp at h
 |y::r,h,i,k,x,h1,h2=>by
  unfold yp at h;rw[ahL,ahQ]at h;cases i with
  |zero =>
   cases k with
   |zero=>rfl
   |succ k =>
    have e:y=x:=by simpa using h1
    have:=h.1 x (ahP (by simpa using h2))
    rw[e,LK]at this;cases this
  |succ i =>
   cases k with
   |zero =>
    have e:y=x:=by simpa using h2
    have:=h.1 x (ahP (by simpa using h1))
    rw[e,LK]at this;cases this
   |succ k=>rw[JB h.2 (i:=i) (k:=k) (by simpa using h1) (by simpa using h2)]
theorem nX.num{ks:List Int}(h:nX ks):∃n,n<64/\ks=[((n/8:Nat):Int),((n % 8:Nat):Int)]:=by
 obtain⟨i,j,hi,hj,rfl⟩:=h;refine⟨8*i+j,by omega,?_⟩
 rw[show(8*i+j)/8=i by omega,show(8*i+j) % 8=j by omega]
theorem nX.vL{ks:List Int}(h:nX ks):afw (hT ks):=by
 obtain⟨n,hn,rfl⟩:=h.num;have:=ahQ.mp ae4 n (ahH.mpr hn);unfold Jh at this;rw[ahL,ahQ,ahQ]at this;refine⟨λm hm=>this.1 m ?_,λm hm=>this.2 m ?_⟩
 ·rcases hm with rfl|rfl|rfl<;>decide
 ·rcases hm with rfl|rfl<;>decide
theorem nX.inj{a b:List Int}(ha:nX a) (hb:nX b) (h:hT a=hT b):a=b:=by
 obtain⟨n,hn,rfl⟩:=ha.num;obtain⟨k,hk,rfl⟩:=hb.num;have h1:((ε 64).map hP)[n]? = ζ (hP n):=by rw[ahS,ai1 hn];rfl
 have h2:((ε 64).map hP)[k]? = ζ (hP n):=by
  rw[ahS,ai1 hk];exact congrArg ζ h.symm
 rw[JB ae6 h1 h2]
abbrev acf(q:List Int×Ξ):Int×Ψ:=(hT q.1,.ref q.2)
def Gp(P:τ) (w:ω) (Y:Ξ->Prop) (h:υ) (a:Ξ) (ks:List (List Int)):Prop:=∃o es ep t,∃L:List (List Int×Ξ),h.get? a=ζ o/\o.ExactSet/\o.data=.set es ep t/\Gk t es/\es.toList=L.map acf/\(∀q∈L,nX q.1/\IsTupleKey (intKind P w) h q.1 q.2)/\(L.map (·.1)).Perm ks/\∀q∈L,Y q.2
section
variable {prog:τ}{w:ω}{A:ψ}{s:ι}{E:Ψ->ι->Prop}
theorem IsTupleKey.at{h h':υ}{k:List Int}{y:Ξ}(x:IsTupleKey (intKind prog w) h k y) (e:∀o,h.get? y=ζ o->h'.get? y=ζ o):IsTupleKey (intKind prog w) h' k y :=
 let⟨o,it,n,h1,r⟩:=x;⟨o,it,n,e o h1,r⟩
theorem Gp.at{Y:Ξ->Prop}{h h':υ}{a:Ξ}{ks:List (List Int)}(x:Gp prog w Y h a ks) (k:∀b,(b=a\/Y b)->∀o,h.get? b=ζ o->h'.get? b=ζ o):Gp prog w Y h' a ks :=
 let⟨o,es,ep,t,L,ho,h1,h2,h3,h4,h5,h6,h7⟩:=x
 ⟨o,es,ep,t,L,k a (.inl rfl) o ho,h1,h2,h3,h4,λq hq=>⟨(h5 q hq).1,IsTupleKey.at (h5 q hq).2 (k q.2 (.inr (h7 q hq)))⟩,h6,h7⟩
end
def bg:D->Option (List Int)
 |.tup [.int i,.int j]=>if 0<=i/\i<8/\0<=j/\j<8 then ζ [i,j]else η
 |_=>η
theorem part_of{v:Ψ}{o:Option Int}(p:IsPart v o):∃l:Option (Int×Tok),v=partValue l/\l.map (λx=>x.fst)=o:=by
 cases p with
 |none=>exact⟨η,rfl,rfl⟩
 |int i t=>exact⟨ζ (i,t),rfl,rfl⟩
section
variable {X:Cx}
def Sh:V->Option Int->Option Int->Hp->VK->Prop:=λx lo hi H Q=>∃s,x=.str s/\s.length<=Ω/\Q (.str (Txt.slice s lo hi)) H
theorem QG:Gn X Sh:=by
 intro pins s σ H x v vl vu lo hi sl Q I rx hs pl pu h;obtain⟨y,rfl,hy,q⟩:=h;obtain⟨t,rfl⟩:=rx;have hle:=aj3 y lo hi;obtain⟨l,rfl,rfl⟩:=part_of pl;obtain⟨u,rfl,rfl⟩:=part_of pu;refine⟨"str",_,PySem.F.slot_str_getitem.lookup,ain s y t,?_⟩;refine wpAny_getItem_str_slice (l:=l) (u:=u) (st:=η) hs rfl ?_;unfold Txt.slice at q hle;unfold sliceMade slicePicked;split
 ·rename_i hc;have hc:((1:Int)==1&&(Builtin.Str.strSliceIndices (l.map λx=>x.fst) (u.map λx=>x.fst) 1 y.length).length==y.length)=Θ:=hc
  rw[if_pos hc]at q;exact⟨.str y,H,I,⟨t,rfl⟩,q⟩
 ·rename_i hc;have hc:¬(((1:Int)==1&&(Builtin.Str.strSliceIndices (l.map λx=>x.fst) (u.map λx=>x.fst) 1 y.length).length==y.length)=Θ):=hc
  rw[if_neg hc]at q hle;exact⟨ahB hle hy,.str _,H,I.tok _,⟨_,rfl⟩,q⟩
def fN(a:af) (lo hi:Ev->aa->R (Option Int)):af:=λe c=>(a e c).bind λx c=>(lo e c).bind λl c=>(hi e c).bind λu c=>match x with
 |.str s=>if s.length<=Ω then .ok (.str (Txt.slice s l u)) c else .bad
 |_=>.bad
theorem rL{e:ο}{lo hi:Option ο}{p2 pos:Pos}{da:af}{dl dh:Ev->aa->R (Option Int)}(he:aY X e da) (hl:t7 X lo dl) (hh:t7 X hi dh):aY X (.Subscript e (.Slice lo hi η p2) pos) (fN da dl dh) :=
 (IS QG he hl hh).imp λσ H Q h=>by
  obtain⟨ρ,e,c,W,Vv,p⟩:=h;refine⟨ρ,e,c,W,Vv,post.bind p λx c1 aI H1 v _ W1 X1 r1 p1=>⟨aI,e,c1,W1,Vv.mono W X1,post.bind p1 λl c2 cN H2 l' _ W2 X2 r2 p2=>⟨cN,e,c2,W2,(Vv.mono W X1).mono W1 X2,post.bind p2 λu c3 ug H3 u' _ W3 X3 r3 p3=>?_⟩⟩⟩
  cases r2;cases r3;have rx:=Rel.mono W1 (X2.trans X3) _ _ r1;split at p3
  ·cases rx;split at p3
   ·rename_i hl;exact⟨_,rfl,hl,p3.here W3 rfl⟩
   ·exact p3.elim
  ·exact p3.elim
def dQ:D->D->aa->R D:=λx y c=>match x,y with
 |.str i,.str j=>if i.length+j.length<=Ω then .ok (.str (i++j)) c else .bad
 |_,_=>.bad
theorem ng:bR X (binaryOp .Add) (r2 X.K dQ):=by
 intro pins s σ H v u vv uu Q I rv ru h;obtain⟨ρ,x,y,c,W,rx,ry,p⟩:=h;unfold dQ at p;split at p
 ·split at p
  ·rename_i hl;cases rx;cases ry;exact Jc pins s σ H _ _ vv uu Q I rv ru ⟨_,_,rfl,rfl,hl,p.here W rfl⟩
  ·exact p.elim
 ·exact p.elim
def kN:D->D->aa->R D:=λx y c=>match x,y with
 |.str i,.str j=>.ok (.bl (!(!(Builtin.Str.occurrences j i 0 j.length 1).isEmpty))) c
 |_,_=>.bad
theorem VY:bR X (compareOp .NotIn) (r2 X.K kN):=by
 intro pins s σ H v u vv uu Q I rv ru h;obtain⟨ρ,x,y,c,W,rx,ry,p⟩:=h;unfold kN at p;split at p
 ·cases rx;cases ry;exact U6 pins s σ H _ _ vv uu Q I rv ru ⟨_,_,rfl,rfl,p.here W rfl⟩
 ·exact p.elim
def Gw(x:Str):It:=⟨λi _=>i<x.cps.size,λi H v H'=>H'=H/\∃c,x.cps[i]? = ζ c/\v=.str ⟨#[c]⟩,λi _=>i=x.cps.size⟩
theorem PB{P:τ}{w:ω}{K:Δ}{tg:ο}(it:Ξ) (x:Str) (t:Tok):Turn P w K tg (Gw x) [it] it (λi h=>h.IsStrIter it "str_ascii_iterator" x t i) where
 mem:=by simp
 obj:=λi h st b hb=>by
  have e:b=it:=by simpa using hb
  subst e;obtain⟨o,e,c,d⟩:=st;exact⟨o,e,λv z=>by rw[d]at z;cases z⟩
 keep:=λi h h' st k=>by
  obtain⟨o,e,c,d⟩:=st;exact⟨o,k it (by simp) o e,c,d⟩
 item:=by
  intro X hP hw hK hc i pins s σ H E I hf st hg;subst hP hw hK;obtain⟨f0,f1,f2,f3,f4,f5⟩:=hf it (by simp)
  have W:=Walks.strAscii (prog:=X.prog) (w:=X.w) (I.ok.hd hc) it x t;refine W.item i s _ _ hg st λv h' tk hv st' kk=>?_
  obtain⟨c,u,hx,rfl⟩:=hv;have I1:Inv X pins σ H {s with heap:=h',toks:=tk}:=I.turned (λb o hb e=>kk b o (by simpa using hb) e) f0 f1 f3 f4 f5
  obtain⟨o,e,hcl,d⟩:=id st';exact⟨_,rfl,DH (s:={s with heap:=h',toks:=tk}) e hcl d (by decide) ⟨.str ⟨#[c]⟩,H,I1,⟨u,rfl⟩,⟨rfl,c,hx,rfl⟩,st',λb hb=>(hf b hb).1⟩⟩
 done:=by
  intro X hP hw hK hc i pins s σ H E I hf st hg;subst hP hw hK;obtain⟨f0,f1,f2,f3,f4,f5⟩:=hf it (by simp)
  have W:=Walks.strAscii (prog:=X.prog) (w:=X.w) (I.ok.hd hc) it x t;have hg:i=x.cps.size:=hg;subst hg;exact W.done s _ _ st λh' tk kk=>⟨rfl,I.turned (λb o hb e=>kk b o (by simpa using hb) e) f0 f1 f3 f4 f5⟩
 self:=λ_ _ _ _ _ st h=>wpAny_pyIter_striter_ascii st h
def aaq(tl:TE):TI:=λσ H R=>tl σ H λx H1=>∃s:Str,x=.str s/\(s.cps.all λc=>decide (c<128))=Θ/\R (Gw s) H1
theorem Ug{tg l:ο}{tl:TE}(hl:PE X l tl):PI X tg l (aaq tl):=by
 intro pins s σ H R I h;refine bE (hl pins s σ H _ I h) λv s1 ⟨x,H1,I1,r1,q1⟩=>?_
 obtain⟨y,e,ha,q⟩:=q1;subst e;obtain⟨t,rfl⟩:=r1;refine wpAny_pyIter_ascii ha ?_;refine⟨s1.heap.objs.size,[s1.heap.objs.size],_,_,H1,rfl,I1.kept (t':=s1.toks) λb o e=>ahs _ e,PB _ y t,⟨_,ahG _ rfl,rfl,rfl⟩,λb hb=>?_,q⟩
 have e:b=s1.heap.objs.size:=by simpa using hb
 subst e;exact I1.yV (ahn _) (I1.hok.fresh (ahn _))
def Bf(s:Str):List D:=s.cps.toList.map λc=>D.str ⟨#[c]⟩
theorem ZX{K:Δ}{ρ:List Ξ}{H:Hp}{s:Str}{st:aa->Prop}:JS K ρ H ⟨Bf s,st⟩ (Gw s):=by
 intro ρ' H' c' W E _ i;refine⟨λd hd=>?_,λe=>?_⟩
 ·have hd:(s.cps.toList.map λc=>D.str ⟨#[c]⟩)[i]? = ζ d:=hd
  rw[ahS]at hd;cases q:s.cps.toList[i]? with
  |none=>rw[q]at hd;cases hd
  |some c =>
   rw[q]at hd;cases hd;have hi:=(ahz.mp q).1;refine⟨show i<s.cps.size by simpa using hi,λx H2 hy=>?_⟩
   obtain⟨rfl,c',hc,rfl⟩:=hy;rw[<-Array.getElem?_toList,q]at hc;cases hc;exact⟨W,Ext.refl,rfl⟩
 ·show i=s.cps.size;rw[e];simp[Bf]
def pK(a:af):Ev->aa->R Src:=λe c=>(a e c).bind λx c=>match x with
 |.str s=>if(s.cps.all λc=>decide (c<128))=Θ then .ok ⟨Bf s,λ_=>True⟩ c else .bad
 |_=>.bad
theorem aap{tg l:ο}{dl:af}(hl:aY X l dl):PId X tg l (pK dl):=(Ug hl).imp λσ H Q h=>by
 obtain⟨ρ,e,c,W,V,p⟩:=h;refine⟨ρ,e,c,W,V,post.bind p λx c1 aI H1 v _ W1 X1 r1 p1=>?_⟩
 cases x with
 |str s =>
  cases r1;dsimp only at p1;split at p1
  ·rename_i ha;exact⟨s,rfl,ha,p1.here W1 ZX⟩
  ·exact p1.elim
 |_=>exact p1.elim
def pC:List D->aa->R D:=λxs c=>match xs with
 |[.str s]=>match intText? s with
  |some n=>if s.length<=640 then .ok (.int n) c else .bad
  |none=>.bad
 |_=>.bad
theorem adQ:eF X (.type "int") (rN X.K pC):=by
 intro pins s σ H vs us Q I rv h;obtain⟨ρ,xs,c,W,rx,p⟩:=h;unfold pC at p;split at p
 ·rename_i x;obtain⟨v,r,rfl,hv,hr⟩:=rx;cases hr;cases hv;obtain⟨u,rfl,t,rfl⟩:=vals1 rv;split at p
  ·rename_i n hn;split at p
   ·rename_i hl;exact PySem.W.KIN.call_text hn hl ⟨.int n,H,I.tok _,⟨_,rfl⟩,p.here W rfl⟩
   ·exact p.elim
  ·exact p.elim
 ·exact p.elim
end
end L2
namespace Ev
open PySem L2 PyProof.Rows
def top(i:Nat):aav:=PySem.Challenge.pw_evenwebs_k04_texts_of_no_web.main.body.getD i (.Pass ⟨0,0,0,0⟩)
abbrev rj:aav:=top 14
abbrev qZ:aav:=top 15
abbrev rm:aav:=top 18
abbrev rq:aav:=top 19
abbrev rB:aav:=top 20
abbrev qA:aav:=top 21
abbrev qz:aav:=top 22
abbrev oJ:aav:=top 23
abbrev qY:aav:=top 27
abbrev rA:aav:=top 28
abbrev qC:aav:=top 29
abbrev qB:aav:=top 30
abbrev qT:aav:=top 32
abbrev qM:aav:=top 33
abbrev qI:aav:=top 34
abbrev qO:aav:=top 35
abbrev qS:aav:=top 36
abbrev qJ:aav:=top 37
abbrev qP:aav:=top 38
abbrev qN:aav:=top 39
abbrev qQ:aav:=top 40
abbrev qG:aav:=top 41
abbrev qW:aav:=top 42
abbrev qU:aav:=top 43
abbrev qL:aav:=top 44
abbrev qD:aav:=top 45
abbrev qK:aav:=top 46
abbrev qH:aav:=top 47
abbrev qV:aav:=top 48
abbrev qE:aav:=top 49
abbrev qR:aav:=top 50
abbrev qF:aav:=top 51
abbrev qX:aav:=top 52
def Zc(st:aav):ο:=match(cF st).getLast? with
 |some (.Return (ζ (.Call _ [_,e] _ _)) _)=>e
 |_=>.Name "" ⟨0,0,0,0⟩
def oj:ο:=Zc oJ
def eW:List Str:=["NoWeb","NoText","NoNumbers","NoField","NoThing","NoSquare","NoPlaces","TooMany","NoName","NoDeed","NoRow"]
def pV:ah :=
 (aP (fY (aF bN (ao (ak 0) (ao (dC (.ty "int")) aq))) (jN (aF bN (ao (ak 0) (ao (dC (.ty "bool")) aq))))))
def yz:List D->aa->R D:=cB 1 Γ pV
def pU:ah :=
 (aP (fY (aC 1 yz (ao (ak 0) aq)) (E9 B4 B4 (ak 1) (ak 0) (ak 2))))
def yy:List D->aa->R D:=cB 3 Γ pU
def pW:ah :=
 (aP (aC 3 yy (ao (ak 0) (ao (dC (.int 0)) (ao (au g8 (ak 1) (dC (.int 1))) aq)))))
def o4:List D->aa->R D:=cB 2 Γ pW
def tU:ah :=
 (aD (bz (fG (eO (aJ (aF bN (ao (ak 0) (ao (dC (.ty "tuple")) aq))))) (aJ (au cU (aF aT (ao (ak 0) aq)) (dC (.int 2))))) (aP (dC (.bl Γ))) bL) (aP (fY (aC 2 o4 (ao (au aG (ak 0) (dC (.int 0))) (ao (ak 1) aq))) (fY (aC 2 o4 (ao (au aG (ak 0) (dC (.int 1))) (ao (ak 1) aq))) (au cU (au aG (ak 0) (dC (.int 0))) (au aG (ak 0) (dC (.int 1))))))))
def rZ:List D->aa->R D:=cB 2 Γ tU
def tV:ah :=
 (aP (fY (aF bN (ao (ak 0) (ao (dC (.ty "list")) aq))) (aF gS (ao (br (cS (ak 0)) [η,ζ 1] (az 0) aW (aC 2 rZ (ao (ak 0) (ao (ak 1) aq)))) aq))))
def r8:List D->aa->R D:=cB 2 Γ tV
def nv:af :=
 (au yI (cX (ao (ak 0) (ao (ak 1) aq))) (ak 2))
def lams:List (ο×List Str×(List D->aa->R D)):=[(oj,["joined"],yF nv)]
def tF:ah :=
 (aP (aF gf (ao (br (bG (ao (ak 0) aq)) [η,ζ 1,ζ 2] (az 0) (kh (aJ (au cU (ak 0) (ak 1))) (aJ (pL 2 2 lams (ao (ak 1) (ao (ak 0) aq))))) (ak 0)) aq)))
def iH:List D->aa->R D:=cB 3 Γ tF
def tw:ah :=
 (aP (aF gf (ao (br (bG (ao (ak 0) aq)) [η,ζ 0,ζ 1] (az 0) aW (aC 3 iH (ao (ak 1) (ao (ak 0) (ao (ak 2) aq))))) aq)))
def j6:List D->aa->R D:=cB 2 Γ tw
def tE:ah :=
 (aD (bz (eO (aJ (aC 2 r8 (ao (ak 1) (ao (ak 0) aq))))) je bL) (aD (mZ 1 2 3) (aP (sN 0 j6 (ak 0) oj ["joined"] [2]))))
def vf:List D->aa->R D:=cB 4 Γ tE
def tT:ah :=
 (aP (fY (au bT (aF aT (ao (ak 0) aq)) (ak 1)) (au bT (au aX (jO (ak 0) (dC (.str "#"))) (jO (ak 0) (dC (.str ".")))) (ak 1))))
def oZ:List D->aa->R D:=cB 2 Γ tT
def lH:ah :=
 (aD (aE 1 (aF aT (ao (ak 0) aq))) (aD (bz (fG (aJ (au gX (ak 1) (dC (.int 50)))) (aJ (au cU (au aG (ak 0) (dC (.int 0))) (aF fJ (ao (ak 1) aq))))) (aP (dC (.bl Γ))) bL) (aP (aF gS (ao (br (cY (ao (dC (.int 1)) (ao (ak 1) aq))) [η,ζ 0] (az 0) aW (aC 2 oZ (ao (au aG (ak 1) (ak 0)) (ao (ak 0) aq)))) aq)))))
def nu:List D->aa->R D:=cB 2 Γ lH
def nS:ah :=
 (aD (aE 1 (er aq)) (aD (bU (cY (ao (dC (.int 1)) (ao (aF aT (ao (ak 0) aq)) aq))) (az 2) (dS (d8 (ak 1) (br (bG (ao (ak 2) aq)) [η,ζ 2,ζ 0] (az 0) (aJ (au bT (au eY (au aG (ak 2) (ak 1)) (ak 0)) (dC (.str "#")))) (cX (ao (ak 0) (ao (ak 1) aq))))))) (aP (ak 1))))
def vg:List D->aa->R D:=cB 3 Γ nS
def lE:ah :=
 (aD (bz (eO (aJ (aF bN (ao (ak 0) (ao (dC (.ty "str")) aq))))) je bL) (aD (aE 1 (iW (ak 0) (dC (.str " ")))) (aD (bz (eO (aJ (aC 1 nu (ao (ak 1) aq)))) je bL) (aP (aC 2 vf (ao (aF aT (ao (ak 1) aq)) (ao (aC 1 vg (ao (ak 1) aq)) aq)))))))
def j7:List D->aa->R D:=cB 2 Γ lE
def vQ:Xd :=
 (uq (ur (eO (aJ (aF bN (ao (ak 0) (ao (dC (.ty "str")) aq))))) (uv "NoText") wN) (wL (bz (eO (aJ (aF bN (ao (ak 0) (ao (dC (.ty "str")) aq))))) je bL) (wL (aE 1 (iW (ak 0) (dC (.str " ")))) (ur (eO (aJ (aC 1 nu (ao (ak 1) aq)))) (uv "NoText") wN))))
def qe:List D->aa->R Str:=fnX 2 vQ
def pS:ah :=
 (aD (bz (aJ (au jG (ak 1) (aF aT (ao (ak 0) aq)))) (aP (au aG (ak 0) (ak 1))) bL) (aP (dC (.int 0))))
def nt:List D->aa->R D:=cB 2 Γ pS
def pR:ah :=
 (aD (bz (aJ (au Lj (ak 0) (au rH (dC (.int 10)) (dC (.int 18))))) (aP (er (ao (au g8 (ak 0) (au rH (dC (.int 10)) (dC (.int 18)))) aq))) bL) (aD (aE 1 (dC (.int 0))) (aD (bU (bG (ao (dC (.int 64)) aq)) (az 2) (aD (aE 3 (au cV (au eB (au aX (au aX (au cV (ak 0) (dC (.int 2147483629))) (au eB (dC (.int 7919)) (ak 2))) (dC (.int 1))) (dC (.int 48271))) (dC (.int 2147483647)))) (aD (aE 3 (au cV (au aX (au aX (au eB (ak 3) (ak 3)) (au eB (dC (.int 69621)) (ak 2))) (dC (.int 7))) (dC (.int 2147483587)))) (aE 1 (au aX (au eB (ak 1) (dC (.int 2147483587))) (ak 3)))))) (aP (er (ao (ak 1) aq))))))
def nj:List D->aa->R D:=cB 4 Θ pR
def pQ:ah :=
 (aD (aE 2 (au cV (au aG (ak 0) (dC (.int 0))) (ak 1))) (aD (fS (au fq (au aG (ak 0) (dC (.int 0))) (ak 1)) (fV (ak 0) (dC (.int 0)))) (aP (ak 2))))
def aS:List D->aa->R D:=cB 3 Γ pQ
def tM:ah :=
 (aD (aE 2 (er aq)) (aD (bU (bG (ao (ak 1) aq)) (az 3) (dS (vJ (ak 2) (aC 2 aS (ao (ak 0) (ao (au aX (ak 3) (dC (.int 1))) aq))) (ak 3)))) (aP (aF gf (ao (ak 2) aq)))))
def nk:List D->aa->R D:=cB 4 Γ tM
def tQ:ah :=
 (aD (aE 2 (br (bG (ao (ak 0) aq)) [η,ζ 0] (az 0) aW (au iP (bx (ao (dC (.bl Γ)) aq)) (ak 1)))) (aD (bU (cS (ak 1)) (gY 2 (eg (az 3) (eg (az 4) iu))) (aD (fS (dC (.bl Θ)) (fV (au aG (ak 2) (ak 3)) (ak 4))) (fS (dC (.bl Θ)) (fV (au aG (ak 2) (ak 4)) (ak 3))))) (aP (ak 2))))
def jF:List D->aa->R D:=ly 5 tQ
def tK:ah :=
 (aD (aE 2 (au aX (dC (.int 1)) (aC 2 aS (ao (ak 0) (ao (ak 1) aq))))) (aD (aE 3 (au aX (dC (.int 1)) (aC 2 aS (ao (ak 0) (ao (dC (.int 5)) aq))))) (aD (aE 4 (er aq)) (aD (bU (bG (ao (ak 2) aq)) (az 5) (dS (d8 (ak 4) (br (cY (ao (au aX (ak 5) (dC (.int 1))) (ao (ak 2) aq))) [η,ζ 5,ζ 3,ζ 0] (az 0) (aJ (au jG (aC 2 aS (ao (ak 3) (ao (dC (.int 6)) aq))) (ak 2))) (cX (ao (ak 1) (ao (ak 0) aq))))))) (aP (aC 2 jF (ao (ak 2) (ao (ak 4) aq))))))))
def kU:List D->aa->R D:=cB 6 Γ tK
def tN:ah :=
 (aD (aE 2 (er aq)) (aD (bU (bG (ao (ak 0) aq)) (az 3) (bU (cY (ao (au aX (ak 3) (dC (.int 1))) (ao (ak 0) aq))) (az 4) (bz (aJ (aF pY (ao (br (cS (au aG (ak 1) (ak 3))) [η,ζ 1,ζ 4] (az 0) aW (au inD (ak 0) (au aG (ak 1) (ak 2)))) aq))) (dS (lB (ak 2) (cX (ao (ak 3) (ao (ak 4) aq))))) bL))) (aP (ak 2))))
def j9:List D->aa->R D:=cB 5 Γ tN
def tL:ah :=
 (aD (aE 2 (aC 2 aS (ao (ak 0) (ao (dC (.int 6)) aq)))) (aD (aE 3 (au aX (dC (.int 1)) (aC 2 aS (ao (ak 0) (ao (ak 1) aq))))) (aD (aE 4 (er aq)) (aD (bz (aJ (au bT (ak 2) (dC (.int 0)))) (aD (aE 5 (br (cY (ao (dC (.int 1)) (ao (au aX (au fq (ak 3) (dC (.int 2))) (dC (.int 1))) aq))) [η,ζ 0] (az 0) (aJ (au bT (aC 2 aS (ao (ak 1) (ao (dC (.int 2)) aq))) (dC (.int 1)))) (ak 0))) (bU (cS (ak 5)) (az 6) (dS (d8 (ak 4) (br (bG (ao (ak 3) aq)) [η,ζ 3,ζ 6] (az 0) aW (cX (ao (ak 0) (ao (au cV (au aX (ak 0) (ak 2)) (ak 1)) aq)))))))) (bz (aJ (au bT (ak 2) (dC (.int 1)))) (aD (aE 7 (au aG (bx (ao (dC (.int 2)) (ao (dC (.int 3)) (ao (dC (.int 4)) (ao (dC (.int 5)) aq))))) (aC 2 aS (ao (ak 0) (ao (dC (.int 4)) aq))))) (aD (aE 8 (er aq)) (aD (bU (bG (ao (ak 7) aq)) (az 9) (dS (d8 (ak 8) (br (cY (ao (au aX (ak 9) (dC (.int 1))) (ao (ak 7) aq))) [η,ζ 9] (az 0) aW (bx (ao (ak 1) (ao (ak 0) aq))))))) (aD (aE 3 (aF fM (ao (aF aT (ao (ak 8) aq)) (ao (ak 1) aq)))) (aE 4 (aC 2 j9 (ao (ak 3) (ao (ak 8) aq)))))))) (bz (aJ (au jG (ak 2) (dC (.int 4)))) (aD (aE 10 (au aX (dC (.int 1)) (aC 2 aS (ao (ak 0) (ao (aF fM (ao (dC (.int 4)) (ao (ak 1) aq))) aq))))) (aD (aE 11 (au aX (dC (.int 1)) (aC 2 aS (ao (ak 0) (ao (aF fM (ao (dC (.int 4)) (ao (au fq (ak 1) (ak 10)) aq))) aq))))) (aD (aE 3 (au eB (ak 10) (ak 11))) (aD (aE 8 (br (bG (ao (ak 3) aq)) [η,ζ 11] (az 0) aW (bx (ao (au fq (ak 0) (ak 1)) aq)))) (aD (bz (aJ (au bT (ak 2) (dC (.int 2)))) (aE 8 (br (bG (ao (ak 3) aq)) [η,ζ 11] (az 0) aW (bx (ao (au fq (ak 0) (ak 1)) (ao (au aX (dC (.int 10)) (au cV (ak 0) (ak 1))) aq))))) bL) (aE 4 (aC 2 j9 (ao (ak 3) (ao (ak 8) aq))))))))) (bz (aJ (au bT (ak 2) (dC (.int 4)))) (aD (aE 3 (aF fM (ao (ak 1) (ao (au aG (bx (ao (dC (.int 5)) (ao (dC (.int 13)) aq))) (aC 2 aS (ao (ak 0) (ao (dC (.int 2)) aq)))) aq)))) (aD (aE 12 (br (cY (ao (dC (.int 1)) (ao (ak 3) aq))) [η,ζ 3] (az 0) aW (au cV (au eB (ak 0) (ak 0)) (ak 1)))) (bU (bG (ao (ak 3) aq)) (az 9) (dS (d8 (ak 4) (br (cY (ao (au aX (ak 9) (dC (.int 1))) (ao (ak 3) aq))) [η,ζ 9,ζ 12,ζ 3] (az 0) (aJ (au inD (au cV (au g8 (ak 0) (ak 1)) (ak 3)) (ak 2))) (cX (ao (ak 1) (ao (ak 0) aq))))))))) (aD (aE 3 (aF fM (ao (dC (.int 8)) (ao (ak 1) aq)))) (aD (bU (bG (ao (ak 3) aq)) (az 9) (dS (d8 (ak 4) (br (cY (ao (au aX (ak 9) (dC (.int 1))) (ao (ak 3) aq))) [η,ζ 9] (az 0) (aJ (au inD (au g8 (ak 0) (ak 1)) (cX (ao (dC (.int 1)) (ao (dC (.int 2)) (ao (dC (.int 4)) aq)))))) (cX (ao (ak 1) (ao (ak 0) aq))))))) (aE 4 (br (cS (ak 4)) [η,η] (gY 2 (eg (az 0) (eg (az 1) iu))) (aJ (au bT (au vV (ak 0) (ak 1)) (ak 0))) (cX (ao (ak 0) (ao (ak 1) aq))))))))))) (aP (aC 2 jF (ao (ak 3) (ao (ak 4) aq))))))))
def kW:List D->aa->R D:=cB 13 Γ tL
def tO:ah :=
 (aD (aE 2 (aF aT (ao (ak 0) aq))) (aD (aE 3 (br (bG (ao (ak 2) aq)) [η,ζ 2] (az 0) aW (au iP (bx (ao (dC (.bl Γ)) aq)) (ak 1)))) (aD (bU (bG (ao (ak 2) aq)) (az 4) (bU (bG (ao (ak 2) aq)) (az 5) (fS (au aG (au aG (ak 0) (ak 4)) (ak 5)) (fV (au aG (ak 3) (au aG (ak 1) (ak 4))) (au aG (ak 1) (ak 5)))))) (aP (ak 3)))))
def oX:List D->aa->R D:=ly 6 tO
def tH:ah :=
 (aD (aE 3 (br (cS (ak 0)) [η] (az 0) aW (aF o7 (ao (ak 0) aq)))) (aD (fS (jN (au aG (au aG (ak 3) (ak 1)) (ak 2))) (fV (au aG (ak 3) (ak 1)) (ak 2))) (aD (fS (jN (au aG (au aG (ak 3) (ak 2)) (ak 1))) (fV (au aG (ak 3) (ak 2)) (ak 1))) (aP (ak 3)))))
def j8:List D->aa->R D:=ly 4 tH
def tS:ah :=
 (aD (aE 1 (aF aT (ao (ak 0) aq))) (aP (br (bG (ao (ak 1) aq)) [η,ζ 1,ζ 0] (az 0) aW (br (bG (ao (ak 1) aq)) [η,ζ 0,ζ 2] (az 0) aW (fY (au cU (ak 1) (ak 0)) (jN (au aG (au aG (ak 2) (ak 1)) (ak 0))))))))
def kX:List D->aa->R D:=cB 2 Γ tS
def tR:ah :=
 (aD (bz (aJ (au jG (aC 2 aS (ao (ak 0) (ao (dC (.int 5)) aq))) (dC (.int 2)))) (aE 2 (aC 2 kU (ao (ak 0) (ao (ak 1) aq)))) (aE 2 (aC 2 kW (ao (ak 0) (ao (ak 1) aq))))) (aD (aE 3 (aF aT (ao (ak 2) aq))) (aD (bz (aJ (au bT (aC 2 aS (ao (ak 0) (ao (dC (.int 3)) aq))) (dC (.int 0)))) (aE 2 (aC 1 kX (ao (ak 2) aq))) bL) (aD (bz (kh (aJ (au gX (ak 3) (dC (.int 1)))) (aJ (au bT (aC 2 aS (ao (ak 0) (ao (dC (.int 4)) aq))) (dC (.int 0))))) (aD (aE 4 (aC 2 aS (ao (ak 0) (ao (ak 3) aq)))) (aE 2 (aC 3 j8 (ao (ak 2) (ao (ak 4) (ao (au cV (au aX (au aX (ak 4) (dC (.int 1))) (aC 2 aS (ao (ak 0) (ao (au g8 (ak 3) (dC (.int 1))) aq)))) (ak 3)) aq)))))) bL) (aP (aC 2 oX (ao (ak 2) (ao (aC 2 nk (ao (ak 0) (ao (ak 3) aq))) aq))))))))
def oY:List D->aa->R D:=cB 5 Γ tR
def nT:ah :=
 (aP (aF gf (ao (br (cS (ak 0)) [η,ζ 0] (az 0) aW (aF gf (ao (br (bG (ao (aF aT (ao (ak 1) aq)) aq)) [η,ζ 0] (az 0) (aJ (au aG (ak 1) (ak 0))) (ak 0)) aq))) aq)))
def fU:List D->aa->R D:=cB 1 Γ nT
def tG:ah :=
 (aP (fY (aF bN (ao (ak 0) (ao (dC (.ty "int")) aq))) (jN (aF bN (ao (ak 0) (ao (dC (.ty "bool")) aq))))))
def yv:List D->aa->R D:=cB 1 Γ tG
def lG(m:List D->aa->R D):ah :=
 (aD (bz (aJ (au jh (ak 1) (dC .aH))) (aP (au jh (ak 0) (dC .aH))) bL) (aD (bz (aJ (aF bN (ao (ak 1) (ao (dC (.ty "bool")) aq)))) (aP (fY (aF bN (ao (ak 0) (ao (dC (.ty "bool")) aq))) (au bT (ak 0) (ak 1)))) bL) (aD (bz (aJ (aF bN (ao (ak 1) (ao (dC (.ty "int")) aq)))) (aP (fY (aC 1 yv (ao (ak 0) aq)) (au bT (ak 0) (ak 1)))) bL) (aD (bz (aJ (aF bN (ao (ak 1) (ao (dC (.ty "str")) aq)))) (aP (fY (aF bN (ao (ak 0) (ao (dC (.ty "str")) aq))) (au bT (ak 0) (ak 1)))) bL) (aD (bz (fG (aJ (au cU (aF bN (ao (ak 1) (ao (dC (.ty "tuple")) aq))) (aF bN (ao (ak 0) (ao (dC (.ty "tuple")) aq))))) (aJ (au cU (aF bN (ao (ak 1) (ao (dC (.ty "list")) aq))) (aF bN (ao (ak 0) (ao (dC (.ty "list")) aq)))))) (aP (dC (.bl Γ))) bL) (aP (fY (au bT (aF aT (ao (ak 0) aq)) (aF aT (ao (ak 1) aq))) (aF gS (ao (br (vI (ao (ak 0) (ao (ak 1) aq))) [η,η] (gY 2 (eg (az 0) (eg (az 1) iu))) aW (aC 2 m (ao (ak 0) (ao (ak 1) aq)))) aq)))))))))
def eN:Nat->List D->aa->R D
 |0=>λ_ _=>.bad
 |k+1=>cB 2 Γ (lG (eN k))
def pP:ah :=
 (aD (aE 1 (er (ao (aF fJ (ao (aF aT (ao (ak 0) aq)) aq)) aq))) (aD (bU (cY (ao (dC (.int 1)) (ao (aF aT (ao (ak 0) aq)) aq))) (az 2) (dS (lB (ak 1) (fO (dC (.str "")) (br (cS (dW (au aG (ak 0) (ak 2)) cz (cy (ak 2)))) [η] (az 0) aW (au eY (dC (.str ".#")) (aF pD (ao (ak 0) aq)))))))) (aP (fO (dC (.str " ")) (ak 1)))))
def rY:List D->aa->R D:=cB 3 Γ pP
def nU:ah :=
 (aD (aE 4 (aC 2 aS (ao (ak 0) (ao (au aX (aF aT (ao (ak 1) aq)) (dC (.int 1))) aq)))) (aD (aE 5 (au eY (ak 2) (aC 2 aS (ao (ak 0) (ao (aF aT (ao (ak 2) aq)) aq))))) (aD (aE 6 (iW (ak 1) (dC (.str " ")))) (aD (aE 7 (aC 2 aS (ao (ak 0) (ao (aF aT (ao (ak 6) aq)) aq)))) (aD (aE 8 (au aG (ak 3) (aC 2 aS (ao (ak 0) (ao (aF aT (ao (ak 3) aq)) aq))))) (aD (aE 9 (bx (ao (ak 1) (ao (au dQ (au dQ (fN (ak 1) cz (cy (ak 4))) (ak 5)) (fN (ak 1) (cy (ak 4)) cz)) (ao (au dQ (fN (ak 1) cz (cy (ak 4))) (fN (ak 1) (cy (au aX (ak 4) (dC (.int 1)))) cz)) (ao (au dQ (au dQ (fN (ak 1) cz (cy (ak 4))) (ak 5)) (fN (ak 1) (cy (au aX (ak 4) (dC (.int 1)))) cz)) aq)))))) (aD (aE 9 (au c7 (ak 9) (bx (ao (fO (dC (.str " ")) (au c7 (dW (ak 6) cz (cy (ak 7))) (dW (ak 6) (cy (au aX (ak 7) (dC (.int 1)))) cz))) (ao (fO (dC (.str " ")) (au c7 (dW (ak 6) cz (cy (au aX (ak 7) (dC (.int 1))))) (dW (ak 6) (cy (ak 7)) cz))) (ao (ak 8) aq)))))) (aD (aE 9 (au c7 (ak 9) (bx (ao (au dQ (dC (.str " ")) (ak 1)) (ao (au dQ (ak 1) (dC (.str " "))) (ao (fO (dC (.str " ")) (au c7 (au c7 (dW (ak 6) cz (cy (ak 7))) (bx (ao (ak 8) aq))) (dW (ak 6) (cy (au aX (ak 7) (dC (.int 1)))) cz))) (ao (au dQ (ak 1) (ak 5)) aq))))))) (aP (au aG (ak 9) (aC 2 aS (ao (ak 0) (ao (aF aT (ao (ak 9) aq)) aq)))))))))))))
def vh:List D->aa->R D:=cB 10 Γ nU
def kj:ah :=
 (aD (aE 1 (iW (ak 0) (dC (.str " ")))) (aD (bz (fG (aJ (au nh (au aG (ak 1) (dC (.int 0))) (br (cY (ao (dC (.int 1)) (ao (dC (.int 51)) aq))) [η] (az 0) aW (aF fJ (ao (ak 0) aq))))) (aJ (au cU (aF pC (ao (au aG (ak 1) (dC (.int 0))) aq)) (aF aT (ao (ak 1) aq))))) (aP (dC .aH)) bL) (aD (aE 2 (br (cS (ak 1)) [η,ζ 1] (az 0) aW (au iP (bx (ao (dC (.bl Γ)) aq)) (aF aT (ao (ak 1) aq))))) (aD (bU (cY (ao (dC (.int 1)) (ao (aF aT (ao (ak 1) aq)) aq))) (az 3) (aD (bz (fG (aJ (au cU (aF aT (ao (au aG (ak 1) (ak 3)) aq)) (ak 3))) (aJ (au kP (br (pK (au aG (ak 1) (ak 3))) [η] (az 0) (aJ (au kN (ak 0) (dC (.str ".#")))) (ak 0)) (bx aq)))) (aP (dC .aH)) bL) (bU (bG (ao (ak 3) aq)) (az 4) (aD (fS (au bT (au eY (au aG (ak 1) (ak 3)) (ak 4)) (dC (.str "#"))) (fV (au aG (ak 2) (ak 3)) (ak 4))) (fS (au bT (au eY (au aG (ak 1) (ak 3)) (ak 4)) (dC (.str "#"))) (fV (au aG (ak 2) (ak 4)) (ak 3))))))) (aP (aC 1 fU (ao (ak 2) aq)))))))
def rX:List D->aa->R D:=cB 5 Γ kj
def tP:ah :=
 (aD (aE 1 (bx (ao (aF (gw eW) (ao (ak 0) (ao (dC (.fn "NoDeed" 0)) aq))) (ao (aF (gw eW) (ao (ak 0) (ao (dC (.fn "NoField" 0)) aq))) (ao (aF (gw eW) (ao (ak 0) (ao (dC (.fn "NoName" 0)) aq))) (ao (aF (gw eW) (ao (ak 0) (ao (dC (.fn "NoNumbers" 0)) aq))) aq)))))) (aD (aE 1 (au c7 (ak 1) (bx (ao (aF (gw eW) (ao (ak 0) (ao (dC (.fn "NoPlaces" 0)) aq))) (ao (aF (gw eW) (ao (ak 0) (ao (dC (.fn "NoRow" 0)) aq))) (ao (aF (gw eW) (ao (ak 0) (ao (dC (.fn "NoSquare" 0)) aq))) (ao (aF (gw eW) (ao (ak 0) (ao (dC (.fn "NoText" 0)) aq))) aq))))))) (aD (aE 1 (au c7 (ak 1) (bx (ao (aF (gw eW) (ao (ak 0) (ao (dC (.fn "NoThing" 0)) aq))) (ao (aF (gw eW) (ao (ak 0) (ao (dC (.fn "NoWeb" 0)) aq))) (ao (aF (gw eW) (ao (ak 0) (ao (dC (.fn "TooMany" 0)) aq))) aq)))))) (aD (bz (fG (aJ (au cU (E8 (ak 1) (dC (.bl Θ))) (dC (.int 1)))) (eO (aJ (aF (gw eW) (ao (ak 0) (ao (dC (.ty "ValueError")) aq)))))) (aP (dC (.str "other"))) bL) (aD (aE 2 (bx (ao (dC (.str "deed")) (ao (dC (.str "field")) (ao (dC (.str "name")) (ao (dC (.str "numbers")) (ao (dC (.str "places")) (ao (dC (.str "row")) (ao (dC (.str "square")) (ao (dC (.str "text")) (ao (dC (.str "thing")) (ao (dC (.str "web")) (ao (dC (.str "many")) aq))))))))))))) (aP (au aG (ak 2) (E7 (ak 1) (dC (.bl Θ))))))))))
def yw:List D->aa->R D:=cB 3 Γ tP
def lF:ah :=
 (rC eW 1 2 (aP (aC 1 j7 (ao (ak 0) aq))) (wM 1 qe (ao (ak 0) aq)) (aC 1 yw (ao (ak 1) aq)))
def eL:List D->aa->R D:=cB 2 Γ lF
def pT:ah :=
 (aD (bU (bG (ao (aF rW (ao (dC (.int 1)) (ao (aF fM (ao (aF aT (ao (ak 0) aq)) (ao (dC (.int 40)) aq))) aq))) aq)) (az 1) (aD (aE 2 (aC 1 nj (ao (aC 2 nt (ao (ak 0) (ao (ak 1) aq))) aq))) (aD (aE 3 (aC 2 oY (ao (ak 2) (ao (dC (.int 8)) aq)))) (aD (aE 4 (aC 1 rY (ao (ak 3) aq))) (aD (aE 5 (bx (ao (dC (.str "")) (ao (dC (.str "0")) (ao (dC (.str "51")) (ao (dC (.str "2")) (ao (dC (.str "2 #")) (ao (dC (.str "2 ##")) (ao (dC (.str "02 #")) (ao (dC (.str "3 #")) (ao (dC (.str "3 # #")) (ao (dC (.str "-1")) (ao (dC (.str "1 ")) (ao (dC (.str ".")) (ao (dC (.str "#")) aq))))))))))))))) (aD (aE 5 (au c7 (ak 5) (bx (ao (dC (.str "3 # .# #..")) (ao (dC (.str "1.0")) (ao (dC (.str "2 x")) aq)))))) (aD (bU (bG (ao (dC (.int 2)) aq)) (az 6) (aD (aE 7 (aC 4 vh (ao (ak 2) (ao (ak 4) (ao (dC (.str " .#0123456789x\n")) (ao (ak 5) aq)))))) (aD (aE 8 (aC 1 rX (ao (ak 7) aq))) (aD (bz (aJ (au jh (ak 8) (dC .aH))) (aE 8 (dC (.str "text"))) bL) (bz (eO (aJ (aC 2 (eN 3) (ao (aC 1 eL (ao (ak 7) aq)) (ao (ak 8) aq))))) (aP (dC (.bl Γ))) bL))))) (aD (aE 9 (au aG (bx (ao (dC .aH) (ao (dC (.int 2)) (ao (dC (.bl Θ)) (ao (bx (ao (ak 4) aq)) (ao (cX (ao (ak 4) aq)) (ao sM (ao (aC 1 fU (ao (ak 3) aq)) aq)))))))) (aC 2 aS (ao (ak 2) (ao (dC (.int 7)) aq))))) (bz (fG (aJ (au cU (aC 1 eL (ao (ak 9) aq)) (dC (.str "text")))) (eO (aJ (aC 2 (eN 3) (ao (aC 1 eL (ao (ak 4) aq)) (ao (aC 1 fU (ao (ak 3) aq)) aq)))))) (aP (dC (.bl Γ))) bL))))))))) (aP (au bT (aC 1 eL (ao (dC (.str "")) aq)) (dC (.str "text")))))
def yx:List D->aa->R D:=cB 10 Γ pT
set_option genInjectivity false in
set_option genSizeOfSpec false in
structure Tx (K:Δ) (mg:Str->Option Ψ) where
 mq:Ξ
 Em:ν
 EZ:Def K mg "is_whole" rj ["thing"] mq Em
 Yv:θ K ξ "is_whole"=ζ (ζ (.ref mq))
 mj:Ξ
 El:ν
 EY:Def K mg "is_whole_within" qZ ["thing","least","most"] mj El
 Yu:θ K ξ "is_whole_within"=ζ (ζ (.ref mj))
 mw:Ξ
 Eo:ν
 zO:Def K mg "is_place" rm ["thing","many"] mw Eo
 Yw:θ K ξ "is_place"=ζ (ζ (.ref mw))
 mz:Ξ
 Ep:ν
 E5:Def K mg "is_pair" rq ["thing","many"] mz Ep
 Yx:θ K ξ "is_pair"=ζ (ζ (.ref mz))
 mD:Ξ
 Es:ν
 E6:Def K mg "are_pairs" rB ["thing","many"] mD Es
 Yz:θ K ξ "are_pairs"=ζ (ζ (.ref mD))
 lK:Ξ
 DV:ν
 EF:Def K mg "row_where" qA ["many","one","are_tied"] lK DV
 XW:θ K ξ "row_where"=ζ (ζ (.ref lK))
 lI:Ξ
 DT:ν
 ED:Def K mg "web_where" qz ["many","are_tied"] lI DT
 XU:θ K ξ "web_where"=ζ (ζ (.ref lI))
 lJ:Ξ
 DU:ν
 EE:Def K mg "web_of" oJ ["many","pairs"] lJ DU
 JW:θ K ξ "web_of"=ζ (ζ (.ref lJ))
 mh:Ξ
 Ek:ν
 EX:Def K mg "is_word" qY ["word","place"] mh Ek
 Yt:θ K ξ "is_word"=ζ (ζ (.ref mh))
 mC:Ξ
 Er:ν
 zP:Def K mg "are_words" rA ["words"] mC Er
 Yy:θ K ξ "are_words"=ζ (ζ (.ref mC))
 lM:Ξ
 DW:ν
 EG:Def K mg "pairs_in" qC ["words"] lM DW
 XY:θ K ξ "pairs_in"=ζ (ζ (.ref lM))
 kq:Ξ
 yX:ν
 vF:Def K mg "read" qB ["text"] kq yX
 XX:θ K ξ "read"=ζ (ζ (.ref kq))
 l6:Ξ
 Ef:ν
 ET:Def K mg "_law_cell_at" qT ["script","k"] l6 Ef
 Yo:θ K ξ "_law_cell_at"=ζ (ζ (.ref l6))
 lV:Ξ
 D7:ν
 EM:Def K mg "_law_pot" qM ["cell"] lV D7
 Yh:θ K ξ "_law_pot"=ζ (ζ (.ref lV))
 lS:Ξ
 D4:ν
 fc:Def K mg "_law_take" qI ["pot","far"] lS D4
 Yc:θ K ξ "_law_take"=ζ (ζ (.ref lS))
 lX:Ξ
 D9:ν
 EO:Def K mg "_law_order" qO ["pot","wide"] lX D9
 Yj:θ K ξ "_law_order"=ζ (ζ (.ref lX))
 l5:Ξ
 Ed:ν
 zN:Def K mg "_law_joined" qS ["many","wanted"] l5 Ed
 Yn:θ K ξ "_law_joined"=ζ (ζ (.ref l5))
 lT:Ξ
 D5:ν
 EL:Def K mg "_law_scattered" qJ ["pot","most"] lT D5
 Yd:θ K ξ "_law_scattered"=ζ (ζ (.ref lT))
 lY:Ξ
 Ea:ν
 zM:Def K mg "_law_near" qP ["many","marks"] lY Ea
 Yk:θ K ξ "_law_near"=ζ (ζ (.ref lY))
 lW:Ξ
 D8:ν
 EN:Def K mg "_law_plain" qN ["pot","most"] lW D8
 Yi:θ K ξ "_law_plain"=ζ (ζ (.ref lW))
 lZ:Ξ
 Eb:ν
 ER:Def K mg "_law_moved" qQ ["table","order"] lZ Eb
 Yl:θ K ξ "_law_moved"=ζ (ζ (.ref lZ))
 lQ:Ξ
 D0:ν
 EJ:Def K mg "_law_toggled" qG ["table","one","other"] lQ D0
 X8:θ K ξ "_law_toggled"=ζ (ζ (.ref lQ))
 l9:Ξ
 Ei:ν
 EW:Def K mg "_law_about" qW ["table"] l9 Ei
 Yr:θ K ξ "_law_about"=ζ (ζ (.ref l9))
 l7:Ξ
 Eg:ν
 EU:Def K mg "_law_built" qU ["pot","most"] l7 Eg
 Yp:θ K ξ "_law_built"=ζ (ζ (.ref l7))
 lU:Ξ
 D6:ν
 vH:Def K mg "_law_rows" qL ["table"] lU D6
 Yg:θ K ξ "_law_rows"=ζ (ζ (.ref lU))
 lN:Ξ
 DX:ν
 EH:Def K mg "_law_whole" qD ["found"] lN DX
 XZ:θ K ξ "_law_whole"=ζ (ζ (.ref lN))
 kr:Ξ
 yY:ν
 vG:Def K mg "_law_same" qK ["found","due"] kr yY
 Ye:θ K ξ "_law_same"=ζ (ζ (.ref kr))
 lR:Ξ
 D3:ν
 EK:Def K mg "_law_text_of" qH ["table"] lR D3
 Yb:θ K ξ "_law_text_of"=ζ (ζ (.ref lR))
 l8:Ξ
 Eh:ν
 EV:Def K mg "_law_bent_text" qV ["pot","text","signs","odds"] l8 Eh
 Yq:θ K ξ "_law_bent_text"=ζ (ζ (.ref l8))
 lO:Ξ
 DY:ν
 EI:Def K mg "_law_web_due" qE ["text"] lO DY
 X0:θ K ξ "_law_web_due"=ζ (ζ (.ref lO))
 l0:Ξ
 Ec:ν
 ES:Def K mg "_law_kind_of" qR ["e"] l0 Ec
 Ym:θ K ξ "_law_kind_of"=ζ (ζ (.ref l0))
 lP:Ξ
 DZ:ν
 sL:Def K mg "_law_told" qF ["thing"] lP DZ
 X7:θ K ξ "_law_told"=ζ (ζ (.ref lP))
 ku:Ξ
 Ej:ν
 LZ:Def K mg "law" qX ["script"] ku Ej
 Ys:θ K ξ "law"=ζ (ζ (.ref ku))
 JV:mg "ValueError"=η
 yt:mg "all"=η
 JU:mg "any"=η
 vd:mg "bool"=η
 rU:mg "int"=η
 dU:mg "isinstance"=η
 eK:mg "len"=η
 vc:mg "list"=η
 JT:mg "max"=η
 oU:mg "min"=η
 cZ:mg "range"=η
 kT:mg "str"=η
 kR:mg "tuple"=η
 JR:mg "zip"=η
 mT:Ξ
 mR:Ξ
 oB:PySem.W.tabIn K "web_of"=ζ (mT,mR)
 qp:PySem.W.codeHdIn K mT mR=Θ
 qq:uF K=Θ
 uE:Tok
 Ly:mg "APART"=ζ (.str "." uE)
 uD:Tok
 Lx:mg "MOST_PLACES"=ζ (.int 50 uD)
 uC:Tok
 DL:mg "TIED"=ζ (.str "#" uC)
 sR:Ξ
 Lm:mg "NoWeb"=ζ (.ref sR)
 JH:θ K ξ "NoWeb"=ζ (ζ (.ref sR))
 pO:Ξ
 Lo:mg "NoText"=ζ (.ref pO)
 JJ:θ K ξ "NoText"=ζ (ζ (.ref pO))
 sX:Ξ
 Ls:mg "NoNumbers"=ζ (.ref sX)
 JN:θ K ξ "NoNumbers"=ζ (ζ (.ref sX))
 sZ:Ξ
 Lv:mg "NoField"=ζ (.ref sZ)
 JP:θ K ξ "NoField"=ζ (ζ (.ref sZ))
 sS:Ξ
 Ln:mg "NoThing"=ζ (.ref sS)
 JI:θ K ξ "NoThing"=ζ (ζ (.ref sS))
 sU:Ξ
 Lp:mg "NoSquare"=ζ (.ref sU)
 JK:θ K ξ "NoSquare"=ζ (ζ (.ref sU))
 sW:Ξ
 Lr:mg "NoPlaces"=ζ (.ref sW)
 JM:θ K ξ "NoPlaces"=ζ (ζ (.ref sW))
 sQ:Ξ
 Ll:mg "TooMany"=ζ (.ref sQ)
 JG:θ K ξ "TooMany"=ζ (ζ (.ref sQ))
 sY:Ξ
 Lu:mg "NoName"=ζ (.ref sY)
 JO:θ K ξ "NoName"=ζ (ζ (.ref sY))
 tu:Ξ
 Lw:mg "NoDeed"=ζ (.ref tu)
 JQ:θ K ξ "NoDeed"=ζ (ζ (.ref tu))
 sV:Ξ
 Lq:mg "NoRow"=ζ (.ref sV)
 JL:θ K ξ "NoRow"=ζ (ζ (.ref sV))
 nR:Ξ
 Lk:mg "WebError"=ζ (.ref nR)
 XS:θ K ξ "WebError"=ζ (ζ (.ref nR))
 AA:vX K mg "NoText" wV "ValueError.__new__"
 gE:vW K eW
 xw:Av K eW nR=Θ
section
variable {P:τ}{w:ω}{K:Δ}{mg:Str->Option Ψ}{base:υ}
theorem RH:cK ["thing"] ["thing"] (aV rj):=⟨rfl,rfl,rfl,by decide +kernel,rfl,by decide +kernel,by decide +kernel⟩
theorem VL(T:Tx K mg):bX P w K mg base bQ 1 T.mq T.Em ["thing"] (bY K 1 yz) :=
 ek (k:=0) T.EZ.fn RH rfl rfl λcdv A outer s H E hr=>by
  show cA _ _ pV;unfold pV;exact(aZ (cg (jf (bB gC T.dU ahF (ay (av 0) (ay (gh rfl T.rU boot_int) aB))) (jz (uV (bB gC T.dU ahF (ay (av 0) (ay (gh rfl T.vd boot_bool) aB))))))))
theorem RG:cK ["thing","least","most"] ["thing","least","most"] (aV qZ):=⟨rfl,rfl,rfl,by decide +kernel,rfl,by decide +kernel,by decide +kernel⟩
theorem VJ(T:Tx K mg):bX P w K mg base bQ 2 T.mj T.El ["thing","least","most"] (bY K 3 yy) :=
 ek (k:=1) T.EY.fn RG rfl rfl λcdv A outer s H E hr=>by
  show cA _ _ pU;unfold pU;exact(aZ (cg (jf (bH T.EZ (VL T) (hr.mono (by decide)) (ay (av 0) aB)) (jz (UP Jk Jk (av 1) (av 0) (av 2))))))
theorem RI:cK ["thing","many"] ["thing","many"] (aV rm):=⟨rfl,rfl,rfl,by decide +kernel,rfl,by decide +kernel,by decide +kernel⟩
theorem Jf(T:Tx K mg):bX P w K mg base bQ 3 T.mw T.Eo ["thing","many"] (bY K 2 o4) :=
 ek (k:=2) T.zO.fn RI rfl rfl λcdv A outer s H E hr=>by
  show cA _ _ pW;unfold pW;exact(aZ (cg (bH T.EY (VJ T) (hr.mono (by decide)) (ay (av 0) (ay aR (ay (bh u5 (av 1) aR) aB))))))
theorem RJ:cK ["thing","many"] ["thing","many"] (aV rq):=⟨rfl,rfl,rfl,by decide +kernel,rfl,by decide +kernel,by decide +kernel⟩
theorem VM(T:Tx K mg):bX P w K mg base bQ 4 T.mz T.Ep ["thing","many"] (bY K 2 rZ) :=
 ek (k:=3) T.E5.fn RJ rfl rfl λcdv A outer s H E hr=>by
  show cA _ _ tU;unfold tU;refine aU (d9 (PW.pt (oN (j4 (gV (bB gC T.dU ahF (ay (av 0) (ay (gh rfl T.kR ais) aB))))) (oO (dJ jD (bB eU T.eK ahM (ay (av 0) aB)) aR)))) (aZ (cg iS)) fh) ?_;exact(aZ (cg (jf (bH T.zO (Jf T) (hr.mono (by decide)) (ay (cu cI (av 0) aR) (ay (av 1) aB))) (jf (bH T.zO (Jf T) (hr.mono (by decide)) (ay (cu cI (av 0) aR) (ay (av 1) aB))) (jz (iE jD (cu cI (av 0) aR) (cu cI (av 0) aR)))))))
theorem RL:cK ["thing","many"] ["thing","many"] (aV rB):=⟨rfl,rfl,rfl,by decide +kernel,rfl,by decide +kernel,by decide +kernel⟩
theorem VN(T:Tx K mg):bX P w K mg base bQ 5 T.mD T.Es ["thing","many"] (bY K 2 r8) :=
 ek (k:=4) T.E6.fn RL rfl rfl λcdv A outer s H E hr=>by
  show cA _ _ tV;unfold tV;exact(aZ (cg (jf (bB gC T.dU ahF (ay (av 0) (ay (gh rfl T.vc boot_list) aB))) (jz (bB Fg T.yt boot_all (ay (fT (N':=["pair","many"]) (pick:=[η,ζ 1]) (cP.of rfl rfl) (k7 (av 0)) (λ_ _ _ _ _ _=>(b9 (i:=0) (hN:=(by decide +kernel:χ (["pair","many"]:List Str))))) (λ_ _ _ _ _ _=>gg) (λ_ _ _ _ _ _=>(bH T.E5 (VM T) (hr.mono (by decide)) (ay (av 0) (ay (av 1) aB))))) aB))))))
theorem VH(T:Tx K mg):ua P w K mg base 1 oj ["joined"] 2 (bY K (2+1) (yF nv)):=by
 with_unfolding_all refine Zd (k:=0) (ps:=["one","other"]) (ns:=["joined"]) (d:=nv) (wg.of rfl rfl rfl (by decide +kernel)) (λq cl pm cdv ct us hl=>match us,hl with|[_,_],_=>rfl) λq f cd cl A outer s H hr=>?_
 show aY _ _ nv;unfold nv;exact(iE (Wy (nB hr)) (j3 (ay (av 0) (ay (av 1) aB))) (av 2))
theorem VG(T:Tx K mg) {A:ψ}(hr:dg 1 A):∀t∈lams,∃k,ua P w K mg base k t.1 t.2.1 2 (bY K (2+t.2.1.length) t.2.2)/\dg k A:=by
 intro t ht;unfold lams at ht;simp only[aho,ahJ,or_false]at ht
 rcases ht with rfl
 ·exact⟨_,VH T,hr.mono (by decide)⟩
theorem Ry:cK ["many","one","are_tied"] ["many","one","are_tied"] (aV qA):=⟨rfl,rfl,rfl,by decide +kernel,rfl,by decide +kernel,by decide +kernel⟩
theorem Vo(T:Tx K mg):bX P w K mg base bQ 2 T.lK T.DV ["many","one","are_tied"] (bY K 3 iH) :=
 ek (k:=1) T.EF.fn Ry rfl rfl λcdv A outer s H E hr=>by
  show cA _ _ tF;unfold tF;exact(aZ (cg (jB vO T.kR ais (ay (fT (N':=["other","one","are_tied"]) (pick:=[η,ζ 1,ζ 2]) (cP.of rfl rfl) (fm (ay (av 0) aB) T.cZ) (λ_ _ _ _ _ _=>(b9 (i:=0) (hN:=(by decide +kernel:χ (["other","one","are_tied"]:List Str))))) (λ_ _ _ _ _ _=>(kH (PW.pt (IX (dJ jD (av 0) (av 1)) (IY (gV (UR 2 (VG T (hr.mono (by decide))) (ay (av 1) (ay (av 0) aB))))))))) (λ_ _ _ _ _ _=>(av 0))) aB))))
theorem Rv:cK ["many","are_tied"] ["many","are_tied"] (aV qz):=⟨rfl,rfl,rfl,by decide +kernel,rfl,by decide +kernel,by decide +kernel⟩
theorem Vm(T:Tx K mg):bX P w K mg base bQ 3 T.lI T.DT ["many","are_tied"] (bY K 2 j6) :=
 ek (k:=2) T.ED.fn Rv rfl rfl λcdv A outer s H E hr=>by
  show cA _ _ tw;unfold tw;exact(aZ (cg (jB vO T.kR ais (ay (fT (N':=["one","many","are_tied"]) (pick:=[η,ζ 0,ζ 1]) (cP.of rfl rfl) (fm (ay (av 0) aB) T.cZ) (λ_ _ _ _ _ _=>(b9 (i:=0) (hN:=(by decide +kernel:χ (["one","many","are_tied"]:List Str))))) (λ_ _ _ _ _ _=>gg) (λ_ _ _ _ _ _=>(bH T.EF (Vo T) (hr.mono (by decide)) (ay (av 1) (ay (av 0) (ay (av 2) aB)))))) aB))))
theorem Bh:cK ["many","pairs","joined","pair"] ["many","pairs"] (aV oJ):=⟨rfl,rfl,rfl,by decide +kernel,rfl,by decide +kernel,by decide +kernel⟩
theorem Vn(T:Tx K mg):bX P w K mg base bQ 6 T.lJ T.DU ["many","pairs"] (bY K 2 vf) :=
 abU (k:=5) T.EE.fn T.JW Bh rfl rfl λcdv A outer s H E hcd hr=>by
  show cA _ _ tE;unfold tE;refine aU (d9 (j4 (gV (bH T.E6 (VN T) (hr.mono (by decide)) (ay (av 1) (ay (av 0) aB))))) (aZ xy) fh) ?_
  refine Rr (Iw (i:=2) Bh.nd rfl (by first|exact Or.inl rfl|exact Or.inr rfl) Uz) (IB PassesOwn.never rfl (II (pv 1)) (IP (i:=3) Bh.nd rfl (by first|exact Or.inl rfl|exact Or.inr rfl)) (rF (IC (KR (nB hr)) (pv 2) (pv 3) BC rfl) (Iu (IC (KR (nB hr)) (pv 2) (IQ (iF (By Dp (pv 3) BA (λ_ _=>rfl)) (iF (By Dp (pv 3) BA (λ_ _=>rfl)) jC (bS rfl)) (bS rfl))) BC rfl)))) ?_
  exact(aZ (cg (UQ (kk:=0) T.ED (Vm T) (hr.mono (by decide)) (av 0) (gD.of (by kernel_rfl)) rfl (λ_=>rfl) (y:="web_of") (by decide +kernel) T.oB T.qq (hcd _ _ T.oB) rfl T.qp)))
theorem RE:cK ["word","place"] ["word","place"] (aV qY):=⟨rfl,rfl,rfl,by decide +kernel,rfl,by decide +kernel,by decide +kernel⟩
theorem VI(T:Tx K mg):bX P w K mg base bQ 1 T.mh T.Ek ["word","place"] (bY K 2 oZ) :=
 ek (k:=0) T.EX.fn RE rfl rfl λcdv A outer s H E hr=>by
  show cA _ _ tT;unfold tT;exact(aZ (cg (jf (iE gu (bB eU T.eK ahM (ay (av 0) aB)) (av 1)) (jz (iE gu (bh ef (IV (av 0) (BD rfl T.DL)) (IV (av 0) (BD rfl T.Ly))) (av 1))))))
theorem Ig:cK ["words","many"] ["words"] (aV rA):=⟨rfl,rfl,rfl,by decide +kernel,rfl,by decide +kernel,by decide +kernel⟩
theorem Jg(T:Tx K mg):bX P w K mg base bQ 2 T.mC T.Er ["words"] (bY K 1 nu) :=
 ek (k:=1) T.zP.fn Ig rfl rfl λcdv A outer s H E hr=>by
  show cA _ _ lH;unfold lH;refine aU (bK (i:=1) (bB eU T.eK ahM (ay (av 0) aB)) (hN:=Ig.nd)) ?_;refine aU (d9 (PW.pt (oN (dJ Jl (av 1) (UL rfl T.Lx)) (oO (dJ jD (cu cI (av 0) aR) (jB Ff T.kT F6 (ay (av 1) aB)))))) (aZ (cg iS)) fh) ?_;exact(aZ (cg (bB Fg T.yt boot_all (ay (fT (N':=["place","words"]) (pick:=[η,ζ 0]) (cP.of rfl rfl) (ji (ay aR (ay (av 1) aB)) T.cZ) (λ_ _ _ _ _ _=>(b9 (i:=0) (hN:=(by decide +kernel:χ (["place","words"]:List Str))))) (λ_ _ _ _ _ _=>gg) (λ_ _ _ _ _ _=>(bH T.EX (VI T) (hr.mono (by decide)) (ay (cu cI (av 1) (av 0)) (ay (av 0) aB))))) aB))))
theorem Bj:cK ["words","pairs","place"] ["words"] (aV qC):=⟨rfl,rfl,rfl,by decide +kernel,rfl,by decide +kernel,by decide +kernel⟩
theorem Vq(T:Tx K mg):bX P w K mg base bQ 1 T.lM T.DW ["words"] (bY K 1 vg) :=
 ek (k:=0) T.EG.fn Bj rfl rfl λcdv A outer s H E hr=>by
  show cA _ _ nS;unfold nS;refine aU (bK (i:=1) (kI aB) (hN:=Bj.nd)) ?_;refine aU (gq (ji (ay aR (ay (bB eU T.eK ahM (ay (av 0) aB)) aB)) T.cZ) (b9 (i:=2) (hN:=Bj.nd)) (aZ (kE (rO (av 1) (fT (N':=["below","place","words"]) (pick:=[η,ζ 2,ζ 0]) (cP.of rfl rfl) (fm (ay (av 2) aB) T.cZ) (λ_ _ _ _ _ _=>(b9 (i:=0) (hN:=(by decide +kernel:χ (["below","place","words"]:List Str))))) (λ_ _ _ _ _ _=>(kH (dJ gu (cu vt (cu cI (av 2) (av 1)) (av 0)) (BD rfl T.DL)))) (λ_ _ _ _ _ _=>(j3 (ay (av 0) (ay (av 1) aB))))))))) ?_
  exact(aZ (cg (av 1)))
theorem xB:cK ["text","words"] ["text"] (aV qB):=⟨rfl,rfl,rfl,by decide +kernel,rfl,by decide +kernel,by decide +kernel⟩
theorem Vp(T:Tx K mg):bX P w K mg base bQ 7 T.kq T.yX ["text"] (bY K 1 j7) :=
 ek (k:=6) T.vF.fn xB rfl rfl λcdv A outer s H E hr=>by
  show cA _ _ lE;unfold lE;refine aU (d9 (j4 (gV (bB gC T.dU ahF (ay (av 0) (ay (gh rfl T.kT boot_str) aB))))) (aZ xy) fh) ?_;refine aU (bK (i:=1) (xQ (av 0) cj) (hN:=xB.nd)) ?_;refine aU (d9 (j4 (gV (bH T.zP (Jg T) (hr.mono (by decide)) (ay (av 1) aB)))) (aZ xy) fh) ?_
  exact(aZ (cg (bH T.EE (Vn T) (hr.mono (by decide)) (ay (bB eU T.eK ahM (ay (av 1) aB)) (ay (bH T.EG (Vq T) (hr.mono (by decide)) (ay (av 1) aB)) aB)))))
theorem Vl(T:Tx K mg):bX P w K mg base (i6 P w K) 7 T.kq T.yX ["text"] (Bc K 1 qe) :=
 abT (k:=6) T.vF.fn xB rfl rfl λcdv A outer s H E hr=>by
  show jr _ _ _ vQ;unfold vQ;exact(N4 (uh (GJ (j4 (gV (bB gC T.dU ahF (ay (av 0) (ay (gh rfl T.kT boot_str) aB))))) (uh (GH T.AA F.excBase_ValueError)) GI)) (GK (d9 (j4 (gV (bB gC T.dU ahF (ay (av 0) (ay (gh rfl T.kT boot_str) aB))))) (aZ xy) fh) (GK (bK (i:=1) (xQ (av 0) cj) (hN:=xB.nd)) (uh (GJ (j4 (gV (bH T.zP (Jg T) (hr.mono (by decide)) (ay (av 1) aB)))) (uh (GH T.AA F.excBase_ValueError)) GI)))))
theorem RD:cK ["script","k"] ["script","k"] (aV qT):=⟨rfl,rfl,rfl,by decide +kernel,rfl,by decide +kernel,by decide +kernel⟩
theorem VB(T:Tx K mg):bX P w K mg base bQ 1 T.l6 T.Ef ["script","k"] (bY K 2 nt) :=
 ek (k:=0) T.ET.fn RD rfl rfl λcdv A outer s H E hr=>by
  show cA _ _ pS;unfold pS;refine aU (d9 (dJ yd (av 1) (bB eU T.eK ahM (ay (av 0) aB))) (aZ (cg (cu cI (av 0) (av 1)))) fh) ?_;exact(aZ (cg aR))
theorem qx:cK ["cell","number","j","more"] ["cell"] (aV qM):=⟨rfl,rfl,rfl,by decide +kernel,rfl,by decide +kernel,by decide +kernel⟩
theorem Vx(T:Tx K mg):bX P w K mg base bQ 1 T.lV T.D7 ["cell"] (bY K 1 nj) :=
 ek (k:=0) T.EM.fn qx rfl rfl λcdv A outer s H E hr=>by
  show cA _ _ pR;unfold pR;refine aU (d9 (dJ Wz (av 0) (bh Jj aR aR)) (aZ (cg (kI (ay (bh u5 (av 0) (bh Jj aR aR)) aB)))) fh) ?_;refine aU (bK (i:=1) aR (hN:=qx.nd)) ?_;refine aU (gq (fm (ay aR aB) T.cZ) (b9 (i:=2) (hN:=qx.nd)) (aU (bK (i:=3) (bh kK (bh oQ (bh ef (bh ef (bh kK (av 0) aR) (bh oQ aR (av 2))) aR) aR) aR) (hN:=qx.nd)) (aU (bK (i:=3) (bh kK (bh ef (bh ef (bh oQ (av 3) (av 3)) (bh oQ aR (av 2))) aR) aR) (hN:=qx.nd)) (aZ (bK (i:=1) (bh ef (bh oQ (av 1) aR) (av 3)) (hN:=qx.nd)))))) ?_;exact(aZ (cg (kI (ay (av 1) aB))))
theorem Ic:cK ["pot","far","found"] ["pot","far"] (aV qI):=⟨rfl,rfl,rfl,by decide +kernel,rfl,by decide +kernel,by decide +kernel⟩
theorem fE(T:Tx K mg):bX P w K mg base bQ 1 T.lS T.D4 ["pot","far"] (bY K 2 aS) :=
 ek (k:=0) T.fc.fn Ic rfl rfl λcdv A outer s H E hr=>by
  show cA _ _ pQ;unfold pQ;refine aU (bK (i:=2) (bh kK (cu cI (av 0) aR) (av 1)) (hN:=Ic.nd)) ?_;refine aU (mY (bh u6 (cu cI (av 0) aR) (av 1)) (nG (av 0) aR)) ?_;exact(aZ (cg (av 2)))
theorem Bl:cK ["pot","wide","found","k"] ["pot","wide"] (aV qO):=⟨rfl,rfl,rfl,by decide +kernel,rfl,by decide +kernel,by decide +kernel⟩
theorem Vz(T:Tx K mg):bX P w K mg base bQ 2 T.lX T.D9 ["pot","wide"] (bY K 2 nk) :=
 ek (k:=1) T.EO.fn Bl rfl rfl λcdv A outer s H E hr=>by
  show cA _ _ tM;unfold tM;refine aU (bK (i:=2) (kI aB) (hN:=Bl.nd)) ?_;refine aU (gq (fm (ay (av 1) aB) T.cZ) (b9 (i:=3) (hN:=Bl.nd)) (aZ (kE (UJ (av 2) (bH T.fc (fE T) (hr.mono (by decide)) (ay (av 0) (ay (bh ef (av 3) aR) aB))) (av 3))))) ?_
  exact(aZ (cg (jB vO T.kR ais (ay (av 2) aB))))
theorem xD:cK ["many","wanted","found","one","other"] ["many","wanted"] (aV qS):=⟨rfl,rfl,rfl,by decide +kernel,rfl,by decide +kernel,by decide +kernel⟩
theorem Je(T:Tx K mg):bX P w K mg base bQ 1 T.l5 T.Ed ["many","wanted"] (bY K 2 jF) :=
 DO (k:=0) T.zN.fn xD rfl rfl λcdv A outer s H E hr=>by
  show cA _ _ tQ;unfold tQ;refine aU (mX (i:=2) (hN:=xD.nd) (N':=["place","many"]) (pick:=[η,ζ 0]) (cP.of rfl rfl) (fm (ay (av 0) aB) T.cZ) (λ_ _ _ _ _ _=>(b9 (i:=0) (hN:=(by decide +kernel:χ (["place","many"]:List Str))))) (λ_ _ _ _ _ _=>gg) (λ_ _ _ _ _ _=>(bh BJ (fK (ay iS aB)) (av 1)))) ?_
  refine aU (gq (k7 (av 1)) (DJ (n:=2) (sF (b9 (i:=3) (hN:=xD.nd)) (sF (b9 (i:=4) (hN:=xD.nd)) DI))) (aU (mY iS (nG (cu cI (av 2) (av 3)) (av 4))) (aZ (mY iS (nG (cu cI (av 2) (av 4)) (av 3)))))) ?_;exact(aZ (cg (av 2)))
theorem uL:cK ["pot","most","many","dense","wanted","one"] ["pot","most"] (aV qJ):=⟨rfl,rfl,rfl,by decide +kernel,rfl,by decide +kernel,by decide +kernel⟩
theorem Vw(T:Tx K mg):bX P w K mg base bQ 2 T.lT T.D5 ["pot","most"] (bY K 2 kU) :=
 ek (k:=1) T.EL.fn uL rfl rfl λcdv A outer s H E hr=>by
  show cA _ _ tK;unfold tK;refine aU (bK (i:=2) (bh ef aR (bH T.fc (fE T) (hr.mono (by decide)) (ay (av 0) (ay (av 1) aB)))) (hN:=uL.nd)) ?_
  refine aU (bK (i:=3) (bh ef aR (bH T.fc (fE T) (hr.mono (by decide)) (ay (av 0) (ay aR aB)))) (hN:=uL.nd)) ?_
  refine aU (bK (i:=4) (kI aB) (hN:=uL.nd)) ?_;refine aU (gq (fm (ay (av 2) aB) T.cZ) (b9 (i:=5) (hN:=uL.nd)) (aZ (kE (rO (av 4) (fT (N':=["other","one","dense","pot"]) (pick:=[η,ζ 5,ζ 3,ζ 0]) (cP.of rfl rfl) (ji (ay (bh ef (av 5) aR) (ay (av 2) aB)) T.cZ) (λ_ _ _ _ _ _=>(b9 (i:=0) (hN:=(by decide +kernel:χ (["other","one","dense","pot"]:List Str))))) (λ_ _ _ _ _ _=>(kH (dJ yd (bH T.fc (fE T) (hr.mono (by decide)) (ay (av 3) (ay aR aB))) (av 2)))) (λ_ _ _ _ _ _=>(j3 (ay (av 1) (ay (av 0) aB))))))))) ?_
  exact(aZ (cg (bH T.zN (Je T) (hr.mono (by decide)) (ay (av 2) (ay (av 4) aB)))))
theorem xC:cK ["many","marks","found","one","other"] ["many","marks"] (aV qP):=⟨rfl,rfl,rfl,by decide +kernel,rfl,by decide +kernel,by decide +kernel⟩
theorem Jd(T:Tx K mg):bX P w K mg base bQ 1 T.lY T.Ea ["many","marks"] (bY K 2 j9) :=
 ek (k:=0) T.zM.fn xC rfl rfl λcdv A outer s H E hr=>by
  show cA _ _ tN;unfold tN;refine aU (bK (i:=2) (kI aB) (hN:=xC.nd)) ?_;refine aU (gq (fm (ay (av 0) aB) T.cZ) (b9 (i:=3) (hN:=xC.nd)) (aZ (gq (ji (ay (bh ef (av 3) aR) (ay (av 0) aB)) T.cZ) (b9 (i:=4) (hN:=xC.nd)) (aZ (d9 (gV (bB adS T.JU boot_any (ay (fT (N':=["mark","marks","other"]) (pick:=[η,ζ 1,ζ 4]) (cP.of rfl rfl) (k7 (cu cI (av 1) (av 3))) (λ_ _ _ _ _ _=>(b9 (i:=0) (hN:=(by decide +kernel:χ (["mark","marks","other"]:List Str))))) (λ_ _ _ _ _ _=>gg) (λ_ _ _ _ _ _=>(iE (BL (nB hr)) (av 0) (cu cI (av 1) (av 2))))) aB))) (aZ (kE (IW (av 2) (j3 (ay (av 3) (ay (av 4) aB)))))) fh))))) ?_
  exact(aZ (cg (av 2)))
theorem fj:cK ["pot","most","way","many","wanted","steps","step","things","marks","one","high","wide","squares"] ["pot","most"] (aV qN):=⟨rfl,rfl,rfl,by decide +kernel,rfl,by decide +kernel,by decide +kernel⟩
theorem Vy(T:Tx K mg):bX P w K mg base bQ 2 T.lW T.D8 ["pot","most"] (bY K 2 kW) :=
 ek (k:=1) T.EN.fn fj rfl rfl λcdv A outer s H E hr=>by
  show cA _ _ tL;unfold tL;refine aU (bK (i:=2) (bH T.fc (fE T) (hr.mono (by decide)) (ay (av 0) (ay aR aB))) (hN:=fj.nd)) ?_
  refine aU (bK (i:=3) (bh ef aR (bH T.fc (fE T) (hr.mono (by decide)) (ay (av 0) (ay (av 1) aB)))) (hN:=fj.nd)) ?_
  refine aU (bK (i:=4) (kI aB) (hN:=fj.nd)) ?_;refine aU (d9 (dJ gu (av 2) aR) (aU (mX (i:=5) (hN:=fj.nd) (N':=["step","pot"]) (pick:=[η,ζ 0]) (cP.of rfl rfl) (ji (ay aR (ay (bh ef (bh u6 (av 3) aR) aR) aB)) T.cZ) (λ_ _ _ _ _ _=>(b9 (i:=0) (hN:=(by decide +kernel:χ (["step","pot"]:List Str))))) (λ_ _ _ _ _ _=>(kH (dJ gu (bH T.fc (fE T) (hr.mono (by decide)) (ay (av 1) (ay aR aB))) aR))) (λ_ _ _ _ _ _=>(av 0))) (aZ (gq (k7 (av 5)) (b9 (i:=6) (hN:=fj.nd)) (aZ (kE (rO (av 4) (fT (N':=["k","many","step"]) (pick:=[η,ζ 3,ζ 6]) (cP.of rfl rfl) (fm (ay (av 3) aB) T.cZ) (λ_ _ _ _ _ _=>(b9 (i:=0) (hN:=(by decide +kernel:χ (["k","many","step"]:List Str))))) (λ_ _ _ _ _ _=>gg) (λ_ _ _ _ _ _=>(j3 (ay (av 0) (ay (bh kK (bh ef (av 0) (av 2)) (av 1)) aB))))))))))) (aZ (d9 (dJ gu (av 2) aR) (aU (bK (i:=7) (cu cI (fK (ay aR (ay aR (ay aR (ay aR aB))))) (bH T.fc (fE T) (hr.mono (by decide)) (ay (av 0) (ay aR aB)))) (hN:=fj.nd)) (aU (bK (i:=8) (kI aB) (hN:=fj.nd)) (aU (gq (fm (ay (av 7) aB) T.cZ) (b9 (i:=9) (hN:=fj.nd)) (aZ (kE (rO (av 8) (fT (N':=["other","one"]) (pick:=[η,ζ 9]) (cP.of rfl rfl) (ji (ay (bh ef (av 9) aR) (ay (av 7) aB)) T.cZ) (λ_ _ _ _ _ _=>(b9 (i:=0) (hN:=(by decide +kernel:χ (["other","one"]:List Str))))) (λ_ _ _ _ _ _=>gg) (λ_ _ _ _ _ _=>(fK (ay (av 1) (ay (av 0) aB))))))))) (aU (bK (i:=3) (bB sP T.oU aiO (ay (bB eU T.eK ahM (ay (av 8) aB)) (ay (av 1) aB))) (hN:=fj.nd)) (aZ (bK (i:=4) (bH T.zM (Jd T) (hr.mono (by decide)) (ay (av 3) (ay (av 8) aB))) (hN:=fj.nd))))))) (aZ (d9 (dJ yd (av 2) aR) (aU (bK (i:=10) (bh ef aR (bH T.fc (fE T) (hr.mono (by decide)) (ay (av 0) (ay (bB sP T.oU aiO (ay aR (ay (av 1) aB))) aB)))) (hN:=fj.nd)) (aU (bK (i:=11) (bh ef aR (bH T.fc (fE T) (hr.mono (by decide)) (ay (av 0) (ay (bB sP T.oU aiO (ay aR (ay (bh u6 (av 1) (av 10)) aB))) aB)))) (hN:=fj.nd)) (aU (bK (i:=3) (bh oQ (av 10) (av 11)) (hN:=fj.nd)) (aU (mX (i:=8) (hN:=fj.nd) (N':=["k","wide"]) (pick:=[η,ζ 11]) (cP.of rfl rfl) (fm (ay (av 3) aB) T.cZ) (λ_ _ _ _ _ _=>(b9 (i:=0) (hN:=(by decide +kernel:χ (["k","wide"]:List Str))))) (λ_ _ _ _ _ _=>gg) (λ_ _ _ _ _ _=>(fK (ay (bh u6 (av 0) (av 1)) aB)))) (aU (d9 (dJ gu (av 2) aR) (aZ (mX (i:=8) (hN:=fj.nd) (N':=["k","wide"]) (pick:=[η,ζ 11]) (cP.of rfl rfl) (fm (ay (av 3) aB) T.cZ) (λ_ _ _ _ _ _=>(b9 (i:=0) (hN:=(by decide +kernel:χ (["k","wide"]:List Str))))) (λ_ _ _ _ _ _=>gg) (λ_ _ _ _ _ _=>(fK (ay (bh u6 (av 0) (av 1)) (ay (bh ef aR (bh kK (av 0) (av 1))) aB)))))) fh) (aZ (bK (i:=4) (bH T.zM (Jd T) (hr.mono (by decide)) (ay (av 3) (ay (av 8) aB))) (hN:=fj.nd)))))))) (aZ (d9 (dJ gu (av 2) aR) (aU (bK (i:=3) (bB sP T.oU aiO (ay (av 1) (ay (cu cI (fK (ay aR (ay aR aB))) (bH T.fc (fE T) (hr.mono (by decide)) (ay (av 0) (ay aR aB)))) aB))) (hN:=fj.nd)) (aU (bK (i:=12) (fT (N':=["k","many"]) (pick:=[η,ζ 3]) (cP.of rfl rfl) (ji (ay aR (ay (av 3) aB)) T.cZ) (λ_ _ _ _ _ _=>(b9 (i:=0) (hN:=(by decide +kernel:χ (["k","many"]:List Str))))) (λ_ _ _ _ _ _=>gg) (λ_ _ _ _ _ _=>(bh kK (bh oQ (av 0) (av 0)) (av 1)))) (hN:=fj.nd)) (aZ (gq (fm (ay (av 3) aB) T.cZ) (b9 (i:=9) (hN:=fj.nd)) (aZ (kE (rO (av 4) (fT (N':=["other","one","squares","many"]) (pick:=[η,ζ 9,ζ 12,ζ 3]) (cP.of rfl rfl) (ji (ay (bh ef (av 9) aR) (ay (av 3) aB)) T.cZ) (λ_ _ _ _ _ _=>(b9 (i:=0) (hN:=(by decide +kernel:χ (["other","one","squares","many"]:List Str))))) (λ_ _ _ _ _ _=>(kH (dJ (BL (nB hr)) (bh kK (bh u5 (av 0) (av 1)) (av 3)) (av 2)))) (λ_ _ _ _ _ _=>(j3 (ay (av 1) (ay (av 0) aB)))))))))))) (aU (bK (i:=3) (bB sP T.oU aiO (ay aR (ay (av 1) aB))) (hN:=fj.nd)) (aU (gq (fm (ay (av 3) aB) T.cZ) (b9 (i:=9) (hN:=fj.nd)) (aZ (kE (rO (av 4) (fT (N':=["other","one"]) (pick:=[η,ζ 9]) (cP.of rfl rfl) (ji (ay (bh ef (av 9) aR) (ay (av 3) aB)) T.cZ) (λ_ _ _ _ _ _=>(b9 (i:=0) (hN:=(by decide +kernel:χ (["other","one"]:List Str))))) (λ_ _ _ _ _ _=>(kH (dJ (BL (nB hr)) (bh u5 (av 0) (av 1)) (j3 (ay aR (ay aR (ay aR aB))))))) (λ_ _ _ _ _ _=>(j3 (ay (av 1) (ay (av 0) aB))))))))) (aZ (mX (i:=4) (hN:=fj.nd) (N':=["one","other"]) (pick:=[η,η]) (cP.of rfl rfl) (k7 (av 4)) (λ_ _ _ _ _ _=>(DJ (n:=2) (sF (b9 (i:=0) (hN:=(by decide +kernel:χ (["one","other"]:List Str)))) (sF (b9 (i:=1) (hN:=(by decide +kernel:χ (["one","other"]:List Str)))) DI)))) (λ_ _ _ _ _ _=>(kH (dJ gu (bh WC (av 0) (av 1)) (av 0)))) (λ_ _ _ _ _ _=>(j3 (ay (av 0) (ay (av 1) aB))))))))))))))) ?_
  exact(aZ (cg (bH T.zN (Je T) (hr.mono (by decide)) (ay (av 3) (ay (av 4) aB)))))
theorem uM:cK ["table","order","many","found","one","other"] ["table","order"] (aV qQ):=⟨rfl,rfl,rfl,by decide +kernel,rfl,by decide +kernel,by decide +kernel⟩
theorem VA(T:Tx K mg):bX P w K mg base bQ 1 T.lZ T.Eb ["table","order"] (bY K 2 oX) :=
 DO (k:=0) T.ER.fn uM rfl rfl λcdv A outer s H E hr=>by
  show cA _ _ tO;unfold tO;refine aU (bK (i:=2) (bB eU T.eK ahM (ay (av 0) aB)) (hN:=uM.nd)) ?_;refine aU (mX (i:=3) (hN:=uM.nd) (N':=["place","many"]) (pick:=[η,ζ 2]) (cP.of rfl rfl) (fm (ay (av 2) aB) T.cZ) (λ_ _ _ _ _ _=>(b9 (i:=0) (hN:=(by decide +kernel:χ (["place","many"]:List Str))))) (λ_ _ _ _ _ _=>gg) (λ_ _ _ _ _ _=>(bh BJ (fK (ay iS aB)) (av 1)))) ?_
  refine aU (gq (fm (ay (av 2) aB) T.cZ) (b9 (i:=4) (hN:=uM.nd)) (aZ (gq (fm (ay (av 2) aB) T.cZ) (b9 (i:=5) (hN:=uM.nd)) (aZ (mY (cu cI (cu cI (av 0) (av 4)) (av 5)) (nG (cu cI (av 3) (cu cI (av 1) (av 4))) (cu cI (av 1) (av 5)))))))) ?_;exact(aZ (cg (av 3)))
theorem Ib:cK ["table","one","other","found"] ["table","one","other"] (aV qG):=⟨rfl,rfl,rfl,by decide +kernel,rfl,by decide +kernel,by decide +kernel⟩
theorem Vt(T:Tx K mg):bX P w K mg base bQ 1 T.lQ T.D0 ["table","one","other"] (bY K 3 j8) :=
 DO (k:=0) T.EJ.fn Ib rfl rfl λcdv A outer s H E hr=>by
  show cA _ _ tH;unfold tH;refine aU (mX (i:=3) (hN:=Ib.nd) (N':=["row"]) (pick:=[η]) (cP.of rfl rfl) (k7 (av 0)) (λ_ _ _ _ _ _=>(b9 (i:=0) (hN:=(by decide +kernel:χ (["row"]:List Str))))) (λ_ _ _ _ _ _=>gg) (λ_ _ _ _ _ _=>(jB adP T.vc boot_list (ay (av 0) aB)))) ?_
  refine aU (mY (uV (cu cI (cu cI (av 3) (av 1)) (av 2))) (nG (cu cI (av 3) (av 1)) (av 2))) ?_;refine aU (mY (uV (cu cI (cu cI (av 3) (av 2)) (av 1))) (nG (cu cI (av 3) (av 2)) (av 1))) ?_;exact(aZ (cg (av 3)))
theorem Ie:cK ["table","many"] ["table"] (aV qW):=⟨rfl,rfl,rfl,by decide +kernel,rfl,by decide +kernel,by decide +kernel⟩
theorem VE(T:Tx K mg):bX P w K mg base bQ 1 T.l9 T.Ei ["table"] (bY K 1 kX) :=
 ek (k:=0) T.EW.fn Ie rfl rfl λcdv A outer s H E hr=>by
  show cA _ _ tS;unfold tS;refine aU (bK (i:=1) (bB eU T.eK ahM (ay (av 0) aB)) (hN:=Ie.nd)) ?_;exact(aZ (cg (fT (N':=["one","many","table"]) (pick:=[η,ζ 1,ζ 0]) (cP.of rfl rfl) (fm (ay (av 1) aB) T.cZ) (λ_ _ _ _ _ _=>(b9 (i:=0) (hN:=(by decide +kernel:χ (["one","many","table"]:List Str))))) (λ_ _ _ _ _ _=>gg) (λ_ _ _ _ _ _=>(fT (N':=["other","one","table"]) (pick:=[η,ζ 0,ζ 2]) (cP.of rfl rfl) (fm (ay (av 1) aB) T.cZ) (λ_ _ _ _ _ _=>(b9 (i:=0) (hN:=(by decide +kernel:χ (["other","one","table"]:List Str))))) (λ_ _ _ _ _ _=>gg) (λ_ _ _ _ _ _=>(jf (iE jD (av 1) (av 0)) (jz (uV (cu cI (cu cI (av 2) (av 1)) (av 0)))))))))))
theorem oH:cK ["pot","most","found","many","one"] ["pot","most"] (aV qU):=⟨rfl,rfl,rfl,by decide +kernel,rfl,by decide +kernel,by decide +kernel⟩
theorem VC(T:Tx K mg):bX P w K mg base bQ 3 T.l7 T.Eg ["pot","most"] (bY K 2 oY) :=
 ek (k:=2) T.EU.fn oH rfl rfl λcdv A outer s H E hr=>by
  show cA _ _ tR;unfold tR;refine aU (d9 (dJ yd (bH T.fc (fE T) (hr.mono (by decide)) (ay (av 0) (ay aR aB))) aR) (aZ (bK (i:=2) (bH T.EL (Vw T) (hr.mono (by decide)) (ay (av 0) (ay (av 1) aB))) (hN:=oH.nd))) (aZ (bK (i:=2) (bH T.EN (Vy T) (hr.mono (by decide)) (ay (av 0) (ay (av 1) aB))) (hN:=oH.nd)))) ?_
  refine aU (bK (i:=3) (bB eU T.eK ahM (ay (av 2) aB)) (hN:=oH.nd)) ?_;refine aU (d9 (dJ gu (bH T.fc (fE T) (hr.mono (by decide)) (ay (av 0) (ay aR aB))) aR) (aZ (bK (i:=2) (bH T.EW (VE T) (hr.mono (by decide)) (ay (av 2) aB)) (hN:=oH.nd))) fh) ?_
  refine aU (d9 (PW.pt (IX (dJ Jl (av 3) aR) (IY (dJ gu (bH T.fc (fE T) (hr.mono (by decide)) (ay (av 0) (ay aR aB))) aR)))) (aU (bK (i:=4) (bH T.fc (fE T) (hr.mono (by decide)) (ay (av 0) (ay (av 3) aB))) (hN:=oH.nd)) (aZ (bK (i:=2) (bH T.EJ (Vt T) (hr.mono (by decide)) (ay (av 2) (ay (av 4) (ay (bh kK (bh ef (bh ef (av 4) aR) (bH T.fc (fE T) (hr.mono (by decide)) (ay (av 0) (ay (bh u5 (av 3) aR) aB)))) (av 3)) aB)))) (hN:=oH.nd)))) fh) ?_
  exact(aZ (cg (bH T.ER (VA T) (hr.mono (by decide)) (ay (av 2) (ay (bH T.EO (Vz T) (hr.mono (by decide)) (ay (av 0) (ay (av 3) aB))) aB)))))
theorem RC:cK ["table"] ["table"] (aV qL):=⟨rfl,rfl,rfl,by decide +kernel,rfl,by decide +kernel,by decide +kernel⟩
theorem BG(T:Tx K mg):bX P w K mg base bQ 1 T.lU T.D6 ["table"] (bY K 1 fU) :=
 ek (k:=0) T.vH.fn RC rfl rfl λcdv A outer s H E hr=>by
  show cA _ _ nT;unfold nT;exact(aZ (cg (jB vO T.kR ais (ay (fT (N':=["row","table"]) (pick:=[η,ζ 0]) (cP.of rfl rfl) (k7 (av 0)) (λ_ _ _ _ _ _=>(b9 (i:=0) (hN:=(by decide +kernel:χ (["row","table"]:List Str))))) (λ_ _ _ _ _ _=>gg) (λ_ _ _ _ _ _=>(jB vO T.kR ais (ay (fT (N':=["k","row"]) (pick:=[η,ζ 0]) (cP.of rfl rfl) (fm (ay (bB eU T.eK ahM (ay (av 1) aB)) aB) T.cZ) (λ_ _ _ _ _ _=>(b9 (i:=0) (hN:=(by decide +kernel:χ (["k","row"]:List Str))))) (λ_ _ _ _ _ _=>(kH (gV (cu cI (av 1) (av 0))))) (λ_ _ _ _ _ _=>(av 0))) aB)))) aB))))
theorem RA:cK ["found"] ["found"] (aV qD):=⟨rfl,rfl,rfl,by decide +kernel,rfl,by decide +kernel,by decide +kernel⟩
theorem Vr(T:Tx K mg):bX P w K mg base bQ 1 T.lN T.DX ["found"] (bY K 1 yv) :=
 ek (k:=0) T.EH.fn RA rfl rfl λcdv A outer s H E hr=>by
  show cA _ _ tG;unfold tG;exact(aZ (cg (jf (bB gC T.dU ahF (ay (av 0) (ay (gh rfl T.rU boot_int) aB))) (jz (uV (bB gC T.dU ahF (ay (av 0) (ay (gh rfl T.vd boot_bool) aB))))))))
theorem RB:cK ["found","due"] ["found","due"] (aV qK):=⟨rfl,rfl,rfl,by decide +kernel,rfl,by decide +kernel,by decide +kernel⟩
theorem BF(T:Tx K mg):∀j:Nat,bX P w K mg base bQ (2+j) T.kr T.yY ["found","due"] (bY K 2 (eN j))
 |0=>⟨λvs H Q E h=>by obtain⟨_,_,_,_,_,_,p⟩:=h;exact p.elim,λA outer s H args us vs Q E hr he hb hv h=>by obtain⟨_,_,_,_,_,_,p⟩:=h;exact p.elim⟩
 |j+1=>ek (k:=2+j) T.vG.fn RB rfl rfl λcdv A outer s H E hr=>by
  have ih:bX P w K mg base bQ (2+j) T.kr T.yY ["found","due"] (bY K 2 (eN j)):=BF T j;show cA _ _ (lG (eN j));unfold lG
  generalize eN j=m at ih ⊢
  refine aU (d9 (dJ BK (av 1) rM) (aZ (cg (iE BK (av 0) rM))) fh) ?_;refine aU (d9 (gV (bB gC T.dU ahF (ay (av 1) (ay (gh rfl T.vd boot_bool) aB)))) (aZ (cg (jf (bB gC T.dU ahF (ay (av 0) (ay (gh rfl T.vd boot_bool) aB))) (jz (iE gu (av 0) (av 1)))))) fh) ?_;refine aU (d9 (gV (bB gC T.dU ahF (ay (av 1) (ay (gh rfl T.rU boot_int) aB)))) (aZ (cg (jf (bH T.EH (Vr T) (hr.mono (by omega)) (ay (av 0) aB)) (jz (iE gu (av 0) (av 1)))))) fh) ?_
  refine aU (d9 (gV (bB gC T.dU ahF (ay (av 1) (ay (gh rfl T.kT boot_str) aB)))) (aZ (cg (jf (bB gC T.dU ahF (ay (av 0) (ay (gh rfl T.kT boot_str) aB))) (jz (iE gu (av 0) (av 1)))))) fh) ?_;refine aU (d9 (PW.pt (oN (dJ jD (bB gC T.dU ahF (ay (av 1) (ay (gh rfl T.kR ais) aB))) (bB gC T.dU ahF (ay (av 0) (ay (gh rfl T.kR ais) aB)))) (oO (dJ jD (bB gC T.dU ahF (ay (av 1) (ay (gh rfl T.vc boot_list) aB))) (bB gC T.dU ahF (ay (av 0) (ay (gh rfl T.vc boot_list) aB))))))) (aZ (cg iS)) fh) ?_;exact(aZ (cg (jf (iE gu (bB eU T.eK ahM (ay (av 0) aB)) (bB eU T.eK ahM (ay (av 1) aB))) (jz (bB Fg T.yt boot_all (ay (fT (N':=["one","other"]) (pick:=[η,η]) (cP.of rfl rfl) (aao (ay (av 0) (ay (av 1) aB)) T.JR) (λ_ _ _ _ _ _=>(DJ (n:=2) (sF (b9 (i:=0) (hN:=(by decide +kernel:χ (["one","other"]:List Str)))) (sF (b9 (i:=1) (hN:=(by decide +kernel:χ (["one","other"]:List Str)))) DI)))) (λ_ _ _ _ _ _=>gg) (λ_ _ _ _ _ _=>(bH T.vG ih (hr.mono (by omega)) (ay (av 0) (ay (av 1) aB))))) aB))))))
theorem Bk:cK ["table","words","place"] ["table"] (aV qH):=⟨rfl,rfl,rfl,by decide +kernel,rfl,by decide +kernel,by decide +kernel⟩
theorem Vu(T:Tx K mg):bX P w K mg base bQ 1 T.lR T.D3 ["table"] (bY K 1 rY) :=
 ek (k:=0) T.EK.fn Bk rfl rfl λcdv A outer s H E hr=>by
  show cA _ _ pP;unfold pP;refine aU (bK (i:=1) (kI (ay (jB Ff T.kT F6 (ay (bB eU T.eK ahM (ay (av 0) aB)) aB)) aB)) (hN:=Bk.nd)) ?_;refine aU (gq (ji (ay aR (ay (bB eU T.eK ahM (ay (av 0) aB)) aB)) T.cZ) (b9 (i:=2) (hN:=Bk.nd)) (aZ (kE (IW (av 1) (uW cj (fT (N':=["is_tied"]) (pick:=[η]) (cP.of rfl rfl) (k7 (oM (cu cI (av 0) (av 2)) iR (iQ (av 2)))) (λ_ _ _ _ _ _=>(b9 (i:=0) (hN:=(by decide +kernel:χ (["is_tied"]:List Str))))) (λ_ _ _ _ _ _=>gg) (λ_ _ _ _ _ _=>(cu vt cj (jB adR T.rU boot_int (ay (av 0) aB)))))))))) ?_
  exact(aZ (cg (uW cj (av 1))))
theorem kF:cK ["pot","text","signs","odds","at","sign","words","place","odd","some"] ["pot","text","signs","odds"] (aV qV):=⟨rfl,rfl,rfl,by decide +kernel,rfl,by decide +kernel,by decide +kernel⟩
theorem VD(T:Tx K mg):bX P w K mg base bQ 2 T.l8 T.Eh ["pot","text","signs","odds"] (bY K 4 vh) :=
 ek (k:=1) T.EV.fn kF rfl rfl λcdv A outer s H E hr=>by
  show cA _ _ nU;unfold nU;refine aU (bK (i:=4) (bH T.fc (fE T) (hr.mono (by decide)) (ay (av 0) (ay (bh ef (bB eU T.eK ahM (ay (av 1) aB)) aR) aB))) (hN:=kF.nd)) ?_
  refine aU (bK (i:=5) (cu vt (av 2) (bH T.fc (fE T) (hr.mono (by decide)) (ay (av 0) (ay (bB eU T.eK ahM (ay (av 2) aB)) aB)))) (hN:=kF.nd)) ?_
  refine aU (bK (i:=6) (xQ (av 1) cj) (hN:=kF.nd)) ?_;refine aU (bK (i:=7) (bH T.fc (fE T) (hr.mono (by decide)) (ay (av 0) (ay (bB eU T.eK ahM (ay (av 6) aB)) aB))) (hN:=kF.nd)) ?_
  refine aU (bK (i:=8) (cu cI (av 3) (bH T.fc (fE T) (hr.mono (by decide)) (ay (av 0) (ay (bB eU T.eK ahM (ay (av 3) aB)) aB)))) (hN:=kF.nd)) ?_
  refine aU (bK (i:=9) (fK (ay (av 1) (ay (bh ng (bh ng (rL (av 1) iR (iQ (av 4))) (av 5)) (rL (av 1) (iQ (av 4)) iR)) (ay (bh ng (rL (av 1) iR (iQ (av 4))) (rL (av 1) (iQ (bh ef (av 4) aR)) iR)) (ay (bh ng (bh ng (rL (av 1) iR (iQ (av 4))) (av 5)) (rL (av 1) (iQ (bh ef (av 4) aR)) iR)) aB))))) (hN:=kF.nd)) ?_;refine aU (bK (i:=9) (bh kL (av 9) (fK (ay (uW cj (bh kL (oM (av 6) iR (iQ (av 7))) (oM (av 6) (iQ (bh ef (av 7) aR)) iR))) (ay (uW cj (bh kL (oM (av 6) iR (iQ (bh ef (av 7) aR))) (oM (av 6) (iQ (av 7)) iR))) (ay (av 8) aB))))) (hN:=kF.nd)) ?_;refine aU (bK (i:=9) (bh kL (av 9) (fK (ay (bh ng cj (av 1)) (ay (bh ng (av 1) cj) (ay (uW cj (bh kL (bh kL (oM (av 6) iR (iQ (av 7))) (fK (ay (av 8) aB))) (oM (av 6) (iQ (bh ef (av 7) aR)) iR))) (ay (bh ng (av 1) (av 5)) aB)))))) (hN:=kF.nd)) ?_;exact(aZ (cg (cu cI (av 9) (bH T.fc (fE T) (hr.mono (by decide)) (ay (av 0) (ay (bB eU T.eK ahM (ay (av 9) aB)) aB))))))
theorem uK:cK ["text","words","table","place","other"] ["text"] (aV qE):=⟨rfl,rfl,rfl,by decide +kernel,rfl,by decide +kernel,by decide +kernel⟩
theorem Vs(T:Tx K mg):bX P w K mg base bQ 2 T.lO T.DY ["text"] (bY K 1 rX) :=
 ek (k:=1) T.EI.fn uK rfl rfl λcdv A outer s H E hr=>by
  show cA _ _ kj;unfold kj;refine aU (bK (i:=1) (xQ (av 0) cj) (hN:=uK.nd)) ?_;refine aU (d9 (PW.pt (oN (dJ (VZ (nB hr)) (cu cI (av 1) aR) (fT (N':=["number"]) (pick:=[η]) (cP.of rfl rfl) (ji (ay aR (ay aR aB)) T.cZ) (λ_ _ _ _ _ _=>(b9 (i:=0) (hN:=(by decide +kernel:χ (["number"]:List Str))))) (λ_ _ _ _ _ _=>gg) (λ_ _ _ _ _ _=>(jB Ff T.kT F6 (ay (av 0) aB))))) (oO (dJ jD (jB adQ T.rU boot_int (ay (cu cI (av 1) aR) aB)) (bB eU T.eK ahM (ay (av 1) aB)))))) (aZ (cg rM)) fh) ?_
  refine aU (mX (i:=2) (hN:=uK.nd) (N':=["word","words"]) (pick:=[η,ζ 1]) (cP.of rfl rfl) (k7 (av 1)) (λ_ _ _ _ _ _=>(b9 (i:=0) (hN:=(by decide +kernel:χ (["word","words"]:List Str))))) (λ_ _ _ _ _ _=>gg) (λ_ _ _ _ _ _=>(bh BJ (fK (ay iS aB)) (bB eU T.eK ahM (ay (av 1) aB))))) ?_
  refine aU (gq (ji (ay aR (ay (bB eU T.eK ahM (ay (av 1) aB)) aB)) T.cZ) (b9 (i:=3) (hN:=uK.nd)) (aU (d9 (PW.pt (oN (dJ jD (bB eU T.eK ahM (ay (cu cI (av 1) (av 3)) aB)) (av 3)) (oO (dJ (V0 (nB hr)) (fT (N':=["sign"]) (pick:=[η]) (cP.of rfl rfl) (aap (cu cI (av 1) (av 3))) (λ_ _ _ _ _ _=>(b9 (i:=0) (hN:=(by decide +kernel:χ (["sign"]:List Str))))) (λ_ _ _ _ _ _=>(kH (dJ VY (av 0) cj))) (λ_ _ _ _ _ _=>(av 0))) (fK aB))))) (aZ (cg rM)) fh) (aZ (gq (fm (ay (av 3) aB) T.cZ) (b9 (i:=4) (hN:=uK.nd)) (aU (mY (iE gu (cu vt (cu cI (av 1) (av 3)) (av 4)) cj) (nG (cu cI (av 2) (av 3)) (av 4))) (aZ (mY (iE gu (cu vt (cu cI (av 1) (av 3)) (av 4)) cj) (nG (cu cI (av 2) (av 4)) (av 3))))))))) ?_
  exact(aZ (cg (bH T.vH (BG T) (hr.mono (by decide)) (ay (av 2) aB))))
theorem uN:cK ["e","some","words"] ["e"] (aV qR):=⟨rfl,rfl,rfl,by decide +kernel,rfl,by decide +kernel,by decide +kernel⟩
theorem VP(T:Tx K mg):Aa P w K mg base 1 T.l0 T.Ec ["e"] (bY K 1 yw) :=
 abV (k:=0) T.ES.fn uN rfl rfl λcdv A outer s H E hr=>by
  show cA _ _ tP;unfold tP;refine aU (bK (i:=1) (fK (ay (bB (jm T.gE) T.dU ahF (ay (av 0) (ay (jA T.Lw T.JQ) aB))) (ay (bB (jm T.gE) T.dU ahF (ay (av 0) (ay (jA T.Lv T.JP) aB))) (ay (bB (jm T.gE) T.dU ahF (ay (av 0) (ay (jA T.Lu T.JO) aB))) (ay (bB (jm T.gE) T.dU ahF (ay (av 0) (ay (jA T.Ls T.JN) aB))) aB))))) (hN:=uN.nd)) ?_;refine aU (bK (i:=1) (bh kL (av 1) (fK (ay (bB (jm T.gE) T.dU ahF (ay (av 0) (ay (jA T.Lr T.JM) aB))) (ay (bB (jm T.gE) T.dU ahF (ay (av 0) (ay (jA T.Lq T.JL) aB))) (ay (bB (jm T.gE) T.dU ahF (ay (av 0) (ay (jA T.Lp T.JK) aB))) (ay (bB (jm T.gE) T.dU ahF (ay (av 0) (ay (jA T.Lo T.JJ) aB))) aB)))))) (hN:=uN.nd)) ?_;refine aU (bK (i:=1) (bh kL (av 1) (fK (ay (bB (jm T.gE) T.dU ahF (ay (av 0) (ay (jA T.Ln T.JI) aB))) (ay (bB (jm T.gE) T.dU ahF (ay (av 0) (ay (jA T.Lm T.JH) aB))) (ay (bB (jm T.gE) T.dU ahF (ay (av 0) (ay (jA T.Ll T.JG) aB))) aB))))) (hN:=uN.nd)) ?_;refine aU (d9 (PW.pt (oN (dJ jD (UO (av 1) iS) aR) (oO (j4 (gV (bB (jm T.gE) T.dU ahF (ay (av 0) (ay (gh rfl T.JV ael) aB)))))))) (aZ (cg cj)) fh) ?_;refine aU ?_ ?_
  ·with_reducible refine bK (i:=2) ?_ ?_ ?_ ?_ ?_ ?_
   ·with_reducible refine fK ?_
    with_reducible refine ay ?_ ?_ ?_
    ·exact cj
    ·skip
     with_reducible refine ay ?_ ?_ ?_
     ·exact cj
     ·skip
      with_reducible refine ay ?_ ?_ ?_
      ·exact cj
      ·skip
       with_reducible refine ay ?_ ?_ ?_
       ·exact cj
       ·skip
        with_reducible refine ay ?_ ?_ ?_
        ·exact cj
        ·skip
         with_reducible refine ay ?_ ?_ ?_
         ·exact cj
         ·skip
          with_reducible refine ay ?_ ?_ ?_
          ·exact cj
          ·skip
           with_reducible refine ay ?_ ?_ ?_
           ·exact cj
           ·skip
            with_reducible refine ay ?_ ?_ ?_
            ·exact cj
            ·skip
             with_reducible refine ay ?_ ?_ ?_
             ·exact cj
             ·skip
              with_reducible refine ay ?_ ?_ ?_
              ·exact cj
              ·skip
               with_reducible exact aB
              ·exact bS rfl
             ·exact bS rfl
            ·exact bS rfl
           ·exact bS rfl
          ·exact bS rfl
         ·exact bS rfl
        ·exact bS rfl
       ·exact bS rfl
      ·exact bS rfl
     ·exact bS rfl
    ·exact bS rfl
   ·exact uN.nd
   ·rfl
   ·first|exact Or.inl rfl|exact Or.inr rfl
   ·rfl
   ·first|exact .inl rfl|exact .inr rfl
  ·skip
   exact(aZ (cg (cu cI (av 2) (UK (av 1) iS))))
theorem Ia:cK ["thing","e"] ["thing"] (aV qF):=⟨rfl,rfl,rfl,by decide +kernel,rfl,by decide +kernel,by decide +kernel⟩
theorem yb(T:Tx K mg):bX P w K mg base bQ 8 T.lP T.DZ ["thing"] (bY K 1 eL) :=
 ek (k:=7) T.sL.fn Ia rfl rfl λcdv A outer s H E hr=>by
  show cA _ _ lF;unfold lF;exact(aZ (Rq (T:=eW) (i:=1) (aZ (cg (bH T.vF (Vp T) (hr.mono (by decide)) (ay (av 0) aB)))) (λW pn=>(uh (N3 (N5 T.vF (Vl T) (hr.mono (by decide)) (ay (av 0) aB))))) (λea=>(UM T.ES (VP T) (jq.held (hr.mono (by decide))) (ay (av 1) aB))) T.Lk (N1 T.xw) (hN:=Ia.nd)))
theorem jd:cK ["script","k","pot","table","text","odds","turn","other","due","thing"] ["script"] (aV qX):=⟨rfl,rfl,rfl,by decide +kernel,rfl,by decide +kernel,by decide +kernel⟩
theorem VF(T:Tx K mg):bX P w K mg base bQ 9 T.ku T.Ej ["script"] (bY K 1 yx) :=
 ek (k:=8) T.LZ.fn jd rfl rfl λcdv A outer s H E hr=>by
  show cA _ _ pT;unfold pT;refine aU (gq (fm (ay (bB adO T.JT boot_max (ay aR (ay (bB sP T.oU aiO (ay (bB eU T.eK ahM (ay (av 0) aB)) (ay aR aB))) aB))) aB) T.cZ) (b9 (i:=1) (hN:=jd.nd)) ?_) ?_
  ·skip
   refine aU (bK (i:=2) (bH T.EM (Vx T) (hr.mono (by decide)) (ay (bH T.ET (VB T) (hr.mono (by decide)) (ay (av 0) (ay (av 1) aB))) aB)) (hN:=jd.nd)) ?_
   refine aU (bK (i:=3) (bH T.EU (VC T) (hr.mono (by decide)) (ay (av 2) (ay aR aB))) (hN:=jd.nd)) ?_
   refine aU (bK (i:=4) (bH T.EK (Vu T) (hr.mono (by decide)) (ay (av 3) aB)) (hN:=jd.nd)) ?_
   refine aU ?_ ?_
   ·with_reducible refine bK (i:=5) ?_ ?_ ?_ ?_ ?_ ?_
    ·with_reducible refine fK ?_
     with_reducible refine ay ?_ ?_ ?_
     ·exact cj
     ·skip
      with_reducible refine ay ?_ ?_ ?_
      ·exact cj
      ·skip
       with_reducible refine ay ?_ ?_ ?_
       ·exact cj
       ·skip
        with_reducible refine ay ?_ ?_ ?_
        ·exact cj
        ·skip
         with_reducible refine ay ?_ ?_ ?_
         ·exact cj
         ·skip
          with_reducible refine ay ?_ ?_ ?_
          ·exact cj
          ·skip
           with_reducible refine ay ?_ ?_ ?_
           ·exact cj
           ·skip
            with_reducible refine ay ?_ ?_ ?_
            ·exact cj
            ·skip
             with_reducible refine ay ?_ ?_ ?_
             ·exact cj
             ·skip
              with_reducible refine ay ?_ ?_ ?_
              ·exact cj
              ·skip
               with_reducible refine ay ?_ ?_ ?_
               ·exact cj
               ·skip
                with_reducible refine ay ?_ ?_ ?_
                ·exact cj
                ·skip
                 with_reducible refine ay ?_ ?_ ?_
                 ·exact cj
                 ·skip
                  with_reducible exact aB
                 ·exact bS rfl
                ·exact bS rfl
               ·exact bS rfl
              ·exact bS rfl
             ·exact bS rfl
            ·exact bS rfl
           ·exact bS rfl
          ·exact bS rfl
         ·exact bS rfl
        ·exact bS rfl
       ·exact bS rfl
      ·exact bS rfl
     ·exact bS rfl
    ·exact jd.nd
    ·rfl
    ·first|exact Or.inl rfl|exact Or.inr rfl
    ·rfl
    ·first|exact .inl rfl|exact .inr rfl
   ·skip
    refine aU (bK (i:=5) (bh kL (av 5) (fK (ay cj (ay cj (ay cj aB))))) (hN:=jd.nd)) ?_;refine aU (gq (fm (ay aR aB) T.cZ) (b9 (i:=6) (hN:=jd.nd)) ?_) ?_
    ·skip
     refine aU (bK (i:=7) (bH T.EV (VD T) (hr.mono (by decide)) (ay (av 2) (ay (av 4) (ay cj (ay (av 5) aB))))) (hN:=jd.nd)) ?_
     refine aU (bK (i:=8) (bH T.EI (Vs T) (hr.mono (by decide)) (ay (av 7) aB)) (hN:=jd.nd)) ?_
     refine aU (d9 (dJ BK (av 8) rM) (aZ (bK (i:=8) cj (hN:=jd.nd))) fh) ?_;exact(aZ (d9 (j4 (gV (bH T.vG (BF T 3) (hr.mono (by decide)) (ay (bH T.sL (yb T) (hr.mono (by decide)) (ay (av 7) aB)) (ay (av 8) aB))))) (aZ (cg iS)) fh))
    ·skip
     refine aU ?_ ?_
     ·with_reducible refine bK (i:=9) ?_ ?_ ?_ ?_ ?_ ?_
      ·with_reducible refine cu cI ?_ ?_ ?_
       ·with_reducible refine fK ?_
        with_reducible refine ay ?_ ?_ ?_
        ·exact rM
        ·skip
         with_reducible refine ay ?_ ?_ ?_
         ·exact aR
         ·skip
          with_reducible refine ay ?_ ?_ ?_
          ·exact iS
          ·skip
           with_reducible refine ay ?_ ?_ ?_
           ·exact(fK (ay (av 4) aB))
           ·skip
            with_reducible refine ay ?_ ?_ ?_
            ·exact(j3 (ay (av 4) aB))
            ·skip
             with_reducible refine ay ?_ ?_ ?_
             ·exact UN
             ·skip
              with_reducible refine ay ?_ ?_ ?_
              ·exact(bH T.vH (BG T) (hr.mono (by decide)) (ay (av 3) aB))
              ·skip
               with_reducible exact aB
              ·exact bS rfl
             ·exact bS rfl
            ·exact bS rfl
           ·exact bS rfl
          ·exact bS rfl
         ·exact bS rfl
        ·exact bS rfl
       ·exact(bH T.fc (fE T) (hr.mono (by decide)) (ay (av 2) (ay aR aB)))
       ·exact λ_ _=>rfl
      ·exact jd.nd
      ·rfl
      ·first|exact Or.inl rfl|exact Or.inr rfl
      ·rfl
      ·first|exact .inl rfl|exact .inr rfl
     ·skip
      exact(aZ (d9 (PW.pt (oN (dJ jD (bH T.sL (yb T) (hr.mono (by decide)) (ay (av 9) aB)) cj) (oO (j4 (gV (bH T.vG (BF T 3) (hr.mono (by decide)) (ay (bH T.sL (yb T) (hr.mono (by decide)) (ay (av 4) aB)) (ay (bH T.vH (BG T) (hr.mono (by decide)) (ay (av 3) aB)) aB)))))))) (aZ (cg iS)) fh))
  ·skip
   exact(aZ (cg (iE gu (bH T.sL (yb T) (hr.mono (by decide)) (ay cj aB)) cj)))
end
end Ev
namespace Ev
open PySem L2
theorem bf{s t:ah}{e e':Ev}{c c':aa}(h:s e c=.ok (.nx e') c'):aD s t e c=t e' c':=by rw[mL,h];rfl
theorem ig{i:Int}(h:0<=i):∃n:Nat,i=n:=⟨i.toNat,by omega⟩
theorem lg{g:Gd}{s:ah}(inv:Nat->Ev->aa->Prop):∀(items:List D) (k:Nat) (e:Ev) (c:aa),inv k e c ->
  (∀i x,items[i]? = ζ x->∀e c,inv (k+i) e c->∃e' e'' c' c'',g x e c=.ok e' c'/\s e' c'=.ok (.nx e'') c''/\inv (k+i+1) e'' c'') ->
  ∃e' c',inv (k+items.length) e' c'/\cJ (λ_=>True) g s items e c=.ok (.nx e') c'
 |[],k,e,c,hi,_=>⟨e,c,hi,by simp⟩
 |x::xs,k,e,c,hi,h=>by
  obtain⟨e',e'',c',c'',h1,h2,h3⟩:=h 0 x rfl e c hi;obtain⟨e3,c3,i3,h4⟩:=lg inv xs (k+1) e'' c'' h3 λi y hy e c hi=>by
   have:=h (i+1) y (by simpa using hy) e c (by rwa[show k+(i+1)=k+1+i by omega])
   rwa[show k+(i+1)+1=k+1+i+1 by omega]at this
  exact⟨e3,c3,by rwa[ahu,show k+(xs.length+1)=k+1+xs.length by omega],by rw[lq,h1,R.aA,h2];exact h4⟩
def ez(j:Nat) (n:Nat) (c:aa):Prop:=c.length=n/\j<n/\∃p:Int,c[j]? = ζ (.lst [.int p])
theorem ez.set{j n:Nat}{c:aa}(h:ez j n c) (p:Int):ez j n (c.set j (.lst [.int p])):=by
 obtain⟨h1,h2,_⟩:=h;exact⟨by simp[h1],h2,p,by rw[ah6 (by omega)]⟩
theorem g7{j n:Nat}{c:aa}{cC:Int}(h:ez j n c) (h0:0<cC) (h1:cC<1073741824) :
  ∃(x:Int) (c':aa),0<=x/\x<cC/\ez j n c'/\aS [.ref j,.int cC] c=.ok (.int x) c':=by
 obtain⟨hl,hj,p,hp⟩:=id h;refine⟨p % cC,c.set j (.lst [.int (p/cC)]),ajm _ (by omega),ajn _ h0,h.set _,?_⟩
 have e1:aG (.ref j) (.int 0) c=.ok (.int p) c:=by
  unfold aG gp;simp[hp]
 have e2:kD (.ref j) (.int 0) (.int (p/cC)) c=.ok () (c.set j (.lst [.int (p/cC)])):=by
  unfold kD;simp[hp,gi]
 have e3:(c.set j (.lst [.int (p/cC)])).take c.length=c.set j (.lst [.int (p/cC)]):=by
  rw[ajj];simp
 simp(disch:=omega) [aS,pQ,e1,ni,sJ,e2,e3]
theorem S5(cell:Int) (c:aa):∃p:Int,nj [.int cell] c=.ok (.ref c.length) (c++[.lst [.int p]]):=by
 by_cases h:10^18<=cell
 ·refine⟨cell-10^18,?_⟩;simp(disch:=omega) [nj,pR,IF,h];rw[if_pos (by simpa using h)]
  simp[dF]
 ·obtain⟨e',c',⟨⟨q,v1,v2,rfl⟩,rfl⟩,hf⟩:=LG (g:=az 2) (s:=(aD (aE 3 (au cV (au eB (au aX (au aX (au cV (ak 0) (dC (.int 2147483629))) (au eB (dC (.int 7919)) (ak 2))) (dC (.int 1))) (dC (.int 48271))) (dC (.int 2147483647)))) (aD (aE 3 (au cV (au aX (au aX (au eB (ak 3) (ak 3)) (au eB (dC (.int 69621)) (ak 2))) (dC (.int 7))) (dC (.int 2147483587)))) (aE 1 (au aX (au eB (ak 1) (dC (.int 2147483587))) (ak 3))))))
   (λe c'=>(∃q v1 v2,e=[ζ (.int cell),ζ (.int q),v1,v2])/\c'=c) (aL 0 64) [ζ (.int cell),ζ (.int 0),η,η] c ⟨⟨0,η,η,rfl⟩,rfl⟩ (λx hx e c' ⟨⟨q,v1,v2,he⟩,hc⟩=>by
    obtain⟨i,rfl,i0,i1⟩:=oW hx;subst he;subst hc;have b0:0<=(cell % 2147483629+7919*i+1)*48271 % 2147483647:=ajm _ (by decide)
    have b1:(cell % 2147483629+7919*i+1)*48271 % 2147483647<2147483647:=ajn _ (by decide)
    generalize hm:(cell % 2147483629+7919*i+1)*48271 % 2147483647=m at b0 b1
    refine⟨_,[ζ (.int cell),ζ (.int (q*2147483587+(m*m+69621*i+7) % 2147483587)),ζ (.int i),ζ (.int ((m*m+69621*i+7) % 2147483587))],_,_,rfl,by simp(disch:=omega) [ni,BW,mul_r,hm],⟨⟨_,_,_,rfl⟩,rfl⟩⟩)
  refine⟨q,?_⟩;have hh:¬(1000000000000000000<=cell):=by simpa using h
  simp(disch:=omega) [nj,pR,IF,hh];rw[hf];simp[dF]
theorem adN(ns:List Int) (k:Int) (h:0<=k) (c:aa):∃x:Int,nt [.bw ns,.int k] c=.ok (.int x) c:=by
 by_cases q:k<ns.length
 ·have hk:k.toNat<ns.length:=by omega
  refine⟨ns[k.toNat],?_⟩;have e:aG (.bw ns) (.int k) c=.ok (.int ns[k.toNat]) c:=by
   show(match cM (ns.map D.int) k with|some d=>R.ok d c|none=>R.bad)=_
   have:cM (ns.map D.int) k=ζ (.int ns[k.toNat]):=by
    have:=ko (xs:=ns.map D.int) (j:=k.toNat) (v:=.int ns[k.toNat]) (by simp[hk])
    rw[Int.toNat_of_nonneg h]at this;exact this
   rw[this]
  simp[nt,pS,q,e]
 ·exact⟨0,by simp[nt,pS,q]⟩
theorem take2{j:Nat}{c:aa}{p cC:Int}(hp:c[j]? = ζ (.lst [.int p])) (h0:0<cC) (h1:cC<1073741824):aS [.ref j,.int cC] c=.ok (.int (p % cC)) (c.set j (.lst [.int (p/cC)])):=by
 have hj:j<c.length:=(ahz.mp hp).1;have e1:aG (.ref j) (.int 0) c=.ok (.int p) c:=by
  unfold aG gp;simp[hp]
 have e2:kD (.ref j) (.int 0) (.int (p/cC)) c=.ok () (c.set j (.lst [.int (p/cC)])):=by
  unfold kD;simp[hp,gi]
 have e3:(c.set j (.lst [.int (p/cC)])).take c.length=c.set j (.lst [.int (p/cC)]):=by
  rw[ajj];simp
 simp(disch:=omega) [aS,pQ,e1,ni,sJ,e2,e3]
def PO(j n:Nat) (os:List Nat) (c:aa):Prop:=c.length=n+1/\j<n/\(∃p:Int,c[j]? = ζ (.lst [.int p]))/\c[n]? = ζ (.lst (nD os))
theorem aak(os:List Nat) (i k:Nat):(os.take i++k::os.drop i).Perm (k::os):=by
 refine List.perm_middle.trans ?_;rw[List.take_append_drop]
def rR:ah:=(dS (vJ (ak 2) (aC 2 aS (ao (ak 0) (ao (au aX (ak 3) (dC (.int 1))) aq))) (ak 3)))
theorem U0{j n k:Nat}{os:List Nat}{c:aa}(hP:PO j n os c) (hk:os.length=k) (hk':k<1000) (a1:Option D) :
  ∃os' c',PO j n os' c'/\os'.Perm (k::os)/\rR [ζ (.ref j),a1,ζ (.ref n),ζ (.int k)] c=.ok (.nx [ζ (.ref j),a1,ζ (.ref n),ζ (.int k)]) c':=by
 obtain⟨h1,h2,⟨p,h3⟩,h4⟩:=hP;have hs:=dR (n:=1000) (by decide)
 have ht:=take2 (cC:=(k:Int)+1) h3 (by omega) (by omega)
 have x0:=ajm p (show(k:Int)+1≠0 by omega)
 have x1:=ajn p (show(0:Int)<(k:Int)+1 by omega)
 generalize p % ((k:Int)+1)=x at ht x0 x1
 obtain⟨i,rfl⟩:=ig x0
 generalize hc1:c.set j (.lst [.int (p/((k:Int)+1))])=c1 at ht
 have l1:c1.length=n+1:=by rw[<-hc1];simp[h1]
 have q1:c1[n]? = ζ (.lst (nD os)):=by rw[<-hc1,aii (by omega)];exact h4
 have q0:c1[j]? = ζ (.lst [.int (p/((k:Int)+1))]):=by rw[<-hc1,ah6 (by omega)]
 refine⟨os.take i++k::os.drop i,c1.set n (.lst (nD (os.take i++k::os.drop i))),⟨by simp[l1],h2,⟨_,by rw[aii (by omega)];exact q0⟩,by rw[ah6 (by omega)]⟩,aak os i k,?_⟩
 have e:nD (os.take i++k::os.drop i)=(nD os).take i ++ .int k::(nD os).drop i:=by simp[nD,aj4,List.map_drop]
 have hin:vJ (ak 2) (aC 2 aS (ao (ak 0) (ao (au aX (ak 3) (dC (.int 1))) aq))) (ak 3) [ζ (.ref j),a1,ζ (.ref n),ζ (.int k)] c=.ok .aH (c1.set n (.lst (nD (os.take i++k::os.drop i)))):=by
  rw[Od];simp only[bD,gz,gs,R.aA,x_call,bJ,dw,fC,bI,ju,ahu,ahK,if_pos,ht,q1];rw[if_pos ⟨⟨by omega,by rw[ahr];omega⟩,by rw[ahr];omega,rfl⟩,aiG,e]
 unfold rR;rw[uo,hin];rfl
theorem U1{j n:Nat}{q:Int}{c c3:aa}{l:List D}{v:Option D}(hn:c.length=n) (b:-4611686018427387904<=q/\q<4611686018427387904) (hf:cJ (λ_=>True) (az 3) rR (aL 0 q) [ζ (.ref j),ζ (.int q),ζ (.ref n),η] (c++[.lst []])=.ok (.nx [ζ (.ref j),ζ (.int q),ζ (.ref n),v]) c3)
  (ht:gf [.ref n] c3=.ok (.tup l) c3) (nr:bP l=Θ):nk [.ref j,.int q] c=.ok (.tup l) (c3.take n):=by
 have hb:tM=aD (aE 2 (er aq)) (aD (bU (bG (ao (ak 1) aq)) (az 3) rR) (aP (aF gf (ao (ak 2) aq)))):=rfl;have e0:(aE 2 (er aq)) [ζ (.ref j),ζ (.int q),η,η] c=.ok (.nx [ζ (.ref j),ζ (.int q),ζ (.ref n),η]) (c++[.lst []]):=by simp[hn]
 have e1:(bU (bG (ao (ak 1) aq)) (az 3) rR) [ζ (.ref j),ζ (.int q),ζ (.ref n),η] (c++[.lst []])=.ok (.nx [ζ (.ref j),ζ (.int q),ζ (.ref n),v]) c3:=by
  simp only[iL,gH,bJ,bD,gz,gs,bI,R.aA];rw[if_pos (by omega)]
  exact hf
 have e2:(aP (aF gf (ao (ak 2) aq))) [ζ (.ref j),ζ (.int q),ζ (.ref n),v] c3=.ok (.rt (.tup l)) c3:=by simp[ht]
 rw[nk,i8,hb];have es:cH 4 [D.ref j,.int q]=[ζ (.ref j),ζ (.int q),η,η]:=rfl;rw[es,bf e0,bf e1,e2];have j5:noRef (.tup l)=Θ:=nr;simp only[R.aA];unfold dF;dsimp only;rw[if_pos j5,hn]
theorem UZ{j n m:Nat}{c:aa}(hP:ez j n c) (hm:m<1000):∃os c',os.Perm (ε m)/\ez j n c'/\nk [.ref j,.int (m:Int)] c=.ok (.tup (nD os)) c':=by
 obtain⟨hl,hj,p,hp⟩:=hP;have hlen:(aL 0 (m:Int)).length=m:=by rw[d7];omega
 obtain⟨e',c3,⟨os,v,rfl,P3,hp3⟩,hf⟩:=lg (g:=az 3) (s:=rR) (λk e c=>∃os v,e=[ζ (.ref j),ζ (.int (m:Int)),ζ (.ref n),v]/\PO j n os c/\os.Perm (ε k))
  (aL 0 (m:Int)) 0 [ζ (.ref j),ζ (.int (m:Int)),ζ (.ref n),η] (c++[.lst []]) ⟨[],η,rfl,⟨by simp[hl],hj,⟨p,by rw[ahY (by omega)];exact hp⟩,by rw[ahW (by omega),hl];simp⟩,.refl _⟩ (λi x hx e c ⟨os,v,he,P1,hp1⟩=>by
   subst he;have hi:i<(aL 0 (m:Int)).length:=(ahz.mp hx).1;obtain⟨hlt,rfl⟩:=jV hx;rw[aiL];rw[ahZ]at hp1 ⊢;have vz:os.length=i:=by have:=hp1.length_eq;simpa using this
   obtain⟨UY,c2,P2,hp2,h2⟩:=U0 P1 vz (by omega) (ζ (.int (m:Int)))
   refine⟨_,_,_,_,rfl,h2,UY,_,rfl,P2,?_⟩;rw[akR];exact hp2.trans ((hp1.cons i).trans (List.perm_append_singleton i _).symm))
 rw[hlen,ahZ]at hp3;obtain⟨l3,_,⟨p3,q3⟩,q4⟩:=P3;refine⟨os,c3.take n,hp3,⟨by rw[aix];omega,hj,p3,by rw[ajI hj];exact q3⟩,?_⟩
 exact U1 hl (by omega) hf (by unfold gf;dsimp only;rw[show gp c3 (.ref n)=ζ (nD os) by unfold gp;dsimp only;rw[q4]]) (ym os)
def bu(n m:Nat):List D:=(ε m).map λr=>.ref (n+r)
theorem rE{n m r:Nat}(h:r<m):cM (bu n m) (r:Int)=ζ (.ref (n+r)):=ko (by simp[bu,h])
def bZ(m:Nat) (f:Nat->Nat->Bool) (i:Nat):List D:=(ε m).map λk=>.bl (f i k)
def bF(m:Nat) (f:Nat->Nat->Bool):aa:=(ε m).map λi=>.lst (bZ m f i)
def aK(m:Nat) (f:Nat->Nat->Bool):D:=.lst ((ε m).map λi=>.lst (bZ m f i))
def eG(f:Nat->Nat->Bool) (a b:Nat) (v:Bool):Nat->Nat->Bool:=λi k=>if i=a/\k=b then v else f i k
theorem Ik(m:Nat) (f:Nat->Nat->Bool) (i:Nat):(bZ m f i).length=m:=by simp[bZ]
theorem R3{m k:Nat}(f:Nat->Nat->Bool) (i:Nat) (h:k<m):(bZ m f i)[k]? = ζ (.bl (f i k)):=by simp[bZ,h]
theorem Bp(m:Nat) (f:Nat->Nat->Bool) (i:Nat):bP (bZ m f i)=Θ:=iG.mpr λd hd=>by
 obtain⟨k,_,rfl⟩:=ahw.mp hd;rfl
theorem yR{m i:Nat}(f:Nat->Nat->Bool) (c:aa) (h:i<m):(c++bF m f)[c.length+i]? = ζ (.lst (bZ m f i)):=by
 rw[ahW (by omega)]
 simp[bF,h]
theorem aby{m a b:Nat}(f:Nat->Nat->Bool) (v:Bool) (c:aa) (ha:a<m):(c++bF m f).set (c.length+a) (.lst ((bZ m f a).set b (.bl v)))=c++bF m (eG f a b v):=by
 rw[akS _ _ (by omega)]
 congr 1
 rw[Nat.add_sub_cancel_left];apply aj5
 ·simp[bF]
 ·intro i h1 h2;rw[akT];simp only[bF,aj6,aji]
  by_cases e:a=i
  ·subst e;rw[if_pos rfl]
   congr 1
   apply aj5
   ·simp[bZ]
   ·intro k h3 h4;rw[akT];simp only[bZ,aj6,aji,eG]
    by_cases e2:b=k
    ·subst e2;simp
    ·rw[if_neg e2,if_neg (λz=>e2 z.2.symm)]
  ·rw[if_neg e]
   congr 1
   unfold bZ;refine ah5 λk _=>?_
   unfold eG;rw[if_neg (λz=>e z.1.symm)]
theorem sE{m a b:Nat}(f:Nat->Nat->Bool) (v:Bool) (c:aa) (ha:a<m) (hb:b<m):kD (.ref (c.length+a)) (.int (b:Int)) (.bl v) (c++bF m f)=.ok () (c++bF m (eG f a b v)):=by
 have h:=yR f c ha;have p:=aby (b:=b) f v c ha;have hl:=Ik m f a;unfold kD;simp[h,gi,hl,hb,noRef,p]
theorem abX(n:Nat):(π n [D.bl Γ]).flatten=(ε n).map λ_=>D.bl Γ:=by
 induction n with
 |zero=>rfl
 |succ n ih=>rw[aij,aio,ih,ajo,aht,ahR];rfl
def nH:af:=(au iP (bx (ao (dC (.bl Γ)) aq)) (ak 1))
theorem DK{q:Int}{m:Nat}(hq:q=m) (hm:m<1000) (v:Option D) (c:aa):nH [v,ζ (.int q)] c=.ok (.ref c.length) (c++[.lst ((ε m).map λ_=>.bl Γ)]):=by
 have hs:=dR (n:=1000) (by decide)
 have h1:(1:Nat)<=Ω:=dR (by decide)
 have e:(π q.toNat [D.bl Γ]).flatten=(ε m).map λ_=>D.bl Γ:=by rw[abX,hq,aiG]
 unfold nH;simp only[dw,ou,bJ,fC,bI,R.aA,bD,gz,gs,ahu,ahK];rw[if_pos h1];simp only[R.aA,N8,e];rw[if_pos ⟨by omega,by omega,by simp only[ahu,ahK];omega,rfl⟩]
theorem vM{q:Int}{m:Nat}(hq:q=m) (hm:m<1000):∀(items:List D) (v:Option D) (acc:List D) (c:aa),bC (λ_=>True) (az 0) aW nH items [v,ζ (.int q)] acc c=.ok (acc++bu c.length items.length) (c++(ε items.length).map λ_=>.lst ((ε m).map λ_=>.bl Γ))
 |[],v,acc,c=>by simp[bu]
 |x::xs,v,acc,c=>by
  rw[iy];have h1:az 0 x [v,ζ (.int q)] c=.ok [ζ x,ζ (.int q)] c:=rfl;rw[h1,R.aA,mJ,R.aA,if_pos rfl,DK hq hm,R.aA,vM hq hm xs];have e1:acc++[D.ref c.length]++bu (c++[Cell.lst ((ε m).map λ_=>.bl Γ)]).length xs.length=acc++bu c.length (x::xs).length:=by
   rw[ah1,ahC,ahu,ahK]
   congr 1
   unfold bu;rw[ahu,ajo,aht,ahR];simp only[aiM,ahy,aiJ]
   congr 1
   refine ah5 λr _=>?_
   simp only[Function.comp]
   congr 1;omega
  have e2:c++[Cell.lst ((ε m).map λ_=>D.bl Γ)]++(ε xs.length).map (λ_=>Cell.lst ((ε m).map λ_=>D.bl Γ))=c++(ε (x::xs).length).map (λ_=>Cell.lst ((ε m).map λ_=>D.bl Γ)):=by
   rw[ah1]
   congr 1
   rw[ahu,ajo,aht,ahR];rfl
  rw[e1,e2]
theorem Hz(c:aa) (n m:Nat) (f:Nat->Nat->Bool):∀l:List Nat,(∀i∈l,c[n+i]? = ζ (.lst (bZ m f i)))->mS c n (l.map λi=>.ref (n+i))=ζ (l.map λi=>.lst (bZ m f i))
 |[],_=>rfl
 |i::l,h=>by
  have ih:=Hz c n m f l λk hk=>h k (.tail _ hk)
  rw[aht,aht,mS,ih];have:fR c n (.ref (n+i))=ζ (.lst (bZ m f i)):=by
   unfold fR;rw[h i (.head _)];dsimp only;rw[if_pos (by omega)]
  rw[this]
theorem Ew(c:aa) (m:Nat) (f:Nat->Nat->Bool):kc c.length (.lst (bu c.length m)) (c++bF m f)=.ok (aK m f) c:=by
 unfold kc fR bu;rw[Hz _ _ m f (ε m) λi hi=>yR f c (ahH.mp hi)]
 simp[aK]
def bg(p:Nat×Nat):D:=.tup [.int p.1,.int p.2]
def Gr(m:Nat) (ps:List (Nat×Nat)):Prop:=∀p∈ps,p.1<m/\p.2<m
def gO(ps:List (Nat×Nat)):Nat->Nat->Bool:=λi k=>ps.any λp=>(p.1==i&&p.2==k)||(p.2==i&&p.1==k)
theorem join_snoc(ps:List (Nat×Nat)) (p:Nat×Nat):gO (ps++[p])=eG (eG (gO ps) p.1 p.2 Θ) p.2 p.1 Θ:=by
 funext i k
 unfold gO eG;rw[List.any_append]
 by_cases h1:i=p.2/\k=p.1
 ·rw[if_pos h1];simp[h1.1,h1.2]
 ·rw[if_neg h1]
  by_cases h2:i=p.1/\k=p.2
  ·rw[if_pos h2];simp[h2.1,h2.2]
  ·rw[if_neg h2];have e1:(p.1==i&&p.2==k)=Γ:=by
    cases q:(p.1==i&&p.2==k)with
    |false=>rfl
    |true=>simp at q;exact absurd ⟨q.1.symm,q.2.symm⟩ h2
   have e2:(p.2==i&&p.1==k)=Γ:=by
    cases q:(p.2==i&&p.1==k)with
    |false=>rfl
    |true=>simp at q;exact absurd ⟨q.1.symm,q.2.symm⟩ h1
   simp[e1,e2]
def sf:ah:=(aD (fS (dC (.bl Θ)) (fV (au aG (ak 2) (ak 3)) (ak 4))) (fS (dC (.bl Θ)) (fV (au aG (ak 2) (ak 4)) (ak 3))))
theorem Z2{m a b:Nat}{f:Nat->Nat->Bool}{c:aa}(a0 a1:Option D) (ha:a<m) (hb:b<m) :
  sf [a0,a1,ζ (.lst (bu c.length m)),ζ (.int a),ζ (.int b)] (c++bF m f)=.ok (.nx [a0,a1,ζ (.lst (bu c.length m)),ζ (.int a),ζ (.int b)]) (c++bF m (eG (eG f a b Θ) b a Θ)):=by
 have h1:∀c',aG (.lst (bu c.length m)) (.int a) c'=.ok (.ref (c.length+a)) c':=λc'=>by rw[gU,rE ha]
 have h2:∀c',aG (.lst (bu c.length m)) (.int b) c'=.ok (.ref (c.length+b)) c':=λc'=>by rw[gU,rE hb]
 have s1:=sE f Θ c ha hb;have s2:=sE (eG f a b Θ) Θ c hb ha;unfold sf;simp only[mL,wK,fC,R.aA,wJ,dw,bD,gz,gs,h1,h2,s1,s2]
theorem Z5{m:Nat}{ps:List (Nat×Nat)}{c:aa}(hp:Gr m ps) (st:aa->Prop) (hst:∀R:aa,st (c++R)) (a0 a1:Option D) :
  ∃v w,cJ st (gY 2 (eg (az 3) (eg (az 4) iu))) sf (ps.map bg) [a0,a1,ζ (.lst (bu c.length m)),η,η] (c++bF m λ_ _=>Γ)=.ok (.nx [a0,a1,ζ (.lst (bu c.length m)),v,w]) (c++bF m (gO ps)):=by
 obtain⟨v',hf⟩:=DN (α:=Option D×Option D) (st:=st) (g:=(gY 2 (eg (az 3) (eg (az 4) iu)))) (s:=sf) (λi=>c++bF m (gO (ps.take i))) (λ_ v=>[a0,a1,ζ (.lst (bu c.length m)),v.1,v.2]) (ps.map bg) 0 (η,η) (λi _=>hst _) (λi x hx v=>by
  rw[ahZ];have hi:i<ps.length:=by have:=(ahz.mp hx).1;simpa using this
  have ex:x=bg ps[i]:=by
   rw[ahS,ahI hi]at hx;cases hx;rfl
  subst ex;have hq:=hp _ (aih hi);have hs:=Z2 (m:=m) (a:=ps[i].1) (b:=ps[i].2) (f:=gO (ps.take i)) (c:=c) a0 a1 hq.1 hq.2;rw[<-join_snoc,<-List.take_succ_eq_append_getElem hi]at hs;refine⟨[a0,a1,ζ (.lst (bu c.length m)),ζ (.int ps[i].1),ζ (.int ps[i].2)],?_,(ζ (.int ps[i].1),ζ (.int ps[i].2)),hs⟩;simp[bg])
 have e0:gO (ps.take 0)=λ_ _=>Γ:=by funext i k;rfl
 rw[ahZ,ahr,air,e0]at hf;exact⟨v'.1,v'.2,hf⟩
theorem Z6{q:Int}{c c':aa}{l:List D}(a1:Option D) (b1:-4611686018427387904<=q/\q<4611686018427387904) (hl:(aL 0 q).length<Ω) (hc:bC (λ_=>True) (az 0) aW nH (aL 0 q) [η,ζ (.int q)] [] c=.ok l c') :
  (aE 2 (br (bG (ao (ak 0) aq)) [η,ζ 0] (az 0) aW (au iP (bx (ao (dC (.bl Γ)) aq)) (ak 1)))) [ζ (.int q),a1,η,η,η] c=.ok (.nx [ζ (.int q),a1,ζ (.lst l),η,η]) c':=by
 unfold nH at hc;simp only[gG,fB,gH,bJ,bD,gz,gs,bI,R.aA];rw[if_pos (by omega)]
 simp only[R.aA];rw[if_pos hl];have:ee [η,ζ 0] [ζ (D.int q),a1,η,η,η]=[η,ζ (.int q)]:=rfl;rw[this,hc];rfl
theorem Z7{q:Int}{X:D}{c c1 c2:aa}{l:List D}{v w:Option D}{W:D}{s0 s1 s2:ah}(e0:s0 [ζ (.int q),ζ X,η,η,η] c=.ok (.nx [ζ (.int q),ζ X,ζ (.lst l),η,η]) c1)
  (e1:s1 [ζ (.int q),ζ X,ζ (.lst l),η,η] c1=.ok (.nx [ζ (.int q),ζ X,ζ (.lst l),v,w]) c2) (e2:s2 [ζ (.int q),ζ X,ζ (.lst l),v,w] c2=.ok (.rt (.lst l)) c2) (hx:kc c.length (.lst l) c2=.ok W c) :
  ly 5 (aD s0 (aD s1 s2)) [.int q,X] c=.ok W c:=by
 rw[AB];have e3:cH 5 [D.int q,X]=[ζ (.int q),ζ X,η,η,η]:=rfl;rw[e3,bf e0,bf e1,e2];exact hx
theorem Kp{m:Nat}{ps:List (Nat×Nat)}{X:D}{c:aa}(hp:Gr m ps) (hm:m<1000) (hX:(∃k,X=.ref k/\c[k]? = ζ (.lst (ps.map bg)))\/X=.lst (ps.map bg)):jF [.int (m:Int),X] c=.ok (aK m (gO ps)) c:=by
 have hs:=dR (n:=1000) (by decide)
 have hrl:(aL 0 (m:Int)).length=m:=by rw[d7];omega
 have hc:=vM (q:=(m:Int)) (m:=m) rfl hm (aL 0 (m:Int)) η [] c;rw[hrl,ahy]at hc;have hg:(ε m).map (λ_=>Cell.lst ((ε m).map λ_=>D.bl Γ))=bF m λ_ _=>Γ:=rfl
 rw[hg]at hc;have Du:∃st:aa->Prop,(∀R:aa,st (c++R))/\∀(a0 a2:Option D) (R:aa),cS (ak 1) [a0,ζ X,a2,η,η] (c++R)=.ok ⟨ps.map bg,st⟩ (c++R):=by
  rcases hX with⟨k,rfl,hk⟩|rfl
  ·have yN:k<c.length:=(ahz.mp hk).1;have K3:∀R:aa,(c++R)[k]? = ζ (.lst (ps.map bg)):=λR=>by rw[ahY yN];exact hk
   refine⟨λc'=>c'[k]? = ζ (.lst (ps.map bg)),K3,λa0 a2 Rc=>?_⟩
   unfold cS;simp only[bD,gz,gs,R.aA,K3]
  ·exact⟨λ_=>True,λ_=>trivial,λa0 a2 R=>rfl⟩
 obtain⟨st,hst,hd⟩:=Du;obtain⟨v,w,hf⟩:=Z5 (m:=m) (c:=c) hp st hst (ζ (.int (m:Int))) (ζ X);have e1:(bU (cS (ak 1)) (gY 2 (eg (az 3) (eg (az 4) iu))) sf) [ζ (.int (m:Int)),ζ X,ζ (.lst (bu c.length m)),η,η] (c++bF m λ_ _=>Γ)=.ok (.nx [ζ (.int (m:Int)),ζ X,ζ (.lst (bu c.length m)),v,w]) (c++bF m (gO ps)):=by
  rw[iL,hd];exact hf
 have hb:tQ=aD (aE 2 (br (bG (ao (ak 0) aq)) [η,ζ 0] (az 0) aW (au iP (bx (ao (dC (.bl Γ)) aq)) (ak 1)))) (aD (bU (cS (ak 1)) (gY 2 (eg (az 3) (eg (az 4) iu))) sf) (aP (ak 2))):=rfl;rw[jF,hb];exact Z7 (Z6 (ζ X) (by omega) (by rw[hrl];omega) hc) e1 rfl (Ew c m _)
theorem AW{m i:Nat}(f:Nat->Nat->Bool) (h:i<m):cM ((ε m).map λi=>D.lst (bZ m f i)) (i:Int)=ζ (.lst (bZ m f i)):=ko (by simp[h])
theorem uR{m k:Nat}(f:Nat->Nat->Bool) (i:Nat) (h:k<m):cM (bZ m f i) (k:Int)=ζ (.bl (f i k)):=ko (R3 f i h)
theorem JX{os:List Nat}{i:Nat}(h:i<os.length):cM (nD os) (i:Int)=ζ (.int (os[i]:Nat)):=ko (by simp[nD,h])
theorem Dr{os:List Nat}{a:Nat}(h:os.idxOf a<os.length):os[os.idxOf a]=a:=by
 have:a∈os:=akU.mp h;exact List.getElem_idxOf h
theorem KG{os:List Nat}(hn:os.Nodup) {i:Nat}(h:i<os.length):os.idxOf os[i]=i:=by
 have h1:os.idxOf os[i]<os.length:=akU.mpr (aih h);have h2:os[os.idxOf os[i]]=os[i]:=Dr h1;exact(aiT hn).mp h2
def fL(os:List Nat) (f:Nat->Nat->Bool) (i k:Nat):Nat->Nat->Bool:=λa b=>if os.idxOf a<i\/(os.idxOf a=i/\os.idxOf b<k)then(if os.idxOf b<os.length then f (os.idxOf a) (os.idxOf b)else Γ)else Γ
theorem YB{os:List Nat}(hn:os.Nodup) (f:Nat->Nat->Bool) {i k:Nat}(hi:i<os.length) (hk:k<os.length):eG (fL os f i k) os[i] os[k] (f i k)=fL os f i (k+1):=by
 funext a b
 unfold eG fL
 by_cases h:a=os[i]/\b=os[k]
 ·rw[if_pos h,h.1,h.2,KG hn hi,KG hn hk];rw[if_pos (by omega),if_pos hk]
 ·rw[if_neg h]
  by_cases ha:os.idxOf a=i
  ·by_cases hb:os.idxOf b=k
   ·have ea:os[i]=a:=by
     have:=Dr (os:=os) (a:=a) (by omega)
     simpa[ha]using this
    have eb:os[k]=b:=by
     have:=Dr (os:=os) (a:=b) (by omega)
     simpa[hb]using this
    exact absurd ⟨ea.symm,eb.symm⟩ h
   ·have e:(os.idxOf a<i\/(os.idxOf a=i/\os.idxOf b<k))↔(os.idxOf a<i\/(os.idxOf a=i/\os.idxOf b<k+1)):=by omega
    simp only[e]
  ·have e:(os.idxOf a<i\/(os.idxOf a=i/\os.idxOf b<k))↔(os.idxOf a<i\/(os.idxOf a=i/\os.idxOf b<k+1)):=by omega
   simp only[e]
theorem YC{os:List Nat}(f:Nat->Nat->Bool) (i:Nat):∀a b,fL os f i os.length a b=fL os f (i+1) 0 a b:=λa b=>by
 unfold fL
 by_cases hb:os.idxOf b<os.length
 ·have e:(os.idxOf a<i\/(os.idxOf a=i/\os.idxOf b<os.length))↔(os.idxOf a<i+1\/(os.idxOf a=i+1/\os.idxOf b<0)):=by omega
  simp only[e]
 ·simp only[if_neg hb,ite_self]
def ve:ah:=(fS (au aG (au aG (ak 0) (ak 4)) (ak 5)) (fV (au aG (ak 3) (au aG (ak 1) (ak 4))) (au aG (ak 1) (ak 5))))
theorem YI{os:List Nat}(hn:os.Nodup) {m i k:Nat}(hm:os.length=m) (f:Nat->Nat->Bool) {c:aa}(hlt:∀x∈os,x<m) (hi:i<m) (hk:k<m) (a2:Option D) :
  ve [ζ (aK m f),ζ (.tup (nD os)),a2,ζ (.lst (bu c.length m)),ζ (.int i),ζ (.int k)] (c++bF m (fL os f i k))=.ok (.nx [ζ (aK m f),ζ (.tup (nD os)),a2,ζ (.lst (bu c.length m)),ζ (.int i),ζ (.int k)]) (c++bF m (fL os f i (k+1))):=by
 have KZ:os[i]<m:=hlt _ (aih (by omega))
 have hok:os[k]<m:=hlt _ (aih (by omega))
 have h1:∀c',aG (aK m f) (.int (i:Int)) c'=.ok (.lst (bZ m f i)) c':=λc'=>by unfold aK;rw[gU,AW f hi]
 have h2:∀c',aG (.lst (bZ m f i)) (.int (k:Int)) c'=.ok (.bl (f i k)) c':=λc'=>by rw[gU,uR f i hk]
 have h3:∀c',aG (.tup (nD os)) (.int (i:Int)) c'=.ok (.int (os[i]:Nat)) c':=λc'=>by rw[GQ,JX (by omega)]
 have h4:∀c',aG (.tup (nD os)) (.int (k:Int)) c'=.ok (.int (os[k]:Nat)) c':=λc'=>by rw[GQ,JX (by omega)]
 have h5:∀c',aG (.lst (bu c.length m)) (.int (os[i]:Nat)) c'=.ok (.ref (c.length+os[i])) c':=λc'=>by rw[gU,rE KZ]
 have s1:=sE (fL os f i k) (f i k) c KZ hok;rw[YB hn f (by omega) (by omega)]at s1
 unfold ve;simp only[wK,R.aA,wJ,dw,bD,gz,gs,h1,h2,h3,h4,h5,s1]
def oV:ah:=bU (bG (ao (ak 2) aq)) (az 5) ve
theorem YH{q:Int}{T O:D}{c c':aa}{l:List D}{a4 v v':Option D}(b:-4611686018427387904<=q/\q<4611686018427387904) (h:cJ (λ_=>True) (az 5) ve (aL 0 q) [ζ T,ζ O,ζ (.int q),ζ (.lst l),a4,v] c=.ok (.nx [ζ T,ζ O,ζ (.int q),ζ (.lst l),a4,v']) c') :
  oV [ζ T,ζ O,ζ (.int q),ζ (.lst l),a4,v] c=.ok (.nx [ζ T,ζ O,ζ (.int q),ζ (.lst l),a4,v']) c':=by
 unfold oV;simp only[iL,gH,bJ,bD,gz,gs,bI,R.aA];rw[if_pos (by omega)]
 exact h
theorem YG{os:List Nat}(hn:os.Nodup) {m i:Nat}(hm:os.length=m) (hm':m<1000) (f:Nat->Nat->Bool) {c:aa}(hlt:∀x∈os,x<m) (hi:i<m) (v:Option D) :
  ∃v',oV [ζ (aK m f),ζ (.tup (nD os)),ζ (.int (m:Int)),ζ (.lst (bu c.length m)),ζ (.int i),v] (c++bF m (fL os f i 0))=.ok (.nx [ζ (aK m f),ζ (.tup (nD os)),ζ (.int (m:Int)),ζ (.lst (bu c.length m)),ζ (.int i),v']) (c++bF m (fL os f (i+1) 0)):=by
 obtain⟨v',hf⟩:=LF (g:=az 5) (s:=ve) (λk=>c++bF m (fL os f i k)) (λ_ v=>[ζ (aK m f),ζ (.tup (nD os)),ζ (.int (m:Int)),ζ (.lst (bu c.length m)),ζ (.int i),v]) (N:=(m:Int)) (n:=m) rfl v (λk hk v=>by
  exact⟨_,rfl,ζ (.int k),YI hn hm f hlt hi hk (ζ (.int (m:Int)))⟩)
 have e:fL os f i m=fL os f (i+1) 0:=by
  funext a b
  rw[<-hm];exact YC f i a b
 rw[e]at hf;exact⟨v',YH (by omega) hf⟩
theorem len_tab(m:Nat) (f:Nat->Nat->Bool) (c:aa):aT [aK m f] c=.ok (.int (m:Int)) c:=by
 unfold aT aK;simp[gp]
theorem YF{q:Int}{T O W:D}{c c1 c2:aa}{l:List D}{v w:Option D}{s0 s1 s2 s3:ah}(e0:s0 [ζ T,ζ O,η,η,η,η] c=.ok (.nx [ζ T,ζ O,ζ (.int q),η,η,η]) c) (e1:s1 [ζ T,ζ O,ζ (.int q),η,η,η] c=.ok (.nx [ζ T,ζ O,ζ (.int q),ζ (.lst l),η,η]) c1)
  (e2:s2 [ζ T,ζ O,ζ (.int q),ζ (.lst l),η,η] c1=.ok (.nx [ζ T,ζ O,ζ (.int q),ζ (.lst l),v,w]) c2) (e3:s3 [ζ T,ζ O,ζ (.int q),ζ (.lst l),v,w] c2=.ok (.rt (.lst l)) c2) (hx:kc c.length (.lst l) c2=.ok W c) :
  ly 6 (aD s0 (aD s1 (aD s2 s3))) [T,O] c=.ok W c:=by
 rw[AB];have es:cH 6 [T,O]=[ζ T,ζ O,η,η,η,η]:=rfl;rw[es,bf e0,bf e1,bf e2,e3];exact hx
theorem YD{q:Int}{T O:D}{c c':aa}{l:List D}(b1:-4611686018427387904<=q/\q<4611686018427387904) (hl:(aL 0 q).length<Ω) (hc:bC (λ_=>True) (az 0) aW nH (aL 0 q) [η,ζ (.int q)] [] c=.ok l c') :
  (aE 3 (br (bG (ao (ak 2) aq)) [η,ζ 2] (az 0) aW (au iP (bx (ao (dC (.bl Γ)) aq)) (ak 1)))) [ζ T,ζ O,ζ (.int q),η,η,η] c=.ok (.nx [ζ T,ζ O,ζ (.int q),ζ (.lst l),η,η]) c':=by
 unfold nH at hc;simp only[gG,fB,gH,bJ,bD,gz,gs,bI,R.aA];rw[if_pos (by omega)]
 simp only[R.aA];rw[if_pos hl];have:ee [η,ζ 2] [ζ T,ζ O,ζ (D.int q),η,η,η]=[η,ζ (.int q)]:=rfl;rw[this,hc];rfl
theorem YE{q:Int}{T O:D}{c c':aa}{l:List D}{u v:Option D}(b:-4611686018427387904<=q/\q<4611686018427387904) (h:cJ (λ_=>True) (az 4) oV (aL 0 q) [ζ T,ζ O,ζ (.int q),ζ (.lst l),η,η] c=.ok (.nx [ζ T,ζ O,ζ (.int q),ζ (.lst l),u,v]) c') :
  (bU (bG (ao (ak 2) aq)) (az 4) oV) [ζ T,ζ O,ζ (.int q),ζ (.lst l),η,η] c=.ok (.nx [ζ T,ζ O,ζ (.int q),ζ (.lst l),u,v]) c':=by
 simp only[iL,gH,bJ,bD,gz,gs,bI,R.aA];rw[if_pos (by omega)]
 exact h
theorem YS{os:List Nat}{m:Nat}(hp:os.Perm (ε m)) (hm:m<1000) (f:Nat->Nat->Bool) (c:aa):oX [aK m f,.tup (nD os)] c=.ok (aK m (fL os f m 0)) c:=by
 have hs:=dR (n:=1000) (by decide)
 have hn:os.Nodup:=hp.nodup_iff.mpr List.nodup_range;have hl:os.length=m:=by have:=hp.length_eq;simpa using this
 have hlt:∀x∈os,x<m:=λx hx=>ahH.mp (hp.mem_iff.mp hx)
 have hrl:(aL 0 (m:Int)).length=m:=by rw[d7];omega
 have hc:=vM (q:=(m:Int)) (m:=m) rfl hm (aL 0 (m:Int)) η [] c;rw[hrl,ahy]at hc;have hg:(ε m).map (λ_=>Cell.lst ((ε m).map λ_=>D.bl Γ))=bF m (fL os f 0 0):=by
  unfold bF bZ;refine ah5 λi _=>?_
  congr 1
  refine ah5 λk _=>?_
  simp[fL]
 rw[hg]at hc;obtain⟨v',hf⟩:=LF (α:=Option D×Option D) (g:=az 4) (s:=oV) (λi=>c++bF m (fL os f i 0)) (λ_ v=>[ζ (aK m f),ζ (.tup (nD os)),ζ (.int (m:Int)),ζ (.lst (bu c.length m)),v.1,v.2]) (N:=(m:Int)) (n:=m) rfl (η,η) (λi hi v=>by
  obtain⟨w,hw⟩:=YG hn hl hm f hlt hi v.2 (c:=c);exact⟨_,rfl,(ζ (.int i),w),hw⟩)
 have e0:(aE 2 (aF aT (ao (ak 0) aq))) [ζ (aK m f),ζ (.tup (nD os)),η,η,η,η] c=.ok (.nx [ζ (aK m f),ζ (.tup (nD os)),ζ (.int (m:Int)),η,η,η]) c:=by
  have:=len_tab m f c
  generalize aK m f=T at *
  generalize (m:Int)=q at *
  simp[this]
 have hb:tO=aD (aE 2 (aF aT (ao (ak 0) aq))) (aD (aE 3 (br (bG (ao (ak 2) aq)) [η,ζ 2] (az 0) aW (au iP (bx (ao (dC (.bl Γ)) aq)) (ak 1)))) (aD (bU (bG (ao (ak 2) aq)) (az 4) oV) (aP (ak 3)))):=rfl;rw[oX,hb];exact YF e0 (YD (by omega) (by rw[hrl];omega) hc) (YE (by omega) hf) rfl (Ew c m _)
def zQ:af:=(aF o7 (ao (ak 0) aq))
theorem L7(m:Nat) (f:Nat->Nat->Bool):∀(l:List Nat) (v:Option D) (acc:List D) (c:aa),bC (λ_=>True) (az 0) aW zQ (l.map λi=>.lst (bZ m f i)) [v] acc c=.ok (acc++bu c.length l.length) (c++l.map λi=>.lst (bZ m f i))
 |[],v,acc,c=>by simp[bu]
 |i::l,v,acc,c=>by
  rw[aht,iy];have h1:az 0 (.lst (bZ m f i)) [v] c=.ok [ζ (.lst (bZ m f i))] c:=rfl;have h2:zQ [ζ (.lst (bZ m f i))] c=.ok (.ref c.length) (c++[.lst (bZ m f i)]):=by
   unfold zQ;simp only[iM,bJ,bD,gz,bI,R.aA];unfold o7;dsimp only[gp];rw[if_pos (Bp m f i)]
  rw[h1,R.aA,mJ,R.aA,if_pos rfl,h2,R.aA,L7 m f l];have e1:acc++[D.ref c.length]++bu (c++[Cell.lst (bZ m f i)]).length l.length=acc++bu c.length (i::l).length:=by
   rw[ah1,ahC,ahu,ahK]
   congr 1
   unfold bu;rw[ahu,ajo,aht,ahR];simp only[aiM,ahy,aiJ]
   congr 1
   refine ah5 λr _=>?_
   simp only[Function.comp]
   congr 1;omega
  rw[e1,ah1];rfl
def uB(f:Nat->Nat->Bool) (a b:Nat):Nat->Nat->Bool:=eG (eG f a b (!f a b)) b a (!eG f a b (!f a b) b a)
theorem abz{m a b:Nat}(f:Nat->Nat->Bool) (c:aa) (ha:a<m) (hb:b<m):aG (.ref (c.length+a)) (.int (b:Int)) (c++bF m f)=.ok (.bl (f a b)) (c++bF m f):=by
 unfold aG gp;dsimp only;rw[yR f c ha];dsimp only;rw[uR f a hb]
theorem HB{m a b:Nat}(f:Nat->Nat->Bool) {c:aa}{i j:Nat}{a0:Option D}{e:Ev}(he:e[3]? = ζ (ζ (.lst (bu c.length m)))) (hi:e[i]? = ζ (ζ (.int (a:Int)))) (hj:e[j]? = ζ (ζ (.int (b:Int)))) (ha:a<m) (hb:b<m) :
  fS (jN (au aG (au aG (ak 3) (ak i)) (ak j))) (fV (au aG (ak 3) (ak i)) (ak j)) e (c++bF m f)=.ok (.nx e) (c++bF m (eG f a b (!f a b))):=by
 have h1:∀c',aG (.lst (bu c.length m)) (.int (a:Int)) c'=.ok (.ref (c.length+a)) c':=λc'=>by rw[gU,rE ha]
 have h2:=abz f c ha hb;have s1:=sE f (!f a b) c ha hb;simp only[wK,Oa,dw,bD,he,hi,hj,R.aA,h1,h2,wJ,s1]
theorem PL{m a b:Nat}(ha:a<m) (hb:b<m) (hm:m<1000) (f:Nat->Nat->Bool) (c:aa):j8 [aK m f,.int (a:Int),.int (b:Int)] c=.ok (aK m (uB f a b)) c:=by
 have hs:=dR (n:=1000) (by decide)
 have hc:=L7 m f (ε m) η [] c;rw[aiP,ahy]at hc;have hb':tH=aD (aE 3 (br (cS (ak 0)) [η] (az 0) aW (aF o7 (ao (ak 0) aq)))) (aD (fS (jN (au aG (au aG (ak 3) (ak 1)) (ak 2))) (fV (au aG (ak 3) (ak 1)) (ak 2))) (aD (fS (jN (au aG (au aG (ak 3) (ak 2)) (ak 1))) (fV (au aG (ak 3) (ak 2)) (ak 1))) (aP (ak 3)))):=rfl;have e0:(aE 3 (br (cS (ak 0)) [η] (az 0) aW (aF o7 (ao (ak 0) aq)))) [ζ (aK m f),ζ (.int (a:Int)),ζ (.int (b:Int)),η] c=.ok (.nx [ζ (aK m f),ζ (.int (a:Int)),ζ (.int (b:Int)),ζ (.lst (bu c.length m))]) (c++bF m f):=by
  unfold zQ at hc;rw[gG,fB];unfold cS aK;simp only[bD,gz,R.aA];rw[if_pos (by rw[ahr,aiP];omega)]
  have:∀T A B:Option D,ee [η] [T,A,B,η]=[η]:=λ_ _ _=>rfl
  rw[this,hc];rfl
 have e1:=HB f (c:=c) (m:=m) (i:=1) (j:=2) (a0:=η) (e:=[ζ (aK m f),ζ (.int (a:Int)),ζ (.int (b:Int)),ζ (.lst (bu c.length m))]) rfl rfl rfl ha hb;have e2:=HB (eG f a b (!f a b)) (c:=c) (m:=m) (i:=2) (j:=1) (a0:=η) (e:=[ζ (aK m f),ζ (.int (a:Int)),ζ (.int (b:Int)),ζ (.lst (bu c.length m))]) rfl rfl rfl hb ha;rw[j8,hb',AB];have es:cH 4 [aK m f,.int (a:Int),.int (b:Int)]=[ζ (aK m f),ζ (.int (a:Int)),ζ (.int (b:Int)),η]:=rfl;rw[es,bf e0,bf e1,bf e2];exact Ew c m (uB f a b)
def jQ(f:Nat->Nat->Bool):Nat->Nat->Bool:=λi k=>!decide (i=k) && !f i k
def tY:af:=(fY (au cU (ak 1) (ak 0)) (jN (au aG (au aG (ak 2) (ak 1)) (ak 0))))
def pZ:af:=br (bG (ao (ak 1) aq)) [η,ζ 0,ζ 2] (az 0) aW tY
theorem yW(l:List D):l.filter (λ_=>Θ)=l:=by simp
theorem xG{β:Type}(m:Nat) (F:D->β):(aL 0 (m:Int)).map F=(ε m).map λi:Nat=>F (.int (i:Int)):=by
 unfold aL;rw[ahR,show((m:Int)-0).toNat=m by omega]
 refine ah5 λi _=>?_
 simp
theorem afe{m i:Nat}(f:Nat->Nat->Bool) (hi:i<m) (c:aa):bC (λ_=>True) (az 0) aW tY (aL 0 (m:Int)) [η,ζ (.int (i:Int)),ζ (aK m f)] [] c=.ok (bZ m (jQ f) i) c:=by
 have h1:∀c',aG (aK m f) (.int (i:Int)) c'=.ok (.lst (bZ m f i)) c':=λc'=>by unfold aK;rw[gU,AW f hi]
 have:=nO (c:=c) (g:=az 0) (t:=aW) (a:=tY) (λe=>∃v,e=[v,ζ (.int (i:Int)),ζ (aK m f)]) (λ_=>Θ) (λd=>match d with|.int k=>.bl (jQ f i k.toNat)|d=>d) (aL 0 (m:Int)) [η,ζ (.int (i:Int)),ζ (aK m f)] [] ⟨_,rfl⟩ (λd hd e ⟨v,he⟩=>by
  subst he;obtain⟨k',rfl,k0,k1⟩:=oW hd;obtain⟨k,rfl⟩:=ig k0;have h2:∀c',aG (.lst (bZ m f i)) (.int (k:Int)) c'=.ok (.bl (f i k)) c':=λc'=>by rw[gU,uR f i (by omega)]
  refine⟨_,rfl,⟨_,rfl⟩,rfl,λ_=>?_⟩
  show tY [ζ (.int (k:Int)),ζ (.int (i:Int)),ζ (aK m f)] c=_
  generalize aK m f=T at *
  unfold tY
  by_cases e:i=k
  ·subst e;simp[jQ]
  ·have e':¬(i:Int)=k:=by omega
   simp[e',jQ,e,h1,h2])
 rw[this,ahy,yW,xG]
 congr 1
theorem afh{q i:Int}{T a0:Option D}{c:aa}{l:List D}(b:-4611686018427387904<=q/\q<4611686018427387904) (hl:(aL 0 q).length<Ω) (h:bC (λ_=>True) (az 0) aW tY (aL 0 q) [η,ζ (.int i),T] [] c=.ok l c):pZ [ζ (.int i),ζ (.int q),T] c=.ok (.lst l) c:=by
 unfold pZ;simp only[fB,gH,bJ,bD,gz,gs,bI,R.aA];rw[if_pos (by omega)]
 simp only[R.aA];rw[if_pos hl];have:ee [η,ζ 0,ζ 2] [ζ (D.int i),ζ (.int q),T]=[η,ζ (.int i),T]:=by cases T<;>rfl
 rw[this,h];rfl
theorem afd{m:Nat}(f:Nat->Nat->Bool) (hm:m<1000) (c:aa):bC (λ_=>True) (az 0) aW pZ (aL 0 (m:Int)) [η,ζ (.int (m:Int)),ζ (aK m f)] [] c=.ok ((ε m).map λi=>.lst (bZ m (jQ f) i)) c:=by
 have hs:=dR (n:=1000) (by decide)
 have:=nO (c:=c) (g:=az 0) (t:=aW) (a:=pZ) (λe=>∃v,e=[v,ζ (.int (m:Int)),ζ (aK m f)]) (λ_=>Θ) (λd=>match d with|.int k=>.lst (bZ m (jQ f) k.toNat)|d=>d) (aL 0 (m:Int)) [η,ζ (.int (m:Int)),ζ (aK m f)] [] ⟨_,rfl⟩ (λd hd e ⟨v,he⟩=>by
  subst he;obtain⟨k',rfl,k0,k1⟩:=oW hd;obtain⟨k,rfl⟩:=ig k0;refine⟨_,rfl,⟨_,rfl⟩,rfl,λ_=>?_⟩
  exact afh (a0:=η) (by omega) (by rw[d7];omega) (afe f (by omega) c))
 rw[this,ahy,yW,xG]
 congr 1
theorem afg{q:Int}{T:D}{c:aa}{l:List D}(b:-4611686018427387904<=q/\q<4611686018427387904) (hl:(aL 0 q).length<Ω) (hn:aT [T] c=.ok (.int q) c) (h:bC (λ_=>True) (az 0) aW pZ (aL 0 q) [η,ζ (.int q),ζ T] [] c=.ok l c) (nr:bP l=Θ):kX [T] c=.ok (.lst l) c:=by
 have hb:tS=aD (aE 1 (aF aT (ao (ak 0) aq))) (aP (br (bG (ao (ak 1) aq)) [η,ζ 1,ζ 0] (az 0) aW pZ)):=rfl;have e1:(aP (br (bG (ao (ak 1) aq)) [η,ζ 1,ζ 0] (az 0) aW pZ)) [ζ T,ζ (.int q)] c=.ok (.rt (.lst l)) c:=by
  simp only[oq,fB,gH,bJ,bD,gz,gs,bI,R.aA];rw[if_pos (by omega)]
  simp only[R.aA];rw[if_pos hl];have:ee [η,ζ 1,ζ 0] [ζ T,ζ (D.int q)]=[η,ζ (.int q),ζ T]:=rfl;rw[this,h];rfl
 have e0:(aE 1 (aF aT (ao (ak 0) aq))) [ζ T,η] c=.ok (.nx [ζ T,ζ (.int q)]) c:=by simp[hn]
 rw[kX,i8,hb];have es:cH 2 [T]=[ζ T,η]:=rfl;rw[es,bf e0,e1];have j5:noRef (.lst l)=Θ:=nr;simp only[R.aA];unfold dF;dsimp only;rw[if_pos j5,air]
theorem afb{m:Nat}(f:Nat->Nat->Bool) (hm:m<1000) (c:aa):kX [aK m f] c=.ok (aK m (jQ f)) c:=by
 have hs:=dR (n:=1000) (by decide)
 refine afg (by omega) (by rw[d7];omega) (len_tab m f c) (afd f hm c) (iG.mpr λd hd=>?_)
 obtain⟨i,_,rfl⟩:=ahw.mp hd;exact Bp m _ i
def ic(m:Nat) (f:Nat->Nat->Bool) (i:Nat):List Nat:=(ε m).filter λk=>f i k
def jy(m:Nat) (f:Nat->Nat->Bool):D:=.tup ((ε m).map λi=>.tup (nD (ic m f i)))
def m7:ai:=(aJ (au aG (ak 1) (ak 0)))
theorem Sb{m i:Nat}(f:Nat->Nat->Bool) (c:aa):bC (λ_=>True) (az 0) m7 (ak 0) (aL 0 (m:Int)) [η,ζ (.lst (bZ m f i))] [] c=.ok (nD (ic m f i)) c:=by
 have:=nO (c:=c) (g:=az 0) (t:=m7) (a:=ak 0) (λe=>∃v,e=[v,ζ (.lst (bZ m f i))]) (λd=>match d with|.int k=>f i k.toNat|_=>Γ) id (aL 0 (m:Int)) [η,ζ (.lst (bZ m f i))] [] ⟨_,rfl⟩ (λd hd e ⟨v,he⟩=>by
  subst he;obtain⟨k',rfl,k0,k1⟩:=oW hd;obtain⟨k,rfl⟩:=ig k0;have h2:aG (.lst (bZ m f i)) (.int (k:Int)) c=.ok (.bl (f i k)) c:=by rw[gU,uR f i (by omega)]
  refine⟨_,rfl,⟨_,rfl⟩,?_,λ_=>rfl⟩
  show m7 [ζ (.int (k:Int)),ζ (.lst (bZ m f i))] c=_;unfold m7;simp only[jT,dw,bD,gz,gs,R.aA,h2,aiG])
 rw[this,ahy,List.map_id]
 congr 1
 unfold aL ic nD;rw[List.filter_map,show((m:Int)-0).toNat=m by omega]
 have e:((λd:D=>match d with|.int k=>f i k.toNat|_=>Γ) ∘ λk:Nat=>D.int (0+(k:Int)))=λk=>f i k:=by
  funext k
  simp
 rw[e];refine ah5 λk _=>?_
 simp
def jX:af:=(aF gf (ao (br (bG (ao (aF aT (ao (ak 1) aq)) aq)) [η,ζ 0] (az 0) (aJ (au aG (ak 1) (ak 0))) (ak 0)) aq))
theorem R9{q:Int}{T:D}{r l:List D}{c:aa}(hn:aT [T] c=.ok (.int q) c) (b:-4611686018427387904<=q/\q<4611686018427387904) (hl:(aL 0 q).length<Ω) (h:bC (λ_=>True) (az 0) m7 (ak 0) (aL 0 q) [η,ζ (.lst r)] [] c=.ok l c) :
  jX [ζ (.lst r),ζ T] c=.ok (.tup l) c:=by
 unfold m7 at h;unfold jX;simp only[iM,bJ,fB,gH,bD,gz,gs,bI,R.aA,hn];rw[if_pos (by omega)]
 simp only[R.aA];rw[if_pos hl];have:ee [η,ζ 0] [ζ (D.lst r),ζ T]=[η,ζ (.lst r)]:=rfl;rw[this,h];rfl
theorem R8{m:Nat}(f:Nat->Nat->Bool) (hm:m<1000) (c:aa):bC (λ_=>True) (az 0) aW jX ((ε m).map λi=>.lst (bZ m f i)) [η,ζ (aK m f)] [] c=.ok ((ε m).map λi=>.tup (nD (ic m f i))) c:=by
 have hs:=dR (n:=1000) (by decide)
 have hlen:=len_tab m f c;have key:∀(l:List Nat) (v:Option D) (acc:List D),bC (λ_=>True) (az 0) aW jX (l.map λi=>.lst (bZ m f i)) [v,ζ (aK m f)] acc c=.ok (acc++l.map λi=>.tup (nD (ic m f i))) c:=by
  intro l
  induction l with
  |nil=>intro v acc;simp
  |cons i l ih =>
   intro v acc;have h1:az 0 (.lst (bZ m f i)) [v,ζ (aK m f)] c=.ok [ζ (.lst (bZ m f i)),ζ (aK m f)] c:=rfl;have h2:jX [ζ (.lst (bZ m f i)),ζ (aK m f)] c=.ok (.tup (nD (ic m f i))) c:=R9 hlen (by omega) (by rw[d7];omega) (Sb f c)
   rw[aht,iy,h1,R.aA,mJ,R.aA,if_pos rfl,h2,R.aA,ih,ah1];rfl
 have:=key (ε m) η []
 rwa[ahy]at this
theorem RW{m:Nat}(f:Nat->Nat->Bool) (hm:m<1000) (c:aa):fU [aK m f] c=.ok (jy m f) c:=by
 have hs:=dR (n:=1000) (by decide)
 have h:=R8 f hm c;have hb:nT=aP (aF gf (ao (br (cS (ak 0)) [η,ζ 0] (az 0) aW jX) aq)):=rfl;rw[fU,i8,hb];have es:cH 1 [aK m f]=[ζ (aK m f)]:=rfl;have nr:noRef (jy m f)=Θ:=by
  unfold jy noRef;refine iG.mpr λd hd=>?_
  obtain⟨i,_,rfl⟩:=ahw.mp hd;unfold noRef;exact ym _
 have e1:(aP (aF gf (ao (br (cS (ak 0)) [η,ζ 0] (az 0) aW jX) aq))) [ζ (aK m f)] c=.ok (.rt (jy m f)) c:=by
  have hd:cS (ak 0) [ζ (aK m f)] c=.ok ⟨(ε m).map λi=>.lst (bZ m f i),λ_=>True⟩ c:=rfl
  have hp:ee [η,ζ 0] [ζ (aK m f)]=[η,ζ (aK m f)]:=rfl;simp only[oq,iM,bJ,fB,hd,bI,R.aA];rw[if_pos (by rw[ahr,aiP];omega),hp,h]
  rfl
 rw[es,e1];simp only[R.aA];unfold jy at nr ⊢;unfold dF;dsimp only;rw[if_pos nr,air]
def PW(j n:Nat) (ps:List (Nat×Nat)) (c:aa):Prop:=c.length=n+1/\j<n/\(∃p:Int,c[j]? = ζ (.lst [.int p]))/\c[n]? = ζ (.lst (ps.map bg))
theorem PW.turn{j n:Nat}{ps:List (Nat×Nat)}{c:aa}(h:PW j n ps c) (p:Int):PW j n ps (c.set j (.lst [.int p])):=by
 obtain⟨h1,h2,_,h4⟩:=h;exact⟨by simp[h1],h2,⟨p,by rw[ah6 (by omega)]⟩,by rw[aii (by omega)];exact h4⟩
theorem PW.plus{j n:Nat}{ps qs:List (Nat×Nat)}{c:aa}(h:PW j n ps c):PW j n (ps++qs) (c.set n (.lst (ps.map bg++qs.map bg))):=by
 obtain⟨h1,h2,⟨q,h3⟩,h4⟩:=h;exact⟨by simp[h1],h2,⟨q,by rw[aii (by omega)];exact h3⟩,by rw[ah6 (by omega),aiQ]⟩
def dj(m:Nat) (ps:List (Nat×Nat)):Prop:=∀p∈ps,p.1<m/\p.2<m/\p.1≠p.2
def uO:ai:=(aJ (au jG (aC 2 aS (ao (ak 3) (ao (dC (.int 6)) aq))) (ak 2)))
def uP:af:=(cX (ao (ak 1) (ao (ak 0) aq)))
theorem Bm{j n m a:Nat}{ps:List (Nat×Nat)}{eZ:Int}(ha:a<m):∀(ks:List Nat) (v:Option D) (acc:List D) (c:aa),(∀k∈ks,a<k/\k<m)->PW j n ps c ->
  ∃(qs:List (Nat×Nat)) (c':aa),PW j n ps c'/\dj m qs/\qs.length<=ks.length/\bC (λ_=>True) (az 0) uO uP (ks.map λk:Nat=>.int (k:Int)) [v,ζ (.int (a:Int)),ζ (.int eZ),ζ (.ref j)] acc c=.ok (acc++qs.map bg) c'
 |[],v,acc,c,_,hP=>⟨[],c,hP,λp hp=>(by cases hp),ahn _,by simp⟩
 |k::ks,v,acc,c,hk,hP=>by
  obtain⟨p,hp⟩:=hP.2.2.1;have ht:=take2 (cC:=6) hp (by decide) (by decide)
  have pJ:=hP.turn (p/6)
  generalize c.set j (.lst [.int (p/6)])=c1 at ht pJ
  have hkk:=hk k (.head _);have h2:(2:Nat)<=Ω:=dR (by decide)
  have hT:uO [ζ (.int (k:Int)),ζ (.int (a:Int)),ζ (.int eZ),ζ (.ref j)] c=.ok (decide (p % 6<eZ)) c1:=by
   unfold uO;simp only[jT,dw,x_call,bJ,bD,gz,gs,fC,bI,R.aA,ahu,ahK,if_pos,ht];simp
  have hE:uP [ζ (.int (k:Int)),ζ (.int (a:Int)),ζ (.int eZ),ζ (.ref j)] c1=.ok (bg (a,k)) c1:=by
   unfold uP;simp only[mK,bJ,bD,gz,gs,bI,R.aA,ahu,ahK];rw[if_pos h2];rfl
  have h1:az 0 (.int (k:Int)) [v,ζ (.int (a:Int)),ζ (.int eZ),ζ (.ref j)] c=.ok [ζ (.int (k:Int)),ζ (.int (a:Int)),ζ (.int eZ),ζ (.ref j)] c:=rfl
  by_cases hq:p % 6<eZ
  ·obtain⟨qs,c',P',n',l',h'⟩:=Bm (eZ:=eZ) ha ks (ζ (.int (k:Int))) (acc++[bg (a,k)]) c1 (λz hz=>hk z (.tail _ hz)) pJ
   refine⟨(a,k)::qs,c',P',λq hq=>?_,by simp only[ahu];omega,?_⟩
   ·rcases aho.mp hq with rfl|hq
    ·exact⟨ha,hkk.2,ahx hkk.1⟩
    ·exact n' q hq
   ·rw[aht,iy,h1,R.aA,hT,R.aA,if_pos (decide_eq_true hq),hE,R.aA,h',ah1];rfl
  ·obtain⟨qs,c',P',n',l',h'⟩:=Bm (eZ:=eZ) ha ks (ζ (.int (k:Int))) acc c1 (λz hz=>hk z (.tail _ hz)) pJ
   refine⟨qs,c',P',n',by simp only[ahu];omega,?_⟩
   rw[aht,iy,h1,R.aA,hT,R.aA,if_neg (by simpa using hq),h']
theorem xF(a m:Nat):aL ((a:Int)+1) (m:Int)=(List.range' (a+1) (m-(a+1))).map λk:Nat=>.int (k:Int):=by
 unfold aL;rw[show((m:Int)-((a:Int)+1)).toNat=m-(a+1) by omega,akV,ahR]
 refine ah5 λk _=>?_
 show D.int _=D.int _
 congr 1
theorem Jz(ps:List (Nat×Nat)):bP (ps.map bg)=Θ:=iG.mpr λd hd=>by
 obtain⟨p,_,rfl⟩:=ahw.mp hd;rfl
theorem zJ{j n:Nat}{ps qs:List (Nat×Nat)}{c c1:aa}{e:Ev}{dc:af}(h4:e[4]? = ζ (ζ (.ref n))) (hc:dc e c=.ok (.lst (qs.map bg)) c1) (hP:PW j n ps c1) (hl:ps.length+qs.length<=100000) :
  dS (d8 (ak 4) dc) e c=.ok (.nx e) (c1.set n (.lst (ps.map bg++qs.map bg))):=by
 have hs:100000<=Ω:=by decide
 have:d8 (ak 4) dc e c=.ok .aH (c1.set n (.lst (ps.map bg++qs.map bg))):=by
  unfold d8;simp only[bD,h4,R.aA,hc];rw[hP.2.2.2];dsimp only;rw[if_pos ⟨by simp only[ahr];omega,Jz qs⟩]
 rw[uo,this];rfl
def qy:ah:=(dS (d8 (ak 4) (br (cY (ao (au aX (ak 5) (dC (.int 1))) (ao (ak 2) aq))) [η,ζ 5,ζ 3,ζ 0] (az 0) (aJ (au jG (aC 2 aS (ao (ak 3) (ao (dC (.int 6)) aq))) (ak 2))) (cX (ao (ak 1) (ao (ak 0) aq))))))
theorem Rx{q a:Int}{v0 v1 v3 v4:Option D}{c:aa}{l:List D}{c':aa}(ba:-4611686018427387904<=a+1/\a+1<4611686018427387904) (bq:-4611686018427387904<=q/\q<4611686018427387904) (hl:(aL (a+1) q).length<Ω) (h:bC (λ_=>True) (az 0) uO uP (aL (a+1) q) [η,ζ (.int a),v3,v0] [] c=.ok l c') :
  (br (cY (ao (au aX (ak 5) (dC (.int 1))) (ao (ak 2) aq))) [η,ζ 5,ζ 3,ζ 0] (az 0) (aJ (au jG (aC 2 aS (ao (ak 3) (ao (dC (.int 6)) aq))) (ak 2))) (cX (ao (ak 1) (ao (ak 0) aq)))) [v0,v1,ζ (.int q),v3,v4,ζ (.int a)] c=.ok (.lst l) c':=by
 unfold uO uP at h;simp only[fB,mO,bJ,dw,bD,fC,gz,gs,bI,R.aA,ju];rw[if_pos ⟨by omega,by omega,by omega,by omega⟩]
 simp only[R.aA];rw[if_pos hl];have:ee [η,ζ 5,ζ 3,ζ 0] [v0,v1,ζ (D.int q),v3,v4,ζ (.int a)]=[η,ζ (.int a),v3,v0]:=by cases v0<;>cases v3<;>rfl
 rw[this,h];rfl
theorem Rw{j n m a:Nat}{ps:List (Nat×Nat)}{eZ:Int}{c:aa}(hP:PW j n ps c) (hp:dj m ps) (ha:a<m) (hm:m<64) (hl:ps.length<=64*64) (v1:Option D) :
  ∃ps' c',PW j n ps' c'/\dj m ps'/\ps'.length<=ps.length+m/\qy [ζ (.ref j),v1,ζ (.int (m:Int)),ζ (.int eZ),ζ (.ref n),ζ (.int (a:Int))] c=.ok (.nx [ζ (.ref j),v1,ζ (.int (m:Int)),ζ (.int eZ),ζ (.ref n),ζ (.int (a:Int))]) c':=by
 have hs:=dR (n:=1000) (by decide)
 obtain⟨qs,c1,P1,n1,l1,h1⟩:=Bm (ps:=ps) (eZ:=eZ) ha (List.range' (a+1) (m-(a+1))) η [] c (λk hk=>by
  have:=ajp.mp hk;obtain⟨i,hi,rfl⟩:=this;omega) hP
 rw[<-xF,ahy]at h1;rw[aiB]at l1;have hc:=Rx (v1:=v1) (v4:=ζ (.ref n)) (by omega) (by omega) (by rw[d7];omega) h1
 refine⟨ps++qs,_,P1.plus,λp gx=>?_,by rw[ahC];omega,zJ (j:=j) rfl hc P1 (by omega)⟩
 rcases ahT.mp gx with h|h
 ·exact hp p h
 ·exact n1 p h
theorem Rz{j n m:Nat}{eZ:Int}{c:aa}(hP:PW j n [] c) (hm:m<64) (v1 v5:Option D) :
  ∃ps' c' v,PW j n ps' c'/\dj m ps'/\cJ (λ_=>True) (az 5) qy (aL 0 (m:Int)) [ζ (.ref j),v1,ζ (.int (m:Int)),ζ (.int eZ),ζ (.ref n),v5] c=.ok (.nx [ζ (.ref j),v1,ζ (.int (m:Int)),ζ (.int eZ),ζ (.ref n),v]) c':=by
 have hlen:(aL 0 (m:Int)).length=m:=by rw[d7];omega
 obtain⟨e',c',⟨ps',v,rfl,P',gx,hl'⟩,hf⟩:=lg (g:=az 5) (s:=qy) (λk e c=>∃ps' v,e=[ζ (.ref j),v1,ζ (.int (m:Int)),ζ (.int eZ),ζ (.ref n),v]/\PW j n ps' c/\dj m ps'/\ps'.length<=k*m)
  (aL 0 (m:Int)) 0 [ζ (.ref j),v1,ζ (.int (m:Int)),ζ (.int eZ),ζ (.ref n),v5] c ⟨[],v5,rfl,hP,λp hp=>(by cases hp),by simp⟩ (λi x hx e c ⟨ps1,v,he,P1,hp1,hl1⟩=>by
   subst he;have hi:i<(aL 0 (m:Int)).length:=(ahz.mp hx).1;obtain⟨hlt,rfl⟩:=jV hx;rw[aiL];rw[ahZ]at hl1 ⊢;have hb:i*m<=64*64:=ait (by omega) (by omega)
   obtain⟨ps2,c2,P2,hp2,hl2,h2⟩:=Rw (eZ:=eZ) P1 hp1 (a:=i) (by omega) hm (by omega) v1
   exact⟨_,_,_,_,rfl,h2,ps2,_,rfl,P2,hp2,by rw[aiy];omega⟩)
 exact⟨ps',c',v,P',gx,hf⟩
theorem dj.isIn{m:Nat}{ps:List (Nat×Nat)}(h:dj m ps):Gr m ps:=λp hp=>⟨(h p hp).1,(h p hp).2.1⟩
theorem RK{j n:Nat}{most y z:Int}{c c1 c2 c3 c4:aa}{W:D}{v:Option D}(t1:aS [.ref j,.int most] c=.ok (.int y) c1) (t2:aS [.ref j,.int 5] c1=.ok (.int z) c2) (hn:c2.length=n)
  (hb:-4611686018427387904<=1+y/\1+y<4611686018427387904) (hf:cJ (λ_=>True) (az 5) qy (aL 0 (1+y)) [ζ (.ref j),ζ (.int most),ζ (.int (1+y)),ζ (.int (1+z)),ζ (.ref n),η] (c2++[.lst []])=.ok (.nx [ζ (.ref j),ζ (.int most),ζ (.int (1+y)),ζ (.int (1+z)),ζ (.ref n),v]) c3)
  (hw:jF [.int (1+y),.ref n] c3=.ok W c3) (hx:dF Γ c.length W c3=.ok W c4):kU [.ref j,.int most] c=.ok W c4:=by
 have hb':tK=aD (aE 2 (au aX (dC (.int 1)) (aC 2 aS (ao (ak 0) (ao (ak 1) aq))))) (aD (aE 3 (au aX (dC (.int 1)) (aC 2 aS (ao (ak 0) (ao (dC (.int 5)) aq))))) (aD (aE 4 (er aq)) (aD (bU (bG (ao (ak 2) aq)) (az 5) qy) (aP (aC 2 jF (ao (ak 2) (ao (ak 4) aq))))))):=rfl;have e0:(aE 2 (au aX (dC (.int 1)) (aC 2 aS (ao (ak 0) (ao (ak 1) aq))))) [ζ (.ref j),ζ (.int most),η,η,η,η] c=.ok (.nx [ζ (.ref j),ζ (.int most),ζ (.int (1+y)),η,η,η]) c1:=by simp[t1]
 have e1:(aE 3 (au aX (dC (.int 1)) (aC 2 aS (ao (ak 0) (ao (dC (.int 5)) aq))))) [ζ (.ref j),ζ (.int most),ζ (.int (1+y)),η,η,η] c1=.ok (.nx [ζ (.ref j),ζ (.int most),ζ (.int (1+y)),ζ (.int (1+z)),η,η]) c2:=by simp[t2]
 have e2:(aE 4 (er aq)) [ζ (.ref j),ζ (.int most),ζ (.int (1+y)),ζ (.int (1+z)),η,η] c2=.ok (.nx [ζ (.ref j),ζ (.int most),ζ (.int (1+y)),ζ (.int (1+z)),ζ (.ref n),η]) (c2++[.lst []]):=by simp[hn]
 have e3:(bU (bG (ao (ak 2) aq)) (az 5) qy) [ζ (.ref j),ζ (.int most),ζ (.int (1+y)),ζ (.int (1+z)),ζ (.ref n),η] (c2++[.lst []])=.ok (.nx [ζ (.ref j),ζ (.int most),ζ (.int (1+y)),ζ (.int (1+z)),ζ (.ref n),v]) c3:=by
  simp only[iL,gH,bJ,bD,gz,gs,bI,R.aA];rw[if_pos (by omega)]
  exact hf
 have e4:(aP (aC 2 jF (ao (ak 2) (ao (ak 4) aq)))) [ζ (.ref j),ζ (.int most),ζ (.int (1+y)),ζ (.int (1+z)),ζ (.ref n),v] c3=.ok (.rt W) c3:=by simp[hw]
 rw[kU,i8,hb'];have es:cH 6 [D.ref j,.int most]=[ζ (.ref j),ζ (.int most),η,η,η,η]:=rfl;rw[es,bf e0,bf e1,bf e2,bf e3,e4];exact hx
theorem PV(m:Nat) (f:Nat->Nat->Bool):noRef (aK m f)=Θ:=by
 unfold aK noRef;refine iG.mpr λd hd=>?_
 obtain⟨i,_,rfl⟩:=ahw.mp hd;exact Bp m f i
theorem Eu(m:Nat) (f:Nat->Nat->Bool) (n:Nat) (c:aa):dF Γ n (aK m f) c=.ok (aK m f) (c.take n):=by
 have nr:=PV m f;unfold aK at nr ⊢;unfold dF;dsimp only;rw[if_pos nr]
theorem PW.rJ{j n:Nat}{ps:List (Nat×Nat)}{c:aa}(h:PW j n ps c):ez j n (c.take n):=by
 obtain⟨l3,hj,⟨p3,q3⟩,_⟩:=h;exact⟨by rw[aix];omega,hj,p3,by rw[ajI hj];exact q3⟩
theorem PW.start{j n:Nat}{c:aa}(h:ez j n c):PW j n [] (c++[.lst []]):=by
 obtain⟨hl,hj,p,hp⟩:=h;exact⟨by simp[hl],hj,⟨p,by rw[ahY (by omega)];exact hp⟩,by rw[ahW (by omega),hl];simp⟩
theorem Ru{j n:Nat}{c:aa}{most:Int}(hP:ez j n c) (h0:0<most) (h1:most<60):∃(m:Nat) (ps:List (Nat×Nat)) (c':aa),1<=m/\(m:Int)<=most/\dj m ps/\ez j n c'/\kU [.ref j,.int most] c=.ok (aK m (gO ps)) c':=by
 obtain⟨y,c1,y0,y1,P1,t1⟩:=g7 hP h0 (by omega)
 obtain⟨z,c2,z0,z1,P2,t2⟩:=g7 (cC:=5) P1 (by decide) (by decide)
 obtain⟨m,hm⟩:=ig (i:=1+y) (by omega)
 obtain⟨ps,c3,v,P3,hp3,hf⟩:=Rz (m:=m) (eZ:=1+z) (PW.start P2) (by omega) (ζ (.int most)) η
 have hw:=Kp (m:=m) (X:=.ref n) (c:=c3) hp3.isIn (by omega) (.inl ⟨n,rfl,P3.2.2.2⟩)
 rw[<-hm]at hf hw;exact⟨m,ps,c3.take n,by omega,by omega,hp3,P3.rJ,RK t1 t2 P2.1 (by omega) hf hw (by rw[hP.1];exact Eu m _ n c3)⟩
def dz(M:List (List Int)):List D:=M.map λl=>.lst (l.map D.int)
theorem J0{M:List (List Int)}{i:Nat}(h:i<M.length):cM (dz M) (i:Int)=ζ (.lst (M[i].map D.int)):=ko (by simp[dz,h])
theorem KD(l:List Int) (y:Int) (c:aa):∃b,inD (.int y) (.lst (l.map D.int)) c=.ok (.bl b) c:=by
 have hd:∀l:List Int,gB (l.map D.int)=ζ (l.map PyData.int):=λl=>by
  induction l with
  |nil=>rfl
  |cons n ns ih=>simp[gB,eT,ih]
 have h1:gR c (.int y)=ζ (.int y):=rfl;have h2:gR c (.lst (l.map D.int))=ζ (.list (l.map PyData.int)):=by
  show(match gB (l.map D.int)with|some r=>ζ (PyData.list r)|none=>η)=_
  rw[hd]
 refine⟨(l.map PyData.int).any λz=>z.eqv (.int y),?_⟩
 unfold inD;rw[h1,h2];dsimp only;rw[if_pos (by simp[PyData.depth])]
def yj:af:=(au inD (ak 0) (au aG (ak 1) (ak 2)))
theorem Jq{X:D}{M:List (List Int)}{o:Nat}{c:aa}(hX:dB c X=ζ (dz M)) (ho:o<M.length):∀(l:List Int) (v:Option D) (acc:List D),∃bs:List Bool,bC (λ_=>True) (az 0) aW yj (l.map D.int) [v,ζ X,ζ (.int (o:Int))] acc c=.ok (acc++bs.map D.bl) c
 |[],v,acc=>⟨[],by simp⟩
 |y::l,v,acc=>by
  obtain⟨b,hb⟩:=KD M[o] y c;have hix:aG X (.int (o:Int)) c=.ok (.lst (M[o].map D.int)) c:=by
   have hs:gp c X=ζ (dz M):=by
    cases X with
    |lst l=>exact hX
    |ref k=>exact hX
    |_=>cases hX
   unfold aG;dsimp only;rw[hs];dsimp only;rw[J0 ho]
  have h2:yj [ζ (.int y),ζ X,ζ (.int (o:Int))] c=.ok (.bl b) c:=by
   unfold yj;simp only[dw,bD,gz,gs,R.aA,hix,hb]
  have h1:az 0 (.int y) [v,ζ X,ζ (.int (o:Int))] c=.ok [ζ (.int y),ζ X,ζ (.int (o:Int))] c:=rfl;obtain⟨bs,h⟩:=Jq hX ho l (ζ (.int y)) (acc++[.bl b]);refine⟨b::bs,?_⟩;rw[aht,iy,h1,R.aA,mJ,R.aA,if_pos rfl,h2,R.aA,h,ah1];rfl
def yk:af:=(br (cS (au aG (ak 1) (ak 3))) [η,ζ 1,ζ 4] (az 0) aW (au inD (ak 0) (au aG (ak 1) (ak 2))))
def oS:ah:=bz (aJ (aF pY (ao yk aq))) (dS (lB (ak 2) (cX (ao (ak 3) (ao (ak 4) aq))))) bL
theorem Xp{X:D}{M:List (List Int)}{a b:Nat}{c:aa}(hX:dB c X=ζ (dz M)) (ha:a<M.length) (hb:b<M.length) (hs:∀l∈M,l.length<1000) (v0 v2:Option D):∃t,(aJ (aF pY (ao yk aq))) [v0,ζ X,v2,ζ (.int (a:Int)),ζ (.int (b:Int))] c=.ok t c:=by
 have hsz:=dR (n:=1000) (by decide)
 obtain⟨bs,h⟩:=Jq hX hb M[a] η [];rw[ahy]at h;have hix:aG X (.int (a:Int)) c=.ok (.lst (M[a].map D.int)) c:=by
  have hs:gp c X=ζ (dz M):=by
   cases X with
   |lst l=>exact hX
   |ref k=>exact hX
   |_=>cases hX
  unfold aG;dsimp only;rw[hs];dsimp only;rw[J0 ha]
 have hc:yk [v0,ζ X,v2,ζ (.int (a:Int)),ζ (.int (b:Int))] c=.ok (.lst (bs.map D.bl)) c:=by
  unfold yj at h;unfold yk;rw[fB];unfold cS;simp only[dw,bD,gz,gs,R.aA,hix];have hl:=hs _ (aih ha);rw[if_pos (by rw[ahr];omega)]
  have:ee [η,ζ 1,ζ 4] [v0,ζ X,v2,ζ (D.int (a:Int)),ζ (.int (b:Int))]=[η,ζ X,ζ (.int (b:Int))]:=rfl;rw[this,h];rfl
 refine⟨bs.any id,?_⟩;have hany:pY [.lst (bs.map D.bl)] c=.ok (.bl (bs.any id)) c:=by
  unfold pY m8;dsimp only;rw[zT]
 simp only[jT,iM,bJ,hc,bI,R.aA,hany]
theorem Y0{X:D}{l:List D}{c:aa}(h:dB c X=ζ l) (Rc:aa):dB (c++Rc) X=ζ l:=by
 cases X with
 |lst m=>exact h
 |ref k =>
  unfold dB at h ⊢;dsimp only at h ⊢;have hk:k<c.length:=by
   rcases aj7 k c.length with q|q
   ·exact q
   ·rw[aid q]at h;cases h
  rw[ahY hk];exact h
 |_=>cases h
theorem Xq{X:D}{M:List (List Int)}{a b m:Nat}{ps:List (Nat×Nat)}{c:aa}(hX:dB c X=ζ (dz M)) (hM:m<=M.length) (hs:∀l∈M,l.length<1000) (hab:a<b) (hb:b<m) (hp:dj m ps) (hl:ps.length<100000) (v0:Option D) :
  ∃ps',dj m ps'/\ps'.length<=ps.length+1/\oS [v0,ζ X,ζ (.ref c.length),ζ (.int (a:Int)),ζ (.int (b:Int))] (c++[.lst (ps.map bg)])=.ok (.nx [v0,ζ X,ζ (.ref c.length),ζ (.int (a:Int)),ζ (.int (b:Int))]) (c++[.lst (ps'.map bg)]):=by
 have h2:(2:Nat)<=Ω:=dR (by decide)
 obtain⟨t,ht⟩:=Xp (a:=a) (b:=b) (Y0 hX [.lst (ps.map bg)]) (by omega) (by omega) hs v0 (ζ (.ref c.length))
 cases t with
 |false=>exact⟨ps,hp,by omega,by unfold oS;rw[iK,ht];simp⟩
 |true =>
  refine⟨ps++[(a,b)],λq hq=>?_,by simp,?_⟩
  ·rcases ahT.mp hq with hq|hq
   ·exact hp q hq
   ·rw[aiA]at hq;subst hq;exact⟨by show a<m;omega,hb,by show a≠b;omega⟩
  ·have ha:=aev (c:=c) (acc:=ps.map bg) (y:=bg (a,b)) (dO:=ak 2) (da:=cX (ao (ak 3) (ao (ak 4) aq))) (e:=[v0,ζ X,ζ (.ref c.length),ζ (.int (a:Int)),ζ (.int (b:Int))]) (by simp) (by
    simp only[mK,bJ,bD,gz,gs,bI,R.aA,ahu,ahK];rw[if_pos h2];rfl) rfl (by rw[ahr];omega)
   unfold oS;rw[iK,ht];simp only[R.aA,if_true];rw[uo,ha,aiQ];rfl
theorem R7{a m i:Nat}{x:D}(h:(aL ((a:Int)+1) (m:Int))[i]? = ζ x):a+1+i<m/\x=.int ((a+1+i:Nat):Int):=by
 have hi:i<(aL ((a:Int)+1) (m:Int)).length:=(ahz.mp h).1;rw[d7]at hi;obtain⟨_,rfl⟩:=jV h;exact⟨by omega,by congr 1⟩
theorem Xs{X:D}{M:List (List Int)}{a m:Nat}{ps:List (Nat×Nat)}{c:aa}(hX:dB c X=ζ (dz M)) (hM:m<=M.length) (hs:∀l∈M,l.length<1000) (hp:dj m ps) (hl:ps.length+m<100000) (v0 v4:Option D) :
  ∃ps' v,dj m ps'/\ps'.length<=ps.length+m/\cJ (λ_=>True) (az 4) oS (aL ((a:Int)+1) (m:Int)) [v0,ζ X,ζ (.ref c.length),ζ (.int (a:Int)),v4] (c++[.lst (ps.map bg)])=.ok (.nx [v0,ζ X,ζ (.ref c.length),ζ (.int (a:Int)),v]) (c++[.lst (ps'.map bg)]):=by
 have hlen:(aL ((a:Int)+1) (m:Int)).length<=m:=by rw[d7];omega
 obtain⟨e',c',⟨ps',v,rfl,rfl,gx,hl'⟩,hf⟩:=lg (g:=az 4) (s:=oS) (λk e c'=>∃ps' v,e=[v0,ζ X,ζ (.ref c.length),ζ (.int (a:Int)),v]/\c'=c++[.lst (ps'.map bg)]/\dj m ps'/\ps'.length<=ps.length+k)
  (aL ((a:Int)+1) (m:Int)) 0 [v0,ζ X,ζ (.ref c.length),ζ (.int (a:Int)),v4] (c++[.lst (ps.map bg)]) ⟨ps,v4,rfl,rfl,hp,by omega⟩ (λi x hx e c' ⟨ps1,v,he,hc,hp1,hl1⟩=>by
   subst he;subst hc;have hi:i<(aL ((a:Int)+1) (m:Int)).length:=(ahz.mp hx).1;obtain⟨hlt,rfl⟩:=R7 hx;obtain⟨ps2,hp2,hl2,h2⟩:=Xq (a:=a) (b:=a+1+i) hX hM hs (by omega) hlt hp1 (by omega) v0
   exact⟨_,_,_,_,rfl,h2,ps2,_,rfl,rfl,hp2,by omega⟩)
 exact⟨ps',v,gx,by omega,hf⟩
def oR:ah:=bU (cY (ao (au aX (ak 3) (dC (.int 1))) (ao (ak 0) aq))) (az 4) oS
theorem Xv{q a:Int}{X:Option D}{c c':aa}{v2 v4 v:Option D}(ba:-4611686018427387904<=a+1/\a+1<4611686018427387904) (bq:-4611686018427387904<=q/\q<4611686018427387904) (h:cJ (λ_=>True) (az 4) oS (aL (a+1) q) [ζ (.int q),X,v2,ζ (.int a),v4] c=.ok (.nx [ζ (.int q),X,v2,ζ (.int a),v]) c') :
  oR [ζ (.int q),X,v2,ζ (.int a),v4] c=.ok (.nx [ζ (.int q),X,v2,ζ (.int a),v]) c':=by
 unfold oR;simp only[iL,mO,bJ,dw,bD,fC,gz,gs,bI,R.aA,ju];rw[if_pos ⟨by omega,by omega,by omega,by omega⟩]
 exact h
theorem Xr{X:D}{M:List (List Int)}{m:Nat}{c:aa}(hX:dB c X=ζ (dz M)) (hM:m<=M.length) (hs:∀l∈M,l.length<1000) (hm:m<64) :
  ∃ps u v,dj m ps/\cJ (λ_=>True) (az 3) oR (aL 0 (m:Int)) [ζ (.int (m:Int)),ζ X,ζ (.ref c.length),η,η] (c++[.lst []])=.ok (.nx [ζ (.int (m:Int)),ζ X,ζ (.ref c.length),u,v]) (c++[.lst (ps.map bg)]):=by
 have hlen:(aL 0 (m:Int)).length=m:=by rw[d7];omega
 obtain⟨e',c',⟨ps',u,v,rfl,rfl,gx,hl'⟩,hf⟩:=lg (g:=az 3) (s:=oR) (λk e c'=>∃ps' u v,e=[ζ (.int (m:Int)),ζ X,ζ (.ref c.length),u,v]/\c'=c++[.lst (ps'.map bg)]/\dj m ps'/\ps'.length<=k*m)
  (aL 0 (m:Int)) 0 [ζ (.int (m:Int)),ζ X,ζ (.ref c.length),η,η] (c++[.lst []]) ⟨[],η,η,rfl,rfl,λp hp=>(by cases hp),by simp⟩ (λi x hx e c' ⟨ps1,u,v,he,hc,hp1,hl1⟩=>by
   subst he;subst hc;have hi:i<(aL 0 (m:Int)).length:=(ahz.mp hx).1;obtain⟨hlt,rfl⟩:=jV hx;rw[aiL];rw[ahZ]at hl1 ⊢;have hb:i*m<=64*64:=ait (by omega) (by omega)
   obtain⟨ps2,w,hp2,hl2,h2⟩:=Xs (a:=i) hX hM hs hp1 (by omega) (ζ (.int (m:Int))) v
   exact⟨_,_,_,_,rfl,Xv (by omega) (by omega) h2,ps2,_,_,rfl,rfl,hp2,by rw[aiy];omega⟩)
 exact⟨ps',u,v,gx,hf⟩
theorem Xu{q:Int}{X:D}{c c3:aa}{u v:Option D}{l:List D}(b:-4611686018427387904<=q/\q<4611686018427387904) (hf:cJ (λ_=>True) (az 3) oR (aL 0 q) [ζ (.int q),ζ X,ζ (.ref c.length),η,η] (c++[.lst []])=.ok (.nx [ζ (.int q),ζ X,ζ (.ref c.length),u,v]) (c++[.lst l])) :
  j9 [.int q,X] c=.ok (.lst l) c:=by
 have hb':tN=aD (aE 2 (er aq)) (aD (bU (bG (ao (ak 0) aq)) (az 3) oR) (aP (ak 2))):=rfl;have e0:(aE 2 (er aq)) [ζ (.int q),ζ X,η,η,η] c=.ok (.nx [ζ (.int q),ζ X,ζ (.ref c.length),η,η]) (c++[.lst []]):=by simp
 have e1:(bU (bG (ao (ak 0) aq)) (az 3) oR) [ζ (.int q),ζ X,ζ (.ref c.length),η,η] (c++[.lst []])=.ok (.nx [ζ (.int q),ζ X,ζ (.ref c.length),u,v]) (c++[.lst l]):=by
  simp only[iL,gH,bJ,bD,gz,gs,bI,R.aA];rw[if_pos (by omega)]
  exact hf
 rw[j9,i8,hb'];have es:cH 5 [D.int q,X]=[ζ (.int q),ζ X,η,η,η]:=rfl;rw[es,bf e0,bf e1];simp[dF]
theorem JE{X:D}{M:List (List Int)}{m:Nat}{c:aa}(hX:dB c X=ζ (dz M)) (hM:m<=M.length) (hs:∀l∈M,l.length<1000) (hm:m<64):∃ps,dj m ps/\j9 [.int (m:Int),X] c=.ok (.lst (ps.map bg)) c:=by
 obtain⟨ps,u,v,hp,hf⟩:=Xr hX hM hs hm;exact⟨ps,hp,Xu (c3:=c) (by omega) hf⟩
def uJ:ai:=(aJ (au bT (aC 2 aS (ao (ak 1) (ao (dC (.int 2)) aq))) (dC (.int 1))))
theorem A9{j n:Nat}{ps:List (Nat×Nat)}:∀(ks:List Nat) (v:Option D) (acc:List D) (c:aa),PW j n ps c ->
  ∃(ss:List Nat) (c':aa),PW j n ps c'/\(∀x∈ss,x∈ks)/\ss.length<=ks.length/\bC (λ_=>True) (az 0) uJ (ak 0) (ks.map λk:Nat=>.int (k:Int)) [v,ζ (.ref j)] acc c=.ok (acc++nD ss) c'
 |[],v,acc,c,hP=>⟨[],c,hP,λx hx=>(by cases hx),ahn _,by simp⟩
 |k::ks,v,acc,c,hP=>by
  obtain⟨p,hp⟩:=hP.2.2.1;have ht:=take2 (cC:=2) hp (by decide) (by decide)
  have pJ:=hP.turn (p/2)
  generalize c.set j (.lst [.int (p/2)])=c1 at ht pJ
  have hT:uJ [ζ (.int (k:Int)),ζ (.ref j)] c=.ok (decide (p % 2=1)) c1:=by
   unfold uJ;simp only[jT,dw,x_call,bJ,bD,gz,gs,fC,bI,R.aA,ahu,ahK,if_pos,ht];simp
  have h1:az 0 (.int (k:Int)) [v,ζ (.ref j)] c=.ok [ζ (.int (k:Int)),ζ (.ref j)] c:=rfl;have h2:ak 0 [ζ (.int (k:Int)),ζ (.ref j)] c1=.ok (.int (k:Int)) c1:=rfl
  by_cases hq:p % 2=1
  ·obtain⟨ss,c',P',n',l',h'⟩:=A9 ks (ζ (.int (k:Int))) (acc++[.int (k:Int)]) c1 pJ;refine⟨k::ss,c',P',λx hx=>?_,by simp only[ahu];omega,?_⟩
   ·rcases aho.mp hx with rfl|hx
    ·exact .head _
    ·exact .tail _ (n' x hx)
   ·rw[aht,iy,h1,R.aA,hT,R.aA,if_pos (decide_eq_true hq),h2,R.aA,h',ah1];rfl
  ·obtain⟨ss,c',P',n',l',h'⟩:=A9 ks (ζ (.int (k:Int))) acc c1 pJ;refine⟨ss,c',P',λx hx=>.tail _ (n' x hx),by simp only[ahu];omega,?_⟩
   rw[aht,iy,h1,R.aA,hT,R.aA,if_neg (by simpa using hq),h']
def qj:af:=(cX (ao (ak 0) (ao (au cV (au aX (ak 0) (ak 2)) (ak 1)) aq)))
def oz(m s:Nat):List (Nat×Nat):=(ε m).map λk=>(k,(k+s) % m)
theorem O9{m s:Nat}(h1:1<=s) (h2:s<m):dj m (oz m s):=λp hp=>by
 obtain⟨k,hk,rfl⟩:=ahw.mp hp;have hk:=ahH.mp hk;refine⟨hk,Nat.mod_lt _ (by omega),λe=>?_⟩
 dsimp only at e
 rcases aj7 (k+s) m with q|q
 ·rw[ajq q]at e;omega
 ·rw[akW q,ajq (by omega)]at e;omega
theorem Pa{m s:Nat}(hm:1<=m) (c:aa):bC (λ_=>True) (az 0) aW qj (aL 0 (m:Int)) [η,ζ (.int (m:Int)),ζ (.int (s:Int))] [] c=.ok ((oz m s).map bg) c:=by
 have h2:(2:Nat)<=Ω:=dR (by decide)
 have:=nO (c:=c) (g:=az 0) (t:=aW) (a:=qj) (λe=>∃v,e=[v,ζ (.int (m:Int)),ζ (.int (s:Int))]) (λ_=>Θ) (λd=>match d with|.int k=>bg (k.toNat,(k.toNat+s) % m)|d=>d) (aL 0 (m:Int)) [η,ζ (.int (m:Int)),ζ (.int (s:Int))] [] ⟨_,rfl⟩ (λd hd e ⟨v,he⟩=>by
  subst he;obtain⟨k',rfl,k0,k1⟩:=oW hd;obtain⟨k,rfl⟩:=ig k0;have hmod:cV (.int ((k:Int)+(s:Int))) (.int (m:Int)) c=.ok (.int (((k+s) % m:Nat):Int)) c:=by
   rw[ni c (by omega)]
   congr 2
  refine⟨_,rfl,⟨_,rfl⟩,rfl,λ_=>?_⟩
  show qj [ζ (.int (k:Int)),ζ (.int (m:Int)),ζ (.int (s:Int))] c=_;unfold qj;simp only[mK,bJ,bD,gz,gs,dw,ju,bI,R.aA,hmod,ahu,ahK];rw[if_pos h2];rfl)
 rw[this,ahy,yW,xG]
 congr 1
 unfold oz;rw[ahR];rfl
def qk:af:=(br (bG (ao (ak 3) aq)) [η,ζ 3,ζ 6] (az 0) aW qj)
theorem O8{q s:Int}{a0 a1 a2 a4 a5 a7 a8 a9 aO aQ aN:Option D}{c:aa}{l:List D}(b:-4611686018427387904<=q/\q<4611686018427387904) (hl:(aL 0 q).length<Ω) (h:bC (λ_=>True) (az 0) aW qj (aL 0 q) [η,ζ (.int q),ζ (.int s)] [] c=.ok l c) :
  qk [a0,a1,a2,ζ (.int q),a4,a5,ζ (.int s),a7,a8,a9,aO,aQ,aN] c=.ok (.lst l) c:=by
 unfold qk;simp only[fB,gH,bJ,bD,gz,gs,bI,R.aA];rw[if_pos (by omega)]
 simp only[R.aA];rw[if_pos hl];have:ee [η,ζ 3,ζ 6] [a0,a1,a2,ζ (D.int q),a4,a5,ζ (.int s),a7,a8,a9,aO,aQ,aN]=[η,ζ (.int q),ζ (.int s)]:=rfl;rw[this,h];rfl
theorem G6{j n m:Nat}(hm:1<=m) (hm':m<64) {a1 a2 a5 a7 a8 a9 aO aQ aN:Option D}:∀(ss:List Nat) (ps:List (Nat×Nat)) (v:Option D) (c:aa),(∀s∈ss,1<=s/\s<m)->PW j n ps c->dj m ps->ps.length+ss.length*m<=90000 ->
  ∃ps' c' v',PW j n ps' c'/\dj m ps'/\cJ (λ_=>True) (az 6) (dS (d8 (ak 4) qk)) (nD ss) [ζ (.ref j),a1,a2,ζ (.int (m:Int)),ζ (.ref n),a5,v,a7,a8,a9,aO,aQ,aN] c=.ok (.nx [ζ (.ref j),a1,a2,ζ (.int (m:Int)),ζ (.ref n),a5,v',a7,a8,a9,aO,aQ,aN]) c'
 |[],ps,v,c,_,hP,hp,_=>⟨ps,c,v,hP,hp,by simp⟩
 |s::ss,ps,v,c,hss,hP,hp,hl=>by
  have hs:=dR (n:=1000) (by decide)
  obtain⟨s1,s2⟩:=hss s (.head _);have hc:=O8 (a0:=ζ (.ref j)) (a1:=a1) (a2:=a2) (a4:=ζ (.ref n)) (a5:=a5) (a7:=a7) (a8:=a8) (a9:=a9) (aO:=aO) (aQ:=aQ) (aN:=aN) (q:=(m:Int)) (s:=(s:Int)) (c:=c) (by omega) (by rw[d7];omega) (Pa hm c)
  have hwl:(oz m s).length=m:=by simp[oz]
  rw[ahu,aiy]at hl;have hx:=zJ (j:=j) (n:=n) (ps:=ps) (qs:=oz m s) (dc:=qk) (e:=[ζ (.ref j),a1,a2,ζ (.int (m:Int)),ζ (.ref n),a5,ζ (.int (s:Int)),a7,a8,a9,aO,aQ,aN]) rfl hc hP (by omega)
  obtain⟨ps',c',v',P',gx,h'⟩:=G6 hm hm' (a1:=a1) (a2:=a2) (a5:=a5) (a7:=a7) (a8:=a8) (a9:=a9) (aO:=aO) (aQ:=aQ) (aN:=aN) ss (ps++oz m s) (ζ (.int (s:Int))) _ (λz hz=>hss z (.tail _ hz)) hP.plus (λp hq=>(ahT.mp hq).elim (hp p) (O9 s1 s2 p)) (by rw[ahC];omega)
  refine⟨ps',c',v',P',gx,?_⟩;have hg:az 6 (.int (s:Int)) [ζ (.ref j),a1,a2,ζ (.int (m:Int)),ζ (.ref n),a5,v,a7,a8,a9,aO,aQ,aN] c=.ok [ζ (.ref j),a1,a2,ζ (.int (m:Int)),ζ (.ref n),a5,ζ (.int (s:Int)),a7,a8,a9,aO,aQ,aN] c:=rfl;show cJ (λ_=>True) (az 6) (dS (d8 (ak 4) qk)) (.int (s:Int)::nD ss) _ c=_
  rw[lq,hg,R.aA,hx];exact h'
theorem wW{t:ai}{E:List (Option D)}{a m:Nat}{c:aa}(ha:a<m) (ht:∀k:Nat,a<k->k<m->∃b,t (ζ (.int (k:Int))::ζ (.int (a:Int))::E) c=.ok b c):∀(ks:List Nat) (v:Option D) (acc:List D),(∀k∈ks,a<k/\k<m) ->
  ∃qs:List (Nat×Nat),dj m qs/\qs.length<=ks.length/\bC (λ_=>True) (az 0) t (cX (ao (ak 1) (ao (ak 0) aq))) (ks.map λk:Nat=>.int (k:Int)) (v::ζ (.int (a:Int))::E) acc c=.ok (acc++qs.map bg) c
 |[],v,acc,_=>⟨[],λp hp=>(by cases hp),ahn _,by simp⟩
 |k::ks,v,acc,hk=>by
  have hkk:=hk k (.head _);have h2:(2:Nat)<=Ω:=dR (by decide)
  obtain⟨b,hb⟩:=ht k hkk.1 hkk.2;have h1:az 0 (.int (k:Int)) (v::ζ (.int (a:Int))::E) c=.ok (ζ (.int (k:Int))::ζ (.int (a:Int))::E) c:=rfl;have hE:(cX (ao (ak 1) (ao (ak 0) aq))) (ζ (.int (k:Int))::ζ (.int (a:Int))::E) c=.ok (bg (a,k)) c:=by
   simp only[mK,bJ,bD,gz,gs,bI,R.aA,ahu,ahK];rw[if_pos h2];rfl
  cases b with
  |true =>
   obtain⟨qs,n',l',h'⟩:=wW ha ht ks (ζ (.int (k:Int))) (acc++[bg (a,k)]) (λz hz=>hk z (.tail _ hz))
   refine⟨(a,k)::qs,λq hq=>?_,by simp only[ahu];omega,?_⟩
   ·rcases aho.mp hq with rfl|hq
    ·exact⟨ha,hkk.2,ahx hkk.1⟩
    ·exact n' q hq
   ·rw[aht,iy,h1,R.aA,hb,R.aA,if_pos rfl,hE,R.aA,h',ah1];rfl
  |false =>
   obtain⟨qs,n',l',h'⟩:=wW ha ht ks (ζ (.int (k:Int))) acc (λz hz=>hk z (.tail _ hz))
   refine⟨qs,n',by simp only[ahu];omega,?_⟩
   rw[aht,iy,h1,R.aA,hb,R.aA,if_neg (by decide),h']
theorem Gh{t:ai}{m:Nat}{c:aa}{st:aa->Prop}(hst:st c) (ht:∀a b:Nat,∃x,t [ζ (.int (a:Int)),ζ (.int (b:Int))] c=.ok x c):∀(ps:List (Nat×Nat)) (v w:Option D) (acc:List D),dj m ps ->
  ∃qs:List (Nat×Nat),dj m qs/\bC st (gY 2 (eg (az 0) (eg (az 1) iu))) t (cX (ao (ak 0) (ao (ak 1) aq))) (ps.map bg) [v,w] acc c=.ok (acc++qs.map bg) c
 |[],v,w,acc,_=>⟨[],λp hp=>(by cases hp),by unfold bC;simp[hst]⟩
 |p::ps,v,w,acc,hp=>by
  have h2:(2:Nat)<=Ω:=dR (by decide)
  obtain⟨b,hb⟩:=ht p.1 p.2;have h1:(gY 2 (eg (az 0) (eg (az 1) iu))) (bg p) [v,w] c=.ok [ζ (.int (p.1:Int)),ζ (.int (p.2:Int))] c:=by simp[bg]
  have hE:(cX (ao (ak 0) (ao (ak 1) aq))) [ζ (.int (p.1:Int)),ζ (.int (p.2:Int))] c=.ok (bg p) c:=by
   simp only[mK,bJ,bD,gz,gs,bI,R.aA,ahu,ahK];rw[if_pos h2];rfl
  have gx:dj m ps:=λq hq=>hp q (.tail _ hq)
  rw[aht];unfold bC;rw[if_pos hst,h1,R.aA,hb,R.aA];cases b with
  |true =>
   obtain⟨qs,n',h'⟩:=Gh hst ht ps (ζ (.int (p.1:Int))) (ζ (.int (p.2:Int))) (acc++[bg p]) gx;refine⟨p::qs,λq hq=>?_,?_⟩
   ·rcases aho.mp hq with rfl|hq
    ·exact hp _ (.head _)
    ·exact n' q hq
   ·rw[if_pos rfl,hE,R.aA,h',ah1];rfl
  |false =>
   obtain⟨qs,n',h'⟩:=Gh hst ht ps (ζ (.int (p.1:Int))) (ζ (.int (p.2:Int))) acc gx;exact⟨qs,n',by rw[if_neg (by decide),h']⟩
theorem Lg{j n m:Nat}{g:Gd}{B:ah}{E:Option D->Ev}(hm:m<64) (hE:∀x v c,g x (E v) c=.ok (E (ζ x)) c)
  (hB:∀(a:Nat) (ps:List (Nat×Nat)) (c:aa),a<m->PW j n ps c->ps.length<=64*64->∃(qs:List (Nat×Nat)) (c':aa),dj m qs/\qs.length<=m/\PW j n (ps++qs) c'/\B (E (ζ (.int (a:Int)))) c=.ok (.nx (E (ζ (.int (a:Int))))) c')
  {c:aa}(hP:PW j n [] c) (v:Option D):∃ps' c' v',PW j n ps' c'/\dj m ps'/\ps'.length<=64*64/\cJ (λ_=>True) g B (aL 0 (m:Int)) (E v) c=.ok (.nx (E v')) c':=by
 obtain⟨e',c',⟨ps',v',rfl,P',gx,hl'⟩,hf⟩:=lg (g:=g) (s:=B) (λk e c=>∃ps' v',e=E v'/\PW j n ps' c/\dj m ps'/\ps'.length<=k*m)
  (aL 0 (m:Int)) 0 (E v) c ⟨[],v,rfl,hP,λp hp=>(by cases hp),by simp⟩ (λi x hx e c ⟨ps1,v1,he,P1,hp1,hl1⟩=>by
   subst he;have hi:i<(aL 0 (m:Int)).length:=(ahz.mp hx).1;rw[d7]at hi;obtain⟨hlt,rfl⟩:=jV hx;rw[aiL];rw[ahZ]at hl1 ⊢;have hb:i*m<=64*64:=ait (by omega) (by omega)
   obtain⟨qs,c2,hq,hql,P2,h2⟩:=hB i ps1 c (by omega) P1 (by omega)
   refine⟨_,_,_,_,hE _ _ _,h2,ps1++qs,_,rfl,P2,λp hp=>(ahT.mp hp).elim (hp1 p) (hq p),?_⟩
   rw[ahC,aiy];omega)
 have hb:(aL 0 (m:Int)).length*m<=64*64:=ait (by rw[d7];omega) (by omega)
 rw[ahZ]at hl';exact⟨ps',c',v',P',gx,by omega,hf⟩
def ux:ai:=(aJ (au inD (au g8 (ak 0) (ak 1)) (cX (ao (dC (.int 1)) (ao (dC (.int 2)) (ao (dC (.int 4)) aq))))))
theorem aan(x:Int) (c:aa):inD (.int x) (.tup [.int 1,.int 2,.int 4]) c=.ok (.bl ([PyData.int 1,.int 2,.int 4].any λz=>z.eqv (.int x))) c:=by
 have h1:gR c (.int x)=ζ (.int x):=rfl;have h2:gR c (.tup [.int 1,.int 2,.int 4])=ζ (.tuple [.int 1,.int 2,.int 4]):=by
  simp[gR,eT,gB]
 unfold inD;rw[h1,h2];dsimp only;rw[if_pos (by simp[PyData.depth])]
theorem OM{a k:Nat}(c:aa):∃b,ux [ζ (.int (k:Int)),ζ (.int (a:Int))] c=.ok b c:=by
 have h3:(3:Nat)<=Ω:=dR (by decide)
 refine⟨[PyData.int 1,.int 2,.int 4].any λz=>z.eqv (.int ((k:Int)-(a:Int))),?_⟩
 unfold ux;simp only[jT,dw,bD,gz,gs,GO,mK,bJ,fC,bI,R.aA,ahu,ahK];rw[if_pos h3];simp only[R.aA,aan]
def wR:af:=(br (cY (ao (au aX (ak 9) (dC (.int 1))) (ao (ak 3) aq))) [η,ζ 9] (az 0) ux (cX (ao (ak 1) (ao (ak 0) aq))))
theorem ON{q a:Int}{a0 a1 a2 a4 a5 a6 a7 a8 aO aQ aN:Option D}{c:aa}{l:List D}(ba:-4611686018427387904<=a+1/\a+1<4611686018427387904) (b:-4611686018427387904<=q/\q<4611686018427387904) (hl:(aL (a+1) q).length<Ω) (h:bC (λ_=>True) (az 0) ux (cX (ao (ak 1) (ao (ak 0) aq))) (aL (a+1) q) [η,ζ (.int a)] [] c=.ok l c) :
  wR [a0,a1,a2,ζ (.int q),a4,a5,a6,a7,a8,ζ (.int a),aO,aQ,aN] c=.ok (.lst l) c:=by
 unfold wR;simp only[fB,mO,bJ,dw,bD,fC,gz,gs,bI,R.aA,ju];rw[if_pos ⟨by omega,by omega,by omega,by omega⟩]
 simp only[R.aA];rw[if_pos hl];have:ee [η,ζ 9] [a0,a1,a2,ζ (D.int q),a4,a5,a6,a7,a8,ζ (.int a),aO,aQ,aN]=[η,ζ (.int a)]:=rfl;rw[this,h];rfl
theorem OO{j n m:Nat}(hm:m<64) {a1 a2 a5 a6 a7 a8 aO aQ aN:Option D}{c:aa}(hP:PW j n [] c) (v:Option D):∃ps' c' v',PW j n ps' c'/\dj m ps'/\ps'.length<=64*64 /\
  cJ (λ_=>True) (az 9) (dS (d8 (ak 4) wR)) (aL 0 (m:Int)) [ζ (.ref j),a1,a2,ζ (.int (m:Int)),ζ (.ref n),a5,a6,a7,a8,v,aO,aQ,aN] c=.ok (.nx [ζ (.ref j),a1,a2,ζ (.int (m:Int)),ζ (.ref n),a5,a6,a7,a8,v',aO,aQ,aN]) c' :=
 Lg (E:=λv=>[ζ (.ref j),a1,a2,ζ (.int (m:Int)),ζ (.ref n),a5,a6,a7,a8,v,aO,aQ,aN]) hm (λ_ _ _=>rfl) (λa ps c ha hP hl=>by
  have hs:=dR (n:=1000) (by decide)
  obtain⟨qs,hq,ql,h⟩:=wW (t:=ux) (E:=[]) (c:=c) ha (λk _ _=>OM c) (List.range' (a+1) (m-(a+1))) η [] (λk hk=>by
   obtain⟨i,hi,rfl⟩:=ajp.mp hk;omega)
  rw[<-xF,ahy]at h;rw[aiB]at ql;have hc:=ON (a0:=ζ (.ref j)) (a1:=a1) (a2:=a2) (a4:=ζ (.ref n)) (a5:=a5) (a6:=a6) (a7:=a7) (a8:=a8) (aO:=aO) (aQ:=aQ) (aN:=aN) (by omega) (by omega) (by rw[d7];omega) h
  exact⟨qs,_,hq,by omega,hP.plus,zJ (j:=j) rfl hc hP (by omega)⟩) hP v
def uy:ai:=(aJ (au inD (au cV (au g8 (ak 0) (ak 1)) (ak 3)) (ak 2)))
theorem OS{a k:Nat}{q:Int}(hq:0<q) (l:List Int) (c:aa):∃b,uy [ζ (.int (k:Int)),ζ (.int (a:Int)),ζ (.lst (l.map D.int)),ζ (.int q)] c=.ok b c:=by
 obtain⟨b,hb⟩:=KD l (((k:Int)-(a:Int)) % q) c;have hm:cV (.int ((k:Int)-(a:Int))) (.int q) c=.ok (.int (((k:Int)-(a:Int)) % q)) c:=ni c hq;refine⟨b,?_⟩;unfold uy;simp only[jT,dw,bD,gz,gs,GO,R.aA,hm,hb]
def wU:af:=(br (cY (ao (au aX (ak 9) (dC (.int 1))) (ao (ak 3) aq))) [η,ζ 9,ζ 12,ζ 3] (az 0) uy (cX (ao (ak 1) (ao (ak 0) aq))))
theorem OT{q a:Int}{a0 a1 a2 a4 a5 a6 a7 a8 aO aQ aN:Option D}{c:aa}{l:List D}(ba:-4611686018427387904<=a+1/\a+1<4611686018427387904) (b:-4611686018427387904<=q/\q<4611686018427387904) (hl:(aL (a+1) q).length<Ω) (h:bC (λ_=>True) (az 0) uy (cX (ao (ak 1) (ao (ak 0) aq))) (aL (a+1) q) [η,ζ (.int a),aN,ζ (.int q)] [] c=.ok l c) :
  wU [a0,a1,a2,ζ (.int q),a4,a5,a6,a7,a8,ζ (.int a),aO,aQ,aN] c=.ok (.lst l) c:=by
 unfold wU;simp only[fB,mO,bJ,dw,bD,fC,gz,gs,bI,R.aA,ju];rw[if_pos ⟨by omega,by omega,by omega,by omega⟩]
 simp only[R.aA];rw[if_pos hl];have:ee [η,ζ 9,ζ 12,ζ 3] [a0,a1,a2,ζ (D.int q),a4,a5,a6,a7,a8,ζ (.int a),aO,aQ,aN]=[η,ζ (.int a),aN,ζ (.int q)]:=by cases aN<;>rfl
 rw[this,h];rfl
theorem OU{j n m:Nat}(h1:1<=m) (hm:m<64) {a1 a2 a5 a6 a7 a8 aO aQ:Option D}(sq:List Int) {c:aa}(hP:PW j n [] c) (v:Option D):∃ps' c' v',PW j n ps' c'/\dj m ps'/\ps'.length<=64*64 /\
  cJ (λ_=>True) (az 9) (dS (d8 (ak 4) wU)) (aL 0 (m:Int)) [ζ (.ref j),a1,a2,ζ (.int (m:Int)),ζ (.ref n),a5,a6,a7,a8,v,aO,aQ,ζ (.lst (sq.map D.int))] c=.ok (.nx [ζ (.ref j),a1,a2,ζ (.int (m:Int)),ζ (.ref n),a5,a6,a7,a8,v',aO,aQ,ζ (.lst (sq.map D.int))]) c' :=
 Lg (E:=λv=>[ζ (.ref j),a1,a2,ζ (.int (m:Int)),ζ (.ref n),a5,a6,a7,a8,v,aO,aQ,ζ (.lst (sq.map D.int))]) hm (λ_ _ _=>rfl) (λa ps c ha hP hl=>by
  have hs:=dR (n:=1000) (by decide)
  obtain⟨qs,hq,ql,h⟩:=wW (t:=uy) (E:=[ζ (.lst (sq.map D.int)),ζ (.int (m:Int))]) (c:=c) ha (λk _ _=>OS (by omega) sq c) (List.range' (a+1) (m-(a+1))) η [] (λk hk=>by
   obtain⟨i,hi,rfl⟩:=ajp.mp hk;omega)
  rw[<-xF,ahy]at h;rw[aiB]at ql;have hc:=OT (a0:=ζ (.ref j)) (a1:=a1) (a2:=a2) (a4:=ζ (.ref n)) (a5:=a5) (a6:=a6) (a7:=a7) (a8:=a8) (aO:=aO) (aQ:=aQ) (aN:=ζ (.lst (sq.map D.int))) (by omega) (by omega) (by rw[d7];omega) h
  exact⟨qs,_,hq,by omega,hP.plus,zJ (j:=j) rfl hc hP (by omega)⟩) hP v
def jo(j n:Nat) (most:Int) (B:ah) (E:Ev) (c:aa):Prop :=
 ∃(m:Nat) (ps:List (Nat×Nat)) (X:D) (c':aa) (E':Ev),1<=m/\(m:Int)<=most/\dj m ps/\ez j n (c'.take n)/\E'[3]? = ζ (ζ (.int (m:Int)))/\E'[4]? = ζ (ζ X)/\((∃k,X=.ref k/\c'[k]? = ζ (.lst (ps.map bg)))\/X=.lst (ps.map bg))/\B E c=.ok (.nx E') c'
theorem jo.yes{j n:Nat}{most:Int}{s s':ah}{t:ai}{E:Ev}{c:aa}(ht:t E c=.ok Θ c) (h:jo j n most s E c):jo j n most (bz t s s') E c:=by
 obtain⟨m,ps,X,c',E',h1,h2,h3,h4,h5,h6,h7,h8⟩:=h;exact⟨m,ps,X,c',E',h1,h2,h3,h4,h5,h6,h7,by rw[iK,ht,R.aA,if_pos rfl];exact h8⟩
theorem jo.no{j n:Nat}{most:Int}{s s':ah}{t:ai}{E:Ev}{c:aa}(ht:t E c=.ok Γ c) (h:jo j n most s' E c):jo j n most (bz t s s') E c:=by
 obtain⟨m,ps,X,c',E',h1,h2,h3,h4,h5,h6,h7,h8⟩:=h;exact⟨m,ps,X,c',E',h1,h2,h3,h4,h5,h6,h7,by rw[iK,ht,R.aA,if_neg (by decide)];exact h8⟩
theorem PW.take{j n:Nat}{ps:List (Nat×Nat)}{c:aa}{cC:Int}(h:PW j n ps c) (h0:0<cC) (h1:cC<1073741824):∃(x:Int) (c':aa),0<=x/\x<cC/\PW j n ps c'/\aS [.ref j,.int cC] c=.ok (.int x) c':=by
 obtain⟨p,hp⟩:=h.2.2.1;exact⟨p % cC,_,ajm _ (by omega),ajn _ h0,h.turn _,take2 hp h0 h1⟩
theorem R4(k:Nat):aL 1 ((k:Int)+1)=(List.range' 1 k).map λi:Nat=>.int (i:Int):=by
 unfold aL;rw[show((k:Int)+1-1).toNat=k by omega,akV,ahR]
 refine ah5 λi _=>?_
 show D.int _=D.int _
 congr 1
def AO:ah:=(aE 5 (br (cY (ao (dC (.int 1)) (ao (au aX (au fq (ak 3) (dC (.int 2))) (dC (.int 1))) aq))) [η,ζ 0] (az 0) uJ (ak 0)))
theorem Pc{q r:Int}{a0 a1 a2 a4 a5 a6 a7 a8 a9 aO aQ aN:Option D}{c c':aa}{l:List D}(hr:fq (.int q) (.int 2) c=.ok (.int r) c) (b:-4611686018427387904<=r+1/\r+1<4611686018427387904) (hl:(aL 1 (r+1)).length<Ω) (h:bC (λ_=>True) (az 0) uJ (ak 0) (aL 1 (r+1)) [η,a0] [] c=.ok l c') :
  AO [a0,a1,a2,ζ (.int q),a4,a5,a6,a7,a8,a9,aO,aQ,aN] c=.ok (.nx [a0,a1,a2,ζ (.int q),a4,ζ (.lst l),a6,a7,a8,a9,aO,aQ,aN]) c':=by
 unfold AO;simp only[gG,fB,mO,bJ,dw,bD,fC,gz,gs,bI,R.aA,hr,ju];rw[if_pos ⟨by omega,by omega,by omega,by omega⟩]
 simp only[R.aA];rw[if_pos hl];have:ee [η,ζ 0] [a0,a1,a2,ζ (D.int q),a4,a5,a6,a7,a8,a9,aO,aQ,aN]=[η,a0]:=by cases a0<;>rfl
 rw[this,h];rfl
def AN:ah:=aD AO (bU (cS (ak 5)) (az 6) (dS (d8 (ak 4) qk)))
theorem OG{j n m:Nat}{most:Int}{c:aa}{a2:Option D}(hm:1<=m) (hm':(m:Int)<=most) (h6:most<60) (hP:PW j n [] c):jo j n most AN [ζ (.ref j),ζ (.int most),a2,ζ (.int (m:Int)),ζ (.ref n),η,η,η,η,η,η,η,η] c:=by
 have hs:=dR (n:=1000) (by decide)
 obtain⟨ss,c1,P1,hss,hsl,h1⟩:=A9 (j:=j) (n:=n) (ps:=[]) (List.range' 1 (m/2)) η [] c hP;rw[<-R4,ahy]at h1;rw[aiB]at hsl;have hd:fq (.int (m:Int)) (.int 2) c=.ok (.int ((m/2:Nat):Int)) c:=by
  rw[sJ c (by decide) (by decide),show((m/2:Nat):Int)=(m:Int)/2 by omega]
 have e0:=Pc (a1:=ζ (.int most)) (a2:=a2) (a4:=ζ (.ref n)) (a5:=η) (a6:=η) (a7:=η) (a8:=η) (a9:=η) (aO:=η) (aQ:=η) (aN:=η) hd (by omega) (by rw[d7];omega) h1
 have hb:ss.length*m<=64*64:=ait (by omega) (by omega)
 obtain⟨ps,c2,v,P2,hp2,h2⟩:=G6 (j:=j) (n:=n) hm (by omega) (a1:=ζ (.int most)) (a2:=a2) (a5:=ζ (.lst (nD ss))) (a7:=η) (a8:=η) (a9:=η) (aO:=η) (aQ:=η) (aN:=η) ss [] η c1 (λs hs=>by
  obtain⟨i,hi,rfl⟩:=ajp.mp (hss s hs);omega) P1 (λp hp=>(by cases hp)) (by simp only[ahK];omega)
 have su:cS (ak 5) [ζ (.ref j),ζ (.int most),a2,ζ (.int (m:Int)),ζ (.ref n),ζ (.lst (nD ss)),η,η,η,η,η,η,η] c1=.ok ⟨nD ss,λ_=>True⟩ c1:=rfl
 refine⟨m,ps,.ref n,c2,[ζ (.ref j),ζ (.int most),a2,ζ (.int (m:Int)),ζ (.ref n),ζ (.lst (nD ss)),v,η,η,η,η,η,η],hm,hm',hp2,P2.rJ,rfl,rfl,.inl ⟨n,rfl,P2.2.2.2⟩,?_⟩;unfold AN;rw[bf e0,iL,su];exact h2
theorem XD(M:List (List Int)):bP (dz M)=Θ:=iG.mpr λd hd=>by
 obtain⟨l,_,rfl⟩:=ahw.mp hd;unfold noRef;refine iG.mpr λd hd=>?_
 obtain⟨i,_,rfl⟩:=ahw.mp hd;rfl
theorem YT(M N:List (List Int)):dz (M++N)=dz M++dz N:=by simp[dz]
theorem JY(M:List (List Int)):(dz M).length=M.length:=by simp[dz]
theorem ab2{c:aa}{xs ys:List D}{e:Ev}{dc:af}{i:Nat}(hi:e[i]? = ζ (ζ (.ref c.length))) (hc:dc e (c++[.lst xs])=.ok (.lst ys) (c++[.lst xs])) (hl:xs.length+ys.length<=100000) (nr:bP ys=Θ) :
  dS (d8 (ak i) dc) e (c++[.lst xs])=.ok (.nx e) (c++[.lst (xs++ys)]):=by
 have hs:100000<=Ω:=by decide
 have hg:(c++[Cell.lst xs])[c.length]? = ζ (.lst xs):=by simp
 have aaC:(c++[Cell.lst xs]).set c.length (.lst (xs++ys))=c++[.lst (xs++ys)]:=by simp
 have:d8 (ak i) dc e (c++[.lst xs])=.ok .aH (c++[.lst (xs++ys)]):=by
  unfold d8;simp only[bD,hi,R.aA,hc];rw[hg];dsimp only;rw[if_pos ⟨by omega,nr⟩,aaC]
 rw[uo,this];rfl
def ow:af:=(br (cY (ao (au aX (ak 9) (dC (.int 1))) (ao (ak 7) aq))) [η,ζ 9] (az 0) aW (bx (ao (ak 1) (ao (ak 0) aq))))
theorem G4{a:Nat}{c:aa}:∀(ks:List Nat) (v:Option D) (acc:List D),bC (λ_=>True) (az 0) aW (bx (ao (ak 1) (ao (ak 0) aq))) (ks.map λk:Nat=>.int (k:Int)) [v,ζ (.int (a:Int))] acc c=.ok (acc++dz (ks.map λk:Nat=>[(a:Int),(k:Int)])) c
 |[],v,acc=>by simp[dz]
 |k::ks,v,acc=>by
  have h2:(2:Nat)<=Ω:=dR (by decide)
  have h1:az 0 (.int (k:Int)) [v,ζ (.int (a:Int))] c=.ok [ζ (.int (k:Int)),ζ (.int (a:Int))] c:=rfl;have hE:(bx (ao (ak 1) (ao (ak 0) aq))) [ζ (.int (k:Int)),ζ (.int (a:Int))] c=.ok (.lst ([(a:Int),(k:Int)].map D.int)) c:=by
   simp only[ou,bJ,bD,gz,gs,bI,R.aA,ahu,ahK];rw[if_pos h2];rfl
  rw[aht,iy,h1,R.aA,mJ,R.aA,if_pos rfl,hE,R.aA,G4 ks,ah1];rfl
theorem O2{q a:Int}{a0 a1 a2 a3 a4 a5 a6 a8 aO aQ aN:Option D}{c:aa}{l:List D}(ba:-4611686018427387904<=a+1/\a+1<4611686018427387904) (b:-4611686018427387904<=q/\q<4611686018427387904) (hl:(aL (a+1) q).length<Ω) (h:bC (λ_=>True) (az 0) aW (bx (ao (ak 1) (ao (ak 0) aq))) (aL (a+1) q) [η,ζ (.int a)] [] c=.ok l c) :
  ow [a0,a1,a2,a3,a4,a5,a6,ζ (.int q),a8,ζ (.int a),aO,aQ,aN] c=.ok (.lst l) c:=by
 unfold ow;simp only[fB,mO,bJ,dw,bD,fC,gz,gs,bI,R.aA,ju];rw[if_pos ⟨by omega,by omega,by omega,by omega⟩]
 simp only[R.aA];rw[if_pos hl];have:ee [η,ζ 9] [a0,a1,a2,a3,a4,a5,a6,ζ (D.int q),a8,ζ (.int a),aO,aQ,aN]=[η,ζ (.int a)]:=rfl;rw[this,h];rfl
theorem O3{t:Nat}(ht:2<=t) (ht':t<=5) {a0 a1 a2 a3 a4 a5 a6 aO aQ aN:Option D}(c:aa):∃(M:List (List Int)) (v:Option D),1<=M.length/\M.length<=25/\(∀l∈M,l.length<1000) /\
  cJ (λ_=>True) (az 9) (dS (d8 (ak 8) ow)) (aL 0 (t:Int)) [a0,a1,a2,a3,a4,a5,a6,ζ (.int (t:Int)),ζ (.ref c.length),η,aO,aQ,aN] (c++[.lst []])=.ok (.nx [a0,a1,a2,a3,a4,a5,a6,ζ (.int (t:Int)),ζ (.ref c.length),v,aO,aQ,aN]) (c++[.lst (dz M)]):=by
 have hs:=dR (n:=1000) (by decide)
 have hlen:(aL 0 (t:Int)).length=t:=by rw[d7];omega
 obtain⟨e',c',⟨M,v,rfl,rfl,h1,h2,h3⟩,hf⟩:=lg (g:=az 9) (s:=dS (d8 (ak 8) ow)) (λk e c'=>∃(M:List (List Int)) (v:Option D),e=[a0,a1,a2,a3,a4,a5,a6,ζ (.int (t:Int)),ζ (.ref c.length),v,aO,aQ,aN]/\c'=c++[.lst (dz M)]/\(1<=k->1<=M.length)/\M.length<=k*t/\(∀l∈M,l.length<1000))
  (aL 0 (t:Int)) 0 [a0,a1,a2,a3,a4,a5,a6,ζ (.int (t:Int)),ζ (.ref c.length),η,aO,aQ,aN] (c++[.lst []]) ⟨[],η,rfl,rfl,λh=>absurd h (by omega),by simp,λl hl=>(by cases hl)⟩ (λi x hx e c' ⟨M,v,he,hc,g1,g2,g3⟩=>by
   subst he;subst hc;have hi:=(ahz.mp hx).1;obtain⟨hlt,rfl⟩:=jV hx;rw[aiL];rw[ahZ]at g1 g2 ⊢;rw[hlen]at hi;have hb:i*t<=5*5:=ait (by omega) ht'
   have hC:=G4 (a:=i) (c:=c++[.lst (dz M)]) (List.range' (i+1) (t-(i+1))) η [];rw[<-xF,ahy]at hC;have Du:=O2 (a0:=a0) (a1:=a1) (a2:=a2) (a3:=a3) (a4:=a4) (a5:=a5) (a6:=a6) (a8:=ζ (.ref c.length)) (aO:=aO) (aQ:=aQ) (aN:=aN) (by omega) (by omega) (by rw[d7];omega) hC
   have hx:=ab2 (i:=8) (e:=[a0,a1,a2,a3,a4,a5,a6,ζ (.int (t:Int)),ζ (.ref c.length),ζ (.int (i:Int)),aO,aQ,aN]) rfl Du (by rw[JY,JY,ahr,aiB];omega) (XD _)
   rw[<-YT]at hx;refine⟨_,_,_,_,rfl,hx,_,_,rfl,rfl,λ_=>?_,?_,λl hl=>?_⟩
   ·rw[ahC,ahr,aiB]
    rcases Nat.eq_zero_or_pos i with q|q
    ·omega
    ·have:=g1 q;omega
   ·rw[ahC,ahr,aiB,aiy];omega
   ·rcases ahT.mp hl with h|h
    ·exact g3 l h
    ·obtain⟨k,_,rfl⟩:=ahw.mp h;simp)
 rw[hlen,ahZ]at h1 h2;have hb:t*t<=5*5:=ait ht' ht';exact⟨M,v,h1 (by omega),by omega,h3,hf⟩
def AM:ah:=aD (aE 7 (au aG (bx (ao (dC (.int 2)) (ao (dC (.int 3)) (ao (dC (.int 4)) (ao (dC (.int 5)) aq))))) (aC 2 aS (ao (ak 0) (ao (dC (.int 4)) aq))))) (aD (aE 8 (er aq)) (aD (bU (bG (ao (ak 7) aq)) (az 9) (dS (d8 (ak 8) ow))) (aD (aE 3 (aF fM (ao (aF aT (ao (ak 8) aq)) (ao (ak 1) aq)))) (aE 4 (aC 2 j9 (ao (ak 3) (ao (ak 8) aq)))))))
theorem O6{x t:Int}{j:Nat}{a1 a2 a3 a4 a5 a6 a7 a8 a9 aO aQ aN:Option D}{c c1:aa}(h:aS [.ref j,.int 4] c=.ok (.int x) c1) (ht:cM [D.int 2,.int 3,.int 4,.int 5] x=ζ (.int t)) :
  (aE 7 (au aG (bx (ao (dC (.int 2)) (ao (dC (.int 3)) (ao (dC (.int 4)) (ao (dC (.int 5)) aq))))) (aC 2 aS (ao (ak 0) (ao (dC (.int 4)) aq))))) [ζ (.ref j),a1,a2,a3,a4,a5,a6,a7,a8,a9,aO,aQ,aN] c=.ok (.nx [ζ (.ref j),a1,a2,a3,a4,a5,a6,ζ (.int t),a8,a9,aO,aQ,aN]) c1:=by
 have h4:(4:Nat)<=Ω:=dR (by decide)
 simp only[gG,dw,ou,bJ,fC,bI,x_call,bD,gz,gs,R.aA,ahu,ahK];rw[if_pos h4];simp only[R.aA,if_pos,h,gU,ht];rfl
theorem O4{q:Int}{a0 a1 a2 a3 a4 a5 a6 a8 a9 v aO aQ aN:Option D}{c c':aa}(b:-4611686018427387904<=q/\q<4611686018427387904) (h:cJ (λ_=>True) (az 9) (dS (d8 (ak 8) ow)) (aL 0 q) [a0,a1,a2,a3,a4,a5,a6,ζ (.int q),a8,a9,aO,aQ,aN] c=.ok (.nx [a0,a1,a2,a3,a4,a5,a6,ζ (.int q),a8,v,aO,aQ,aN]) c') :
  (bU (bG (ao (ak 7) aq)) (az 9) (dS (d8 (ak 8) ow))) [a0,a1,a2,a3,a4,a5,a6,ζ (.int q),a8,a9,aO,aQ,aN] c=.ok (.nx [a0,a1,a2,a3,a4,a5,a6,ζ (.int q),a8,v,aO,aQ,aN]) c':=by
 simp only[iL,gH,bJ,bD,gz,gs,bI,R.aA];rw[if_pos (by omega)]
 exact h
theorem O5{most L q:Int}{k:Nat}{a0 a2 a3 a4 a5 a6 a7 a9 aO aQ aN:Option D}{c:aa}(hL:aT [.ref k] c=.ok (.int L) c) (hq:(if most<L then most else L)=q) :
  (aE 3 (aF fM (ao (aF aT (ao (ak 8) aq)) (ao (ak 1) aq)))) [a0,ζ (.int most),a2,a3,a4,a5,a6,a7,ζ (.ref k),a9,aO,aQ,aN] c=.ok (.nx [a0,ζ (.int most),a2,ζ (.int q),a4,a5,a6,a7,ζ (.ref k),a9,aO,aQ,aN]) c:=by
 simp only[gG,iM,bJ,bD,gz,gs,bI,R.aA,hL,um,hq];rfl
theorem G5{q:Int}{X W:D}{a0 a1 a2 a4 a5 a6 a7 a9 aO aQ aN:Option D}{c:aa}(h:j9 [.int q,X] c=.ok W c) :
  (aE 4 (aC 2 j9 (ao (ak 3) (ao (ak 8) aq)))) [a0,a1,a2,ζ (.int q),a4,a5,a6,a7,ζ X,a9,aO,aQ,aN] c=.ok (.nx [a0,a1,a2,ζ (.int q),ζ W,a5,a6,a7,ζ X,a9,aO,aQ,aN]) c:=by
 simp only[gG,x_call,bJ,bD,gz,gs,bI,R.aA,ahu,ahK,if_pos,h];rfl
theorem PW.S6{j n:Nat}{ps:List (Nat×Nat)}{c:aa}(h:PW j n ps c) (Rc:aa):ez j n ((c++Rc).take n):=by
 have:=h.rJ
 rwa[List.take_append_of_le_length (by have:=h.1;omega)]
theorem OF{j n:Nat}{most:Int}{c:aa}{a2 a3:Option D}(h0:0<most) (h6:most<60) (hP:PW j n [] c):jo j n most AM [ζ (.ref j),ζ (.int most),a2,a3,ζ (.ref n),η,η,η,η,η,η,η,η] c:=by
 obtain⟨x,c1,x0,x1,P1,t1⟩:=hP.take (cC:=4) (by decide) (by decide)
 have hx:∃t:Nat,2<=t/\t<=5/\cM [D.int 2,.int 3,.int 4,.int 5] x=ζ (.int (t:Int)):=by
  have:x=0\/x=1\/x=2\/x=3:=by omega
  rcases this with rfl|rfl|rfl|rfl
  ·exact⟨2,by decide,by decide,rfl⟩
  ·exact⟨3,by decide,by decide,rfl⟩
  ·exact⟨4,by decide,by decide,rfl⟩
  ·exact⟨5,by decide,by decide,rfl⟩
 obtain⟨t,ht,ht',hx⟩:=hx;have e0:=O6 (a1:=ζ (.int most)) (a2:=a2) (a3:=a3) (a4:=ζ (.ref n)) (a5:=η) (a6:=η) (a7:=η) (a8:=η) (a9:=η) (aO:=η) (aQ:=η) (aN:=η) t1 hx;have e1:(aE 8 (er aq)) [ζ (.ref j),ζ (.int most),a2,a3,ζ (.ref n),η,η,ζ (.int (t:Int)),η,η,η,η,η] c1=.ok (.nx [ζ (.ref j),ζ (.int most),a2,a3,ζ (.ref n),η,η,ζ (.int (t:Int)),ζ (.ref c1.length),η,η,η,η]) (c1++[.lst []]):=by
  generalize (t:Int)=q
  simp
 obtain⟨M,v,M1,M2,M3,hf⟩:=O3 ht ht' (a0:=ζ (.ref j)) (a1:=ζ (.int most)) (a2:=a2) (a3:=a3) (a4:=ζ (.ref n)) (a5:=η) (a6:=η) (aO:=η) (aQ:=η) (aN:=η) c1;have e2:=O4 (by omega) hf
 have hL:aT [.ref c1.length] (c1++[.lst (dz M)])=.ok (.int (M.length:Int)) (c1++[.lst (dz M)]):=by
  unfold aT;simp[gp,dz]
 obtain⟨m,hm⟩:=ig (i:=if most<(M.length:Int)then most else(M.length:Int)) (by split<;>omega)
 have hm1:1<=m/\(m:Int)<=most/\m<=M.length:=by split at hm<;>omega
 have e3:=O5 (a0:=ζ (.ref j)) (a2:=a2) (a3:=a3) (a4:=ζ (.ref n)) (a5:=η) (a6:=η) (a7:=ζ (.int (t:Int))) (a9:=v) (aO:=η) (aQ:=η) (aN:=η) hL hm;obtain⟨ps,hp,hnr⟩:=JE (X:=.ref c1.length) (M:=M) (m:=m) (c:=c1++[.lst (dz M)]) (by simp[dB]) hm1.2.2 M3 (by omega)
 have e4:=G5 (a0:=ζ (.ref j)) (a1:=ζ (.int most)) (a2:=a2) (a4:=ζ (.ref n)) (a5:=η) (a6:=η) (a7:=ζ (.int (t:Int))) (a9:=v) (aO:=η) (aQ:=η) (aN:=η) hnr;refine⟨m,ps,.lst (ps.map bg),c1++[.lst (dz M)],[ζ (.ref j),ζ (.int most),a2,ζ (.int (m:Int)),ζ (.lst (ps.map bg)),η,η,ζ (.int (t:Int)),ζ (.ref c1.length),v,η,η,η],hm1.1,hm1.2.1,hp,P1.S6 _,rfl,rfl,.inr rfl,?_⟩;unfold AM;rw[bf e0,bf e1,bf e2,bf e3,e4]
theorem JZ{E:List (Option D)}{a:af}{m:Nat}{c:aa}(G:Nat->List Int) (h:∀k:Nat,k<m->a (ζ (.int (k:Int))::E) c=.ok (.lst ((G k).map D.int)) c):bC (λ_=>True) (az 0) aW a (aL 0 (m:Int)) (η::E) [] c=.ok (dz ((ε m).map G)) c:=by
 have:=nO (c:=c) (g:=az 0) (t:=aW) (a:=a) (λe=>∃v,e=v::E) (λ_=>Θ) (λd=>match d with|.int k=>.lst ((G k.toNat).map D.int)|d=>d) (aL 0 (m:Int)) (η::E) [] ⟨_,rfl⟩ (λd hd e ⟨v,he⟩=>by
  subst he;obtain⟨k',rfl,k0,k1⟩:=oW hd;obtain⟨k,rfl⟩:=ig k0;exact⟨_,rfl,⟨_,rfl⟩,rfl,λ_=>h k (by omega)⟩)
 rw[this,ahy,yW,xG]
 congr 1
 unfold dz;rw[ahR];rfl
theorem OY{w:Int}(h1:0<w) (h2:w<100) (k:Int) (c:aa):(bx (ao (au fq (ak 0) (ak 1)) aq)) [ζ (.int k),ζ (.int w)] c=.ok (.lst ([k/w].map D.int)) c:=by
 have hl:(1:Nat)<=Ω:=dR (by decide)
 have hd:fq (.int k) (.int w) c=.ok (.int (k/w)) c:=sJ c h1 (by omega)
 simp only[ou,bJ,dw,bD,gz,gs,bI,R.aA,hd,ahu,ahK];rw[if_pos hl];rfl
theorem OX{w:Int}(h1:0<w) (h2:w<100) (k:Int) (c:aa):(bx (ao (au fq (ak 0) (ak 1)) (ao (au aX (dC (.int 10)) (au cV (ak 0) (ak 1))) aq))) [ζ (.int k),ζ (.int w)] c=.ok (.lst ([k/w,10+k % w].map D.int)) c:=by
 have hl:(2:Nat)<=Ω:=dR (by decide)
 have hd:fq (.int k) (.int w) c=.ok (.int (k/w)) c:=sJ c h1 (by omega)
 have hm:cV (.int k) (.int w) c=.ok (.int (k % w)) c:=ni c h1;simp only[ou,bJ,dw,bD,fC,gz,gs,bI,R.aA,hd,hm,ju,ahu,ahK];rw[if_pos hl];rfl
def AK:ah:=aD (aE 10 (au aX (dC (.int 1)) (aC 2 aS (ao (ak 0) (ao (aF fM (ao (dC (.int 4)) (ao (ak 1) aq))) aq))))) (aD (aE 11 (au aX (dC (.int 1)) (aC 2 aS (ao (ak 0) (ao (aF fM (ao (dC (.int 4)) (ao (au fq (ak 1) (ak 10)) aq))) aq))))) (aD (aE 3 (au eB (ak 10) (ak 11))) (aD (aE 8 (br (bG (ao (ak 3) aq)) [η,ζ 11] (az 0) aW (bx (ao (au fq (ak 0) (ak 1)) aq)))) (aD (bz (aJ (au bT (ak 2) (dC (.int 2)))) (aE 8 (br (bG (ao (ak 3) aq)) [η,ζ 11] (az 0) aW (bx (ao (au fq (ak 0) (ak 1)) (ao (au aX (dC (.int 10)) (au cV (ak 0) (ak 1))) aq))))) bL) (aE 4 (aC 2 j9 (ao (ak 3) (ao (ak 8) aq))))))))
theorem O1{most f x:Int}{j:Nat}{a2 a3 a4 a5 a6 a7 a8 a9 aO aQ aN:Option D}{c c1:aa}(hf:(if most<4 then most else 4)=f) (h:aS [.ref j,.int f] c=.ok (.int x) c1) :
  (aE 10 (au aX (dC (.int 1)) (aC 2 aS (ao (ak 0) (ao (aF fM (ao (dC (.int 4)) (ao (ak 1) aq))) aq))))) [ζ (.ref j),ζ (.int most),a2,a3,a4,a5,a6,a7,a8,a9,aO,aQ,aN] c=.ok (.nx [ζ (.ref j),ζ (.int most),a2,a3,a4,a5,a6,a7,a8,a9,ζ (.int (1+x)),aQ,aN]) c1:=by
 simp only[gG,dw,fC,x_call,iM,bJ,bD,gz,gs,bI,R.aA,um,hf,ahu,ahK,if_pos,h,ju];rfl
theorem OZ{most hi r f x:Int}{j:Nat}{a2 a3 a4 a5 a6 a7 a8 a9 aQ aN:Option D}{c c1:aa}(hr:fq (.int most) (.int hi) c=.ok (.int r) c) (hf:(if r<4 then r else 4)=f) (h:aS [.ref j,.int f] c=.ok (.int x) c1) :
  (aE 11 (au aX (dC (.int 1)) (aC 2 aS (ao (ak 0) (ao (aF fM (ao (dC (.int 4)) (ao (au fq (ak 1) (ak 10)) aq))) aq))))) [ζ (.ref j),ζ (.int most),a2,a3,a4,a5,a6,a7,a8,a9,ζ (.int hi),aQ,aN] c=.ok (.nx [ζ (.ref j),ζ (.int most),a2,a3,a4,a5,a6,a7,a8,a9,ζ (.int hi),ζ (.int (1+x)),aN]) c1:=by
 simp only[gG,dw,fC,x_call,iM,bJ,bD,gz,gs,bI,R.aA,hr,um,hf,ahu,ahK,if_pos,h,ju];rfl
theorem O0{hi w q:Int}{a0 a1 a2 a3 a4 a5 a6 a7 a8 a9 aN:Option D}{c:aa}(h:eB (.int hi) (.int w) c=.ok (.int q) c) :
  (aE 3 (au eB (ak 10) (ak 11))) [a0,a1,a2,a3,a4,a5,a6,a7,a8,a9,ζ (.int hi),ζ (.int w),aN] c=.ok (.nx [a0,a1,a2,ζ (.int q),a4,a5,a6,a7,a8,a9,ζ (.int hi),ζ (.int w),aN]) c:=by
 simp only[gG,dw,bD,gz,gs,R.aA,h];rfl
theorem G3{q w:Int}{a:af}{l:List D}{a0 a1 a2 a4 a5 a6 a7 a8 a9 aO aN:Option D}{c:aa}(b:-4611686018427387904<=q/\q<4611686018427387904) (hl:(aL 0 q).length<Ω) (h:bC (λ_=>True) (az 0) aW a (aL 0 q) [η,ζ (.int w)] [] c=.ok l c) :
  (aE 8 (br (bG (ao (ak 3) aq)) [η,ζ 11] (az 0) aW a)) [a0,a1,a2,ζ (.int q),a4,a5,a6,a7,a8,a9,aO,ζ (.int w),aN] c=.ok (.nx [a0,a1,a2,ζ (.int q),a4,a5,a6,a7,ζ (.lst l),a9,aO,ζ (.int w),aN]) c:=by
 simp only[gG,fB,gH,bJ,bD,gz,gs,bI,R.aA];rw[if_pos (by omega)]
 simp only[R.aA];rw[if_pos hl];have:ee [η,ζ 11] [a0,a1,a2,ζ (D.int q),a4,a5,a6,a7,a8,a9,aO,ζ (.int w),aN]=[η,ζ (.int w)]:=rfl;rw[this,h];rfl
theorem G2{y:Int}{a0 a1 a3 a4 a5 a6 a7 a8 a9 aO aQ aN:Option D}{c:aa}:(aJ (au bT (ak 2) (dC (.int 2)))) [a0,a1,ζ (.int y),a3,a4,a5,a6,a7,a8,a9,aO,aQ,aN] c=.ok (decide (y=2)) c:=by
 simp only[jT,dw,bD,gz,gs,fC,R.aA,GR]
theorem G0{j n:Nat}{most y:Int}{c:aa}{a3:Option D}(h0:0<most) (h6:most<60) (hP:PW j n [] c):jo j n most AK [ζ (.ref j),ζ (.int most),ζ (.int y),a3,ζ (.ref n),η,η,η,η,η,η,η,η] c:=by
 have hs:=dR (n:=1000) (by decide)
 obtain⟨f,hf⟩:∃f:Int,(if most<4 then most else 4)=f:=⟨_,rfl⟩
 have hf':0<f/\f<=4/\f<=most:=by split at hf<;>omega
 obtain⟨x,c1,x0,x1,P1,t1⟩:=hP.take (cC:=f) hf'.1 (by omega)
 have e0:=O1 (a2:=ζ (.int y)) (a3:=a3) (a4:=ζ (.ref n)) (a5:=η) (a6:=η) (a7:=η) (a8:=η) (a9:=η) (aO:=η) (aQ:=η) (aN:=η) hf t1;obtain⟨hi,hhi⟩:=ig (i:=1+x) (by omega)
 rw[hhi]at e0;have hr:fq (.int most) (.int (hi:Int)) c1=.ok (.int (most/(hi:Int))) c1:=sJ c1 (by omega) (by omega)
 obtain⟨r,hr'⟩:∃r:Int,most/(hi:Int)=r:=⟨_,rfl⟩;have hr1:0<r:=by
  have:=Int.le_ediv_of_mul_le (a:=1) (b:=most) (c:=(hi:Int)) (by omega) (by omega)
  omega
 have hr2:(hi:Int)*r<=most:=by
  rw[<-hr'];exact Int.mul_ediv_self_le (by omega)
 rw[hr']at hr;obtain⟨g,hg⟩:∃g:Int,(if r<4 then r else 4)=g:=⟨_,rfl⟩
 have hg':0<g/\g<=4/\g<=r:=by split at hg<;>omega
 obtain⟨z,c2,z0,z1,P2,t2⟩:=P1.take (cC:=g) hg'.1 (by omega)
 have e1:=OZ (a2:=ζ (.int y)) (a3:=a3) (a4:=ζ (.ref n)) (a5:=η) (a6:=η) (a7:=η) (a8:=η) (a9:=η) (aQ:=η) (aN:=η) hr hg t2;obtain⟨w,hw⟩:=ig (i:=1+z) (by omega)
 rw[hw]at e1;have hm0:((hi*w:Nat):Int)=(hi:Int)*(w:Int):=by simp
 have hmul:eB (.int (hi:Int)) (.int (w:Int)) c2=.ok (.int ((hi*w:Nat):Int)) c2:=by rw[hm0];exact BW c2 (by omega) (by omega)
 have hm1:(hi:Int)*(w:Int)<=most:=Int.le_trans (Int.mul_le_mul_of_nonneg_left (by omega) (by omega)) hr2
 rw[<-hm0]at hm1;have hm2:1<=hi*w:=Nat.mul_pos (by omega) (by omega)
 clear hm0
 generalize hi*w=m at *
 have e2:=O0 (a0:=ζ (.ref j)) (a1:=ζ (.int most)) (a2:=ζ (.int y)) (a3:=a3) (a4:=ζ (.ref n)) (a5:=η) (a6:=η) (a7:=η) (a8:=η) (a9:=η) (aN:=η) hmul;have hA:=JZ (E:=[ζ (.int (w:Int))]) (m:=m) (c:=c2) (λk:Nat=>[(k:Int)/(w:Int)]) (λk _=>OY (w:=(w:Int)) (by omega) (by omega) (k:Int) c2)
 have hB:=JZ (E:=[ζ (.int (w:Int))]) (m:=m) (c:=c2) (λk:Nat=>[(k:Int)/(w:Int),10+(k:Int) % (w:Int)]) (λk _=>OX (w:=(w:Int)) (by omega) (by omega) (k:Int) c2)
 have e3:=G3 (a0:=ζ (.ref j)) (a1:=ζ (.int most)) (a2:=ζ (.int y)) (a4:=ζ (.ref n)) (a5:=η) (a6:=η) (a7:=η) (a8:=η) (a9:=η) (aO:=ζ (.int (hi:Int))) (aN:=η) (by omega) (by rw[d7];omega) hA
 have e4:∃M:List (List Int),M.length=m/\(∀l∈M,l.length<1000)/\(bz (aJ (au bT (ak 2) (dC (.int 2)))) (aE 8 (br (bG (ao (ak 3) aq)) [η,ζ 11] (az 0) aW (bx (ao (au fq (ak 0) (ak 1)) (ao (au aX (dC (.int 10)) (au cV (ak 0) (ak 1))) aq))))) bL) [ζ (.ref j),ζ (.int most),ζ (.int y),ζ (.int (m:Int)),ζ (.ref n),η,η,η,ζ (.lst (dz ((ε m).map λk:Nat=>[(k:Int)/(w:Int)]))),η,ζ (.int (hi:Int)),ζ (.int (w:Int)),η] c2=.ok (.nx [ζ (.ref j),ζ (.int most),ζ (.int y),ζ (.int (m:Int)),ζ (.ref n),η,η,η,ζ (.lst (dz M)),η,ζ (.int (hi:Int)),ζ (.int (w:Int)),η]) c2:=by
  by_cases hy:y=2
  ·refine⟨(ε m).map λk:Nat=>[(k:Int)/(w:Int),10+(k:Int) % (w:Int)],by simp,λl hl=>?_,?_⟩
   ·obtain⟨k,_,rfl⟩:=ahw.mp hl;simp
   ·have hb:=G3 (a0:=ζ (.ref j)) (a1:=ζ (.int most)) (a2:=ζ (.int y)) (a4:=ζ (.ref n)) (a5:=η) (a6:=η) (a7:=η) (a8:=ζ (.lst (dz ((ε m).map λk:Nat=>[(k:Int)/(w:Int)])))) (a9:=η) (aO:=ζ (.int (hi:Int))) (aN:=η) (by omega) (by rw[d7];omega) hB
    rw[iK,G2,R.aA,if_pos (decide_eq_true hy)];exact hb
  ·refine⟨(ε m).map λk:Nat=>[(k:Int)/(w:Int)],by simp,λl hl=>?_,?_⟩
   ·obtain⟨k,_,rfl⟩:=ahw.mp hl;simp
   ·rw[iK,G2,R.aA,if_neg (by simpa using hy)]
    rfl
 obtain⟨M,hM,M3,e4⟩:=e4;obtain⟨ps,hp,hnr⟩:=JE (X:=.lst (dz M)) (M:=M) (m:=m) (c:=c2) rfl (by omega) M3 (by omega)
 have e5:=G5 (a0:=ζ (.ref j)) (a1:=ζ (.int most)) (a2:=ζ (.int y)) (a4:=ζ (.ref n)) (a5:=η) (a6:=η) (a7:=η) (a9:=η) (aO:=ζ (.int (hi:Int))) (aQ:=ζ (.int (w:Int))) (aN:=η) hnr;refine⟨m,ps,.lst (ps.map bg),c2,[ζ (.ref j),ζ (.int most),ζ (.int y),ζ (.int (m:Int)),ζ (.lst (ps.map bg)),η,η,η,ζ (.lst (dz M)),η,ζ (.int (hi:Int)),ζ (.int (w:Int)),η],hm2,by omega,hp,P2.rJ,rfl,rfl,.inr rfl,?_⟩
 unfold AK;rw[bf e0,bf e1,bf e2,bf e3,bf e4,e5]
def AJ:ah:=aD (aE 3 (aF fM (ao (ak 1) (ao (au aG (bx (ao (dC (.int 5)) (ao (dC (.int 13)) aq))) (aC 2 aS (ao (ak 0) (ao (dC (.int 2)) aq)))) aq)))) (aD (aE 12 (br (cY (ao (dC (.int 1)) (ao (ak 3) aq))) [η,ζ 3] (az 0) aW (au cV (au eB (ak 0) (ak 0)) (ak 1)))) (bU (bG (ao (ak 3) aq)) (az 9) (dS (d8 (ak 4) wU))))
theorem OW{most x f q:Int}{j:Nat}{a2 a3 a4 a5 a6 a7 a8 a9 aO aQ aN:Option D}{c c1:aa}(h:aS [.ref j,.int 2] c=.ok (.int x) c1) (hx:cM [D.int 5,.int 13] x=ζ (.int f)) (hq:(if f<most then f else most)=q) :
  (aE 3 (aF fM (ao (ak 1) (ao (au aG (bx (ao (dC (.int 5)) (ao (dC (.int 13)) aq))) (aC 2 aS (ao (ak 0) (ao (dC (.int 2)) aq)))) aq)))) [ζ (.ref j),ζ (.int most),a2,a3,a4,a5,a6,a7,a8,a9,aO,aQ,aN] c=.ok (.nx [ζ (.ref j),ζ (.int most),a2,ζ (.int q),a4,a5,a6,a7,a8,a9,aO,aQ,aN]) c1:=by
 have h2:(2:Nat)<=Ω:=dR (by decide)
 simp only[gG,iM,dw,ou,bJ,fC,bI,x_call,bD,gz,gs,R.aA,ahu,ahK];rw[if_pos h2];simp only[R.aA,if_pos,h,gU,hx,um,hq];rfl
theorem HU{q:Int}(h0:0<q) (c:aa):∀(l:List Int) (v:Option D) (acc:List D),(∀x∈l,-1000<x/\x<1000)->bC (λ_=>True) (az 0) aW (au cV (au eB (ak 0) (ak 0)) (ak 1)) (l.map D.int) [v,ζ (.int q)] acc c=.ok (acc++(l.map λx=>x*x % q).map D.int) c
 |[],v,acc,_=>by simp
 |x::l,v,acc,hb=>by
  have hx:=hb x (.head _);have h1:az 0 (.int x) [v,ζ (.int q)] c=.ok [ζ (.int x),ζ (.int q)] c:=rfl;have h2:eB (.int x) (.int x) c=.ok (.int (x*x)) c:=BW c (by omega) (by omega)
  have h3:cV (.int (x*x)) (.int q) c=.ok (.int (x*x % q)) c:=ni c h0;have hE:(au cV (au eB (ak 0) (ak 0)) (ak 1)) [ζ (.int x),ζ (.int q)] c=.ok (.int (x*x % q)) c:=by
   simp only[dw,bD,gz,gs,R.aA,h2,h3]
  rw[aht,iy,h1,R.aA,mJ,R.aA,if_pos rfl,hE,R.aA,HU h0 c l _ _ (λz hz=>hb z (.tail _ hz)),ah1]
  rfl
theorem OV{q:Int}{l:List D}{a0 a1 a2 a4 a5 a6 a7 a8 a9 aO aQ aN:Option D}{c:aa}(b:-4611686018427387904<=q/\q<4611686018427387904) (hl:(aL 1 q).length<Ω) (h:bC (λ_=>True) (az 0) aW (au cV (au eB (ak 0) (ak 0)) (ak 1)) (aL 1 q) [η,ζ (.int q)] [] c=.ok l c) :
  (aE 12 (br (cY (ao (dC (.int 1)) (ao (ak 3) aq))) [η,ζ 3] (az 0) aW (au cV (au eB (ak 0) (ak 0)) (ak 1)))) [a0,a1,a2,ζ (.int q),a4,a5,a6,a7,a8,a9,aO,aQ,aN] c=.ok (.nx [a0,a1,a2,ζ (.int q),a4,a5,a6,a7,a8,a9,aO,aQ,ζ (.lst l)]) c:=by
 simp only[gG,fB,mO,bJ,fC,bD,gz,gs,bI,R.aA];rw[if_pos ⟨by omega,by omega,by omega,by omega⟩]
 simp only[R.aA];rw[if_pos hl];have:ee [η,ζ 3] [a0,a1,a2,ζ (D.int q),a4,a5,a6,a7,a8,a9,aO,aQ,aN]=[η,ζ (.int q)]:=rfl;rw[this,h];rfl
theorem J6{q:Int}{B:ah}{a0 a1 a2 a4 a5 a6 a7 a8 a9 aO aQ aN:Option D}{F:Fl}{c c':aa}(b:-4611686018427387904<=q/\q<4611686018427387904) (h:cJ (λ_=>True) (az 9) B (aL 0 q) [a0,a1,a2,ζ (.int q),a4,a5,a6,a7,a8,a9,aO,aQ,aN] c=.ok F c') :
  (bU (bG (ao (ak 3) aq)) (az 9) B) [a0,a1,a2,ζ (.int q),a4,a5,a6,a7,a8,a9,aO,aQ,aN] c=.ok F c':=by
 simp only[iL,gH,bJ,bD,gz,gs,bI,R.aA];rw[if_pos (by omega)]
 exact h
theorem R6(lo hi:Int):aL lo hi=((ε (hi-lo).toNat).map λk:Nat=>lo+(k:Int)).map D.int:=by
 unfold aL;rw[ahR];rfl
theorem OE{j n:Nat}{most:Int}{c:aa}{a2 a3:Option D}(h0:0<most) (h6:most<60) (hP:PW j n [] c):jo j n most AJ [ζ (.ref j),ζ (.int most),a2,a3,ζ (.ref n),η,η,η,η,η,η,η,η] c:=by
 have hs:=dR (n:=1000) (by decide)
 obtain⟨x,c1,x0,x1,P1,t1⟩:=hP.take (cC:=2) (by decide) (by decide)
 have hx:∃f:Int,0<f/\f<=13/\cM [D.int 5,.int 13] x=ζ (.int f):=by
  have:x=0\/x=1:=by omega
  rcases this with rfl|rfl
  ·exact⟨5,by decide,by decide,rfl⟩
  ·exact⟨13,by decide,by decide,rfl⟩
 obtain⟨f,f0,f1,hx⟩:=hx;obtain⟨m,hm⟩:=ig (i:=if f<most then f else most) (by split<;>omega)
 have hm1:1<=m/\(m:Int)<=most/\m<64:=by split at hm<;>omega
 have e0:=OW (a2:=a2) (a3:=a3) (a4:=ζ (.ref n)) (a5:=η) (a6:=η) (a7:=η) (a8:=η) (a9:=η) (aO:=η) (aQ:=η) (aN:=η) t1 hx hm;have hq:=HU (q:=(m:Int)) (by omega) c1 ((ε ((m:Int)-1).toNat).map λk:Nat=>1+(k:Int)) η [] (λx hx=>by
  obtain⟨k,hk,rfl⟩:=ahw.mp hx;have:=ahH.mp hk;omega)
 rw[<-R6,ahy]at hq;have e1:=OV (a0:=ζ (.ref j)) (a1:=ζ (.int most)) (a2:=a2) (a4:=ζ (.ref n)) (a5:=η) (a6:=η) (a7:=η) (a8:=η) (a9:=η) (aO:=η) (aQ:=η) (aN:=η) (by omega) (by rw[d7];omega) hq
 generalize (((ε ((m:Int)-1).toNat).map λk:Nat=>1+(k:Int)).map λx=>x*x % (m:Int))=sq at e1
 obtain⟨ps,c2,v,P2,hp2,hpl,hf⟩:=OU (j:=j) (n:=n) hm1.1 hm1.2.2 (a1:=ζ (.int most)) (a2:=a2) (a5:=η) (a6:=η) (a7:=η) (a8:=η) (aO:=η) (aQ:=η) sq P1 η;have e2:=J6 (by omega) hf
 refine⟨m,ps,.ref n,c2,[ζ (.ref j),ζ (.int most),a2,ζ (.int (m:Int)),ζ (.ref n),η,η,η,η,v,η,η,ζ (.lst (sq.map D.int))],hm1.1,hm1.2.1,hp2,P2.rJ,rfl,rfl,.inl ⟨n,rfl,P2.2.2.2⟩,?_⟩;unfold AJ;rw[bf e0,bf e1,e2]
def qi:ai:=(aJ (au bT (au vV (ak 0) (ak 1)) (ak 0)))
def AI:ah:=aD (aE 3 (aF fM (ao (dC (.int 8)) (ao (ak 1) aq)))) (aD (bU (bG (ao (ak 3) aq)) (az 9) (dS (d8 (ak 4) wR))) (aE 4 (br (cS (ak 4)) [η,η] (gY 2 (eg (az 0) (eg (az 1) iu))) qi (cX (ao (ak 0) (ao (ak 1) aq))))))
theorem OR{most q:Int}{a0 a2 a3 a4 a5 a6 a7 a8 a9 aO aQ aN:Option D}{c:aa}(hq:(if most<8 then most else 8)=q) :
  (aE 3 (aF fM (ao (dC (.int 8)) (ao (ak 1) aq)))) [a0,ζ (.int most),a2,a3,a4,a5,a6,a7,a8,a9,aO,aQ,aN] c=.ok (.nx [a0,ζ (.int most),a2,ζ (.int q),a4,a5,a6,a7,a8,a9,aO,aQ,aN]) c:=by
 simp only[gG,iM,bJ,fC,bD,gz,gs,bI,R.aA,um,hq];rfl
theorem OP(a b:Nat) (c:aa):∃x,qi [ζ (.int (a:Int)),ζ (.int (b:Int))] c=.ok x c :=
 ⟨decide (Builtin.bitAnd (a:Int) (b:Int)=(a:Int)),by
  have h:vV (.int (a:Int)) (.int (b:Int)) c=.ok (.int (Builtin.bitAnd (a:Int) (b:Int))) c:=rfl
  generalize Builtin.bitAnd (a:Int) (b:Int)=z at *
  unfold qi;simp only[jT,dw,bD,gz,gs,R.aA,h,GR]⟩
theorem OQ{n:Nat}{ds l:List D}{a0 a1 a2 a3 a5 a6 a7 a8 a9 aO aQ aN:Option D}{c:aa}(hn:c[n]? = ζ (.lst ds)) (hl:ds.length<Ω) (h:bC (λc'=>c'[n]? = ζ (.lst ds)) (gY 2 (eg (az 0) (eg (az 1) iu))) qi (cX (ao (ak 0) (ao (ak 1) aq))) ds [η,η] [] c=.ok l c) :
  (aE 4 (br (cS (ak 4)) [η,η] (gY 2 (eg (az 0) (eg (az 1) iu))) qi (cX (ao (ak 0) (ao (ak 1) aq))))) [a0,a1,a2,a3,ζ (.ref n),a5,a6,a7,a8,a9,aO,aQ,aN] c=.ok (.nx [a0,a1,a2,a3,ζ (.lst l),a5,a6,a7,a8,a9,aO,aQ,aN]) c:=by
 rw[gG,fB];unfold cS;simp only[bD,gz,gs,R.aA,hn];rw[if_pos hl];have:ee [η,η] [a0,a1,a2,a3,ζ (D.ref n),a5,a6,a7,a8,a9,aO,aQ,aN]=[η,η]:=rfl;rw[this,h];rfl
theorem OD{j n:Nat}{most:Int}{c:aa}{a2 a3:Option D}(h0:0<most) (h6:most<60) (hP:PW j n [] c):jo j n most AI [ζ (.ref j),ζ (.int most),a2,a3,ζ (.ref n),η,η,η,η,η,η,η,η] c:=by
 have hs:100000<Ω:=by decide
 obtain⟨m,hm⟩:=ig (i:=if most<8 then most else 8) (by split<;>omega)
 have hm1:1<=m/\(m:Int)<=most/\m<64:=by split at hm<;>omega
 have e0:=OR (a0:=ζ (.ref j)) (a2:=a2) (a3:=a3) (a4:=ζ (.ref n)) (a5:=η) (a6:=η) (a7:=η) (a8:=η) (a9:=η) (aO:=η) (aQ:=η) (aN:=η) (c:=c) hm;obtain⟨ps,c2,v,P2,hp2,hpl,hf⟩:=OO (j:=j) (n:=n) hm1.2.2 (a1:=ζ (.int most)) (a2:=a2) (a5:=η) (a6:=η) (a7:=η) (a8:=η) (aO:=η) (aQ:=η) (aN:=η) hP η;have e1:=J6 (by omega) hf
 obtain⟨qs,hq,h2⟩:=Gh (t:=qi) (m:=m) (c:=c2) (st:=λc'=>c'[n]? = ζ (.lst (ps.map bg))) P2.2.2.2 (λa b=>OP a b c2) ps η η [] hp2
 rw[ahy]at h2;have e2:=OQ (a0:=ζ (.ref j)) (a1:=ζ (.int most)) (a2:=a2) (a3:=ζ (.int (m:Int))) (a5:=η) (a6:=η) (a7:=η) (a8:=η) (a9:=v) (aO:=η) (aQ:=η) (aN:=η) P2.2.2.2 (by rw[ahr];omega) h2
 refine⟨m,qs,.lst (qs.map bg),c2,[ζ (.ref j),ζ (.int most),a2,ζ (.int (m:Int)),ζ (.lst (qs.map bg)),η,η,η,η,v,η,η,η],hm1.1,hm1.2.1,hq,P2.rJ,rfl,rfl,.inr rfl,?_⟩;unfold AI;rw[bf e0,bf e1,e2]
def xN:ah:=bz (aJ (au bT (ak 2) (dC (.int 0)))) AN (bz (aJ (au bT (ak 2) (dC (.int 1)))) AM (bz (aJ (au jG (ak 2) (dC (.int 4)))) AK (bz (aJ (au bT (ak 2) (dC (.int 4)))) AJ AI)))
theorem T9{j n m:Nat}{most y:Int}{c:aa}(y0:0<=y) (y1:y<6) (hm:1<=m) (hm':(m:Int)<=most) (h6:most<60) (hP:PW j n [] c):jo j n most xN [ζ (.ref j),ζ (.int most),ζ (.int y),ζ (.int (m:Int)),ζ (.ref n),η,η,η,η,η,η,η,η] c:=by
 have h0:0<most:=by omega
 unfold xN;have:y=0\/y=1\/y=2\/y=3\/y=4\/y=5:=by omega
 rcases this with rfl|rfl|rfl|rfl|rfl|rfl
 ·exact .yes rfl (OG hm hm' h6 hP)
 ·exact .no rfl (.yes rfl (OF h0 h6 hP))
 ·exact .no rfl (.no rfl (.yes rfl (G0 h0 h6 hP)))
 ·exact .no rfl (.no rfl (.yes rfl (G0 h0 h6 hP)))
 ·exact .no rfl (.no rfl (.no rfl (.yes rfl (OE h0 h6 hP))))
 ·exact .no rfl (.no rfl (.no rfl (.no rfl (OD h0 h6 hP))))
theorem Ua{j n:Nat}{most y x q:Int}{c c1 c2 c3 c4:aa}{E':Ev}{W X:D}(t1:aS [.ref j,.int 6] c=.ok (.int y) c1) (t2:aS [.ref j,.int most] c1=.ok (.int x) c2) (hn:c2.length=n)
  (hB:xN [ζ (.ref j),ζ (.int most),ζ (.int y),ζ (.int (1+x)),ζ (.ref n),η,η,η,η,η,η,η,η] (c2++[.lst []])=.ok (.nx E') c3) (h3:E'[3]? = ζ (ζ (.int q))) (h4:E'[4]? = ζ (ζ X)) (hw:jF [.int q,X] c3=.ok W c3) (hx:dF Γ c.length W c3=.ok W c4):kW [.ref j,.int most] c=.ok W c4:=by
 have hb':tL=aD (aE 2 (aC 2 aS (ao (ak 0) (ao (dC (.int 6)) aq)))) (aD (aE 3 (au aX (dC (.int 1)) (aC 2 aS (ao (ak 0) (ao (ak 1) aq))))) (aD (aE 4 (er aq)) (aD xN (aP (aC 2 jF (ao (ak 3) (ao (ak 4) aq))))))):=rfl;have e0:(aE 2 (aC 2 aS (ao (ak 0) (ao (dC (.int 6)) aq)))) [ζ (.ref j),ζ (.int most),η,η,η,η,η,η,η,η,η,η,η] c=.ok (.nx [ζ (.ref j),ζ (.int most),ζ (.int y),η,η,η,η,η,η,η,η,η,η]) c1:=by simp[t1]
 have e1:(aE 3 (au aX (dC (.int 1)) (aC 2 aS (ao (ak 0) (ao (ak 1) aq))))) [ζ (.ref j),ζ (.int most),ζ (.int y),η,η,η,η,η,η,η,η,η,η] c1=.ok (.nx [ζ (.ref j),ζ (.int most),ζ (.int y),ζ (.int (1+x)),η,η,η,η,η,η,η,η,η]) c2:=by simp[t2]
 have e2:(aE 4 (er aq)) [ζ (.ref j),ζ (.int most),ζ (.int y),ζ (.int (1+x)),η,η,η,η,η,η,η,η,η] c2=.ok (.nx [ζ (.ref j),ζ (.int most),ζ (.int y),ζ (.int (1+x)),ζ (.ref n),η,η,η,η,η,η,η,η]) (c2++[.lst []]):=by simp[hn]
 have e4:(aP (aC 2 jF (ao (ak 3) (ao (ak 4) aq)))) E' c3=.ok (.rt W) c3:=by
  simp only[oq,x_call,bJ,bD,h3,h4,bI,R.aA,ahu,ahK,if_pos,hw]
 rw[kW,i8,hb'];have es:cH 13 [D.ref j,.int most]=[ζ (.ref j),ζ (.int most),η,η,η,η,η,η,η,η,η,η,η]:=rfl;rw[es,bf e0,bf e1,bf e2,bf hB,e4];exact hx
theorem T8{j n:Nat}{c:aa}{most:Int}(hP:ez j n c) (h0:0<most) (h1:most<60):∃(m:Nat) (ps:List (Nat×Nat)) (c':aa),1<=m/\(m:Int)<=most/\dj m ps/\ez j n c'/\kW [.ref j,.int most] c=.ok (aK m (gO ps)) c':=by
 obtain⟨y,c1,y0,y1,P1,t1⟩:=g7 (cC:=6) hP (by decide) (by decide)
 obtain⟨x,c2,x0,x1,P2,t2⟩:=g7 P1 h0 (by omega)
 obtain⟨k,hk⟩:=ig (i:=1+x) (by omega)
 obtain⟨m,ps,X,c3,E',m1,m2,hp,P3,q3,q4,hX,hB⟩:=T9 (j:=j) (n:=n) (m:=k) y0 y1 (by omega) (by omega) h1 (PW.start P2)
 rw[<-hk]at hB;have hw:=Kp (m:=m) (X:=X) (c:=c3) hp.isIn (by omega) hX
 exact⟨m,ps,c3.take n,m1,m2,hp,P3,Ua t1 t2 P2.1 hB q3 q4 hw (by rw[hP.1];exact Eu m _ n c3)⟩
def gZ(f:Nat->Nat->Bool):Prop:=(∀i,f i i=Γ)/\∀i k,f i k=f k i
theorem ZY{m:Nat}{ps:List (Nat×Nat)}(h:dj m ps):gZ (gO ps):=by
 refine⟨λi=>?_,λi k=>?_⟩
 ·unfold gO;rw[ajD];intro p hp;have:=(h p hp).2.2;simp only[aiH,ahL,beq_iff_eq];omega
 ·unfold gO
  congr 1
  funext p
  rw[Bool.or_comm]
  congr 1<;>rw[Bool.and_comm]
theorem afc{f:Nat->Nat->Bool}(h:gZ f):gZ (jQ f):=by
 refine⟨λi=>by simp[jQ],λi k=>?_⟩
 unfold jQ;rw[h.2 i k]
 congr 2
 exact decide_eq_decide.mpr ⟨Eq.symm,Eq.symm⟩
theorem PM{f:Nat->Nat->Bool}(h:gZ f) {a b:Nat}(hab:a≠b):gZ (uB f a b):=by
 have e:∀i k,uB f a b i k=if(i=b/\k=a)\/(i=a/\k=b)then !f a b else f i k:=λi k=>by
  unfold uB;have e1:eG f a b (!f a b) b a=f a b:=by
   unfold eG;rw[if_neg (λz=>hab z.2),h.2 b a]
  rw[e1];unfold eG
  by_cases h1:i=b/\k=a
  ·rw[if_pos h1,if_pos (.inl h1)]
  ·rw[if_neg h1]
   by_cases h2:i=a/\k=b
   ·rw[if_pos h2,if_pos (.inr h2)]
   ·rw[if_neg h2,if_neg (λz=>z.elim h1 h2)]
 refine⟨λi=>?_,λi k=>?_⟩
 ·rw[e,if_neg (by omega),h.1 i]
 ·rw[e,e,h.2 i k]
  by_cases h1:(i=b/\k=a)\/(i=a/\k=b)
  ·rw[if_pos h1,if_pos (by omega)]
  ·rw[if_neg h1,if_neg (by omega)]
theorem YA{f:Nat->Nat->Bool}(h:gZ f) {os:List Nat}{m:Nat}(hm:os.length=m):gZ (fL os f m 0):=by
 have e:∀a b,fL os f m 0 a b=if os.idxOf a<m/\os.idxOf b<m then f (os.idxOf a) (os.idxOf b)else Γ:=λa b=>by
  unfold fL;rw[hm]
  by_cases h1:os.idxOf a<m
  ·rw[if_pos (.inl h1)]
   by_cases h2:os.idxOf b<m
   ·rw[if_pos h2,if_pos ⟨h1,h2⟩]
   ·rw[if_neg h2,if_neg (λz=>h2 z.2)]
  ·rw[if_neg (by omega),if_neg (λz=>h1 z.1)]
 refine⟨λi=>?_,λi k=>?_⟩
 ·rw[e,h.1];simp
 ·rw[e,e,h.2]
  by_cases h1:os.idxOf i<m/\os.idxOf k<m
  ·rw[if_pos h1,if_pos ⟨h1.2,h1.1⟩]
  ·rw[if_neg h1,if_neg (λz=>h1 ⟨z.2,z.1⟩)]
theorem aei{j:Nat}{x most:Int}{W:D}{a2 a3 a4:Option D}{c c1 c2:aa}(t:aS [.ref j,.int 5] c=.ok (.int x) c1) (hs:x<2->kU [.ref j,.int most] c1=.ok W c2) (hp:¬x<2->kW [.ref j,.int most] c1=.ok W c2) :
  (bz (aJ (au jG (aC 2 aS (ao (ak 0) (ao (dC (.int 5)) aq))) (dC (.int 2)))) (aE 2 (aC 2 kU (ao (ak 0) (ao (ak 1) aq)))) (aE 2 (aC 2 kW (ao (ak 0) (ao (ak 1) aq))))) [ζ (.ref j),ζ (.int most),a2,a3,a4] c=.ok (.nx [ζ (.ref j),ζ (.int most),ζ W,a3,a4]) c2:=by
 by_cases hx:x<2
 ·have:=hs hx;simp[t,hx,this]
 ·have:=hp hx;simp[t,hx,this]
theorem aeh{j:Nat}{x:Int}{T T':D}{a1 a3 a4:Option D}{c c1:aa}(t:aS [.ref j,.int 3] c=.ok (.int x) c1) (hs:x=0->kX [T] c1=.ok T' c1) (hp:¬x=0->T'=T) :
  (bz (aJ (au bT (aC 2 aS (ao (ak 0) (ao (dC (.int 3)) aq))) (dC (.int 0)))) (aE 2 (aC 1 kX (ao (ak 2) aq))) bL) [ζ (.ref j),a1,ζ T,a3,a4] c=.ok (.nx [ζ (.ref j),a1,ζ T',a3,a4]) c1:=by
 by_cases hx:x=0
 ·have:=hs hx;simp[t,hx,this]
 ·have:=hp hx;simp[t,hx,this]
theorem aef{q:Int}{a0 a1 a2 a4:Option D}{c:aa}(h:¬q>1):(bz (kh (aJ (au gX (ak 3) (dC (.int 1)))) (aJ (au bT (aC 2 aS (ao (ak 0) (ao (dC (.int 4)) aq))) (dC (.int 0))))) (aD (aE 4 (aC 2 aS (ao (ak 0) (ao (ak 3) aq)))) (aE 2 (aC 3 j8 (ao (ak 2) (ao (ak 4) (ao (au cV (au aX (au aX (ak 4) (dC (.int 1))) (aC 2 aS (ao (ak 0) (ao (au g8 (ak 3) (dC (.int 1))) aq)))) (ak 3)) aq)))))) bL) [a0,a1,a2,ζ (.int q),a4] c=.ok (.nx [a0,a1,a2,ζ (.int q),a4]) c:=by
 simp[h]
theorem aeg{j:Nat}{q x:Int}{a1 a2 a4:Option D}{c c1:aa}(h:q>1) (t:aS [.ref j,.int 4] c=.ok (.int x) c1) (hx:¬x=0):(bz (kh (aJ (au gX (ak 3) (dC (.int 1)))) (aJ (au bT (aC 2 aS (ao (ak 0) (ao (dC (.int 4)) aq))) (dC (.int 0))))) (aD (aE 4 (aC 2 aS (ao (ak 0) (ao (ak 3) aq)))) (aE 2 (aC 3 j8 (ao (ak 2) (ao (ak 4) (ao (au cV (au aX (au aX (ak 4) (dC (.int 1))) (aC 2 aS (ao (ak 0) (ao (au g8 (ak 3) (dC (.int 1))) aq)))) (ak 3)) aq)))))) bL) [ζ (.ref j),a1,a2,ζ (.int q),a4] c=.ok (.nx [ζ (.ref j),a1,a2,ζ (.int q),a4]) c1:=by
 simp[h,t,hx]
theorem aee{j:Nat}{q y z o:Int}{T T':D}{a1 a4:Option D}{c c1 c2 c3:aa}(h:q>1) (t:aS [.ref j,.int 4] c=.ok (.int 0) c1) (t2:aS [.ref j,.int q] c1=.ok (.int y) c2) (t3:aS [.ref j,.int (q-1)] c2=.ok (.int z) c3) (hm:cV (.int (y+1+z)) (.int q) c3=.ok (.int o) c3) (hg:j8 [T,.int y,.int o] c3=.ok T' c3) :
  (bz (kh (aJ (au gX (ak 3) (dC (.int 1)))) (aJ (au bT (aC 2 aS (ao (ak 0) (ao (dC (.int 4)) aq))) (dC (.int 0))))) (aD (aE 4 (aC 2 aS (ao (ak 0) (ao (ak 3) aq)))) (aE 2 (aC 3 j8 (ao (ak 2) (ao (ak 4) (ao (au cV (au aX (au aX (ak 4) (dC (.int 1))) (aC 2 aS (ao (ak 0) (ao (au g8 (ak 3) (dC (.int 1))) aq)))) (ak 3)) aq)))))) bL) [ζ (.ref j),a1,ζ T,ζ (.int q),a4] c=.ok (.nx [ζ (.ref j),a1,ζ T',ζ (.int q),ζ (.int y)]) c3:=by
 simp[h,t,t2,t3,hm,hg]
theorem aed{j:Nat}{q:Int}{T O W:D}{a1 a4:Option D}{c c1:aa}(t:nk [.ref j,.int q] c=.ok O c1) (hm:oX [T,O] c1=.ok W c1):(aP (aC 2 oX (ao (ak 2) (ao (aC 2 nk (ao (ak 0) (ao (ak 3) aq))) aq)))) [ζ (.ref j),a1,ζ T,ζ (.int q),a4] c=.ok (.rt W) c1:=by
 simp[t,hm]
theorem aec{j:Nat}{most:Int}{W:D}{E1 E2 E3 E4:Ev}{c c1 c2 c3 c4 c5:aa}{s0 s1 s2 s3 s4:ah}(e0:s0 [ζ (.ref j),ζ (.int most),η,η,η] c=.ok (.nx E1) c1) (e1:s1 E1 c1=.ok (.nx E2) c1) (e2:s2 E2 c1=.ok (.nx E3) c2) (e3:s3 E3 c2=.ok (.nx E4) c3) (e4:s4 E4 c3=.ok (.rt W) c4) (hx:dF Γ c.length W c4=.ok W c5) :
  cB 5 Γ (aD s0 (aD s1 (aD s2 (aD s3 s4)))) [.ref j,.int most] c=.ok W c5:=by
 rw[i8];have es:cH 5 [D.ref j,.int most]=[ζ (.ref j),ζ (.int most),η,η,η]:=rfl;rw[es,bf e0,bf e1,bf e2,bf e3,e4];exact hx
theorem aeb{j n:Nat}{c:aa}{most:Int}(hP:ez j n c) (h0:0<most) (h6:most<60):∃(m:Nat) (f:Nat->Nat->Bool) (c':aa),1<=m/\(m:Int)<=most/\gZ f/\ez j n c'/\oY [.ref j,.int most] c=.ok (aK m f) c':=by
 obtain⟨x,c1,x0,x1,P1,t1⟩:=g7 (cC:=5) hP (by decide) (by decide)
 have hA:∃(m:Nat) (ps:List (Nat×Nat)) (c2:aa),1<=m/\(m:Int)<=most/\dj m ps/\ez j n c2/\(x<2->kU [.ref j,.int most] c1=.ok (aK m (gO ps)) c2)/\(¬x<2->kW [.ref j,.int most] c1=.ok (aK m (gO ps)) c2):=by
  by_cases hx:x<2
  ·obtain⟨m,ps,c2,g1,g2,g3,g4,g5⟩:=Ru P1 h0 h6;exact⟨m,ps,c2,g1,g2,g3,g4,λ_=>g5,λq=>absurd hx q⟩
  ·obtain⟨m,ps,c2,g1,g2,g3,g4,g5⟩:=T8 P1 h0 h6;exact⟨m,ps,c2,g1,g2,g3,g4,λq=>absurd q hx,λ_=>g5⟩
 obtain⟨m,ps,c2,g1,g2,g3,P2,g5,g6⟩:=hA;have W0:=ZY g3;have e0:=aei (a2:=η) (a3:=η) (a4:=η) t1 g5 g6;clear g5 g6
 generalize gO ps=f at *
 have hl:=len_tab m f c2;have e1:(aE 3 (aF aT (ao (ak 2) aq))) [ζ (.ref j),ζ (.int most),ζ (aK m f),η,η] c2=.ok (.nx [ζ (.ref j),ζ (.int most),ζ (aK m f),ζ (.int (m:Int)),η]) c2:=by
  generalize aK m f=T at *
  generalize (m:Int)=q at *
  simp[hl]
 obtain⟨y,c3,y0,y1,P3,t2⟩:=g7 (cC:=3) P2 (by decide) (by decide)
 have hB:∃f',gZ f'/\(y=0->kX [aK m f] c3=.ok (aK m f') c3)/\(¬y=0->aK m f'=aK m f):=by
  by_cases hy:y=0
  ·exact⟨jQ f,afc W0,λ_=>afb f (by omega) c3,λq=>absurd hy q⟩
  ·exact⟨f,W0,λq=>absurd q hy,λ_=>rfl⟩
 obtain⟨f1,W1,g5,g6⟩:=hB;have e2:=aeh (a1:=ζ (.int most)) (a3:=ζ (.int (m:Int))) (a4:=η) t2 g5 g6;have hC:∃f' v c4,gZ f'/\ez j n c4/\(bz (kh (aJ (au gX (ak 3) (dC (.int 1)))) (aJ (au bT (aC 2 aS (ao (ak 0) (ao (dC (.int 4)) aq))) (dC (.int 0))))) (aD (aE 4 (aC 2 aS (ao (ak 0) (ao (ak 3) aq)))) (aE 2 (aC 3 j8 (ao (ak 2) (ao (ak 4) (ao (au cV (au aX (au aX (ak 4) (dC (.int 1))) (aC 2 aS (ao (ak 0) (ao (au g8 (ak 3) (dC (.int 1))) aq)))) (ak 3)) aq)))))) bL) [ζ (.ref j),ζ (.int most),ζ (aK m f1),ζ (.int (m:Int)),η] c3=.ok (.nx [ζ (.ref j),ζ (.int most),ζ (aK m f'),ζ (.int (m:Int)),v]) c4:=by
  by_cases hm:(m:Int)>1
  ·obtain⟨z,c4,z0,z1,P4,t3⟩:=g7 (cC:=4) P3 (by decide) (by decide)
   by_cases hz:z=0
   ·subst hz;obtain⟨u,c5,u0,u1,P5,t4⟩:=g7 (cC:=(m:Int)) P4 (by omega) (by omega)
    obtain⟨v,c6,v0,v1,P6,t5⟩:=g7 (cC:=(m:Int)-1) P5 (by omega) (by omega)
    obtain⟨a,rfl⟩:=ig u0;obtain⟨d,rfl⟩:=ig v0;have hmod:cV (.int ((a:Int)+1+(d:Int))) (.int (m:Int)) c6=.ok (.int (((a+1+d) % m:Nat):Int)) c6:=by
     rw[ni c6 (by omega)]
     congr 2
    have hne:a≠(a+1+d) % m:=by
     rcases aj7 (a+1+d) m with q|q
     ·rw[ajq q];omega
     ·rw[akW q,ajq (by omega)];omega
    have hlt:(a+1+d) % m<m:=Nat.mod_lt _ (by omega)
    exact⟨_,_,_,PM W1 hne,P6,aee hm t3 t4 t5 hmod (PL (by omega) hlt (by omega) f1 c6)⟩
   ·exact⟨f1,_,c4,W1,P4,aeg hm t3 hz⟩
  ·exact⟨f1,_,c3,W1,P3,aef hm⟩
 obtain⟨f2,v,c4,W2,P4,e3⟩:=hC;obtain⟨os,c5,ho,P5,t6⟩:=UZ (m:=m) P4 (by omega)
 have hl:os.length=m:=by have:=ho.length_eq;simpa using this
 have e4:=aed (a1:=ζ (.int most)) (a4:=v) t6 (YS ho (by omega) f2 c5)
 have hb':tR=aD (bz (aJ (au jG (aC 2 aS (ao (ak 0) (ao (dC (.int 5)) aq))) (dC (.int 2)))) (aE 2 (aC 2 kU (ao (ak 0) (ao (ak 1) aq)))) (aE 2 (aC 2 kW (ao (ak 0) (ao (ak 1) aq))))) (aD (aE 3 (aF aT (ao (ak 2) aq))) (aD (bz (aJ (au bT (aC 2 aS (ao (ak 0) (ao (dC (.int 3)) aq))) (dC (.int 0)))) (aE 2 (aC 1 kX (ao (ak 2) aq))) bL) (aD (bz (kh (aJ (au gX (ak 3) (dC (.int 1)))) (aJ (au bT (aC 2 aS (ao (ak 0) (ao (dC (.int 4)) aq))) (dC (.int 0))))) (aD (aE 4 (aC 2 aS (ao (ak 0) (ao (ak 3) aq)))) (aE 2 (aC 3 j8 (ao (ak 2) (ao (ak 4) (ao (au cV (au aX (au aX (ak 4) (dC (.int 1))) (aC 2 aS (ao (ak 0) (ao (au g8 (ak 3) (dC (.int 1))) aq)))) (ak 3)) aq)))))) bL) (aP (aC 2 oX (ao (ak 2) (ao (aC 2 nk (ao (ak 0) (ao (ak 3) aq))) aq))))))):=rfl;refine⟨m,_,c5,g1,g2,YA W2 hl,P5,?_⟩;rw[oY,hb'];exact aec e0 e1 e2 e3 e4 (by rw[Eu,hP.1,ajj (by rw[P5.1];omega)])
theorem Ji:("":Str)=⟨#[]⟩:=by decide +kernel
theorem uZ:("#":Str)=⟨#[35]⟩:=by decide +kernel
theorem BI:(".":Str)=⟨#[46]⟩:=by decide +kernel
theorem kJ:(" ":Str)=⟨#[32]⟩:=by decide +kernel
theorem VS:(".#":Str)=⟨#[46,35]⟩:=by decide +kernel
def dN(s:List Nat):List (List Nat)->List Nat
 |[]=>[]
 |x::l=>x++l.flatMap λp=>s++p
theorem Lh(g:Array Nat):∀(l:List Str) (acc:Array Nat),(l.foldl (λacc p=>acc++g++p.cps) acc).toList=acc.toList++l.flatMap λp=>g.toList++p.cps.toList
 |[],acc=>by simp
 |p::l,acc=>by rw[ajJ,Lh g l,aj8];simp
theorem join_list(s:Str) (ss:List Str):(dH s ss).cps.toList=dN s.cps.toList (ss.map λp=>p.cps.toList):=by
 have hg:∀x l,(Builtin.Str.glued s (x::l)).cps.toList=dN s.cps.toList ((x::l).map λp=>p.cps.toList):=λx l=>by
  show((l.foldl (λacc p=>acc++s.cps++p.cps) x.cps)).toList=_
  rw[Lh];show _=x.cps.toList++(l.map λp=>p.cps.toList).flatMap λp=>s.cps.toList++p
  rw[akX]
 match ss with
 |[]=>rfl
 |[x]=>simp[dH,dN]
 |x::y::l=>exact hg x (y::l)
theorem xm{a b:Str}(h:a.cps.toList=b.cps.toList):a=b:=by
 cases a;cases b
 congr
 exact ajT.mp h
def xu(l:List Nat):Str:=⟨l.toArray⟩
theorem ZZ(l:List Nat):dH "" (l.map λa=>(⟨#[a]⟩:Str))=xu l:=by
 refine xm ?_;rw[join_list,Ji,ahR];cases l with
 |nil=>rfl
 |cons a l =>
  show[a]++(l.map _).flatMap _=(a::l).toArray.toList;rw[akX];simp
theorem J9(n:Nat):∀(l:List Str) (acc:Nat),l.foldl (λx1 x2=>x1+x2.length+n) acc=acc+(l.map λp=>p.length+n).sum
 |[],acc=>by simp
 |p::l,acc=>by rw[ajJ,J9 n l,aht,ai2];omega
theorem Xx{s:Str}{ss:List Str}(h:(ss.map λp=>p.length+s.length).sum<=10000):Builtin.Str.tooLong (Array.foldl (λx1 x2=>x1+x2.length+s.length) 0 ss.toArray)=Γ:=by
 rw[List.foldl_toArray,J9];unfold Builtin.Str.tooLong;have:10000<Ω:=iC;rw[decide_eq_false_iff_not];omega
theorem abB(s:List Nat):∀l:List (List Nat),(dN s l).length<=(l.map λp=>p.length+s.length).sum
 |[]=>ahn _
 |x::l=>by
  show(x++l.flatMap λp=>s++p).length<=_
  have h:(l.flatMap λp=>s++p).length=(l.map λp=>p.length+s.length).sum:=by
   induction l with
   |nil=>rfl
   |cons y l ih=>rw[aj8,ahC,ih,aht,ai2,ahC];omega
  rw[ahC,h,aht,ai2];omega
theorem Kq{s:Str}{ss:List Str}:(dH s ss).length<=(ss.map λp=>p.length+s.length).sum:=by
 have h:=abB s.cps.toList (ss.map λp=>p.cps.toList)
 rw[<-join_list,ahR]at h;exact h
theorem aeq(x:Str) (a i:Nat) (hi:i<x.length):Builtin.Str.subAt x ⟨#[a]⟩ i=decide (x.cps.toList[i]? = ζ a):=by
 unfold Builtin.Str.subAt;have hi':i<x.cps.size:=hi;have e:x.cps.extract i (i+Str.length ⟨#[a]⟩)=#[x.cps[i]]:=by
  apply ajT.mp;show(x.cps.extract i (i+1)).toList=_;rw[akY];simp[ajU,List.take_one,hi']
 rw[e];have e2:x.cps.toList[i]? = ζ x.cps[i]:=by simp[hi']
 rw[e2,aie];simp
theorem yf(x:Str) (a:Nat) (f:Nat->Array Nat×Nat->Id (ForInStep (Array Nat×Nat))) (hf:∀i s,f i s=if(decide (s.1.size<x.length+1)&&decide (s.2<=i)&&decide (i+Str.length ⟨#[a]⟩<=x.length)&&Builtin.Str.subAt x ⟨#[a]⟩ i)=Θ then pure (.yield (s.1.push i,i+Str.length ⟨#[a]⟩))else pure (.yield s)) :
  ∀(n k:Nat) (s:Array Nat×Nat),k+n<=x.length+1->s.1.size<=k->s.2<=k->∃fr,fr<=k+n/\forIn (m:=Id) (List.range' k n) s f=(⟨(s.1.toList++(List.range' k n).filter λi=>decide (x.cps.toList[i]? = ζ a)).toArray,fr⟩:Array Nat×Nat)
 |0,k,s,_,_,h=>⟨s.2,h,by simp;rfl⟩
 |n+1,k,s,hk,h1,h2=>by
  rw[ajr,ai8,hf,ajs];have q1:decide (s.1.size<x.length+1)=Θ:=by rw[decide_eq_true_eq];omega
  have q2:decide (s.2<=k)=Θ:=by rw[decide_eq_true_eq];exact h2
  rw[q1,q2]
  by_cases hx:k<x.length
  ·have q3:decide (k+Str.length ⟨#[a]⟩<=x.length)=Θ:=by rw[decide_eq_true_eq];show k+1<=_;omega
   rw[q3,aeq x a k hx]
   by_cases hc:x.cps.toList[k]? = ζ a
   ·obtain⟨fr,hfr,e⟩:=yf x a f hf n (k+1) (s.1.push k,k+1) (by omega) (by simp;omega) (by simp)
    refine⟨fr,by omega,?_⟩
    simp only[hc,decide_true,Bool.and_self,if_true];refine(show _=forIn (m:=Id) (List.range' (k+1) n) (s.1.push k,k+1) f from rfl).trans (e.trans ?_)
    simp
   ·obtain⟨fr,hfr,e⟩:=yf x a f hf n (k+1) s (by omega) (by omega) (by omega)
    refine⟨fr,by omega,?_⟩
    have hd:decide (x.cps.toList[k]? = ζ a)=Γ:=by rw[decide_eq_false_iff_not];exact hc
    rw[hd];exact(show _=forIn (m:=Id) (List.range' (k+1) n) s f from rfl).trans e
  ·have q3:decide (k+Str.length ⟨#[a]⟩<=x.length)=Γ:=by rw[decide_eq_false_iff_not];show ¬k+1<=_;omega
   obtain⟨fr,hfr,e⟩:=yf x a f hf n (k+1) s (by omega) (by omega) (by omega)
   refine⟨fr,by omega,?_⟩
   have hd:decide (x.cps.toList[k]? = ζ a)=Γ:=by
    rw[decide_eq_false_iff_not];have:x.cps.toList.length<=k:=by show x.cps.size<=k;exact ajK hx
    rw[aid this];simp
   rw[q3,hd];exact(show _=forIn (m:=Id) (List.range' (k+1) n) s f from rfl).trans e
theorem kM(x:Str) (a:Nat):dM x ⟨#[a]⟩=(ε x.length).filter λi=>decide (x.cps.toList[i]? = ζ a):=by
 have hl:(ε (x.length+1)).filter (λi=>decide (x.cps.toList[i]? = ζ a))=(ε x.length).filter λi=>decide (x.cps.toList[i]? = ζ a):=by
  rw[akR,aj9];have:x.cps.toList[x.length]? = η:=aid (ahn _);rw[ajs,this];simp
 rw[<-hl];unfold dM Builtin.Str.occurrences;simp only[Std.Legacy.Range.forIn_eq_forIn_range',Id.run,Std.Legacy.Range.size];have hz:(x.length+1-0+1-1)/1=x.length+1:=by omega
 rw[hz];obtain⟨fr,_,e⟩:=yf x a (λi s=>if(decide (s.1.size<x.length+1)&&decide (s.2<=i)&&decide (i+Str.length ⟨#[a]⟩<=x.length)&&Builtin.Str.subAt x ⟨#[a]⟩ i)=Θ then pure (.yield (s.1.push i,i+Str.length ⟨#[a]⟩))else pure (.yield s)) (λi s=>rfl) (x.length+1) 0 (#[],0) (by omega) (by simp) (by simp)
 refine(congrArg (λs:Array Nat×Nat=>s.1.toList) e).trans ?_
 rw[aka];simp
def nM:Nat->List Nat->List (List Nat)->List Nat
 |_,_,[]=>[]
 |o,w,v::vs=>(o+w.length)::nM (o+w.length+1) v vs
theorem vD(w v:List Nat) (vs:List (List Nat)):dN [32] (w::v::vs)=w++32::dN [32] (v::vs):=by
 show w++((v::vs).flatMap λp=>[32]++p)=w++32::(v++vs.flatMap λp=>[32]++p)
 rw[aj8];simp
theorem Jw{pre w post:List Nat}(h:32∉w):(List.range' pre.length w.length).filter (λi=>decide ((pre++(w++post))[i]? = ζ 32))=[]:=by
 rw[akZ];intro i hi;rw[aia]at hi;rw[decide_eq_true_eq,ahW hi.1,ahY (by omega)]
 exact λe=>h (ahP e)
theorem L3:∀(vs:List (List Nat)) (w pre:List Nat),(∀v∈w::vs,32∉v)->(List.range' pre.length (dN [32] (w::vs)).length).filter (λi=>decide ((pre++dN [32] (w::vs))[i]? = ζ 32))=nM pre.length w vs
 |[],w,pre,h=>by
  have e:dN [32] [w]=w++[]:=by simp[dN]
  have e2:(dN [32] [w]).length=w.length:=by simp[dN]
  rw[e2,e];exact Jw (h w (by simp))
 |v::vs,w,pre,h=>by
  have ih:=L3 vs v (pre++(w++[32])) (λu hu=>h u (by simp at hu ⊢;right;exact hu))
  have hl:(pre++(w++[32])).length=pre.length+w.length+1:=by simp;omega
  rw[hl]at ih;have hx:pre++dN [32] (w::v::vs)=pre++(w++[32])++dN [32] (v::vs):=by rw[vD];simp
  have sj:pre++dN [32] (w::v::vs)=pre++(w++32::dN [32] (v::vs)):=by rw[vD]
  have hn:(dN [32] (w::v::vs)).length=w.length+(1+(dN [32] (v::vs)).length):=by rw[vD];simp;omega
  rw[hn,<-ak0,<-ak0,aj9,aj9];have h1:=Jw (pre:=pre) (post:=32::dN [32] (v::vs)) (h w (by simp))
  have h2:(List.range' (pre.length+w.length) 1).filter (λi=>decide ((pre++dN [32] (w::v::vs))[i]? = ζ 32))=[pre.length+w.length]:=by
   have:(pre++dN [32] (w::v::vs))[pre.length+w.length]? = ζ 32:=by
    rw[sj,ahW (by omega),ahW (by omega)]
    have:pre.length+w.length-pre.length-w.length=0:=by omega
    rw[this];rfl
   simp[ajr,this]
  rw[h2];rw[<-sj]at h1;rw[h1];rw[<-hx]at ih;rw[ih];rfl
theorem IZ:∀(vs:List (List Nat)) (w pre:List Nat),(((pre.length::(nM pre.length w vs).map (· + 1)).zip (nM pre.length w vs++[(pre++dN [32] (w::vs)).length])).map λp=>((pre++dN [32] (w::vs)).drop p.1).take (p.2-p.1))=w::vs
 |[],w,pre=>by
  simp[nM,dN]
 |v::vs,w,pre=>by
  have ih:=IZ vs v (pre++(w++[32]));have hl:(pre++(w++[32])).length=pre.length+w.length+1:=by simp;omega
  rw[hl]at ih;have hx:pre++dN [32] (w::v::vs)=pre++(w++[32])++dN [32] (v::vs):=by rw[vD];simp
  have sj:pre++dN [32] (w::v::vs)=pre++(w++32::dN [32] (v::vs)):=by rw[vD]
  rw[<-hx]at ih;have h1:((pre++dN [32] (w::v::vs)).drop pre.length).take (pre.length+w.length-pre.length)=w:=by
   rw[sj,List.drop_left];have:pre.length+w.length-pre.length=w.length:=by omega
   rw[this,ajt]
  show((((pre.length::((pre.length+w.length+1)::(nM (pre.length+w.length+1) v vs).map (· + 1))).zip ((pre.length+w.length)::(nM (pre.length+w.length+1) v vs++[(pre++dN [32] (w::v::vs)).length])))).map _)=_;rw[ajX,aht,ih];dsimp only;rw[h1]
theorem I0(x:Str) (cuts:List Nat):(Builtin.Str.partsBetween x cuts 1).map (λp=>p.cps.toList)=(((0::cuts.map (· + 1)).zip (cuts++[x.cps.toList.length])).map λp=>(x.cps.toList.drop p.1).take (p.2-p.1)):=by
 unfold Builtin.Str.partsBetween;rw[ahR];refine ah5 λp _=>?_
 show(x.cps.extract p.1 p.2).toList=_;rw[akY,ajU]
theorem Bb(x:Str):bO x ⟨#[32]⟩=Builtin.Str.partsBetween x (dM x ⟨#[32]⟩) 1:=by
 have he:(dM x ⟨#[32]⟩)=[]->[x]=Builtin.Str.partsBetween x (dM x ⟨#[32]⟩) 1:=λh=>by
  rw[h];show[x]=[Builtin.Str.strSub x 0 x.length]
  congr 1
  refine xm ?_;show _=(x.cps.extract 0 x.cps.size).toList;simp
 unfold bO
 by_cases h0:(dM x ⟨#[32]⟩).isEmpty=Θ
 ·rw[if_pos h0,ite_self];exact he (List.isEmpty_iff.mp h0)
 ·have hk:¬(decide (x.length<Str.length ⟨#[32]⟩)||decide (Builtin.Str.strKind x<Builtin.Str.strKind ⟨#[32]⟩))=Θ:=by
   rw[aiH,decide_eq_true_eq,decide_eq_true_eq]
   rintro (h|h)
   ·have h:x.length<1:=h;apply h0;rw[kM];have:x.length=0:=by omega
    rw[this];rfl
   ·have e:Builtin.Str.strKind ⟨#[32]⟩=1:=by decide +kernel
    rw[e]at h;unfold Builtin.Str.strKind at h;split at h
    ·omega
    ·split at h<;>omega
  rw[if_neg hk,if_neg h0];rfl
theorem QB{w:Str}{ws:List Str}(h:∀v∈w::ws,32∉v.cps.toList):bO (dH " " (w::ws)) " "=w::ws:=by
 have hj:=join_list " " (w::ws);rw[kJ]at hj ⊢
 generalize dH ⟨#[32]⟩ (w::ws)=x at hj
 have hj:x.cps.toList=dN [32] (w.cps.toList::ws.map λp=>p.cps.toList):=hj
 rw[Bb,kM];have h':∀v∈w.cps.toList::ws.map (λp=>p.cps.toList),32∉v:=λv hv=>by
  rcases aho.mp hv with rfl|hv
  ·exact h w (by simp)
  ·obtain⟨p,hp,rfl⟩:=ahw.mp hv;exact h p (by simp[hp])
 have hc:=L3 (ws.map λp=>p.cps.toList) w.cps.toList [] h'
 have hp:=IZ (ws.map λp=>p.cps.toList) w.cps.toList []
 rw[ahy,<-hj]at hc hp;have hxl:x.length=x.cps.toList.length:=rfl;rw[ahK,<-hxl,<-aka]at hc;rw[hc];rw[ahK]at hp;have hq:=I0 x (nM 0 w.cps.toList (ws.map λp=>p.cps.toList))
 rw[hp]at hq;have hinj:∀a b:List Str,a.map (λp=>p.cps.toList)=b.map (λp=>p.cps.toList)->a=b:=by
  intro a
  induction a with
  |nil=>intro b hb;cases b with
   |nil=>rfl
   |cons y b=>cases hb
  |cons y a ih=>intro b hb;cases b with
   |nil=>cases hb
   |cons z b =>
    rw[aht,aht,akP]at hb;rw[xm hb.1,ih b hb.2]
 exact hinj _ _ hq
def ff(rows:List (List Nat)):D:=.tup (rows.map λr=>.tup (nD r))
theorem mP(rows:List (List Nat)):noRef (ff rows)=Θ:=by
 unfold ff noRef;refine iG.mpr λd hd=>?_
 obtain⟨r,_,rfl⟩:=ahw.mp hd;unfold noRef;exact ym r
theorem uS(n:Nat):aL 0 (n:Int)=nD (ε n):=by
 apply akb;intro i
 by_cases h:i<n
 ·have h1:i<(aL 0 (n:Int)).length:=by rw[d7];omega
  have:=jV (ahI h1);rw[ahI h1,this.2];simp[nD,h]
 ·rw[aid (by rw[d7];omega),aid (by simp[nD];omega)]
theorem nK{α:Type}{E:List (Option D)}{t:ai}{a:af}{c:aa}(g F:α->D) (b:α->Bool):∀(l:List α) (v:Option D) (acc:List D),(∀x∈l,t (ζ (g x)::E) c=.ok (b x) c)->(∀x∈l,b x=Θ->a (ζ (g x)::E) c=.ok (F x) c)->bC (λ_=>True) (az 0) t a (l.map g) (v::E) acc c=.ok (acc++(l.filter b).map F) c
 |[],v,acc,_,_=>by simp
 |x::l,v,acc,h1,h2=>by
  have e1:az 0 (g x) (v::E) c=.ok (ζ (g x)::E) c:=rfl;rw[aht,iy,e1,R.aA,h1 x (.head _),R.aA];cases hb:b x with
  |true =>
   rw[if_pos rfl,h2 x (.head _) hb,R.aA,nK g F b l _ _ (λz hz=>h1 z (.tail _ hz)) (λz hz=>h2 z (.tail _ hz)),List.filter_cons_of_pos hb,ah1]
   rfl
  |false =>
   rw[if_neg (by decide),nK g F b l _ _ (λz hz=>h1 z (.tail _ hz)) (λz hz=>h2 z (.tail _ hz)),List.filter_cons_of_neg (by simp[hb])]
def m5:ai:=(kh (aJ (au cU (ak 0) (ak 1))) (aJ (pL 2 2 lams (ao (ak 1) (ao (ak 0) aq)))))
def AH(n:Nat) (f:Nat->Nat->Bool) (i:Nat):List Nat:=(ε n).filter λj=>decide (j≠i)&&f i j
def wQ(n:Nat) (f:Nat->Nat->Bool):List (List Nat):=(ε n).map (AH n f)
section
variable {k n:Nat}{E:ο}{ns:List Str}{l:List D}{m:List D->aa->R D}{c:aa}{f:Nat->Nat->Bool}
theorem RX{one j:Nat}(hk:lams[k]? = ζ (E,ns,m)) (hl:gM l=Θ) (hm:j≠one->m ([.int one,.int j]++l) c=.ok (.bl (f one j)) c) :
  m5 [ζ (.int j),ζ (.int one),ζ (.lam k E ns l)] c=.ok (decide (j≠one)&&f one j) c:=by
 unfold m5
 by_cases h:j=one
 ·subst h;simp
 ·have h':¬((j:Int)=one):=by omega
  have hc:pL 2 2 lams (ao (ak 1) (ao (ak 0) aq)) [ζ (.int j),ζ (.int one),ζ (.lam k E ns l)] c=.ok (.bl (f one j)) c:=by
   rw[Of 2 2 lams _ _ c (k:=k) (Ex:=E) (ns:=ns) (l:=l) rfl hk];simp only[bJ,bD,gz,gs,bI,R.aA];rw[if_pos ⟨rfl,rfl,hl⟩];exact hm h
  simp[h,h',hc]
theorem RZ{q:Int}{one L:D}{r:List D}(bq:-4611686018427387904<=q/\q<4611686018427387904) (hlen:(aL 0 q).length<Ω) (hc:bC (λ_=>True) (az 0) m5 (ak 0) (aL 0 q) [η,ζ one,ζ L] [] c=.ok r c) (nr:noRef (.tup r)=Θ):iH [.int q,one,L] c=.ok (.tup r) c:=by
 have hb:tF=aP (aF gf (ao (br (bG (ao (ak 0) aq)) [η,ζ 1,ζ 2] (az 0) m5 (ak 0)) aq)):=rfl;rw[iH,i8,hb];have es:cH 3 [D.int q,one,L]=[ζ (.int q),ζ one,ζ L]:=rfl;rw[es];simp only[oq,iM,bJ,fB,gH,bD,gz,gs,bI,R.aA];rw[if_pos (by omega)]
 simp only[R.aA];rw[if_pos hlen];have ep:ee [η,ζ 1,ζ 2] [ζ (D.int q),ζ one,ζ L]=[η,ζ one,ζ L]:=rfl;rw[ep,hc];simp only[R.aA];show dF Γ c.length (.tup r) c=_;unfold dF;dsimp only;rw[if_pos nr,air]
theorem Oi{q:Int}{L:D}{r:List D}(bq:-4611686018427387904<=q/\q<4611686018427387904) (hlen:(aL 0 q).length<Ω) (hc:bC (λ_=>True) (az 0) aW (aC 3 iH (ao (ak 1) (ao (ak 0) (ao (ak 2) aq)))) (aL 0 q) [η,ζ (.int q),ζ L] [] c=.ok r c) (nr:noRef (.tup r)=Θ):j6 [.int q,L] c=.ok (.tup r) c:=by
 have hb:tw=aP (aF gf (ao (br (bG (ao (ak 0) aq)) [η,ζ 0,ζ 1] (az 0) aW (aC 3 iH (ao (ak 1) (ao (ak 0) (ao (ak 2) aq))))) aq)):=rfl;rw[j6,i8,hb];have es:cH 2 [D.int q,L]=[ζ (.int q),ζ L]:=rfl;rw[es];simp only[oq,iM,bJ,fB,gH,bD,gz,gs,bI,R.aA];rw[if_pos (by omega)]
 simp only[R.aA];rw[if_pos hlen];have ep:ee [η,ζ 0,ζ 1] [ζ (D.int q),ζ L]=[η,ζ (.int q),ζ L]:=rfl;rw[ep,hc];simp only[R.aA];show dF Γ c.length (.tup r) c=_;unfold dF;dsimp only;rw[if_pos nr,air]
theorem XG{l:List D}(h:bP l=Θ):noRef (.tup l)=Θ:=by unfold noRef;exact h
theorem B3(hn:n<1000):(aL 0 (n:Int)).length<Ω:=by
 have hs:=iC;rw[d7];omega
theorem Ij(hn:n<1000):-4611686018427387904<=(n:Int)/\(n:Int)<4611686018427387904:=by omega
theorem R1{one:Nat}{L:D}{r:List Nat}(hc:bC (λ_=>True) (az 0) m5 (ak 0) ((ε n).map λj:Nat=>D.int (j:Int)) [η,ζ (.int one),ζ L] [] c=.ok (r.map λj:Nat=>D.int (j:Int)) c):bC (λ_=>True) (az 0) m5 (ak 0) (aL 0 (n:Int)) [η,ζ (.int one),ζ L] [] c=.ok (nD r) c:=by rw[uS];exact hc
theorem R0{one:Nat}{L:D}{r:List Nat}(hn:n<1000) (hc:bC (λ_=>True) (az 0) m5 (ak 0) ((ε n).map λj:Nat=>D.int (j:Int)) [η,ζ (.int one),ζ L] [] c=.ok (r.map λj:Nat=>D.int (j:Int)) c) :
  iH [.int n,.int one,L] c=.ok (.tup (nD r)) c:=RZ (Ij hn) (B3 hn) (R1 hc) (XG (ym _))
theorem RY{one:Nat}(hk:lams[k]? = ζ (E,ns,m)) (hl:gM l=Θ) (hn:n<1000) (hm:∀j,j<n->j≠one->m ([.int one,.int j]++l) c=.ok (.bl (f one j)) c) :
  iH [.int n,.int one,.lam k E ns l] c=.ok (.tup (nD (AH n f one))) c:=by
 have hc:=nK (E:=[ζ (.int one),ζ (.lam k E ns l)]) (t:=m5) (a:=ak 0) (c:=c) (λj:Nat=>D.int (j:Int)) (λj:Nat=>D.int (j:Int)) (λj=>decide (j≠one)&&f one j) (ε n) η [] (λj hj=>RX hk hl (hm j (ahH.mp hj))) (λj _ _=>rfl)
 rw[ahy]at hc;exact R0 hn hc
theorem ad9{m:List D->aa->R D}{x y z:D}{r:R D}(h:m [x,y,z] c=r):(if[x,y,z].length=3 then m [x,y,z] c else .bad)=r:=by
 rw[if_pos (by rfl)];exact h
theorem Ox{L:D}{w:List (List Nat)}(hn:n<1000) (hc:bC (λ_=>True) (az 0) aW (aC 3 iH (ao (ak 1) (ao (ak 0) (ao (ak 2) aq)))) (aL 0 (n:Int)) [η,ζ (.int n),ζ L] [] c=.ok (w.map λr=>.tup (nD r)) c):j6 [.int n,L] c=.ok (ff w) c:=Oi (Ij hn) (B3 hn) hc (mP _)
theorem adY{m:List D->aa->R D}{x y z:D}{r:R D}(h:m [y,x,z] c=r):aC 3 m (ao (ak 1) (ao (ak 0) (ao (ak 2) aq))) [ζ x,ζ y,ζ z] c=r:=by
 simp only[x_call,bJ,bD,gz,gs,bI,R.aA];exact ad9 h
theorem Ot{i:Nat}{L:D}{r:List Nat}(h:iH [.int n,.int i,L] c=.ok (.tup (nD r)) c):aC 3 iH (ao (ak 1) (ao (ak 0) (ao (ak 2) aq))) [ζ (.int i),ζ (.int n),ζ L] c=.ok (.tup (nD r)) c:=adY h
theorem OA{L:D}{g:Nat->List Nat}(h:∀i,i<n->iH [.int n,.int i,L] c=.ok (.tup (nD (g i))) c):bC (λ_=>True) (az 0) aW (aC 3 iH (ao (ak 1) (ao (ak 0) (ao (ak 2) aq)))) (aL 0 (n:Int)) [η,ζ (.int n),ζ L] [] c=.ok (((ε n).map g).map λr=>.tup (nD r)) c:=by
 have hc:=nK (E:=[ζ (.int n),ζ L]) (t:=aW) (a:=aC 3 iH (ao (ak 1) (ao (ak 0) (ao (ak 2) aq)))) (c:=c) (λj:Nat=>D.int (j:Int)) (λj:Nat=>D.tup (nD (g j))) (λ_=>Θ) (ε n) η [] (λj hj=>rfl) (λi hi _=>Ot (h i (ahH.mp hi)))
 have ft:(ε n).filter (λ_=>Θ)=ε n:=by simp
 rw[ahy,ft]at hc;rw[ahR,uS];exact hc
theorem Ov(hk:lams[k]? = ζ (E,ns,m)) (hl:gM l=Θ) (hn:n<1000) (hm:∀i j,i<n->j<n->j≠i->m ([.int i,.int j]++l) c=.ok (.bl (f i j)) c) :
  j6 [.int n,.lam k E ns l] c=.ok (ff (wQ n f)) c:=Ox hn (OA λi hi=>RY hk hl hn λj hj hne=>hm i j hi hj hne)
end
theorem ad8{kk:Nat}{m:List D->aa->R D}{d1:af}{E:ο}{ns:List Str}{js:List Nat}{e:Ev}{c:aa}{x v:D}{l:List D}(h1:d1 e c=.ok x c) (hg:getAll e js=ζ l) (h2:m [x,.lam kk E ns l] c=.ok v c) (hv:noRef v=Θ):sN kk m d1 E ns js e c=.ok v c:=by
 unfold sN;rw[h1];simp only[R.aA];rw[hg];dsimp only;rw[h2];simp only[R.aA];rw[if_pos hv]
theorem nQ{m:List D->aa->R D}{d1 d2:af}{e:Ev}{c:aa}{x y v:D}(h1:d1 e c=.ok x c) (h2:d2 e c=.ok y c) (h:m [x,y] c=.ok v c):aC 2 m (ao d1 (ao d2 aq)) e c=.ok v c:=by
 simp only[x_call,bJ,h1,h2,bI,R.aA];rw[if_pos (by rfl)];exact h
theorem iX{m:List D->aa->R D}{d1:af}{e:Ev}{c:aa}{x v:D}(h1:d1 e c=.ok x c) (h:m [x] c=.ok v c):aC 1 m (ao d1 aq) e c=.ok v c:=by
 simp only[x_call,bJ,h1,bI,R.aA];rw[if_pos (by rfl)];exact h
theorem jY{n:Nat}{b:ah}{xs:List D}{c:aa}{v:D}(h:b (cH n xs) c=.ok (.rt v) c) (hv:noRef v=Θ) (hr:∀k,v≠.ref k):cB n Γ b xs c=.ok v c:=by
 rw[i8,h];simp only[R.aA];cases v<;>first|exact absurd rfl (hr _)|(unfold dF;dsimp only;rw[if_pos hv,air])
theorem Hu{d1 d2:af}{e:Ev}{c:aa}{x y:D}(h1:d1 e c=.ok x c) (h2:d2 e c=.ok y c):cX (ao d1 (ao d2 aq)) e c=.ok (.tup [x,y]) c:=by
 have:(2:Nat)<=Ω:=dR (by decide)
 simp only[mK,bJ,h1,h2,bI,R.aA];rw[if_pos (by exact this)]
theorem eV{f:List D->aa->R D}{d1:af}{e:Ev}{c:aa}{x v:D}(h1:d1 e c=.ok x c) (h:f [x] c=.ok v c):aF f (ao d1 aq) e c=.ok v c:=by
 simp only[iM,bJ,h1,bI,R.aA];exact h
theorem jc{i:Nat}{d:af}{e:Ev}{c:aa}{v:D}(h:d e c=.ok v c):aE i d e c=.ok (.nx (e.set i (ζ v))) c:=by rw[gG,h];rfl
theorem iO{d:af}{e:Ev}{c:aa}{v:D}(h:d e c=.ok v c):aP d e c=.ok (.rt v) c:=by rw[oq,h];rfl
theorem R5(a m:Nat):aL ((a:Int)+1) (m:Int)=nD (List.range' (a+1) (m-(a+1))):=by
 apply akb;intro i
 by_cases h:i<m-(a+1)
 ·have h1:i<(aL ((a:Int)+1) (m:Int)).length:=by rw[d7];omega
  have:=jV (ahI h1);rw[ahI h1,this.2];simp[nD,akc h]
 ·rw[aid (by rw[d7];omega),aid (by simp[nD];omega)]
theorem ab0{dO da:af}{e:Ev}{c:aa}{k:Nat}{acc l:List D}(h1:dO e c=.ok (.ref k) c) (h2:da e c=.ok (.lst l) c) (hk:c[k]? = ζ (.lst acc)) (hl:acc.length+l.length<=1000000) (nr:bP l=Θ):d8 dO da e c=.ok .aH (c.set k (.lst (acc++l))):=by
 have hs:1000000<=Ω:=by decide
 unfold d8;rw[h1];simp only[R.aA];rw[h2];simp only[R.aA];rw[hk];dsimp only;rw[if_pos ⟨by omega,nr⟩]
theorem LO{d:af}{e:Ev}{c c':aa}{v:D}(h:d e c=.ok v c'):dS d e c=.ok (.nx e) c':=by rw[uo,h];rfl
theorem vE{sr:Ev->aa->R Src}{g:Gd}{s:ah}{e:Ev}{c:aa}{l:List D}{r:R Fl}(h1:sr e c=.ok ⟨l,λ_=>True⟩ c) (h2:cJ (λ_=>True) g s l e c=r):bU sr g s e c=r:=by
 rw[iL,h1];exact h2
theorem Bq{d:af}{e:Ev}{c:aa}{q:Int}(h:d e c=.ok (.int q) c) (bq:-4611686018427387904<=q/\q<4611686018427387904):bG (ao d aq) e c=.ok ⟨aL 0 q,λ_=>True⟩ c:=by
 simp only[gH,bJ,h,bI,R.aA];rw[if_pos (by omega)]
theorem cT{f:D->D->aa->R D}{d1 d2:af}{e:Ev}{c:aa}{x y:D}{r:R D}(h1:d1 e c=.ok x c) (h2:d2 e c=.ok y c) (h:f x y c=r):au f d1 d2 e c=r:=by
 rw[dw,h1];simp only[R.aA];rw[h2];exact h
theorem aew{dO da:af}{e:Ev}{c:aa}{k:Nat}{acc:List D}{v:D}(h1:dO e c=.ok (.ref k) c) (h2:da e c=.ok v c) (hk:c[k]? = ζ (.lst acc)) (hl:acc.length+1<=1000000) (nr:noRef v=Θ):lB dO da e c=.ok .aH (c.set k (.lst (acc++[v]))):=by
 have hs:1000000<=Ω:=by decide
 unfold lB;rw[h1];simp only[R.aA];rw[h2];simp only[R.aA];rw[hk];dsimp only;rw[if_pos ⟨by omega,nr⟩]
theorem rD{d1 d2:af}{e:Ev}{c:aa}{p q:Int}(h1:d1 e c=.ok (.int p) c) (h2:d2 e c=.ok (.int q) c) (bp:-4611686018427387904<=p/\p<4611686018427387904) (bq:-4611686018427387904<=q/\q<4611686018427387904):cY (ao d1 (ao d2 aq)) e c=.ok ⟨aL p q,λ_=>True⟩ c:=by
 simp only[mO,bJ,h1,h2,bI,R.aA];rw[if_pos ⟨by omega,by omega,by omega,by omega⟩]
@[simp] theorem agx(i:Int) (c:aa):yv [.int i] c=.ok (.bl Θ) c:=by simp[yv,tG]
theorem ae5(c:aa) (l:List D) (f:D->Bool):gS [.lst (l.map λx=>.bl (f x))] c=.ok (.bl (l.all f)) c:=by
 have e:(l.map λx=>D.bl (f x))=(l.map f).map D.bl:=by simp
 unfold gS m8;dsimp only;rw[e,zT];simp[List.all_map]
theorem same_int(i:Int) (k:Nat) (c:aa):eN (k+1) [.int i,.int i] c=.ok (.bl Θ) c:=by simp[eN,lG]
theorem Ii{l:List D}{k:Nat}{c:aa}(h:∀d∈l,eN (k+1) [d,d] c=.ok (.bl Θ) c) (hl:l.length<Ω):eN (k+2) [.tup l,.tup l] c=.ok (.bl Θ) c:=by
 have hc:=nO (c:=c) (g:=gY 2 (eg (az 0) (eg (az 1) iu))) (t:=aW) (a:=aC 2 (eN (k+1)) (ao (ak 0) (ao (ak 1) aq)))
  (λe=>∃v w,e=[v,w]) (λ_=>Θ) (λ_=>.bl Θ) (l.map λa=>.tup [a,a]) [η,η] [] ⟨_,_,rfl⟩ (λx hx e ⟨v,w,he⟩=>by
   have:∃d∈l,x=.tup [d,d]:=by
    obtain⟨d,hd,e⟩:=ahw.mp hx;exact⟨d,hd,e.symm⟩
   obtain⟨d,hd,rfl⟩:=this;subst he;refine⟨[ζ d,ζ d],by simp,⟨_,_,rfl⟩,rfl,λ_=>?_⟩
   simp[h d hd])
 have e2:((l.map λa=>D.tup [a,a]).filter λ_=>Θ)=l.map λa=>D.tup [a,a]:=by simp
 rw[e2,ahy]at hc;have ha:=ae5 c (l.map λa=>D.tup [a,a]) (λ_=>Θ)
 show cB 2 Γ (lG (eN (k+1))) [.tup l,.tup l] c=_;simp[lG,ee,hl];rw[hc];simp only[R.aA];rw[ha];simp
theorem RM{w:List (List Nat)}(hw:w.length<1000) (hr:∀r∈w,r.length<1000) (c:aa):eN 3 [ff w,ff w] c=.ok (.bl Θ) c:=by
 have hs:=iC;unfold ff;refine Ii (k:=1) (λd hd=>?_) (by rw[ahr];omega)
 obtain⟨r,hr',rfl⟩:=ahw.mp hd;refine Ii (k:=0) (λd hd=>?_) (by have:=hr r hr';simp[nD];omega)
 obtain⟨n,_,rfl⟩:=ahw.mp hd;exact same_int _ 0 c
theorem PX{m i:Nat}(f:Nat->Nat->Bool) (h:i<m) (c:aa):aG (aK m f) (.int (i:Int)) c=.ok (.lst (bZ m f i)) c:=by unfold aK;rw[gU,AW f h]
def wF(m:Nat) (f:Nat->Nat->Bool):List (List Nat):=(ε m).map (ic m f)
theorem xE(m:Nat) (f:Nat->Nat->Bool):jy m f=ff (wF m f):=by
 unfold jy ff wF;rw[ahR];rfl
theorem OL(m:Nat) (f:Nat->Nat->Bool):(wF m f).length=m:=by simp[wF]
theorem HZ{d:af}{e:Ev}{c:aa}{l:List D}(h:d e c=.ok (.lst l) c):cS d e c=.ok ⟨l,λ_=>True⟩ c:=by
 unfold cS;rw[h];rfl
theorem lC{sr:Ev->aa->R Src}{pick:List (Option Nat)}{g:Gd}{t:ai}{a:af}{e:Ev}{c:aa}{items l:List D}(h1:sr e c=.ok ⟨items,λ_=>True⟩ c) (hl:items.length<Ω) (h2:bC (λ_=>True) g t a items (ee pick e) [] c=.ok l c):br sr pick g t a e c=.ok (.lst l) c:=by
 rw[fB,h1];simp only[R.aA];rw[if_pos hl,h2];rfl
theorem jx{i:Nat}{d:af}{e:Ev}{c c':aa}{v:D}(h:d e c=.ok v c'):aE i d e c=.ok (.nx (e.set i (ζ v))) c':=by rw[gG,h];rfl
theorem nN{α:Type}{E:List (Option D)}{t:ai}{a:af}{c:aa}{st:aa->Prop}(hst:st c) (g F:α->D):∀(l:List α) (v:Option D) (acc:List D),(∀x∈l,t (ζ (g x)::E) c=.ok Θ c)->(∀x∈l,a (ζ (g x)::E) c=.ok (F x) c)->bC st (az 0) t a (l.map g) (v::E) acc c=.ok (acc++l.map F) c
 |[],v,acc,_,_=>by unfold bC;simp[hst]
 |x::l,v,acc,h1,h2=>by
  have e1:az 0 (g x) (v::E) c=.ok (ζ (g x)::E) c:=rfl;rw[aht];unfold bC;rw[if_pos hst,e1,R.aA,h1 x (by simp),R.aA,if_pos rfl,h2 x (by simp),R.aA,nN hst g F l _ _ (λy hy=>h1 y (by simp[hy])) (λy hy=>h2 y (by simp[hy])),ah1]
  rfl
theorem aag{a b q:Int}(a0:0<=a) (a1:a<=q-1) (b0:0<=b) (b1:b<=q-1) (hab:a≠b) (c:aa):rZ [.tup [.int a,.int b],.int q] c=.ok (.bl Θ) c:=by
 have p1:o4 [.int a,.int q] c=.ok (.bl Θ) c:=by simp[o4,pW,yy,pU,yz,pV,a0,a1]
 have p2:o4 [.int b,.int q] c=.ok (.bl Θ) c:=by simp[o4,pW,yy,pU,yz,pV,b0,b1]
 simp[rZ,tU,p1,p2,hab]
theorem all_true{α:Type}(l:List α) (c:aa):gS [.lst (l.map λ_=>D.bl Θ)] c=.ok (.bl Θ) c:=by
 have e:(l.map λ_=>D.bl Θ)=(l.map λ_=>Θ).map D.bl:=by rw[ahR];rfl
 rw[e];unfold gS m8;dsimp only;rw[zT];simp
def z5(c:aa) (X:D) (ps:List (Nat×Nat)):Prop:=(∃k,X=.ref k/\c[k]? = ζ (.lst (ps.map bg)))\/X=.lst (ps.map bg)
def vU:af:=(aC 2 rZ (ao (ak 0) (ao (ak 1) aq)))
theorem aeu{m:Nat}{ps:List (Nat×Nat)}{X:D}{c:aa}(hX:z5 c X ps) (hp:dj m ps) (hl:ps.length<2000):r8 [X,.int (m:Int)] c=.ok (.bl Θ) c:=by
 have hs:=iC;have hel:∀p∈ps,vU [ζ (bg p),ζ (.int (m:Int))] c=.ok (.bl Θ) c:=λp gx=>by
  obtain⟨h1,h2,h3⟩:=hp p gx;exact nQ (m:=rZ) (d1:=ak 0) (d2:=ak 1) rfl rfl (aag (by omega) (by omega) (by omega) (by omega) (by omega) c)
 have hc:br (cS (ak 0)) [η,ζ 1] (az 0) aW vU [ζ X,ζ (.int (m:Int))] c=.ok (.lst (ps.map λ_=>D.bl Θ)) c:=by
  rcases hX with⟨k,rfl,hk⟩|rfl
  ·have h:=nN (c:=c) (st:=λc'=>c'[k]? = ζ (.lst (ps.map bg))) (E:=[ζ (.int (m:Int))]) (t:=aW) (a:=vU) hk bg (λ_=>.bl Θ) ps η [] (λ_ _=>rfl) hel
   rw[ahy]at h;rw[fB];unfold cS;have hv:ak 0 [ζ (D.ref k),ζ (.int (m:Int))] c=.ok (.ref k) c:=rfl;rw[hv];simp only[R.aA,hk];rw[if_pos (by rw[ahr];omega)]
   have:ee [η,ζ 1] [ζ (D.ref k),ζ (.int (m:Int))]=[η,ζ (.int (m:Int))]:=rfl;rw[this,h];rfl
  ·have h:=nN (c:=c) (st:=λ_=>True) (E:=[ζ (.int (m:Int))]) (t:=aW) (a:=vU) trivial bg (λ_=>.bl Θ) ps η [] (λ_ _=>rfl) hel
   rw[ahy]at h;exact lC (pick:=[η,ζ 1]) (HZ (d:=ak 0) rfl) (by rw[ahr];omega) h
 have hi:bN [X,.ty "list"] c=.ok (.bl Θ) c:=by
  rcases hX with⟨k,rfl,hk⟩|rfl
  ·rfl
  ·rfl
 have hA:=eV (f:=gS) hc (all_true ps c);have h1:aF bN (ao (ak 0) (ao (dC (.ty "list")) aq)) [ζ X,ζ (.int (m:Int))] c=.ok (.bl Θ) c:=by
  simp only[iM,bJ,bD,gz,fC,bI,R.aA];exact hi
 have hb:tV=aP (fY (aF bN (ao (ak 0) (ao (dC (.ty "list")) aq))) (aF gS (ao (br (cS (ak 0)) [η,ζ 1] (az 0) aW vU) aq))):=rfl;refine jY ?_ rfl (λk h=>by cases h)
 have es:cH 2 [X,.int (m:Int)]=[ζ X,ζ (.int (m:Int))]:=rfl;rw[es,hb];refine iO ?_;unfold fY;rw[h1];simp only[R.aA]
 first
  |exact hA
  |(rw[hA];rfl)
  |simp[hA]
def vn(ps:List (Nat×Nat)) (i j:Nat):Bool:=decide (((i:Int),(j:Int))∈iI (ps.map λp=>((p.1:Int),(p.2:Int))))
theorem S3(ps:List (Nat×Nat)):kG (ps.map bg)=ζ (ps.map λp=>((p.1:Int),(p.2:Int))):=by
 have e:ps.map bg=(ps.map λp=>((p.1:Int),(p.2:Int))).map rG:=by rw[ahR];rfl
 rw[e];exact IE _
theorem YY{c:aa}{X:D}{ps:List (Nat×Nat)}(h:z5 c X ps):dB c X=ζ (ps.map bg):=by
 rcases h with⟨k,rfl,hk⟩|rfl
 ·show(match c[k]? with|some (.lst l)=>ζ l|none=>η)=_
  rw[hk]
 ·rfl
theorem join_gen{X:D}{l:List D}{qs:List (Int×Int)}{c:aa}(h1:dB c X=ζ l) (h2:kG l=ζ qs) (hl:qs.length<2000) (a0:Option D):mZ 1 2 3 [a0,ζ X,η,η] c=.ok (.nx [a0,ζ X,ζ (.dct (iI qs)),η]) c:=by
 have e:([a0,ζ X,η,η]:Ev)[1]? = ζ (ζ X):=rfl;unfold mZ;rw[e];dsimp only;rw[h1,ajl,h2];dsimp only;rw[if_pos ⟨hl,rfl⟩];rfl
theorem Z0{X:D}{ps:List (Nat×Nat)}{c:aa}(hX:z5 c X ps) (hl:ps.length<2000) (a0:Option D):mZ 1 2 3 [a0,ζ X,η,η] c=.ok (.nx [a0,ζ X,ζ (.dct (iI (ps.map λp=>((p.1:Int),(p.2:Int))))),η]) c :=
 join_gen (YY hX) (S3 ps) (by rw[ahr];exact hl) a0
theorem Oq{m' X v:D}{ks:List (Int×Int)}{c:aa}(hw:j6 [m',.lam 0 oj ["joined"] [.dct ks]] c=.ok v c) (hv:noRef v=Θ):sN 0 j6 (ak 0) oj ["joined"] [2] [ζ m',ζ X,ζ (.dct ks),η] c=.ok v c :=
 ad8 (kk:=0) (m:=j6) (d1:=ak 0) (E:=oj) (ns:=["joined"]) (js:=[2]) (l:=[.dct ks]) (x:=m') rfl rfl hw hv
theorem Ow{m:Nat}{ps:List (Nat×Nat)}{X:D}{c:aa}(hX:z5 c X ps) (hp:dj m ps) (hl:ps.length<2000) (hm:m<1000):vf [.int (m:Int),X] c=.ok (ff (wQ m (vn ps))) c:=by
 have hap:=aeu hX hp hl;have hw:=Ov (k:=0) (n:=m) (E:=oj) (ns:=["joined"]) (l:=[.dct (iI (ps.map λp=>((p.1:Int),(p.2:Int))))]) (m:=yF nv) (c:=c) (f:=vn ps) rfl rfl hm λi j hi hj hne=>by
  show nv [ζ (.int i),ζ (.int j),ζ (.dct (iI (ps.map λp=>((p.1:Int),(p.2:Int)))))] c=_
  unfold nv;exact cT (f:=yI) (Hu (x:=.int (i:Int)) (y:=.int (j:Int)) rfl rfl) (y:=.dct _) rfl rfl
 have e0:bz (eO (aJ (aC 2 r8 (ao (ak 1) (ao (ak 0) aq))))) je bL [ζ (.int (m:Int)),ζ X,η,η] c=.ok (.nx [ζ (.int (m:Int)),ζ X,η,η]) c:=by
  have h:=nQ (m:=r8) (d1:=ak 1) (d2:=ak 0) (e:=[ζ (.int (m:Int)),ζ X,η,η]) (c:=c) rfl rfl hap;rw[iK,Ob,jT,h];rfl
 have e1:mZ 1 2 3 [ζ (.int (m:Int)),ζ X,η,η] c=.ok (.nx [ζ (.int (m:Int)),ζ X,ζ (.dct (iI (ps.map λp=>((p.1:Int),(p.2:Int))))),η]) c:=Z0 hX hl (ζ (.int (m:Int)))
 have hb:tE=aD (bz (eO (aJ (aC 2 r8 (ao (ak 1) (ao (ak 0) aq))))) je bL) (aD (mZ 1 2 3) (aP (sN 0 j6 (ak 0) oj ["joined"] [2]))):=rfl;have hr:=Oq (X:=X) hw (mP _);refine jY ?_ (mP _) (λk h=>by cases h)
 have es:cH 4 [.int (m:Int),X]=[ζ (.int (m:Int)),ζ X,η,η]:=rfl;rw[es,hb,bf e0,bf e1];exact iO hr
theorem Z4{ps:List (Nat×Nat)}{i j:Nat}:vn ps i j=Θ↔(i,j)∈ps\/(j,i)∈ps:=by
 unfold vn iI;rw[decide_eq_true_eq,aju]
 constructor
 ·rintro ⟨q,hq,h⟩
  obtain⟨p,hp,rfl⟩:=ahw.mp hq;simp only[aho,Prod.mk.injEq,ahJ,or_false]at h
  rcases h with⟨h1,h2⟩|⟨h1,h2⟩
  ·left
   have:(i,j)=p:=Prod.ext (by show i=p.1;omega) (by show j=p.2;omega)
   rw[this];exact hp
  ·right
   have:(j,i)=p:=Prod.ext (by show j=p.1;omega) (by show i=p.2;omega)
   rw[this];exact hp
 ·rintro (h|h)
  ·exact⟨((i:Int),(j:Int)),ahw.mpr ⟨(i,j),h,rfl⟩,by simp⟩
  ·exact⟨((j:Int),(i:Int)),ahw.mpr ⟨(j,i),h,rfl⟩,by simp⟩
structure zW (m:Nat) (g:Nat->Nat->Bool) (ps:List (Nat×Nat)):Prop where
 vq:∀p∈ps,p.1<m/\p.2<m/\p.1≠p.2/\g p.1 p.2=Θ
 all:∀a b,a<b->b<m->g a b=Θ->(a,b)∈ps\/(b,a)∈ps
theorem zW.ne{m:Nat}{g:Nat->Nat->Bool}{ps:List (Nat×Nat)}(h:zW m g ps):dj m ps:=λp hp=>⟨(h.vq p hp).1,(h.vq p hp).2.1,(h.vq p hp).2.2.1⟩
theorem Ou{m:Nat}{g:Nat->Nat->Bool}{ps:List (Nat×Nat)}(h:zW m g ps) (hg:gZ g):wQ m (vn ps)=wF m g:=by
 unfold wQ wF;refine ah5 λi hi=>?_
 rw[ahH]at hi;unfold AH ic;refine ajv λj hj=>?_
 rw[ahH]at hj;rw[aie,ahL,decide_eq_true_eq,Z4]
 constructor
 ·rintro ⟨_,h1|h1⟩
  ·exact(h.vq _ h1).2.2.2
  ·rw[hg.2];exact(h.vq _ h1).2.2.2
 ·intro yO;have hne:j≠i:=λe=>by rw[e,hg.1]at yO;cases yO
  refine⟨hne,?_⟩
  rcases Nat.lt_or_gt_of_ne hne with q|q
  ·exact(h.all j i q hi (by rw[hg.2];exact yO)).symm
  ·exact h.all i j q hj yO
theorem MR{m:List D->aa->R D}{d1 d2:af}{e:Ev}{c c1 c2 c3:aa}{x y v:D}(h1:d1 e c=.ok x c1) (h2:d2 e c1=.ok y c2) (h:m [x,y] c2=.ok v c3):aC 2 m (ao d1 (ao d2 aq)) e c=.ok v c3:=by
 simp only[x_call,bJ,h1,h2,bI,R.aA];rw[if_pos (by rfl)];exact h
theorem gb{d:af}{e:Ev}{c c':aa}{b:Bool}(h:d e c=.ok (.bl b) c'):aJ d e c=.ok b c':=by rw[jT,h];rfl
theorem and_true{d1 d2:af}{e:Ev}{c:aa}{r:R D}(h1:d1 e c=.ok (.bl Θ) c) (h2:d2 e c=r):fY d1 d2 e c=r:=by
 unfold fY;rw[h1];simp only[R.aA]
 first
  |exact h2
  |(simp;exact h2)
theorem u7{t:ai}{e:Ev}{c c':aa}{b:Bool}(h:t e c=.ok b c'):eO t e c=.ok (!b) c':=by
 unfold eO;rw[h];rfl
theorem ny{t:ai}{s:ah}{e:Ev}{c c':aa}(h:t e c=.ok Γ c'):bz t s bL e c=.ok (.nx e) c':=by
 rw[iK,h];rfl
theorem aea{m:List D->aa->R D}{d1:af}{e:Ev}{c c1 c2:aa}{x v:D}(h1:d1 e c=.ok x c1) (h:m [x] c1=.ok v c2):aC 1 m (ao d1 aq) e c=.ok v c2:=by
 simp only[x_call,bJ,h1,bI,R.aA];rw[if_pos (by rfl)];exact h
theorem uT{n:Nat}{b:ah}{xs:List D}{c c':aa}{v:D}(h:b (cH n xs) c=.ok (.rt v) c') (hv:noRef v=Θ) (hr:∀k,v≠.ref k):cB n Γ b xs c=.ok v (c'.take c.length):=by
 rw[i8,h];simp only[R.aA];cases v<;>first|exact absurd rfl (hr _)|(unfold dF;dsimp only;rw[if_pos hv])
theorem Jb{t u:ai}{e:Ev}{c c1 c2:aa}(h1:t e c=.ok Γ c1) (h2:u e c1=.ok Γ c2):fG t u e c=.ok Γ c2:=by
 unfold fG;rw[h1];simp only[R.aA]
 first
  |exact h2
  |(rw[if_neg (by decide)];exact h2)
  |(simp;exact h2)
theorem jI(x y:Str) (b:Bool) (c:aa) (h:(decide (x∈eW/\y∈eW)&&((x==y)==b))=Θ):gw eW [.exc x,.fn y 0] c=.ok (.bl b) c:=by
 simp only[ahL,decide_eq_true_eq,beq_iff_eq]at h;unfold gw;simp only;rw[if_pos h.1,h.2]
theorem aac(x:Str) (c:aa) (h:decide (x∈eW)=Θ):gw eW [.exc x,.ty "ValueError"] c=.ok (.bl Θ) c:=by
 unfold gw;simp only;rw[if_pos ⟨by simpa using h,by trivial⟩]
theorem ia:1000000<Ω:=by decide
theorem aer{l:List D}{i:Nat}{d:D}(h:l[i]? = ζ d):cM l (i:Int)=ζ d:=by
 have hi:=(ahz.mp h).1;unfold cM gi;rw[if_pos (by omega),if_pos (by omega)]
 simpa using h
theorem Ku{l:List D}{i:Nat}{d:D}{N:Int}(hN:N=i) (h:l[i]? = ζ d) (c:aa):aG (.lst l) (.int N) c=.ok d c:=by
 subst hN;unfold aG gp;simp only[aer h]
theorem cG{d:af}{r:aj}{e:Ev}{c:aa}{x:D}{xs:List D}(h1:d e c=.ok x c) (h2:r e c=.ok xs c):ao d r e c=.ok (x::xs) c:=by rw[bJ,h1,R.aA,h2,R.aA]
theorem jg{e:Ev}{c:aa}:aq e c=.ok [] c:=rfl
theorem kZ{r:aj}{e:Ev}{c:aa}{xs:List D}(h:r e c=.ok xs c) (hl:xs.length<=100):bx r e c=.ok (.lst xs) c:=by
 have sz:=ia;rw[ou,h,R.aA,if_pos (by omega)]
theorem PJ{r:aj}{e:Ev}{c:aa}{xs:List D}(h:r e c=.ok xs c) (hl:xs.length<=100):cX r e c=.ok (.tup xs) c:=by
 have sz:=ia;rw[mK,h,R.aA,if_pos (by omega)]
theorem qt{a:af}{e:Ev}{j:Nat}{q y:Int}{c c':aa}{i:Nat}(hp:ak i e c=.ok (.ref j) c) (ha:a e c=.ok (.int q) c) (ht:aS [.ref j,.int q] c=.ok (.int y) c'):aC 2 aS (ao (ak i) (ao a aq)) e c=.ok (.int y) c':=by
 unfold aC;rw[cG hp (cG ha jg),R.aA];exact ht
theorem Bu{l:af}{a:af}{e:Ev}{xs:List D}{y:Int}{c c':aa}(hl:l e c=.ok (.lst xs) c) (ha:a e c=.ok (.int y) c') (y0:0<=y) (y1:y<xs.length):∃d∈xs,au aG l a e c=.ok d c':=by
 have hi:y.toNat<xs.length:=by omega
 refine⟨xs[y.toNat],aih _,?_⟩;rw[dw,hl,R.aA,ha,R.aA];exact Ku (i:=y.toNat) (by omega) (ahI hi) c'
def gK(b:Bool):Nat:=if b then 35 else 46
def dY(g:Nat->Nat->Bool) (i:Nat):Str:=xu ((ε i).map λk=>gK (g i k))
def cE(m:Nat):Str:=Str.ofString (toString (m:Int))
def eX(m:Nat) (g:Nat->Nat->Bool):List Str:=cE m::(List.range' 1 (m-1)).map (dY g)
def cL(m:Nat) (g:Nat->Nat->Bool):Str:=dH " " (eX m g)
theorem Jo:∀m,m<51->32∉(cE m).cps.toList/\(cE m).length<=2:=by decide +kernel
theorem uw(g:Nat->Nat->Bool) (i:Nat):(dY g i).length=i:=by
 show((ε i).map λk=>gK (g i k)).toArray.size=i
 simp
theorem qg(g:Nat->Nat->Bool) (i:Nat):(dY g i).cps.toList=(ε i).map λk=>gK (g i k):=by simp[dY,xu]
theorem A6:∀(l:List Nat) (B:Nat),(∀x∈l,x<=B)->l.sum<=l.length*B
 |[],B,_=>by simp
 |x::l,B,h=>by
  have h1:=h x (by simp)
  have h2:=A6 l B (λy hy=>h y (by simp[hy]))
  rw[ai2,ahu,aiy];omega
theorem jU{m:Nat}(hm:1<=m) (g:Nat->Nat->Bool):(eX m g).length=m:=by simp[eX];omega
theorem Oj{m:Nat}(hm:1<=m) (hm':m<=50) (g:Nat->Nat->Bool):((eX m g).map λp=>p.length+Str.length " ").sum<=10000:=by
 have h:=A6 ((eX m g).map λp=>p.length+Str.length " ") 60 (λx hx=>by
  obtain⟨p,hp,rfl⟩:=ahw.mp hx;have hw:Str.length " "=1:=by rw[kJ];rfl
  rw[hw]
  rcases aho.mp hp with rfl|hp
  ·have:=(Jo m (by omega)).2;omega
  ·obtain⟨i,hi,rfl⟩:=ahw.mp hp;rw[aia]at hi;rw[uw];omega)
 rw[ahr,jU hm]at h;omega
theorem Hl{m:Nat}(hm':m<=50) (g:Nat->Nat->Bool):bO (cL m g) " "=eX m g:=by
 refine QB λv hv=>?_
 rcases aho.mp hv with rfl|hv
 ·exact(Jo m (by omega)).1
 ·obtain⟨i,hi,rfl⟩:=ahw.mp hv;rw[qg];intro h;obtain⟨k,_,e⟩:=ahw.mp h;unfold gK at e;split at e<;>omega
theorem AD{m p:Nat}(g:Nat->Nat->Bool) (h1:1<=p) (hp:p<m):(eX m g)[p]? = ζ (dY g p):=by
 obtain⟨q,rfl⟩:∃q,p=q+1:=⟨p-1,by omega⟩
 show((List.range' 1 (m-1)).map (dY g))[q]? = _;rw[ahS,akc (by omega)]
 simp[Nat.add_comm]
theorem HQ:∀ss:List Str,mV (ss.map D.str)=ζ ss
 |[]=>rfl
 |x::ss=>by
  have:=HQ ss;show(mV (ss.map D.str)).map (x :: ·)=_;rw[this];rfl
theorem Dn{dO da:af}{e:Ev}{c:aa}{s:Str}{ss:List Str}{y:D}(h1:dO e c=.ok (.str s) c) (h2:da e c=.ok y c) (hy:dB c y=ζ (ss.map D.str)) (hl:(ss.map λp=>p.length+s.length).sum<=10000):fO dO da e c=.ok (.str (dH s ss)) c:=by
 unfold fO;rw[h1];simp only[R.aA];rw[h2];simp only[R.aA];rw[hy,ajl,HQ];dsimp only;have h3:10000<Ω:=iC;have h4:=Kq (s:=s) (ss:=ss);rw[if_pos ⟨Xx hl,by omega⟩]
theorem Rk(l:List Nat):(((l.map λa=>(⟨#[a]⟩:Str))).map λp=>p.length+Str.length "").sum=l.length:=by
 have h:Str.length ""=0:=by rw[Ji];rfl
 rw[h,ahR]
 induction l with
 |nil=>rfl
 |cons a l ih=>rw[aht,ai2,ih,ahu];show 1+0+l.length=_;omega
theorem Z3{da:af}{e:Ev}{c:aa}{l:List Nat}(h2:da e c=.ok (.lst (l.map λa=>D.str ⟨#[a]⟩)) c) (hl:l.length<=10000):fO (dC (.str "")) da e c=.ok (.str (xu l)) c:=by
 have h:=Dn (dO:=dC (.str "")) (da:=da) (e:=e) (c:=c) (s:="") (ss:=l.map λa=>(⟨#[a]⟩:Str)) (y:=.lst (l.map λa=>D.str ⟨#[a]⟩)) rfl h2 (by show ζ _=ζ _;rw[ahR];rfl) (by rw[Rk];exact hl)
 rw[ZZ]at h;exact h
theorem jW(m:Nat):aL 1 (m:Int)=nD (List.range' 1 (m-1)):=by
 have:=R5 0 m
 simpa using this
theorem xj{d:af}{e:Ev}{c:aa}{m:Nat}(hm:m<=50) (h:d e c=.ok (.int (m:Int)) c):aF fJ (ao d aq) e c=.ok (.str (cE m)) c:=by
 refine eV h ?_;unfold fJ;dsimp only;have:((m:Int)).natAbs.log2<1920:=by
  rw[Int.natAbs_natCast];exact Nat.lt_of_le_of_lt (Nat.log2_le_self _) (by omega)
 rw[if_pos this];rfl
theorem aaa(b:Bool) (c:aa):eY (.str ".#") (.int (if b then 1 else 0)) c=.ok (.str ⟨#[gK b]⟩) c:=by
 have sz:=iC;have h:Str.length ⟨#[46,35]⟩<=Ω:=by show 2<=_;omega
 rw[VS];unfold eY;dsimp only;rw[if_pos h];cases b<;>rfl
def Hq:af:=(au eY (dC (.str ".#")) (aF pD (ao (ak 0) aq)))
def Hr:af:=(br (cS (dW (au aG (ak 0) (ak 2)) cz (cy (ak 2)))) [η] (az 0) aW Hq)
def wY:ah:=(dS (lB (ak 1) (fO (dC (.str "")) Hr)))
theorem ac2{m i:Nat}(g:Nat->Nat->Bool) (hi:i<m):cutD (bZ m g i) η (ζ (i:Int))=(ε i).map λk=>D.bl (g i k):=by
 unfold cutD;rw[HT.RO,HT.RN,Ik,List.drop_zero];have:min i m-0=i:=by omega
 rw[this];unfold bZ;rw[<-aj4,List.take_range];have:min i m=i:=by omega
 rw[this]
theorem Pw{m i:Nat}(g:Nat->Nat->Bool) (hi:i<m) (hm:m<=50) (a1:Option D) (c:aa):Hr [ζ (aK m g),a1,ζ (.int (i:Int))] c=.ok (.lst (((ε i).map λk=>gK (g i k)).map λa=>D.str ⟨#[a]⟩)) c:=by
 have sz:=iC;have hs:dW (au aG (ak 0) (ak 2)) cz (cy (ak 2)) [ζ (aK m g),a1,ζ (.int (i:Int))] c=.ok (.lst ((ε i).map λk=>D.bl (g i k))) c:=by
  have h1:au aG (ak 0) (ak 2) [ζ (aK m g),a1,ζ (.int (i:Int))] c=.ok (.lst (bZ m g i)) c:=cT (x:=aK m g) (y:=.int (i:Int)) rfl rfl (PX g hi c);have h2:cy (ak 2) [ζ (aK m g),a1,ζ (.int (i:Int))] c=.ok (ζ (i:Int)) c:=rfl;have h3:cz [ζ (aK m g),a1,ζ (.int (i:Int))] c=.ok η c:=rfl;rw[N7,h1];simp only[R.aA];rw[h3];simp only[R.aA];rw[h2];simp only[R.aA];show R.ok (D.lst (cutD (bZ m g i) η (ζ (i:Int)))) c=_;rw[ac2 g hi]
 have gy:=nN (c:=c) (st:=λ_=>True) (E:=[]) (t:=aW) (a:=Hq) trivial (λk:Nat=>D.bl (g i k)) (λk:Nat=>D.str ⟨#[gK (g i k)]⟩) (ε i) η [] (λ_ _=>rfl) (λk _=>cT (f:=eY) (x:=.str ".#") (y:=.int (if g i k then 1 else 0)) rfl (eV (f:=pD) (d1:=ak 0) (x:=.bl (g i k)) rfl rfl) (aaa _ c))
 rw[ahy]at gy;have h:=lC (pick:=[η]) (e:=[ζ (aK m g),a1,ζ (.int (i:Int))]) (HZ hs) (by simp;omega) gy
 refine h.trans ?_;rw[ahR];rfl
theorem HY(c:aa) (x y:Cell):(c++[x]).set c.length y=c++[y]:=by
 rw[akS _ _ (ahn _)];simp
def iN(m:Nat) (g:Nat->Nat->Bool) (k:Nat):List Str:=cE m::(List.range' 1 k).map (dY g)
theorem Ol(m:Nat) (g:Nat->Nat->Bool) (k:Nat):iN m g (k+1)=iN m g k++[dY g (1+k)]:=by
 unfold iN;rw[ak1,aiQ];simp
theorem Pu{m i:Nat}{ss:List Str}{c:aa}(g:Nat->Nat->Bool) (hi:i<m) (hm:m<=50) (hs:ss.length<=1000):wY [ζ (aK m g),ζ (.ref c.length),ζ (.int (i:Int))] (c++[.lst (ss.map D.str)])=.ok (.nx [ζ (aK m g),ζ (.ref c.length),ζ (.int (i:Int))]) (c++[.lst ((ss++[dY g i]).map D.str)]):=by
 have hc:=Pw g hi hm (ζ (.ref c.length)) (c++[.lst (ss.map D.str)]);have hj:=Z3 hc (by simp;omega)
 have h:=LO (aew (dO:=ak 1) (k:=c.length) (acc:=ss.map D.str) (v:=.str (dY g i)) rfl hj (by simp) (by rw[ahr];omega) rfl)
 rw[HY]at h;rw[aiQ];exact h
theorem Il{m i:Nat}{x:D}(h:(aL 1 (m:Int))[i]? = ζ x):1+i<m/\x=.int ((1+i:Nat):Int):=by
 rw[jW]at h;unfold nD at h;rw[ahS]at h
 by_cases hi:i<m-1
 ·rw[akc hi]at h;simp at h;refine⟨by omega,?_⟩
  rw[<-h]
  all_goals first|(congr 1;done)|(congr 1;omega)
 ·rw[aid (by simp;omega)]at h
  cases h
theorem PR{m:Nat}(g:Nat->Nat->Bool) (h1:1<=m) (hm:m<=50) (c:aa):rY [aK m g] c=.ok (.str (cL m g)) c:=by
 have sz:=iC;have hlen:∀(e:Ev) (c:aa),e[0]? = ζ (ζ (aK m g))->aF aT (ao (ak 0) aq) e c=.ok (.int (m:Int)) c:=λe c he=>by
  refine eV (x:=aK m g) ?_ ?_
  ·show(match e[0]? with|some (ζ d)=>R.ok d c|_=>.bad)=_
   rw[he]
  ·exact len_tab m g c
 have hlm:er (ao (aF fJ (ao (aF aT (ao (ak 0) aq)) aq)) aq) [ζ (aK m g),η,η] c=.ok (.ref c.length) (c++[.lst ((iN m g 0).map D.str)]):=by
  have hn:=xj hm (hlen [ζ (aK m g),η,η] c rfl);unfold er;rw[bJ,hn];simp only[R.aA,bI];rw[if_pos ⟨by show 1<=Ω;omega,rfl⟩]
  rfl
 have e1:aE 1 (er (ao (aF fJ (ao (aF aT (ao (ak 0) aq)) aq)) aq)) [ζ (aK m g),η,η] c=.ok (.nx [ζ (aK m g),ζ (.ref c.length),η]) (c++[.lst ((iN m g 0).map D.str)]):=jx (i:=1) hlm;have hl1:(aL 1 (m:Int)).length=m-1:=by rw[jW];simp[nD]
 obtain⟨e',c',⟨w2,rfl,rfl⟩,hf⟩:=lg (g:=az 2) (s:=wY) (λk e c'=>∃w2,e=[ζ (aK m g),ζ (.ref c.length),w2]/\c'=c++[.lst ((iN m g k).map D.str)])
  (aL 1 (m:Int)) 0 [ζ (aK m g),ζ (.ref c.length),η] (c++[.lst ((iN m g 0).map D.str)]) ⟨_,rfl,rfl⟩ (λi x hx e c' ⟨w2,he,hc⟩=>by
   subst he;subst hc;obtain⟨hlt,rfl⟩:=Il hx;have hs:(iN m g (0+i)).length<=1000:=by simp[iN];omega
   refine⟨_,_,_,_,rfl,Pu g hlt hm hs,_,rfl,?_⟩;rw[Ol,ahZ])
 rw[hl1,ahZ]at hf;have e2:bU (cY (ao (dC (.int 1)) (ao (aF aT (ao (ak 0) aq)) aq))) (az 2) wY [ζ (aK m g),ζ (.ref c.length),η] (c++[.lst ((iN m g 0).map D.str)])=_:=vE (rD (d1:=dC (.int 1)) (p:=1) (q:=(m:Int)) rfl (hlen _ _ rfl) (by omega) (by omega)) hf
 have hj:=Dn (dO:=dC (.str " ")) (da:=ak 1) (s:=" ") (ss:=eX m g) (e:=[ζ (aK m g),ζ (.ref c.length),w2]) (c:=c++[.lst ((iN m g (m-1)).map D.str)]) (y:=.ref c.length) rfl rfl (by
  show(match(c++[Cell.lst ((iN m g (m-1)).map D.str)])[c.length]? with|some (.lst l)=>ζ l|none=>η)=_
  rw[ahW (ahn _)];simp;rfl) (Oj h1 hm g)
 have hb:pP=aD (aE 1 (er (ao (aF fJ (ao (aF aT (ao (ak 0) aq)) aq)) aq))) (aD (bU (cY (ao (dC (.int 1)) (ao (aF aT (ao (ak 0) aq)) aq))) (az 2) wY) (aP (fO (dC (.str " ")) (ak 1)))):=rfl;have es:cH 3 [aK m g]=[ζ (aK m g),η,η]:=rfl;have hr:=uT (n:=3) (b:=pP) (xs:=[aK m g]) (c:=c) (c':=c++[.lst ((iN m g (m-1)).map D.str)]) (v:=.str (cL m g)) (by
  rw[es,hb,bf e1,bf e2];exact iO hj) rfl (λk h=>by cases h)
 rw[ajt]at hr;exact hr
theorem ace(b:Bool) (c:aa):bT (.str ⟨#[gK b]⟩) (.str "#") c=.ok (.bl b) c:=by
 rw[uZ];cases b<;>rfl
theorem adL(g:Nat->Nat->Bool) (i:Nat):(dM (dY g i) "#").length+(dM (dY g i) ".").length=i:=by
 rw[uZ,BI,kM,kM,uw,qg];have e:(ε i).filter (λk=>decide (((ε i).map λk=>gK (g i k))[k]? = ζ 46))=(ε i).filter λk=>!decide (((ε i).map λk=>gK (g i k))[k]? = ζ 35):=by
  refine ajv λk hk=>?_
  rw[ahH]at hk;rw[ahS,ai1 hk];show decide (ζ (gK (g i k))=ζ 46) = !decide (ζ (gK (g i k))=ζ 35);cases g i k<;>rfl
 rw[e];have:=(List.filter_append_perm (λk=>decide (((ε i).map λk=>gK (g i k))[k]? = ζ 35)) (ε i)).length_eq
 rw[ahC,aiP]at this;exact this
theorem aae{i:Nat}(g:Nat->Nat->Bool) (hi:i<=50) (c:aa):oZ [.str (dY g i),.int (i:Int)] c=.ok (.bl Θ) c:=by
 have sz:=iC;have h1:au bT (aF aT (ao (ak 0) aq)) (ak 1) [ζ (.str (dY g i)),ζ (.int (i:Int))] c=.ok (.bl Θ) c:=by
  refine cT (x:=.int (i:Int)) (y:=.int (i:Int)) (eV (x:=.str (dY g i)) rfl ?_) rfl ?_
  ·show(if(dY g i).length<=Ω then R.ok (D.int ((dY g i).length:Nat)) c else .bad)=_
   rw[uw,if_pos (by omega)]
  ·show R.ok (D.bl (decide ((i:Int)=(i:Int)))) c=_;rw[decide_eq_true rfl]
 have vA:∀z:Str,jO (ak 0) (dC (.str z)) [ζ (.str (dY g i)),ζ (.int (i:Int))] c=.ok (.int ((dM (dY g i) z).length:Nat)) c:=λz=>rfl
 have h2:au bT (au aX (jO (ak 0) (dC (.str "#"))) (jO (ak 0) (dC (.str ".")))) (ak 1) [ζ (.str (dY g i)),ζ (.int (i:Int))] c=.ok (.bl Θ) c:=by
  refine cT (x:=.int (i:Int)) (y:=.int (i:Int)) (cT (vA "#") (vA ".") ?_) rfl ?_
  ·show R.ok (D.int (((dM (dY g i) "#").length:Nat)+((dM (dY g i) ".").length:Nat))) c=_;have:=adL g i;rw[show(((dM (dY g i) "#").length:Int)+((dM (dY g i) ".").length:Int))=(i:Int) by omega]
  ·show R.ok (D.bl (decide ((i:Int)=(i:Int)))) c=_;rw[decide_eq_true rfl]
 exact jY (n:=2) (iO (and_true h1 h2)) rfl (λk h=>by cases h)
def cQ(m:Nat) (g:Nat->Nat->Bool):D:=.lst ((eX m g).map D.str)
theorem B0{m:Nat}(h1:1<=m) (g:Nat->Nat->Bool) (c:aa):aT [cQ m g] c=.ok (.int (m:Int)) c:=by
 show R.ok (D.int (((eX m g).map D.str).length:Nat)) c=_;rw[ahr,jU h1]
theorem Ks{m p:Nat}(g:Nat->Nat->Bool) (h1:1<=p) (hp:p<m) (c:aa):aG (cQ m g) (.int (p:Int)) c=.ok (.str (dY g p)) c:=by
 show aG (.lst ((eX m g).map D.str)) (.int (p:Int)) c=_;rw[gU,ko (v:=D.str (dY g p)) (by rw[ahS,AD g h1 hp];rfl)]
def tW:af:=(aC 2 oZ (ao (au aG (ak 1) (ak 0)) (ao (ak 0) aq)))
theorem aet{m:Nat}(g:Nat->Nat->Bool) (h1:1<=m) (hm:m<=50) (c:aa):nu [cQ m g] c=.ok (.bl Θ) c:=by
 have sz:=iC;have e1:aE 1 (aF aT (ao (ak 0) aq)) [ζ (cQ m g),η] c=.ok (.nx [ζ (cQ m g),ζ (.int (m:Int))]) c:=jc (i:=1) (eV (x:=cQ m g) rfl (B0 h1 g c));have t1:aJ (au gX (ak 1) (dC (.int 50))) [ζ (cQ m g),ζ (.int (m:Int))] c=.ok Γ c:=by
  refine gb (cT (x:=.int (m:Int)) (y:=.int 50) rfl rfl ?_);show R.ok (D.bl (decide ((m:Int)>50))) c=_;rw[decide_eq_false (by omega)]
 have t2:aJ (au cU (au aG (ak 0) (dC (.int 0))) (aF fJ (ao (ak 1) aq))) [ζ (cQ m g),ζ (.int (m:Int))] c=.ok Γ c:=by
  refine gb (cT (x:=.str (cE m)) (y:=.str (cE m)) (cT (x:=cQ m g) (y:=.int ((0:Nat):Int)) rfl rfl (by show aG (.lst ((eX m g).map D.str)) (.int ((0:Nat):Int)) c=_;rw[gU,ko (v:=D.str (cE m)) rfl])) (xj hm rfl) ?_)
  show R.ok (D.bl (!decide (cE m=cE m))) c=_;rw[decide_eq_true rfl];rfl
 have e2:bz (fG (aJ (au gX (ak 1) (dC (.int 50)))) (aJ (au cU (au aG (ak 0) (dC (.int 0))) (aF fJ (ao (ak 1) aq))))) (aP (dC (.bl Γ))) bL [ζ (cQ m g),ζ (.int (m:Int))] c=.ok (.nx [ζ (cQ m g),ζ (.int (m:Int))]) c:=ny (Jb t1 t2);have gy:=nN (c:=c) (st:=λ_=>True) (E:=[ζ (cQ m g)]) (t:=aW) (a:=tW) trivial (λk:Nat=>D.int (k:Int)) (λ_:Nat=>D.bl Θ) (List.range' 1 (m-1)) η [] (λ_ _=>rfl) (λk hk=>by
  rw[aia]at hk;exact nQ (m:=oZ) (cT (x:=cQ m g) (y:=.int (k:Int)) rfl rfl (Ks g (by omega) (by omega) c)) (d2:=ak 0) rfl (aae g (by omega) c))
 rw[ahy]at gy;have hrl:(aL 1 (m:Int)).length<Ω:=by rw[jW];simp[nD];omega
 have pG:bC (λ_=>True) (az 0) aW tW (aL 1 (m:Int)) [η,ζ (cQ m g)] [] c=.ok ((List.range' 1 (m-1)).map λ_=>D.bl Θ) c:=by rw[jW];exact gy
 have hcc:=lC (pick:=[η,ζ 0]) (e:=[ζ (cQ m g),ζ (.int (m:Int))]) (rD (d1:=dC (.int 1)) (d2:=ak 1) (p:=1) (q:=(m:Int)) rfl rfl (by omega) (by omega)) hrl pG
 have hA:=eV (f:=gS) hcc (all_true _ c);refine jY (n:=2) (b:=lH) ?_ rfl (λk h=>by cases h)
 have hb:lH=aD (aE 1 (aF aT (ao (ak 0) aq))) (aD (bz (fG (aJ (au gX (ak 1) (dC (.int 50)))) (aJ (au cU (au aG (ak 0) (dC (.int 0))) (aF fJ (ao (ak 1) aq))))) (aP (dC (.bl Γ))) bL) (aP (aF gS (ao (br (cY (ao (dC (.int 1)) (ao (ak 1) aq))) [η,ζ 0] (az 0) aW tW) aq)))):=rfl;have es:cH 2 [cQ m g]=[ζ (cQ m g),η]:=rfl;rw[es,hb,bf e1,bf e2];exact iO hA
def oK(g:Nat->Nat->Bool) (p:Nat):List (Nat×Nat):=((ε p).filter (g p)).map λb=>(b,p)
def gr(g:Nat->Nat->Bool) (k:Nat):List (Nat×Nat):=(List.range' 1 k).flatMap (oK g)
theorem IK(g:Nat->Nat->Bool) (k:Nat):gr g (k+1)=gr g k++oK g (1+k):=by
 unfold gr;rw[ak1,akQ];simp
theorem IJ(g:Nat->Nat->Bool) (p:Nat):(oK g p).length<=p:=by
 unfold oK;rw[ahr];exact ahB (akd _ _) (by simp)
theorem IL(g:Nat->Nat->Bool):∀k,2*(gr g k).length<=k*(k+1)
 |0=>by simp[gr]
 |k+1=>by
  have h1:=IL g k;have h2:=IJ g (1+k);rw[IK,ahC];have:(k+1)*(k+1+1)=k*(k+1)+2*(k+1):=by rw[Nat.mul_add,Nat.mul_comm (k+1) (k+1),Nat.add_mul];omega
  omega
theorem IM(g:Nat->Nat->Bool) (k:Nat) (h:k<=49):(gr g k).length<=1225:=by
 have h1:=IL g k;have h2:k*(k+1)<=49*50:=ait h (by omega)
 omega
theorem Uk{m:Nat}{g:Nat->Nat->Bool}(hg:gZ g):zW m g (gr g (m-1)):=by
 constructor
 ·intro p hp;obtain⟨q,hq,h⟩:=aju.mp hp;obtain⟨b,hb,rfl⟩:=ahw.mp h;rw[aia]at hq;rw[aiu,ahH]at hb;refine⟨by show b<m;omega,by show q<m;omega,by show b≠q;omega,?_⟩
  show g b q=Θ;rw[hg.2];exact hb.2
 ·intro a b hab hb h
  left
  refine aju.mpr ⟨b,by rw[aia];omega,ahw.mpr ⟨a,?_,rfl⟩⟩
  rw[aiu,ahH];exact⟨hab,by rw[hg.2];exact h⟩
def Bv:ai:=(aJ (au bT (au eY (au aG (ak 2) (ak 1)) (ak 0)) (dC (.str "#"))))
def Bw:af:=(cX (ao (ak 0) (ao (ak 1) aq)))
def xP:ah:=(dS (d8 (ak 1) (br (bG (ao (ak 2) aq)) [η,ζ 2,ζ 0] (az 0) Bv Bw)))
theorem Uh{m p:Nat}{qs:List (Nat×Nat)}{c:aa}(g:Nat->Nat->Bool) (h1:1<=p) (hp:p<m) (hm:m<=50) (hq:qs.length<=5000):xP [ζ (cQ m g),ζ (.ref c.length),ζ (.int (p:Int))] (c++[.lst (qs.map bg)])=.ok (.nx [ζ (cQ m g),ζ (.ref c.length),ζ (.int (p:Int))]) (c++[.lst ((qs++oK g p).map bg)]):=by
 have sz:=iC
 generalize hC:c++[Cell.lst (qs.map bg)]=C
 have gy:=nK (E:=[ζ (.int (p:Int)),ζ (cQ m g)]) (t:=Bv) (a:=Bw) (c:=C) (λo:Nat=>D.int (o:Int)) (λo=>bg (o,p)) (g p) (ε p) η [] (λo ho=>by
  rw[ahH]at ho;have hix:eY (.str (dY g p)) (.int (o:Int)) C=.ok (.str ⟨#[gK (g p o)]⟩) C:=by
   unfold eY;dsimp only;rw[if_pos (by rw[uw];omega),qg,ko (v:=gK (g p o)) (by rw[ahS,ai1 ho];rfl)]
  exact gb (cT (cT (cT (x:=cQ m g) (y:=.int (p:Int)) rfl rfl (Ks g h1 hp C)) (y:=.int (o:Int)) rfl hix) (y:=.str "#") rfl (ace (g p o) C))) (λo ho _=>Hu rfl rfl)
 rw[ahy]at gy;have pG:bC (λ_=>True) (az 0) Bv Bw (aL 0 (p:Int)) [η,ζ (.int (p:Int)),ζ (cQ m g)] [] C=.ok ((oK g p).map bg) C:=by
  rw[uS];refine Eq.trans gy ?_;unfold oK;rw[ahR];rfl
 have hcc:=lC (pick:=[η,ζ 2,ζ 0]) (e:=[ζ (cQ m g),ζ (.ref c.length),ζ (.int (p:Int))]) (Bq (d:=ak 2) (q:=(p:Int)) rfl (by omega)) (B3 (by omega)) pG
 have hl:=IJ g p;have h:=LO (ab0 (dO:=ak 1) (k:=c.length) (acc:=qs.map bg) rfl hcc (by rw[<-hC];simp) (by rw[ahr,ahr];omega) (Jz _))
 rw[<-hC,HY]at h;rw[aiQ,<-hC];exact h
theorem UU{m:Nat}(g:Nat->Nat->Bool) (h1:1<=m) (hm:m<=50) (c:aa):vg [cQ m g] c=.ok (.lst ((gr g (m-1)).map bg)) c:=by
 have sz:=iC;have hl1:(aL 1 (m:Int)).length=m-1:=by rw[jW];simp[nD]
 have e1:aE 1 (er aq) [ζ (cQ m g),η,η] c=.ok (.nx [ζ (cQ m g),ζ (.ref c.length),η]) (c++[.lst ((gr g 0).map bg)]):=jx (i:=1) (by
  unfold er;rw[bI];simp only[R.aA];rw[if_pos ⟨by show 0<=Ω;omega,rfl⟩]
  rfl)
 obtain⟨e',c',⟨w2,rfl,rfl⟩,hf⟩:=lg (g:=az 2) (s:=xP) (λk e c'=>∃w2,e=[ζ (cQ m g),ζ (.ref c.length),w2]/\c'=c++[.lst ((gr g k).map bg)])
  (aL 1 (m:Int)) 0 [ζ (cQ m g),ζ (.ref c.length),η] (c++[.lst ((gr g 0).map bg)]) ⟨_,rfl,rfl⟩ (λi x hx e c' ⟨w2,he,hc⟩=>by
   subst he;subst hc;obtain⟨hlt,rfl⟩:=Il hx;rw[ahZ];have hs:(gr g i).length<=5000:=by have:=IM g i (by omega);omega
   refine⟨_,_,_,_,rfl,Uh g (by omega) hlt hm hs,_,rfl,?_⟩
   rw[IK])
 rw[hl1,ahZ]at hf;have hlen:aF aT (ao (ak 0) aq) [ζ (cQ m g),ζ (.ref c.length),η] (c++[.lst ((gr g 0).map bg)])=.ok (.int (m:Int)) (c++[.lst ((gr g 0).map bg)]):=eV (x:=cQ m g) rfl (B0 h1 g _);have e2:bU (cY (ao (dC (.int 1)) (ao (aF aT (ao (ak 0) aq)) aq))) (az 2) xP [ζ (cQ m g),ζ (.ref c.length),η] (c++[.lst ((gr g 0).map bg)])=_:=vE (rD (d1:=dC (.int 1)) (p:=1) (q:=(m:Int)) rfl hlen (by omega) (by omega)) hf
 have hb:nS=aD (aE 1 (er aq)) (aD (bU (cY (ao (dC (.int 1)) (ao (aF aT (ao (ak 0) aq)) aq))) (az 2) xP) (aP (ak 1))):=rfl;have es:cH 3 [cQ m g]=[ζ (cQ m g),η,η]:=rfl;have hr:nS (cH 3 [cQ m g]) c=.ok (.rt (.ref c.length)) (c++[.lst ((gr g (m-1)).map bg)]):=by
  rw[es,hb,bf e1,bf e2];exact iO rfl
 show cB 3 Γ nS [cQ m g] c=_;rw[i8,hr];simp only[R.aA];show dF Γ c.length (.ref c.length) (c++[.lst ((gr g (m-1)).map bg)])=_;simp[dF]
structure fy (s:Str):Prop where
 sg:∀a∈s.cps.toList,a<128
 len:s.length<=2000
theorem fy.all{s:Str}(h:fy s):(s.cps.all λc=>decide (c<128))=Θ:=by
 rw[<-ak2];exact ahQ.mpr λa ha=>decide_eq_true (h.sg a ha)
theorem fy.ok{s:Str}(h:fy s):PyData.strOk s=Θ:=by
 unfold PyData.strOk;rw[<-ak2];exact ahQ.mpr λa ha=>decide_eq_true (by have:=h.sg a ha;omega)
theorem Qx{x:Str}{i j:Nat}{a:Nat}(h:a∈(x.cps.toList.drop i).take (j-i)):a∈x.cps.toList:=ajV (ahU h)
theorem HW{x p:Str}(h:p∈bO x " "):(∀a∈p.cps.toList,a∈x.cps.toList)/\p.length<=x.length:=by
 rw[kJ,Bb]at h;have hm:p.cps.toList∈(Builtin.Str.partsBetween x (dM x ⟨#[32]⟩) 1).map (λp=>p.cps.toList):=ahw.mpr ⟨p,h,rfl⟩
 rw[I0]at hm;obtain⟨q,_,e⟩:=ahw.mp hm;refine⟨λa ha=>?_,?_⟩
 ·rw[<-e]at ha;exact Qx ha
 ·have:p.length=p.cps.toList.length:=by rw[aik];rfl
  rw[this,<-e,aix,ai6,aik];show min _ (x.length-_)<=x.length;omega
theorem aiR(x:Str):(bO x " ").length=(dM x ⟨#[32]⟩).length+1:=by
 rw[kJ,Bb];unfold Builtin.Str.partsBetween;simp
theorem yg(x:Str) (a:Nat):(dM x ⟨#[a]⟩).length<=x.length:=by
 rw[kM];exact ahB (akd _ _) (by simp)
theorem fy.piece{x p:Str}(h:fy x) (hp:p∈bO x " "):fy p:=⟨λa ha=>h.sg a ((HW hp).1 a ha),ahB (HW hp).2 h.len⟩
theorem xq{d:af}{e:Ev}{c:aa}{x:Str}(h:d e c=.ok (.str x) c) (hx:fy x):iW d (dC (.str " ")) e c=.ok (.lst ((bO x " ").map D.str)) c:=by
 have sz:=ia;unfold iW;rw[h,R.aA];show(if((Str.length " ")==0)=Γ/\x.length<=Ω/\(bO x " ").length<=Ω then R.ok (D.lst ((bO x " ").map D.str)) c else .bad)=_
 have h1:=hx.len;have h2:=yg x 32;rw[if_pos ⟨by rw[kJ];rfl,by omega,by rw[aiR];omega⟩]
def iB(w:Str) (p:Nat):Bool:=decide (w.length=p)&&decide ((dM w "#").length+(dM w ".").length=p)
theorem yD{w:Str}(h:fy w) (c:aa):aT [.str w] c=.ok (.int (w.length:Int)) c:=by
 have sz:=ia;have:=h.len;show(if w.length<=Ω then R.ok (D.int (w.length:Nat)) c else .bad)=_
 rw[if_pos (by omega)]
theorem aaf{w:Str}(hw:fy w) (p:Nat) (c:aa):oZ [.str w,.int (p:Int)] c=.ok (.bl (iB w p)) c:=by
 have h1:au bT (aF aT (ao (ak 0) aq)) (ak 1) [ζ (.str w),ζ (.int (p:Int))] c=.ok (.bl (decide (w.length=p))) c:=by
  refine cT (x:=.int (w.length:Int)) (y:=.int (p:Int)) (eV (x:=.str w) rfl (yD hw c)) rfl ?_;show R.ok (D.bl (decide ((w.length:Int)=(p:Int)))) c=_
  congr 2
  rw[decide_eq_decide];omega
 have vA:∀z:Str,jO (ak 0) (dC (.str z)) [ζ (.str w),ζ (.int (p:Int))] c=.ok (.int ((dM w z).length:Nat)) c:=λz=>rfl
 have h2:au bT (au aX (jO (ak 0) (dC (.str "#"))) (jO (ak 0) (dC (.str ".")))) (ak 1) [ζ (.str w),ζ (.int (p:Int))] c=.ok (.bl (decide ((dM w "#").length+(dM w ".").length=p))) c:=by
  refine cT (x:=.int (((dM w "#").length:Int)+((dM w ".").length:Int))) (y:=.int (p:Int)) (cT (vA "#") (vA ".") rfl) rfl ?_;show R.ok (D.bl (decide ((((dM w "#").length:Int)+((dM w ".").length:Int))=(p:Int)))) c=_
  congr 2
  rw[decide_eq_decide];omega
 refine jY (n:=2) (b:=tT) ?_ rfl (λk h=>by cases h)
 show aP (fY (au bT (aF aT (ao (ak 0) aq)) (ak 1)) (au bT (au aX (jO (ak 0) (dC (.str "#"))) (jO (ak 0) (dC (.str ".")))) (ak 1))) [ζ (.str w),ζ (.int (p:Int))] c=_;refine iO ?_;rw[Og,h1,R.aA];unfold iB;cases decide (w.length=p)with
 |true=>exact h2
 |false=>rfl
def bM(W:List Str) (p:Nat):Str:=W.getD p ""
def AF(W:List Str):Bool:=(List.range' 1 (W.length-1)).all λp=>iB (bM W p) p
def fQ(W:List Str):Bool:=decide (W.length<=50)&&(decide (bM W 0=cE W.length)&&AF W)
theorem rS{W:List Str}{p:Nat}(h:p<W.length):W[p]? = ζ (bM W p):=by
 unfold bM;rw[aiK,ahI h];rfl
theorem vo{W:List Str}{p:Nat}{N:Int}(hN:N=p) (h:p<W.length) (c:aa):aG (.lst (W.map D.str)) (.int N) c=.ok (.str (bM W p)) c:=Ku hN (by rw[ahS,rS h];rfl) c
theorem all_bools{α:Type}(l:List α) (g:α->Bool) (c:aa):gS [.lst (l.map λd=>D.bl (g d))] c=.ok (.bl (l.all g)) c:=by
 have hm:(l.map λd=>D.bl (g d))=(l.map g).map D.bl:=by rw[ahR];rfl
 rw[hm];unfold gS m8;dsimp only;rw[zT];simp only[];rw[List.all_map];rfl
theorem Gg{W:List Str}(h0:1<=W.length) (hl:W.length<=3000) (hA:∀w∈W,fy w) (c:aa):nu [.lst (W.map D.str)] c=.ok (.bl (fQ W)) c:=by
 have sz:=ia;have hlen:aT [.lst (W.map D.str)] c=.ok (.int (W.length:Int)) c:=by
  show R.ok (D.int ((W.map D.str).length:Nat)) c=_;rw[ahr]
 have hb:lH=aD (aE 1 (aF aT (ao (ak 0) aq))) (aD (bz (fG (aJ (au gX (ak 1) (dC (.int 50)))) (aJ (au cU (au aG (ak 0) (dC (.int 0))) (aF fJ (ao (ak 1) aq))))) (aP (dC (.bl Γ))) bL) (aP (aF gS (ao (br (cY (ao (dC (.int 1)) (ao (ak 1) aq))) [η,ζ 0] (az 0) aW tW) aq)))):=rfl;have e1:aE 1 (aF aT (ao (ak 0) aq)) [ζ (.lst (W.map D.str)),η] c=.ok (.nx [ζ (.lst (W.map D.str)),ζ (.int (W.length:Int))]) c:=jc (i:=1) (eV (x:=.lst (W.map D.str)) rfl hlen);refine jY (n:=2) (b:=lH) ?_ rfl (λk h=>by cases h)
 rw[show cH 2 [D.lst (W.map D.str)]=[ζ (.lst (W.map D.str)),η]from rfl,hb,bf e1]
 by_cases q1:W.length<=50
 ·have t1:aJ (au gX (ak 1) (dC (.int 50))) [ζ (.lst (W.map D.str)),ζ (.int (W.length:Int))] c=.ok Γ c:=by
   refine gb (cT (x:=.int (W.length:Int)) (y:=.int 50) rfl rfl ?_);show R.ok (D.bl (decide ((W.length:Int)>50))) c=_;rw[decide_eq_false (by omega)]
  have t2:aJ (au cU (au aG (ak 0) (dC (.int 0))) (aF fJ (ao (ak 1) aq))) [ζ (.lst (W.map D.str)),ζ (.int (W.length:Int))] c=.ok (!decide (bM W 0=cE W.length)) c:=by
   refine gb (cT (x:=.str (bM W 0)) (y:=.str (cE W.length)) (cT (x:=.lst (W.map D.str)) (y:=.int 0) rfl rfl (vo (p:=0) rfl (by omega) c)) (xj q1 rfl) ?_)
   rfl
  have HM:fG (aJ (au gX (ak 1) (dC (.int 50)))) (aJ (au cU (au aG (ak 0) (dC (.int 0))) (aF fJ (ao (ak 1) aq)))) [ζ (.lst (W.map D.str)),ζ (.int (W.length:Int))] c=.ok (!decide (bM W 0=cE W.length)) c:=by
   rw[wI,t1,R.aA,if_neg (by decide),t2]
  by_cases q2:bM W 0=cE W.length
  ·have e2:bz (fG (aJ (au gX (ak 1) (dC (.int 50)))) (aJ (au cU (au aG (ak 0) (dC (.int 0))) (aF fJ (ao (ak 1) aq))))) (aP (dC (.bl Γ))) bL [ζ (.lst (W.map D.str)),ζ (.int (W.length:Int))] c=.ok (.nx [ζ (.lst (W.map D.str)),ζ (.int (W.length:Int))]) c:=ny (by rw[HM,decide_eq_true q2];rfl)
   have gy:=nN (c:=c) (st:=λ_=>True) (E:=[ζ (.lst (W.map D.str))]) (t:=aW) (a:=tW) trivial (λk:Nat=>D.int (k:Int)) (λk:Nat=>D.bl (iB (bM W k) k)) (List.range' 1 (W.length-1)) η [] (λ_ _=>rfl) (λk hk=>by
    rw[aia]at hk;exact nQ (m:=oZ) (cT (x:=.lst (W.map D.str)) (y:=.int (k:Int)) rfl rfl (vo rfl (by omega) c)) (d2:=ak 0) rfl (aaf (hA _ (ahP (rS (by omega)))) k c))
   rw[ahy]at gy;have hrl:(aL 1 (W.length:Int)).length<Ω:=by rw[jW];simp[nD];omega
   have pG:bC (λ_=>True) (az 0) aW tW (aL 1 (W.length:Int)) [η,ζ (.lst (W.map D.str))] [] c=.ok ((List.range' 1 (W.length-1)).map λk=>D.bl (iB (bM W k) k)) c:=by rw[jW];exact gy
   have hcc:=lC (pick:=[η,ζ 0]) (e:=[ζ (.lst (W.map D.str)),ζ (.int (W.length:Int))]) (rD (d1:=dC (.int 1)) (d2:=ak 1) (p:=1) (q:=(W.length:Int)) rfl rfl (by omega) (by omega)) hrl pG
   have hA:=eV (f:=gS) hcc (all_bools _ _ c);rw[bf e2];have:fQ W=AF W:=by unfold fQ;rw[decide_eq_true q1,decide_eq_true q2];rfl
   rw[this];exact iO hA
  ·rw[mL,iK,HM,decide_eq_false q2];have:fQ W=Γ:=by unfold fQ;rw[decide_eq_false q2];simp
   rw[this];rfl
 ·have t1:aJ (au gX (ak 1) (dC (.int 50))) [ζ (.lst (W.map D.str)),ζ (.int (W.length:Int))] c=.ok Θ c:=by
   refine gb (cT (x:=.int (W.length:Int)) (y:=.int 50) rfl rfl ?_);show R.ok (D.bl (decide ((W.length:Int)>50))) c=_;rw[decide_eq_true (by omega)]
  rw[mL,iK,wI,t1];have:fQ W=Γ:=by unfold fQ;rw[decide_eq_false q1];rfl
  rw[this];rfl
def wG(W:List Str) (i k:Nat):Bool:=(decide (k<i)&&decide ((bM W i).cps.toList[k]? = ζ 35))||(decide (i<k)&&decide ((bM W k).cps.toList[i]? = ζ 35))
theorem wO(W:List Str):gZ (wG W):=by
 refine⟨λi=>?_,λi k=>?_⟩
 ·unfold wG;simp
 ·unfold wG;rw[Bool.or_comm]
theorem aek{n:Nat}{p q:Nat->Bool}(hd:∀i,i<n->p i=Θ->q i=Γ) (h:((ε n).filter p).length+((ε n).filter q).length=n):∀i,i<n->p i=Θ\/q i=Θ:=by
 intro i hi;have e:∀l:List Nat,(∀x∈l,x<n)->(l.filter p).length+(l.filter q).length=(l.filter λx=>p x||q x).length:=by
  intro l
  induction l with
  |nil=>intro _;rfl
  |cons x l ih =>
   intro hx;have ih:=ih λy hy=>hx y (.tail _ hy)
   have hxn:=hx x (.head _);simp only[ajs];cases a:p x with
   |true=>rw[hd x hxn a];simp;omega
   |false=>cases b:q x<;>simp<;>omega
 rw[e _ λx hx=>ahH.mp hx]at h
 have h2:(ε n).filter (λx=>p x||q x)=ε n:=by
  apply ake.mpr;have hh:((ε n).filter λx=>p x||q x).length=(ε n).length:=by rw[h];simp
  intro x hx;have:=(ak3.mp hh) x hx;exact this
 have hm:i∈(ε n).filter λx=>p x||q x:=by rw[h2];exact ahH.mpr hi
 simpa using(aiu.mp hm).2
theorem Oo{W:List Str}{p:Nat}(h:iB (bM W p) p=Θ):bM W p=dY (wG W) p:=by
 unfold iB at h;rw[ahL]at h;have h1:(bM W p).length=p:=of_decide_eq_true h.1;have h2:=of_decide_eq_true h.2;rw[uZ,BI,kM,kM,h1]at h2;have hall:=aek (n:=p) (λi _ a=>by
  have a:=of_decide_eq_true a;rw[a];exact decide_eq_false (by simp)) h2
 apply xm;rw[qg];have hsz:(bM W p).cps.toList.length=p:=by rw[aik];exact h1
 apply aj5
 ·simp[hsz]
 ·intro i a b;have hi:i<p:=by omega
  simp only[aj6,aji];have hg:wG W p i=decide ((bM W p).cps.toList[i]? = ζ 35):=by
   unfold wG;rw[decide_eq_true hi,decide_eq_false (show ¬p<i by omega)]
   simp
  rw[hg]
  rcases hall i hi with z|z
  ·rw[z];have z:=of_decide_eq_true z;rw[ahI a]at z;exact ahA z
  ·have z:=of_decide_eq_true z;rw[z];rw[ahI a]at z;have:decide (ζ 46=ζ 35)=Γ:=by decide
   rw[this];exact ahA z
theorem GU{W:List Str}(h0:1<=W.length) (h:fQ W=Θ):W=eX W.length (wG W)/\W.length<=50:=by
 unfold fQ at h;rw[ahL,ahL]at h;obtain⟨h1,h2,h3⟩:=h;have h1:=of_decide_eq_true h1;have h2:=of_decide_eq_true h2;have h3:=ahQ.mp h3;refine⟨?_,h1⟩;have hl:=jU h0 (wG W);apply akb;intro i
 by_cases hi:i<W.length
 ·rw[rS hi];cases i with
  |zero=>rw[h2];rfl
  |succ i =>
   rw[AD (wG W) (by omega) hi]
   rw[Oo (h3 (i+1) (aia.mpr (by omega)))]
 ·rw[aid (by omega),aid (by omega)]
theorem Io{x:Str}(hx:fy x) (h:fQ (bO x " ")=Θ) (c:aa):j7 [.str x] c=.ok (ff (wF (bO x " ").length (wG (bO x " ")))) c:=by
 have sz:=iC;have K2:=aiR x;have hl1:=yg x 32;have Dt:=hx.len;obtain⟨ew,hm⟩:=GU (W:=bO x " ") (by omega) h
 have h1:1<=(bO x " ").length:=by omega
 have hA:∀w∈bO x " ",fy w:=λw hw=>hx.piece hw
 have sD:=Gg (W:=bO x " ") h1 (by omega) hA c
 rw[h]at sD
 generalize hWd:bO x " "=W at *
 have eD:D.lst (W.map D.str)=cQ W.length (wG W):=by
  unfold cQ;rw[<-ew]
 have hg:=wO W;have e0:bz (eO (aJ (aF bN (ao (ak 0) (ao (dC (.ty "str")) aq))))) je bL [ζ (.str x),η] c=.ok (.nx [ζ (.str x),η]) c:=ny (u7 (b:=Θ) (gb rfl));have fF:=xq (d:=ak 0) (e:=[ζ (.str x),η]) (c:=c) rfl hx;rw[hWd]at fF;have e1:aE 1 (iW (ak 0) (dC (.str " "))) [ζ (.str x),η] c=.ok (.nx [ζ (.str x),ζ (.lst (W.map D.str))]) c:=jc (i:=1) fF;have e2:bz (eO (aJ (aC 1 nu (ao (ak 1) aq)))) je bL [ζ (.str x),ζ (.lst (W.map D.str))] c=.ok (.nx [ζ (.str x),ζ (.lst (W.map D.str))]) c:=ny (u7 (b:=Θ) (gb (iX (m:=nu) (d1:=ak 1) rfl sD)));have hP:=Uk (m:=W.length) hg;have hl:=IM (wG W) (W.length-1) (by omega)
 have hw:=Ow (m:=W.length) (c:=c) (X:=.lst ((gr (wG W) (W.length-1)).map bg)) (.inr rfl) hP.ne (by omega) (by omega)
 rw[Ou hP hg]at hw;refine jY (n:=2) (b:=lE) ?_ (mP _) (λk h=>by cases h)
 have hb:lE=aD (bz (eO (aJ (aF bN (ao (ak 0) (ao (dC (.ty "str")) aq))))) je bL) (aD (aE 1 (iW (ak 0) (dC (.str " ")))) (aD (bz (eO (aJ (aC 1 nu (ao (ak 1) aq)))) je bL) (aP (aC 2 vf (ao (aF aT (ao (ak 1) aq)) (ao (aC 1 vg (ao (ak 1) aq)) aq)))))):=rfl;rw[show cH 2 [D.str x]=[ζ (.str x),η]from rfl,hb,bf e0,bf e1,bf e2,eD]
 exact iO (nQ (m:=vf) (eV (x:=cQ W.length (wG W)) rfl (B0 h1 (wG W) c)) (iX (m:=vg) (d1:=ak 1) rfl (UU (wG W) h1 hm c)) hw)
theorem Kh(c:aa):yw [.exc "NoText"] c=.ok (.str "text") c:=by
 have t8:(8:Nat)<=Ω:=by decide
 have Qu:(11:Nat)<=Ω:=by decide
 have abf:=λc=>jI "NoText" "NoDeed" Γ c (by decide +kernel)
 have abe:=λc=>jI "NoText" "NoField" Γ c (by decide +kernel)
 have abd:=λc=>jI "NoText" "NoName" Γ c (by decide +kernel)
 have abc:=λc=>jI "NoText" "NoNumbers" Γ c (by decide +kernel)
 have abb:=λc=>jI "NoText" "NoPlaces" Γ c (by decide +kernel)
 have aba:=λc=>jI "NoText" "NoRow" Γ c (by decide +kernel)
 have aa9:=λc=>jI "NoText" "NoSquare" Γ c (by decide +kernel)
 have aa8:=λc=>jI "NoText" "NoText" Θ c (by decide +kernel)
 have aa7:=λc=>jI "NoText" "NoThing" Γ c (by decide +kernel)
 have aa6:=λc=>jI "NoText" "NoWeb" Γ c (by decide +kernel)
 have aa5:=λc=>jI "NoText" "TooMany" Γ c (by decide +kernel)
 have aa4:=λc=>aac "NoText" c (by decide +kernel)
 have hf:List.findIdx? id [Γ,Γ,Γ,Γ,Γ,Γ,Γ,Θ,Γ,Γ,Γ]=ζ 7:=by decide
 have ha:cM [D.str "deed",D.str "field",D.str "name",D.str "numbers",D.str "places",D.str "row",D.str "square",D.str "text",D.str "thing",D.str "web",D.str "many"] 7=ζ (.str "text"):=rfl;simp[yw,tP,abf,abe,abd,abc,abb,aba,aa9,aa8,aa7,aa6,aa5,aa4,E8,E7,c7,dB,ki,t8,Qu,hf,ha]
theorem KA:("NoText":Str)∈eW:=by decide +kernel
theorem Hx{X v:D}{c:aa}(h:j7 [X] c=.ok v c) (hv:noRef v=Θ) (hr:∀k,v≠.ref k):eL [X] c=.ok v c:=by
 refine jY (n:=2) (b:=lF) ?_ hv hr;have hb:aP (aC 1 j7 (ao (ak 0) aq)) (cH 2 [X]) c=.ok (.rt v) c:=iO (iX (m:=j7) (d1:=ak 0) rfl h);unfold lF rC;rw[hb]
theorem PK{X:D}{c:aa}(h:bN [X,.ty "str"] c=.ok (.bl Γ) c):eL [X] c=.ok (.str "text") c:=by
 have h1:j7 [X] c=.bad:=by simp[j7,lE,h]
 have h2:qe [X] c=.ok "NoText" c:=by simp[qe,vQ,fnX,uq,ur,uv,h]
 simp[eL,lF,rC,h1,wM,h2,KA,Kh]
theorem Hy{x:Str}(hx:fy x) (h:fQ (bO x " ")=Γ) (c:aa):eL [.str x] c=.ok (.str "text") c:=by
 have K2:=aiR x;have hl1:=yg x 32;have Dt:=hx.len;have sD:=Gg (W:=bO x " ") (by omega) (by omega) (λw hw=>hx.piece hw) c
 rw[h]at sD;have hi:bN [.str x,.ty "str"] c=.ok (.bl Θ) c:=rfl;have fF:=xq (d:=ak 0) (e:=[ζ (.str x),η]) (c:=c) rfl hx;have h1:j7 [.str x] c=.bad:=by simp[j7,lE,fF,sD]
 have h2:qe [.str x] c=.ok "NoText" c:=by simp[qe,vQ,fnX,uq,ur,wN,wL,uv,fF,sD]
 simp[eL,lF,rC,h1,wM,h2,KA,Kh]
def AG:ah:=(bz (fG (aJ (au nh (au aG (ak 1) (dC (.int 0))) (br (cY (ao (dC (.int 1)) (ao (dC (.int 51)) aq))) [η] (az 0) aW (aF fJ (ao (ak 0) aq))))) (aJ (au cU (aF pC (ao (au aG (ak 1) (dC (.int 0))) aq)) (aF aT (ao (ak 1) aq))))) (aP (dC .aH)) bL)
def GZ:ah:=(aE 2 (br (cS (ak 1)) [η,ζ 1] (az 0) aW (au iP (bx (ao (dC (.bl Γ)) aq)) (aF aT (ao (ak 1) aq)))))
def mQ:ah:=(aD (bz (fG (aJ (au cU (aF aT (ao (au aG (ak 1) (ak 3)) aq)) (ak 3))) (aJ (au kP (br (pK (au aG (ak 1) (ak 3))) [η] (az 0) (aJ (au kN (ak 0) (dC (.str ".#")))) (ak 0)) (bx aq)))) (aP (dC .aH)) bL) (bU (bG (ao (ak 3) aq)) (az 4) (aD (fS (au bT (au eY (au aG (ak 1) (ak 3)) (ak 4)) (dC (.str "#"))) (fV (au aG (ak 2) (ak 3)) (ak 4))) (fS (au bT (au eY (au aG (ak 1) (ak 3)) (ak 4)) (dC (.str "#"))) (fV (au aG (ak 2) (ak 4)) (ak 3))))))
theorem BO:∀m,m<51->intText? (cE m)=ζ (m:Int):=by decide +kernel
theorem Jp:∀m,m<51->PyData.strOk (cE m)=Θ/\(cE m).length<=640:=by decide +kernel
theorem Xm{a b:Nat}(ha:a<51) (hb:b<51) (h:cE a=cE b):a=b:=by
 have h1:=BO a ha;rw[h,BO b hb]at h1;have:=ahA h1;omega
theorem EC{s:Str}(h:PyData.strOk s=Θ):eT (.str s)=ζ (.str s):=by
 show(if PyData.strOk s=Θ then ζ (PyData.str s)else η)=_
 rw[if_pos h]
theorem LX:∀l:List Nat,(∀m∈l,m<51)->gB (l.map λm=>D.str (cE m))=ζ (l.map λm=>PyData.str (cE m))
 |[],_=>rfl
 |m::l,h=>by
  show(match eT (D.str (cE m)),gB (l.map λm=>D.str (cE m))with|some a,ζ r=>ζ (a::r)|_,_=>η)=_
  rw[EC (Jp m (h m (.head _))).1,LX l λk hk=>h k (.tail _ hk)]
  rfl
theorem notin_nums{w:Str}(hw:fy w) (c:aa):nh (.str w) (.lst ((List.range' 1 50).map λm=>D.str (cE m))) c=.ok (.bl (!(List.range' 1 50).any λm=>decide (w=cE m))) c:=by
 have h1:gR c (.str w)=ζ (.str w):=EC hw.ok;have h2:gR c (.lst ((List.range' 1 50).map λm=>D.str (cE m)))=ζ (.list ((List.range' 1 50).map λm=>PyData.str (cE m))):=by
  show(match gB ((List.range' 1 50).map λm=>D.str (cE m))with|some r=>ζ (PyData.list r)|none=>η)=_
  rw[LX _ λm hm=>by rw[aia]at hm;omega]
 have ha:(((List.range' 1 50).map λm=>PyData.str (cE m)).any λz=>z.eqv (.str w))=(List.range' 1 50).any λm=>decide (w=cE m):=by
  rw[List.any_map]
  congr 1
  funext m
  show(PyData.str (cE m)).eqv (.str w)=_;rw[PyData.eqv]
  by_cases e:cE m=w
  ·subst e;simp
  ·have e':¬w=cE m:=λz=>e z.symm
   simp[e,e']
 unfold nh;rw[h1,h2];simp only[];rw[if_pos (by simp[PyData.depth]),ha]
theorem aaV{W:List Str}(h0:1<=W.length) (hA:fy (bM W 0)) {a0 a2 a3 a4:Option D}(c:aa):AG [a0,ζ (.lst (W.map D.str)),a2,a3,a4] c=if bM W 0=cE W.length/\W.length<=50 then .ok (.nx [a0,ζ (.lst (W.map D.str)),a2,a3,a4]) c else .ok (.rt .aH) c:=by
 have sz:=ia;have hlen:aT [.lst (W.map D.str)] c=.ok (.int (W.length:Int)) c:=by
  show R.ok (D.int ((W.map D.str).length:Nat)) c=_;rw[ahr]
 have hx:au aG (ak 1) (dC (.int 0)) [a0,ζ (.lst (W.map D.str)),a2,a3,a4] c=.ok (.str (bM W 0)) c:=cT (f:=aG) (x:=.lst (W.map D.str)) (y:=.int 0) rfl rfl (vo (p:=0) rfl (by omega) c)
 have gy:=nN (c:=c) (st:=λ_=>True) (E:=[]) (t:=aW) (a:=aF fJ (ao (ak 0) aq)) trivial (λk:Nat=>D.int (k:Int)) (λk:Nat=>D.str (cE k)) (List.range' 1 50) η [] (λ_ _=>rfl) (λk hk=>by
  rw[aia]at hk;exact xj (by omega) rfl)
 rw[ahy]at gy;have pG:bC (λ_=>True) (az 0) aW (aF fJ (ao (ak 0) aq)) (aL 1 51) [η] [] c=.ok ((List.range' 1 50).map λk=>D.str (cE k)) c:=by
  rw[show(51:Int)=((51:Nat):Int)from rfl,jW]
  exact gy
 have hcc:=lC (pick:=[η]) (e:=[a0,ζ (.lst (W.map D.str)),a2,a3,a4]) (rD (d1:=dC (.int 1)) (d2:=dC (.int 51)) (p:=1) (q:=51) rfl rfl (by omega) (by omega)) (by show(aL 1 51).length<Ω;rw[show(aL 1 51).length=50 from rfl];omega) pG
 have hn:aJ (au nh (au aG (ak 1) (dC (.int 0))) (br (cY (ao (dC (.int 1)) (ao (dC (.int 51)) aq))) [η] (az 0) aW (aF fJ (ao (ak 0) aq)))) [a0,ζ (.lst (W.map D.str)),a2,a3,a4] c=.ok (!(List.range' 1 50).any λm=>decide (bM W 0=cE m)) c:=gb (cT (f:=nh) hx hcc (notin_nums hA c))
 unfold AG;rw[iK,wI,hn,R.aA];cases q:(List.range' 1 50).any λm=>decide (bM W 0=cE m)with
 |false =>
  have:¬(bM W 0=cE W.length/\W.length<=50):=λz=>by
   have:=ajD.mp q W.length (aia.mpr (by omega))
   exact this (decide_eq_true z.1)
  rw[if_neg this];rfl
 |true =>
  obtain⟨m,hm,e⟩:=ajQ.mp q;rw[aia]at hm;have e:=of_decide_eq_true e;have hi:aF pC (ao (au aG (ak 1) (dC (.int 0))) aq) [a0,ζ (.lst (W.map D.str)),a2,a3,a4] c=.ok (.int (m:Int)) c:=by
   refine eV hx ?_;unfold pC;simp only[];rw[e,BO m (by omega)]
   simp only[];rw[if_pos (Jp m (by omega)).2]
  have hne:aJ (au cU (aF pC (ao (au aG (ak 1) (dC (.int 0))) aq)) (aF aT (ao (ak 1) aq))) [a0,ζ (.lst (W.map D.str)),a2,a3,a4] c=.ok (!decide ((m:Int)=(W.length:Int))) c:=gb (cT (f:=cU) hi (eV (d1:=ak 1) rfl hlen) rfl);rw[Bool.not_true,if_neg (by decide),hne,R.aA]
  by_cases e2:m=W.length
  ·subst e2;rw[if_pos (show bM W 0=cE W.length/\W.length<=50 from⟨e,by omega⟩),decide_eq_true rfl]
   rfl
  ·have:¬(bM W 0=cE W.length/\W.length<=50):=λz=>e2 (Xm (by omega) (by omega) (by rw[<-e,z.1]))
   rw[if_neg this,decide_eq_false (by omega)]
   rfl
def uY(w:Str):Bool:=w.cps.toList.all λa=>decide (a=35)||decide (a=46)
theorem aej{n:Nat}{p q:Nat->Bool}(hd:∀i,p i=Θ->q i=Γ):∀l:List Nat,(l.filter p).length+(l.filter q).length=(l.filter λx=>p x||q x).length:=by
 intro l
 induction l with
 |nil=>rfl
 |cons x l ih =>
  simp only[ajs];cases a:p x with
  |true=>rw[hd x a];simp;omega
  |false=>cases b:q x<;>simp<;>omega
theorem OB{w:Str}{p:Nat}:iB w p=(decide (w.length=p)&&uY w):=by
 unfold iB
 by_cases h:w.length=p
 ·rw[decide_eq_true h,ajw,ajw,uZ,BI,kM,kM];have hs:=aej (n:=0) (p:=λi=>decide (w.cps.toList[i]? = ζ 35)) (q:=λi=>decide (w.cps.toList[i]? = ζ 46)) (λi a=>by
   have a:=of_decide_eq_true a;rw[a];exact decide_eq_false (by simp)) (ε w.length)
  rw[hs];have hsz:w.cps.toList.length=w.length:=by rw[aik];rfl
  rw[aie,decide_eq_true_iff];unfold uY;rw[ahQ]
  constructor
  ·intro e a ha;have hh:((ε w.length).filter λi=>decide (w.cps.toList[i]? = ζ 35)||decide (w.cps.toList[i]? = ζ 46)).length=(ε w.length).length:=by rw[e,aiP,h]
   obtain⟨i,hi,rfl⟩:=List.getElem_of_mem ha;have:=(ak3.mp hh) i (ahH.mpr (by omega))
   rw[ahI hi]at this
   simpa using this
  ·intro e;have:(ε w.length).filter (λi=>decide (w.cps.toList[i]? = ζ 35)||decide (w.cps.toList[i]? = ζ 46))=ε w.length:=by
    apply ake.mpr;intro i hi;have hi:=ahH.mp hi;have:=e _ (aih (by omega:i<w.cps.toList.length))
    rw[ahI (by omega)]
    simpa using this
   rw[this,aiP,h]
 ·rw[decide_eq_false h];rfl
theorem Xw:∀a,a<128->(!(!(Builtin.Str.occurrences ".#" ⟨#[a]⟩ 0 (Str.length ".#") 1).isEmpty)) = !(decide (a=35)||decide (a=46)):=by decide +kernel
theorem Rn:∀a,a<128->PyData.strOk ⟨#[a]⟩=Θ:=λa ha=>by
 unfold PyData.strOk;simp;omega
theorem LW:∀l:List Nat,(∀a∈l,a<128)->∃r,gB (l.map λa=>D.str ⟨#[a]⟩)=ζ r/\r.length=l.length/\PyData.depthAll r=0
 |[],_=>⟨[],rfl,rfl,by simp[PyData.depthAll]⟩
 |a::l,h=>by
  obtain⟨r,h1,h2,h3⟩:=LW l λb hb=>h b (.tail _ hb)
  refine⟨.str ⟨#[a]⟩::r,?_,by simp[h2],by simp[PyData.depthAll,PyData.depth,h3]⟩
  show(match eT (D.str ⟨#[a]⟩),gB (l.map λa=>D.str ⟨#[a]⟩)with|some a,ζ r=>ζ (a::r)|_,_=>η)=_
  rw[EC (Rn a (h a (.head _))),h1]
theorem XO{l:List Nat}(h:∀a∈l,a<128) (c:aa):kP (.lst (l.map λa=>D.str ⟨#[a]⟩)) (.lst []) c=.ok (.bl (!l.isEmpty)) c:=by
 obtain⟨r,h1,h2,h3⟩:=LW l h;have g1:gR c (.lst (l.map λa=>D.str ⟨#[a]⟩))=ζ (.list r):=by
  show(match gB (l.map λa=>D.str ⟨#[a]⟩)with|some r=>ζ (PyData.list r)|none=>η)=_
  rw[h1]
 have g2:gR c (.lst [])=ζ (.list []):=rfl;unfold kP;rw[g1,g2];dsimp only;rw[if_pos ⟨by simp only[PyData.depth,h3];omega,by simp[PyData.depth,PyData.depthAll]⟩]
 cases l with
 |nil =>
  cases r with
  |nil=>simp[PyData.eqv,PyData.eqvAll]
  |cons=>simp at h2
 |cons a l =>
  cases r with
  |nil=>simp at h2
  |cons=>simp[PyData.eqv,PyData.eqvAll]
def ck:ah:=(bz (fG (aJ (au cU (aF aT (ao (au aG (ak 1) (ak 3)) aq)) (ak 3))) (aJ (au kP (br (pK (au aG (ak 1) (ak 3))) [η] (az 0) (aJ (au kN (ak 0) (dC (.str ".#")))) (ak 0)) (bx aq)))) (aP (dC .aH)) bL)
def jJ:ah:=(aD (fS (au bT (au eY (au aG (ak 1) (ak 3)) (ak 4)) (dC (.str "#"))) (fV (au aG (ak 2) (ak 3)) (ak 4))) (fS (au bT (au eY (au aG (ak 1) (ak 3)) (ak 4)) (dC (.str "#"))) (fV (au aG (ak 2) (ak 4)) (ak 3))))
theorem GY:mQ=aD ck (bU (bG (ao (ak 3) aq)) (az 4) jJ):=rfl
theorem adM{W:List Str}{p:Nat}(hp:p<W.length) (hA:∀w∈W,fy w) {a0 a2 a4:Option D}(c:aa):ck [a0,ζ (.lst (W.map D.str)),a2,ζ (.int (p:Int)),a4] c=if iB (bM W p) p=Θ then .ok (.nx [a0,ζ (.lst (W.map D.str)),a2,ζ (.int (p:Int)),a4]) c else .ok (.rt .aH) c:=by
 have sz:=ia;have hw:=hA _ (ahP (rS hp));have hx:au aG (ak 1) (ak 3) [a0,ζ (.lst (W.map D.str)),a2,ζ (.int (p:Int)),a4] c=.ok (.str (bM W p)) c:=cT (f:=aG) (x:=.lst (W.map D.str)) (y:=.int (p:Int)) rfl rfl (vo rfl hp c);have t1:aJ (au cU (aF aT (ao (au aG (ak 1) (ak 3)) aq)) (ak 3)) [a0,ζ (.lst (W.map D.str)),a2,ζ (.int (p:Int)),a4] c=.ok (!decide ((bM W p).length=p)) c:=by
  refine gb (cT (f:=cU) (eV hx (yD hw c)) (y:=.int (p:Int)) rfl ?_);show R.ok (D.bl (!decide (((bM W p).length:Int)=(p:Int)))) c=_
  congr 3
  rw[decide_eq_decide];omega
 have gy:=nN (c:=c) (st:=λ_=>True) (E:=[]) (t:=aJ (au kN (ak 0) (dC (.str ".#")))) (a:=ak 0) trivial (λa:Nat=>D.str ⟨#[a]⟩) (λa:Nat=>D.str ⟨#[a]⟩)
 have K5:=nK (E:=[]) (t:=aJ (au kN (ak 0) (dC (.str ".#")))) (a:=ak 0) (c:=c) (λa:Nat=>D.str ⟨#[a]⟩) (λa:Nat=>D.str ⟨#[a]⟩) (λa=>!(decide (a=35)||decide (a=46))) (bM W p).cps.toList η [] (λa ha=>by
  refine gb (cT (f:=kN) (x:=.str ⟨#[a]⟩) (y:=.str ".#") rfl rfl ?_);show R.ok (D.bl (!(!(Builtin.Str.occurrences ".#" ⟨#[a]⟩ 0 (Str.length ".#") 1).isEmpty))) c=_;rw[Xw a (hw.sg a ha)]) (λa _ _=>rfl)
 rw[ahy]at K5;have hsq:pK (au aG (ak 1) (ak 3)) [a0,ζ (.lst (W.map D.str)),a2,ζ (.int (p:Int)),a4] c=.ok ⟨(bM W p).cps.toList.map λa=>D.str ⟨#[a]⟩,λ_=>True⟩ c:=by
  unfold pK;rw[hx,R.aA];simp only[];rw[if_pos hw.all];rfl
 have hl:=hw.len;have hcc:=lC (pick:=[η]) (e:=[a0,ζ (.lst (W.map D.str)),a2,ζ (.int (p:Int)),a4]) hsq (by simp;show(bM W p).length<Ω;omega) K5
 have t2:aJ (au kP (br (pK (au aG (ak 1) (ak 3))) [η] (az 0) (aJ (au kN (ak 0) (dC (.str ".#")))) (ak 0)) (bx aq)) [a0,ζ (.lst (W.map D.str)),a2,ζ (.int (p:Int)),a4] c=.ok (!uY (bM W p)) c:=by
  refine gb ((cT (f:=kP) hcc (y:=.lst []) (by simp) (XO (λa ha=>hw.sg a (aiu.mp ha).1) c)).trans ?_)
  congr 3
  unfold uY;cases q:(bM W p).cps.toList.all λa=>decide (a=35)||decide (a=46)with
  |true =>
   have q:=ahQ.mp q;have:(bM W p).cps.toList.filter (λa=>!(decide (a=35)||decide (a=46)))=[]:=akZ.mpr λa ha=>by rw[q a ha];simp
   rw[this];rfl
  |false =>
   obtain⟨a,ha,e⟩:=List.all_eq_false.mp q;have hm:a∈(bM W p).cps.toList.filter (λa=>!(decide (a=35)||decide (a=46))):=aiu.mpr ⟨ha,by simpa using e⟩
   cases z:(bM W p).cps.toList.filter (λa=>!(decide (a=35)||decide (a=46)))with
   |nil=>rw[z]at hm;cases hm
   |cons=>rfl
 unfold ck;rw[iK,wI,t1,R.aA,OB];cases decide ((bM W p).length=p)with
 |false=>rfl
 |true =>
  rw[Bool.not_true,if_neg (by decide),t2,R.aA]
  cases uY (bM W p)<;>rfl
def GF(W:List Str) (p k:Nat) (i j:Nat):Bool:=wG W i j&&(decide (i<p/\j<p)||decide (i=p/\j<k)||decide (j=p/\i<k))
theorem afs(W:List Str) {p k:Nat}(hk:k<p):eG (eG (GF W p k) p k (wG W p k)) k p (wG W p k)=GF W p (k+1):=by
 have sy:=(wO W).2
 funext i j
 unfold eG
 by_cases h1:i=k/\j=p
 ·rw[if_pos h1];unfold GF;rw[h1.1,h1.2,sy k p,decide_eq_true (show p=p/\k<k+1 by omega)]
  simp
 ·rw[if_neg h1]
  by_cases h2:i=p/\j=k
  ·rw[if_pos h2];unfold GF;rw[h2.1,h2.2,decide_eq_true (show p=p/\k<k+1 by omega)]
   simp
  ·rw[if_neg h2];unfold GF
   congr 2
   ·congr 1
    rw[decide_eq_decide];omega
   ·rw[decide_eq_decide];omega
theorem afu(W:List Str) (p:Nat):GF W p p=GF W (p+1) 0:=by
 have ir:=(wO W).1
 funext i j
 unfold GF
 by_cases e:i=j
 ·subst e;rw[ir];rfl
 ·congr 1
  rw[aie];simp only[aiH,decide_eq_true_iff];omega
theorem aft(W:List Str):GF W 1 0=λ_ _=>Γ:=by
 have ir:=(wO W).1
 funext i j
 unfold GF
 by_cases e:i=0/\j=0
 ·rw[e.1,e.2,ir];rfl
 ·rw[decide_eq_false (by omega),decide_eq_false (by omega),decide_eq_false (by omega)]
  simp
theorem afv(W:List Str) {m i j:Nat}(hi:i<m) (hj:j<m):GF W m 0 i j=wG W i j:=by
 unfold GF;rw[decide_eq_true ⟨hi,hj⟩];simp
theorem aam{W:List Str}{p k:Nat}{f:Nat->Nat->Bool}{c:aa}{a0:Option D}(hp:p<W.length) (hk:k<p) (hl:(bM W p).length=p) (hs:p<=60) :
  jJ [a0,ζ (.lst (W.map D.str)),ζ (.lst (bu c.length W.length)),ζ (.int (p:Int)),ζ (.int (k:Int))] (c++bF W.length f)=.ok (.nx [a0,ζ (.lst (W.map D.str)),ζ (.lst (bu c.length W.length)),ζ (.int (p:Int)),ζ (.int (k:Int))]) (c++bF W.length (eG (eG f p k (wG W p k)) k p (wG W p k))):=by
 have sz:=ia;have h1:∀c',aG (.lst (bu c.length W.length)) (.int (p:Int)) c'=.ok (.ref (c.length+p)) c':=λc'=>by rw[gU,rE hp]
 have h2:∀c',aG (.lst (bu c.length W.length)) (.int (k:Int)) c'=.ok (.ref (c.length+k)) c':=λc'=>by rw[gU,rE (show k<W.length by omega)]
 have h3:∀c',aG (.lst (W.map D.str)) (.int (p:Int)) c'=.ok (.str (bM W p)) c':=λc'=>vo rfl hp c'
 have yN:k<(bM W p).cps.toList.length:=by rw[aik];show k<(bM W p).length;omega
 have h4:∀c',eY (.str (bM W p)) (.int (k:Int)) c'=.ok (.str ⟨#[(bM W p).cps.toList[k]]⟩) c':=λc'=>by
  unfold eY;dsimp only;rw[if_pos (by omega),ko (v:=(bM W p).cps.toList[k]) (ahI yN)]
 have h5:∀c',bT (.str ⟨#[(bM W p).cps.toList[k]]⟩) (.str "#") c'=.ok (.bl (wG W p k)) c':=λc'=>by
  show R.ok (D.bl (decide ((⟨#[(bM W p).cps.toList[k]]⟩:Str)="#"))) c'=_
  congr 2
  unfold wG;rw[decide_eq_true hk,decide_eq_false (show ¬p<k by omega),ahI yN,uZ]
  simp only[ajw,Bool.false_and,Bool.or_false,decide_eq_decide]
  constructor
  ·intro e
   injection e with e
   injection e with e
   injection e with e
   rw[e]
  ·intro e;rw[ahA e]
 have s1:=sE f (wG W p k) c hp (show k<W.length by omega)
 have s2:=sE (eG f p k (wG W p k)) (wG W p k) c (show k<W.length by omega) hp
 unfold jJ;simp only[mL,wK,fC,R.aA,wJ,dw,bD,gz,gs,h1,h2,h3,h4,h5,s1,s2]
theorem KC{W:List Str}{p:Nat}{c:aa}{a0:Option D}(hp:p<W.length) (hl:(bM W p).length=p) (hs:p<=60):∀(n k:Nat) (v:Option D),k+n=p->∃v',cJ (λ_=>True) (az 4) jJ ((List.range' k n).map λj:Nat=>D.int (j:Int)) [a0,ζ (.lst (W.map D.str)),ζ (.lst (bu c.length W.length)),ζ (.int (p:Int)),v] (c++bF W.length (GF W p k))=.ok (.nx [a0,ζ (.lst (W.map D.str)),ζ (.lst (bu c.length W.length)),ζ (.int (p:Int)),v']) (c++bF W.length (GF W p p))
 |0,k,v,h=>⟨v,by rw[show k=p by omega];simp⟩
 |n+1,k,v,h=>by
  obtain⟨v',ih⟩:=KC (c:=c) (a0:=a0) hp hl hs n (k+1) (ζ (.int (k:Int))) (by omega)
  refine⟨v',?_⟩;have hg:az 4 (.int (k:Int)) [a0,ζ (.lst (W.map D.str)),ζ (.lst (bu c.length W.length)),ζ (.int (p:Int)),v] (c++bF W.length (GF W p k))=.ok [a0,ζ (.lst (W.map D.str)),ζ (.lst (bu c.length W.length)),ζ (.int (p:Int)),ζ (.int (k:Int))] (c++bF W.length (GF W p k)):=rfl;have hst:=aam (f:=GF W p k) (c:=c) (a0:=a0) hp (show k<p by omega) hl hs
  rw[afs W (show k<p by omega)]at hst
  rw[ajr,aht,lq,hg,R.aA,hst];exact ih
theorem Ja{W:List Str}{c:aa}{a0:Option D}(hA:∀w∈W,fy w) (h50:W.length<=50):∀(n p:Nat) (v3 v4:Option D),p+n=W.length->1<=p ->
  (((List.range' p n).all (λq=>iB (bM W q) q)=Θ)/\∃w3 w4,cJ (λ_=>True) (az 3) mQ ((List.range' p n).map λj:Nat=>D.int (j:Int)) [a0,ζ (.lst (W.map D.str)),ζ (.lst (bu c.length W.length)),v3,v4] (c++bF W.length (GF W p 0))=.ok (.nx [a0,ζ (.lst (W.map D.str)),ζ (.lst (bu c.length W.length)),w3,w4]) (c++bF W.length (GF W W.length 0))) \/
  (((List.range' p n).all (λq=>iB (bM W q) q)=Γ)/\∃f,cJ (λ_=>True) (az 3) mQ ((List.range' p n).map λj:Nat=>D.int (j:Int)) [a0,ζ (.lst (W.map D.str)),ζ (.lst (bu c.length W.length)),v3,v4] (c++bF W.length (GF W p 0))=.ok (.rt .aH) (c++bF W.length f))
 |0,p,v3,v4,h,_=>.inl ⟨rfl,v3,v4,by rw[show p=W.length by omega];simp⟩
 |n+1,p,v3,v4,h,h1=>by
  have hp:p<W.length:=by omega
  have hg:az 3 (.int (p:Int)) [a0,ζ (.lst (W.map D.str)),ζ (.lst (bu c.length W.length)),v3,v4] (c++bF W.length (GF W p 0))=.ok [a0,ζ (.lst (W.map D.str)),ζ (.lst (bu c.length W.length)),ζ (.int (p:Int)),v4] (c++bF W.length (GF W p 0)):=rfl;have hck:=adM hp hA (a0:=a0) (a2:=ζ (.lst (bu c.length W.length))) (a4:=v4) (c++bF W.length (GF W p 0));rw[ajr,List.all_cons];cases q:iB (bM W p) p with
  |false =>
   rw[q]at hck;refine .inr ⟨rfl,GF W p 0,?_⟩;rw[aht,lq,hg,R.aA,GY,mL,hck];rfl
  |true =>
   rw[q,if_pos rfl]at hck;have hl:(bM W p).length=p:=by
    unfold iB at q;rw[ahL]at q;exact of_decide_eq_true q.1
   obtain⟨v',hin⟩:=KC (c:=c) (a0:=a0) hp hl (by omega) p 0 v4 (by omega)
   rw[afu]at hin;have aaQ:bU (bG (ao (ak 3) aq)) (az 4) jJ [a0,ζ (.lst (W.map D.str)),ζ (.lst (bu c.length W.length)),ζ (.int (p:Int)),v4] (c++bF W.length (GF W p 0))=.ok (.nx [a0,ζ (.lst (W.map D.str)),ζ (.lst (bu c.length W.length)),ζ (.int (p:Int)),v']) (c++bF W.length (GF W (p+1) 0)):=by
    refine vE (Bq (d:=ak 3) (q:=(p:Int)) rfl (by omega)) ?_
    rw[uS,show nD (ε p)=(List.range' 0 p).map λj:Nat=>D.int (j:Int) by rw[aka]]
    exact hin
   have hst:mQ [a0,ζ (.lst (W.map D.str)),ζ (.lst (bu c.length W.length)),ζ (.int (p:Int)),v4] (c++bF W.length (GF W p 0))=.ok (.nx [a0,ζ (.lst (W.map D.str)),ζ (.lst (bu c.length W.length)),ζ (.int (p:Int)),v']) (c++bF W.length (GF W (p+1) 0)):=by
    rw[GY,bf hck,aaQ]
   rw[ajw,aht,lq,hg,R.aA,hst];exact Ja hA h50 n (p+1) _ _ (by omega) (by omega)
theorem Sa{m i k:Nat}(f:Nat->Nat->Bool) {c:aa}(hk:c[k]? = ζ (.lst (bZ m f i))):bC (λ_=>True) (az 0) m7 (ak 0) (aL 0 (m:Int)) [η,ζ (.ref k)] [] c=.ok (nD (ic m f i)) c:=by
 have hf:=nK (E:=[ζ (.ref k)]) (t:=m7) (a:=ak 0) (c:=c) (λj:Nat=>D.int (j:Int)) (λj:Nat=>D.int (j:Int)) (λj=>f i j) (ε m) η [] (λj hj=>by
  have hj:=ahH.mp hj;have h2:aG (.ref k) (.int (j:Int)) c=.ok (.bl (f i j)) c:=by
   unfold aG gp;simp only[hk,uR f i hj]
  exact gb (cT (f:=aG) (x:=.ref k) (y:=.int (j:Int)) rfl rfl h2)) (λ_ _ _=>rfl)
 rw[uS];exact hf
theorem RV{m:Nat}(f:Nat->Nat->Bool) (hm:m<1000) (c:aa):fU [.lst (bu c.length m)] (c++bF m f)=.ok (jy m f) (c++bF m f):=by
 have sz:=ia;have hlen:aT [.lst (bu c.length m)] (c++bF m f)=.ok (.int (m:Int)) (c++bF m f):=by
  show R.ok (D.int ((bu c.length m).length:Nat)) _=_;simp[bu]
 have hE:∀i,i<m->jX [ζ (.ref (c.length+i)),ζ (.lst (bu c.length m))] (c++bF m f)=.ok (.tup (nD (ic m f i))) (c++bF m f):=λi hi=>by
  have h:=Sa f (yR f c hi);have hcc:=lC (pick:=[η,ζ 0]) (e:=[ζ (.ref (c.length+i)),ζ (.lst (bu c.length m))]) (Bq (d:=aF aT (ao (ak 1) aq)) (e:=[ζ (.ref (c.length+i)),ζ (.lst (bu c.length m))]) (q:=(m:Int)) (eV (d1:=ak 1) rfl hlen) (by omega)) (by rw[d7];omega) h
  exact eV (f:=gf) hcc rfl
 have gy:=nK (E:=[ζ (.lst (bu c.length m))]) (t:=aW) (a:=jX) (c:=c++bF m f) (λi:Nat=>D.ref (c.length+i)) (λi:Nat=>D.tup (nD (ic m f i))) (λ_=>Θ) (ε m) η [] (λ_ _=>rfl) (λi hi _=>hE i (ahH.mp hi))
 rw[ahy,ake.mpr (λ_ _=>rfl)]at gy
 have hb:nT=aP (aF gf (ao (br (cS (ak 0)) [η,ζ 0] (az 0) aW jX) aq)):=rfl;have hcc:=lC (pick:=[η,ζ 0]) (e:=[ζ (.lst (bu c.length m))]) (show cS (ak 0) [ζ (.lst (bu c.length m))] (c++bF m f)=.ok ⟨bu c.length m,λ_=>True⟩ (c++bF m f)from rfl) (by simp[bu];omega) gy
 have hv:noRef (jy m f)=Θ:=by rw[xE];exact mP _
 refine jY (n:=1) (b:=nT) ?_ hv (λk h=>by cases h)
 rw[show cH 1 [D.lst (bu c.length m)]=[ζ (.lst (bu c.length m))]from rfl,hb]
 exact iO (eV (f:=gf) hcc rfl)
def yS:af:=(au iP (bx (ao (dC (.bl Γ)) aq)) (aF aT (ao (ak 1) aq)))
theorem abC{L:List D}{m:Nat}(hL:L.length=m) (hm:m<1000) (v:Option D) (c:aa):yS [v,ζ (.lst L)] c=.ok (.ref c.length) (c++[.lst ((ε m).map λ_=>.bl Γ)]):=by
 have h:=DK (q:=(m:Int)) rfl hm v c;have hl:aF aT (ao (ak 1) aq) [v,ζ (.lst L)] c=.ok (.int (m:Int)) c:=by
  refine eV (x:=.lst L) rfl ?_;show R.ok (D.int (L.length:Nat)) c=_;rw[hL]
 unfold nH at h;unfold yS;rw[dw]at h ⊢;rw[show bx (ao (dC (.bl Γ)) aq) [v,ζ (.lst L)] c=bx (ao (dC (.bl Γ)) aq) [v,ζ (.int (m:Int))] c from rfl]
 rw[show bx (ao (dC (.bl Γ)) aq) [v,ζ (.int (m:Int))] c=.ok (.lst [.bl Γ]) c from kZ (cG rfl jg) (by simp)]at h ⊢
 rw[R.aA]at h ⊢;rw[show ak 1 [v,ζ (.int (m:Int))] c=.ok (.int (m:Int)) c from rfl,R.aA]at h
 rw[hl,R.aA];exact h
theorem L6{L:List D}{m:Nat}(hL:L.length=m) (hm:m<1000):∀(items:List D) (v:Option D) (acc:List D) (c:aa),bC (λ_=>True) (az 0) aW yS items [v,ζ (.lst L)] acc c=.ok (acc++bu c.length items.length) (c++(ε items.length).map λ_=>.lst ((ε m).map λ_=>.bl Γ))
 |[],v,acc,c=>by simp[bu]
 |x::xs,v,acc,c=>by
  have h0:=vM (q:=(m:Int)) rfl hm (x::xs) η acc c;rw[iy]at h0 ⊢;have h1:az 0 x [v,ζ (.lst L)] c=.ok [ζ x,ζ (.lst L)] c:=rfl;have h1':az 0 x [η,ζ (.int (m:Int))] c=.ok [ζ x,ζ (.int (m:Int))] c:=rfl;rw[h1',R.aA,mJ,R.aA,if_pos rfl,DK rfl hm,R.aA,vM rfl hm xs]at h0;rw[h1,R.aA,mJ,R.aA,if_pos rfl,abC hL hm,R.aA,L6 hL hm xs];exact h0
def jl(W:List Str):D:=if fQ W then ff (wF W.length (wG W))else .aH
theorem Oz{x:Str}(hx:fy x) (c:aa):rX [.str x] c=.ok (jl (bO x " ")) c:=by
 have sz:=ia;have K2:=aiR x;have hl1:=yg x 32;have Dt:=hx.len;have hA:∀w∈bO x " ",fy w:=λw hw=>hx.piece hw
 have h1:1<=(bO x " ").length:=by omega
 have fF:=xq (d:=ak 0) (e:=[ζ (.str x),η,η,η,η]) (c:=c) rfl hx
 generalize bO x " "=W at *
 have hb:kj=aD (aE 1 (iW (ak 0) (dC (.str " ")))) (aD AG (aD GZ (aD (bU (cY (ao (dC (.int 1)) (ao (aF aT (ao (ak 1) aq)) aq))) (az 3) mQ) (aP (aC 1 fU (ao (ak 2) aq)))))):=rfl;have e0:aE 1 (iW (ak 0) (dC (.str " "))) [ζ (.str x),η,η,η,η] c=.ok (.nx [ζ (.str x),ζ (.lst (W.map D.str)),η,η,η]) c:=jc (i:=1) fF;have e1:=aaV h1 (hA _ (ahP (rS (W:=W) (p:=0) (by omega)))) (a0:=ζ (.str x)) (a2:=η) (a3:=η) (a4:=η) c
 by_cases q:bM W 0=cE W.length/\W.length<=50
 ·rw[if_pos q]at e1;have hgr:=L6 (L:=W.map D.str) (m:=W.length) (by simp) (by omega) (W.map D.str) η [] c
  rw[ahr,ahy,show(ε W.length).map (λ_=>Cell.lst ((ε W.length).map λ_=>D.bl Γ))=bF W.length (GF W 1 0) by rw[aft];rfl]at hgr
  have e2:GZ [ζ (.str x),ζ (.lst (W.map D.str)),η,η,η] c=.ok (.nx [ζ (.str x),ζ (.lst (W.map D.str)),ζ (.lst (bu c.length W.length)),η,η]) (c++bF W.length (GF W 1 0)):=by
   show aE 2 (br (cS (ak 1)) [η,ζ 1] (az 0) aW yS) _ c=_;refine jx (i:=2) ?_;rw[fB,show cS (ak 1) [ζ (.str x),ζ (.lst (W.map D.str)),η,η,η] c=.ok ⟨W.map D.str,λ_=>True⟩ c from rfl,R.aA]
   dsimp only;rw[if_pos (by simp;omega),show ee [η,ζ 1] [ζ (.str x),ζ (.lst (W.map D.str)),η,η,η]=[η,ζ (.lst (W.map D.str))]from rfl,hgr,R.aA]
  have hlen:∀c',aT [.lst (W.map D.str)] c'=.ok (.int (W.length:Int)) c':=λc'=>by
   show R.ok (D.int ((W.map D.str).length:Nat)) c'=_;rw[ahr]
  have su:cY (ao (dC (.int 1)) (ao (aF aT (ao (ak 1) aq)) aq)) [ζ (.str x),ζ (.lst (W.map D.str)),ζ (.lst (bu c.length W.length)),η,η] (c++bF W.length (GF W 1 0))=.ok ⟨aL 1 (W.length:Int),λ_=>True⟩ (c++bF W.length (GF W 1 0)):=rD (d1:=dC (.int 1)) (p:=1) (q:=(W.length:Int)) rfl (eV (d1:=ak 1) rfl (hlen _)) (by omega) (by omega)
  have hpre:∀{r:R Fl},(aD (bU (cY (ao (dC (.int 1)) (ao (aF aT (ao (ak 1) aq)) aq))) (az 3) mQ) (aP (aC 1 fU (ao (ak 2) aq)))) [ζ (.str x),ζ (.lst (W.map D.str)),ζ (.lst (bu c.length W.length)),η,η] (c++bF W.length (GF W 1 0))=r->kj (cH 5 [.str x]) c=r:=fun{r} hh=>by
   rw[show cH 5 [D.str x]=[ζ (.str x),η,η,η,η]from rfl,hb,bf e0,bf e1,bf e2]
   exact hh
  have hnd:nD (List.range' 1 (W.length-1))=(List.range' 1 (W.length-1)).map λj:Nat=>D.int (j:Int):=rfl
  rcases Ja (c:=c) (a0:=ζ (.str x)) hA q.2 (W.length-1) 1 η η (by omega) (by omega)with⟨ha,w3,w4,hf⟩|⟨ha,f,hf⟩
  ·have hd:jl W=jy W.length (GF W W.length 0):=by
    unfold jl;have:fQ W=Θ:=by
     unfold fQ;rw[decide_eq_true q.1,decide_eq_true q.2];exact ha
    rw[this,if_pos rfl,<-xE];unfold jy;refine congrArg D.tup (ah5 λi hi=>congrArg (λl=>D.tup (nD l)) ?_)
    unfold ic;refine ajv λj hj=>?_
    rw[afv W (ahH.mp hi) (ahH.mp hj)]
   have e3:bU (cY (ao (dC (.int 1)) (ao (aF aT (ao (ak 1) aq)) aq))) (az 3) mQ [ζ (.str x),ζ (.lst (W.map D.str)),ζ (.lst (bu c.length W.length)),η,η] (c++bF W.length (GF W 1 0))=.ok (.nx [ζ (.str x),ζ (.lst (W.map D.str)),ζ (.lst (bu c.length W.length)),w3,w4]) (c++bF W.length (GF W W.length 0)):=by
    rw[iL,su,R.aA];dsimp only;rw[jW,hnd];exact hf
   have hr:=uT (n:=5) (b:=kj) (hpre ((bf e3).trans (iO (iX (m:=fU) (d1:=ak 2) rfl (RV (GF W W.length 0) (by omega) c))))) (by rw[xE];exact mP _) (λk h=>by cases h)
   rw[ajt]at hr;rw[hd];exact hr
  ·have hd:jl W=.aH:=by
    unfold jl;have:fQ W=Γ:=by
     unfold fQ;rw[show AF W=Γ from ha]
     simp
    rw[this];rfl
   have e3:bU (cY (ao (dC (.int 1)) (ao (aF aT (ao (ak 1) aq)) aq))) (az 3) mQ [ζ (.str x),ζ (.lst (W.map D.str)),ζ (.lst (bu c.length W.length)),η,η] (c++bF W.length (GF W 1 0))=.ok (.rt .aH) (c++bF W.length f):=by
    rw[iL,su,R.aA];dsimp only;rw[jW,hnd];exact hf
   have hr:=uT (n:=5) (b:=kj) (v:=.aH) (hpre (by rw[mL,e3];rfl)) rfl (λk h=>by cases h)
   rw[ajt]at hr;rw[hd];exact hr
 ·rw[if_neg q]at e1;have hd:jl W=.aH:=by
   unfold jl;have:fQ W=Γ:=by
    unfold fQ
    by_cases z:W.length<=50
    ·rw[decide_eq_false (show ¬bM W 0=cE W.length from λy=>q ⟨y,z⟩)]
     simp
    ·rw[decide_eq_false z];rfl
   rw[this];rfl
  rw[hd];refine jY (n:=5) (b:=kj) ?_ rfl (λk h=>by cases h)
  rw[show cH 5 [D.str x]=[ζ (.str x),η,η,η,η]from rfl,hb,bf e0,mL,e1]
  rfl
def AL(n:Nat) (s:Str):Prop:=(∀a∈s.cps.toList,a<128)/\s.length<=n
theorem AL.asc{n:Nat}{s:Str}(h:AL n s) (hn:n<=2000):fy s:=⟨h.1,ahB h.2 hn⟩
theorem AL.le{n m:Nat}{s:Str}(h:AL n s) (hn:n<=m):AL m s:=⟨h.1,ahB h.2 hn⟩
theorem AL.slice{n:Nat}{x:Str}(h:AL n x) (l u:Option Int):AL n (Txt.slice x l u):=by
 refine⟨λa ha=>?_,ahB (aj3 x l u) h.2⟩
 unfold Txt.slice at ha;split at ha
 ·exact h.1 a ha
 ·have ha:a∈(Builtin.Str.strSliceIndices l u 1 x.length).filterMap (x.cps[·]?):=by simpa using ha
  obtain⟨i,_,e⟩:=aiV.mp ha;exact h.1 a (aki.mpr (Array.mem_of_getElem? e))
theorem AL.add{n m:Nat}{x y:Str}(hx:AL n x) (hy:AL m y):AL (n+m) (x++y):=by
 have e:(x++y).cps=x.cps++y.cps:=rfl;refine⟨λa ha=>?_,?_⟩
 ·rw[e,ajW,ahT]at ha;exact ha.elim (hx.1 a) (hy.1 a)
 ·show(x++y).cps.size<=_;rw[e,Array.size_append];exact Nat.add_le_add hx.2 hy.2
theorem abA{s:List Nat}{a:Nat}:∀{l:List (List Nat)},a∈dN s l->a∈s\/∃p∈l,a∈p
 |[],h=>by cases h
 |x::l,h=>by
  have h:a∈x++l.flatMap λp=>s++p:=h
  rw[ahT,aju]at h
  rcases h with h|⟨p,hp,h⟩
  ·exact .inr ⟨x,.head _,h⟩
  ·rw[ahT]at h
   rcases h with h|h
   ·exact .inl h
   ·exact .inr ⟨p,.tail _ hp,h⟩
theorem Kn{ss:List Str}{k:Nat}(h:∀p∈ss,AL 10 p) (hk:ss.length<=k):(ss.map λp=>p.length+Str.length " ").sum<=k*11:=by
 have h1:Str.length " "=1:=by rw[kJ];rfl
 have:=A6 (ss.map λp=>p.length+Str.length " ") 11 λx hx=>by
  obtain⟨p,hp,rfl⟩:=ahw.mp hx;have:=(h p hp).2;omega
 rw[ahr]at this;omega
theorem AL.join{ss:List Str}{k:Nat}(h:∀p∈ss,AL 10 p) (hk:ss.length<=k):AL (k*11) (dH " " ss):=by
 refine⟨λa ha=>?_,ahB Kq (Kn h hk)⟩
 rw[join_list]at ha
 rcases abA ha with h2|⟨p,hp,h2⟩
 ·rw[kJ]at h2;have:a=32:=by simpa using h2
  omega
 ·obtain⟨q,hq,rfl⟩:=ahw.mp hp;exact(h q hq).1 a h2
theorem zU:AL 1 " ":=by
 refine ⟨λa ha=>?_,by rw[kJ];decide⟩
 rw[kJ]at ha;have:a=32:=by simpa using ha
 omega
def bV(W:List Str) (lo hi:Option Int):List Str:=(W.drop (HT.fk W.length 0 lo)).take (HT.fk W.length W.length hi-HT.fk W.length 0 lo)
theorem ac5(W:List Str) (lo hi:Option Int):cutD (W.map D.str) lo hi=(bV W lo hi).map D.str:=by
 unfold cutD bV;rw[ahr,aj4,List.map_drop]
theorem ac4{W:List Str}{lo hi:Option Int}{w:Str}(h:w∈bV W lo hi):w∈W:=ajV (ahU h)
theorem ac6(W:List Str) (lo hi:Option Int):(bV W lo hi).length<=W.length:=by
 unfold bV;rw[aix,ai6];omega
section
variable {a b d:af}{lo hi:Ev->aa->R (Option Int)}{e:Ev}{c:aa}{l u:Option Int}
theorem qw{s:Str}(h:d e c=.ok (.str s) c) (hl:lo e c=.ok l c) (hu:hi e c=.ok u c) (hs:s.length<=2000):fN d lo hi e c=.ok (.str (Txt.slice s l u)) c:=by
 have sz:=ia;unfold fN;rw[h,R.aA,hl,R.aA,hu,R.aA];dsimp only;rw[if_pos (by omega)]
theorem ae8{x y:Str}(h1:a e c=.ok (.str x) c) (h2:b e c=.ok (.str y) c) (hl:x.length+y.length<=2000):au dQ a b e c=.ok (.str (x++y)) c:=by
 have sz:=ia;refine cT h1 h2 ?_;unfold dQ;dsimp only;rw[if_pos (by omega)]
theorem nV{x y:Str}{n m:Nat}(h1:a e c=.ok (.str x) c) (h2:b e c=.ok (.str y) c) (hx:AL n x) (hy:AL m y) (hl:n+m<=2000):au dQ a b e c=.ok (.str (x++y)) c:=ae8 h1 h2 (ahB (Nat.add_le_add hx.2 hy.2) hl)
theorem qv{W:List Str}(h:d e c=.ok (.lst (W.map D.str)) c) (hl:lo e c=.ok l c) (hu:hi e c=.ok u c):dW d lo hi e c=.ok (.lst ((bV W l u).map D.str)) c:=by
 unfold dW;rw[h,R.aA,hl,R.aA,hu,R.aA,<-ac5];rfl
theorem zS{W V:List Str}(h1:a e c=.ok (.lst (W.map D.str)) c) (h2:b e c=.ok (.lst (V.map D.str)) c) (hl:W.length+V.length<=2000):au c7 a b e c=.ok (.lst ((W++V).map D.str)) c:=by
 have sz:=ia;refine cT h1 h2 ?_;unfold c7;show(if(W.map D.str).length+(V.map D.str).length<=Ω then R.ok (D.lst (W.map D.str++V.map D.str)) c else .bad)=_
 rw[ahr,ahr,if_pos (by omega),aiQ]
theorem Dm{W:List Str}{k:Nat}(h:a e c=.ok (.lst (W.map D.str)) c) (hW:∀p∈W,AL 10 p) (hk:W.length<=k) (hk2:k<=20):fO (dC (.str " ")) a e c=.ok (.str (dH " " W)) c :=
 Dn rfl h rfl (by have:=Kn hW hk;omega)
end
theorem Fi{l m:List D}{c:aa}(h:l.length+m.length<=100):c7 (.lst l) (.lst m) c=.ok (.lst (l++m)) c:=by
 have sz:=ia;show(if l.length+m.length<=Ω then R.ok (D.lst (l++m)) c else .bad)=_
 rw[if_pos (by omega)]
theorem aen:nU=aD (aE 4 (aC 2 aS (ao (ak 0) (ao (au aX (aF aT (ao (ak 1) aq)) (dC (.int 1))) aq)))) (aD (aE 5 (au eY (ak 2) (aC 2 aS (ao (ak 0) (ao (aF aT (ao (ak 2) aq)) aq))))) (aD (aE 6 (iW (ak 1) (dC (.str " ")))) (aD (aE 7 (aC 2 aS (ao (ak 0) (ao (aF aT (ao (ak 6) aq)) aq)))) (aD (aE 8 (au aG (ak 3) (aC 2 aS (ao (ak 0) (ao (aF aT (ao (ak 3) aq)) aq))))) (aD (aE 9 (bx (ao (ak 1) (ao (au dQ (au dQ (fN (ak 1) cz (cy (ak 4))) (ak 5)) (fN (ak 1) (cy (ak 4)) cz)) (ao (au dQ (fN (ak 1) cz (cy (ak 4))) (fN (ak 1) (cy (au aX (ak 4) (dC (.int 1)))) cz)) (ao (au dQ (au dQ (fN (ak 1) cz (cy (ak 4))) (ak 5)) (fN (ak 1) (cy (au aX (ak 4) (dC (.int 1)))) cz)) aq)))))) (aD (aE 9 (au c7 (ak 9) (bx (ao (fO (dC (.str " ")) (au c7 (dW (ak 6) cz (cy (ak 7))) (dW (ak 6) (cy (au aX (ak 7) (dC (.int 1)))) cz))) (ao (fO (dC (.str " ")) (au c7 (dW (ak 6) cz (cy (au aX (ak 7) (dC (.int 1))))) (dW (ak 6) (cy (ak 7)) cz))) (ao (ak 8) aq)))))) (aD (aE 9 (au c7 (ak 9) (bx (ao (au dQ (dC (.str " ")) (ak 1)) (ao (au dQ (ak 1) (dC (.str " "))) (ao (fO (dC (.str " ")) (au c7 (au c7 (dW (ak 6) cz (cy (ak 7))) (bx (ao (ak 8) aq))) (dW (ak 6) (cy (au aX (ak 7) (dC (.int 1)))) cz))) (ao (au dQ (ak 1) (ak 5)) aq))))))) (aP (au aG (ak 9) (aC 2 aS (ao (ak 0) (ao (aF aT (ao (ak 9) aq)) aq)))))))))))):=rfl
def TD(d:D):Prop:=∃y:Str,d=.str y/\AL 400 y
theorem TD.of{n:Nat}{y:Str}(h:AL n y) (hn:n<=400):TD (.str y):=⟨y,rfl,h.le hn⟩
theorem aem{j n:Nat}{c:aa}(P:ez j n c) {x z:Str}{W O:List Str}(hx:AL 100 x) (hz:AL 20 z) (hz1:1<=z.length) (hs:bO x " "=W) (hW:∀w∈W,AL 10 w) (h1:1<=W.length) (h8:W.length<=8) (hO:∀w∈O,AL 10 w) (o1:1<=O.length) (o2:O.length<=20):∃y c',fy y/\ez j n c'/\vh [.ref j,.str x,.str z,.lst (O.map D.str)] c=.ok (.str y) c':=by
 have sz:=ia;have x100:=hx.2;have z20:=hz.2;obtain⟨p,c1,p0,p1,P1,t1⟩:=g7 (cC:=(x.length:Int)+1) P (by omega) (by omega)
 have e1:aE 4 (aC 2 aS (ao (ak 0) (ao (au aX (aF aT (ao (ak 1) aq)) (dC (.int 1))) aq))) [ζ (.ref j),ζ (.str x),ζ (.str z),ζ (.lst (O.map D.str)),η,η,η,η,η,η] c=.ok (.nx [ζ (.ref j),ζ (.str x),ζ (.str z),ζ (.lst (O.map D.str)),ζ (.int p),η,η,η,η,η]) c1 :=
  jx (i:=4) (qt rfl (cT (f:=aX) (eV (d1:=ak 1) rfl (yD (hx.asc (by omega)) c)) rfl rfl) t1)
 obtain⟨q,c2,q0,q1,P2,t2⟩:=g7 (cC:=(z.length:Int)) P1 (by omega) (by omega)
 have hzl:z.cps.toList.length=z.length:=by rw[aik];rfl
 have hq:q.toNat<z.cps.toList.length:=by omega
 have hat:cM z.cps.toList q=ζ z.cps.toList[q.toNat]:=by
  unfold cM gi;rw[if_pos q0,if_pos (by omega)]
  show z.cps.toList[q.toNat]? = _;rw[ahI hq]
 generalize hch:z.cps.toList[q.toNat]=ch at hat
 have hs1:AL 1 (⟨#[ch]⟩:Str):=⟨λa ha=>by
  have:a=ch:=by simpa using ha
  rw[this,<-hch];exact hz.1 _ (aih _),ahn _⟩
 have hix:eY (.str z) (.int q) c2=.ok (.str ⟨#[ch]⟩) c2:=by
  unfold eY;dsimp only;rw[if_pos (by omega),hat]
 generalize (⟨#[ch]⟩:Str)=g at hs1 hix
 have e2:aE 5 (au eY (ak 2) (aC 2 aS (ao (ak 0) (ao (aF aT (ao (ak 2) aq)) aq)))) [ζ (.ref j),ζ (.str x),ζ (.str z),ζ (.lst (O.map D.str)),ζ (.int p),η,η,η,η,η] c1=.ok (.nx [ζ (.ref j),ζ (.str x),ζ (.str z),ζ (.lst (O.map D.str)),ζ (.int p),ζ (.str g),η,η,η,η]) c2:=by
  refine jx (i:=5) ?_;have hv:ak 2 [ζ (.ref j),ζ (.str x),ζ (.str z),ζ (.lst (O.map D.str)),ζ (.int p),η,η,η,η,η] c1=.ok (.str z) c1:=rfl;rw[dw,hv,R.aA,qt (i:=0) rfl (eV (d1:=ak 2) hv (yD (hz.asc (by omega)) c1)) t2,R.aA]
  exact hix
 have e3:aE 6 (iW (ak 1) (dC (.str " "))) [ζ (.ref j),ζ (.str x),ζ (.str z),ζ (.lst (O.map D.str)),ζ (.int p),ζ (.str g),η,η,η,η] c2=.ok (.nx [ζ (.ref j),ζ (.str x),ζ (.str z),ζ (.lst (O.map D.str)),ζ (.int p),ζ (.str g),ζ (.lst (W.map D.str)),η,η,η]) c2:=by
  rw[<-hs];exact jc (i:=6) (xq rfl (hx.asc (by omega)))
 obtain⟨r,c3,r0,r1,P3,t3⟩:=g7 (cC:=(W.length:Int)) P2 (by omega) (by omega)
 have hlen:∀(V:List Str) c',aT [.lst (V.map D.str)] c'=.ok (.int (V.length:Int)) c':=λV c'=>by
  show R.ok (D.int ((V.map D.str).length:Nat)) c'=_;rw[ahr]
 have e4:aE 7 (aC 2 aS (ao (ak 0) (ao (aF aT (ao (ak 6) aq)) aq))) [ζ (.ref j),ζ (.str x),ζ (.str z),ζ (.lst (O.map D.str)),ζ (.int p),ζ (.str g),ζ (.lst (W.map D.str)),η,η,η] c2=.ok (.nx [ζ (.ref j),ζ (.str x),ζ (.str z),ζ (.lst (O.map D.str)),ζ (.int p),ζ (.str g),ζ (.lst (W.map D.str)),ζ (.int r),η,η]) c3 :=
  jx (i:=7) (qt rfl (eV (d1:=ak 6) rfl (hlen W c2)) t3)
 obtain⟨s,c4,s0,s1,P4,t4⟩:=g7 (cC:=(O.length:Int)) P3 (by omega) (by omega)
 obtain⟨od,hod,e5⟩:=Bu (l:=ak 3) (xs:=O.map D.str) (e:=[ζ (.ref j),ζ (.str x),ζ (.str z),ζ (.lst (O.map D.str)),ζ (.int p),ζ (.str g),ζ (.lst (W.map D.str)),ζ (.int r),η,η]) rfl (qt (i:=0) rfl (eV (d1:=ak 3) rfl (hlen O c3)) t4) s0 (by rw[ahr];exact s1)
 obtain⟨o,ho,rfl⟩:=ahw.mp hod;have ho:=hO o ho;have e5':aE 8 (au aG (ak 3) (aC 2 aS (ao (ak 0) (ao (aF aT (ao (ak 3) aq)) aq)))) [ζ (.ref j),ζ (.str x),ζ (.str z),ζ (.lst (O.map D.str)),ζ (.int p),ζ (.str g),ζ (.lst (W.map D.str)),ζ (.int r),η,η] c3=.ok (.nx [ζ (.ref j),ζ (.str x),ζ (.str z),ζ (.lst (O.map D.str)),ζ (.int p),ζ (.str g),ζ (.lst (W.map D.str)),ζ (.int r),ζ (.str o),η]) c4:=jx (i:=8) e5;have g1:=hs1.2;have o10:=ho.2;have sl:=λl u=>ahB (aj3 x l u) hx.2
 have hc:∀l u,∀w∈bV W l u,AL 10 w:=λl u w hw=>hW w (ac4 hw)
 have hcl:∀l u,(bV W l u).length<=8:=λl u=>ahB (ac6 W l u) h8
 have hca:∀l u l' u',∀w∈bV W l u++bV W l' u',AL 10 w:=λl u l' u' w hw=>(ahT.mp hw).elim (hc l u w) (hc l' u' w)
 have sC:∀l u l' u',(bV W l u++bV W l' u').length<=16:=λl u l' u'=>by
  have:=hcl l u;have:=hcl l' u';rw[ahC];omega
 have hcb:∀l u l' u',∀w∈(bV W l u++[o])++bV W l' u',AL 10 w:=λl u l' u' w hw=>(ahT.mp hw).elim (λhw=>(ahT.mp hw).elim (hc l u w) λhw=>by rw[aiA.mp hw];exact ho) (hc l' u' w)
 have DE:∀l u l' u',((bV W l u++[o])++bV W l' u').length<=17:=λl u l' u'=>by
  have:=hcl l u;have:=hcl l' u';rw[ahC,ahC];simp only[ahu,ahK];omega
 have x2:x.length<=2000:=by omega
 have A1:=(hx.slice η (ζ p)).add hs1;have A2:=A1.add (hx.slice (ζ p) η);have A3:=(hx.slice η (ζ p)).add (hx.slice (ζ (p+1)) η);have A4:=A1.add (hx.slice (ζ (p+1)) η);have e6:(aE 9 (bx (ao (ak 1) (ao (au dQ (au dQ (fN (ak 1) cz (cy (ak 4))) (ak 5)) (fN (ak 1) (cy (ak 4)) cz)) (ao (au dQ (fN (ak 1) cz (cy (ak 4))) (fN (ak 1) (cy (au aX (ak 4) (dC (.int 1)))) cz)) (ao (au dQ (au dQ (fN (ak 1) cz (cy (ak 4))) (ak 5)) (fN (ak 1) (cy (au aX (ak 4) (dC (.int 1)))) cz)) aq)))))) [ζ (.ref j),ζ (.str x),ζ (.str z),ζ (.lst (O.map D.str)),ζ (.int p),ζ (.str g),ζ (.lst (W.map D.str)),ζ (.int r),ζ (.str o),η] c4=.ok (.nx [ζ (.ref j),ζ (.str x),ζ (.str z),ζ (.lst (O.map D.str)),ζ (.int p),ζ (.str g),ζ (.lst (W.map D.str)),ζ (.int r),ζ (.str o),ζ (.lst ([.str x,.str ((Txt.slice x η (ζ p)++g)++Txt.slice x (ζ p) η),.str (Txt.slice x η (ζ p)++Txt.slice x (ζ (p+1)) η),.str ((Txt.slice x η (ζ p)++g)++Txt.slice x (ζ (p+1)) η)]:List D))]) c4 :=
  jc (i:=9) (kZ (cG rfl (cG (nV (nV (qw rfl rfl rfl x2) rfl (hx.slice _ _) hs1 (by omega)) (qw rfl rfl rfl x2) A1 (hx.slice _ _) (by omega)) (cG (nV (qw rfl rfl rfl x2) (qw rfl rfl rfl x2) (hx.slice _ _) (hx.slice _ _) (by omega)) (cG (nV (nV (qw rfl rfl rfl x2) rfl (hx.slice _ _) hs1 (by omega)) (qw rfl rfl rfl x2) A1 (hx.slice _ _) (by omega)) jg)))) (by simp))
 have T1:∀d∈([.str x,.str ((Txt.slice x η (ζ p)++g)++Txt.slice x (ζ p) η),.str (Txt.slice x η (ζ p)++Txt.slice x (ζ (p+1)) η),.str ((Txt.slice x η (ζ p)++g)++Txt.slice x (ζ (p+1)) η)]:List D),TD d:=by
  intro d hd;simp only[aho,ahJ,or_false]at hd
  rcases hd with rfl|rfl|rfl|rfl
  ·exact .of hx (by omega)
  ·exact .of A2 (by omega)
  ·exact .of A3 (by omega)
  ·exact .of A4 (by omega)
 have l1:([.str x,.str ((Txt.slice x η (ζ p)++g)++Txt.slice x (ζ p) η),.str (Txt.slice x η (ζ p)++Txt.slice x (ζ (p+1)) η),.str ((Txt.slice x η (ζ p)++g)++Txt.slice x (ζ (p+1)) η)]:List D).length=4:=rfl
 generalize ([.str x,.str ((Txt.slice x η (ζ p)++g)++Txt.slice x (ζ p) η),.str (Txt.slice x η (ζ p)++Txt.slice x (ζ (p+1)) η),.str ((Txt.slice x η (ζ p)++g)++Txt.slice x (ζ (p+1)) η)]:List D)=s1 at e6 T1 l1
 have J1:=AL.join (hca η (ζ r) (ζ (r+1)) η) (sC η (ζ r) (ζ (r+1)) η);have J2:=AL.join (hca η (ζ (r+1)) (ζ r) η) (sC η (ζ (r+1)) (ζ r) η);have e7r:bx (ao (fO (dC (.str " ")) (au c7 (dW (ak 6) cz (cy (ak 7))) (dW (ak 6) (cy (au aX (ak 7) (dC (.int 1)))) cz))) (ao (fO (dC (.str " ")) (au c7 (dW (ak 6) cz (cy (au aX (ak 7) (dC (.int 1))))) (dW (ak 6) (cy (ak 7)) cz))) (ao (ak 8) aq))) [ζ (.ref j),ζ (.str x),ζ (.str z),ζ (.lst (O.map D.str)),ζ (.int p),ζ (.str g),ζ (.lst (W.map D.str)),ζ (.int r),ζ (.str o),ζ (.lst s1)] c4=.ok (.lst ([.str (dH " " (bV W η (ζ r)++bV W (ζ (r+1)) η)),.str (dH " " (bV W η (ζ (r+1))++bV W (ζ r) η)),.str o]:List D)) c4 :=
  kZ (cG (Dm (zS (qv rfl rfl rfl) (qv rfl rfl rfl) (by have:=sC η (ζ r) (ζ (r+1)) η;rw[ahC]at this;omega)) (hca _ _ _ _) (sC _ _ _ _) (by omega)) (cG (Dm (zS (qv rfl rfl rfl) (qv rfl rfl rfl) (by have:=sC η (ζ (r+1)) (ζ r) η;rw[ahC]at this;omega)) (hca _ _ _ _) (sC _ _ _ _) (by omega)) (cG rfl jg))) (by simp)
 have e7:(aE 9 (au c7 (ak 9) (bx (ao (fO (dC (.str " ")) (au c7 (dW (ak 6) cz (cy (ak 7))) (dW (ak 6) (cy (au aX (ak 7) (dC (.int 1)))) cz))) (ao (fO (dC (.str " ")) (au c7 (dW (ak 6) cz (cy (au aX (ak 7) (dC (.int 1))))) (dW (ak 6) (cy (ak 7)) cz))) (ao (ak 8) aq)))))) [ζ (.ref j),ζ (.str x),ζ (.str z),ζ (.lst (O.map D.str)),ζ (.int p),ζ (.str g),ζ (.lst (W.map D.str)),ζ (.int r),ζ (.str o),ζ (.lst s1)] c4=.ok (.nx [ζ (.ref j),ζ (.str x),ζ (.str z),ζ (.lst (O.map D.str)),ζ (.int p),ζ (.str g),ζ (.lst (W.map D.str)),ζ (.int r),ζ (.str o),ζ (.lst (s1++([.str (dH " " (bV W η (ζ r)++bV W (ζ (r+1)) η)),.str (dH " " (bV W η (ζ (r+1))++bV W (ζ r) η)),.str o]:List D)))]) c4 :=
  jc (i:=9) (cT (f:=c7) (x:=.lst s1) (y:=.lst ([.str (dH " " (bV W η (ζ r)++bV W (ζ (r+1)) η)),.str (dH " " (bV W η (ζ (r+1))++bV W (ζ r) η)),.str o]:List D)) rfl e7r (Fi (by rw[l1];simp)))
 have T2:∀d∈s1++([.str (dH " " (bV W η (ζ r)++bV W (ζ (r+1)) η)),.str (dH " " (bV W η (ζ (r+1))++bV W (ζ r) η)),.str o]:List D),TD d:=by
  intro d hd
  rcases ahT.mp hd with hd|hd
  ·exact T1 d hd
  ·simp only[aho,ahJ,or_false]at hd
   rcases hd with rfl|rfl|rfl
   ·exact .of J1 (by omega)
   ·exact .of J2 (by omega)
   ·exact .of ho (by omega)
 have l2:(s1++([.str (dH " " (bV W η (ζ r)++bV W (ζ (r+1)) η)),.str (dH " " (bV W η (ζ (r+1))++bV W (ζ r) η)),.str o]:List D)).length=7:=by rw[ahC,l1];rfl
 generalize s1++([.str (dH " " (bV W η (ζ r)++bV W (ζ (r+1)) η)),.str (dH " " (bV W η (ζ (r+1))++bV W (ζ r) η)),.str o]:List D)=s2 at e7 T2 l2
 have J3:=AL.join (hcb η (ζ r) (ζ (r+1)) η) (DE η (ζ r) (ζ (r+1)) η);have e8r:bx (ao (au dQ (dC (.str " ")) (ak 1)) (ao (au dQ (ak 1) (dC (.str " "))) (ao (fO (dC (.str " ")) (au c7 (au c7 (dW (ak 6) cz (cy (ak 7))) (bx (ao (ak 8) aq))) (dW (ak 6) (cy (au aX (ak 7) (dC (.int 1)))) cz))) (ao (au dQ (ak 1) (ak 5)) aq)))) [ζ (.ref j),ζ (.str x),ζ (.str z),ζ (.lst (O.map D.str)),ζ (.int p),ζ (.str g),ζ (.lst (W.map D.str)),ζ (.int r),ζ (.str o),ζ (.lst s2)] c4=.ok (.lst ([.str (" "++x),.str (x++" "),.str (dH " " ((bV W η (ζ r)++[o])++bV W (ζ (r+1)) η)),.str (x++g)]:List D)) c4 :=
  kZ (cG (nV rfl rfl zU hx (by omega)) (cG (nV rfl rfl hx zU (by omega)) (cG (Dm (zS (V:=bV W (ζ (r+1)) η) (zS (V:=[o]) (qv rfl rfl rfl) (kZ (cG rfl jg) (by simp)) (by have:=hcl η (ζ r);simp only[ahu,ahK];omega)) (qv rfl rfl rfl) (by have:=DE η (ζ r) (ζ (r+1)) η;rw[ahC]at this;omega)) (hcb _ _ _ _) (DE _ _ _ _) (by omega)) (cG (nV rfl rfl hx hs1 (by omega)) jg)))) (by simp)
 have e8:(aE 9 (au c7 (ak 9) (bx (ao (au dQ (dC (.str " ")) (ak 1)) (ao (au dQ (ak 1) (dC (.str " "))) (ao (fO (dC (.str " ")) (au c7 (au c7 (dW (ak 6) cz (cy (ak 7))) (bx (ao (ak 8) aq))) (dW (ak 6) (cy (au aX (ak 7) (dC (.int 1)))) cz))) (ao (au dQ (ak 1) (ak 5)) aq))))))) [ζ (.ref j),ζ (.str x),ζ (.str z),ζ (.lst (O.map D.str)),ζ (.int p),ζ (.str g),ζ (.lst (W.map D.str)),ζ (.int r),ζ (.str o),ζ (.lst s2)] c4=.ok (.nx [ζ (.ref j),ζ (.str x),ζ (.str z),ζ (.lst (O.map D.str)),ζ (.int p),ζ (.str g),ζ (.lst (W.map D.str)),ζ (.int r),ζ (.str o),ζ (.lst (s2++([.str (" "++x),.str (x++" "),.str (dH " " ((bV W η (ζ r)++[o])++bV W (ζ (r+1)) η)),.str (x++g)]:List D)))]) c4 :=
  jc (i:=9) (cT (f:=c7) (x:=.lst s2) (y:=.lst ([.str (" "++x),.str (x++" "),.str (dH " " ((bV W η (ζ r)++[o])++bV W (ζ (r+1)) η)),.str (x++g)]:List D)) rfl e8r (Fi (by rw[l2];simp)))
 have T3:∀d∈s2++([.str (" "++x),.str (x++" "),.str (dH " " ((bV W η (ζ r)++[o])++bV W (ζ (r+1)) η)),.str (x++g)]:List D),TD d:=by
  intro d hd
  rcases ahT.mp hd with hd|hd
  ·exact T2 d hd
  ·simp only[aho,ahJ,or_false]at hd
   rcases hd with rfl|rfl|rfl|rfl
   ·exact .of (zU.add hx) (by omega)
   ·exact .of (hx.add zU) (by omega)
   ·exact .of J3 (by omega)
   ·exact .of (hx.add hs1) (by omega)
 have l3:(s2++([.str (" "++x),.str (x++" "),.str (dH " " ((bV W η (ζ r)++[o])++bV W (ζ (r+1)) η)),.str (x++g)]:List D)).length=11:=by rw[ahC,l2];rfl
 generalize s2++([.str (" "++x),.str (x++" "),.str (dH " " ((bV W η (ζ r)++[o])++bV W (ζ (r+1)) η)),.str (x++g)]:List D)=s3 at e8 T3 l3
 obtain⟨y,c5,y0,y1,P5,t5⟩:=g7 (cC:=11) P4 (by omega) (by omega)
 have hl9:aT [.lst s3] c4=.ok (.int 11) c4:=by
  show R.ok (D.int (s3.length:Nat)) c4=_;rw[l3];rfl
 obtain⟨T,hT,e9⟩:=Bu (l:=ak 9) (xs:=s3) (e:=[ζ (.ref j),ζ (.str x),ζ (.str z),ζ (.lst (O.map D.str)),ζ (.int p),ζ (.str g),ζ (.lst (W.map D.str)),ζ (.int r),ζ (.str o),ζ (.lst s3)]) rfl (qt (i:=0) rfl (eV (d1:=ak 9) rfl hl9) t5) y0 (by omega)
 obtain⟨t,rfl,ht⟩:=T3 T hT;refine⟨t,c5,ht.asc (by omega),P5,?_⟩
 have hb:nU [ζ (.ref j),ζ (.str x),ζ (.str z),ζ (.lst (O.map D.str)),η,η,η,η,η,η] c=.ok (.rt (.str t)) c5:=by
  rw[aen,bf e1,bf e2,bf e3,bf e4,bf e5',bf e6,bf e7,bf e8,oq,e9];rfl
 have hf:=uT (n:=10) (b:=nU) (xs:=[.ref j,.str x,.str z,.lst (O.map D.str)]) hb rfl (λk h=>by cases h)
 rw[P.1,<-P5.1,air]at hf;exact hf
def yc:List Str:=["","0","51","2","2 #","2 ##","02 #","3 #","3 # #","-1","1 ",".","#"]
def c9:List Str:=["","0","51","2","2 #","2 ##","02 #","3 #","3 # #","-1","1 ",".","#","3 # .# #..","1.0","2 x"]
def xr:Str:=" .#0123456789x\n"
instance (n:Nat) (s:Str):Decidable (AL n s):=by unfold AL;exact inferInstance
theorem WD:∀w∈c9,AL 10 w:=by decide +kernel
theorem HX:AL 20 xr/\1<=xr.length:=by decide +kernel
theorem Xn:∀m,m<9->AL 10 (cE m):=by decide +kernel
theorem OC{g:Nat->Nat->Bool}{p:Nat}(h:p<=10):AL 10 (dY g p):=by
 refine⟨λa ha=>?_,by rw[uw];exact h⟩
 rw[qg]at ha;obtain⟨k,_,rfl⟩:=ahw.mp ha;unfold gK;split<;>omega
theorem AE{m:Nat}{g:Nat->Nat->Bool}(hm:m<=8):∀w∈eX m g,AL 10 w:=λw hw=>by
 rcases aho.mp hw with rfl|hw
 ·exact Xn m (by omega)
 ·obtain⟨p,hp,rfl⟩:=ahw.mp hw;rw[aia]at hp;exact OC (by omega)
theorem Ho{m:Nat}{g:Nat->Nat->Bool}(h1:1<=m) (hm:m<=8):AL 100 (cL m g):=(AL.join (k:=8) (AE hm) (by rw[jU h1];exact hm)).le (by omega)
theorem aeo{m:Nat}{g:Nat->Nat->Bool}(h1:1<=m) (hm:m<=8):fQ (eX m g)=Θ:=by
 have a:=aet g h1 (by omega) []
 have b:=Gg (W:=eX m g) (by rw[jU h1];exact h1) (by rw[jU h1];omega) (λw hw=>(AE hm w hw).asc (by omega)) []
 have e:cQ m g=.lst ((eX m g).map D.str):=rfl;rw[e,b]at a
 injection a with a _
 injection a
theorem G1{m i k:Nat}{g:Nat->Nat->Bool}(hk:k<i) (hi:i<m):decide ((bM (eX m g) i).cps.toList[k]? = ζ 35)=g i k:=by
 have:bM (eX m g) i=dY g i:=by
  have a:=rS (W:=eX m g) (p:=i) (by rw[jU (by omega)];exact hi)
  rw[AD g (by omega) hi]at a
  exact(ahA a).symm
 rw[this,qg,ahS,ai1 hk];show decide (ζ (gK (g i k))=ζ 35)=_;cases g i k<;>decide
theorem OI{m i k:Nat}{g:Nat->Nat->Bool}(hg:gZ g) (hi:i<m) (hk:k<m):wG (eX m g) i k=g i k:=by
 unfold wG
 rcases Nat.lt_trichotomy k i with h|h|h
 ·rw[G1 h hi,decide_eq_true h,decide_eq_false (show ¬i<k by omega)]
  simp
 ·subst h;rw[decide_eq_false (show ¬k<k by omega),hg.1]
  rfl
 ·rw[G1 h hk,decide_eq_true h,decide_eq_false (show ¬k<i by omega),hg.2 k i]
  simp
theorem OJ{m:Nat}{g:Nat->Nat->Bool}(h1:1<=m) (hg:gZ g):wF (eX m g).length (wG (eX m g))=wF m g:=by
 rw[jU h1];unfold wF;refine ah5 λi hi=>?_
 unfold ic;exact ajv λk hk=>OI hg (ahH.mp hi) (ahH.mp hk)
theorem Ih{n:Nat}{f:Nat->Nat->Bool}(hn:n<=50) (c:aa):eN 3 [ff (wF n f),ff (wF n f)] c=.ok (.bl Θ) c :=
 RM (by rw[OL];omega) (λr hr=>by
  obtain⟨k,_,rfl⟩:=ahw.mp hr;have:(ic n f k).length<=n:=by unfold ic;exact ahB (akd _ _) (by simp)
  omega) c
theorem same_str(s:Str) (k:Nat) (c:aa):eN (k+1) [.str s,.str s] c=.ok (.bl Θ) c:=by simp[eN,lG]
def tb:ah:=(aD (aE 7 (aC 4 vh (ao (ak 2) (ao (ak 4) (ao (dC (.str " .#0123456789x\n")) (ao (ak 5) aq)))))) (aD (aE 8 (aC 1 rX (ao (ak 7) aq))) (aD (bz (aJ (au jh (ak 8) (dC .aH))) (aE 8 (dC (.str "text"))) bL) (bz (eO (aJ (aC 2 (eN 3) (ao (aC 1 eL (ao (ak 7) aq)) (ao (ak 8) aq))))) (aP (dC (.bl Γ))) bL))))
section
variable {ns:List Int}{i:Int}{j n m:Nat}{g:Nat->Nat->Bool}{v3 v4 v5 v6 v7 v8 v9:Option D}
theorem Ht{t:D}{c:aa}(P:ez j n c) (h1:1<=m) (hm:m<=8):∃w7 w8 c',ez j n c'/\tb [ζ (.bw ns),ζ (.int i),ζ (.ref j),ζ (aK m g),ζ (.str (cL m g)),ζ (.lst (c9.map D.str)),ζ t,v7,v8,v9] c=.ok (.nx [ζ (.bw ns),ζ (.int i),ζ (.ref j),ζ (aK m g),ζ (.str (cL m g)),ζ (.lst (c9.map D.str)),ζ t,w7,w8,v9]) c':=by
 obtain⟨y,c1,hy,P1,t1⟩:=aem P (x:=cL m g) (z:=xr) (W:=eX m g) (O:=c9) (Ho h1 hm) HX.1 HX.2 (Hl (by omega) g) (AE hm) (by rw[jU h1];exact h1) (by rw[jU h1];exact hm) WD (by decide) (by decide)
 have e1:(aE 7 (aC 4 vh (ao (ak 2) (ao (ak 4) (ao (dC (.str " .#0123456789x\n")) (ao (ak 5) aq)))))) [ζ (.bw ns),ζ (.int i),ζ (.ref j),ζ (aK m g),ζ (.str (cL m g)),ζ (.lst (c9.map D.str)),ζ t,v7,v8,v9] c=.ok (.nx [ζ (.bw ns),ζ (.int i),ζ (.ref j),ζ (aK m g),ζ (.str (cL m g)),ζ (.lst (c9.map D.str)),ζ t,ζ (.str y),v8,v9]) c1:=jx (i:=7) (by
  unfold aC;rw[cG (x:=.ref j) rfl (cG (x:=.str (cL m g)) rfl (cG (x:=.str xr) rfl (cG (x:=.lst (c9.map D.str)) rfl jg))),R.aA];exact t1)
 have hd:=Oz hy c1;have e2:(aE 8 (aC 1 rX (ao (ak 7) aq))) [ζ (.bw ns),ζ (.int i),ζ (.ref j),ζ (aK m g),ζ (.str (cL m g)),ζ (.lst (c9.map D.str)),ζ t,ζ (.str y),v8,v9] c1=.ok (.nx [ζ (.bw ns),ζ (.int i),ζ (.ref j),ζ (aK m g),ζ (.str (cL m g)),ζ (.lst (c9.map D.str)),ζ t,ζ (.str y),ζ (jl (bO y " ")),v9]) c1:=jc (i:=8) (iX (m:=rX) (d1:=ak 7) rfl hd);cases ha:fQ (bO y " ")with
 |true =>
  have DA:jl (bO y " ")=ff (wF (bO y " ").length (wG (bO y " "))):=by unfold jl;rw[ha];rfl
  have hrd:=Hx (Io hy ha c1) (mP _) (λk h=>by cases h)
  have hws:=GU (W:=bO y " ") (by rw[aiR];omega) ha
  have hsw:=Ih (f:=wG (bO y " ")) hws.2 c1;rw[DA]at e2;refine⟨ζ (.str y),ζ (ff (wF (bO y " ").length (wG (bO y " ")))),c1,P1,?_⟩;have e3:(bz (aJ (au jh (ak 8) (dC .aH))) (aE 8 (dC (.str "text"))) bL) [ζ (.bw ns),ζ (.int i),ζ (.ref j),ζ (aK m g),ζ (.str (cL m g)),ζ (.lst (c9.map D.str)),ζ t,ζ (.str y),ζ (ff (wF (bO y " ").length (wG (bO y " ")))),v9] c1=.ok (.nx [ζ (.bw ns),ζ (.int i),ζ (.ref j),ζ (aK m g),ζ (.str (cL m g)),ζ (.lst (c9.map D.str)),ζ t,ζ (.str y),ζ (ff (wF (bO y " ").length (wG (bO y " ")))),v9]) c1:=ny (gb (cT (f:=jh) (x:=ff (wF (bO y " ").length (wG (bO y " ")))) rfl rfl rfl));have e4:(bz (eO (aJ (aC 2 (eN 3) (ao (aC 1 eL (ao (ak 7) aq)) (ao (ak 8) aq))))) (aP (dC (.bl Γ))) bL) [ζ (.bw ns),ζ (.int i),ζ (.ref j),ζ (aK m g),ζ (.str (cL m g)),ζ (.lst (c9.map D.str)),ζ t,ζ (.str y),ζ (ff (wF (bO y " ").length (wG (bO y " ")))),v9] c1=.ok (.nx [ζ (.bw ns),ζ (.int i),ζ (.ref j),ζ (aK m g),ζ (.str (cL m g)),ζ (.lst (c9.map D.str)),ζ t,ζ (.str y),ζ (ff (wF (bO y " ").length (wG (bO y " ")))),v9]) c1:=ny (u7 (b:=Θ) (gb (nQ (m:=eN 3) (iX (m:=eL) (d1:=ak 7) rfl hrd) (d2:=ak 8) rfl hsw)));unfold tb;rw[bf e1,bf e2,bf e3,e4]
 |false =>
  have DA:jl (bO y " ")=.aH:=by unfold jl;rw[ha];rfl
  have hrd:=Hy hy ha c1;rw[DA]at e2;refine⟨ζ (.str y),ζ (.str "text"),c1,P1,?_⟩;have e3:(bz (aJ (au jh (ak 8) (dC .aH))) (aE 8 (dC (.str "text"))) bL) [ζ (.bw ns),ζ (.int i),ζ (.ref j),ζ (aK m g),ζ (.str (cL m g)),ζ (.lst (c9.map D.str)),ζ t,ζ (.str y),ζ .aH,v9] c1=.ok (.nx [ζ (.bw ns),ζ (.int i),ζ (.ref j),ζ (aK m g),ζ (.str (cL m g)),ζ (.lst (c9.map D.str)),ζ t,ζ (.str y),ζ (.str "text"),v9]) c1:=by
   rw[iK,gb (cT (f:=jh) (x:=.aH) (y:=.aH) (d1:=ak 8) (d2:=dC .aH) rfl rfl (show jh .aH .aH c1=.ok (.bl Θ) c1 from rfl)),R.aA,if_pos rfl]
   rfl
  have e4:(bz (eO (aJ (aC 2 (eN 3) (ao (aC 1 eL (ao (ak 7) aq)) (ao (ak 8) aq))))) (aP (dC (.bl Γ))) bL) [ζ (.bw ns),ζ (.int i),ζ (.ref j),ζ (aK m g),ζ (.str (cL m g)),ζ (.lst (c9.map D.str)),ζ t,ζ (.str y),ζ (.str "text"),v9] c1=.ok (.nx [ζ (.bw ns),ζ (.int i),ζ (.ref j),ζ (aK m g),ζ (.str (cL m g)),ζ (.lst (c9.map D.str)),ζ t,ζ (.str y),ζ (.str "text"),v9]) c1:=ny (u7 (b:=Θ) (gb (nQ (m:=eN 3) (iX (m:=eL) (d1:=ak 7) rfl hrd) (d2:=ak 8) rfl (same_str "text" 2 c1))));unfold tb;rw[bf e1,bf e2,bf e3,e4]
theorem Px{c:aa}(P:ez j n c) (h1:1<=m) (hm:m<=8):∃w6 w7 w8 c',ez j n c'/\bU (bG (ao (dC (.int 2)) aq)) (az 6) tb [ζ (.bw ns),ζ (.int i),ζ (.ref j),ζ (aK m g),ζ (.str (cL m g)),ζ (.lst (c9.map D.str)),v6,v7,v8,v9] c=.ok (.nx [ζ (.bw ns),ζ (.int i),ζ (.ref j),ζ (aK m g),ζ (.str (cL m g)),ζ (.lst (c9.map D.str)),w6,w7,w8,v9]) c':=by
 obtain⟨a7,a8,c1,P1,t1⟩:=Ht (ns:=ns) (i:=i) (g:=g) (v7:=v7) (v8:=v8) (v9:=v9) (t:=.int 0) P h1 hm;obtain⟨b7,b8,c2,P2,t2⟩:=Ht (ns:=ns) (i:=i) (g:=g) (v7:=a7) (v8:=a8) (v9:=v9) (t:=.int 1) P1 h1 hm;refine⟨ζ (.int 1),b7,b8,c2,P2,vE (l:=[.int 0,.int 1]) rfl ?_⟩;rw[lq,show az 6 (.int 0) [ζ (.bw ns),ζ (.int i),ζ (.ref j),ζ (aK m g),ζ (.str (cL m g)),ζ (.lst (c9.map D.str)),v6,v7,v8,v9] c=.ok [ζ (.bw ns),ζ (.int i),ζ (.ref j),ζ (aK m g),ζ (.str (cL m g)),ζ (.lst (c9.map D.str)),ζ (.int 0),v7,v8,v9] c from rfl,R.aA,t1]
 simp only[R.aA];rw[lq,show az 6 (.int 1) [ζ (.bw ns),ζ (.int i),ζ (.ref j),ζ (aK m g),ζ (.str (cL m g)),ζ (.lst (c9.map D.str)),ζ (.int 0),a7,a8,v9] c1=.ok [ζ (.bw ns),ζ (.int i),ζ (.ref j),ζ (aK m g),ζ (.str (cL m g)),ζ (.lst (c9.map D.str)),ζ (.int 1),a7,a8,v9] c1 from rfl,R.aA,t2]
 simp only[R.aA];rw[abQ]
theorem PN{c:aa}(P:ez j n c) (h1:1<=m) (hm:m<=8) (hg:gZ g):∃w9 c',ez j n c'/\aD (aE 9 (au aG (bx (ao (dC .aH) (ao (dC (.int 2)) (ao (dC (.bl Θ)) (ao (bx (ao (ak 4) aq)) (ao (cX (ao (ak 4) aq)) (ao sM (ao (aC 1 fU (ao (ak 3) aq)) aq)))))))) (aC 2 aS (ao (ak 2) (ao (dC (.int 7)) aq))))) (bz (fG (aJ (au cU (aC 1 eL (ao (ak 9) aq)) (dC (.str "text")))) (eO (aJ (aC 2 (eN 3) (ao (aC 1 eL (ao (ak 4) aq)) (ao (aC 1 fU (ao (ak 3) aq)) aq)))))) (aP (dC (.bl Γ))) bL) [ζ (.bw ns),ζ (.int i),ζ (.ref j),ζ (aK m g),ζ (.str (cL m g)),ζ (.lst (c9.map D.str)),v6,v7,v8,v9] c=.ok (.nx [ζ (.bw ns),ζ (.int i),ζ (.ref j),ζ (aK m g),ζ (.str (cL m g)),ζ (.lst (c9.map D.str)),v6,v7,v8,w9]) c':=by
 obtain⟨y,c1,y0,y1,P1,t1⟩:=g7 (cC:=7) P (by omega) (by omega)
 have hrw:∀c,fU [aK m g] c=.ok (ff (wF m g)) c:=λc=>by rw[<-xE];exact RW g (by omega) c
 have hl:bx (ao (dC .aH) (ao (dC (.int 2)) (ao (dC (.bl Θ)) (ao (bx (ao (ak 4) aq)) (ao (cX (ao (ak 4) aq)) (ao sM (ao (aC 1 fU (ao (ak 3) aq)) aq))))))) [ζ (.bw ns),ζ (.int i),ζ (.ref j),ζ (aK m g),ζ (.str (cL m g)),ζ (.lst (c9.map D.str)),v6,v7,v8,v9] c=.ok (.lst [.aH,.int 2,.bl Θ,.lst [.str (cL m g)],.tup [.str (cL m g)],.gQ,ff (wF m g)]) c :=
  kZ (cG rfl (cG rfl (cG rfl (cG (kZ (cG rfl jg) (by simp)) (cG (PJ (cG rfl jg) (by simp)) (cG rfl (cG (iX (m:=fU) (d1:=ak 3) rfl (hrw c)) jg))))))) (by simp)
 obtain⟨d,hd,e⟩:=Bu hl (qt (i:=2) (a:=dC (.int 7)) (e:=[ζ (.bw ns),ζ (.int i),ζ (.ref j),ζ (aK m g),ζ (.str (cL m g)),ζ (.lst (c9.map D.str)),v6,v7,v8,v9]) rfl rfl t1) y0 (by simpa using y1)
 have hi:bN [d,.ty "str"] c1=.ok (.bl Γ) c1:=by
  simp only[aho,ahJ,or_false]at hd
  rcases hd with rfl|rfl|rfl|rfl|rfl|rfl|rfl<;>rfl
 have e1:(aE 9 (au aG (bx (ao (dC .aH) (ao (dC (.int 2)) (ao (dC (.bl Θ)) (ao (bx (ao (ak 4) aq)) (ao (cX (ao (ak 4) aq)) (ao sM (ao (aC 1 fU (ao (ak 3) aq)) aq)))))))) (aC 2 aS (ao (ak 2) (ao (dC (.int 7)) aq))))) [ζ (.bw ns),ζ (.int i),ζ (.ref j),ζ (aK m g),ζ (.str (cL m g)),ζ (.lst (c9.map D.str)),v6,v7,v8,v9] c=.ok (.nx [ζ (.bw ns),ζ (.int i),ζ (.ref j),ζ (aK m g),ζ (.str (cL m g)),ζ (.lst (c9.map D.str)),v6,v7,v8,ζ d]) c1:=jx (i:=9) e;have hx:=(Ho (g:=g) h1 hm).asc (by omega)
 have fF:=Hl (m:=m) (by omega) g
 have hrd:=Hx (Io hx (by rw[fF];exact aeo h1 hm) c1) (mP _) (λk h=>by cases h)
 rw[fF,OJ h1 hg]at hrd;have e2:(bz (fG (aJ (au cU (aC 1 eL (ao (ak 9) aq)) (dC (.str "text")))) (eO (aJ (aC 2 (eN 3) (ao (aC 1 eL (ao (ak 4) aq)) (ao (aC 1 fU (ao (ak 3) aq)) aq)))))) (aP (dC (.bl Γ))) bL) [ζ (.bw ns),ζ (.int i),ζ (.ref j),ζ (aK m g),ζ (.str (cL m g)),ζ (.lst (c9.map D.str)),v6,v7,v8,ζ d] c1=.ok (.nx [ζ (.bw ns),ζ (.int i),ζ (.ref j),ζ (aK m g),ζ (.str (cL m g)),ζ (.lst (c9.map D.str)),v6,v7,v8,ζ d]) c1 :=
  ny (Jb (gb (cT (f:=cU) (iX (m:=eL) (d1:=ak 9) rfl (PK hi)) (d2:=dC (.str "text")) rfl rfl)) (u7 (b:=Θ) (gb (nQ (m:=eN 3) (iX (m:=eL) (d1:=ak 4) rfl hrd) (iX (m:=fU) (d1:=ak 3) rfl (hrw c1)) (Ih (by omega) c1)))))
 exact⟨_,c1,P1,by rw[bf e1,e2]⟩
end
def uX:ah:=aD (aE 2 (aC 1 nj (ao (aC 2 nt (ao (ak 0) (ao (ak 1) aq))) aq))) (aD (aE 3 (aC 2 oY (ao (ak 2) (ao (dC (.int 8)) aq)))) (aD (aE 4 (aC 1 rY (ao (ak 3) aq))) (aD (aE 5 (bx (ao (dC (.str "")) (ao (dC (.str "0")) (ao (dC (.str "51")) (ao (dC (.str "2")) (ao (dC (.str "2 #")) (ao (dC (.str "2 ##")) (ao (dC (.str "02 #")) (ao (dC (.str "3 #")) (ao (dC (.str "3 # #")) (ao (dC (.str "-1")) (ao (dC (.str "1 ")) (ao (dC (.str ".")) (ao (dC (.str "#")) aq))))))))))))))) (aD (aE 5 (au c7 (ak 5) (bx (ao (dC (.str "3 # .# #..")) (ao (dC (.str "1.0")) (ao (dC (.str "2 x")) aq)))))) (aD (bU (bG (ao (dC (.int 2)) aq)) (az 6) tb) (aD (aE 9 (au aG (bx (ao (dC .aH) (ao (dC (.int 2)) (ao (dC (.bl Θ)) (ao (bx (ao (ak 4) aq)) (ao (cX (ao (ak 4) aq)) (ao sM (ao (aC 1 fU (ao (ak 3) aq)) aq)))))))) (aC 2 aS (ao (ak 2) (ao (dC (.int 7)) aq))))) (bz (fG (aJ (au cU (aC 1 eL (ao (ak 9) aq)) (dC (.str "text")))) (eO (aJ (aC 2 (eN 3) (ao (aC 1 eL (ao (ak 4) aq)) (ao (aC 1 fU (ao (ak 3) aq)) aq)))))) (aP (dC (.bl Γ))) bL)))))))
theorem UX{ns:List Int}{i:Int}(hi:0<=i) (c:aa) (v2 v3 v4 v5 v6 v7 v8 v9:Option D) :
  ∃e' c',(∃w1 w2 w3 w4 w5 w6 w7 w8 w9,e'=[ζ (.bw ns),w1,w2,w3,w4,w5,w6,w7,w8,w9])/\uX [ζ (.bw ns),ζ (.int i),v2,v3,v4,v5,v6,v7,v8,v9] c=.ok (.nx e') c':=by
 obtain⟨x,hx⟩:=adN ns i hi c;obtain⟨p0,hp⟩:=S5 x c;have P0:ez c.length (c.length+1) (c++[.lst [.int p0]]):=⟨by simp,by omega,p0,by simp⟩
 generalize c.length=j at hp P0
 generalize j+1=n at P0
 generalize c++[Cell.lst [.int p0]]=c0 at hp P0
 obtain⟨m,g,c1,m1,m2,hg,P1,hbu⟩:=aeb (most:=8) P0 (by decide) (by decide)
 have hm:m<=8:=by omega
 have e0:(aE 2 (aC 1 nj (ao (aC 2 nt (ao (ak 0) (ao (ak 1) aq))) aq))) [ζ (.bw ns),ζ (.int i),v2,v3,v4,v5,v6,v7,v8,v9] c=.ok (.nx [ζ (.bw ns),ζ (.int i),ζ (.ref j),v3,v4,v5,v6,v7,v8,v9]) c0:=jx (i:=2) (aea (m:=nj) (MR (m:=nt) (d1:=ak 0) (d2:=ak 1) rfl rfl hx) hp);have e1:(aE 3 (aC 2 oY (ao (ak 2) (ao (dC (.int 8)) aq)))) [ζ (.bw ns),ζ (.int i),ζ (.ref j),v3,v4,v5,v6,v7,v8,v9] c0=.ok (.nx [ζ (.bw ns),ζ (.int i),ζ (.ref j),ζ (aK m g),v4,v5,v6,v7,v8,v9]) c1:=jx (i:=3) (MR (m:=oY) (d1:=ak 2) (d2:=dC (.int 8)) rfl rfl hbu);have e2:(aE 4 (aC 1 rY (ao (ak 3) aq))) [ζ (.bw ns),ζ (.int i),ζ (.ref j),ζ (aK m g),v4,v5,v6,v7,v8,v9] c1=.ok (.nx [ζ (.bw ns),ζ (.int i),ζ (.ref j),ζ (aK m g),ζ (.str (cL m g)),v5,v6,v7,v8,v9]) c1:=jc (i:=4) (iX (m:=rY) (d1:=ak 3) rfl (PR g m1 (by omega) c1))
 have e3:(aE 5 (bx (ao (dC (.str "")) (ao (dC (.str "0")) (ao (dC (.str "51")) (ao (dC (.str "2")) (ao (dC (.str "2 #")) (ao (dC (.str "2 ##")) (ao (dC (.str "02 #")) (ao (dC (.str "3 #")) (ao (dC (.str "3 # #")) (ao (dC (.str "-1")) (ao (dC (.str "1 ")) (ao (dC (.str ".")) (ao (dC (.str "#")) aq))))))))))))))) [ζ (.bw ns),ζ (.int i),ζ (.ref j),ζ (aK m g),ζ (.str (cL m g)),v5,v6,v7,v8,v9] c1=.ok (.nx [ζ (.bw ns),ζ (.int i),ζ (.ref j),ζ (aK m g),ζ (.str (cL m g)),ζ (.lst (yc.map D.str)),v6,v7,v8,v9]) c1:=jc (i:=5) (kZ (xs:=yc.map D.str) (cG rfl (cG rfl (cG rfl (cG rfl (cG rfl (cG rfl (cG rfl (cG rfl (cG rfl (cG rfl (cG rfl (cG rfl (cG rfl jg))))))))))))) (by decide))
 have e4:(aE 5 (au c7 (ak 5) (bx (ao (dC (.str "3 # .# #..")) (ao (dC (.str "1.0")) (ao (dC (.str "2 x")) aq)))))) [ζ (.bw ns),ζ (.int i),ζ (.ref j),ζ (aK m g),ζ (.str (cL m g)),ζ (.lst (yc.map D.str)),v6,v7,v8,v9] c1=.ok (.nx [ζ (.bw ns),ζ (.int i),ζ (.ref j),ζ (aK m g),ζ (.str (cL m g)),ζ (.lst (c9.map D.str)),v6,v7,v8,v9]) c1:=jc (i:=5) (cT (f:=c7) (x:=.lst (yc.map D.str)) (y:=.lst ((c9.drop 13).map D.str)) rfl (kZ (xs:=(c9.drop 13).map D.str) (cG rfl (cG rfl (cG rfl jg))) (by decide)) (Fi (by decide)))
 obtain⟨a6,a7,a8,c2,P2,e5⟩:=Px (ns:=ns) (i:=i) (g:=g) (v6:=v6) (v7:=v7) (v8:=v8) (v9:=v9) P1 m1 hm;obtain⟨a9,c3,P3,e6⟩:=PN (ns:=ns) (i:=i) (g:=g) (v6:=a6) (v7:=a7) (v8:=a8) (v9:=v9) P2 m1 hm hg;refine⟨[ζ (.bw ns),ζ (.int i),ζ (.ref j),ζ (aK m g),ζ (.str (cL m g)),ζ (.lst (c9.map D.str)),a6,a7,a8,a9],c3,⟨_,_,_,_,_,_,_,_,_,rfl⟩,?_⟩;unfold uX;rw[bf e0,bf e1,bf e2,bf e3,bf e4,bf e5,e6]
theorem acg:fQ (bO "" " ")=Γ:=by decide +kernel
theorem ach:fy "":=AL.asc (n:=0) (by decide +kernel) (by omega)
theorem Y8(ns:List Int) (hl:ns.length<=63):∃c,yx [.bw ns] []=.ok (.bl Θ) c:=by
 generalize hm:(if(if(40:Int)<ns.length then(40:Int)else ns.length)>1 then(if(40:Int)<ns.length then(40:Int)else ns.length)else 1)=m
 have hb:-4611686018427387904<=m/\m<4611686018427387904:=by
  rw[<-hm];split<;>(try split)<;>omega
 obtain⟨e',c',⟨w1,w2,w3,w4,w5,w6,w7,w8,w9,rfl⟩,hf⟩:=LH (g:=az 1) (s:=uX)
  (λe=>∃w1 w2 w3 w4 w5 w6 w7 w8 w9,e=[ζ (.bw ns),w1,w2,w3,w4,w5,w6,w7,w8,w9]) (aL 0 m) [ζ (.bw ns),η,η,η,η,η,η,η,η,η] [] ⟨_,_,_,_,_,_,_,_,_,rfl⟩ (λt ht e c ⟨w1,w2,w3,w4,w5,w6,w7,w8,w9,he⟩=>by
   subst he;obtain⟨i,rfl,i0,i1⟩:=oW ht;obtain⟨e',c',ie,ho⟩:=UX (ns:=ns) i0 c w2 w3 w4 w5 w6 w7 w8 w9;exact⟨_,e',_,c',rfl,ho,ie⟩)
 have hb2:pT=aD (bU (bG (ao (aF rW (ao (dC (.int 1)) (ao (aF fM (ao (aF aT (ao (ak 0) aq)) (ao (dC (.int 40)) aq))) aq))) aq)) (az 1) uX) (aP (au bT (aC 1 eL (ao (dC (.str "")) aq)) (dC (.str "text")))):=rfl;have su:(bG (ao (aF rW (ao (dC (.int 1)) (ao (aF fM (ao (aF aT (ao (ak 0) aq)) (ao (dC (.int 40)) aq))) aq))) aq)) [ζ (.bw ns),η,η,η,η,η,η,η,η,η] []=.ok ⟨aL 0 m,λ_=>True⟩ []:=by
  simp;simp only[gt_iff_lt]at hm;rw[hm,if_pos (by omega)]
 have es:cH 10 [D.bw ns]=[ζ (.bw ns),η,η,η,η,η,η,η,η,η]:=rfl;have e1:=vE (g:=az 1) (s:=uX) su hf;have aaM:(aP (au bT (aC 1 eL (ao (dC (.str "")) aq)) (dC (.str "text")))) [ζ (.bw ns),w1,w2,w3,w4,w5,w6,w7,w8,w9] c'=.ok (.rt (.bl Θ)) c':=iO (cT (f:=bT) (iX (m:=eL) (d1:=dC (.str "")) rfl (Hy ach acg c')) (d2:=dC (.str "text")) rfl rfl);have fin:pT (cH 10 [.bw ns]) []=.ok (.rt (.bl Θ)) c':=by
  rw[es,hb2,bf e1,aaM]
 exact⟨_,uT fin rfl (λk h=>by cases h)⟩
open PyProof.Rows
theorem all_mk{l:aa1}{w:ω}{K:Δ}{h:υ}{mg:Str->Option Ψ}{fa:Ξ}{zE zD zF zG zI za yZ y9 zC zH zc zb zy zo zj zq zx zk zu zp zv zg zB zz zm zd zl zh zA ze zw zf Et:Ξ}(X:K.In h) (G:h.Ns ξ mg) (hfa:mg "law"=ζ (.ref fa))
  {Wv aeZ Wu aeY Ww ae0 Wx ae1 WB ae3 VV aez VT aex VU aey Wt aeX WA ae2 VX aeB VW aeA Wn aeS Wg aeL Wa aeH Wi aeN Wm aeR Wb aeI Wj aeO Wh aeM Wk aeP V8 aeF Wr aeV Wo aeT Wf aeK V5 aeC We aeJ V9 aeG Wq aeU V6 aeD Wl aeQ V7 aeE Ws aeW:Option Ξ}{Rf Rb Rg Rh Rj QH QE QF Ra Ri QJ QI Q5 QX QT QZ Q4 QU Q0 QY Q2 QO Q8 Q6 QW QL QV QS Q7 QM Q3 QN Q9:Array (Option Ψ)}{Xh ZQ acV TZ MK adD Xg ZP acU TY MJ adC Xi ZR acW T4 ML adE Xj ZS acX T5 MM adF Xl ZU acZ T7 MO adH WH Zo acu Tg Mj ada WE Zm acr Te Mh ac8 WG Zn acs Tf Mi ac9 Xf ZO acT TX MI adB Xk ZT acY T6 MN adG WJ Zq acw Ti Ml ade WI Zp acv Th Mk adb W8 ZJ acO TN MD adw WU ZC acH Tw Mw ado WQ Zw acD Tr Ms adk WW ZE acJ TF My adq W7 ZI acN TM MC adv WR Zx acE Tt Mt adl WX ZF acK TH Mz ads WV ZD acI Tz Mx adp WY ZG acL TJ MA adt WN Zu acB Tp Mq adi Xb ZM acR TU MG adz W9 ZK acP TQ ME adx WT Zz acG Tv Mv adn WK Zr acy Tj Mm adf WS Zy acF Tu Mu adm WO Zv acC Tq Mr adj Xa ZL acQ TR MF ady WL Zs acz Tn Mn adg WZ ZH acM TL MB adu WM Zt acA To Mp adh Xe ZN acS TV MH adA:Ψ}
  (mq:θ K ξ "is_whole"=ζ (ζ (.ref zE))) (CC:K.lookup zE=ζ ⟨Xh,Wv,.func (PySem.W.fnOf "is_whole" "is_whole" (cW rj) (cF rj) (aV rj) .none ZQ acV TZ aeZ MK adD),Rf⟩) (F1:PySem.W.codeIn K MK "is_whole"=Θ) (Df:PySem.W.keepIn K (.ref zE)=Θ)
  (mj:θ K ξ "is_whole_within"=ζ (ζ (.ref zD))) (CB:K.lookup zD=ζ ⟨Xg,Wu,.func (PySem.W.fnOf "is_whole_within" "is_whole_within" (cW qZ) (cF qZ) (aV qZ) .none ZP acU TY aeY MJ adC),Rb⟩) (F0:PySem.W.codeIn K MJ "is_whole_within"=Θ) (De:PySem.W.keepIn K (.ref zD)=Θ)
  (mw:θ K ξ "is_place"=ζ (ζ (.ref zF))) (CD:K.lookup zF=ζ ⟨Xi,Ww,.func (PySem.W.fnOf "is_place" "is_place" (cW rm) (cF rm) (aV rm) .none ZR acW T4 ae0 ML adE),Rg⟩) (F2:PySem.W.codeIn K ML "is_place"=Θ) (Dg:PySem.W.keepIn K (.ref zF)=Θ)
  (mz:θ K ξ "is_pair"=ζ (ζ (.ref zG))) (CF:K.lookup zG=ζ ⟨Xj,Wx,.func (PySem.W.fnOf "is_pair" "is_pair" (cW rq) (cF rq) (aV rq) .none ZS acX T5 ae1 MM adF),Rh⟩) (F3:PySem.W.codeIn K MM "is_pair"=Θ) (Dh:PySem.W.keepIn K (.ref zG)=Θ)
  (mD:θ K ξ "are_pairs"=ζ (ζ (.ref zI))) (CH:K.lookup zI=ζ ⟨Xl,WB,.func (PySem.W.fnOf "are_pairs" "are_pairs" (cW rB) (cF rB) (aV rB) .none ZU acZ T7 ae3 MO adH),Rj⟩) (F5:PySem.W.codeIn K MO "are_pairs"=Θ) (Dj:PySem.W.keepIn K (.ref zI)=Θ)
  (lK:θ K ξ "row_where"=ζ (ζ (.ref za))) (B8:K.lookup za=ζ ⟨WH,VV,.func (PySem.W.fnOf "row_where" "row_where" (cW qA) (cF qA) (aV qA) .none Zo acu Tg aez Mj ada),QH⟩) (Fq:PySem.W.codeIn K Mj "row_where"=Θ) (CL:PySem.W.keepIn K (.ref za)=Θ)
  (lI:θ K ξ "web_where"=ζ (ζ (.ref yZ))) (B6:K.lookup yZ=ζ ⟨WE,VT,.func (PySem.W.fnOf "web_where" "web_where" (cW qz) (cF qz) (aV qz) .none Zm acr Te aex Mh ac8),QE⟩) (Fo:PySem.W.codeIn K Mh "web_where"=Θ) (CJ:PySem.W.keepIn K (.ref yZ)=Θ)
  (lJ:θ K ξ "web_of"=ζ (ζ (.ref y9))) (B7:K.lookup y9=ζ ⟨WG,VU,.func (PySem.W.fnOf "web_of" "web_of" (cW oJ) (cF oJ) (aV oJ) .none Zn acs Tf aey Mi ac9),QF⟩) (Fp:PySem.W.codeIn K Mi "web_of"=Θ) (CK:PySem.W.keepIn K (.ref y9)=Θ)
  (mh:θ K ξ "is_word"=ζ (ζ (.ref zC))) (CA:K.lookup zC=ζ ⟨Xf,Wt,.func (PySem.W.fnOf "is_word" "is_word" (cW qY) (cF qY) (aV qY) .none ZO acT TX aeX MI adB),Ra⟩) (FZ:PySem.W.codeIn K MI "is_word"=Θ) (Dd:PySem.W.keepIn K (.ref zC)=Θ)
  (mC:θ K ξ "are_words"=ζ (ζ (.ref zH))) (CG:K.lookup zH=ζ ⟨Xk,WA,.func (PySem.W.fnOf "are_words" "are_words" (cW rA) (cF rA) (aV rA) .none ZT acY T6 ae2 MN adG),Ri⟩) (F4:PySem.W.codeIn K MN "are_words"=Θ) (Di:PySem.W.keepIn K (.ref zH)=Θ)
  (lM:θ K ξ "pairs_in"=ζ (ζ (.ref zc))) (Ca:K.lookup zc=ζ ⟨WJ,VX,.func (PySem.W.fnOf "pairs_in" "pairs_in" (cW qC) (cF qC) (aV qC) .none Zq acw Ti aeB Ml ade),QJ⟩) (Fv:PySem.W.codeIn K Ml "pairs_in"=Θ) (CN:PySem.W.keepIn K (.ref zc)=Θ)
  (kq:θ K ξ "read"=ζ (ζ (.ref zb))) (B9:K.lookup zb=ζ ⟨WI,VW,.func (PySem.W.fnOf "read" "read" (cW qB) (cF qB) (aV qB) .none Zp acv Th aeA Mk adb),QI⟩) (Ft:PySem.W.codeIn K Mk "read"=Θ) (CM:PySem.W.keepIn K (.ref zb)=Θ)
  (l6:θ K ξ "_law_cell_at"=ζ (ζ (.ref zy))) (Cu:K.lookup zy=ζ ⟨W8,Wn,.func (PySem.W.fnOf "_law_cell_at" "_law_cell_at" (cW qT) (cF qT) (aV qT) .none ZJ acO TN aeS MD adw),Q5⟩) (FQ:PySem.W.codeIn K MD "_law_cell_at"=Θ) (C6:PySem.W.keepIn K (.ref zy)=Θ)
  (lV:θ K ξ "_law_pot"=ζ (ζ (.ref zo))) (Cm:K.lookup zo=ζ ⟨WU,Wg,.func (PySem.W.fnOf "_law_pot" "_law_pot" (cW qM) (cF qM) (aV qM) .none ZC acH Tw aeL Mw ado),QX⟩) (FH:PySem.W.codeIn K Mw "_law_pot"=Θ) (CZ:PySem.W.keepIn K (.ref zo)=Θ)
  (lS:θ K ξ "_law_take"=ζ (ζ (.ref zj))) (Cg:K.lookup zj=ζ ⟨WQ,Wa,.func (PySem.W.fnOf "_law_take" "_law_take" (cW qI) (cF qI) (aV qI) .none Zw acD Tr aeH Ms adk),QT⟩) (FD:PySem.W.codeIn K Ms "_law_take"=Θ) (CU:PySem.W.keepIn K (.ref zj)=Θ)
  (lX:θ K ξ "_law_order"=ζ (ζ (.ref zq))) (Cp:K.lookup zq=ζ ⟨WW,Wi,.func (PySem.W.fnOf "_law_order" "_law_order" (cW qO) (cF qO) (aV qO) .none ZE acJ TF aeN My adq),QZ⟩) (FJ:PySem.W.codeIn K My "_law_order"=Θ) (C1:PySem.W.keepIn K (.ref zq)=Θ)
  (l5:θ K ξ "_law_joined"=ζ (ζ (.ref zx))) (Ct:K.lookup zx=ζ ⟨W7,Wm,.func (PySem.W.fnOf "_law_joined" "_law_joined" (cW qS) (cF qS) (aV qS) .none ZI acN TM aeR MC adv),Q4⟩) (FP:PySem.W.codeIn K MC "_law_joined"=Θ) (C5:PySem.W.keepIn K (.ref zx)=Θ)
  (lT:θ K ξ "_law_scattered"=ζ (ζ (.ref zk))) (Ci:K.lookup zk=ζ ⟨WR,Wb,.func (PySem.W.fnOf "_law_scattered" "_law_scattered" (cW qJ) (cF qJ) (aV qJ) .none Zx acE Tt aeI Mt adl),QU⟩) (FE:PySem.W.codeIn K Mt "_law_scattered"=Θ) (CV:PySem.W.keepIn K (.ref zk)=Θ)
  (lY:θ K ξ "_law_near"=ζ (ζ (.ref zu))) (Cq:K.lookup zu=ζ ⟨WX,Wj,.func (PySem.W.fnOf "_law_near" "_law_near" (cW qP) (cF qP) (aV qP) .none ZF acK TH aeO Mz ads),Q0⟩) (FL:PySem.W.codeIn K Mz "_law_near"=Θ) (C2:PySem.W.keepIn K (.ref zu)=Θ)
  (lW:θ K ξ "_law_plain"=ζ (ζ (.ref zp))) (Co:K.lookup zp=ζ ⟨WV,Wh,.func (PySem.W.fnOf "_law_plain" "_law_plain" (cW qN) (cF qN) (aV qN) .none ZD acI Tz aeM Mx adp),QY⟩) (FI:PySem.W.codeIn K Mx "_law_plain"=Θ) (C0:PySem.W.keepIn K (.ref zp)=Θ)
  (lZ:θ K ξ "_law_moved"=ζ (ζ (.ref zv))) (Cr:K.lookup zv=ζ ⟨WY,Wk,.func (PySem.W.fnOf "_law_moved" "_law_moved" (cW qQ) (cF qQ) (aV qQ) .none ZG acL TJ aeP MA adt),Q2⟩) (FN:PySem.W.codeIn K MA "_law_moved"=Θ) (C3:PySem.W.keepIn K (.ref zv)=Θ)
  (lQ:θ K ξ "_law_toggled"=ζ (ζ (.ref zg))) (Ce:K.lookup zg=ζ ⟨WN,V8,.func (PySem.W.fnOf "_law_toggled" "_law_toggled" (cW qG) (cF qG) (aV qG) .none Zu acB Tp aeF Mq adi),QO⟩) (Fz:PySem.W.codeIn K Mq "_law_toggled"=Θ) (CS:PySem.W.keepIn K (.ref zg)=Θ)
  (l9:θ K ξ "_law_about"=ζ (ζ (.ref zB))) (Cy:K.lookup zB=ζ ⟨Xb,Wr,.func (PySem.W.fnOf "_law_about" "_law_about" (cW qW) (cF qW) (aV qW) .none ZM acR TU aeV MG adz),Q8⟩) (FW:PySem.W.codeIn K MG "_law_about"=Θ) (C9:PySem.W.keepIn K (.ref zB)=Θ)
  (l7:θ K ξ "_law_built"=ζ (ζ (.ref zz))) (Cv:K.lookup zz=ζ ⟨W9,Wo,.func (PySem.W.fnOf "_law_built" "_law_built" (cW qU) (cF qU) (aV qU) .none ZK acP TQ aeT ME adx),Q6⟩) (FT:PySem.W.codeIn K ME "_law_built"=Θ) (C7:PySem.W.keepIn K (.ref zz)=Θ)
  (lU:θ K ξ "_law_rows"=ζ (ζ (.ref zm))) (Ck:K.lookup zm=ζ ⟨WT,Wf,.func (PySem.W.fnOf "_law_rows" "_law_rows" (cW qL) (cF qL) (aV qL) .none Zz acG Tv aeK Mv adn),QW⟩) (FG:PySem.W.codeIn K Mv "_law_rows"=Θ) (CY:PySem.W.keepIn K (.ref zm)=Θ)
  (lN:θ K ξ "_law_whole"=ζ (ζ (.ref zd))) (Cb:K.lookup zd=ζ ⟨WK,V5,.func (PySem.W.fnOf "_law_whole" "_law_whole" (cW qD) (cF qD) (aV qD) .none Zr acy Tj aeC Mm adf),QL⟩) (Fw:PySem.W.codeIn K Mm "_law_whole"=Θ) (CO:PySem.W.keepIn K (.ref zd)=Θ)
  (kr:θ K ξ "_law_same"=ζ (ζ (.ref zl))) (Cj:K.lookup zl=ζ ⟨WS,We,.func (PySem.W.fnOf "_law_same" "_law_same" (cW qK) (cF qK) (aV qK) .none Zy acF Tu aeJ Mu adm),QV⟩) (FF:PySem.W.codeIn K Mu "_law_same"=Θ) (CW:PySem.W.keepIn K (.ref zl)=Θ)
  (lR:θ K ξ "_law_text_of"=ζ (ζ (.ref zh))) (Cf:K.lookup zh=ζ ⟨WO,V9,.func (PySem.W.fnOf "_law_text_of" "_law_text_of" (cW qH) (cF qH) (aV qH) .none Zv acC Tq aeG Mr adj),QS⟩) (FA:PySem.W.codeIn K Mr "_law_text_of"=Θ) (CT:PySem.W.keepIn K (.ref zh)=Θ)
  (l8:θ K ξ "_law_bent_text"=ζ (ζ (.ref zA))) (Cw:K.lookup zA=ζ ⟨Xa,Wq,.func (PySem.W.fnOf "_law_bent_text" "_law_bent_text" (cW qV) (cF qV) (aV qV) .none ZL acQ TR aeU MF ady),Q7⟩) (FU:PySem.W.codeIn K MF "_law_bent_text"=Θ) (C8:PySem.W.keepIn K (.ref zA)=Θ)
  (lO:θ K ξ "_law_web_due"=ζ (ζ (.ref ze))) (Cc:K.lookup ze=ζ ⟨WL,V6,.func (PySem.W.fnOf "_law_web_due" "_law_web_due" (cW qE) (cF qE) (aV qE) .none Zs acz Tn aeD Mn adg),QM⟩) (Fx:PySem.W.codeIn K Mn "_law_web_due"=Θ) (CP:PySem.W.keepIn K (.ref ze)=Θ)
  (l0:θ K ξ "_law_kind_of"=ζ (ζ (.ref zw))) (Cs:K.lookup zw=ζ ⟨WZ,Wl,.func (PySem.W.fnOf "_law_kind_of" "_law_kind_of" (cW qR) (cF qR) (aV qR) .none ZH acM TL aeQ MB adu),Q3⟩) (FO:PySem.W.codeIn K MB "_law_kind_of"=Θ) (C4:PySem.W.keepIn K (.ref zw)=Θ)
  (lP:θ K ξ "_law_told"=ζ (ζ (.ref zf))) (Cd:K.lookup zf=ζ ⟨WM,V7,.func (PySem.W.fnOf "_law_told" "_law_told" (cW qF) (cF qF) (aV qF) .none Zt acA To aeE Mp adh),QN⟩) (Fy:PySem.W.codeIn K Mp "_law_told"=Θ) (CQ:PySem.W.keepIn K (.ref zf)=Θ)
  (ku:θ K ξ "law"=ζ (ζ (.ref Et))) (Cz:K.lookup Et=ζ ⟨Xe,Ws,.func (PySem.W.fnOf "law" "law" (cW qX) (cF qX) (aV qX) .none ZN acS TV aeW MH adA),Q9⟩) (FY:PySem.W.codeIn K MH "law"=Θ) (Dc:PySem.W.keepIn K (.ref Et)=Θ)
  (Aq:θ K ξ "ValueError"=ζ η)
  (Ao:θ K ξ "all"=ζ η)
  (An:θ K ξ "any"=ζ η)
  (Am:θ K ξ "bool"=ζ η)
  (Al:θ K ξ "int"=ζ η)
  (Ak:θ K ξ "isinstance"=ζ η)
  (Aj:θ K ξ "len"=ζ η)
  (Ai:θ K ξ "list"=ζ η)
  (Ah:θ K ξ "max"=ζ η)
  (Ag:θ K ξ "min"=ζ η)
  (Af:θ K ξ "range"=ζ η)
  (Ae:θ K ξ "str"=ζ η)
  (Ad:θ K ξ "tuple"=ζ η)
  (Ac:θ K ξ "zip"=ζ η)
  {uC:Tok}(Ar:θ K ξ "TIED"=ζ (ζ (.str "#" uC)))
  {uE:Tok}(Au:θ K ξ "APART"=ζ (ζ (.str "." uE)))
  {uD:Tok}(As:θ K ξ "MOST_PLACES"=ζ (ζ (.int 50 uD)))
  {sR:Ξ}(xT:θ K ξ "NoWeb"=ζ (ζ (.ref sR)))
  {pO:Ξ}(rP:θ K ξ "NoText"=ζ (ζ (.ref pO)))
  {sX:Ξ}(xY:θ K ξ "NoNumbers"=ζ (ζ (.ref sX)))
  {sZ:Ξ}(x6:θ K ξ "NoField"=ζ (ζ (.ref sZ)))
  {sS:Ξ}(xU:θ K ξ "NoThing"=ζ (ζ (.ref sS)))
  {sU:Ξ}(xV:θ K ξ "NoSquare"=ζ (ζ (.ref sU)))
  {sW:Ξ}(xX:θ K ξ "NoPlaces"=ζ (ζ (.ref sW)))
  {sQ:Ξ}(xS:θ K ξ "TooMany"=ζ (ζ (.ref sQ)))
  {sY:Ξ}(xZ:θ K ξ "NoName"=ζ (ζ (.ref sY)))
  {tu:Ξ}(x8:θ K ξ "NoDeed"=ζ (ζ (.ref tu)))
  {sV:Ξ}(xW:θ K ξ "NoRow"=ζ (ζ (.ref sV)))
  {nR:Ξ}(xR:θ K ξ "WebError"=ζ (ζ (.ref nR)))
  (EB:PySem.W.excIn K pO wV "ValueError.__new__"=Θ)
  {mT mR:Ξ}(oB:PySem.W.tabIn K "web_of"=ζ (mT,mR)) (qp:PySem.W.codeHdIn K mT mR=Θ)
  (qq:uF K=Θ)
  (gE:Aw K eW=Θ) (xw:Av K eW nR=Θ)
  : ∃fd:ν,(∀(s:ι) (v:Ψ),aa2 s fd ⟨[v],[]⟩ [("script",v)])/\∀base:υ,K.In base->base.Ns ξ mg->bX l.prog w K mg base bQ 9 fa fd ["script"] (bY K 1 yx):=by
 have e:=hfa.symm.trans (ahp X G ku);cases e;have NK:=dI (st:=rj) CC F1 Df;have pV:=NK.binds (ps:=["thing"]) λ_ _ _ _ _ _ us hl=>match us,hl with|[_],_=>rfl
 have NJ:=dI (st:=qZ) CB F0 De;have pU:=NJ.binds (ps:=["thing","least","most"]) λ_ _ _ _ _ _ us hl=>match us,hl with|[_,_,_],_=>rfl
 have NL:=dI (st:=rm) CD F2 Dg;have pW:=NL.binds (ps:=["thing","many"]) λ_ _ _ _ _ _ us hl=>match us,hl with|[_,_],_=>rfl
 have NN:=dI (st:=rq) CF F3 Dh;have tU:=NN.binds (ps:=["thing","many"]) λ_ _ _ _ _ _ us hl=>match us,hl with|[_,_],_=>rfl
 have NP:=dI (st:=rB) CH F5 Dj;have tV:=NP.binds (ps:=["thing","many"]) λ_ _ _ _ _ _ us hl=>match us,hl with|[_,_],_=>rfl
 have Nf:=dI (st:=qA) B8 Fq CL;have tF:=Nf.binds (ps:=["many","one","are_tied"]) λ_ _ _ _ _ _ us hl=>match us,hl with|[_,_,_],_=>rfl
 have Nc:=dI (st:=qz) B6 Fo CJ;have tw:=Nc.binds (ps:=["many","are_tied"]) λ_ _ _ _ _ _ us hl=>match us,hl with|[_,_],_=>rfl
 have Nd:=dI (st:=oJ) B7 Fp CK;have tE:=Nd.binds (ps:=["many","pairs"]) λ_ _ _ _ _ _ us hl=>match us,hl with|[_,_],_=>rfl
 have NI:=dI (st:=qY) CA FZ Dd;have tT:=NI.binds (ps:=["word","place"]) λ_ _ _ _ _ _ us hl=>match us,hl with|[_,_],_=>rfl
 have NO:=dI (st:=rA) CG F4 Di;have lH:=NO.binds (ps:=["words"]) λ_ _ _ _ _ _ us hl=>match us,hl with|[_],_=>rfl
 have Nh:=dI (st:=qC) Ca Fv CN;have nS:=Nh.binds (ps:=["words"]) λ_ _ _ _ _ _ us hl=>match us,hl with|[_],_=>rfl
 have Ng:=dI (st:=qB) B9 Ft CM;have lE:=Ng.binds (ps:=["text"]) λ_ _ _ _ _ _ us hl=>match us,hl with|[_],_=>rfl
 have NC:=dI (st:=qT) Cu FQ C6;have pS:=NC.binds (ps:=["script","k"]) λ_ _ _ _ _ _ us hl=>match us,hl with|[_,_],_=>rfl
 have Nt:=dI (st:=qM) Cm FH CZ;have pR:=Nt.binds (ps:=["cell"]) λ_ _ _ _ _ _ us hl=>match us,hl with|[_],_=>rfl
 have Nn:=dI (st:=qI) Cg FD CU;have pQ:=Nn.binds (ps:=["pot","far"]) λ_ _ _ _ _ _ us hl=>match us,hl with|[_,_],_=>rfl
 have Nv:=dI (st:=qO) Cp FJ C1;have tM:=Nv.binds (ps:=["pot","wide"]) λ_ _ _ _ _ _ us hl=>match us,hl with|[_,_],_=>rfl
 have NB:=dI (st:=qS) Ct FP C5;have tQ:=NB.binds (ps:=["many","wanted"]) λ_ _ _ _ _ _ us hl=>match us,hl with|[_,_],_=>rfl
 have Np:=dI (st:=qJ) Ci FE CV;have tK:=Np.binds (ps:=["pot","most"]) λ_ _ _ _ _ _ us hl=>match us,hl with|[_,_],_=>rfl
 have Nx:=dI (st:=qP) Cq FL C2;have tN:=Nx.binds (ps:=["many","marks"]) λ_ _ _ _ _ _ us hl=>match us,hl with|[_,_],_=>rfl
 have Nu:=dI (st:=qN) Co FI C0;have tL:=Nu.binds (ps:=["pot","most"]) λ_ _ _ _ _ _ us hl=>match us,hl with|[_,_],_=>rfl
 have Ny:=dI (st:=qQ) Cr FN C3;have tO:=Ny.binds (ps:=["table","order"]) λ_ _ _ _ _ _ us hl=>match us,hl with|[_,_],_=>rfl
 have Nl:=dI (st:=qG) Ce Fz CS;have tH:=Nl.binds (ps:=["table","one","other"]) λ_ _ _ _ _ _ us hl=>match us,hl with|[_,_,_],_=>rfl
 have NG:=dI (st:=qW) Cy FW C9;have tS:=NG.binds (ps:=["table"]) λ_ _ _ _ _ _ us hl=>match us,hl with|[_],_=>rfl
 have ND:=dI (st:=qU) Cv FT C7;have tR:=ND.binds (ps:=["pot","most"]) λ_ _ _ _ _ _ us hl=>match us,hl with|[_,_],_=>rfl
 have Nr:=dI (st:=qL) Ck FG CY;have nT:=Nr.binds (ps:=["table"]) λ_ _ _ _ _ _ us hl=>match us,hl with|[_],_=>rfl
 have Ni:=dI (st:=qD) Cb Fw CO;have tG:=Ni.binds (ps:=["found"]) λ_ _ _ _ _ _ us hl=>match us,hl with|[_],_=>rfl
 have Nq:=dI (st:=qK) Cj FF CW;have lG:=Nq.binds (ps:=["found","due"]) λ_ _ _ _ _ _ us hl=>match us,hl with|[_,_],_=>rfl
 have Nm:=dI (st:=qH) Cf FA CT;have pP:=Nm.binds (ps:=["table"]) λ_ _ _ _ _ _ us hl=>match us,hl with|[_],_=>rfl
 have NF:=dI (st:=qV) Cw FU C8;have nU:=NF.binds (ps:=["pot","text","signs","odds"]) λ_ _ _ _ _ _ us hl=>match us,hl with|[_,_,_,_],_=>rfl
 have Nj:=dI (st:=qE) Cc Fx CP;have kj:=Nj.binds (ps:=["text"]) λ_ _ _ _ _ _ us hl=>match us,hl with|[_],_=>rfl
 have Nz:=dI (st:=qR) Cs FO C4;have tP:=Nz.binds (ps:=["e"]) λ_ _ _ _ _ _ us hl=>match us,hl with|[_],_=>rfl
 have Nk:=dI (st:=qF) Cd Fy CQ;have lF:=Nk.binds (ps:=["thing"]) λ_ _ _ _ _ _ us hl=>match us,hl with|[_],_=>rfl
 have NH:=dI (st:=qX) Cz FY Dc;have pT:=NH.binds (ps:=["script"]) λ_ _ _ _ _ _ us hl=>match us,hl with|[_],_=>rfl
 let T:Tx K mg:={
  mq:=zE,Em:=_,EZ:=⟨NK,ahp X G mq,pV⟩,Yv:=mq,
  mj:=zD,El:=_,EY:=⟨NJ,ahp X G mj,pU⟩,Yu:=mj,
  mw:=zF,Eo:=_,zO:=⟨NL,ahp X G mw,pW⟩,Yw:=mw,
  mz:=zG,Ep:=_,E5:=⟨NN,ahp X G mz,tU⟩,Yx:=mz,
  mD:=zI,Es:=_,E6:=⟨NP,ahp X G mD,tV⟩,Yz:=mD,
  lK:=za,DV:=_,EF:=⟨Nf,ahp X G lK,tF⟩,XW:=lK,
  lI:=yZ,DT:=_,ED:=⟨Nc,ahp X G lI,tw⟩,XU:=lI,
  lJ:=y9,DU:=_,EE:=⟨Nd,ahp X G lJ,tE⟩,JW:=lJ,
  mh:=zC,Ek:=_,EX:=⟨NI,ahp X G mh,tT⟩,Yt:=mh,
  mC:=zH,Er:=_,zP:=⟨NO,ahp X G mC,lH⟩,Yy:=mC,
  lM:=zc,DW:=_,EG:=⟨Nh,ahp X G lM,nS⟩,XY:=lM,
  kq:=zb,yX:=_,vF:=⟨Ng,ahp X G kq,lE⟩,XX:=kq,
  l6:=zy,Ef:=_,ET:=⟨NC,ahp X G l6,pS⟩,Yo:=l6,
  lV:=zo,D7:=_,EM:=⟨Nt,ahp X G lV,pR⟩,Yh:=lV,
  lS:=zj,D4:=_,fc:=⟨Nn,ahp X G lS,pQ⟩,Yc:=lS,
  lX:=zq,D9:=_,EO:=⟨Nv,ahp X G lX,tM⟩,Yj:=lX,
  l5:=zx,Ed:=_,zN:=⟨NB,ahp X G l5,tQ⟩,Yn:=l5,
  lT:=zk,D5:=_,EL:=⟨Np,ahp X G lT,tK⟩,Yd:=lT,
  lY:=zu,Ea:=_,zM:=⟨Nx,ahp X G lY,tN⟩,Yk:=lY,
  lW:=zp,D8:=_,EN:=⟨Nu,ahp X G lW,tL⟩,Yi:=lW,
  lZ:=zv,Eb:=_,ER:=⟨Ny,ahp X G lZ,tO⟩,Yl:=lZ,
  lQ:=zg,D0:=_,EJ:=⟨Nl,ahp X G lQ,tH⟩,X8:=lQ,
  l9:=zB,Ei:=_,EW:=⟨NG,ahp X G l9,tS⟩,Yr:=l9,
  l7:=zz,Eg:=_,EU:=⟨ND,ahp X G l7,tR⟩,Yp:=l7,
  lU:=zm,D6:=_,vH:=⟨Nr,ahp X G lU,nT⟩,Yg:=lU,
  lN:=zd,DX:=_,EH:=⟨Ni,ahp X G lN,tG⟩,XZ:=lN,
  kr:=zl,yY:=_,vG:=⟨Nq,ahp X G kr,lG⟩,Ye:=kr,
  lR:=zh,D3:=_,EK:=⟨Nm,ahp X G lR,pP⟩,Yb:=lR,
  l8:=zA,Eh:=_,EV:=⟨NF,ahp X G l8,nU⟩,Yq:=l8,
  lO:=ze,DY:=_,EI:=⟨Nj,ahp X G lO,kj⟩,X0:=lO,
  l0:=zw,Ec:=_,ES:=⟨Nz,ahp X G l0,tP⟩,Ym:=l0,
  lP:=zf,DZ:=_,sL:=⟨Nk,ahp X G lP,lF⟩,X7:=lP,
  ku:=fa,Ej:=_,LZ:=⟨NH,ahp X G ku,pT⟩,Ys:=ku,
  JV:=ah4 X G Aq,
  yt:=ah4 X G Ao,
  JU:=ah4 X G An,
  vd:=ah4 X G Am,
  rU:=ah4 X G Al,
  dU:=ah4 X G Ak,
  eK:=ah4 X G Aj,
  vc:=ah4 X G Ai,
  JT:=ah4 X G Ah,
  oU:=ah4 X G Ag,
  cZ:=ah4 X G Af,
  kT:=ah4 X G Ae,
  kR:=ah4 X G Ad,
  JR:=ah4 X G Ac,
  uC:=uC,DL:=ahp X G Ar,
  uE:=uE,Ly:=ahp X G Au,
  uD:=uD,Lx:=ahp X G As,
  sR:=sR,Lm:=ahp X G xT,JH:=xT,
  pO:=pO,Lo:=ahp X G rP,JJ:=rP,
  sX:=sX,Ls:=ahp X G xY,JN:=xY,
  sZ:=sZ,Lv:=ahp X G x6,JP:=x6,
  sS:=sS,Ln:=ahp X G xU,JI:=xU,
  sU:=sU,Lp:=ahp X G xV,JK:=xV,
  sW:=sW,Lr:=ahp X G xX,JM:=xX,
  sQ:=sQ,Ll:=ahp X G xS,JG:=xS,
  sY:=sY,Lu:=ahp X G xZ,JO:=xZ,
  tu:=tu,Lw:=ahp X G x8,JQ:=x8,
  sV:=sV,Lq:=ahp X G xW,JL:=xW,
  nR:=nR,Lk:=ahp X G xR,XS:=xR,
  AA:=vX.of rP (ahp X G rP) EB,
  mT:=mT,mR:=mR,oB:=oB,qp:=qp,
  qq:=qq,
  gE:=vW.of gE,xw:=xw}
 exact⟨_,λs v=>.of_eq rfl,λbase _ _=>VF T⟩
theorem walk{l:aa1}{q:τ}{loose:List Str}{XP:(Str->Option Ψ)->υ->Prop}{YP:ω->υ->Prop}{d:DefRec}{K:Params->Δ}{ts:List (Ξ×Ξ)}(hn:l.most=ζ 63) (hdf:d.params.defaults=[])
  (hY:∀(w:ω) (h:υ),YP w h->(K w.params).In h/\∀q∈ts,h.get? q.2=ζ (PySem.W.tabObj #[]))
  (hK:∀p,(ts.all λq=>PySem.W.codeHdIn (K p) q.1 q.2)=Θ/\PySem.W.noTabs (K p)=Θ/\AV (K p) ts=Θ)
  (F:∀(w:ω) (mg:Str->Option Ψ) (fa:Ξ) (h:υ),(K w.params).In h->h.Ns ξ mg->mg d.name=ζ (.ref fa) ->
   ∃fd:ν,(∀(s:ι) (u:Ψ),aa2 s fd ⟨[u],[]⟩ [("script",u)])/\∀base:υ,(K w.params).In base->base.Ns ξ mg->bX l.prog w (K w.params) mg base bQ 9 fa fd ["script"] (bY (K w.params) 1 yx)) :
  PySem.W.WalkO q loose XP YP l.row.toRowW d [] (λf vs=>PySem.call f vs) :=
 L2.OH (n:=63) (k:=9) (x:="script") hn (by decide) hdf ⟨rfl,by decide,by decide⟩ hY hK F Y8
end Ev
noncomputable 
def PySem.W.Fast.tw10178145903237814472:Nat:=0
noncomputable def PySem.W.Fast.tw15416715032927816487:Nat:=0
noncomputable def PySem.W.Fast.tw13483497116566426405:Nat:=0
noncomputable def PySem.W.Fast.tw13602648284514336340:Nat:=0
noncomputable def PySem.W.Fast.tw8291516491736550530:Nat:=0
noncomputable def PySem.W.Fast.tw4729224097603151299:Nat:=0
noncomputable def PySem.W.Fast.tw2935270294328440437:Nat:=0
noncomputable def PySem.W.Fast.tw17010408588630289555:Nat:=0
noncomputable def PySem.W.Fast.tw12170505441871184684:Nat:=0
noncomputable def PySem.W.Fast.tw1158022781224824759:Nat:=0
noncomputable def PySem.W.Fast.tw1404343651683799117:Nat:=0
noncomputable def PySem.W.Fast.tw3524475224215967028:Nat:=0
noncomputable def PySem.W.Fast.tw4719961280666323716:Nat:=0
noncomputable def PySem.W.Fast.tw17760687237239472253:Nat:=0
noncomputable def PySem.W.Fast.tw3435970202455371911:Nat:=0
noncomputable def PySem.W.Fast.tw8167953020972174769:Nat:=0
noncomputable def PySem.W.Fast.tw1884630720675473639:Nat:=0
noncomputable def PySem.W.Fast.tw15560098362267049324:Nat:=0
noncomputable def PySem.W.Fast.tw12163952159870912969:Nat:=0
noncomputable def PySem.W.Fast.tw4972681877253939904:Nat:=0
noncomputable def PySem.W.Fast.tw16143088115952698369:Nat:=0
noncomputable def PySem.W.Fast.tw2843127188729806613:Nat:=0
noncomputable def PySem.W.Fast.tw6156267391197936655:Nat:=0
noncomputable def PySem.W.Fast.tw13722560903533173059:Nat:=0
noncomputable def PySem.W.Fast.tw1538971440504856409:Nat:=0
noncomputable def PySem.W.Fast.tw12408757741304084154:Nat:=0
noncomputable def PySem.W.Fast.tw2023197828854292676:Nat:=0
noncomputable def PySem.W.Fast.tw7526484768577598287:Nat:=0
noncomputable def PySem.W.Fast.tw18331969878754502184:Nat:=0
noncomputable def PySem.W.Fast.tw4409496492564625357:Nat:=0
noncomputable def PySem.W.Fast.tw5077076514608038012:Nat:=0
noncomputable def PySem.W.Fast.tw5104587020801386234:Nat:=0
noncomputable def PySem.W.Fast.tw2243964780019788208:Nat:=0
noncomputable def PySem.W.Fast.tw8604613170150800429:Nat:=0
noncomputable def PySem.W.Fast.tw9958563650150993135:Nat:=0
noncomputable def PySem.W.Fast.tw896311106958262828:Nat:=0
noncomputable def PySem.W.Fast.tw2673547491682155548:Nat:=0
noncomputable def PySem.W.Fast.tw1141354845223035270:Nat:=0
noncomputable def PySem.W.Fast.tw4231955840686422796:Nat:=0
noncomputable def PySem.W.Fast.tw14677233161254480635:Nat:=0
noncomputable def PySem.W.Fast.tw1093896780116333882:Nat:=0
noncomputable def PySem.W.Fast.tw4809583105512500798:Nat:=0
noncomputable def PySem.W.Fast.tw418723914676963056:Nat:=0
noncomputable def PySem.W.Fast.tw6491769146659182931:Nat:=0
noncomputable def PySem.W.Fast.tw10202103358144981812:Nat:=0
noncomputable def PySem.W.Fast.tw14592674986080576267:Nat:=0
noncomputable def PySem.W.Fast.tw4124561567639519967:Nat:=0
open PySem PySem.W PyProof.Rows
set_option maxRecDepth 100000 in
set_option maxHeartbeats 0 in
theorem PySem.Challenge.cw_evenwebs_k04_texts_of_no_web_holds : PySem.Challenge.rw_evenwebs_k04_texts_of_no_web.Holds := by
  w_on; o_law; k_head; (case hw => w_witness2)
  k_fill
  refine Ev.walk (l := PySem.Challenge.rw_evenwebs_k04_texts_of_no_web) (ts := [(208, 204)]) rfl rfl (fun w h Y => ⟨PySem.W.km_in_of Y, List.forall_mem_cons.mpr ⟨PySem.W.km_tabs_of Y _ (by first | k_mem | decide), fun _ h => nomatch h⟩⟩) (fun p => ⟨by kernel_rfl, by kernel_rfl, by kernel_rfl⟩) ?F
  case F =>
    intro w mg fa h KX G hmg
    refine' Ev.all_mk (mT := 208) (mR := 204) KX G hmg ?mq ?CC ?F1 ?Df ?mj ?CB ?F0 ?De ?mw ?CD ?F2 ?Dg ?mz ?CF ?F3 ?Dh ?mD ?CH ?F5 ?Dj ?lK ?B8 ?Fq ?CL ?lI ?B6 ?Fo ?CJ ?lJ ?B7 ?Fp ?CK ?mh ?CA ?FZ ?Dd ?mC ?CG ?F4 ?Di ?lM ?Ca ?Fv ?CN ?kq ?B9 ?Ft ?CM ?l6 ?Cu ?FQ ?C6 ?lV ?Cm ?FH ?CZ ?lS ?Cg ?FD ?CU ?lX ?Cp ?FJ ?C1 ?l5 ?Ct ?FP ?C5 ?lT ?Ci ?FE ?CV ?lY ?Cq ?FL ?C2 ?lW ?Co ?FI ?C0 ?lZ ?Cr ?FN ?C3 ?lQ ?Ce ?Fz ?CS ?l9 ?Cy ?FW ?C9 ?l7 ?Cv ?FT ?C7 ?lU ?Ck ?FG ?CY ?lN ?Cb ?Fw ?CO ?kr ?Cj ?FF ?CW ?lR ?Cf ?FA ?CT ?l8 ?Cw ?FU ?C8 ?lO ?Cc ?Fx ?CP ?l0 ?Cs ?FO ?C4 ?lP ?Cd ?Fy ?CQ ?ku ?Cz ?FY ?Dc ?Aq ?Ao ?An ?Am ?Al ?Ak ?Aj ?Ai ?Ah ?Ag ?Af ?Ae ?Ad ?Ac ?Ar ?Au ?As ?xT ?rP ?xY ?x6 ?xU ?xV ?xX ?xS ?xZ ?x8 ?xW ?xR ?EB ?oB ?qp ?qq ?gE ?xw
    case mq|CC|F1|Df|mj|CB|F0|De|mw|CD|F2|Dg|mz|CF|F3|Dh|mD|CH|F5|Dj|lK|B8|Fq|CL|lI|B6|Fo|CJ|lJ|B7|Fp|CK|mh|CA|FZ|Dd|mC|CG|F4|Di|lM|Ca|Fv|CN|kq|B9|Ft|CM|l6|Cu|FQ|C6|lV|Cm|FH|CZ|lS|Cg|FD|CU|lX|Cp|FJ|C1|l5|Ct|FP|C5|lT|Ci|FE|CV|lY|Cq|FL|C2|lW|Co|FI|C0|lZ|Cr|FN|C3|lQ|Ce|Fz|CS|l9|Cy|FW|C9|l7|Cv|FT|C7|lU|Ck|FG|CY|lN|Cb|Fw|CO|kr|Cj|FF|CW|lR|Cf|FA|CT|l8|Cw|FU|C8|lO|Cc|Fx|CP|l0|Cs|FO|C4|lP|Cd|Fy|CQ|ku|Cz|FY|Dc|Aq|Ao|An|Am|Al|Ak|Aj|Ai|Ah|Ag|Af|Ae|Ad|Ac|Ar|Au|As|xT|rP|xY|x6|xU|xV|xX|xS|xZ|x8|xW|xR=>k_is
    (case EB => k_exc)
    (case oB => kernel_rfl)
    (case qp => kernel_rfl)
    (case qq => kernel_rfl)
    (case gE => kernel_rfl)
    (case xw => kernel_rfl)
