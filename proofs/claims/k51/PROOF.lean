import PyProof.Rows.All
import Wide.All
import OpenK.AllK
import Wide.FinOn
import Lean
import PyProof.EqAt
import PyProof.EqKinds
import PyProof.TupleCall
import PySem.Challenge.RW_evenwebs_k51_what_is_a_square
import PyProof.P3In
import PyProof.EqLayable
import PyProof.SumAny
import PyProof.NoPylong
import PyProof.FitsBits
import PyProof.Rows.Range3
import PyProof.ExcArgsOwn
import PyProof.ExcBaseAll.ValueError
import PyProof.Rows.SeqMore
import PyProof.DictRoads
import PyProof.DictKinds
import PyProof.Rows.FactsT2
import KE.KRevIter
import PyProof.SetScanFacts
import PyProof.SetKind
import PyProof.Rows.SetFrom
import PyProof.Walks
import PyProof.DictValues
import PyProof.FactsAll.set_1
import PyProof.DictWalks
import KE.KDictSum
import PyProof.SetRoads
import PyProof.MeetsSeq2
import PyProof.WalksMore
import PyProof.AutoSeq1
import PyProof.IsRules
import PyProof.ListRange
import PyProof.Rows.SortShell
import PyProof.TupleOfSeq
set_option Elab.async false
set_option linter.all false
set_option maxHeartbeats 4000000
set_option maxRecDepth 100000
set_option bootstrap.genMatcherCode false
set_option genSizeOfSpec false
set_option genSizeOf false
open PySem renaming wpAny_bind→akR,wpAny_pure→akS,boot_len→ak5,wpAny_mono→alq,wpAny_field→alG,wpAny_holding→alJ,wpAny_call_entry→alR,codeAny_builtin→alW,codeAny_mono→al1,wpAny_newObj_type→al4,wpAny_seqItems→al7,wpAny_truthy_bool→al9,sizeLine_eq→ama,wpAny_setState_of→amh,mem_of_lookup→ami,wpAny_callSpecial?_slot→amj,call_meets→amm,wpAny_passesOwn→ams,wpAny_setField_rec→amH,wpAny_execs_nil→amT,wpAny_call→amV,wpAny_typeOf→amX,wpAny_setField→am1,wpAny_rule→am2,wpAny_of_eq→am3,codeAny_call_builtin→am7,wpAny_askSetting→ane,wpAny_pyIter_list→ani,wpAny_pyIter_tuple→anj,wpAny_Call_Name_kw→ank,wpAny_onRaise→anu,wpAny_attempt→anv,wpAny_storeSet_of→anJ,codeAny_of_tree→anM,wpAny_runValue→anN,isSubtype_type→anO,concat_meets→an1,noFill_tuple_add→an2,seq_tuple_add→an3,pushCells_keeps→aod,wpAny_updateSeq_pair→aog,wpAny_isInstance→aoh,wpAny_pyIter_zip→aoi,wpAny_loadPart_at→aol,hashByValue_scannable→aoy,plainId_quiet→aoz,weight_type_call_type→aoC,check_set_init_1→aoF,wpAny_setEntries_of→aoH,wpAny_newList→aoI,wpAny_pyNext_range_end→aoY,wpAny_pyIter_rangeiter→aoZ,codeAny_call_function→ao3,wpAny_newFunctionEnv_cells→ao5,list_append→apa,filterMap_getElem?_range→apx,builtinLookup_eq_fast→apB
open Nat renaming le_refl→akT,ne_of_lt→ak3,lt_of_lt_of_le→alc,le_trans→als,zero_add→alz,lt_irrefl→alE,ne_of_gt→alF,le_of_ble_eq_true→alI,lt_succ_of_lt→alT,zero_le→alV,le_succ→al5,lt_succ_self→al6,succ_mul→amd,le_of_eq→amn,le_of_lt→amr,sub_self→amv,mod_lt→amz,le_add_right→amI,testBit_two_pow_sub_one→amK,lt_of_le_of_lt→amZ,add_zero→am4,add_comm→anr,add_left_cancel→anx,not_lt_zero→anD,lt_or_ge→anG,mul_comm→aoc,lt_trans→aoo,lt_trichotomy→aop,min_eq_left→aoQ,mul_le_mul_right→aoR,div_lt_of_lt_mul→aoU,min_le_right→ao6,le_of_not_lt→apb,eq_zero_or_pos→apr,eq_of_beq_eq_true→apO,pow_le_pow_right→apT
open PySem.Heap renaming get?_push_of_some→akU,lt_size→akX,get?_push_size→ak8,size_push→alr,get?_update_other→alS,get?_update_self→amY,size_update→aoJ
open List renaming mem_cons→akV,mem_map→akW,mem_range→akY,all_eq_true→ak0,size_toArray→ak1,map_cons→ak2,length_cons→ak4,length_map→ak6,getElem?_eq_getElem→ak7,not_mem_nil→ala,getElem?_eq_some_iff→alb,getD_eq_getElem?_getD→alg,map_map→alh,length_nil→ali,mem_append→alj,getElem?_map→alk,nil_append→alm,length_append→alp,mem_cons_of_mem→alu,mem_of_getElem?→alv,mem_singleton→alw,append_assoc→alA,mem_cons_self→alC,getElem_mem→alH,getElem?_append_left→alL,lookup_cons→alM,length_range→alN,mem_append_right→alQ,map_append→alU,pairwise_cons→alX,map_congr_left→alY,getElem?_range→alZ,getElem?_set_self→al0,length_take→al2,getElem?_append_right→al3,getElem?_set_ne→al8,append_nil→amb,replicate_succ→amc,set_cons_succ→amf,range_succ→amg,flatten_cons→amk,foldl_cons→aml,nodup_append→amo,mem_of_mem_take→amq,nodup_cons→amu,getElem?_eq_none→amw,pairwise_map→amx,take_append_drop→amy,map_id→amA,filterMap_cons→amC,forIn_cons→amF,getElem_of_mem→amJ,take_length→amN,take_of_length_le→amR,set_cons_zero→amS,mem_filterMap→amU,getElem?_take→am5,mem_of_mem_drop→am9,foldl_append→anb,eraseIdx_eq_take_drop_succ→anf,of_mem_zip→anl,getElem?_replicate→anm,getElem?_take_of_lt→ano,length_replicate→anp,forIn_nil→ant,take_zero→anz,getElem_range→anA,drop_eq_getElem_cons→anB,length_eq_zero_iff→anC,take_succ_eq_append_getElem→anK,map_take→anP,flatMap_cons→anQ,mem_filter→anR,mem_append_left→anT,getElem_inj→anU,take_sublist→an0,length_drop→an8,map_nil→an9,length_set→aoa,mem_iff_getElem→aoj,getElem?_concat_length→aom,pairwise_iff_getElem→aon,mem_erase_of_ne→aoq,length_erase_of_mem→aor,perm_append_singleton→aot,ext_getElem→aou,pairwise_lt_range→aov,map_filterMap→aow,perm_middle→aoG,all_cons→aoM,filter_cons→aoO,flatMap_append→aoP,any_eq_true→aoT,filterMap_map→ao7,getElem?_zip_eq_some→apc,zipIdx_cons→apf,zipIdx_nil→apg,getElem?_zipWith→aph,length_zipWith→api,drop_eq_nil_of_le→apj,getElem_take→apk,countP_cons→apm,findIdx?_eq_some_iff_getElem→apn,length_pos_of_mem→aps,find?_eq_none→apu,perm_ext_iff_of_nodup→apF,ext_getElem?→apH,mem_map_of_mem→apI,zip_append→apJ,getElem?_set→apK,length_reverse→apP,filter_eq_self→apQ,zipWith_cons_cons→apR,mem_flatMap→apS
open PySem.W renaming mg_of→akZ,kia_one→alK,mg_none_of→alO,cellsFrom_some→amW,of_hideAll→anS,kitx_dict→anY,rangeSize_down→aok,hideAll_get→aoV,kitx_list→ao1,callWith_K→ao2,codeRec_of→ao4
open Bool renaming and_eq_true→ak9,false_ne_true→alf,false_eq_true→aly,eq_iff_iff→amt,not_true→amO,or_eq_true→am0,not_false→ana,false_and→anV,and_false→aob,true_and→aos,false_or→aoS,not_eq_true'→apo
open PyProof.Rows renaming boot_isinstance→ald,boot_tuple→alB,vals1→alD,get?_update_seq→amB,callWith_type1→amD,slot_tuple_getitem→amE
open Array renaming length_toList→ale,getElem?_toList→alx,getElem?_eq_getElem→ang,toList_setIfInBounds→anH,toList_push→anI,mem_toList_iff→anW,toList_filterMap→aox,toArray_toList→aoK,append_assoc→aoW,getD_eq_getD_getElem?→apq,foldl_toList→apv,getElem?_eq_none→apC,forIn_toList→apL
open PySem.F renaming called_set→aln,plainAttrs_list→am6,slot_tuple_iterator_next→ans,slot_zip_next→anw,slot_tuple_add→an4,entry_tuple_add→an5,args_tuple_add_2→an6,entry_type_call→aoA,typeCall_set_1→aoD,entry_set_init→aoE,entry_tuple_iterator_next→apd,args_tuple_iterator_next_1→ape,typeOf_object_class→apl,plain_set_new→apy,sub_list_set→apz,sub_list_frozenset→apA,slot_set_iter→apD
open Option.some renaming inj→alo
open Ne renaming symm→alP
open PySem.Heap.SameBut renaming update→ame
open PySem.Obj renaming data_mapFields→amG,isFreed_of_fields→aoe,cls_mapFields→aof
open PySem.SetTable renaming insertAt_perm→amL,toList_insertAt→anE
open PyProof.Rows.F renaming plain_set_update_loop→amM,entry_set_update_loop→anL
open Int renaming emod_nonneg→amP,emod_lt_of_pos→amQ,toNat_natCast→anq,ediv_one→an7,le_refl→aoL,pow_succ→aoN,emod_eq_of_lt→apt,natCast_emod→apM,natCast_add→apN
open PySem.Code renaming quiet_builtin→am8
open PySem.Around renaming under_plainId→anc,under_plain→aoB
open PySem.Value renaming isInt_shape→anh
open Classical renaming byContradiction→anF,choose_spec→apU
open Option renaming isSome_iff_exists→anZ,getD_none→ao8
open PySem.Calls renaming Name_function_global→aoX,call_function_entry→apG
open PyProof renaming noPylong_small→ao0
open PySem.IsL renaming update→ao9
open List.Pairwise renaming filterMap→apw
open List.Perm renaming of_eq→apE
open Option renaming some→ζ,none→η
open List renaming range→θ,replicate→ν,Nodup→υ
open Bool renaming false→ξ,true→Ξ
open PySem.W renaming nsIn→Γ,Frag→Ψ,OpenLaw→adE
open PySem renaming mainGlobals→Δ,Value→Θ,Addr→Ω,Shared→ε,sizeLine→ι,starEach→μ,FuncData→ο,Expr→π,Program→τ,Heap→χ,World→ψ,Around→ω,SetTable→aae,IsTupleKey→aah,Stmt→acz,NameKind→acB,backTo→acF,IsPair→ac8,keywordEach→adj,Keyword→adm,attributeBase→ado,Scope→ads,backToKw→adt,IsZip→adu,cLine→adw,GenState→adx,IsPart→adD,Paired→adF,IsRangeIter→adH,BindsTo→adI,PyData→adN,Draws→adQ,PassesOwn→adV,Result→adY
open PyProof.Rows renaming IntsAre→acI,AllBare→adp
open PySem.Heap renaming FlyingW→acO,SameBut→adi
open PySem.Shared renaming TypeIs→adJ
noncomputable section
namespace L2
open PySem PySem.Spec PyProof.Rows
abbrev Key:=Sum Int Str
def LI:Key->Θ->Bool
 |.inl k,v=>Value.isInt k v
 |.inr x,v=>Value.isStrOf x v
def abN(w:ψ):Key->Int
 |.inl k=>hashInt k
 |.inr x=>hashStr w x
theorem lq:∀{k:Key}{v:Θ},LI k v=Ξ->(∃i t,k=Sum.inl i/\v=Value.int i t)\/(∃x t,k=Sum.inr x/\v=Value.str x t)
 |.inl i,v,h=>by
  obtain⟨t,e⟩:=anh (k:=i) (v:=v) h;exact .inl ⟨i,t,rfl,e⟩
 |.inr x,v,h=>by
  obtain⟨t,e⟩:=Value.isStrOf_shape (x:=x) (v:=v) h;exact .inr ⟨x,t,rfl,e⟩
theorem abL(a b:Int):decide ((Sum.inl a:Key)=Sum.inl b)=(a==b):=by
 by_cases e:a=b
 ·subst e;simp
 ·have h:¬(Sum.inl a:Key)=Sum.inl b:=λq=>e (Sum.inl.inj q)
  rw[decide_eq_false h];exact(beq_eq_false_iff_ne.mpr e).symm
theorem abI(a b:Str):decide ((Sum.inr a:Key)=Sum.inr b)=decide (a=b):=by
 by_cases e:a=b
 ·subst e;simp
 ·have h:¬(Sum.inr a:Key)=Sum.inr b:=λq=>e (Sum.inr.inj q)
  rw[decide_eq_false h,decide_eq_false e]
theorem abK(a:Int) (b:Str):decide ((Sum.inl a:Key)=Sum.inr b)=ξ:=decide_eq_false (λq=>nomatch q)
theorem abJ(a:Str) (b:Int):decide ((Sum.inr a:Key)=Sum.inl b)=ξ:=decide_eq_false (λq=>nomatch q)
def CQ(prog:τ) (w:ψ):PySem.KeyKind prog w Key where
 is:=LI
 hash:=abN w
 inj:=λv a b ha hb=>by
  rcases lq ha with⟨i,t,rfl,rfl⟩|⟨x,t,rfl,rfl⟩
  ·rcases lq hb with⟨j,u,rfl,e⟩|⟨y,u,rfl,e⟩
   ·injection e with e1 _;rw[e1]
   ·exact nomatch e
  ·rcases lq hb with⟨j,u,rfl,e⟩|⟨y,u,rfl,e⟩
   ·exact nomatch e
   ·injection e with e1 _;rw[e1]
 byValue:=λk v h=>by
  rcases lq h with⟨i,t,rfl,rfl⟩|⟨x,t,rfl,rfl⟩<;>rfl
 pyHash:=λhv h=>by
  rcases lq hv with⟨i,t,rfl,rfl⟩|⟨x,t,rfl,rfl⟩
  ·exact wpAny_pyHash_int h
  ·exact wpAny_pyHash_str h
 eqBool:=λhu hv h=>by
  rcases lq hu with⟨i,t,rfl,rfl⟩|⟨x,t,rfl,rfl⟩
  ·rcases lq hv with⟨j,u,rfl,rfl⟩|⟨y,u,rfl,rfl⟩
   ·rw[abL]at h;exact wpAny_eqBool_int h
   ·rw[abK]at h;exact SeqAt.EqAt.int_str i t y u _ _ _ _ h
  ·rcases lq hv with⟨j,u,rfl,rfl⟩|⟨y,u,rfl,rfl⟩
   ·rw[abJ]at h;exact SeqAt.EqAt.str_int x t j u _ _ _ _ h
   ·rw[abI]at h;exact wpAny_eqBool_str h
 «strs»:=λk x t v h=>by
  rcases lq h with⟨i,u,rfl,e⟩|⟨y,u,rfl,e⟩
  ·exact nomatch e
  ·injection e with e1 _
   subst e1;cases v<;>rfl
inductive V where
 |aQ|bl (b:Bool)|int (i:Int)|str (x:Str)|iU (b:Array UInt8)|sS (b:UInt64)|ref (a:Ω)|ty (n:String)
 deriving DecidableEq
def RelV:V->Θ->Prop
 |.aQ,u=>u=Value.none
 |.bl b,u=>u=Value.bool b
 |.int i,u=>∃t,u=Value.int i t
 |.str x,u=>∃t,u=Value.str x t
 |.iU b,u=>∃t,u=Value.bytes b t
 |.sS b,u=>∃t,u=Value.float b t
 |.ref a,u=>u=Value.ref a
 |.ty n,u=>u=Value.type n
abbrev Vals:List V->List Θ->Prop:=adF RelV
theorem Vals.length{xs:List V}{us:List Θ}(r:Vals xs us):xs.length=us.length:=Paired.length r
theorem Vals.get:∀{xs:List V}{us:List Θ}{i:Nat}{x:V},Vals xs us->xs[i]? = ζ x->∃u,us[i]? = ζ u/\RelV x u
 |_,_,_,_,.nil,e=>by simp at e
 |_,_,0,_,.cons r _,e=>by simp at e;subst e;exact⟨_,rfl,r⟩
 |_,_,i+1,x,.cons _ t,e=>by
  obtain⟨u,h1,h2⟩:=Vals.get (i:=i) (x:=x) t (by simpa using e)
  exact⟨u,by simpa using h1,h2⟩
theorem Vals.set{x:V}{u:Θ}(r:RelV x u):∀{xs:List V}{us:List Θ}(i:Nat),Vals xs us->Vals (xs.set i x) (us.set i u)
 |_,_,_,.nil=>.nil
 |_,_,0,.cons _ t=>.cons r t
 |_,_,i+1,.cons q t=>.cons q (Vals.set r i t)
theorem Vals.append:∀{xs ys:List V}{us ws:List Θ},Vals xs us->Vals ys ws->Vals (xs++ys) (us++ws)
 |_,_,_,_,.nil,s=>s
 |_,_,_,_,.cons r t,s=>.cons r (Vals.append t s)
theorem Vals.take:∀{xs:List V}{us:List Θ}(n:Nat),Vals xs us->Vals (xs.take n) (us.take n)
 |_,_,0,_=>.nil
 |_,_,_+1,.nil=>.nil
 |_,_,n+1,.cons r t=>.cons r (Vals.take n t)
theorem Vals.drop:∀{xs:List V}{us:List Θ}(n:Nat),Vals xs us->Vals (xs.drop n) (us.drop n)
 |_,_,0,r=>r
 |_,_,_+1,.nil=>.nil
 |_,_,n+1,.cons _ t=>Vals.drop n t
def HF:Option V->Option Θ->Prop
 |some v,ζ u=>RelV v u
 |none,η=>True
 |_,_=>False
def KV{κ:Type}:List (κ×V)->List (κ×Θ)->Prop:=adF fun(p:κ×V) (q:κ×Θ)=>p.1=q.1/\RelV p.2 q.2
def kV:Key->V
 |.inl i=>.int i
 |.inr x=>.str x
inductive HO where
 |lst (xs:List V)
 |tup (xs:List V)
 |dK (kvs:List (Key×V))|dT (kvs:List (List Key×V))
 |set (S:Int->Bool) (n:Nat)
 |ins (C dx:Ω) (fs:List (Str×V))
 |own (x:Ω)
 |xd (fs:List (Str×V))
 |met (f x:Ω)
 |pq (lo hi:Int)
 |fE (o:Obj) (u:HO)
 |fc (ps:Array Θ)
 |ext (φ:χ->Prop)
abbrev Hp:=Ω->Option HO
def upd(H:Hp) (a:Ω) (o:HO):Hp:=λb=>if b=a then ζ o else H b
theorem fS{H:Hp}{a:Ω}{o:HO}:upd H a o a=ζ o:=by unfold upd;rw[if_pos rfl]
theorem bZ{H:Hp}{a b:Ω}{o:HO}(h:b≠a):upd H a o b=H b:=by unfold upd;rw[if_neg h]
theorem KZ{H:Hp}{a b:Ω}{o u:HO}(h:H a=ζ o) (h':H b=ζ u) (d:o≠u):a≠b:=by
 intro e;subst e;rw[h]at h';exact d (alo h')
theorem d7{H:Hp}{a b:Ω}{o:HO}(h:H a=ζ o) (h':H b=η):a≠b:=by
 intro e;subst e;rw[h]at h';cases h'
def kI(h:χ) (a:Ω) (items:Array Θ):Prop:=∃o,h.get? a=ζ o/\o.cls=.type "tuple"/\(∃n,o.data=.seq items n)/\o.dict=η
theorem kI.tup{h:χ}{a:Ω}{items:Array Θ}:kI h a items->IsTup h a items:=fun⟨o,e,c,d,_⟩=>⟨o,e,c,d⟩
theorem kI.new(h:χ) (items:Array Θ):kI (h.push {cls:=.type "tuple",data:=.seq items}) h.objs.size items:=⟨_,ak8 _ rfl,rfl,⟨_,rfl⟩,rfl⟩
section
variable (P:τ) (w:ψ)
def eY(H:Hp) (h:χ) (a:Ω):HO->Prop
 |.lst xs=>xs.length<=ι/\∃(its:List Θ) (n:Nat),Vals xs its/\h.get? a=ζ {cls:=.type "list",data:=.seq its.toArray n}
 |.tup xs=>xs.length<=ι/\∃its:List Θ,Vals xs its/\kI h a its.toArray
 |.dK kvs=>kvs.length<=ι/\(a==sysModules)=ξ/\∃vs,KV kvs vs/\h.DictOf (CQ P w) a vs
 |.dT kvs=>kvs.length<=ι/\(a==sysModules)=ξ/\∃xs:List (List Key×Ω×Θ),
   adF (fun(p:List Key×V) (q:List Key×Ω×Θ)=>p.1=q.1/\H q.2.1=ζ (.tup (p.1.map kV))/\RelV p.2 q.2.2) kvs xs /\
   ∃o es ep,h.get? a=ζ o/\o.ExactDict/\o.data=.dict es ep/\es.toList=xs.map (entryOfKey (tupleKind (CQ P w)))/\(xs.map (·.1)).Nodup
 |.set S n=>h.SetOf (intKind P w) a S n
 |.ins C dx fs=>H dx=ζ (.own a)/\fs.length<=1000/\dx≠a/\h.get? a=ζ (PySem.W.instObj C dx) /\
   ∃mA,h.Ns1 dx mA/\(∀f,HF (fs.lookup f) (mA f))/\PySem.Within mA (fs.map (·.1))
 |.own _=>∃o,h.get? a=ζ o
 |.xd fs=>∃mA,h.Ns1 a mA/\∀f,HF (fs.lookup f) (mA f)
 |.pq lo hi=>∃t u v,h.get? a=ζ {cls:=.type "range",data:=.fields #[.int lo t,.int hi u,.int 1 v]}
 |.fE o u=>h.get? a=ζ o/\eY H h a u
 |.fc ps=>h.get? a=ζ {cls:=.none,data:=.fields ps}
 |.met f x=>h.get? a=ζ (PySem.W.methodObj (.ref f) (.ref x))
 |.ext φ=>φ h/\(∃o,h.get? a=ζ o)/\∀h1 h2:χ,φ h1->(∀o,h1.get? a=ζ o->h2.get? a=ζ o)->φ h2
def cT(H:Hp) (h:χ):Prop:=∀a o,H a=ζ o->eY P w H h a o
end
section
variable {P:τ}{w:ψ}{H H':Hp}{h h':χ}{a:Ω}{o:HO}
theorem eY.lt(x:eY P w H h a o):a<h.objs.size:=by
 cases o with
 |lst xs=>obtain⟨_,_,_,_,e⟩:=x;exact akX e
 |tup xs=>obtain⟨_,_,_,p⟩:=x;exact p.tup.lt
 |dK kvs=>obtain⟨_,_,_,_,o,_,_,e,_⟩:=x;exact akX e
 |dT kvs=>obtain⟨_,_,_,_,o,_,_,e,_⟩:=x;exact akX e
 |set S n=>obtain⟨o,_,_,_,e,_⟩:=x;exact akX e
 |ins C dx fs=>obtain⟨_,_,_,e,_⟩:=x;exact akX e
 |own y=>obtain⟨_,e⟩:=x;exact akX e
 |xd fs=>obtain⟨_,⟨_,_,_,e,_⟩,_⟩:=x;exact akX e
 |pq lo hi=>obtain⟨_,_,_,e⟩:=x;exact akX e
 |fE ob u=>obtain⟨e,_⟩:=x;exact akX e
 |fc ps=>exact akX (show h.get? a=ζ _ from x)
 |met f y=>exact akX (show h.get? a=ζ _ from x)
 |ext φ=>obtain⟨_,⟨_,e⟩,_⟩:=x;exact akX e
theorem Paired.Li{α β:Type}{F G:α->β->Prop}:∀{l₁:List α}{l₂:List β},adF F l₁ l₂->(∀a b,F a b->G a b)->adF G l₁ l₂
 |_,_,.nil,_=>.nil
 |_,_,.cons r t,f=>.cons (f _ _ r) (Paired.Li t f)
theorem eY.stay(x:eY P w H h a o) (k:∀b u,(b=a\/H b=ζ (.own a))->h.get? b=ζ u->h'.get? b=ζ u)
  (ho:∀b,H b=ζ (.own a)->H' b=ζ (.own a)) (ht:∀b xs,H b=ζ (.tup xs)->H' b=ζ (.tup xs)):eY P w H' h' a o:=by
 induction o with
 |lst xs=>obtain⟨z,its,n,r,e⟩:=x;exact⟨z,its,n,r,k _ _ (.inl rfl) e⟩
 |tup xs=>obtain⟨z,its,r,ob,e,c⟩:=x;exact⟨z,its,r,ob,k _ _ (.inl rfl) e,c⟩
 |dK kvs=>obtain⟨z,y,vs,r,ob,es,ep,e,c⟩:=x;exact⟨z,y,vs,r,ob,es,ep,k _ _ (.inl rfl) e,c⟩
 |dT kvs =>
  obtain⟨z,y,xs,r,ob,es,ep,e,c⟩:=x;exact⟨z,y,xs,Paired.Li r λp q z=>⟨z.1,ht _ _ z.2.1,z.2.2⟩,ob,es,ep,k _ _ (.inl rfl) e,c⟩
 |set S n=>obtain⟨ob,es,ep,t,e,c⟩:=x;exact⟨ob,es,ep,t,k _ _ (.inl rfl) e,c⟩
 |ins C dx fs =>
  obtain⟨d,z,ne,e,mA,⟨od,es,ep,e2,c⟩,r⟩:=x;exact⟨ho _ d,z,ne,k _ _ (.inl rfl) e,mA,⟨od,es,ep,k _ _ (.inr d) e2,c⟩,r⟩
 |own y=>obtain⟨ob,e⟩:=x;exact⟨ob,k _ _ (.inl rfl) e⟩
 |xd fs=>obtain⟨mA,⟨od,es,ep,e,c⟩,r⟩:=x;exact⟨mA,⟨od,es,ep,k _ _ (.inl rfl) e,c⟩,r⟩
 |pq lo hi=>obtain⟨t,u,v,e⟩:=x;exact⟨t,u,v,k _ _ (.inl rfl) e⟩
 |fE ob u ih=>obtain⟨e,q⟩:=x;exact⟨k _ _ (.inl rfl) e,ih q⟩
 |fc ps =>
  have e:h.get? a=ζ {cls:=.none,data:=.fields ps}:=x;show h'.get? a=ζ {cls:=.none,data:=.fields ps};exact k a _ (.inl rfl) e
 |met f y =>
  have e:h.get? a=ζ (PySem.W.methodObj (.ref f) (.ref y)):=x;show h'.get? a=ζ (PySem.W.methodObj (.ref f) (.ref y));exact k a _ (.inl rfl) e
 |ext φ=>obtain⟨p,⟨o,e⟩,st⟩:=x;exact⟨st _ _ p λo q=>k _ _ (.inl rfl) q,⟨o,k _ _ (.inl rfl) e⟩,st⟩
theorem cT.lt(x:cT P w H h) (e:H a=ζ o):a<h.objs.size:=(x a o e).lt
theorem cT.fresh(x:cT P w H h) (e:h.objs.size<=a):H a=η:=by
 cases q:H a with
 |none=>rfl
 |some u=>exact absurd (alc (x.lt q) e) (alE _)
theorem cT.kept(x:cT P w H h) (k:∀b u,h.get? b=ζ u->h'.get? b=ζ u):cT P w H h':=λa o e =>
 (x a o e).stay (λb u _ q=>k b u q) (λ_ q=>q) λ_ _ q=>q
theorem cT.laid(x:cT P w H h) (k:∀b u,h.get? b=ζ u->h'.get? b=ζ u) (hp:h.objs.size<=a) (new:eY P w (upd H a o) h' a o):cT P w (upd H a o) h':=λb u e=>by
 have hn:=x.fresh hp
 by_cases hb:b=a
 ·subst hb;rw[fS]at e;cases e;exact new
 ·rw[bZ hb]at e;exact(x b u e).stay (λc v _ q=>k c v q) (λc q=>by rw[bZ (d7 q hn)];exact q) λc xs q=>by rw[bZ (d7 q hn)];exact q
end
def Rd(H:Hp) (a:Ω) (u:HO):Prop:=H a=ζ u\/∃o,H a=ζ (.fE o u)
theorem Rd.ok{P:τ}{w:ψ}{H:Hp}{h:χ}{a:Ω}{u:HO}(r:Rd H a u) (x:cT P w H h):eY P w H h a u:=by
 rcases r with r|⟨o,r⟩
 ·exact x a u r
 ·obtain⟨_,q⟩:=x a _ r;exact q
def A3:Option HO->Prop
 |some (.lst _)=>True
 |some (.dK _)=>True
 |some (.dT _)=>True
 |some (.set _ _)=>True
 |some (.ins _ _ _)=>True
 |some (.ext _)=>True
 |_=>False
section
variable {P:τ}{w:ψ}{H:Hp}{h h':χ}{x e:Ω}{o':HO}
theorem cT.write(ok:cT P w H h) (mu:A3 (H x)) (he:e=x\/H e=ζ (.own x)) (k:∀b u,b≠e->h.get? b=ζ u->h'.get? b=ζ u) (sM:∃u,h'.get? e=ζ u)
  (new:eY P w (upd H x o') h' x o'):cT P w (upd H x o') h':=λb u q=>by
 have KI:∀c y,H c=ζ (.own y)->c≠x:=λc y r z=>by subst z;rw[r]at mu;exact mu
 have Z6:∀c xs,H c=ζ (.tup xs)->c≠x:=λc xs r z=>by subst z;rw[r]at mu;exact mu
 by_cases hb:b=x
 ·subst hb;rw[fS]at q;cases q;exact new
 ·rw[bZ hb]at q
  by_cases pQ:b=e
  ·have q':H b=ζ (.own x):=by
    rcases he with z|z
    ·exact absurd (pQ.trans z) hb
    ·rw[pQ];exact z
   rw[q]at q';cases q';obtain⟨v,hv⟩:=sM;exact⟨v,by rw[pQ];exact hv⟩
  ·refine(ok b u q).stay (λc v hc r=>k c v ?_ r) (λc r=>by rw[bZ (KI c b r)];exact r) λc xs r=>by rw[bZ (Z6 c xs r)];exact r
   rcases hc with rfl|hc
   ·exact pQ
   ·rintro rfl
    rcases he with z|z
    ·exact KI c b hc z
    ·rw[hc]at z;cases z;exact hb rfl
end
structure Un (fs ex:List Ω) (H H':Hp) (h h':χ):Prop where
 keep:∀b o,h.get? b=ζ o->H b=η->b∉fs->b∉ex->h'.get? b=ζ o
 slot:∀b o,h.get? b=ζ o->H b=η->b∈fs->b∉ex->∃sl,h'.get? b=ζ {o with slots:=sl}
 free:∀b o,h.get? b=ζ o->H b=η->b∉ex->H' b=η
 there:∀b o,h.get? b=ζ o->b∉ex->∃o',h'.get? b=ζ o'
 tups:∀b xs,H b=ζ (.tup xs)->H' b=ζ (.tup xs)
 gX:∀b o u,H b=ζ (.fE o u)->H' b=ζ (.fE o u)
 gT:∀b ps,H b=ζ (.fc ps)->∃more,H' b=ζ (.fc (ps++more))
section
variable {fs fs' ex ex':List Ω}{H H1 H2:Hp}{h h1 h2 h':χ}{a x e:Ω}{o:HO}
theorem Un.any(u:Un fs ex H H1 h h1) {b:Ω}{ob:Obj}(q:h.get? b=ζ ob) (n:H b=η) (hx:b∉ex):∃sl,h1.get? b=ζ {ob with slots:=sl}:=by
 by_cases hb:b∈fs
 ·exact u.slot b ob q n hb hx
 ·exact⟨ob.slots,u.keep b ob q n hb hx⟩
theorem Un.kept(k:∀b u,h.get? b=ζ u->h'.get? b=ζ u):Un fs ex H H h h' :=
 ⟨λb ob q _ _ _=>k b ob q,λb ob q _ _ _=>⟨ob.slots,k b ob q⟩,λ_ _ _ n _=>n,λb ob q _=>⟨ob,k b ob q⟩,λ_ _ q=>q,λ_ _ _ q=>q,λ_ ps q=>⟨#[],by rw[q];simp⟩⟩
theorem Un.refl:Un fs ex H H h h:=Un.kept λ_ _ q=>q
theorem Un.laid(k:∀b u,h.get? b=ζ u->h'.get? b=ζ u) (hp:h.objs.size<=a) (hn:H a=η):Un fs ex H (upd H a o) h h' where
 keep:=λb u q _ _ _=>k b u q
 slot:=λb u q _ _ _=>⟨u.slots,k b u q⟩
 free:=λb u q n _=>by rw[bZ (ak3 (alc (akX q) hp))];exact n
 there:=λb u q _=>⟨u,k b u q⟩
 tups:=λb xs q=>by rw[bZ (d7 q hn)];exact q
 gX:=λb u xs q=>by rw[bZ (d7 q hn)];exact q
 gT:=λb ps q=>⟨#[],by rw[bZ (d7 q hn),q];simp⟩
theorem Un.write(mu:A3 (H x)) (he:e=x\/H e=ζ (.own x)) (k:∀b u,b≠e->h.get? b=ζ u->h'.get? b=ζ u) (sM:∃u,h'.get? e=ζ u):Un fs ex H (upd H x o) h h':=by
 have hx:∀b,H b=η->b≠x:=λb n z=>by subst z;rw[n]at mu;exact mu
 have hb:∀b,H b=η->b≠e:=λb n z=>by
  subst z
  rcases he with r|r
  ·exact hx b n r
  ·rw[n]at r;cases r
 have hm:∀b u,H b=ζ u->¬A3 (ζ u)->b≠x:=λb u q nm z=>by subst z;rw[q]at mu;exact nm mu
 refine⟨λb u q n _ _=>k b u (hb b n) q,λb u q n _ _=>⟨u.slots,k b u (hb b n) q⟩,λb u q n _=>by rw[bZ (hx b n)];exact n,λb u q _=>?_,
  λb xs q=>by rw[bZ (hm b _ q λz=>z)];exact q,λb u xs q=>by rw[bZ (hm b _ q λz=>z)];exact q,λb ps q=>⟨#[],by rw[bZ (hm b _ q λz=>z),q];simp⟩⟩
 by_cases pQ:b=e
 ·subst pQ;exact sM
 ·exact⟨u,k b u pQ q⟩
end
def fT(h:χ) (H:Hp):List Ω:=(θ h.objs.size).filter λa=>(H a).isSome
def lD(h:χ) (H:Hp):χ:=PySem.W.hideAll h (fT h H)
theorem adL(h:χ) (H:Hp):(lD h H).objs.size=h.objs.size:=PySem.W.hideAll_size _ _
theorem adM{h:χ}{H:Hp}{b:Ω}{o:Obj}(e:h.get? b=ζ o) (n:H b=η):(lD h H).get? b=ζ o :=
 aoV _ e λhm=>by
  have q:(H b).isSome=Ξ:=(anR.mp hm).2;rw[n]at q;simp at q
theorem YL{h:χ}{H:Hp}{b:Ω}{o:Obj}(e:(lD h H).get? b=ζ o):h.get? b=ζ o/\H b=η:=by
 have e':h.get? b=ζ o:=anS (fT h H) e;refine⟨e',?_⟩;cases q:H b with
 |none=>rfl
 |some x =>
  have hm:b∈fT h H:=anR.mpr ⟨akY.mpr (akX e'),by simp[q]⟩
  have z:(lD h H).get? b=η:=PySem.W.hideAll_none (fT h H) hm;rw[z]at e;cases e
structure Mod (K:Ψ) (mg:Str->Option Θ) (base:χ):Prop where
 lg:K.In base
 glob:base.Ns Δ mg
 blt:∃mb,base.Ns builtinsNs mb/\∀x:Str,x≠"__name__"->mb x=bootBuiltins x
 nolimit:base.NoLimit
 bmod:∃bm ob,mg "__builtins__"=ζ (.ref bm)/\bm≠builtinsNs/\base.get? bm=ζ ob/\ob.cls=.type "module"/\ob.dict=ζ builtinsNs/\ob.data=.plain
structure Cx where
 prog:τ
 w:ψ
 K:Ψ
 mg:Str->Option Θ
 base:χ
 A:ω
 N:List Str
 s₀:ε
 H₀:Hp
 env:Env
 outer:List Env
 stack:List Env
 ex:List Ω
 fn:Str->Bool
 calm:Bool
 pn:List (Ω×Obj)
 xe:Θ->ε->Prop
def frs(l:List Env):List Ω:=l.filterMap (·.frame)
abbrev Cx.fs(X:Cx):List Ω:=frs X.outer
def HA(sc:ads) (x:Str):Prop:=sc.names.lookup x=ζ .local\/sc.names.lookup x=ζ .cell\/sc.names.lookup x=ζ .free
def Loc(sc:ads) (x:Str):Prop:=sc.names.lookup x=ζ .local\/sc.names.lookup x=ζ .cell
def Look(env:Env) (h:χ) (m:Str->Option Θ) (x:Str) (u:Θ):Prop :=
 (env.kindOf x=ζ .local/\m x=ζ u)\/((env.kindOf x=ζ .cell\/env.kindOf x=ζ .free)/\∃c,env.cells.lookup x=ζ c/\h.IsCell c (ζ u))
structure Cx.Ok (X:Cx):Prop where
 mod:Mod X.K X.mg X.base
 kind:X.env.scope.kind=.function
 glob:X.env.globals=Δ
 blt:X.env.builtins=builtinsNs
 above:X.s₀.heap.objs.size<=X.env.locals
 inj:∀x y c,X.env.cells.lookup x=ζ c->X.env.cells.lookup y=ζ c->x=y
 has:∀x,(X.env.kindOf x=ζ .cell\/X.env.kindOf x=ζ .free)->∃c,X.env.cells.lookup x=ζ c
 jR:∀x c,X.fn x=Ξ->X.env.cells.lookup x=ζ c->X.s₀.heap.objs.size<=c
 hd:X.calm=Ξ->X.A.handled=η
 frames:X.A.frames=ζ X.stack
 stk:X.stack=X.outer\/(X.stack=X.env::X.outer/\X.env.frame=ζ X.env.locals)
 lG:∀b∈X.ex,b≠X.env.locals/\∀x c,X.env.cells.lookup x=ζ c->c≠b
 bs:∀b o,X.base.get? b=ζ o->X.s₀.heap.get? b=ζ o/\X.H₀ b=η
 gZ:X.base.objs.size<=X.s₀.heap.objs.size
 iL:∀b o,X.base.get? b=ζ o->b∉X.ex
 kB:∀b∈X.ex,b∉X.fs
 gM:X.s₀.heap.FunFrames X.base X.outer
 jN:∀b∈X.fs,X.H₀ b=η
structure Inv (X:Cx) (pins:List (Ω×Obj)) (σ:List (Option V)) (H:Hp) (s:ε):Prop where
 ok:X.Ok
 os:s.os=X.s₀.os
 bare:adp s.gens
 base:Un X.fs X.ex X.H₀ H X.s₀.heap s.heap
 loc:∃m,s.heap.Ns X.env.locals m/\∀(i:Nat) (x:Str) (v:V),X.N[i]? = ζ x->σ[i]? = ζ (ζ v)->HA X.env.scope x->∃u,RelV v u/\Look X.env s.heap m x u
 cell:∀x c,X.env.cells.lookup x=ζ c->∃v,s.heap.IsCell c v
 free:H X.env.locals=η
 gf:∀x c,X.env.cells.lookup x=ζ c->H c=η
 pin:∀p∈X.pn++pins,s.heap.get? p.1=ζ p.2/\H p.1=η/\p.1≠X.env.locals/\p.1∉X.fs/\∀v,p.2.data≠.cell v
 hok:cT X.prog X.w H s.heap
 len:σ.length=X.N.length
section
variable {X:Cx}{pins:List (Ω×Obj)}{σ:List (Option V)}{H H':Hp}{s:ε}{h':χ}
theorem Cx.Ok.aab(ok:X.Ok) {b:Ω}{o:Obj}(e:X.base.get? b=ζ o):b∉X.fs:=λhb=>by
 have:=(ok.gM.mem hb).1;rw[e]at this;cases this
theorem Inv.bs(I:Inv X pins σ H s):∀b o,X.base.get? b=ζ o->s.heap.get? b=ζ o/\H b=η:=λb o e =>
 ⟨I.base.keep b o (I.ok.bs b o e).1 (I.ok.bs b o e).2 (I.ok.aab e) (I.ok.iL b o e),I.base.free b o (I.ok.bs b o e).1 (I.ok.bs b o e).2 (I.ok.iL b o e)⟩
theorem Inv.bk(I:Inv X pins σ H s):∀b o,X.base.get? b=ζ o->s.heap.get? b=ζ o:=λb o e=>(I.bs b o e).1
theorem Inv.mod(I:Inv X pins σ H s):Mod X.K X.mg X.base:=I.ok.mod
theorem Inv.eH(I:Inv X pins σ H s):X.K.In s.heap:=I.ok.mod.lg.keeps I.bk
theorem Inv.lt(I:Inv X pins σ H s):X.env.locals<s.heap.objs.size:=let⟨_,hn,_⟩:=I.loc;hn.lt
theorem Inv.sz(I:Inv X pins σ H s):X.s₀.heap.objs.size<=s.heap.objs.size:=als I.ok.above (amr I.lt)
theorem Inv.CB(I:Inv X pins σ H s) {a:Ω}(h:s.heap.objs.size<=a):a∉X.fs:=λhb=>by
 obtain⟨_,o,ho,_⟩:=I.ok.gM.mem hb;exact absurd (alc (akX ho) (als I.sz h)) (alE _)
theorem Inv.pW(I:Inv X pins σ H s):∀x c,X.env.cells.lookup x=ζ c->c≠X.env.locals:=λx c e z=>by
 obtain⟨v,o,ho,hd⟩:=I.cell x c e;obtain⟨m,⟨o',es,ep,ho',hd',_⟩,_⟩:=I.loc;rw[z,ho']at ho;cases ho;rw[hd']at hd;cases hd
theorem Inv.gM(I:Inv X pins σ H s):s.heap.FunFrames X.base X.outer:=by
 have all:∀(l:List Env),(∀b∈frs l,b∈X.fs)->X.s₀.heap.FunFrames X.base l->s.heap.FunFrames X.base l:=by
  intro l
  induction l with
  |nil=>intro _ _;trivial
  |cons env r ih =>
   intro hs hl;obtain⟨hk,⟨L,o,hf,hn,ho,hd⟩,hr⟩:=hl;have hL:L∈X.fs:=hs L (by unfold frs;rw[amC,hf];exact alC)
   obtain⟨sl,e⟩:=I.base.slot L o ho (I.ok.jN L hL) hL λz=>I.ok.kB L z hL
   exact⟨hk,⟨L,_,hf,hn,e,hd⟩,ih (λb hb=>hs b (by unfold frs;rw[amC,hf];exact alu _ hb)) hr⟩
 exact all X.outer (λ_ hb=>hb) I.ok.gM
theorem Inv.stack(I:Inv X pins σ H s):s.heap.FunFrames X.base X.stack:=by
 rcases I.ok.stk with e|⟨e,hf⟩
 ·rw[e];exact I.gM
 ·rw[e];obtain⟨m,hn,_⟩:=I.loc;refine .cons (by rw[I.ok.kind];decide) hf hn ?_ I.gM
  exact Heap.get?_none_of_le (als I.ok.gZ I.ok.above)
theorem Inv.oW(I:Inv X pins σ H s):∀b∈frs X.stack,b∈X.env.locals::X.fs:=λb hb=>by
 rcases I.ok.stk with e|⟨e,hf⟩
 ·rw[e]at hb;exact alu _ hb
 ·rw[e]at hb;unfold frs at hb;rw[amC,hf]at hb;exact hb
theorem Inv.BK(I:Inv X pins σ H s):∀b∈frs X.stack,H b=η:=λb hb=>by
 rcases akV.mp (I.oW b hb)with e|hb
 ·rw[e];exact I.free
 ·obtain⟨_,o,ho,_⟩:=I.ok.gM.mem hb;exact I.base.free b o ho (I.ok.jN b hb) λz=>I.ok.kB b z hb
theorem Inv.step{g':Array adx}{t':Nat}{d':Drawn}{ch:List Ω}(I:Inv X pins σ H s)
  (hch:∀b∈ch,(b∈X.ex\/X.s₀.heap.objs.size<=b)/\b≠X.env.locals/\(∀x c,X.env.cells.lookup x=ζ c->c≠b)/\∀p∈X.pn++pins,p.1≠b)
  (keep:∀b o,b≠X.env.locals->b∉X.fs->b∉ch->s.heap.get? b=ζ o->H b=η->h'.get? b=ζ o)
  (slot:∀b o,b≠X.env.locals->b∈X.fs->b∉ch->s.heap.get? b=ζ o->H b=η->∃sl,h'.get? b=ζ {o with slots:=sl}) (free:∀b o,b∉ch->s.heap.get? b=ζ o->H b=η->H' b=η)
  (there:∀b o,b∉ch->s.heap.get? b=ζ o->∃o',h'.get? b=ζ o')
  (tups:∀b xs,H b=ζ (.tup xs)->H' b=ζ (.tup xs)) (gX:∀b o u,H b=ζ (.fE o u)->H' b=ζ (.fE o u)) (gT:∀b ps,H b=ζ (.fc ps)->∃more,H' b=ζ (.fc (ps++more)))
  (ns:∀m,s.heap.Ns X.env.locals m->h'.Ns X.env.locals m) (hok:cT X.prog X.w H' h') (hg:adp g') :
  Inv X pins σ H' {s with heap:=h',gens:=g',drawn:=d',toks:=t'}:=by
 have rY:∀b o,X.s₀.heap.get? b=ζ o->b≠X.env.locals:=λb o e=>ak3 (alc (akX e) I.ok.above)
 have yX:∀b o,X.s₀.heap.get? b=ζ o->b∉X.ex->b∉ch:=λb o e hx hb=>by
  rcases(hch b hb).1 with z|z
  ·exact hx z
  ·exact absurd (alc (akX e) z) (alE _)
 have cellK:∀x c,X.env.cells.lookup x=ζ c->∀v,s.heap.IsCell c v->h'.IsCell c v:=λx c e v ⟨o,ho,hd⟩=>by
  have jE:c∉ch:=λz=>(hch c z).2.2.1 x c e rfl
  by_cases hc:c∈X.fs
  ·obtain⟨sl,q⟩:=slot c o (I.pW x c e) hc jE ho (I.gf x c e);exact⟨_,q,hd⟩
  ·exact⟨o,keep c o (I.pW x c e) hc jE ho (I.gf x c e),hd⟩
 refine⟨I.ok,I.os,hg,⟨λb o e n hb hx=>?_,λb o e n hb hx=>?_,λb o e n hx=>?_,λb o e hx=>?_,λb xs e=>tups b xs (I.base.tups b xs e),λb o xs e=>gX b o xs (I.base.gX b o xs e),λb ps e=>?_⟩,?_,λx c e=>?_,?_,λx c e=>?_,λp hp=>?_,hok,I.len⟩
 ·exact keep b o (rY b o e) hb (yX b o e hx) (I.base.keep b o e n hb hx) (I.base.free b o e n hx)
 ·obtain⟨sl,e1⟩:=I.base.slot b o e n hb hx;obtain⟨BQ,e2⟩:=slot b _ (rY b o e) hb (yX b o e hx) e1 (I.base.free b o e n hx);exact⟨BQ,e2⟩
 ·obtain⟨o',e1⟩:=I.base.there b o e hx;exact free b o' (yX b o e hx) e1 (I.base.free b o e n hx)
 ·obtain⟨o',e1⟩:=I.base.there b o e hx;exact there b o' (yX b o e hx) e1
 ·obtain⟨m1,e1⟩:=I.base.gT b ps e;obtain⟨m2,e2⟩:=gT b _ e1;exact⟨m1++m2,by rw[e2,aoW]⟩
 ·obtain⟨m,hn,hl⟩:=I.loc;refine⟨m,ns m hn,λi x v e1 e2 e3=>?_⟩
  obtain⟨u,r,l⟩:=hl i x v e1 e2 e3;refine⟨u,r,?_⟩
  rcases l with l|⟨k,c,e,z⟩
  ·exact .inl l
  ·exact .inr ⟨k,c,e,cellK x c e _ z⟩
 ·obtain⟨v,z⟩:=I.cell x c e;exact⟨v,cellK x c e v z⟩
 ·obtain⟨m,⟨o,_,_,ho,_⟩,_⟩:=I.loc;exact free _ o (λz=>(hch _ z).2.1 rfl) ho I.free
 ·obtain⟨v,o,ho,hd⟩:=I.cell x c e;exact free c o (λz=>(hch c z).2.2.1 x c e rfl) ho (I.gf x c e)
 ·obtain⟨e,n,ne,nf,d⟩:=I.pin p hp;have jE:p.1∉ch:=λz=>(hch p.1 z).2.2.2 p hp rfl
  exact⟨keep p.1 p.2 ne nf jE e n,free p.1 p.2 jE e n,ne,nf,d⟩
theorem Inv.un{t':Nat}(I:Inv X pins σ H s) (u:Un X.fs [] H H' s.heap h') (hok:cT X.prog X.w H' h'):Inv X pins σ H' {s with heap:=h',toks:=t'}:=by
 obtain⟨m,⟨o,es,ep,ho,r⟩,_⟩:=id I.loc;obtain⟨sl,hL⟩:=u.any ho I.free (by simp)
 exact I.step (g':=s.gens) (d':=s.drawn) (ch:=[]) (λ_ z=>nomatch z) (λb o _ hb _ e n=>u.keep b o e n hb (by simp)) (λb o _ hb _ e n=>u.slot b o e n hb (by simp)) (λb o _ e n=>u.free b o e n (by simp)) (λb o _ e=>u.there b o e (by simp)) u.tups u.gX u.gT (λm' hm=>by
  obtain⟨o',es',F0,ho',r'⟩:=hm;rw[ho]at ho';cases ho';exact⟨_,es',F0,hL,r'⟩) hok I.bare
theorem Inv.call{g':Array adx}{t':Nat}{d':Drawn}{ch:List Ω}(I:Inv X pins σ H s) (u:Un (frs X.stack) ch H H' s.heap h') (hok:cT X.prog X.w H' h') (hg:adp g')
  (hch:∀b∈ch,(b∈X.ex\/X.s₀.heap.objs.size<=b)/\b≠X.env.locals/\(∀x c,X.env.cells.lookup x=ζ c->c≠b)/\∀p∈X.pn++pins,p.1≠b) :
  Inv X pins σ H' {s with heap:=h',gens:=g',drawn:=d',toks:=t'}:=by
 obtain⟨m,⟨o,es,ep,ho,r⟩,_⟩:=id I.loc;obtain⟨sl,hL⟩:=u.any ho I.free λz=>(hch _ z).2.1 rfl
 exact I.step (ch:=ch) hch (λb o hL hb hc e n=>u.keep b o e n (λz=>(akV.mp (I.oW b z)).elim hL hb) hc) (λb o _ _ hc e n=>u.any e n hc) (λb o hc e n=>u.free b o e n hc) (λb o hc e=>u.there b o e hc) u.tups u.gX u.gT (λm' hm=>by
  obtain⟨o',es',F0,ho',r'⟩:=hm;rw[ho]at ho';cases ho';exact⟨_,es',F0,hL,r'⟩) hok hg
theorem Inv.turned{t':Nat}{it:Ω}(I:Inv X pins σ H s) (k:∀b o,b≠it->s.heap.get? b=ζ o->h'.get? b=ζ o) (hn:H it=η) (hL:it≠X.env.locals)
  (h1:it∈X.ex\/X.s₀.heap.objs.size<=it) (h2:∀x c,X.env.cells.lookup x=ζ c->c≠it) (h3:∀p∈X.pn++pins,p.1≠it):Inv X pins σ H {s with heap:=h',toks:=t'}:=by
 have KU:∀b u,H b=ζ u->b≠it:=λb u e z=>by rw[z,hn]at e;cases e
 refine I.step (g':=s.gens) (d':=s.drawn) (ch:=[it]) (λb hb=>?_) (λb o _ _ hc e _=>k b o (λz=>hc (by simp[z])) e) (λb o _ _ hc e _=>⟨o.slots,k b o (λz=>hc (by simp[z])) e⟩) (λ_ _ _ _ n=>n)
  (λb o hc e=>⟨o,k b o (λz=>hc (by simp[z])) e⟩) (λ_ _ e=>e) (λ_ _ _ e=>e) (λb ps e=>⟨#[],by rw[e];simp⟩) (λm hm=>?_) (λb u e=>?_) I.bare
 ·have e:b=it:=by simpa using hb
  subst e;exact⟨h1,hL,h2,h3⟩
 ·obtain⟨o,es,ep,ho,r⟩:=hm;exact⟨o,es,ep,k _ o (alP hL) ho,r⟩
 ·refine(I.hok b u e).stay (λc v hc q=>k c v ?_ q) (λ_ q=>q) λ_ _ q=>q
  rcases hc with z|z
  ·rw[z];exact KU b u e
  ·exact KU c _ z
theorem Inv.tok(I:Inv X pins σ H s) (t:Nat):Inv X pins σ H {s with toks:=t}:=I.un (h':=s.heap) (t':=t) Un.refl I.hok
theorem Inv.kept{t':Nat}(I:Inv X pins σ H s) (k:∀b u,s.heap.get? b=ζ u->h'.get? b=ζ u):Inv X pins σ H {s with heap:=h',toks:=t'}:=I.un (Un.kept k) (I.hok.kept k)
theorem Inv.laid{a:Ω}{o:HO}{t':Nat}(I:Inv X pins σ H s) (k:∀b u,s.heap.get? b=ζ u->h'.get? b=ζ u) (hp:s.heap.objs.size<=a) (new:eY X.prog X.w (upd H a o) h' a o) :
  Inv X pins σ (upd H a o) {s with heap:=h',toks:=t'}:=I.un (Un.laid k hp (I.hok.fresh hp)) (I.hok.laid k hp new)
theorem Inv.write{x e:Ω}{o:HO}{t':Nat}(I:Inv X pins σ H s) (mu:A3 (H x)) (he:e=x\/H e=ζ (.own x)) (k:∀b u,b≠e->s.heap.get? b=ζ u->h'.get? b=ζ u) (sM:∃u,h'.get? e=ζ u)
  (new:eY X.prog X.w (upd H x o) h' x o):Inv X pins σ (upd H x o) {s with heap:=h',toks:=t'}:=I.un (Un.write mu he k sM) (I.hok.write mu he k sM new)
theorem Inv.yj{rP:List (Ω×Obj)}(I:Inv X pins σ H s) (h:∀p∈rP,s.heap.get? p.1=ζ p.2/\H p.1=η/\p.1≠X.env.locals/\p.1∉X.fs/\∀v,p.2.data≠.cell v):Inv X rP σ H s :=
 ⟨I.ok,I.os,I.bare,I.base,I.loc,I.cell,I.free,I.gf,λp hp=>(alj.mp hp).elim (λz=>I.pin p (anT _ z)) (h p),I.hok,I.len⟩
theorem KN{N:List Str}(hN:N.Nodup) {i j:Nat}{x:Str}(a:N[i]? = ζ x) (b:N[j]? = ζ x):i=j:=by
 obtain⟨h1,e1⟩:=alb.mp a;obtain⟨h2,e2⟩:=alb.mp b;exact(anU hN).mp (e1.trans e2.symm)
theorem Sv{M:Model}{A:ω}{E:Θ->ε->Prop}{i:Nat}{x:Str}{v:V}{u:Θ}{Q:Unit->ε->Prop}(I:Inv X pins σ H s) (hN:X.N.Nodup) (hi:X.N[i]? = ζ x) (hx:Loc X.env.scope x) (r:RelV v u)
  (h:∀s',Inv X pins (σ.set i (ζ v)) H s'->(∃a,adi a s.heap s'.heap/\(a=X.env.locals\/X.env.cells.lookup x=ζ a))->Q () s') (hf:X.fn x=Ξ\/X.env.scope.names.lookup x=ζ .local:=by first|exact .inl rfl|exact .inr rfl|assumption):wpAny M A (storeName X.env x u) Q E s:=by
 obtain⟨m,hn,hl⟩:=id I.loc;have hcls:(X.env.scope.kind == .class||(X.env.scope.kind == .module&&X.env.locals != X.env.globals))=ξ:=by rw[I.ok.kind];rfl
 have Mu:i<σ.length:=by rw[I.len];exact(alb.mp hi).1
 have pW:=I.pW;have tracked:∀{a:Ω}{h':χ},(∃o,s.heap.get? a=ζ o/\H a=η)->adi a s.heap h'->cT X.prog X.w H h':=fun{a h'} ha hs b ob e=>by
  obtain⟨_,_,hfree⟩:=ha;refine(I.hok b ob e).stay (λc w' hc q=>(hs.2 c ?_).trans q) (λ_ q=>q) λ_ _ q=>q
  rintro rfl
  rcases hc with rfl|hc
  ·rw[hfree]at e;cases e
  ·rw[hfree]at hc;cases hc
 rcases hx with hk|hk
 ·refine wpAny_storeName_local hk hn (λh' hn' hs=>?_) hcls
  obtain⟨oL,_,_,lC,_⟩:=id hn;refine h _ ⟨I.ok,I.os,I.bare,⟨λb o e n hb hx=>?_,λb o e n hb hx=>?_,I.base.free,λb o e hx=>?_,I.base.tups,I.base.gX,I.base.gT⟩,⟨_,hn',λj y v' e1 e2 e3=>?_⟩,λy c e=>?_,I.free,I.gf,λp hp=>?_,tracked ⟨oL,lC,I.free⟩ hs,by simpa using I.len⟩ ⟨_,hs,.inl rfl⟩
  ·exact(hs.2 b (ak3 (alc (akX e) I.ok.above))).trans (I.base.keep b o e n hb hx)
  ·obtain⟨sl,e1⟩:=I.base.slot b o e n hb hx;exact⟨sl,(hs.2 b (ak3 (alc (akX e) I.ok.above))).trans e1⟩
  ·obtain⟨o',e1⟩:=I.base.there b o e hx;exact⟨o',(hs.2 b (ak3 (alc (akX e) I.ok.above))).trans e1⟩
  ·by_cases hj:j=i
   ·subst hj;rw[hi]at e1;cases e1;rw[al0 Mu]at e2;cases e2;exact⟨u,r,.inl ⟨hk,by simp⟩⟩
   ·rw[al8 (alP hj)]at e2;obtain⟨u',r',q⟩:=hl j y v' e1 e2 e3;refine⟨u',r',?_⟩
    rcases q with⟨k,e⟩|⟨k,c,e,z⟩
    ·refine .inl ⟨k,?_⟩;have:y≠x:=λe=>hj (KN hN e1 (e▸hi))
     simp[this,e]
    ·exact .inr ⟨k,c,e,z.sameBut hs (pW y c e)⟩
  ·obtain⟨w',z⟩:=I.cell y c e;exact⟨w',z.sameBut hs (pW y c e)⟩
  ·obtain⟨e,n,ne,nf,d⟩:=I.pin p hp;exact⟨(hs.2 p.1 ne).trans e,n,ne,nf,d⟩
 ·have hfn:X.fn x=Ξ:=by
   rcases hf with z|z
   ·exact z
   ·rw[z]at hk;cases hk
  obtain⟨c,hc⟩:=I.ok.has x (.inl hk);obtain⟨w',z⟩:=I.cell x c hc;refine wpAny_storeName_cell I.ok.kind hk hc z (λh' hc' hs=>?_)
  obtain⟨oc,hoc,adB⟩:=id z;refine h {s with heap:=h'} ⟨I.ok,I.os,I.bare,⟨λb o e n hb hx=>?_,λb o e n hb hx=>?_,I.base.free,λb o e hx=>?_,I.base.tups,I.base.gX,I.base.gT⟩,⟨m,hn.sameBut hs (alP (pW x c hc)),λj y v' e1 e2 e3=>?_⟩,λy c' e=>?_,I.free,I.gf,λp hp=>?_,tracked ⟨oc,hoc,I.gf x c hc⟩ hs,by simpa using I.len⟩ ⟨c,hs,.inr hc⟩
  ·exact(hs.2 b (ak3 (alc (akX e) (I.ok.jR x c hfn hc)))).trans (I.base.keep b o e n hb hx)
  ·obtain⟨sl,e1⟩:=I.base.slot b o e n hb hx;exact⟨sl,(hs.2 b (ak3 (alc (akX e) (I.ok.jR x c hfn hc)))).trans e1⟩
  ·obtain⟨o',e1⟩:=I.base.there b o e hx;exact⟨o',(hs.2 b (ak3 (alc (akX e) (I.ok.jR x c hfn hc)))).trans e1⟩
  ·by_cases hj:j=i
   ·subst hj;rw[hi]at e1;cases e1;rw[al0 Mu]at e2;cases e2;exact⟨u,r,.inr ⟨.inl hk,c,hc,hc'⟩⟩
   ·rw[al8 (alP hj)]at e2;obtain⟨u',r',q⟩:=hl j y v' e1 e2 e3;refine⟨u',r',?_⟩
    rcases q with q|⟨k,c',e,z'⟩
    ·exact .inl q
    ·refine .inr ⟨k,c',e,z'.sameBut hs ?_⟩
     rintro rfl
     exact hj (KN hN e1 (I.ok.inj _ _ _ e hc▸hi))
  ·by_cases hcc:c'=c
   ·subst hcc;exact⟨_,hc'⟩
   ·obtain⟨w2,z2⟩:=I.cell y c' e;exact⟨w2,z2.sameBut hs hcc⟩
  ·obtain⟨e,n,ne,nf,d⟩:=I.pin p hp;refine⟨(hs.2 p.1 ?_).trans e,n,ne,nf,d⟩;intro q;rw[q,hoc]at e;have q':oc=p.2:=alo e;exact d w' (by rw[<-q'];exact adB)
theorem BJ{M:Model}{A:ω}{E:Θ->ε->Prop}{i:Nat}{x:Str}{v:V}{u:Θ}{Q:Unit->ε->Prop}(I:Inv X pins σ H s) (hN:X.N.Nodup) (hi:X.N[i]? = ζ x) (hx:Loc X.env.scope x) (r:RelV v u)
  (h:∀s',Inv X pins (σ.set i (ζ v)) H s'->Q () s') (hf:X.fn x=Ξ\/X.env.scope.names.lookup x=ζ .local:=by first|exact .inl rfl|exact .inr rfl|assumption):wpAny M A (storeName X.env x u) Q E s :=
 Sv I hN hi hx r (λs' I' _=>h s' I') hf
theorem Inv.ahH{s':ε}{ch:List Ω}(I:Inv X pins σ H s) (ho:s'.os=s.os) (u:Un (frs X.stack) ch H H' s.heap s'.heap) (hok:cT X.prog X.w H' s'.heap) (hg:adp s'.gens)
  (hch:∀b∈ch,(b∈X.ex\/X.s₀.heap.objs.size<=b)/\b≠X.env.locals/\(∀x c,X.env.cells.lookup x=ζ c->c≠b)/\∀p∈X.pn++pins,p.1≠b):Inv X pins σ H' s':=by
 obtain⟨h',g',d',t',o'⟩:=s';have e:o'=s.os:=ho;subst e;exact I.call (g':=g') (t':=t') (d':=d') u hok hg hch
end
abbrev XK:=Θ->Option Ω->Hp->Prop
abbrev St:=List (Option V)
abbrev VK:=V->Hp->Prop
abbrev TE:=St->Hp->VK->Prop
abbrev TT:=St->Hp->(Bool->Hp->Prop)->Prop
abbrev TA:=St->Hp->(List V->Hp->Prop)->Prop
structure Ends where
 nx:St->Hp->Prop
 rt:VK
 bk:St->Hp->Prop:=λ_ _=>False
 ct:St->Hp->Prop:=λ_ _=>False
abbrev TS:=Ends->St->Hp->Prop
def EP(X:Cx) (pins:List (Ω×Obj)) (σ:St) (Q:VK) (u:Θ) (s':ε):Prop:=∃v H',Inv X pins σ H' s'/\RelV v u/\Q v H'
def TP(X:Cx) (pins:List (Ω×Obj)) (σ:St) (Q:Bool->Hp->Prop) (b:Bool) (s':ε):Prop:=∃H',Inv X pins σ H' s'/\Q b H'
def AP(X:Cx) (pins:List (Ω×Obj)) (σ:St) (Q:List V->Hp->Prop) (us:List Θ) (s':ε):Prop:=∃vs H',Inv X pins σ H' s'/\Vals vs us/\Q vs H'
def SP(X:Cx) (pins:List (Ω×Obj)) (D:Ends) (f:Flow) (s':ε):Prop :=
 match f with
 |.next=>∃σ' H',Inv X pins σ' H' s'/\D.nx σ' H'
 |.brk=>∃σ' H',Inv X pins σ' H' s'/\D.bk σ' H'
 |.cont=>∃σ' H',Inv X pins σ' H' s'/\D.ct σ' H'
 |.ret u=>∃v σ' H',Inv X pins σ' H' s'/\RelV v u/\D.rt v H'
def PE(X:Cx) (e:π) (t:TE):Prop :=
 ∀(pins:List (Ω×Obj)) (s:ε) (σ:St) (H:Hp) (Q:VK),Inv X pins σ H s->t σ H Q->wpAny (model X.prog X.w) X.A (eval e X.env) (EP X pins σ Q) X.xe s
def PT(X:Cx) (e:π) (t:TT):Prop :=
 ∀(pins:List (Ω×Obj)) (s:ε) (σ:St) (H:Hp) (Q:Bool->Hp->Prop),Inv X pins σ H s->t σ H Q->wpAny (model X.prog X.w) X.A (isTrue e X.env (eval e X.env)) (TP X pins σ Q) X.xe s
def PW(X:Cx) (e:π) (t:TT):Prop :=
 ∀(whole:Sem Θ) (pins:List (Ω×Obj)) (s:ε) (σ:St) (H:Hp) (Q:Bool->Hp->Prop),Inv X pins σ H s->t σ H Q->wpAny (model X.prog X.w) X.A (isTrue e X.env whole) (TP X pins σ Q) X.xe s
theorem PW.pt{X:Cx}{e:π}{t:TT}(h:PW X e t):PT X e t:=h _
def PA(X:Cx) (es:List π) (t:TA):Prop :=
 ∀(pos:Pos) (pins:List (Ω×Obj)) (s:ε) (σ:St) (H:Hp) (Q:List V->Hp->Prop),Inv X pins σ H s->t σ H Q->wpAny (model X.prog X.w) X.A (spliced (acF pos (μ es X.env))) (AP X pins σ Q) X.xe s
def PS(X:Cx) (st:acz) (t:TS):Prop :=
 ∀(pins:List (Ω×Obj)) (s:ε) (σ:St) (H:Hp) (D:Ends),Inv X pins σ H s->t D σ H->wpAny (model X.prog X.w) X.A (exec st X.env) (SP X pins D) X.xe s
def eX(X:Cx) (st:List acz) (t:TS):Prop :=
 ∀(pins:List (Ω×Obj)) (s:ε) (σ:St) (H:Hp) (D:Ends),Inv X pins σ H s->t D σ H->wpAny (model X.prog X.w) X.A (execs st X.env) (SP X pins D) X.xe s
theorem bz{α:Type}{t:Sem α}{Q Q':α->ε->Prop}{M:Model}{A:ω}{E:Θ->ε->Prop}{s:ε}(h:wpAny M A t Q E s) (hQ:∀a s,Q a s->Q' a s):wpAny M A t Q' E s:=alq h hQ λ_ _ x=>x
section
variable {X:Cx}
def RP(i:Nat):TE:=λσ H Q=>∃v,σ[i]? = ζ (ζ v)/\Q v H
def tC(v:V):TE:=λ_ H Q=>Q v H
theorem WZ{i:Nat}{x:Str}{pos:Pos}(hN:X.N[i]? = ζ x) (hv:HA X.env.scope x) (hd:(x==("__debug__":Str))=ξ:=by decide) (hcd:(x==("__classdict__":Str))=ξ:=by decide):PE X (.Name x pos) (RP i):=by
 intro pins s σ H Q I h;obtain⟨v,e,h⟩:=h;obtain⟨m,hn,hl⟩:=I.loc;obtain⟨u,r,l⟩:=hl i x v hN e hv;have fin:EP X pins σ Q u s:=⟨v,H,I,r,h⟩
 rcases l with⟨hk,hm⟩|⟨hk,c,hc,hcell⟩
 ·exact wpAny_Name (wpAny_loadName_local I.ok.kind hk hn hm fin) hd
 ·rcases hk with hk|hk
  ·exact wpAny_Name (wpAny_loadName_cell I.ok.kind hk hc hcell fin) hd
  ·exact wpAny_Name (wpAny_loadName_free I.ok.kind hk hc hcell fin hcd) hd
theorem Xh{i j pos}:PE X (.Constant (.int i) j pos) (tC (.int i)):=λ_ _ _ H _ I h=>wpAny_Constant_int ⟨.int i,H,I.tok _,⟨_,rfl⟩,h⟩
theorem Xn{b j pos}:PE X (.Constant (.bool b) j pos) (tC (.bl b)):=λ_ _ _ H _ I h=>Constant_bool ⟨.bl b,H,I,rfl,h⟩
theorem Xf{j pos}:PE X (.Constant .none j pos) (tC .aQ):=λ_ _ _ H _ I h=>Constant_none ⟨.aQ,H,I,rfl,h⟩
theorem W8{x j pos}:PE X (.Constant (.str x) j pos) (tC (.str x)):=λ_ _ _ H _ I h=>Calls.Constant_str ⟨.str x,H,I.tok _,⟨_,rfl⟩,h⟩
def Gl(X:Cx) (x:Str):Prop:=X.env.kindOf x=ζ .globalImplicit
theorem vF{E:Θ->ε->Prop}{pins:List (Ω×Obj)}{s:ε}{σ:St}{H:Hp}{x:Str}{u:Θ}{pos:Pos}{Q:Θ->ε->Prop}(I:Inv X pins σ H s) (hg:Gl X x) (hm:X.mg x=ζ u) (h:Q u s)
  (hd:(x==("__debug__":Str))=ξ:=by decide):wpAny (model X.prog X.w) X.A (eval (.Name x pos) X.env) Q E s :=
 aoX I.ok.kind hg (Calls.loadGlobal_global (by rw[I.ok.glob];exact I.mod.glob.keeps I.bk) hm h) hd
theorem nO{E:Θ->ε->Prop}{pins:List (Ω×Obj)}{s:ε}{σ:St}{H:Hp}{x:Str}{u:Θ}{pos:Pos}{Q:Θ->ε->Prop}(I:Inv X pins σ H s) (hg:Gl X x) (hm:X.mg x=η) (hv:bootBuiltins x=ζ u) (h:Q u s)
  (hn:x≠"__name__":=by decide) (hd:(x==("__debug__":Str))=ξ:=by decide):wpAny (model X.prog X.w) X.A (eval (.Name x pos) X.env) Q E s:=by
 obtain⟨mb,h1,h2⟩:=I.mod.blt;exact aoX I.ok.kind hg (Calls.loadGlobal_builtin (by rw[I.ok.glob];exact I.mod.glob.keeps I.bk) hm (by rw[I.ok.blt];exact h1.keeps I.bk) ((h2 x hn).trans hv) h) hd
theorem J0{x:Str}{v:V}{u:Θ}{pos:Pos}(hg:Gl X x) (hm:X.mg x=ζ u) (r:RelV v u) (hd:(x==("__debug__":Str))=ξ:=by decide):PE X (.Name x pos) (tC v) :=
 λ_ _ _ H _ I h=>vF I hg hm ⟨v,H,I,r,h⟩ hd
theorem Xm{x:Str}{v:V}{u:Θ}{pos:Pos}(hg:Gl X x) (hm:X.mg x=η) (hv:bootBuiltins x=ζ u) (r:RelV v u) (hn:x≠"__name__":=by decide) (hd:(x==("__debug__":Str))=ξ:=by decide):PE X (.Name x pos) (tC v) :=
 λ_ _ _ H _ I h=>nO I hg hm hv ⟨v,H,I,r,h⟩ hn hd
variable {a b:π}{ta tb:TE}{pos:Pos}
def tB(t:TE):TT:=λσ H Q=>t σ H λx H1=>∃c,x=.bl c/\Q c H1
theorem Vt{e:π}{t:TE}(h:PE X e t) (he:∀whole,isTrue e X.env whole=(do let v <-whole;standAt e.pos;holding [v] (truthy v)):=by intro _;rfl):PT X e (tB t):=by
 intro pins s σ H Q I hw;refine isTrue_plain (bz (h pins s σ H _ I hw) λv s1 ⟨x,H1,I1,r1,q1⟩=>?_) (he _)
 obtain⟨d,rfl,q⟩:=q1;cases r1;exact al9 ⟨H1,I1,q⟩
variable {tA xO:TT}{rest:List π}
def Sb(t u:TT):TT:=λσ H Q=>t σ H λc H1=>if c=Ξ then u σ H1 Q else Q ξ H1
def RW(t u:TT):TT:=λσ H Q=>t σ H λc H1=>if c=Ξ then Q Ξ H1 else u σ H1 Q
def RY(t:TT):TT:=λσ H Q=>t σ H λc H1=>Q (!c) H1
theorem Vq(ha:PT X a tA):PW X (.BoolOp .And [a] pos) tA:=by
 intro wh pins s σ H Q I h;refine isTrue_and (bz (ha pins s σ H Q I h) λc s1 e=>?_)
 cases c with
 |true=>exact isTrue_and_nil e
 |false=>exact e
theorem Vo(ha:PT X a tA):PW X (.BoolOp .Or [a] pos) tA:=by
 intro wh pins s σ H Q I h;refine isTrue_or (bz (ha pins s σ H Q I h) λc s1 e=>?_)
 cases c with
 |false=>exact isTrue_or_nil e
 |true=>exact e
theorem Vr(ha:PT X a tA) (hb:PW X (.BoolOp .And (b::rest) pos) xO):PW X (.BoolOp .And (a::b::rest) pos) (Sb tA xO):=by
 intro wh pins s σ H Q I h;refine isTrue_and (bz (ha pins s σ H _ I h) λc s1 ⟨H1,I1,q1⟩=>?_)
 cases c with
 |true=>exact hb wh pins s1 σ H1 Q I1 q1
 |false=>exact⟨H1,I1,q1⟩
theorem Vp(ha:PT X a tA) (hb:PW X (.BoolOp .Or (b::rest) pos) xO):PW X (.BoolOp .Or (a::b::rest) pos) (RW tA xO):=by
 intro wh pins s σ H Q I h;refine isTrue_or (bz (ha pins s σ H _ I h) λc s1 ⟨H1,I1,q1⟩=>?_)
 cases c with
 |true=>exact⟨H1,I1,q1⟩
 |false=>exact hb wh pins s1 σ H1 Q I1 q1
theorem Vw(ha:PT X a tA):PT X (.UnaryOp .Not a pos) (RY tA):=by
 intro pins s σ H Q I h;exact isTrue_not (ha pins s σ H (λc H1=>Q (!c) H1) I h)
def Sa(ta tb:TE):TE:=λσ H Q=>ta σ H λx H1=>∃c,x=.bl c/\if c=Ξ then tb σ H1 Q else Q (.bl ξ) H1
def RX(ta:TE):TE:=λσ H Q=>ta σ H λx H1=>∃c,x=.bl c/\Q (.bl (!c)) H1
theorem Xb{op}{t:TE}(h:PE X a t):PE X (.BoolOp op [a] pos) t:=λpins s σ H Q I hw=>BoolOp_one (h pins s σ H Q I hw)
theorem Xo(ha:PE X a ta) (hb:PE X (.BoolOp .And (b::rest) pos) tb):PE X (.BoolOp .And (a::b::rest) pos) (Sa ta tb):=by
 intro pins s σ H Q I h;refine BoolOp_and (bz (ha pins s σ H _ I h) λv s1 ⟨x,H1,I1,r1,q1⟩=>?_)
 obtain⟨c,rfl,q1⟩:=q1;cases r1;refine al9 ?_;cases c with
 |true=>exact hb pins s1 σ H1 Q I1 q1
 |false=>exact⟨.bl ξ,H1,I1,rfl,q1⟩
theorem Xe(ha:PE X a ta):PE X (.UnaryOp .Not a pos) (RX ta):=by
 intro pins s σ H Q I h;refine UnaryOp_ (bz (ha pins s σ H _ I h) λv s1 ⟨x,H1,I1,r1,q1⟩=>?_)
 obtain⟨c,rfl,q1⟩:=q1;cases r1;exact not_of (al9 ⟨.bl (!c),H1,I1,rfl,q1⟩)
end
def bC(K:Ψ) (H:Hp) (a:Ω) (xs:List V):Prop :=
 Rd H a (.lst xs) \/
  ∃(o:Obj) (its:Array Θ) (n:Nat),K.lookup a=ζ o/\o.cls=.type "list"/\o.dict=η/\o.data=.seq its n/\its.size<=ι/\Vals xs its.toList
def bU(K:Ψ) (H:Hp) (a:Ω) (xs:List V):Prop :=
 Rd H a (.tup xs) \/
  ∃(o:Obj) (its:Array Θ) (n:Nat),K.lookup a=ζ o/\o.cls=.type "tuple"/\o.data=.seq its n/\its.size<=ι/\Vals xs its.toList
def aiU:Θ->Option V
 |.none=>ζ .aQ
 |.bool b=>ζ (.bl b)
 |.int i _=>ζ (.int i)
 |.str x _=>ζ (.str x)
 |.bytes b _=>ζ (.iU b)
 |.float b _=>ζ (.sS b)
 |.ref a=>ζ (.ref a)
 |.type n=>ζ (.ty n)
 |_=>η
theorem RelV.abs{x:V}{u:Θ}(r:RelV x u):aiU u=ζ x:=by
 cases x with
 |aQ=>cases r;rfl
 |bl _=>cases r;rfl
 |int _=>obtain⟨t,rfl⟩:=r;rfl
 |str _=>obtain⟨t,rfl⟩:=r;rfl
 |iU _=>obtain⟨t,rfl⟩:=r;rfl
 |sS _=>obtain⟨t,rfl⟩:=r;rfl
 |ref _=>cases r;rfl
 |ty _=>cases r;rfl
theorem RelV.inj{x y:V}{u:Θ}(r:RelV x u) (q:RelV y u):x=y:=alo (r.abs.symm.trans q.abs)
theorem Vals.inj:∀{xs ys:List V}{us:List Θ},Vals xs us->Vals ys us->xs=ys
 |_,_,_,.nil,.nil=>rfl
 |_,_,_,.cons r t,.cons r' t'=>by rw[r.inj r',Vals.inj t t']
section
variable {X:Cx}{pins:List (Ω×Obj)}{σ:St}{H:Hp}{s:ε}{a:Ω}{xs ys:List V}
theorem bC.of{K:Ψ}(h:H a=ζ (.lst xs)):bC K H a xs:=.inl (.inl h)
theorem bU.of{K:Ψ}(h:H a=ζ (.tup xs)):bU K H a xs:=.inl (.inl h)
theorem Inv.list(I:Inv X pins σ H s) (h:bC X.K H a xs):∃its:List Θ,Vals xs its/\PlainL s.heap a its.toArray/\xs.length<=ι:=by
 rcases h with h|⟨o,its,n,hk,hc,hd,hs,hz,r⟩
 ·obtain⟨z,its,n,r,e⟩:=h.ok I.hok;exact⟨its,r,⟨_,n,e,rfl,rfl,rfl⟩,z⟩
 ·refine⟨its.toList,r,⟨o,n,I.eH a o hk,hc,hd,by simpa using hs⟩,?_⟩
  have e:=r.length;simp only[ale]at e;omega
theorem Inv.tuple(I:Inv X pins σ H s) (h:bU X.K H a xs):∃its:List Θ,Vals xs its/\IsTup s.heap a its.toArray/\xs.length<=ι:=by
 rcases h with h|⟨o,its,n,hk,hc,hs,hz,r⟩
 ·obtain⟨z,its,r,p⟩:=h.ok I.hok;exact⟨its,r,p.tup,z⟩
 ·refine⟨its.toList,r,⟨o,I.eH a o hk,hc,n,by simpa using hs⟩,?_⟩
  have e:=r.length;simp only[ale]at e;omega
theorem Inv.Ls(I:Inv X pins σ H s) (h:bC X.K H a xs) (h':bC X.K H a ys):xs=ys:=by
 obtain⟨its,r,⟨o,n,e,_,_,d⟩,_⟩:=I.list h;obtain⟨its',r',⟨o',n',e',_,_,d'⟩,_⟩:=I.list h';rw[e]at e';cases e';rw[d]at d'
 injection d' with d1 _
 have:its=its':=by simpa using congrArg Array.toList d1
 subst this;exact r.inj r'
theorem Inv.IF(I:Inv X pins σ H s) (h:bU X.K H a xs) (h':bU X.K H a ys):xs=ys:=by
 obtain⟨its,r,⟨o,e,_,n,d⟩,_⟩:=I.tuple h;obtain⟨its',r',⟨o',e',_,n',d'⟩,_⟩:=I.tuple h';rw[e]at e';cases e';rw[d]at d'
 injection d' with d1 _
 have:its=its':=by simpa using congrArg Array.toList d1
 subst this;exact r.inj r'
end
abbrev Cx.g9(X:Cx) (E:Θ->ε->Prop):Cx:={X with xe:=E}
abbrev Cx.fC(X:Cx):Cx:=X.g9 λ_ _=>False
theorem Cx.Ok.g9{X:Cx}(ok:X.Ok) (E:Θ->ε->Prop):(X.g9 E).Ok :=
 ⟨ok.mod,ok.kind,ok.glob,ok.blt,ok.above,ok.inj,ok.has,ok.jR,ok.hd,ok.frames,ok.stk,ok.lG,ok.bs,ok.gZ,ok.iL,ok.kB,ok.gM,ok.jN⟩
theorem Cx.Ok.i8{X:Cx}{E:Θ->ε->Prop}(ok:(X.g9 E).Ok):X.Ok :=
 ⟨ok.mod,ok.kind,ok.glob,ok.blt,ok.above,ok.inj,ok.has,ok.jR,ok.hd,ok.frames,ok.stk,ok.lG,ok.bs,ok.gZ,ok.iL,ok.kB,ok.gM,ok.jN⟩
section
variable {X:Cx}{pins:List (Ω×Obj)}{σ:St}{H:Hp}{s:ε}{E:Θ->ε->Prop}
theorem Inv.g9(I:Inv X pins σ H s) (E:Θ->ε->Prop):Inv (X.g9 E) pins σ H s:=⟨I.ok.g9 E,I.os,I.bare,I.base,I.loc,I.cell,I.free,I.gf,I.pin,I.hok,I.len⟩
theorem Inv.i8(I:Inv (X.g9 E) pins σ H s):Inv X pins σ H s:=⟨I.ok.i8,I.os,I.bare,I.base,I.loc,I.cell,I.free,I.gf,I.pin,I.hok,I.len⟩
theorem SP.i8{D:Ends}{f:Flow}{s':ε}(h:SP (X.g9 E) pins D f s'):SP X pins D f s':=by
 cases f with
 |next=>obtain⟨σ',H',I,q⟩:=h;exact⟨σ',H',I.i8,q⟩
 |brk=>obtain⟨σ',H',I,q⟩:=h;exact⟨σ',H',I.i8,q⟩
 |cont=>obtain⟨σ',H',I,q⟩:=h;exact⟨σ',H',I.i8,q⟩
 |ret u=>obtain⟨v,σ',H',I,r,q⟩:=h;exact⟨v,σ',H',I.i8,r,q⟩
theorem PT.fC{e:π}{t:TT}(h:PT X.fC e t):PT X e t:=λpins s σ H Q I hw =>
 alq (h pins s σ H Q (I.g9 _) hw) (λ_ _ ⟨H',I',q⟩=>⟨H',I'.i8,q⟩) λ_ _ z=>False.elim z
theorem eX.fC{st:List acz}{t:TS}(h:eX X.fC st t):eX X st t:=λpins s σ H D I hw =>
 alq (h pins s σ H D (I.g9 _) hw) (λ_ _ q=>q.i8) λ_ _ z=>False.elim z
end
section
variable {X:Cx}{st:acz}{rest:List acz}{t u:TS}{e:π}{te:TE}{pos:Pos}
def R1:TS:=λD σ H=>D.nx σ H
def RT(t u:TS):TS:=λD σ H=>t {D with nx:=u D} σ H
theorem VA:eX X [] R1:=λ_ _ σ H _ I h=>amT ⟨σ,H,I,h⟩
theorem Cd(h1:PS X st t) (h2:eX X rest u):eX X (st::rest) (RT t u):=by
 intro pins s σ H D I h;refine wpAny_execs_cons (bz (h1 pins s σ H {D with nx:=u D} I h) λf s1 q=>?_)
 cases f with
 |next =>
  obtain⟨σ',H',I',q⟩:=q;exact h2 pins s1 σ' H' D I' q
 |ret v=>exact q
 |brk=>exact q
 |cont=>exact q
theorem Vz(h1:PS X st t):eX X [st] t:=by
 intro pins s σ H D I h;refine wpAny_execs_cons (bz (h1 pins s σ H D I h) λf s1 q=>?_)
 cases f with
 |next=>exact amT q
 |ret v=>exact q
 |brk=>exact q
 |cont=>exact q
theorem Inv.quiet{pins:List (Ω×Obj)}{σ:St}{H:Hp}{s:ε}(I:Inv X pins σ H s):interactive X.env=ξ:=by simp[interactive,I.ok.kind]
def R7(te:TE):TS:=λD σ H=>te σ H λ_ H1=>D.nx σ H1
theorem JO(he:PE X e te) (hs:swapsWith e η pos.line X.env=pure ξ:=by rfl):PS X (.Expr e pos) (R7 te):=by
 intro pins s σ H D I h;exact wpAny_Expr_any (bz (he pins s σ H _ I h) λv s1 ⟨x,H1,I1,r1,q1⟩=>⟨σ,H1,I1,q1⟩) I.quiet hs
def RU(te:TE):TS:=λD σ H=>te σ H D.rt
theorem JM(he:PE X e te):PS X (.Return (ζ e) pos) (RU te):=by
 intro pins s σ H D I h;exact wpAny_Return_some (bz (he pins s σ H _ I h) λv s1 ⟨x,H1,I1,r1,q1⟩=>⟨x,σ,H1,I1,r1,q1⟩)
def R4(c:TT) (t u:TS):TS:=λD σ H=>c σ H λb H1=>if b=Ξ then t D σ H1 else u D σ H1
theorem JN{c:π}{a b:List acz}{tc:TT}(hc:PT X c tc) (ha:eX X a t) (hb:eX X b u):PS X (.If c a b pos) (R4 tc t u):=by
 intro pins s σ H D I h;refine wpAny_If (bz (hc pins s σ H _ I h) λd s1 ⟨H1,I1,q1⟩=>?_)
 cases d with
 |true=>exact ha pins s1 σ H1 D I1 q1
 |false=>exact hb pins s1 σ H1 D I1 q1
end
abbrev TG:=V->St->Hp->(St->Hp->Prop)->Prop
abbrev mW:=List V->St->Hp->(St->Hp->Prop)->Prop
def PG(X:Cx) (target:π) (t:TG):Prop :=
 ∀(pins:List (Ω×Obj)) (s:ε) (σ:St) (H:Hp) (v:V) (u:Θ) (Q:St->Hp->Prop),Inv X pins σ H s->RelV v u->t v σ H Q ->
  wpAny (model X.prog X.w) X.A (assign target X.env u) (λ_ s'=>∃σ' H',Inv X pins σ' H' s'/\Q σ' H') X.xe s
def oG(X:Cx) (ts:List π) (t:mW):Prop :=
 ∀(pins:List (Ω×Obj)) (s:ε) (σ:St) (H:Hp) (vs:List V) (us:List Θ) (Q:St->Hp->Prop),Inv X pins σ H s->Vals vs us->t vs σ H Q ->
  wpAny (model X.prog X.w) X.A (assignInOrder ((assignEach ts X.env).map (·.2)) us) (λ_ s'=>∃σ' H',Inv X pins σ' H' s'/\Q σ' H') X.xe s
abbrev HC:=V->V->V->Hp->(Hp->Prop)->Prop
def Pr(X:Cx) (t:HC):Prop :=
 ∀(pins:List (Ω×Obj)) (s:ε) (σ:St) (H:Hp) (o i v:V) (ov iv u:Θ) (Q:Hp->Prop),Inv X pins σ H s->RelV o ov->RelV i iv->RelV v u->t o i v H Q ->
  wpAny (model X.prog X.w) X.A (setItem ov iv u) (λ_ s'=>∃H',Inv X pins σ H' s'/\Q H') X.xe s
section
variable {X:Cx}{pos:Pos}
def M4(i:Nat):TG:=λv σ H Q=>Q (σ.set i (ζ v)) H
theorem WX{i:Nat}{x:Str}(hN:X.N.Nodup) (hi:X.N[i]? = ζ x) (hx:Loc X.env.scope x) (hf:X.fn x=Ξ\/X.env.scope.names.lookup x=ζ .local:=by first|exact .inl rfl|exact .inr rfl|assumption):PG X (.Name x pos) (M4 i):=by
 intro pins s σ H v u Q I r h;exact wpAny_assign_Name (BJ I hN hi hx r (λs' I'=>⟨_,H,I',h⟩) hf)
def aez:mW:=λvs σ H Q=>vs=[]/\Q σ H
def aeA(t:TG) (u:mW):mW:=λvs σ H Q=>∃v r,vs=v::r/\t v σ H λσ' H'=>u r σ' H' Q
theorem WT:oG X [] aez:=by
 intro pins s σ H vs us Q I r h;obtain⟨e,h⟩:=h;subst e;cases r;exact assignInOrder_nil ⟨σ,H,I,h⟩
theorem WU{e:π}{es:List π}{t:TG}{u:mW}(h1:PG X e t) (h2:oG X es u)
  (hs:(assignEach (e::es) X.env).map (·.2)=assign e X.env::(assignEach es X.env).map (·.2):=by rfl):oG X (e::es) (aeA t u):=by
 intro pins s σ H vs us Q I r h;obtain⟨v,vr,e1,h⟩:=h;subst e1;cases r with
 |cons r rr =>
  rw[hs];refine assignInOrder_cons (bz (h1 pins s σ H _ _ _ I r h) λ_ s1 ⟨σ1,H1,I1,q1⟩=>?_)
  exact h2 pins s1 σ1 H1 _ _ Q I1 rr q1
def aex(K:Ψ) (n:Nat) (t:mW):TG:=λv σ H Q=>∃a xs,v=.ref a/\bU K H a xs/\xs.length=n/\t xs σ H Q
theorem WV{es:List π}{k:Nat}{t:mW}{n:Nat}(hc:X.calm=Ξ) (h:oG X es t)
  (hn:(assignEach es X.env).length=n:=by rfl) (hst:(assignEach es X.env).findIdx? (·.1)=η:=by rfl):PG X (.Tuple es k pos) (aex X.K n t):=by
 intro pins s σ H v u Q I r hw;obtain⟨a,xs,e1,hq,hl,hw⟩:=hw;subst e1;cases r;obtain⟨its,rv,ht,hz⟩:=I.tuple hq;refine assign_Tuple_tuple (I.ok.hd hc) ht (by simp[hn,<-hl,rv.length]) hst λh' hx=>?_
 have I1:Inv X pins σ H {s with heap:=h'}:=I.kept (t':=s.toks) λb o e=>hx b o (ak3 (akX e)) e
 exact h pins _ σ H xs _ Q I1 (by simpa using rv) hw
def aey(to ti:TE) (t:HC):TG:=λv σ H Q=>to σ H λo H1=>ti σ H1 λi H2=>t o i v H2 λH3=>Q σ H3
theorem WW{o i:π}{to ti:TE}{t:HC}(ho:PE X o to) (hi:PE X i ti) (hs:Pr X t)
  (ha:∀v,assign (.Subscript o i pos) X.env v=(do
   let ov <-holding [v] (eval o X.env)
   let iv <-holding [v,ov] (eval i X.env)
   standAt pos
   holding [v,ov,iv] (setItem ov iv v)
   release [v,ov,iv] []):=by intro _;rfl):PG X (.Subscript o i pos) (aey to ti t):=by
 intro pins s σ H v u Q I r h;rw[ha];refine akR (alJ (bz (ho pins s σ H _ I h) λov s1 ⟨x,H1,I1,r1,q1⟩=>?_))
 refine akR (alJ (bz (hi pins s1 σ H1 _ I1 q1) λiv s2 ⟨y,H2,I2,r2,q2⟩=>?_))
 refine akR (wpAny_standAt (akR (alJ (bz (hs pins s2 σ H2 x y v ov iv u _ I2 r1 r2 r q2) λ_ s3 ⟨H3,I3,q3⟩=>?_))))
 exact wpAny_release ⟨σ,H3,I3,q3⟩
def IY(te:TE) (g:TG):TS:=λD σ H=>te σ H λx H1=>g x σ H1 D.nx
theorem VI{tg e:π}{te:TE}{g:TG}(he:PE X e te) (hg:PG X tg g) (hs:swapsWithSole [tg] e pos.line X.env=pure ξ:=by rfl) (hw:swappedStores [tg] e X.env=pure η:=by rfl)
  (h1:(assignEach [tg] X.env).map (·.2)=[assign tg X.env]:=by rfl):PS X (.Assign [tg] e pos) (IY te g):=by
 intro pins s σ H D I h;refine wpAny_Assign_stores (bz (he pins s σ H _ I h) λv s1 ⟨x,H1,I1,r1,q1⟩=>?_) hs hw
 rw[h1];exact bz (hg pins s1 σ H1 x v _ I1 r1 q1) λ_ s2 q=>q
theorem VF{i:Nat}{x:Str}{e:π}{te:TE}{pos':Pos}(hN:X.N.Nodup) (hi:X.N[i]? = ζ x) (hx:Loc X.env.scope x) (he:PE X e te) (hs:swapsWith e (ζ (.Name x pos')) pos.line X.env=pure ξ:=by rfl) (hf:X.fn x=Ξ\/X.env.scope.names.lookup x=ζ .local:=by first|exact .inl rfl|exact .inr rfl|assumption) :
  PS X (.Assign [.Name x pos'] e pos) (IY te (M4 i)):=by
 intro pins s σ H D I h;refine wpAny_Assign_Name (bz (he pins s σ H _ I h) λv s1 ⟨y,H1,I1,r1,q1⟩=>?_) hs
 exact BJ I1 hN hi hx r1 (λs2 I2=>⟨_,H1,I2,q1⟩) hf
end
section
variable {X:Cx}{pos:Pos}
def RO(c:TT) (tb:TS):TS:=λD σ H=>∃W:Nat->St->Hp->Prop,(∃m,W m σ H)/\∀m σ H,W m σ H ->
 c σ H λb H1=>if b=Ξ then ∃N:St->Hp->Prop,(∀σ' H',N σ' H'->∃m',m'<m/\W m' σ' H')/\tb {D with nx:=N,ct:=N,bk:=D.nx} σ H1 else D.nx σ H1
theorem VC{c:π}{body:List acz}{tc:TT}{tb:TS}(hp:adV (model X.prog X.w) X.A X.env X.xe) (hc:PT X c tc) (hb:eX X body tb):PS X (.While c body [] pos) (RO tc tb):=by
 intro pins s σ H D I h;obtain⟨W,⟨m0,w0⟩,turn⟩:=h;refine wpAny_While (codeAny_whileLoop (λn s'=>∃σ' H',Inv X pins σ' H' s'/\W n σ' H') ?_ m0 ⟨σ,H,I,w0⟩)
 rintro n s1 ⟨σ1,H1,I1,w1⟩
 refine ams hp (bz (hc pins s1 σ1 H1 _ I1 (turn n σ1 H1 w1)) λb s2 ⟨H2,I2,q2⟩=>?_)
 cases b with
 |true =>
  obtain⟨N,hN,q2⟩:=q2;rw[if_pos rfl];refine ams hp (bz (hb pins s2 σ1 H2 _ I2 q2) λf s3 q3=>?_)
  cases f with
  |next =>
   obtain⟨σ3,H3,I3,n3⟩:=q3;obtain⟨m',hm,w3⟩:=hN σ3 H3 n3;exact⟨m',hm,σ3,H3,I3,w3⟩
  |cont =>
   obtain⟨σ3,H3,I3,n3⟩:=q3;obtain⟨m',hm,w3⟩:=hN σ3 H3 n3;exact⟨m',hm,σ3,H3,I3,w3⟩
  |brk=>exact q3
  |ret v=>exact q3
 |false =>
  rw[if_neg alf];exact amT ⟨σ1,H2,I2,q2⟩
end
structure It where
 go:Nat->Hp->Prop
 uC:Nat->Hp->V->Hp->Prop
 stop:Nat->Hp->Prop
def gD(X:Cx) (pins:List (Ω×Obj)) (H:Hp) (b:Ω):Prop :=
 H b=η/\b≠X.env.locals/\b∉X.fs/\(b∈X.ex\/X.s₀.heap.objs.size<=b)/\(∀x c,X.env.cells.lookup x=ζ c->c≠b)/\∀p∈X.pn++pins,p.1≠b
theorem Inv.vZ{X:Cx}{pins:List (Ω×Obj)}{σ:St}{H H':Hp}{s:ε}{b:Ω}(I:Inv X pins σ H s) (hb:s.heap.objs.size<=b) (hn:H' b=η):gD X pins H' b:=by
 refine⟨hn,alF (alc I.lt hb),I.CB hb,.inr (als I.sz hb),λx c e z=>?_,λp hp z=>?_⟩
 ·obtain⟨v,q⟩:=I.cell x c e;exact absurd (alc q.lt (by rw[z];exact hb)) (alE _)
 ·exact absurd (alc (akX (I.pin p hp).1) (by rw[z];exact hb)) (alE _)
structure Turn (P:τ) (w:ψ) (K:Ψ) (tg:π) (J:It) (fp:List Ω) (it:Ω) (tn:Nat->χ->Prop):Prop where
 mem:it∈fp
 obj:∀i h,tn i h->∀b∈fp,∃o,h.get? b=ζ o/\∀v,o.data≠.cell v
 keep:∀i h h',tn i h->(∀b∈fp,∀o,h.get? b=ζ o->h'.get? b=ζ o)->tn i h'
 item:∀(X:Cx),X.prog=P->X.w=w->X.K=K->X.calm=Ξ->∀(i:Nat) (pins:List (Ω×Obj)) (s:ε) (σ:St) (H:Hp) (E:Θ->ε->Prop),Inv X pins σ H s->(∀b∈fp,gD X pins H b)->tn i s.heap->J.go i H ->
  wpAny (model P w) X.A (pyNext (.ref it)) (λr s1=>∃u,r=ζ u /\
   wpAny (model P w) X.A (letOwnedTupleGo tg (.ref it) u) (λ_ s2=>∃x H',Inv X pins σ H' s2/\RelV x u/\J.uC i H x H'/\tn (i+1) s2.heap/\∀b∈fp,H' b=η) E s1) E s
 done:∀(X:Cx),X.prog=P->X.w=w->X.K=K->X.calm=Ξ->∀(i:Nat) (pins:List (Ω×Obj)) (s:ε) (σ:St) (H:Hp) (E:Θ->ε->Prop),Inv X pins σ H s->(∀b∈fp,gD X pins H b)->tn i s.heap->J.stop i H ->
  wpAny (model P w) X.A (pyNext (.ref it)) (λr s1=>r=η/\Inv X pins σ H s1) E s
 self:∀(A:ω) (i:Nat) (s:ε) (Q:Θ->ε->Prop) (E:Θ->ε->Prop),tn i s.heap->Q (.ref it) s->wpAny (model P w) A (pyIter (.ref it)) Q E s
abbrev TI:=St->Hp->(It->Hp->Prop)->Prop
def HH(X:Cx) (pins:List (Ω×Obj)) (σ:St) (tg:π) (R:It->Hp->Prop) (itv:Θ) (s2:ε):Prop :=
 ∃(it:Ω) (fp:List Ω) (tn:Nat->χ->Prop) (J:It) (H':Hp),itv=.ref it/\Inv X pins σ H' s2/\Turn X.prog X.w X.K tg J fp it tn/\tn 0 s2.heap/\(∀b∈fp,gD X pins H' b)/\R J H'
def PI(X:Cx) (tg iter:π) (wi:TI):Prop :=
 ∀(pins:List (Ω×Obj)) (s:ε) (σ:St) (H:Hp) (R:It->Hp->Prop),Inv X pins σ H s->wi σ H R ->
  wpAny (model X.prog X.w) X.A (eval iter X.env) (λv s1=>wpAny (model X.prog X.w) X.A (pyIter v) (HH X pins σ tg R) X.xe s1) X.xe s
theorem zK{M:Model}{A:ω}{E:Θ->ε->Prop}{s:ε}{tg:π}{it:Ω}{u:Θ}{o:Obj}{n:String}{vs:Array Θ}{Q:Unit->ε->Prop}(ho:s.heap.get? it=ζ o) (hc:o.cls=.type n) (hd:o.data=.fields vs)
    (hn:["enumerate","zip","dict_itemiterator","dict_reverseitemiterator","odict_iterator","itertools.zip_longest","itertools.pairwise"].contains n=ξ) (hQ:Q () s):wpAny M A (letOwnedTupleGo tg (.ref it) u) Q E s:=by
  unfold letOwnedTupleGo;cases tg<;>first
    | exact akS hQ
    | (cases u<;>first
        | exact akS hQ
        | (refine akR (wpAny_load ho ?_)
           rw[hc,hd];show wpAny M A (if(["enumerate","zip","dict_itemiterator","dict_reverseitemiterator","odict_iterator","itertools.zip_longest","itertools.pairwise"].contains n&&vs[0]? == ζ (rawInt _))=Ξ then _ else _) Q E s
           rw[if_neg (by intro h;rw[hn,anV]at h;cases h)]
           exact akS hQ))
def HP(K:Ψ) (a:Ω):It :=
 ⟨λi H=>∃xs x,bC K H a xs/\xs[i]? = ζ x,λi H x H'=>H'=H/\∀xs,bC K H a xs->xs[i]? = ζ x,λi H=>∃xs,bC K H a xs/\xs.length<=i⟩
def HN(K:Ψ) (a:Ω):It :=
 ⟨λi H=>∃xs x,bU K H a xs/\xs[i]? = ζ x,λi H x H'=>H'=H/\∀xs,bU K H a xs->xs[i]? = ζ x,λi H=>∃xs,bU K H a xs/\xs.length<=i⟩
def xg(lo:Int) (n:Nat):It:=⟨λi _=>i<n,λi H x H'=>H'=H/\x=.int (lo+i),λi _=>n<=i⟩
theorem RB{P:τ}{w:ψ}{K:Ψ}{tg:π}(a it:Ω):Turn P w K tg (HP K a) [it] it (λi h=>h.IsListIter it a i) where
 mem:=by simp
 obj:=λi h st b hb=>by
  have e:b=it:=by simpa using hb
  subst e;obtain⟨o,e,c,d⟩:=st;exact⟨o,e,λv z=>by rw[d]at z;cases z⟩
 keep:=λi h h' st k=>st.at λo e=>k it (by simp) o e
 item:=by
  intro X hP hw hK hc i pins s σ H E I hf st hg;subst hP hw hK;obtain⟨xs,x,hq,hx⟩:=hg;obtain⟨its,rv,p,hz⟩:=I.list hq;obtain⟨u,hu,ru⟩:=rv.get hx;obtain⟨f0,f1,f2,f3,f4,f5⟩:=hf it (by simp)
  refine wpAny_pyNext_list_item st p.isList (x:=u) (by simpa using hu) λh' st' sb=>?_
  have I1:Inv X pins σ H {s with heap:=h'}:=I.turned (t':=s.toks) (λb o hb e=>(sb.2 b hb).trans e) f0 f1 f3 f4 f5
  obtain⟨o,e,c,d⟩:=id st';exact⟨u,rfl,zK (s:={s with heap:=h'}) e c d (by decide) ⟨x,H,I1,ru,⟨rfl,λys hy=>by rw[I.Ls hy hq];exact hx⟩,st',λb hb=>(hf b hb).1⟩⟩
 done:=by
  intro X hP hw hK hc i pins s σ H E I hf st hg;subst hP hw hK;obtain⟨xs,hq,hx⟩:=hg;obtain⟨its,rv,p,hz⟩:=I.list hq;obtain⟨f0,f1,f2,f3,f4,f5⟩:=hf it (by simp)
  have hl:=rv.length;exact wpAny_pyNext_list_end (I.ok.hd hc) st p.isList (by simp;omega) λh' eb=>⟨rfl,I.turned (t':=s.toks) (λb o hb e=>eb b o hb e) f0 f1 f3 f4 f5⟩
 self:=λ_ _ _ _ _ st h=>wpAny_pyIter_listiter st h
theorem Rz{P:τ}{w:ψ}{K:Ψ}{tg:π}(a it:Ω):Turn P w K tg (HN K a) [it] it (λi h=>h.IsTupleIter it a i) where
 mem:=by simp
 obj:=λi h st b hb=>by
  have e:b=it:=by simpa using hb
  subst e;obtain⟨o,e,c,d⟩:=st;exact⟨o,e,λv z=>by rw[d]at z;cases z⟩
 keep:=λi h h' st k=>st.at λo e=>k it (by simp) o e
 item:=by
  intro X hP hw hK hc i pins s σ H E I hf st hg;subst hP hw hK;obtain⟨xs,x,hq,hx⟩:=hg;obtain⟨its,rv,p,hz⟩:=I.tuple hq;obtain⟨u,hu,ru⟩:=rv.get hx;obtain⟨f0,f1,f2,f3,f4,f5⟩:=hf it (by simp)
  refine wpAny_pyNext_tuple_item st (show s.heap.IsTuple a its.toArray from p) (x:=u) (by simpa using hu) λh' st' sb=>?_
  have I1:Inv X pins σ H {s with heap:=h'}:=I.turned (t':=s.toks) (λb o hb e=>(sb.2 b hb).trans e) f0 f1 f3 f4 f5
  obtain⟨o,e,c,d⟩:=id st';exact⟨u,rfl,zK (s:={s with heap:=h'}) e c d (by decide) ⟨x,H,I1,ru,⟨rfl,λys hy=>by rw[I.IF hy hq];exact hx⟩,st',λb hb=>(hf b hb).1⟩⟩
 done:=by
  intro X hP hw hK hc i pins s σ H E I hf st hg;subst hP hw hK;obtain⟨xs,hq,hx⟩:=hg;obtain⟨its,rv,p,hz⟩:=I.tuple hq;obtain⟨f0,f1,f2,f3,f4,f5⟩:=hf it (by simp)
  have hl:=rv.length;exact wpAny_pyNext_tuple_end (I.ok.hd hc) st (show s.heap.IsTuple a its.toArray from p) (by simp;omega) λh' eb=>⟨rfl,I.turned (t':=s.toks) (λb o hb e=>eb b o hb e) f0 f1 f3 f4 f5⟩
 self:=λ_ _ _ _ _ st h=>wpAny_pyIter_tupleiter st h
theorem RA{P:τ}{w:ψ}{K:Ψ}{tg:π}(it:Ω) (lo:Int) (n:Nat):Turn P w K tg (xg lo n) [it] it (λi h=>adH h it (lo+(i:Nat)*1) ((n:Int)-(i:Nat)) 1) where
 mem:=by simp
 obj:=λi h st b hb=>by
  have e:b=it:=by simpa using hb
  subst e;exact⟨_,st,λv z=>by
   have z':Data.fields _=Data.cell v:=z;cases z'⟩
 keep:=λi h h' st k=>k it (by simp) _ st
 item:=by
  intro X hP hw hK hc i pins s σ H E I hf st hg;subst hP hw hK;obtain⟨f0,f1,f2,f3,f4,f5⟩:=hf it (by simp)
  have W:=Walks.range (prog:=X.prog) (w:=X.w) (I.ok.hd hc) it lo 1 n;refine W.item i s _ _ hg st λv h' tk hv st' kk=>?_
  obtain⟨t,rfl⟩:=hv;have I1:Inv X pins σ H {s with heap:=h',toks:=tk}:=I.turned (λb o hb e=>kk b o (by simpa using hb) e) f0 f1 f3 f4 f5
  refine⟨_,rfl,zK (s:={s with heap:=h',toks:=tk}) (n:="range_iterator") st' rfl rfl (by decide) ⟨.int (lo+i),H,I1,⟨t,?_⟩,⟨rfl,rfl⟩,st',λb hb=>(hf b hb).1⟩⟩
  rw[Int.mul_one]
 done:=by
  intro X hP hw hK hc i pins s σ H E I hf st hg;subst hP hw hK;obtain⟨f0,f1,f2,f3,f4,f5⟩:=hf it (by simp)
  exact aoY (I.ok.hd hc) st (by have:n<=i:=hg;omega) λh' eb=>⟨rfl,I.turned (t':=s.toks) (λb o hb e=>eb b o hb e) f0 f1 f3 f4 f5⟩
 self:=λ_ _ _ _ _ st h=>aoZ st h
section
variable {X:Cx}{tg:π}
def adf(K:Ψ) (tl:TE):TI:=λσ H R=>tl σ H λx H1=>∃a,x=.ref a/\(∃xs,bC K H1 a xs)/\R (HP K a) H1
def ac9(K:Ψ) (tl:TE):TI:=λσ H R=>tl σ H λx H1=>∃a,x=.ref a/\(∃xs,bU K H1 a xs)/\R (HN K a) H1
theorem WS{l:π}{tl:TE}(hl:PE X l tl):PI X tg l (adf X.K tl):=by
 intro pins s σ H R I h;refine bz (hl pins s σ H _ I h) λv s1 ⟨x,H1,I1,r1,q1⟩=>?_
 obtain⟨a,e,⟨xs,hq⟩,q⟩:=q1;subst e;cases r1;obtain⟨its,rv,p,hz⟩:=I1.list hq;refine ani p.isList ?_;refine⟨s1.heap.objs.size,[s1.heap.objs.size],_,_,H1,rfl,I1.kept (t':=s1.toks) λb o e=>akU _ e,RB a _,⟨_,ak8 _ rfl,rfl,rfl⟩,λb hb=>?_,q⟩
 have e:b=s1.heap.objs.size:=by simpa using hb
 subst e;exact I1.vZ (akT _) (I1.hok.fresh (akT _))
theorem WN{l:π}{tl:TE}(hl:PE X l tl):PI X tg l (ac9 X.K tl):=by
 intro pins s σ H R I h;refine bz (hl pins s σ H _ I h) λv s1 ⟨x,H1,I1,r1,q1⟩=>?_
 obtain⟨a,e,⟨xs,hq⟩,q⟩:=q1;subst e;cases r1;obtain⟨its,rv,p,hz⟩:=I1.tuple hq;refine anj (show s1.heap.IsTuple a its.toArray from p) ?_
 refine⟨s1.heap.objs.size,[s1.heap.objs.size],_,_,H1,rfl,I1.kept (t':=s1.toks) λb o e=>akU _ e,Rz a _,⟨_,ak8 _ rfl,rfl,rfl⟩,λb hb=>?_,q⟩
 have e:b=s1.heap.objs.size:=by simpa using hb
 subst e;exact I1.vZ (akT _) (I1.hok.fresh (akT _))
theorem JH{pins:List (Ω×Obj)}{σ:St}{H:Hp}{s:ε}{R:It->Hp->Prop}{E:Θ->ε->Prop}{lo hi:Int}{t u v:Tok}{tk:Nat}(I:Inv X pins σ H s) (h1:-(2^62)<=lo) (h2:lo<2^62) (h3:-(2^62)<=hi) (h4:hi<2^62)
  (q:R (xg lo (hi-lo).toNat) H):wpAny (model X.prog X.w) X.A (pyIter (.ref s.heap.objs.size)) (HH X pins σ tg R) E {s with heap:=s.heap.push {cls:=.type "range",data:=.fields #[.int lo t,.int hi u,.int 1 v]},toks:=tk}:=by
 refine wpAny_pyIter_range (IsRange.new ..) (small_one h1 h2 h3 h4) ?_;have I1:Inv X pins σ H {s with heap:=s.heap.push {cls:=.type "range",data:=.fields #[.int lo t,.int hi u,.int 1 v]},toks:=tk}:=I.kept λb o e=>akU _ e
 refine⟨(s.heap.push {cls:=.type "range",data:=.fields #[.int lo t,.int hi u,.int 1 v]}).objs.size,[(s.heap.push {cls:=.type "range",data:=.fields #[.int lo t,.int hi u,.int 1 v]}).objs.size],_,_,H,rfl,
  I1.kept (t':=tk) λb o e=>akU _ e,RA _ lo (hi-lo).toNat,?_,λb hb=>?_,q⟩
 ·have e1:lo+((0:Nat):Int)*1=lo:=by simp
  have e2:(((hi-lo).toNat:Nat):Int)-((0:Nat):Int)=Builtin.Range.rangeSize lo hi 1:=by rw[rangeSize_one];split<;>omega
  show adH _ _ (lo+((0:Nat):Int)*1) ((((hi-lo).toNat:Nat):Int)-((0:Nat):Int)) 1;rw[e1,e2];exact ak8 _ rfl
 ·have e:b=(s.heap.push {cls:=.type "range",data:=.fields #[.int lo t,.int hi u,.int 1 v]}).objs.size:=by simpa using hb
  subst e;exact I1.vZ (akT _) (I1.hok.fresh (akT _))
def ade(ta:TA):TI:=λσ H R=>ta σ H λvs H1=>∃j:Int,vs=[.int j]/\-(2^62)<=j/\j<2^62/\R (xg 0 j.toNat) H1
def adb(ta:TA):TI:=λσ H R=>ta σ H λvs H1=>∃i j:Int,vs=[.int i,.int j]/\(-(2^62)<=i/\i<2^62/\-(2^62)<=j/\j<2^62)/\R (xg i (j-i).toNat) H1
theorem WR{a:π}{ta:TA}{p pos:Pos}(hg:Gl X "range") (hm:X.mg "range"=η) (ha:PA X [a] ta) (hs:μ [a] X.env=[(ξ,eval a X.env)]:=by rfl):PI X tg (.Call (.Name "range" p) [a] [] pos) (ade ta):=by
 intro pins s σ H R I h;refine Call_ (nO I hg hm boot_range (amD (bz (ha pos pins s σ H _ I h) λus s1 ⟨vs,H1,I1,r1,q1⟩=>?_) hs rfl))
 obtain⟨j,e,q1,q2,q⟩:=q1;subst e;cases r1 with
 |cons r rr =>
  cases rr;obtain⟨t,rfl⟩:=r;exact call_range_1 (JH I1 (by omega) (by omega) q1 q2 (by simpa using q))
theorem WQ{a b:π}{ta:TA}{p pos:Pos}(hg:Gl X "range") (hm:X.mg "range"=η) (ha:PA X [a,b] ta) (hs:μ [a,b] X.env=[(ξ,eval a X.env),(ξ,eval b X.env)]:=by rfl) (hs2:μ [b] X.env=[(ξ,eval b X.env)]:=by rfl) :
  PI X tg (.Call (.Name "range" p) [a,b] [] pos) (adb ta):=by
 intro pins s σ H R I h;refine Call_ (nO I hg hm boot_range (amD (bz (ha pos pins s σ H _ I h) λus s1 ⟨vs,H1,I1,r1,q1⟩=>?_) (by rw[hs,hs2]) (by rw[hs2];rfl)))
 obtain⟨i,j,e,⟨q1,q2,q3,q4⟩,q⟩:=q1;subst e;cases r1 with
 |cons r rr =>
  cases rr with
  |cons r' rr =>
   cases rr;obtain⟨t,rfl⟩:=r;obtain⟨t',rfl⟩:=r';exact call_range_2 (JH I1 q1 q2 q3 q4 q)
def R6(wi:TI) (g:TG) (tb:TS):TS:=λD σ H=>wi σ H λJ H1=>∃W:Nat->Nat->St->Hp->Prop,(∃m,W 0 m σ H1)/\∀i m σ H,W i m σ H ->
 (J.stop i H/\D.nx σ H)\/(J.go i H/\∃N:St->Hp->Prop,(∀σ' H',N σ' H'->∃m',m'<m/\W (i+1) m' σ' H')/\∀x H',J.uC i H x H'->g x σ H' λσ2 H2=>tb {D with nx:=N,ct:=N,bk:=D.nx} σ2 H2)
def u0(fp:List Ω) (h:χ):List (Ω×Obj):=fp.filterMap λb=>(h.get? b).map λo=>(b,o)
theorem zc{fp:List Ω}{h:χ}{b:Ω}{o:Obj}(hb:b∈fp) (e:h.get? b=ζ o):(b,o)∈u0 fp h:=amU.mpr ⟨b,hb,by rw[e];rfl⟩
theorem YK{fp:List Ω}{h:χ}{p:Ω×Obj}(hp:p∈u0 fp h):p.1∈fp/\h.get? p.1=ζ p.2:=by
 obtain⟨b,hb,e⟩:=amU.mp hp;cases q:h.get? b with
 |none=>rw[q]at e;cases e
 |some o =>
  rw[q]at e;have e':(b,o)=p:=alo e;subst e';exact⟨hb,q⟩
theorem Inv.pinned{pins:List (Ω×Obj)}{σ:St}{H:Hp}{s:ε}{fp:List Ω}(I:Inv X pins σ H s) (hf:∀b∈fp,gD X pins H b) (ho:∀b∈fp,∃o,s.heap.get? b=ζ o/\∀v,o.data≠.cell v):Inv X (pins++u0 fp s.heap) σ H s :=
 I.yj λp hp=>(alj.mp hp).elim (λz=>I.pin p (alQ _ z)) λz=>by
  obtain⟨hb,e⟩:=YK z;obtain⟨f0,f1,f2,_⟩:=hf p.1 hb;obtain⟨o,e',d⟩:=ho p.1 hb;rw[e]at e';cases e';exact⟨e,f0,f1,f2,d⟩
theorem Inv.uG{pins pl:List (Ω×Obj)}{σ:St}{H:Hp}{s:ε}(I:Inv X (pins++pl) σ H s):Inv X pins σ H s:=I.yj λp hp=>I.pin p (alQ _ (anT _ hp))
theorem VH{iter:π}{body:List acz}{wi:TI}{g:TG}{tb:TS}{pos:Pos}(hp:adV (model X.prog X.w) X.A X.env X.xe) (hc:X.calm=Ξ) (hi:PI X tg iter wi) (hg:PG X tg g) (hb:eX X body tb)
  (hs:∀x,foldedSetIterable iter X.env x=pure x:=by intro _;rfl):PS X (.For tg iter body [] pos) (R6 wi g tb):=by
 intro pins s σ H D I h;refine wpAny_For (bz (hi pins s σ H _ I h) λv s1 h1=>bz h1 λitv s2 h2=>?_) hs
 obtain⟨it,fp,tn,J,H2,e,I2,T,st2,f2,W,⟨m0,w0⟩,turn⟩:=h2;subst e;have oX:∀{H':Hp},(∀b∈fp,H' b=η)->∀b∈fp,gD X pins H' b:=λhn b hb=>⟨hn b hb,(f2 b hb).2⟩
 refine codeAny_forLoop_any (λn s'=>∃i σ' H',Inv X pins σ' H' s'/\tn i s'.heap/\(∀b∈fp,H' b=η)/\W i n σ' H') ?_ m0 ⟨0,σ,H2,I2,st2,λb hb=>(f2 b hb).1,w0⟩
 rintro n s3 ⟨i,σ3,H3,I3,st3,M9,w3⟩
 rcases turn i n σ3 H3 w3 with⟨stop,qn⟩|⟨go,N,hN,step⟩
 ·refine ams hp (bz (T.done X rfl rfl rfl hc i pins s3 σ3 H3 X.xe I3 (oX M9) st3 stop) λr s4 ⟨hr,I4⟩=>?_)
  subst hr;exact amT ⟨σ3,H3,I4,qn⟩
 ·refine ams hp (bz (T.item X rfl rfl rfl hc i pins s3 σ3 H3 X.xe I3 (oX M9) st3 go) λr s4 ⟨u,hr,h4⟩=>?_)
  subst hr;refine ams hp (bz h4 λ_ s5 ⟨x,H5,I5,r5,y5,oY,zO⟩=>?_)
  have I5':=I5.pinned (oX zO) (T.obj _ _ oY);refine ams hp (bz (hg _ s5 σ3 H5 x u _ I5' r5 (step x H5 y5)) λ_ s6 ⟨Qy,H6,I6,q6⟩=>?_)
  refine ams hp (bz (hb _ s6 Qy H6 _ I6 q6) λf s7 q7=>?_)
  have again:∀{i6:St}{H7:Hp},Inv X (pins++u0 fp s5.heap) i6 H7 s7->N i6 H7->∃m,m<n/\∃i σ' H',Inv X pins σ' H' s7/\tn i s7.heap/\(∀b∈fp,H' b=η)/\W i m σ' H':=fun{i6 H7} I7 n7=>by
   obtain⟨m',hm,w7⟩:=hN i6 H7 n7;refine⟨m',hm,i+1,i6,H7,I7.uG,T.keep _ _ _ oY λb hb o e=>(I7.pin (b,o) (alQ _ (alQ _ (zc hb e)))).1,λb hb=>?_,w7⟩
   obtain⟨o,e,d⟩:=T.obj _ _ oY b hb;exact(I7.pin (b,o) (alQ _ (alQ _ (zc hb e)))).2.1
  cases f with
  |next=>obtain⟨i6,H7,I7,n7⟩:=q7;exact again I7 n7
  |cont=>obtain⟨i6,H7,I7,n7⟩:=q7;exact again I7 n7
  |brk=>obtain⟨i6,H7,I7,q7⟩:=q7;exact⟨i6,H7,I7.uG,q7⟩
  |ret v=>obtain⟨x7,i6,H7,I7,r7,q7⟩:=q7;exact⟨x7,i6,H7,I7.uG,r7,q7⟩
end
abbrev R2:=V->V->Hp->VK->Prop
def bN(X:Cx) (f:Θ->Θ->Sem Θ) (r:R2):Prop :=
 ∀(pins:List (Ω×Obj)) (s:ε) (σ:St) (H:Hp) (x y:V) (v u:Θ) (Q:VK),Inv X pins σ H s->RelV x v->RelV y u->r x y H Q ->
  wpAny (model X.prog X.w) X.A (f v u) (EP X pins σ Q) X.xe s
def c9(X:Cx) (f:Θ) (r:List V->Hp->VK->Prop):Prop :=
 ∀(pins:List (Ω×Obj)) (s:ε) (σ:St) (H:Hp) (xs:List V) (us:List Θ) (Q:VK),Inv X pins σ H s->Vals xs us->r xs H Q ->
  wpAny (model X.prog X.w) X.A (call f us) (EP X pins σ Q) X.xe s
def aiW(X:Cx) (r:V->Hp->(Bool->Hp->Prop)->Prop):Prop :=
 ∀(pins:List (Ω×Obj)) (s:ε) (σ:St) (H:Hp) (x:V) (v:Θ) (Q:Bool->Hp->Prop),Inv X pins σ H s->RelV x v->r x H Q ->
  wpAny (model X.prog X.w) X.A (truthy v) (TP X pins σ Q) X.xe s
def xN(r:R2) (ta tb:TE):TE:=λσ H Q=>ta σ H λx H1=>tb σ H1 λy H2=>r x y H2 Q
def rI(C:Int->Int->Prop) (g:Int->Int->V):R2:=λx y H Q=>∃i j,x=.int i/\y=.int j/\C i j/\Q (g i j) H
def jX(g:Int->Int->V):R2:=λx y H Q=>∃i j,x=.int i/\y=.int j/\Q (g i j) H
section
variable {X:Cx}{a b c:π}{ta tb tc:TE}{pos:Pos}
theorem Ht(ha:PE X a ta) (hb:PE X b tb) {pins:List (Ω×Obj)}{s:ε}{σ:St}{H:Hp}{R:V->V->Hp->Prop}(I:Inv X pins σ H s)
  (h:ta σ H λx H1=>tb σ H1 λy H2=>R x y H2) {Q:Θ->ε->Prop}{f:Θ->Θ->Sem Θ}
  (hf:∀v u s2 x y H2,Inv X pins σ H2 s2->RelV x v->RelV y u->R x y H2->wpAny (model X.prog X.w) X.A (f v u) Q X.xe s2) :
  wpAny (model X.prog X.w) X.A (eval a X.env) (λv s₁=>wpAny (model X.prog X.w) X.A (eval b X.env) (λu s₂=>wpAny (model X.prog X.w) X.A (f v u) Q X.xe s₂) X.xe s₁) X.xe s:=by
 refine bz (ha pins s σ H _ I h) λv s1 ⟨x,H1,I1,r1,q1⟩=>?_
 refine bz (hb pins s1 σ H1 _ I1 q1) λu s2 ⟨y,H2,I2,r2,q2⟩=>?_
 exact hf v u s2 x y H2 I2 r1 r2 q2
theorem Xa{op:Operator}{r:R2}(ho:bN X (binaryOp op) r) (ha:PE X a ta) (hb:PE X b tb):PE X (.BinOp a op b pos) (xN r ta tb):=by
 intro pins s σ H Q I h;exact wpAny_BinOp (Ht ha hb I h λv u s2 x y H2 I2 rx ry q=>ho pins s2 σ H2 x y v u Q I2 rx ry q)
theorem yL{f:Θ->Θ->Sem Θ}{C:Int->Int->Prop}{g:Int->Int->Int}
  (rule:∀(i j:Int) (t u:Tok) (s:ε) (Q:Θ->ε->Prop) (E:Θ->ε->Prop),C i j->Q (.int (g i j) s.toks) {s with toks:=s.toks+1}->wpAny (model X.prog X.w) X.A (f (.int i t) (.int j u)) Q E s) :
  bN X f (rI C λi j=>.int (g i j)):=by
 intro pins s σ H x y v u Q I rx ry h;obtain⟨i,j,rfl,rfl,hc,q⟩:=h;obtain⟨t,rfl⟩:=rx;obtain⟨t',rfl⟩:=ry;exact rule i j t t' s _ _ hc ⟨.int (g i j),H,I.tok _,⟨_,rfl⟩,q⟩
theorem Cw{f:Θ->Θ->Sem Θ}{g:Int->Int->Int}
  (rule:∀(i j:Int) (t u:Tok) (s:ε) (Q:Θ->ε->Prop) (E:Θ->ε->Prop),Q (.int (g i j) s.toks) {s with toks:=s.toks+1}->wpAny (model X.prog X.w) X.A (f (.int i t) (.int j u)) Q E s) :
  bN X f (jX λi j=>.int (g i j)):=by
 intro pins s σ H x y v u Q I rx ry h;obtain⟨i,j,rfl,rfl,q⟩:=h;obtain⟨t,rfl⟩:=rx;obtain⟨t',rfl⟩:=ry;exact rule i j t t' s _ _ ⟨.int (g i j),H,I.tok _,⟨_,rfl⟩,q⟩
theorem yM{f:Θ->Θ->Sem Θ}{g:Int->Int->Bool}
  (rule:∀(i j:Int) (t u:Tok) (s:ε) (Q:Θ->ε->Prop) (E:Θ->ε->Prop),Q (.bool (g i j)) s->wpAny (model X.prog X.w) X.A (f (.int i t) (.int j u)) Q E s) :
  bN X f (jX λi j=>.bl (g i j)):=by
 intro pins s σ H x y v u Q I rx ry h;obtain⟨i,j,rfl,rfl,q⟩:=h;obtain⟨t,rfl⟩:=rx;obtain⟨t',rfl⟩:=ry;exact rule i j t t' s _ _ ⟨.bl (g i j),H,I,rfl,q⟩
def aja(i j:Int):Prop:=0<j/\j<1073741824
def ai9(i j:Int):Prop:=0<=j/\j<=1000000/\i.natAbs<2^64
def HW(i j:Int):Prop:=(-(2^64)<i/\i<2^64)\/(-(2^64)<j/\j<2^64)
theorem HW.ok{i j:Int}(h:HW i j):IntMulOk i j:=by
 rcases h with⟨h1,h2⟩|⟨h1,h2⟩
 ·exact .of_left (intBits_le_64 h1 h2)
 ·exact .of_right (intBits_le_64 h1 h2)
theorem Ym:bN X (binaryOp .Add) (jX λi j=>.int (i+j)):=Cw λ_ _ _ _ _ _ _ q=>add_int q
theorem XW:bN X (binaryOp .Sub) (jX λi j=>.int (i-j)):=Cw λ_ _ _ _ _ _ _ q=>sub_int q
theorem X7:bN X (binaryOp .Mult) (rI HW λi j=>.int (i*j)):=yL λ_ _ _ _ _ _ _ hc q=>mul_int q hc.ok
theorem Yh:bN X (binaryOp .FloorDiv) (rI aja λi j=>.int (i/j)):=yL λi j _ _ _ _ _ hc q=>by
 have h1:(0:Int)<j:=hc.1;have h2:j<1073741824:=hc.2;exact floordiv_int (by omega) (by rw[Int.fdiv_eq_ediv_of_nonneg i (by omega)];exact q) (.inl (ao0 (by omega)))
theorem X8:bN X (binaryOp .Mod) (rI (λ_ j=>0<j) λi j=>.int (i % j)):=yL λi j _ _ _ _ _ hc q=>by
 have h1:(0:Int)<j:=hc;exact mod_int' (by omega) (by rw[Int.fmod_eq_emod_of_nonneg i (by omega)];exact q)
theorem XZ:bN X (binaryOp .Pow) (rI ai9 λi j=>.int (i^j.toNat)):=yL λ_ _ _ _ _ _ _ hc q=>pow_int_small hc.1 hc.2.1 hc.2.2 q
theorem XU:bN X (binaryOp .BitXor) (jX λi j=>.int (Builtin.bitXor i j)):=Cw λ_ _ _ _ _ _ _ q=>xor_int q
end
def BU:V->V->Bool
 |.aQ,.aQ=>Ξ|.aQ,.int _=>Ξ|.int _,.aQ=>Ξ|.aQ,.bl _=>Ξ|.bl _,.aQ=>Ξ|.aQ,.str _=>Ξ|.str _,.aQ=>Ξ
 |.int _,.int _=>Ξ|.bl _,.bl _=>Ξ|.str _,.str _=>Ξ|.iU _,.iU _=>Ξ
 |.int _,.str _=>Ξ|.str _,.int _=>Ξ|.bl _,.str _=>Ξ|.str _,.bl _=>Ξ
 |_,_=>ξ
def Vh:R2:=λx y H Q=>BU x y=Ξ/\Q (.bl (decide (x=y))) H
def U9:R2:=λx y H Q=>BU x y=Ξ/\Q (.bl (!decide (x=y))) H
theorem NG{i j:Int}:decide (V.int i=V.int j)=(i==j):=by
 rw[amt];simp
theorem NI{i j:Bool}:decide (V.bl i=V.bl j)=(i==j):=by
 rw[amt];simp
theorem NF{i j:Str}:decide (V.str i=V.str j)=(i==j):=by
 rw[amt];simp
theorem NH{i j:Array UInt8}:decide (V.iU i=V.iU j)=(i.toList==j.toList):=by
 rw[amt];cases i;cases j;simp
section
variable {X:Cx}{a b c:π}{ta tb tc:TE}{pos:Pos}
theorem cU{pins:List (Ω×Obj)}{σ:St}{H:Hp}{s:ε}{Q:VK}{k k':Bool}(I:Inv X pins σ H s) (q:Q (.bl k) H) (e:k=k'):EP X pins σ Q (.bool k') s:=by
 subst e;exact⟨.bl k,H,I,rfl,q⟩
theorem Yi:bN X (compareOp .Eq) Vh:=by
 intro pins s σ H x y v u Q I rx ry h;obtain⟨hs,q⟩:=h;cases x with
 |aQ =>
  cases rx;cases y with
  |aQ=>cases ry;exact PySem.EqNone.eq_none_none (cU I q (by simp))
  |bl j=>cases ry;exact PySem.EqNone.eq_none_bool (cU I q (by simp))
  |int j=>obtain⟨t',rfl⟩:=ry;exact PySem.EqNone.eq_none_int (cU I q (by simp))
  |str j=>obtain⟨t',rfl⟩:=ry;exact PySem.EqNone.eq_none_str (cU I q (by simp))
  |_=>exact absurd (show ξ=Ξ from hs) alf
 |bl i =>
  cases rx;cases y with
  |aQ=>cases ry;exact PySem.EqNone.eq_bool_none (cU I q (by simp))
  |bl j=>cases ry;exact eq_bool (cU I q NI)
  |str j=>obtain⟨t',rfl⟩:=ry;exact PySem.EqMixed.eq_bool_str (cU I q (by simp))
  |_=>exact absurd (show ξ=Ξ from hs) alf
 |int i =>
  obtain⟨t,rfl⟩:=rx;cases y with
  |aQ=>cases ry;exact PySem.EqNone.eq_int_none (cU I q (by simp))
  |int j=>obtain⟨t',rfl⟩:=ry;exact eq_int (cU I q NG)
  |str j=>obtain⟨t',rfl⟩:=ry;exact PySem.EqMixed.eq_int_str (cU I q (by simp))
  |_=>exact absurd (show ξ=Ξ from hs) alf
 |str i =>
  obtain⟨t,rfl⟩:=rx;cases y with
  |aQ=>cases ry;exact PySem.EqNone.eq_str_none (cU I q (by simp))
  |bl j=>cases ry;exact PySem.EqMixed.eq_str_bool (cU I q (by simp))
  |int j=>obtain⟨t',rfl⟩:=ry;exact PySem.EqMixed.eq_str_int (cU I q (by simp))
  |str j=>obtain⟨t',rfl⟩:=ry;exact eq_str (cU I q NF)
  |_=>exact absurd (show ξ=Ξ from hs) alf
 |iU i =>
  obtain⟨t,rfl⟩:=rx;cases y with
  |iU j=>obtain⟨t',rfl⟩:=ry;exact PySem.W.eq_bytes (cU I q NH)
  |_=>exact absurd (show ξ=Ξ from hs) alf
 |_=>cases y<;>exact absurd (show ξ=Ξ from hs) alf
theorem X0:bN X (compareOp .NotEq) U9:=by
 intro pins s σ H x y v u Q I rx ry h;obtain⟨hs,q⟩:=h;cases x with
 |aQ =>
  cases rx;cases y with
  |aQ=>cases ry;exact PySem.EqNone.ne_none_none (cU I q (by simp))
  |bl j=>cases ry;exact PySem.EqNone.ne_none_bool (cU I q (by simp))
  |int j=>obtain⟨t',rfl⟩:=ry;exact PySem.EqNone.ne_none_int (cU I q (by simp))
  |str j=>obtain⟨t',rfl⟩:=ry;exact PySem.EqNone.ne_none_str (cU I q (by simp))
  |_=>exact absurd (show ξ=Ξ from hs) alf
 |bl i =>
  cases rx;cases y with
  |aQ=>cases ry;exact PySem.EqNone.ne_bool_none (cU I q (by simp))
  |bl j=>cases ry;exact ne_bool (cU I q (congrArg not NI))
  |str j=>obtain⟨t',rfl⟩:=ry;exact PySem.EqMixed.ne_bool_str (cU I q (by simp))
  |_=>exact absurd (show ξ=Ξ from hs) alf
 |int i =>
  obtain⟨t,rfl⟩:=rx;cases y with
  |aQ=>cases ry;exact PySem.EqNone.ne_int_none (cU I q (by simp))
  |int j=>obtain⟨t',rfl⟩:=ry;exact ne_int (cU I q (congrArg not NG))
  |str j=>obtain⟨t',rfl⟩:=ry;exact PySem.EqMixed.ne_int_str (cU I q (by simp))
  |_=>exact absurd (show ξ=Ξ from hs) alf
 |str i =>
  obtain⟨t,rfl⟩:=rx;cases y with
  |aQ=>cases ry;exact PySem.EqNone.ne_str_none (cU I q (by simp))
  |bl j=>cases ry;exact PySem.EqMixed.ne_str_bool (cU I q (by simp))
  |int j=>obtain⟨t',rfl⟩:=ry;exact PySem.EqMixed.ne_str_int (cU I q (by simp))
  |str j=>obtain⟨t',rfl⟩:=ry;exact ne_str (cU I q (congrArg not NF))
  |_=>exact absurd (show ξ=Ξ from hs) alf
 |iU i =>
  obtain⟨t,rfl⟩:=rx;cases y with
  |iU j=>obtain⟨t',rfl⟩:=ry;exact PySem.W.ne_bytes (cU I q (congrArg not NH))
  |_=>exact absurd (show ξ=Ξ from hs) alf
 |_=>cases y<;>exact absurd (show ξ=Ξ from hs) alf
theorem Yb:bN X (compareOp .Lt) (jX λi j=>.bl (decide (i<j))):=yM λ_ _ _ _ _ _ _ q=>lt_int q
theorem Yc:bN X (compareOp .LtE) (jX λi j=>.bl (decide (i<=j))):=yM λ_ _ _ _ _ _ _ q=>le_int q
theorem Ye:bN X (compareOp .Gt) (jX λi j=>.bl (decide (j<i))):=yM λ_ _ _ _ _ _ _ q=>gt_int q
theorem Yg:bN X (compareOp .GtE) (jX λi j=>.bl (decide (j<=i))):=yM λ_ _ _ _ _ _ _ q=>ge_int q
theorem Yd:bN X (compareOp .Is) (λx y H Q=>y=.aQ/\Q (.bl (decide (x=.aQ))) H):=by
 intro pins s σ H x y v u Q I rx ry h;obtain⟨rfl,q⟩:=h;cases ry;refine is_none_gen (cU I q ?_);cases x<;>first
  |(cases rx;rfl)
  |(obtain⟨t,rfl⟩:=rx;rfl)
theorem KL(b:π) {op:CmpOp}(h:op≠.In:=by decide) (h2:op≠.NotIn:=by decide):behindInMarks op b=ξ:=by
 have e1:(op==CmpOp.In)=ξ:=by cases op<;>first|rfl|exact absurd rfl h
 have e2:(op==CmpOp.NotIn)=ξ:=by cases op<;>first|rfl|exact absurd rfl h2
 cases b<;>simp[behindInMarks,e1,e2]
theorem Xk{op:CmpOp}{r:R2}(ho:bN X (compareOp op) r) (ha:PE X a ta) (hb:PE X b tb) (hm:behindInMarks op b=ξ):PE X (.Compare a [op] [b] pos) (xN r ta tb):=by
 intro pins s σ H Q I h;exact wpAny_Compare1 (Ht ha hb I h λv u s2 x y H2 I2 rx ry q=>ho pins s2 σ H2 x y v u Q I2 rx ry q) hm
def IQ(t:TE):TT:=λσ H Q=>t σ H λx H'=>∃k,x=.bl k/\Q k H'
theorem Vx{op:CmpOp}{r:R2}(ho:bN X (compareOp op) r) (ha:PE X a ta) (hb:PE X b tb) (hm:behindInMarks op b=ξ):PT X (.Compare a [op] [b] pos) (IQ (xN r ta tb)):=by
 intro pins s σ H Q I h;refine wpAny_isTrue_Compare1 (bz (ha pins s σ H _ I h) λv s1 ⟨x,H1,I1,r1,q1⟩=>bz (hb pins s1 σ H1 _ I1 q1) λu s2 ⟨y,H2,I2,r2,q2⟩ =>
  bz (ho pins s2 σ H2 x y v u _ I2 r1 r2 q2) λc s3 ⟨z,H3,I3,r3,k,e,q3⟩=>?_) hm
 subst e;cases r3;exact al9 ⟨H3,I3,q3⟩
def IV(r r':R2) (ta tb tc:TE):TE:=λσ H Q=>ta σ H λx H1=>tb σ H1 λy H2=>r x y H2 λz H3=>∃k,z=.bl k /\
 (if k=Ξ then tc σ H3 λw' H4=>r' y w' H4 Q else Q (.bl ξ) H3)
theorem Xl{op op':CmpOp}{r r':R2}(ho:bN X (compareOp op) r) (ho':bN X (compareOp op') r') (ha:PE X a ta) (hb:PE X b tb) (hc:PE X c tc)
  (hm:lastMarks [op,op'] [b,c]=ξ:=by with_unfolding_all rfl):PE X (.Compare a [op,op'] [b,c] pos) (IV r r' ta tb tc):=by
 intro pins s σ H Q I h;refine Compare_chain (bz (ha pins s σ H _ I h) λv s1 ⟨x,H1,I1,r1,q1⟩=>chain_link (bz (hb pins s1 σ H1 _ I1 q1) λu s2 ⟨y,H2,I2,r2,q2⟩ =>
  bz (ho pins s2 σ H2 x y v u _ I2 r1 r2 q2) λd s3 ⟨z,H3,I3,r3,k,e,q3⟩=>?_)) hm
 subst e;cases r3;refine al9 ?_;cases k with
 |false=>exact ite_ff ⟨.bl ξ,H3,I3,rfl,q3⟩
 |true=>exact ite_tt (chain_last (bz (hc pins s3 σ H3 _ I3 q3) λw' s4 ⟨z',H4,I4,r4,q4⟩=>ho' pins s4 σ H4 y z' u w' Q I4 r2 r4 q4))
theorem Vy{op op':CmpOp}{r r':R2}(ho:bN X (compareOp op) r) (ho':bN X (compareOp op') r') (ha:PE X a ta) (hb:PE X b tb) (hc:PE X c tc)
  (hm:lastMarks [op,op'] [b,c]=ξ:=by with_unfolding_all rfl):PT X (.Compare a [op,op'] [b,c] pos) (IQ (IV r r' ta tb tc)):=by
 intro pins s σ H Q I h;refine isTrue_chain (bz (ha pins s σ H _ I h) λv s1 ⟨x,H1,I1,r1,q1⟩=>test_link (bz (hb pins s1 σ H1 _ I1 q1) λu s2 ⟨y,H2,I2,r2,q2⟩ =>
  bz (ho pins s2 σ H2 x y v u _ I2 r1 r2 q2) λd s3 ⟨z,H3,I3,r3,k,e,q3⟩=>?_)) hm
 subst e;cases r3;refine al9 ?_;cases k with
 |false =>
  obtain⟨k',e',q'⟩:=q3;cases e';exact ite_ff ⟨H3,I3,q'⟩
 |true =>
  refine ite_tt (test_last (bz (hc pins s3 σ H3 _ I3 q3) λw' s4 ⟨z',H4,I4,r4,q4⟩=>bz (ho' pins s4 σ H4 y z' u w' _ I4 r2 r4 q4) λd' s5 ⟨z2,H5,I5,r5,k2,e2,q5⟩=>?_))
  subst e2;cases r5;exact al9 ⟨H5,I5,q5⟩
def HB(K:Ψ) (x:V) (H:Hp) (k:Bool):Prop :=
 match x with
 |.aQ=>k=ξ
 |.bl b=>k=b
 |.int i=>k=(i != 0)
 |.str y=>y.length<=ι/\k=((y.length:Int) != 0)
 |.iU y=>y.size<=ι/\k=((y.size:Int) != 0)
 |.ref p=>(∃xs,bC K H p xs/\k = !xs.isEmpty)\/(∃xs,bU K H p xs/\k = !xs.isEmpty)\/∃kvs,H p=ζ (.dK kvs)/\k = !kvs.isEmpty
 |_=>False
theorem acT{κ:Type}{kvs:List (κ×V)}{vs:List (κ×Θ)}(r:KV kvs vs):(!vs.isEmpty) = !kvs.isEmpty:=by
 cases r<;>rfl
theorem LW{xs:List V}{its:List Θ}(r:Vals xs its):(!its.toArray.isEmpty) = !xs.isEmpty:=by
 cases r<;>simp
theorem sH:(ι:Nat)<2^63:=by rw[ama];decide
theorem RG:aiW X (λx H Q=>∃k,HB X.K x H k/\Q k H):=by
 intro pins s σ H x v Q I rx h;obtain⟨k,e,q⟩:=h;have hl:=sH;have hs:ι=16777216:=ama;cases x with
 |aQ =>
  cases rx;have e':k=ξ:=e;subst e';exact truthy_none ⟨H,I,q⟩
 |bl b =>
  cases rx;have e':k=b:=e;subst e';exact al9 ⟨H,I,q⟩
 |int i =>
  obtain⟨t,rfl⟩:=rx;have e':k=(i != 0):=e;subst e';exact PySem.P.truthy_int ⟨H,I,q⟩
 |str y =>
  obtain⟨t,rfl⟩:=rx;obtain⟨hy,e'⟩:y.length<=ι/\k=((y.length:Int) != 0):=e;subst e';exact PySem.P.truthy_str (by omega) ⟨H,I.tok _,q⟩
 |iU y =>
  obtain⟨t,rfl⟩:=rx;obtain⟨hy,e'⟩:y.size<=ι/\k=((y.size:Int) != 0):=e;subst e';exact PySem.W.truthy_bytes (by omega) ⟨H,I.tok _,q⟩
 |ref p =>
  cases rx;have e':(∃xs,bC X.K H p xs/\k = !xs.isEmpty)\/(∃xs,bU X.K H p xs/\k = !xs.isEmpty)\/∃kvs,H p=ζ (.dK kvs)/\k = !kvs.isEmpty:=e
  rcases e' with⟨xs,hx,e'⟩|⟨xs,hx,e'⟩|⟨kvs,hx,e'⟩
  ·subst e';obtain⟨its,r,pl,hz⟩:=I.list hx;have hlen:=r.length;exact wpAny_truthy_list pl.isList (by simp only[ak1];omega) ⟨H,I.tok _,by rw[LW r];exact q⟩
  ·subst e';obtain⟨its,r,pl,hz⟩:=I.tuple hx;have hlen:=r.length;exact truthy_tuple pl (by simp only[ak1];omega) ⟨H,I.tok _,by rw[LW r];exact q⟩
  ·subst e';obtain⟨hz,hS,vs,r,m⟩:kvs.length<=ι/\(p==sysModules)=ξ/\∃vs,KV kvs vs/\s.heap.DictOf (CQ X.prog X.w) p vs:=I.hok p _ hx;have hlen:kvs.length=vs.length:=Paired.length r;exact wpAny_truthy_dict hS m (by omega) ⟨H,I.tok _,by rw[acT r];exact q⟩
 |_=>exact(show False from e).elim
theorem Vu(ha:PE X a ta) (he:∀whole,isTrue a X.env whole=(do let v <-whole;standAt a.pos;holding [v] (truthy v))) :
  PT X a (λσ H Q=>ta σ H λx H'=>∃k,HB X.K x H' k/\Q k H'):=by
 intro pins s σ H Q I h;exact isTrue_plain (bz (ha pins s σ H _ I h) λv s1 ⟨x,H1,I1,r1,q1⟩=>RG pins s1 σ H1 x v Q I1 r1 q1) (he _)
theorem Yl:bN X (binaryOp .Add) (λx y H Q=>∃i j,x=.str i/\y=.str j/\i.length+j.length<=ι/\Q (.str (i++j)) H):=by
 intro pins s σ H x y v u Q I rx ry h;obtain⟨i,j,rfl,rfl,hz,q⟩:=h;obtain⟨t,rfl⟩:=rx;obtain⟨t',rfl⟩:=ry;exact add_str (λt' tk=>⟨.str (i++j),H,I.tok _,⟨_,rfl⟩,q⟩) hz
theorem alD{x:V}{us:List Θ}(r:Vals [x] us):∃u,us=[u]/\RelV x u:=by
 cases r with
 |cons r1 r2=>cases r2;exact⟨_,rfl,r1⟩
theorem vals2{x y:V}{us:List Θ}(r:Vals [x,y] us):∃u w',us=[u,w']/\RelV x u/\RelV y w':=by
 cases r with
 |cons r1 r2 =>
  cases r2 with
  |cons r3 r4=>cases r4;exact⟨_,_,rfl,r1,r3⟩
theorem ahB(hc:X.calm=Ξ):c9 X (.builtin "max") (λxs H Q=>∃i j,xs=[.int i,.int j]/\Q (.int (if j>i then j else i)) H):=by
 intro pins s σ H xs us Q I r h;obtain⟨i,j,rfl,q⟩:=h;obtain⟨u,w',rfl,⟨t,rfl⟩,⟨t',rfl⟩⟩:=vals2 r;refine max_two_ints (I.ok.hd hc) λh' tk k=>⟨_,H,I.kept k,?_,q⟩
 by_cases hj:j>i
 ·rw[if_pos hj,if_pos hj];exact⟨_,rfl⟩
 ·rw[if_neg hj,if_neg hj];exact⟨_,rfl⟩
end
structure HK (h:χ) (x dx C:Ω) (mA:Str->Option Θ):Prop where
 obj:h.get? x=ζ (PySem.W.instObj C dx)
 ns:h.Ns1 dx mA
 ne:dx≠x
theorem abk{h:χ}{dx:Ω}{mA:Str->Option Θ}(n:h.Ns1 dx mA):∃od,h.get? dx=ζ od/\∀name,PySem.W.lookIn name od=ζ (mA name):=by
 obtain⟨o,es,ep,ho,hd,hk,_,hm⟩:=n;refine⟨o,ho,λname=>?_⟩
 have e:=hm name;unfold nsFind findBy at e;rw[<-Array.find?_toList]at e;unfold PySem.W.lookIn;rw[hd];dsimp only;split
 ·rename_i y q;rw[q]at e;exact congrArg ζ e
 ·rename_i q;rw[q]at e;have a:es.toList.any (·.refKey)=ξ:=by
   rw[List.any_eq_false];intro y hy;obtain⟨z,t,hkey⟩:=hk y (anW.mp hy);simp[DictEntry.refKey,hkey]
  have a':¬es.toList.any (·.refKey)=Ξ:=by rw[a];exact alf
  rw[if_neg a'];exact congrArg ζ e
theorem HK.look{h:χ}{x dx C:Ω}{mA:Str->Option Θ}(I:HK h x dx C mA):∃od,PySem.W.InstAt h x (PySem.W.instObj C dx) C (ζ od)/\∀name,PySem.W.lookIn name od=ζ (mA name) :=
 let⟨od,ho,hl⟩:=abk I.ns
 ⟨od,⟨I.obj,rfl,rfl,ho⟩,hl⟩
section
variable {P:τ}{w:ψ}{H H':Hp}{h h':χ}{a C dx:Ω}{fs fs':List (Str×V)}
theorem ac3(hok:cT P w H h) (e:H a=ζ (.ins C dx fs)):∃mA,HK h a dx C mA/\(∀f,HF (fs.lookup f) (mA f))/\PySem.Within mA (fs.map (·.1))/\fs.length<=1000/\H dx=ζ (.own a):=by
 obtain⟨d,z,ne,ob,mA,n,r,q⟩:=(show eY P w H h a (.ins C dx fs)from hok a _ e)
 exact⟨mA,⟨ob,n,ne⟩,r,q,z,d⟩
end
structure HV (K:Ψ) (C:Ω):Prop where
 pg:PySem.W.plainGet K C Str.empty=Ξ
 hd:PySem.W.hasDictIn K C=Ξ
 po:PySem.W.plainOver K C=Ξ
 sa:PySem.W.findIn K (.ref C) "__setattr__"=ζ (ζ (.builtin "object.__setattr__"))
theorem HV.get{K:Ψ}{C:Ω}(c:HV K C) (f:Str):PySem.W.plainGet K C f=Ξ:=c.pg
section
variable {X:Cx}{pins:List (Ω×Obj)}{σ:St}{H:Hp}{s:ε}{A:ω}{E:Θ->ε->Prop}{Q:Θ->ε->Prop}{c:Θ}{b:Bool}
inductive iW (K:Ψ) (H:Hp):V->Θ->Prop where
 |aQ:iW K H .aQ (.type "NoneType")
 |bl (x:Bool):iW K H (.bl x) (.type "bool")
 |int (i:Int):iW K H (.int i) (.type "int")
 |str (x:Str):iW K H (.str x) (.type "str")
 |sS (x:UInt64):iW K H (.sS x) (.type "float")
 |lst {a:Ω}{xs:List V}(e:H a=ζ (.lst xs)):iW K H (.ref a) (.type "list")
 |fE {a:Ω}{o:Obj}{xs:List V}(e:H a=ζ (.fE o (.lst xs))):iW K H (.ref a) (.type "list")
 |tup {a:Ω}{xs:List V}(e:H a=ζ (.tup xs)):iW K H (.ref a) (.type "tuple")
 |dK {a:Ω}{kvs:List (Key×V)}(e:H a=ζ (.dK kvs)):iW K H (.ref a) (.type "dict")
 |dT {a:Ω}{kvs:List (List Key×V)}(e:H a=ζ (.dT kvs)):iW K H (.ref a) (.type "dict")
 |ins {a C dx:Ω}{fs:List (Str×V)}(e:H a=ζ (.ins C dx fs)) (cl:HV K C) (ha:PySem.W.findIn K (.ref C) "__class__"=ζ (ζ (.builtin "object.__class__")))
   (hn:PySem.W.specialIn K (.builtin "object.__class__") "__get__"=ζ (ζ (.builtin "getset_descriptor.__get__"))) (htk:PySem.W.takesIn K (.builtin "object.__class__")=ζ Ξ)
   (hm:PySem.W.mroIn K C (.type "object")=ζ Ξ):iW K H (.ref a) (.ref C)
theorem acH{x:V}{u t:Θ}(I:Inv X pins σ H s) (rx:RelV x u) (ty:iW X.K H x t) (e:PySem.W.kitOne X.K t c=ζ b) (h:∀tk,Q (.bool b) {s with toks:=tk}) :
  wpAny (model X.prog X.w) A (call (.builtin "isinstance") [u,c]) Q E s:=by
 cases ty with
 |aQ=>cases(show u=Value.none from rx);exact alK PySem.W.kitx_none I.eH True.intro e (λz=>nomatch z) h
 |bl y=>cases(show u=Value.bool y from rx);exact alK PySem.W.kitx_bool I.eH True.intro e (λz=>nomatch z) h
 |int i=>obtain⟨t,q⟩:=(show ∃t,u=Value.int i t from rx);cases q;exact alK PySem.W.kitx_int I.eH True.intro e (λz=>nomatch z) h
 |str y=>obtain⟨t,q⟩:=(show ∃t,u=Value.str y t from rx);cases q;exact alK PySem.W.kitx_str I.eH True.intro e (λz=>nomatch z) h
 |sS y=>obtain⟨t,q⟩:=(show ∃t,u=Value.float y t from rx);cases q;exact alK PySem.W.kitx_float I.eH True.intro e (λz=>nomatch z) h
 | @lst a xs ea =>
  cases(show u=Value.ref a from rx)
  obtain⟨_,_,n,_,h1⟩:=(show eY X.prog X.w H s.heap a (.lst xs)from I.hok a _ ea)
  exact alK ao1 I.eH ⟨_,h1,rfl⟩ e (λz=>nomatch z) h
 | @fE a ob xs ea =>
  cases(show u=Value.ref a from rx)
  obtain⟨_,_,_,n,_,h1⟩:=(show eY X.prog X.w H s.heap a (.fE ob (.lst xs))from I.hok a _ ea)
  exact alK ao1 I.eH ⟨_,h1,rfl⟩ e (λz=>nomatch z) h
 | @tup a xs ea =>
  cases(show u=Value.ref a from rx)
  obtain⟨_,_,_,p⟩:=(show eY X.prog X.w H s.heap a (.tup xs)from I.hok a _ ea)
  obtain⟨o,h1,h2,_⟩:=p;exact alK PySem.W.kitx_tuple I.eH ⟨o,h1,h2⟩ e (λz=>nomatch z) h
 | @dK a kvs ea =>
  cases(show u=Value.ref a from rx)
  obtain⟨_,_,vs,_,p⟩:=(show eY X.prog X.w H s.heap a (.dK kvs)from I.hok a _ ea)
  obtain⟨o,es,ep,h1,h2,_⟩:=p;exact alK anY I.eH ⟨o,h1,h2.1⟩ e (λz=>nomatch z) h
 | @dT a kvs ea =>
  cases(show u=Value.ref a from rx)
  obtain⟨_,_,xs,_,o,es,ep,h1,h2,_⟩:=(show eY X.prog X.w H s.heap a (.dT kvs)from I.hok a _ ea)
  exact alK anY I.eH ⟨o,h1,h2.1⟩ e (λz=>nomatch z) h
 | @ins a C dx fs ea cl ha hn htk hm =>
  cases(show u=Value.ref a from rx)
  obtain⟨mA,O,_⟩:=ac3 I.hok ea;obtain⟨od,J,_⟩:=O.look;exact alK (PySem.W.kitx_own (cl.get _) cl.hd ha hn htk hm) I.eH J e (λz=>nomatch z) h
end
structure eB (k:Nat) (A:ω):Prop where
 hd:A.handled=η
 dp:A.depth+3*k+5<recursionLimit
 un:A.units+16*k+200<adw
theorem eB.mono{j k:Nat}{A:ω}(r:eB k A) (h:j<=k):eB j A:=⟨r.hd,by have:=r.dp;omega,by have:=r.un;omega⟩
theorem eB.deeper{k:Nat}{A:ω}(r:eB (k+1) A) (env:Env):eB k (A.deeper env) :=
 ⟨r.hd,by have:=r.dp;show A.depth+1+3*k+5<_;omega,by have:=r.un;show A.units+3+16*k+200<_;omega⟩
theorem eB.depth{k:Nat}{A:ω}(r:eB k A):A.depth<recursionLimit:=by have:=r.dp;omega
theorem eB.units{k:Nat}{A:ω}(r:eB k A):A.units+64<adw:=by have:=r.un;omega
def R0:TA:=λ_ H Q=>Q [] H
def R8(ta:TE) (tr:TA):TA:=λσ H Q=>ta σ H λx H1=>tr σ H1 λxs H2=>Q (x::xs) H2
section
variable {X:Cx}{e:π}{es:List π}{te:TE}{t:TA}{pos:Pos}
theorem jA:PA X [] R0:=λ_ _ _ _ H Q I h=>Calls.spliced_nil ⟨[],H,I,.nil,h⟩
theorem jB(ha:PE X e te) (hr:PA X es t) (hs:μ (e::es) X.env=(ξ,eval e X.env)::μ es X.env:=by rfl):PA X (e::es) (R8 te t):=by
 intro pos pins s σ H Q I h;rw[hs];show wpAny _ _ (spliced ((ξ,eval e X.env)::acF pos (μ es X.env))) _ _ s;refine Calls.spliced_cons (bz (ha pins s σ H _ I h) λu s1 ⟨x,H1,I1,r1,q1⟩=>?_)
 exact bz (hr pos pins s1 σ H1 _ I1 q1) λus s2 ⟨xs,H2,I2,r2,q2⟩=>⟨x::xs,H2,I2,.cons r1 r2,q2⟩
def RQ(t:TA):TE:=λσ H Q=>t σ H λxs H1=>xs.length<=ι/\∀p,H1 p=η->Q (.ref p) (upd H1 p (.tup xs))
def R3(t:TA):TE:=λσ H Q=>t σ H λxs H1=>xs.length<=ι/\∀p,H1 p=η->Q (.ref p) (upd H1 p (.lst xs))
theorem W7{x1}(h:PA X es t):PE X (.Tuple es x1 pos) (RQ t):=by
 intro pins s σ H Q I hq;refine wpAny_Tuple_spliced (bz (h pos pins s σ H _ I hq) λus s1 ⟨xs,H1,I1,r,z,q⟩=>⟨by rw[<-r.length];exact z,?_⟩)
 have hf:H1 s1.heap.objs.size=η:=I1.hok.fresh (akT _);refine⟨.ref s1.heap.objs.size,upd H1 s1.heap.objs.size (.tup xs),I1.laid (t':=s1.toks) (λb u e=>akU _ e) (akT _) ?_,rfl,q _ hf⟩
 exact⟨z,us,r,⟨_,ak8 _ rfl,rfl,⟨_,rfl⟩,rfl⟩⟩
theorem JZ(h:PA X es t):PE X (.List es pos) (R3 t):=by
 intro pins s σ H Q I hq;refine wpAny_List_spliced (bz (h pos pins s σ H _ I hq) λus s1 ⟨xs,H1,I1,r,z,q⟩=>⟨by rw[<-r.length];exact z,?_⟩)
 have hf:H1 s1.heap.objs.size=η:=I1.hok.fresh (akT _);refine⟨.ref s1.heap.objs.size,upd H1 s1.heap.objs.size (.lst xs),I1.laid (t':=s1.toks) (λb u e=>akU _ e) (akT _) ?_,rfl,q _ hf⟩
 exact⟨z,us,0,r,ak8 _ rfl⟩
end
abbrev Sp:=List V->Hp->VK->XK->Prop
abbrev mZ:=List Env->Hp->ε->XK->Θ->ε->Prop
structure uz (P:τ) (w:ψ) (K:Ψ) (mg:Str->Option Θ) (base:χ) (A:ω) (outer:List Env) (s:ε) (H:Hp):Prop where
 frames:A.frames=ζ outer
 mod:Mod K mg base
 bs:∀b o,base.get? b=ζ o->s.heap.get? b=ζ o/\H b=η
 gZ:base.objs.size<=s.heap.objs.size
 gM:s.heap.FunFrames base outer
 jN:∀b∈frs outer,H b=η
 hok:cT P w H s.heap
 bare:adp s.gens
def CE(outer:List Env) (P:τ) (w:ψ) (H:Hp) (s:ε) (Q:VK) (u:Θ) (s':ε):Prop :=
 ∃v H',s'.os=s.os/\adp s'.gens/\Un (frs outer) [] H H' s.heap s'.heap/\cT P w H' s'.heap/\RelV v u/\Q v H'
def CR(CX:mZ) (outer:List Env) (P:τ) (w:ψ) (H:Hp) (s:ε) (Q:VK) (E:XK) (r:adY) (s':ε):Prop :=
 match r with
 |.ok (.ret u)=>CE outer P w H s Q u s'
 |.ok _=>False
 |.error e=>CX outer H s E e s'
structure bX (P:τ) (w:ψ) (K:Ψ) (mg:Str->Option Θ) (base:χ) (CX:mZ) (k:Nat) (f:Ω) (fd:ο) (ps:List Str) (sp:Sp):Prop where
 len:∀vs H Q E,sp vs H Q E->vs.length=ps.length
 run:∀(A:ω) (outer:List Env) (s:ε) (H:Hp) (args:Args) (us:List Θ) (vs:List V) (Q:VK) (E:XK),eB k A->uz P w K mg base A outer s H->adI s fd args (ps.zip us)->Vals vs us->sp vs H Q E ->
  codeAny (model P w) A (.call (.ref f) args) (CR CX outer P w H s Q E) s
section
variable {X:Cx}{pins:List (Ω×Obj)}{σ:St}{H:Hp}{s s':ε}
theorem Inv.Nu(I:Inv X pins σ H s):uz X.prog X.w X.K X.mg X.base X.A X.stack s H :=
 ⟨I.ok.frames,I.ok.mod,I.bs,als I.ok.gZ I.sz,I.stack,I.BK,I.hok,I.bare⟩
theorem Inv.after{Q:VK}{u:Θ}(I:Inv X pins σ H s) (h:CE X.stack X.prog X.w H s Q u s'):EP X pins σ Q u s':=by
 obtain⟨v,H',os,bare,un,hok,r,q⟩:=h;obtain⟨hh,g,d,t,os'⟩:=s';obtain rfl:os'=s.os:=os;exact⟨v,H',I.call (h':=hh) (g':=g) (d':=d) (t':=t) (ch:=[]) un hok bare (λb z=>absurd z (by simp)),r,q⟩
end
def IW(sp:Sp) (nZ:List V) (E:XK) (t:TA):TE:=λσ H Q=>t σ H λvs H1=>sp (vs++nZ) H1 Q E
def Binds(K:Ψ) (fd:ο) (ps:List Str) (ds:List Θ):Prop :=
 ∀(s:ε) (us:List Θ),K.In s.heap->(us++ds).length=ps.length->adI s fd ⟨us,[]⟩ (ps.zip (us++ds))
theorem Binds.all{K:Ψ}{fd:ο}{ps:List Str}(h:∀us:List Θ,us.length=ps.length->bindArgs fd ⟨us,[]⟩=pure (ps.zip us)):Binds K fd ps []:=λs us _ hl=>by
 rw[amb]at hl ⊢;exact .of_eq (h us hl)
def Passes(CX:mZ) (X:Cx) (E:XK):Prop:=∀(pins:List (Ω×Obj)) (σ:St) (H:Hp) (s:ε) (e:Θ) (s':ε),Inv X pins σ H s->CX X.stack H s E e s'->X.xe e s'
section
variable {X:Cx}{CX:mZ}{k:Nat}{f C:Ω}{fd:ο}{ps:List Str}{sp:Sp}{nZ:List V}{ds:List Θ}{E:XK}{x m:Str}{p pos apos:Pos}{e o:π}{es:List π}{ta:TE}{t:TA}
theorem UG{pins:List (Ω×Obj)}{σ:St}{H:Hp}{s:ε}{Q:VK}{us:List Θ}{vs:List V}(F:bX X.prog X.w X.K X.mg X.base CX k f fd ps sp) (hr:eB k X.A) (hb:Binds X.K fd ps ds) (hd:Vals nZ ds) (hx:Passes CX X E)
  (I:Inv X pins σ H s) (r:Vals vs us) (h:sp (vs++nZ) H Q E):wpAny (model X.prog X.w) X.A (call (.ref f) us) (EP X pins σ Q) X.xe s:=by
 have r2:Vals (vs++nZ) (us++ds):=r.append hd;have hl:(us++ds).length=ps.length:=by rw[<-r2.length];exact F.len _ _ _ _ h
 refine amV (al1 (F.run X.A X.stack s H ⟨us,[]⟩ (us++ds) (vs++nZ) Q E hr I.Nu (hb s us I.eH hl) r2 h) λr s' hq=>?_)
 cases r with
 |error e=>exact hx pins σ H s e s' I hq
 |ok fl =>
  cases fl with
  |ret u=>exact I.after hq
  |next=>exact False.elim hq
  |brk=>exact False.elim hq
  |cont=>exact False.elim hq
theorem J1(F:bX X.prog X.w X.K X.mg X.base CX k f fd ps sp) (hr:eB k X.A) (hg:Gl X x) (hm:X.mg x=ζ (.ref f)) (hk:PySem.W.keepIn X.K (.ref f)=Ξ) (hb:Binds X.K fd ps ds) (hd:Vals nZ ds) (hx:Passes CX X E)
  (ha:PA X (e::es) t) (hdb:(x==("__debug__":Str))=ξ:=by decide) (he:μ (e::es) X.env=(ξ,eval e X.env)::μ es X.env:=by rfl) (hpl:(acF pos (μ es X.env)).any (·.1)=ξ:=by rfl) :
  PE X (.Call (.Name x p) (e::es) [] pos) (IW sp nZ E t):=by
 intro pins s σ H Q I h;refine ank (vF I hg hm ?_ hdb);refine ao2 (h₀:=X.base) I.ok.mod.lg hk (bz (ha pos pins s σ H _ I h) λus s1 ⟨vs,H1,I1,r,q⟩=>⟨I1.eH,?_⟩) he hpl
 exact UG F hr hb hd hx I1 r q
end
structure cB (N P:List Str) (sc:ads):Prop where
 kind:sc.kind=.function
 co:sc.isCoroutine=ξ
 gen:sc.isGenerator=ξ
 nd:N.Nodup
 pre:N.take P.length=P
 par:∀x∈P,sc.names.lookup x=ζ .local\/sc.names.lookup x=ζ .cell
 aaa:∀y∈sc.names,y.2≠.free
theorem O5{kindOf:Str->Option acB}{x:Str}:∀{binds:List (Str×Θ)}{m:Str->Option Θ},(∀v,(x,v)∉binds)->bindL kindOf binds m x=m x
 |[],_,_=>rfl
 |(n,v)::r,m,h=>by
  unfold bindL;rw[O5 λw hw=>h w (alu _ hw)]
  split
  ·have:x≠n:=by rintro rfl;exact h v alC
   simp[this]
  ·rfl
theorem O7{kindOf:Str->Option acB}{x:Str}:∀{binds:List (Str×Θ)}{m:Str->Option Θ},(∀v,(x,v)∉binds)->bindC kindOf binds m x=m x
 |[],_,_=>rfl
 |(n,v)::r,m,h=>by
  unfold bindC;rw[O7 λw hw=>h w (alu _ hw)]
  split
  ·rfl
  ·have:x≠n:=by rintro rfl;exact h v alC
   simp[this]
theorem O6{kindOf:Str->Option acB}{x:Str}{v:Θ}:∀{P:List Str}{vs:List Θ}{i:Nat}{m:Str->Option Θ},P.Nodup->P[i]? = ζ x->vs[i]? = ζ v->kindOf x=ζ .local ->
  bindL kindOf (P.zip vs) m x=ζ v
 |[],_,_,_,_,h,_,_=>by simp at h
 |_::_,[],_,_,_,_,h,_=>by simp at h
 |p::P,w::vs,0,m,nd,h1,h2,hk=>by
  simp at h1 h2;subst h1;subst h2;show bindL kindOf ((p,w)::P.zip vs) m p=_;unfold bindL;rw[O5 λv hv=>(amu.mp nd).1 (anl hv).1,if_pos hk]
  simp
 |p::P,w::vs,i+1,m,nd,h1,h2,hk=>by
  show bindL kindOf ((p,w)::P.zip vs) m x=_;unfold bindL;exact O6 (i:=i) (amu.mp nd).2 (by simpa using h1) (by simpa using h2) hk
theorem O8{kindOf:Str->Option acB}{x:Str}{v:Θ}:∀{P:List Str}{vs:List Θ}{i:Nat}{m:Str->Option Θ},P.Nodup->P[i]? = ζ x->vs[i]? = ζ v->kindOf x≠ζ .local ->
  bindC kindOf (P.zip vs) m x=ζ v
 |[],_,_,_,_,h,_,_=>by simp at h
 |_::_,[],_,_,_,_,h,_=>by simp at h
 |p::P,w::vs,0,m,nd,h1,h2,hk=>by
  simp at h1 h2;subst h1;subst h2;show bindC kindOf ((p,w)::P.zip vs) m p=_;unfold bindC;rw[O7 λv hv=>(amu.mp nd).1 (anl hv).1,if_neg hk]
  simp
 |p::P,w::vs,i+1,m,nd,h1,h2,hk=>by
  show bindC kindOf ((p,w)::P.zip vs) m x=_;unfold bindC;exact O8 (i:=i) (amu.mp nd).2 (by simpa using h1) (by simpa using h2) hk
def start(N:List Str) (vs:List V):St:=vs.map ζ++ν (N.length-vs.length) η
def gi(CX:mZ) (P:τ) (w:ψ) (K:Ψ) (mg:Str->Option Θ) (base:χ) (N:List Str) (qual:Str) (scope:ads) (f:Ω) (cd:Θ) (A:ω) (outer:List Env) (s:ε) (H:Hp) (E:XK):Cx where
 prog:=P
 w:=w
 K:=K
 mg:=mg
 base:=base
 A:=A.deeper (envOfC qual scope s.heap.objs.size f cd)
 N:=N
 s₀:=s
 H₀:=H
 env:=envOfC qual scope s.heap.objs.size f cd
 outer:=outer
 stack:=envOfC qual scope s.heap.objs.size f cd::outer
 ex:=[]
 calm:=Ξ
 fn:=λ_=>Ξ
 pn:=[]
 xe:=λe s'=>wpAny (model P w) (A.deeper (envOfC qual scope s.heap.objs.size f cd)) (leaving (envOfC qual scope s.heap.objs.size f cd) e) (λ_ s''=>CX outer H s E e s'') (λe' s''=>CX outer H s E e' s'') s'
theorem N6{sc:ads}{n:Nat}{x:Str}(h:sc.names.lookup x=ζ .cell):∃c,(cellsFrom n sc.names []).lookup x=ζ c:=by
 have q:=amW sc.names n [] (.inl h);exact anZ.mp q
theorem LZ{CX:mZ}{P:τ}{w:ψ}{K:Ψ}{mg:Str->Option Θ}{base:χ}{N ps:List Str}{qual:Str}{scope:ads}{f:Ω}{cd:Θ}{A:ω}{outer:List Env}{s s1:ε}{H:Hp}{E:XK}{us:List Θ}{vs:List V}
  (S:cB N ps scope) (hd:A.handled=η) (e0:uz P w K mg base A outer s H) (hl:vs.length=ps.length) (r:Vals vs us)
  (x:InCallC s s.heap.objs.size (bindL (envOfC qual scope s.heap.objs.size f cd).kindOf (ps.zip us) λ_=>η) (cellsFrom (s.heap.objs.size+1) scope.names []) (bindC (envOfC qual scope s.heap.objs.size f cd).kindOf (ps.zip us) λ_=>η) s1) :
  Inv (gi CX P w K mg base N qual scope f cd A outer s H E) [] (start N vs) H s1:=by
 have hpl:ps.length<=N.length:=by have:=congrArg List.length S.pre;rw[al2]at this;omega
 obtain⟨h1,tk,rfl,hk⟩:=x.done;have vo:∀b:Ω,b∉(gi CX P w K mg base N qual scope f cd A outer s H E).ex:=λb z=>absurd (show b∈([]:List Ω)from z) (by simp)
 refine⟨⟨e0.mod,S.kind,rfl,rfl,akT _,λy z c h1 h2=>?_,λy hy=>?_,λy c _ h=>?_,λ_=>hd,Around.frames_deeper e0.frames,.inr ⟨rfl,rfl⟩,λb z=>absurd z (vo b),e0.bs,e0.gZ,λb _ _=>vo b,λb z=>absurd z (vo b),e0.gM,e0.jN⟩,
  rfl,e0.bare,Un.kept hk,⟨_,x.toInCall.ns,λi y v h1 h2 h3=>?_⟩,λy c h=>⟨_,x.cell y c h⟩,e0.hok.fresh (akT _),λy c h=>?_,λp hp=>absurd (show p∈([]:List (Ω×Obj))from hp) (by simp),e0.hok.kept hk,?_⟩
 ·exact name_of_addr x.apart (ami h1) (ami h2)
 ·have hy:scope.names.lookup y=ζ .cell\/scope.names.lookup y=ζ .free:=hy
  rcases hy with hy|hy
  ·exact N6 hy
  ·exact absurd rfl (S.aaa _ (ami hy))
 ·exact amr (x.above y c (ami h))
 ·have hi:i<vs.length:=by
   unfold start at h2
   by_cases hi:i<vs.length
   ·exact hi
   ·rw[al3 (by simpa using hi)]at h2
    rw[anm]at h2;split at h2<;>cases h2
  have ha:vs[i]? = ζ v:=by
   unfold start at h2;rw[alL (by simpa using hi),alk]at h2
   cases e:vs[i]? with
   |none=>rw[e]at h2;cases h2
   |some a=>rw[e]at h2;cases h2;rfl
  obtain⟨u,hu,rv⟩:=r.get ha;have hp:ps[i]? = ζ y:=by
   rw[<-S.pre,ano (by omega)];exact h1
  have K0:ps.Nodup:=by rw[<-S.pre];exact S.nd.sublist (an0 _ _)
  refine⟨u,rv,?_⟩
  rcases S.par y (alv hp)with k|k
  ·exact .inl ⟨k,O6 K0 hp hu k⟩
  ·obtain⟨c,e⟩:=N6 (n:=s.heap.objs.size+1) k;refine .inr ⟨.inl k,c,e,?_⟩;have q:=x.cell y c e;rw[O8 K0 hp hu (by show scope.names.lookup y≠_;rw[k];decide)]at q
   exact q
 ·exact e0.hok.fresh (amr (x.above y c (ami h)))
 ·unfold start;show _=N.length;rw[alp,ak6,anp];omega
theorem Ng{CX:mZ}{P:τ}{w:ψ}{K:Ψ}{mg:Str->Option Θ}{base:χ}{k:Nat}{f:Ω}{name qual:Str}{params:Arguments}{body:List acz}{scope:ads}{dV kV doc pm cdv ct oc:Θ}{an od:Option Ω}
  {osl:Array (Option Θ)}{N ps:List Str}{sp:Sp}(lk:K.lookup f=ζ ⟨oc,od,.func (PySem.W.fnOf name qual params body scope dV kV doc pm an cdv ct),osl⟩) (hcd:PySem.W.codeIn K cdv qual=Ξ) (S:cB N ps scope)
  (len:∀vs H Q E,sp vs H Q E->vs.length=ps.length)
  (hbody:∀(A:ω) (outer:List Env) (s:ε) (H:Hp) (vs:List V) (Q:VK) (E:XK),eB k (A.deeper (envOfC qual scope s.heap.objs.size f cdv))->sp vs H Q E ->
   ∃t,eX (gi CX P w K mg base N qual scope f cdv A outer s H E) body t/\t {nx:=λ_ H'=>Q .aQ H',rt:=Q} (start N vs) H) :
  bX P w K mg base CX (k+1) f (PySem.W.fnOf name qual params body scope dV kV doc pm an cdv ct) ps sp:=by
 refine⟨len,λA outer s H args us vs Q E hr e0 hb r jK=>?_⟩
 have hl:=len _ _ _ _ jK;have KX:K.In s.heap:=e0.mod.lg.keeps λb o e=>(e0.bs b o e).1
 have lim:s.heap.NoLimit:=e0.mod.nolimit.keeps λb o e=>(e0.bs b o e).1
 have hkind:∀y∈ps.zip us,scope.names.lookup y.1=ζ .local\/(scope.names.lookup y.1=ζ .cell/\((cellsFrom (s.heap.objs.size+1) scope.names []).lookup y.1).isSome=Ξ):=fun⟨n,v⟩ hy=>by
  rcases S.par n (anl hy).1 with q|q
  ·exact .inl q
  ·exact .inr ⟨q,amW _ _ _ (.inl q)⟩
 refine ao3 hr.depth (KX _ _ lk) rfl S.co S.gen rfl (ao4 KX hcd) (hb _ _ _ _ ?_);refine ao5 S.kind hkind λenv he s1 x=>?_
 subst he;refine⟨lim.keeps x.toInCall.keep,codeAny_func ?_⟩;obtain⟨t,ht,hq⟩:=hbody A outer s H vs Q E (hr.deeper _) jK;have I:Inv (gi CX P w K mg base N qual scope f cdv A outer s H E) [] (start N vs) H s1:=LZ S hr.hd e0 hl r x;refine alq (ht [] s1 (start N vs) H _ I hq) (λfl s' hs=>?_) λe s' hs=>hs
 have fin:∀{σ':St}{H':Hp}{v:V}{u:Θ},Inv (gi CX P w K mg base N qual scope f cdv A outer s H E) [] σ' H' s'->RelV v u->Q v H'->CE outer P w H s Q u s' :=
  fun{σ' H' v u} J rv q=>⟨v,H',J.os,J.bare,J.base,J.hok,rv,q⟩
 cases fl with
 |ret u =>
  obtain⟨v,σ',H',J,rv,q⟩:=hs;exact fin J rv q
 |next =>
  obtain⟨σ',H',J,q⟩:=hs;exact fin (v:=V.aQ) (u:=Value.none) J rfl q
 |brk =>
  obtain⟨_,_,_,q⟩:=hs;exact False.elim q
 |cont =>
  obtain⟨_,_,_,q⟩:=hs;exact False.elim q
section
variable {X:Cx}{x:Str}{p pos:Pos}{e:π}{es:List π}{t:TA}{id T:String}{r:List V->Hp->VK->Prop}
def IX(r:List V->Hp->VK->Prop) (t:TA):TE:=λσ H Q=>t σ H λvs H1=>r vs H1 Q
theorem ym(hc:c9 X (.builtin id) r) (hg:Gl X x) (hm:X.mg x=η) (hv:bootBuiltins x=ζ (.builtin id)) (ha:PA X (e::es) t) (hn:x≠"__name__":=by decide) (hdb:(x==("__debug__":Str))=ξ:=by decide)
  (he:μ (e::es) X.env=(ξ,eval e X.env)::μ es X.env:=by rfl) (hpl:(acF pos (μ es X.env)).any (·.1)=ξ:=by rfl):PE X (.Call (.Name x p) (e::es) [] pos) (IX r t):=by
 intro pins s σ H Q I h;refine ank (nO I hg hm hv ?_ hn hdb);exact PyProof.Rows.callWith_builtin1 (bz (ha pos pins s σ H _ I h) λus s1 ⟨vs,H1,I1,r1,q1⟩=>hc pins s1 σ H1 vs us Q I1 r1 q1) he hpl
theorem nB(hc:c9 X (.type T) r) (hg:Gl X x) (hm:X.mg x=η) (hv:bootBuiltins x=ζ (.type T)) (ha:PA X (e::es) t) (hn:x≠"__name__":=by decide) (hdb:(x==("__debug__":Str))=ξ:=by decide)
  (he:μ (e::es) X.env=(ξ,eval e X.env)::μ es X.env:=by rfl) (hpl:(acF pos (μ es X.env)).any (·.1)=ξ:=by rfl):PE X (.Call (.Name x p) (e::es) [] pos) (IX r t):=by
 intro pins s σ H Q I h;refine ank (nO I hg hm hv ?_ hn hdb);exact amD (bz (ha pos pins s σ H _ I h) λus s1 ⟨vs,H1,I1,r1,q1⟩=>hc pins s1 σ H1 vs us Q I1 r1 q1) he hpl
end
end L2
namespace HT
open PySem PyProof.Rows
section
variable {prog:τ}{w:ψ}{A:ω}{E:Θ->ε->Prop}{s:ε}
theorem ahy{t b:Ω}{vs ws:List Θ}{Q:Θ->ε->Prop}(ht:IsTup s.heap t vs.toArray) (hb:IsTup s.heap b ws.toArray) (hv:vs≠[])
  (h1:ws=[]->Q (.ref t) s) (h2:ws≠[]->Q (.ref s.heap.objs.size) {s with heap:=s.heap.push {cls:=.type "tuple",data:=.seq (vs++ws).toArray} })
  (hsz:vs.length+ws.length<=ι):wpAny (model prog w) A (binaryOp .Add (.ref t) (.ref b)) Q E s:=by
 obtain⟨⟨cls,dd,data,sl⟩,ho,hc,n,hd⟩:=id ht;obtain⟨⟨ahd,dd2,data2,sl2⟩,ho2,hc2,n2,hd2⟩:=id hb;simp only at hc hd hc2 hd2;subst hc hd hc2 hd2;have e:vs.toArray++ws.toArray=(vs++ws).toArray:=by simp
 by_cases hw:ws=[]
 ·exact an1 ⟨_,ho,rfl⟩ ⟨_,ho2,rfl⟩ an2 an3 an4 an5 (an6 _ _)
   (tuple_addW1 t b vs.toArray ws.toArray n n2 dd dd2 sl sl2 (by simpa using hv) (by simp[hw])) ⟨ho,ho2,h1 hw⟩
 ·refine an1 ⟨_,ho,rfl⟩ ⟨_,ho2,rfl⟩ an2 an3 an4 an5 (an6 _ _)
   (tuple_addW2 t b vs.toArray ws.toArray n n2 dd dd2 sl sl2 (by simpa using hv) (by simpa using hw) (by rw[ak1,ak1];exact hsz)) ⟨ho,ho2,?_⟩
  rw[e];exact h2 hw
def bw(n d:Nat):Option Int->Nat
 |none=>d
 |some v=>if v<0 then(v+(n:Int)).toNat else min v.toNat n
theorem Ux(n d k:Nat):bw n d (ζ (k:Int))=min k n:=by
 show(if(k:Int)<0 then((k:Int)+(n:Int)).toNat else min (k:Int).toNat n)=min k n
 rw[if_neg (by omega),anq]
theorem Uy(n d:Nat) (hd:d<=n) (o:Option Int):bw n d o<=n:=by
 cases o with
 |none=>exact hd
 |some v =>
  show(if v<0 then(v+(n:Int)).toNat else min v.toNat n)<=n
  by_cases hv:v<0
  ·rw[if_pos hv];omega
  ·rw[if_neg hv];exact ao6 _ _
theorem N1(v:Int) (n d:Nat):(if v<0 then max (v+(n:Int)) 0 else min v (n:Int))=((bw n d (ζ v):Nat):Int):=by
 show(if v<0 then max (v+(n:Int)) 0 else min v (n:Int))=(((if v<0 then(v+(n:Int)).toNat else min v.toNat n):Nat):Int)
 by_cases hv:v<0
 ·simp only[if_pos hv];omega
 ·simp only[if_neg hv];omega
theorem aiN(lo hi:Option Int) (n:Nat):Builtin.Slice.sliceAdjust lo hi 1 (n:Int)=(((bw n 0 lo:Nat):Int),((bw n n hi:Nat):Int)):=by
 have h1:¬((1:Int)<0):=by omega
 unfold Builtin.Slice.sliceAdjust;simp only[h1,if_false];refine Prod.ext ?_ ?_
 ·cases lo with
  |none=>rfl
  |some v=>exact N1 v n 0
 ·cases hi with
  |none=>rfl
  |some v=>exact N1 v n n
theorem WG(i j:Nat):Builtin.Slice.slicePlaces (i:Int) (j:Int) 1=j-i:=by
 unfold Builtin.Slice.slicePlaces;have h1:(1:Int)>0:=by omega
 simp only[h1,if_true,an7];split<;>omega
theorem Jl{v:Θ}{o:Option Int}{Q:Option Int->ε->Prop}(p:adD v o) (h:Q o s):wpAny (model prog w) A (Builtin.Slice.slicePartIndex v) Q E s:=by
 cases p with
 |none=>exact slicePart_none h
 |int i t=>exact slicePart_int h
theorem Jm{sl:Ω}{vl vu:Θ}{lo hi:Option Int}{n:Nat}{Q:Int×Int×Nat->ε->Prop}(hs:s.heap.IsSliceOf sl vl vu .none) (pl:adD vl lo) (pu:adD vu hi)
  (h:Q (((bw n 0 lo:Nat):Int),1,bw n n hi-bw n 0 lo) s):wpAny (model prog w) A (Builtin.Slice.sliceApplied (.ref sl) (pure (n:Int))) Q E s:=by
 obtain⟨os,hos,hcs,hds⟩:=id hs;unfold Builtin.Slice.sliceApplied Builtin.Slice.sliceFields;refine akR (akR (alG hos hds (x:=vl) rfl (akR (alG hos hds (x:=vu) rfl (akR (alG hos hds (x:=.none) rfl (akS ?_)))))));refine akR (slicePart_none ?_);show wpAny _ _ (if((1:Int)==0)=Ξ then _ else _) _ _ s
 rw[if_neg (by decide)]
 refine akR (Jl pl (akR (Jl pu (akR (akS ?_)))));show wpAny _ _ (match Builtin.Slice.sliceAdjust lo hi 1 (n:Int)with|(lo,hi)=>pure (lo,(1:Int),Builtin.Slice.slicePlaces lo hi 1)) _ _ s
 rw[aiN lo hi n];show wpAny _ _ (pure (((bw n 0 lo:Nat):Int),(1:Int),Builtin.Slice.slicePlaces ((bw n 0 lo:Nat):Int) ((bw n n hi:Nat):Int) 1)) _ _ s;rw[WG];exact akS h
theorem WK(xs:Array Θ) (i k:Nat):((θ k).filterMap fun(m:Nat)=>xs[((i:Int)+(m:Int)*1).toNat]?).toArray=((xs.toList.drop i).take k).toArray:=by
 have e:(fun(m:Nat)=>xs[((i:Int)+(m:Int)*1).toNat]?)=λm=>xs[i+m]?:=by
  funext m
  have:((i:Int)+(m:Int)*1).toNat=i+m:=by omega
  rw[this]
 rw[e];have:=pick_run xs i k;rw[ao7]at this;have e2:((λx=>xs[x]?) ∘ λx=>i+x)=λm=>xs[i+m]?:=rfl
 rw[e2]at this;rw[this]
theorem aes{t sl:Ω}{items:Array Θ}{vl vu:Θ}{lo hi:Option Int}{Q:Θ->ε->Prop}(ht:IsTup s.heap t items) (hs:s.heap.IsSliceOf sl vl vu .none) (pl:adD vl lo) (pu:adD vu hi)
  (hw:¬(bw items.size 0 lo=0/\bw items.size items.size hi=items.size))
  (h:Q (.ref s.heap.objs.size) {s with heap:=s.heap.push {cls:=.type "tuple",data:=.seq ((items.toList.drop (bw items.size 0 lo)).take (bw items.size items.size hi-bw items.size 0 lo)).toArray} })
  (hsz:items.size<=ι):wpAny (model prog w) A (getItem (.ref t) (.ref sl)) Q E s:=by
 have zz:sizeOk (.seq ((items.toList.drop (bw items.size 0 lo)).take (bw items.size items.size hi-bw items.size 0 lo)).toArray):=by
  show((items.toList.drop (bw items.size 0 lo)).take (bw items.size items.size hi-bw items.size 0 lo)).toArray.size<=ι;rw[ak1,al2,an8,ale];omega
 have hj:bw items.size items.size hi<=items.size:=Uy _ _ (akT _) hi;obtain⟨os,hos,hcs,hds⟩:=id hs;have pS:s.TypeIs (.ref sl) "slice":=⟨os,hos,hcs⟩;unfold getItem
 try with_reducible refine alJ ?_
 first|refine akR (akS ?_)|skip
 refine akR (wpAny_sequenceKey ht.typeIs (by decide) ?_)
 refine akR (amj (name:=Str.ofString "__getitem__") ht.typeIs amE
  (alR amE ht.typeIs entry_tuple_getitem ?_ (args_tuple_getitem _ _)))
 show wpAny _ _ (Builtin.Tuple.tupleItemsOf (.ref t) >>= _) _ _ s;refine akR (tupleItemsOf_ ht ?_);refine akR (amX pS ?_);rw[if_pos (by decide)]
 refine akR (Jm hs pl pu ?_);have hno:¬((((bw items.size 0 lo:Nat):Int)==0&&(1:Int)==1&&(bw items.size items.size hi-bw items.size 0 lo)==items.size)=Ξ):=by
  intro q;rw[ak9,ak9]at q;have q1:((bw items.size 0 lo:Nat):Int)=0:=eq_of_beq q.1.1;have q2:bw items.size items.size hi-bw items.size 0 lo=items.size:=eq_of_beq q.2;exact hw ⟨by omega,by omega⟩
 show wpAny _ _ (if(((bw items.size 0 lo:Nat):Int)==0&&(1:Int)==1&&(bw items.size items.size hi-bw items.size 0 lo)==items.size)=Ξ then _ else _) _ _ s
 rw[if_neg hno,WK]
 first
  |exact akR (m:=Builtin.Tuple.tupleExact _) (al4 (akS ⟨_,rfl,akS h⟩) zz)
  |exact akR (m:=Builtin.Tuple.tupleExact _) (al4 (akR (akS (akS ⟨_,rfl,akS h⟩))) zz)
  |exact akR (akR (m:=Builtin.Tuple.tupleExact _) (al4 (akS (akS ⟨_,rfl,akS h⟩)) zz))
  |exact akR (akR (m:=Builtin.Tuple.tupleExact _) (al4 (akS ⟨_,rfl,akS h⟩) zz))
end
end HT
namespace L2
open PySem PySem.Spec PyProof.Rows
abbrev TO:=St->Hp->(Option Int->Hp->Prop)->Prop
def PO(X:Cx) (e:Option π) (t:TO):Prop :=
 ∀(pins:List (Ω×Obj)) (s:ε) (σ:St) (H:Hp) (Q:Option Int->Hp->Prop),Inv X pins σ H s->t σ H Q ->
  wpAny (model X.prog X.w) X.A (evalPart e X.env) (λu s'=>∃o H',Inv X pins σ H' s'/\adD u o/\Q o H') X.xe s
def RZ:TO:=λ_ H Q=>Q η H
def RV(t:TE):TO:=λσ H Q=>t σ H λx H1=>∃i,x=.int i/\Q (ζ i) H1
theorem intsAre_of{ns:List Int}:∀{us:List Θ},Vals (ns.map V.int) us->acI us ns:=by
 induction ns with
 |nil=>intro us r;rw[an9]at r;cases r;exact .nil
 |cons n ns ih =>
  intro us r;rw[ak2]at r;cases r with
  |cons r1 r2 =>
   obtain⟨t,e⟩:=r1;subst e;exact .cons n t (ih r2)
section
variable {X:Cx}{e:π}{te:TE}{lo hi:Option π}{tl th:TO}{pos p2:Pos}
theorem VY:PO X η RZ:=by
 intro pins s σ H Q I h;rw[evalPart_none];exact akS ⟨η,H,I,.none,h⟩
theorem VX(h:PE X e te):PO X (ζ e) (RV te):=by
 intro pins s σ H Q I hw;rw[evalPart_some];refine bz (h pins s σ H _ I hw) λu s1 ⟨x,H1,I1,r1,q1⟩=>?_
 obtain⟨i,rfl,q⟩:=q1;obtain⟨t,rfl⟩:=r1;exact⟨ζ i,H1,I1,.int i t,q⟩
def oF(X:Cx) (r:V->Option Int->Option Int->Hp->VK->Prop):Prop :=
 ∀(pins:List (Ω×Obj)) (s:ε) (σ:St) (H:Hp) (x:V) (v vl vu:Θ) (lo hi:Option Int) (sl:Ω) (Q:VK),Inv X pins σ H s->RelV x v->s.heap.IsSliceOf sl vl vu .none->adD vl lo->adD vu hi->r x lo hi H Q ->
  ∃T id,typeLookup (.type T) "__getitem__"=pure (ζ (.builtin id))/\s.TypeIs v T/\wpAny (model X.prog X.w) X.A (getItem v (.ref sl)) (EP X pins σ Q) X.xe s
theorem oF.or{r r':V->Option Int->Option Int->Hp->VK->Prop}(h:oF X r) (h':oF X r'):oF X (λx lo hi H Q=>r x lo hi H Q\/r' x lo hi H Q):=by
 intro pins s σ H x v vl vu lo hi sl Q I rx hs pl pu q
 rcases q with q|q
 ·exact h pins s σ H x v vl vu lo hi sl Q I rx hs pl pu q
 ·exact h' pins s σ H x v vl vu lo hi sl Q I rx hs pl pu q
def RS(r:V->Option Int->Option Int->Hp->VK->Prop) (te:TE) (tl th:TO):TE:=λσ H Q=>te σ H λx H1=>tl σ H1 λl H2=>th σ H2 λu H3=>r x l u H3 Q
theorem JY{r:V->Option Int->Option Int->Hp->VK->Prop}(hr:oF X r) (he:PE X e te) (hl:PO X lo tl) (hu:PO X hi th):PE X (.Subscript e (.Slice lo hi η p2) pos) (RS r te tl th):=by
 intro pins s σ H Q I h;refine Subscript_ (bz (he pins s σ H _ I h) λv s1 ⟨x,H1,I1,r1,q1⟩=>?_)
 refine wpAny_Slice (bz (hl pins s1 σ H1 _ I1 q1) λvl s2 ⟨l,H2,I2,pl,q2⟩=>bz (hu pins s2 σ H2 _ I2 q2) λvu s3 ⟨u,H3,I3,pu,q3⟩=>?_)
 rw[evalPart_none];refine akS ?_;have I4:Inv X pins σ H3 {s3 with heap:=s3.heap.push {cls:=.type "slice",data:=.fields #[vl,vu,.none]} }:=I3.kept (t':=s3.toks) λb ob q=>akU _ q
 obtain⟨T,id,hT,ht,hg⟩:=hr pins {s3 with heap:=s3.heap.push {cls:=.type "slice",data:=.fields #[vl,vu,.none]} } σ H3 x v vl vu l u s3.heap.objs.size Q I4 r1 (Heap.IsSliceOf.new ..) pl pu q3
 show wpAny (model X.prog X.w) X.A (subscriptTail e (.Slice lo hi η p2) v (.ref s3.heap.objs.size)) (EP X pins σ Q) X.xe {s3 with heap:=s3.heap.push {cls:=.type "slice",data:=.fields #[vl,vu,.none]} }
 exact tail_any (ops:=[.ref s3.heap.objs.size,v]) ht hT hg (by with_unfolding_all rfl)
def oj(xs:List V) (lo hi:Option Int):List V:=(xs.drop (HT.bw xs.length 0 lo)).take (HT.bw xs.length xs.length hi-HT.bw xs.length 0 lo)
theorem NR(xs:List V) (lo hi:Option Int):(oj xs lo hi).length<=xs.length:=by
 unfold oj;rw[al2,an8];omega
def UZ(K:Ψ):V->Option Int->Option Int->Hp->VK->Prop:=λx lo hi H Q=>∃a xs,x=.ref a/\bU K H a xs /\
 ¬(HT.bw xs.length 0 lo=0/\HT.bw xs.length xs.length hi=xs.length)/\∀p,H p=η->Q (.ref p) (upd H p (.tup (oj xs lo hi)))
theorem S4:oF X (UZ X.K):=by
 intro pins s σ H x v vl vu lo hi sl Q I rx hs pl pu h;obtain⟨a,xs,rfl,hx,hw,q⟩:=h;cases rx;obtain⟨its,r,ht,hz⟩:=I.tuple hx;have hlen:its.toArray.size=xs.length:=by rw[ak1];exact r.length.symm
 refine⟨"tuple",_,amE.lookup,ht.typeIs,?_⟩;refine HT.aes ht hs pl pu (by rw[hlen];exact hw) ?_ (by rw[hlen];exact hz)
 rw[hlen];refine⟨.ref s.heap.objs.size,_,I.laid (t':=s.toks) (o:=.tup (oj xs lo hi)) (λb ob q=>akU _ q) (akT _) ?_,rfl,q _ (I.hok.fresh (akT _))⟩
 exact⟨als (NR xs lo hi) hz,_,(r.drop (HT.bw xs.length 0 lo)).take (HT.bw xs.length xs.length hi-HT.bw xs.length 0 lo),kI.new _ _⟩
def Vj(K:Ψ):R2:=λx y H Q=>∃a b xs ys,x=.ref a/\y=.ref b/\bU K H a xs/\bU K H b ys/\xs≠[]/\xs.length+ys.length<=ι /\
 (ys=[]->Q (.ref a) H)/\(ys≠[]->∀p,H p=η->Q (.ref p) (upd H p (.tup (xs++ys))))
theorem Vals.CG{xs:List V}{us:List Θ}(r:Vals xs us):us=[]↔xs=[]:=by
 cases r with
 |nil=>simp
 |cons _ _=>simp
theorem Kd:bN X (binaryOp .Add) (Vj X.K):=by
 intro pins s σ H x y v u Q I rx ry h;obtain⟨a,b,xs,ys,rfl,rfl,ha,hb,hx,hz,q1,q2⟩:=h;cases rx;cases ry;obtain⟨its,r1,p1,_⟩:=I.tuple ha;obtain⟨its2,r2,p2,_⟩:=I.tuple hb;refine HT.ahy p1 p2 (λz=>hx (r1.CG.mp z)) (λz=>⟨.ref a,H,I,rfl,q1 (r2.CG.mp z)⟩) (λz=>?_) (by rw[<-r1.length,<-r2.length];exact hz)
 refine⟨.ref s.heap.objs.size,_,I.laid (t':=s.toks) (o:=.tup (xs++ys)) (λb ob q=>akU _ q) (akT _) ?_,rfl,q2 (λw=>z (r2.CG.mpr w)) _ (I.hok.fresh (akT _))⟩
 exact⟨by rw[alp];exact hz,_,r1.append r2,kI.new _ _⟩
end
def fM(n:Nat) (i:Int):Option Nat:=if 0<=i then(if i<n then ζ i.toNat else η)else if -(n:Int)<=i then ζ (i+n).toNat else η
def cJ{α:Type}(xs:List α) (i:Int):Option α:=(fM xs.length i).bind λj=>xs[j]?
theorem LN{n:Nat}{i:Int}{j:Nat}(h:fM n i=ζ j):seqIndex? i n=ζ j/\j<n/\-(n:Int)<=i/\i<n:=by
 unfold fM at h
 by_cases h0:0<=i
 ·rw[if_pos h0]at h
  by_cases h1:i<n
  ·rw[if_pos h1]at h;have e:i.toNat=j:=alo h;exact⟨by rw[seqIndex_of h0 h1,e],by omega,by omega,h1⟩
  ·rw[if_neg h1]at h;cases h
 ·rw[if_neg h0]at h
  by_cases h1:-(n:Int)<=i
  ·rw[if_pos h1]at h;have e:(i+n).toNat=j:=alo h;exact⟨by rw[seqIndex_neg (by omega) h1,e],by omega,h1,by omega⟩
  ·rw[if_neg h1]at h;cases h
theorem Pe{α:Type}{xs:List α}{i:Int}{v:α}(h:cJ xs i=ζ v):∃j,seqIndex? i xs.length=ζ j/\xs[j]? = ζ v/\j<xs.length/\-(xs.length:Int)<=i/\i<xs.length:=by
 unfold cJ at h;cases e:fM xs.length i with
 |none=>rw[e]at h;cases h
 |some j =>
  rw[e]at h;obtain⟨h1,h2,h3,h4⟩:=LN e;exact⟨j,h1,h,h2,h3,h4⟩
theorem gQ{α:Type}{xs:List α}{j:Nat}{v:α}(h:xs[j]? = ζ v):cJ xs (j:Int)=ζ v:=by
 have hj:j<xs.length:=(alb.mp h).1;have e:fM xs.length (j:Int)=ζ j:=by
  unfold fM;rw[if_pos (by omega),if_pos (by omega)];simp
 unfold cJ;rw[e];exact h
def Pq(b:π):Prop:=∀o i,subscripted b ξ o i=operate [o,i] (getItem o i)
def wZ(X:Cx) (r:R2):Prop :=
 ∀(value slice:π) (pins:List (Ω×Obj)) (s:ε) (σ:St) (H:Hp) (x y:V) (v u:Θ) (Q:VK),Inv X pins σ H s->RelV x v->RelV y u->r x y H Q ->
  subscripted slice ξ v u=operate [v,u] (getItem v u)->wpAny (model X.prog X.w) X.A (subscriptTail value slice v u) (EP X pins σ Q) X.xe s
def MtR(X:Cx) (id:String) (r:V->List V->Hp->VK->Prop):Prop :=
 ∀(pins:List (Ω×Obj)) (s:ε) (σ:St) (H:Hp) (x:V) (xs:List V) (v:Θ) (us:List Θ) (Q:VK),Inv X pins σ H s->RelV x v->Vals xs us->r x xs H Q ->
  wpAny (model X.prog X.w) X.A (call (.builtin id) (v::us)) (EP X pins σ Q) X.xe s
section
variable {X:Cx}{a b:π}{ta tb:TE}{pos:Pos}
theorem Xg{r:R2}(hr:wZ X r) (ha:PE X a ta) (hb:PE X b tb) (hs:Pq b):PE X (.Subscript a b pos) (xN r ta tb):=by
 intro pins s σ H Q I h;exact Subscript_ (Ht ha hb I h λv u s2 x y H2 I2 rx ry q=>hr a b pins s2 σ H2 x y v u Q I2 rx ry q (hs _ _))
def Ve(K:Ψ):R2:=λx y H Q=>∃p xs i v,x=.ref p/\y=.int i/\bC K H p xs/\cJ xs i=ζ v/\Q v H
def Vd(K:Ψ):R2:=λx y H Q=>∃p xs i v,x=.ref p/\y=.int i/\bU K H p xs/\cJ xs i=ζ v/\Q v H
theorem acy:wZ X (Ve X.K):=by
 intro value slice pins s σ H x y v u Q I rx ry h hs;obtain⟨p,xs,i,z,rfl,rfl,hq,he,q⟩:=h;cases rx;obtain⟨t,rfl⟩:=ry;obtain⟨its,r,pl,hz⟩:=I.list hq;obtain⟨j,h1,h2,h3,h4,h5⟩:=Pe he;obtain⟨w,ew,rw'⟩:=r.get h2;have hl:=r.length;have hn:=sH;have fin:EP X pins σ Q w s:=⟨z,H,I,rw',q⟩
 by_cases h0:0<=i
 ·have hj:i.toNat=j:=by
   rw[seqIndex_of h0 h5]at h1;exact alo h1
  exact item_listR pl.isList h0 (by omega) (by rw[hj];simpa using ew) fin hs
 ·have hj:(i+(its.toArray.size:Int)).toNat=j:=by
   rw[seqIndex_neg (by omega) h4]at h1
   rw[ak1,<-hl];exact alo h1
  exact subscriptTail_builtinR (x:=w) pl.isList.typeIs slot_list_getitem.lookup
   (wpAny_getItem_list_neg (Q:=λr s'=>r=w/\EP X pins σ Q r s') pl.isList (by omega) (by rw[ak1]<;>omega) (by omega) (by rw[hj];simpa using ew) ⟨rfl,fin⟩) hs
theorem acw:wZ X (Vd X.K):=by
 intro value slice pins s σ H x y v u Q I rx ry h hs;obtain⟨p,xs,i,z,rfl,rfl,hq,he,q⟩:=h;cases rx;obtain⟨t,rfl⟩:=ry;obtain⟨its,r,pl,hz⟩:=I.tuple hq;obtain⟨j,h1,h2,h3,h4,h5⟩:=Pe he;obtain⟨w,ew,rw'⟩:=r.get h2;have hl:=r.length;have hn:=sH;have fin:EP X pins σ Q w s:=⟨z,H,I,rw',q⟩;exact subscriptTail_builtinR (x:=w) pl.typeIs slot_tuple_getitem.lookup
  (getItem_tuple (j:=j) (Q:=λr s'=>r=w/\EP X pins σ Q r s') pl (by omega) (by omega) (by rw[ak1,<-hl];exact h1) (by simpa using ew) ⟨rfl,fin⟩) hs
theorem aba(its:List Θ) (n j:Nat) (u:Θ):Obj.mapSeq (·.setIfInBounds j u) {cls:=.type "list",data:=.seq its.toArray n}={cls:=.type "list",data:=.seq (its.set j u).toArray n}:=by
 simp[Obj.mapSeq]
theorem Inv.lst{pins:List (Ω×Obj)}{σ:St}{H:Hp}{s:ε}{p:Ω}{xs:List V}(I:Inv X pins σ H s) (h:H p=ζ (.lst xs)) :
  ∃(its:List Θ) (n:Nat),Vals xs its/\s.heap.get? p=ζ {cls:=.type "list",data:=.seq its.toArray n}/\xs.length<=ι:=by
 obtain⟨z,its,n,r,e⟩:=I.hok p _ h;exact⟨its,n,r,e,z⟩
theorem Inv.abe{pins:List (Ω×Obj)}{σ:St}{H:Hp}{s:ε}{p:Ω}{xs ys:List V}{its its':List Θ}{n n':Nat}{f:Obj->Obj}(I:Inv X pins σ H s) (h:H p=ζ (.lst xs))
  (ho:s.heap.get? p=ζ {cls:=.type "list",data:=.seq its.toArray n}) (hf:f {cls:=.type "list",data:=.seq its.toArray n}={cls:=.type "list",data:=.seq its'.toArray n'}) (r:Vals ys its') (hz:ys.length<=ι) (t:Nat) :
  Inv X pins σ (upd H p (.lst ys)) {s with heap:=s.heap.update p f,toks:=t}:=by
 have e:(s.heap.update p f).get? p=ζ {cls:=.type "list",data:=.seq its'.toArray n'}:=by
  rw[amY f ho (by rw[hf]<;>rfl),hf]
 refine I.write (x:=p) (e:=p) (by rw[h];trivial) (.inl rfl) (λb u hb q=>(alS _ _ (alP hb)).trans q) ⟨_,e⟩ ?_
 exact⟨hz,its',n',r,e⟩
def U4:V->V->V->Hp->(Hp->Prop)->Prop:=λo i v H Q=>∃p xs k j,o=.ref p/\i=.int k/\H p=ζ (.lst xs)/\fM xs.length k=ζ j/\Q (upd H p (.lst (xs.set j v)))
theorem set_list:Pr X U4:=by
 intro pins s σ H o i v ov iv u Q I ro ri rv h;obtain⟨p,xs,k,j,rfl,rfl,hp,hj,q⟩:=h;cases ro;obtain⟨t,rfl⟩:=ri;obtain⟨its,n,r,ho,hz⟩:=I.lst hp;obtain⟨h1,h2,h3,h4⟩:=LN hj;have hl:=r.length;have hn:=sH;have I':Inv X pins σ (upd H p (.lst (xs.set j v))) {s with heap:=s.heap.update p (Obj.mapSeq (·.setIfInBounds j u))} :=
  I.abe hp ho (aba its n j u) (r.set rv j) (by rw[aoa];exact hz) s.toks
 by_cases h0:0<=k
 ·have hk:k.toNat=j:=by
   rw[seqIndex_of h0 h4]at h1;exact alo h1
  exact PySem.W.ki_setAt ho h0 (by omega) (by rw[ak1,<-hl];exact h4) (by rw[hk];exact⟨_,I',q⟩)
 ·have hk:(k+(its.toArray.size:Int)).toNat=j:=by
   rw[seqIndex_neg (by omega) h3]at h1
   rw[ak1,<-hl];exact alo h1
  exact PySem.W.ki_setBack ho (by omega) (by rw[ak1,<-hl];exact h3) (by omega) (by rw[hk];exact⟨_,I',q⟩)
theorem SY(lo hi:Option Int) (n:Nat):(sliceBounds lo hi η n).1=((HT.bw n 0 lo:Nat):Int)/\(sliceBounds lo hi η n).2.1=((HT.bw n n hi:Nat):Int)/\(sliceBounds lo hi η n).2.2=1:=by
 refine⟨?_,?_,rfl⟩
 ·cases lo with
  |none=>simp[sliceBounds,HT.bw]
  |some i =>
   simp only[sliceBounds,HT.bw,ao8,show(1:Int)>0 by decide,if_true]
   by_cases h:i<0
   ·simp only[h,if_true]<;>omega
   ·simp only[h,if_false]<;>omega
 ·cases hi with
  |none=>simp[sliceBounds,HT.bw]
  |some i =>
   simp only[sliceBounds,HT.bw,ao8,show(1:Int)>0 by decide,if_true]
   by_cases h:i<0
   ·simp only[h,if_true]<;>omega
   ·simp only[h,if_false]<;>omega
theorem S0(its:List Θ) (lo hi:Option Int):slicePick its.toArray lo hi η=((its.drop (HT.bw its.length 0 lo)).take (HT.bw its.length its.length hi-HT.bw its.length 0 lo)).toArray:=by
 obtain⟨h1,h2,h3⟩:=SY lo hi its.toArray.size;unfold slicePick;rw[h1,h2,h3];simp only[sliceRange_one,pick_run,ak1]<;>rfl
def U0(K:Ψ):V->Option Int->Option Int->Hp->VK->Prop:=λx lo hi H Q=>∃a xs,x=.ref a/\bC K H a xs/\∀p,H p=η->Q (.ref p) (upd H p (.lst (oj xs lo hi)))
theorem S7:oF X (U0 X.K):=by
 intro pins s σ H x v vl vu lo hi sl Q I rx hs pl pu h;obtain⟨a,xs,rfl,hx,q⟩:=h;cases rx;obtain⟨its,r,ht,hz⟩:=I.list hx;have hlen:=r.length;refine⟨"list",_,slot_list_getitem.lookup,ht.isList.typeIs,?_⟩;refine wpAny_getItem_list_slice ht.isList hs pl pu .none (by simp) ?_ (by rw[ak1]<;>omega)
 rw[S0,<-hlen];refine⟨.ref s.heap.objs.size,_,I.laid (t':=s.toks) (o:=.lst (oj xs lo hi)) (λb ob q=>akU _ q) (akT _) ?_,rfl,q _ (I.hok.fresh (akT _))⟩
 exact⟨als (NR xs lo hi) hz,_,0,(r.drop (HT.bw xs.length 0 lo)).take (HT.bw xs.length xs.length hi-HT.bw xs.length 0 lo),ak8 _ rfl⟩
theorem ahE:c9 X (.builtin "len") (λxs H Q=>∃p ys,xs=[.ref p]/\(bC X.K H p ys\/bU X.K H p ys)/\Q (.int ys.length) H):=by
 intro pins s σ H xs us Q I r h;obtain⟨p,ys,rfl,hq,q⟩:=h;obtain⟨u,rfl,rx⟩:=alD r;cases rx;have hn:=sH
 rcases hq with hq|hq
 ·obtain⟨its,r',pl,hz⟩:=I.list hq;have hlen:=r'.length;exact Calls.call_len_list pl.isList (by simp only[ak1]<;>omega) ⟨.int ys.length,H,I.tok _,⟨s.toks+1,by rw[ak1,hlen]⟩,q⟩
 ·obtain⟨its,r',pl,hz⟩:=I.tuple hq;have hlen:=r'.length;exact len_tuple pl (by simp only[ak1]<;>omega) ⟨.int ys.length,H,I.tok _,⟨s.toks+1,by rw[ak1,hlen]⟩,q⟩
theorem ahD:c9 X (.builtin "len") (λxs H Q=>∃z,xs=[.str z]/\z.length<=ι/\Q (.int z.length) H):=by
 intro pins s σ H xs us Q I r h;obtain⟨z,rfl,hz,q⟩:=h;obtain⟨u,rfl,t,rfl⟩:=alD r;have hn:=sH;exact len_str (by omega) ⟨.int z.length,H,I.tok _,⟨_,rfl⟩,q⟩
theorem ahC:c9 X (.type "list") (λxs H Q=>∃p ys,xs=[.ref p]/\(bC X.K H p ys\/bU X.K H p ys)/\∀l,H l=η->Q (.ref l) (upd H l (.lst ys))):=by
 intro pins s σ H xs us Q I r h;obtain⟨p,ys,rfl,hq,q⟩:=h;obtain⟨u,rfl,rx⟩:=alD r;cases rx;have fin:∀(its:List Θ),Vals ys its->ys.length<=ι->∀(h':χ) (c':Nat),(∀b o',s.heap.get? b=ζ o'->h'.get? b=ζ o') ->
   h'.get? s.heap.objs.size=ζ {cls:=.type "list",dict:=η,data:=.seq its.toArray c',slots:=#[]}->EP X pins σ Q (.ref s.heap.objs.size) {s with heap:=h'}:=λits r' hz h' c' kp e =>
  ⟨.ref s.heap.objs.size,_,I.laid (t':=s.toks) kp (akT _) (show eY X.prog X.w _ h' _ (.lst ys)from⟨hz,its,c',r',e⟩),rfl,q _ (I.hok.fresh (akT _))⟩
 rcases hq with hq|hq
 ·obtain⟨its,r',pl,hz⟩:=I.list hq;have hlen:=r'.length;obtain⟨o,ho,hc,n,hd⟩:=pl.isList;exact call_list_seq p (.inl rfl) ho hc hd (λh' c' kp e=>fin its r' hz h' c' kp e) (by simp only[ak1]<;>omega)
 ·obtain⟨its,r',pl,hz⟩:=I.tuple hq;have hlen:=r'.length;obtain⟨o,ho,hc,n,hd⟩:=pl;exact call_list_seq p (.inr rfl) ho hc hd (λh' c' kp e=>fin its r' hz h' c' kp e) (by simp only[ak1]<;>omega)
theorem ahA:c9 X (.type "tuple") (λxs H Q=>∃p ys,xs=[.ref p]/\((bC X.K H p ys/\∀l,H l=η->Q (.ref l) (upd H l (.tup ys)))\/(bU X.K H p ys/\Q (.ref p) H))):=by
 intro pins s σ H xs us Q I r h;obtain⟨p,ys,rfl,h⟩:=h;obtain⟨u,rfl,rx⟩:=alD r;cases rx
 rcases h with⟨hq,q⟩|⟨hq,q⟩
 ·obtain⟨its,r',pl,hz⟩:=I.list hq;have hlen:=r'.length;refine call_tuple_list pl.isList (λh' kp=>?_) (by simp only[ak1]<;>omega)
  have I1:Inv X pins σ H {s with heap:=h'}:=I.kept (t':=s.toks) kp
  have I2:Inv X pins σ (upd H h'.objs.size (.tup ys)) {s with heap:=h'.push {cls:=.type "tuple",data:=.seq its.toArray} } :=
   I1.laid (t':=s.toks) (λb o e=>akU _ e) (akT _) (show eY X.prog X.w _ _ _ (.tup ys)from⟨hz,its,r',kI.new _ _⟩)
  exact⟨.ref h'.objs.size,_,I2,rfl,q _ (I1.hok.fresh (akT _))⟩
 ·obtain⟨its,r',pl,hz⟩:=I.tuple hq;exact call_tuple_same pl ⟨.ref p,H,I,rfl,q⟩
def IC(K:Ψ) (T:String) (x:V) (H:Hp):Prop:=match x with
 |.str _=>T="str"
 |.int _=>T="int"
 |.ref p=>(T="list"/\∃xs,bC K H p xs)\/(T="tuple"/\((∃xs,H p=ζ (.tup xs))\/∃o,K.lookup p=ζ o/\o.cls=.type "tuple"/\o.dict=η)) \/
   (T="dict"/\((∃kvs,H p=ζ (.dK kvs))\/∃kvs,H p=ζ (.dT kvs)))\/(T="set"/\∃S n,H p=ζ (.set S n))
 |_=>False
theorem Rr{pins:List (Ω×Obj)}{σ:St}{H:Hp}{s:ε}{T:String}{x:V}{v:Θ}(I:Inv X pins σ H s) (r:RelV x v) (ty:IC X.K T x H) :
  s.TypeIs v T/\∀a,v=.ref a->∃ob,s.heap.get? a=ζ ob/\ob.dict=η:=by
 cases x with
 |str z =>
  obtain⟨t,rfl⟩:=r;cases(show T="str" from ty)
  exact⟨typeIs_str s z t,λ_ e=>nomatch e⟩
 |int i =>
  obtain⟨t,rfl⟩:=r;cases(show T="int" from ty)
  exact⟨typeIs_int s i t,λ_ e=>nomatch e⟩
 |ref p =>
  cases r
  rcases ty with⟨rfl,xs,hq⟩|⟨rfl,⟨xs,hk⟩|⟨o,hk,hc,hd⟩⟩|⟨rfl,hk⟩|⟨rfl,S,n,hk⟩
  ·obtain⟨its,_,pl,_⟩:=I.list hq;refine⟨pl.isList.typeIs,λa e=>?_⟩
   cases e;obtain⟨o,n,e,c,hd,_⟩:=pl;exact⟨o,e,hd⟩
  ·obtain⟨_,its,_,o,e,c,_,hd⟩:=(show eY X.prog X.w H s.heap p (.tup xs)from I.hok p _ hk)
   refine⟨⟨o,e,c⟩,λa e2=>?_⟩
   cases e2;exact⟨o,e,hd⟩
  ·refine⟨⟨o,I.eH p o hk,hc⟩,λa e=>?_⟩
   cases e;exact⟨o,I.eH _ o hk,hd⟩
  ·have z:∃o,s.heap.get? p=ζ o/\o.ExactDict:=by
    rcases hk with⟨kvs,hk⟩|⟨kvs,hk⟩
    ·obtain⟨_,_,_,_,o,_,_,e,ex,_⟩:=I.hok p _ hk;exact⟨o,e,ex⟩
    ·obtain⟨_,_,_,_,o,_,_,e,ex,_⟩:=I.hok p _ hk;exact⟨o,e,ex⟩
   obtain⟨o,e,ex⟩:=z;refine⟨⟨o,e,ex.1⟩,λa e2=>?_⟩
   cases e2;exact⟨o,e,ex.2.1⟩
  ·obtain⟨o,_,_,_,e,ex,_⟩:=I.hok p _ hk;refine⟨⟨o,e,ex.1⟩,λa e2=>?_⟩
   cases e2;exact⟨o,e,ex.2.1⟩
 |_=>exact False.elim ty
def R9(K:Ψ) (T:String) (r:V->List V->Hp->VK->Prop) (to:TE) (t:TA):TE:=λσ H Q=>to σ H λx H1=>IC K T x H1/\t σ H1 λxs H2=>r x xs H2 Q
variable {o e:π}{es:List π}{to:TE}{t:TA}{name:Str}{apos cpos:Pos}{T id:String}{r:V->List V->Hp->VK->Prop}
theorem u7(pa:PlainAttrs T) (slot:Slot T name id) (hty:typeOf (.builtin id)=pure (.type "method_descriptor")) (hm:MtR X id r) (ho:PE X o to) (ha:PA X (e::es) t)
  (hbase:ado o name X.env (eval o X.env)=eval o X.env:=by rfl)
  (hfew:((acF cpos (μ (e::es) X.env)).all (λx=>!x.1)&&(adt cpos (adj [] X.env)).all (λx=>x.1.isSome)
   && decide ((e::es).length+([]:List adm).length+(if([]:List adm).isEmpty then 0 else 1)<30))=Ξ:=by rfl)
  (hline:(apos.endLine==cpos.line)=Ξ:=by rfl) (hs:μ (e::es) X.env=(ξ,eval e X.env)::μ es X.env:=by rfl) (hplain:(acF cpos (μ es X.env)).any (·.1)=ξ:=by rfl) :
  PE X (.Call (.Attribute o name apos) (e::es) [] cpos) (R9 X.K T r to t):=by
 intro pins s σ H Q I h;refine wpAny_Call_method_late hbase hfew hline rfl (bz (ho pins s σ H _ I h) λv s1 ⟨x,H1,I1,r1,ty,q1⟩=>?_)
 obtain⟨h1,h2⟩:=Rr I1 r1 ty;refine⟨T,id,pa,slot,hty,h1,h2,?_⟩;have hA:=ha cpos pins s1 σ H1 _ I1 q1;rw[hs]at hA ⊢;refine Calls.callWith_builtin (by show(ξ||(acF cpos (μ es X.env)).any (·.1))=ξ;rw[hplain]<;>rfl) (Calls.evalArgs_plain ?_)
 exact bz hA λus s2 ⟨vs,H2,I2,r2,q2⟩=>hm pins s2 σ H2 x vs v us Q I2 r1 r2 q2
end
def wW(X:Cx) (id:String) (r:V->List V->Hp->VK->Prop):Prop :=
 ∀(pins:List (Ω×Obj)) (s:ε) (σ:St) (H:Hp) (x:V) (xs:List V) (v:Θ) (us:List Θ) (Q:VK),Inv X pins σ H s->RelV x v->Vals xs us->r x xs H Q ->
  wpAny (model X.prog X.w) X.A (call (.builtin id) (v::us)) (EP X pins σ Q) X.xe s
theorem Vals.one:∀{x:V}{us:List Θ},Vals [x] us->∃u,us=[u]/\RelV x u
 |_,_,.cons r .nil=>⟨_,rfl,r⟩
theorem Vals.two:∀{x y:V}{us:List Θ},Vals [x,y] us->∃u v,us=[u,v]/\RelV x u/\RelV y v
 |_,_,_,.cons r (.cons q .nil)=>⟨_,_,rfl,r,q⟩
theorem Vals.eraseIdx:∀{xs:List V}{us:List Θ}(i:Nat),Vals xs us->Vals (xs.eraseIdx i) (us.eraseIdx i)
 |_,_,_,.nil=>.nil
 |_,_,0,.cons _ t=>t
 |_,_,i+1,.cons r t=>.cons r (Vals.eraseIdx i t)
theorem Vals.rep{xs:List V}{us:List Θ}(h:Vals xs us):∀k:Nat,Vals (ν k xs).flatten (ν k us).flatten
 |0=>.nil
 |k+1=>by
  rw[amc,amc,amk,amk];exact Vals.append h (Vals.rep h k)
theorem Lu{α:Type}:∀(l:List α) (i:Nat),(l.eraseIdx i).length<=l.length
 |[],_=>akT _
 |_::_,0=>al5 _
 |_::r,i+1=>Nat.succ_le_succ (Lu r i)
theorem foldl_rep(its:List Θ):∀(k:Nat) (acc:List Θ),
  List.foldl (λx1 x2=>x1++x2) acc.toArray (ν k its.toArray)=(acc++(ν k its).flatten).toArray
 |0,acc=>by simp
 |k+1,acc=>by
  have e:acc.toArray++its.toArray=(acc++its).toArray:=by simp
  have e2:(acc++its)++(ν k its).flatten=acc++(ν (k+1) its).flatten:=by
   rw[amc,amk,alA]
  rw[<-e2,<-foldl_rep its k (acc++its),<-e,amc,aml]
section
variable {X:Cx}{pins:List (Ω×Obj)}{σ:St}{H:Hp}{s:ε}{l b:Ω}{xs ys zs:List V}
theorem Inv.CV{its its':List Θ}{n:Nat}{f:Array Θ->Array Θ}{t':Nat}(I:Inv X pins σ H s) (hH:H l=ζ (.lst xs))
  (e:s.heap.get? l=ζ {cls:=.type "list",data:=.seq its.toArray n}) (hf:f its.toArray=its'.toArray) (hv:Vals ys its') (hz:ys.length<=ι) :
  Inv X pins σ (upd H l (.lst ys)) {s with heap:=s.heap.update l (Obj.mapSeq f),toks:=t'}:=by
 have q:=ao9 e f;rw[hf]at q;refine I.write (x:=l) (e:=l) (by rw[hH];exact trivial) (.inl rfl) (λb' u hb hu=>(alS s.heap (Obj.mapSeq f) (alP hb)).trans hu) ⟨_,q⟩ ?_
 exact⟨hz,its',_,hv,q⟩
theorem Inv.Lq{its:List Θ}{t':Nat}(I:Inv X pins σ H s) (hv:Vals ys its) (hz:ys.length<=ι) :
  Inv X pins σ (upd H s.heap.objs.size (.lst ys)) {s with heap:=s.heap.push {cls:=.type "list",data:=.seq its.toArray},toks:=t'} :=
 I.laid (λ_ _ q=>akU _ q) (akT _) ⟨hz,its,0,hv,ak8 _ rfl⟩
theorem Inv.fresh(I:Inv X pins σ H s):H s.heap.objs.size=η:=I.hok.fresh (akT _)
theorem Inv.k9(I:Inv X pins σ H s) (hH:H l=ζ (.lst xs)):xs.length<=ι/\∃(its:List Θ) (n:Nat),Vals xs its/\xs.length=its.length/\s.heap.get? l=ζ {cls:=.type "list",data:=.seq its.toArray n}:=by
 obtain⟨z,its,n,r,e⟩:=I.hok l _ hH;exact⟨z,its,n,r,r.length,e⟩
theorem KJ{n:Nat}(h:n<=ι):Builtin.List.listTooLong n=ξ:=by
 unfold Builtin.List.listTooLong;exact decide_eq_false (by omega)
end
section
variable {X:Cx}
def Vl:V->List V->Hp->VK->Prop:=λx vs H Q=>∃l xs y,x=.ref l/\vs=[y]/\H l=ζ (.lst xs)/\xs.length<ι/\Q .aQ (upd H l (.lst (xs++[y])))
theorem aa7:wW X "list.append" Vl:=by
 intro pins s σ H x vs v us Q I rx rv h;obtain⟨l,xs,y,rfl,rfl,hH,hz,q⟩:=h;cases rx;obtain⟨u,rfl,ru⟩:=rv.one;obtain⟨z,its,n,r,hl,e⟩:=I.k9 hH;refine amm F.slot_list_append ⟨_,e,rfl⟩ F.entry_list_append (F.args_list_append_2 _ _) (apa l its.toArray n u (by rw[ak1];omega)) ⟨e,?_⟩
 refine⟨.aQ,_,I.CV (its':=its++[u]) hH e (by simp) (r.append (.cons ru .nil)) ?_,rfl,q⟩
 rw[alp,List.length_singleton];omega
def Vg:V->List V->Hp->VK->Prop:=λx vs H Q=>∃l b xs zs,x=.ref l/\vs=[.ref b]/\H l=ζ (.lst xs)/\H b=ζ (.lst zs)/\xs.length+zs.length<=ι/\Q .aQ (upd H l (.lst (xs++zs)))
theorem aa5:wW X "list.extend" Vg:=by
 intro pins s σ H x vs v us Q I rx rv h;obtain⟨l,b,xs,zs,rfl,rfl,hH,hB,hz,q⟩:=h;cases rx;obtain⟨u,rfl,ru⟩:=rv.one;cases ru;obtain⟨z,its,n,r,hl,e⟩:=I.k9 hH;obtain⟨z2,its2,n2,r2,hl2,e2⟩:=I.k9 hB;have hsz:its.toArray.size+its2.toArray.size<=ι:=by rw[ak1,ak1];omega
 have EC:¬(!its.toArray.isEmpty&&Builtin.List.listTooLong (its.toArray.size+its2.toArray.size))=Ξ:=by
  rw[KJ hsz,aob];exact alf
 refine amm F.slot_list_extend ⟨_,e,rfl⟩ F.entry_list_extend (F.args_list_extend_2 _ _)
  (AutoSeq1.list_extend_list_list_0 l its.toArray n b its2.toArray n2 EC (by rw[ak1];omega) (by omega)) ⟨e,e2,?_⟩
 refine⟨.aQ,_,I.CV (its':=its++its2) hH e (by simp) (r.append r2) ?_,rfl,q⟩
 rw[alp];omega
def U8:V->List V->Hp->VK->Prop:=λx vs H Q=>∃l xs i k y,x=.ref l/\vs=[.int i]/\H l=ζ (.lst xs)/\-(2^63)<=i/\i<2^63/\seqIndex? i xs.length=ζ k/\xs[k]? = ζ y/\Q y (upd H l (.lst (xs.eraseIdx k)))
theorem aa3:wW X "list.pop" U8:=by
 intro pins s σ H x vs v us Q I rx rv h;obtain⟨l,xs,i,k,y,rfl,rfl,hH,h1,h2,hk,hy,q⟩:=h;cases rx;obtain⟨u,rfl,ru⟩:=rv.one;obtain⟨t,rfl⟩:=ru;obtain⟨z,its,n,r,hl,e⟩:=I.k9 hH;obtain⟨w,hw,rw'⟩:=r.get hy;refine amm F.slot_list_pop ⟨_,e,rfl⟩ F.entry_list_pop (F.args_list_pop_2 _ _)
  (MeetsSeq.list_pop_at l its.toArray n i t k w (fitsIndex_both h1 h2) (by rw[ak1,<-hl];exact hk) (by rw[<-alx];exact hw) (by rw[ak1];omega)) ⟨e,?_⟩
 refine⟨y,_,I.CV (its':=its.eraseIdx k) hH e ?_ (r.eraseIdx k) ?_,rw',q⟩
 ·show its.toArray.eraseIdxIfInBounds k=(its.eraseIdx k).toArray;rw[List.eraseIdxIfInBounds_toArray]
 ·have:=Lu xs k;omega
def Vk:R2:=λx y H Q=>∃l b xs zs,x=.ref l/\y=.ref b/\H l=ζ (.lst xs)/\H b=ζ (.lst zs)/\xs.length+zs.length<=ι/\∀p,H p=η->Q (.ref p) (upd H p (.lst (xs++zs)))
theorem Yk:bN X (binaryOp .Add) Vk:=by
 intro pins s σ H x y v u Q I rx ry h;obtain⟨l,b,xs,zs,rfl,rfl,hH,hB,hz,q⟩:=h;cases rx;cases ry;obtain⟨z,its,n,r,hl,e⟩:=I.k9 hH;obtain⟨z2,its2,n2,r2,hl2,e2⟩:=I.k9 hB;refine PySem.P.add_list e e2 ?_ (by rw[ak1,ak1];omega)
 have ea:its.toArray++its2.toArray=(its++its2).toArray:=by simp
 rw[ea];exact⟨.ref _,_,I.Lq (t':=s.toks) (r.append r2) (by rw[alp];omega),rfl,q _ I.fresh⟩
def U7:R2:=λx y H Q=>∃l k xs,x=.ref l/\y=.int k/\H l=ζ (.lst xs)/\-(2^63)<=k/\k<2^63/\xs.length*k.toNat<=ι /\
 ∀p,H p=η->Q (.ref p) (upd H p (.lst (ν k.toNat xs).flatten))
theorem len_rep{α:Type}(xs:List α) (k:Nat):(ν k xs).flatten.length=k*xs.length:=by
 induction k with
 |zero=>simp
 |succ k ih=>rw[amc,amk,alp,ih,amd,anr]
theorem XY:bN X (binaryOp .Mult) U7:=by
 intro pins s σ H x y v u Q I rx ry h;obtain⟨l,k,xs,rfl,rfl,hH,h1,h2,hz,q⟩:=h;cases rx;obtain⟨t,rfl⟩:=ry;obtain⟨z,its,n,r,hl,e⟩:=I.k9 hH;have hlen:its.toArray.size*k.toNat<=ι:=by rw[ak1,<-hl];exact hz
 have hcap:¬its.toArray.size*k.toNat>(2^63-1)/8:=by
  have:(ι:Nat)<=(2^63-1)/8:=by decide
  omega
 have hfit:¬(!Builtin.List.listFitsIndex k)=Ξ:=by
  rw[fitsIndex_both h1 h2];exact alf
 have EC:¬Builtin.List.listTooLong (its.toArray.size*k.toNat)=Ξ:=by
  rw[KJ hlen];exact alf
 have hnew:List.foldl (λx1 x2=>x1++x2) #[] (ν (if its.toArray.isEmpty=Ξ then 0 else k.toNat) its.toArray)=(ν k.toNat its).flatten.toArray:=by
  have f0:∀m:Nat,List.foldl (λx1 x2=>x1++x2) #[] (ν m its.toArray)=(ν m its).flatten.toArray:=λm=>by
   have:=foldl_rep its m [];rw[alm]at this;exact this
  rw[f0];cases its with
  |nil=>simp
  |cons a r'=>rw[if_neg (by simp)]
 refine wpAny_binaryOp_repeat_ref (T:="list") (U:="int") (by decide) ⟨_,e,rfl⟩ (λs'=>typeIs_int s' k t) noFill_list_mul F.fills_int_mul F.slot_int_rmul repeat_list F.slot_int_index.lookup
  (amm F.slot_int_rmul (typeIs_int s k t) F.entry_int_rmul (F.args_int_rmul_2 _ _) (int___rmul___int_list k t l its.toArray n)
   ⟨e,rfl,⟨_,e,rfl⟩,amm F.slot_list_mul ⟨_,e,rfl⟩ F.entry_list_mul (F.args_list_mul_2 _ _) (AutoListH.list___mul___list_int_3 l its.toArray n k t hfit hcap EC) ⟨e,?_⟩⟩)
 rw[hnew];exact⟨.ref _,_,I.Lq (t':=s.toks) (r.rep k.toNat) (by rw[len_rep,aoc];exact hz),rfl,q _ I.fresh⟩
end
section
variable {prog:τ}{w:ψ}{A:ω}{E:Θ->ε->Prop}{s:ε}
set_option maxRecDepth 100000 in
end
end L2
namespace Qx
open PySem PySem.W PySem.Calls PyProof.Rows
theorem ac2{P:Params}{h:χ}:∀(ns:List Int) (vs:List Θ),WellAll P h vs (ns.map WData.int)->acI vs ns:=by
 intro ns
 induction ns with
 |nil =>
  intro vs w;rw[an9]at w;cases w;exact .nil
 |cons n ns ih =>
  intro vs w;rw[ak2]at w;cases w with
  |cons a b =>
   cases a;exact .cons _ _ (ih _ b)
theorem Ui{l:OpenLaw}{n:Nat}(hn:l.most=ζ n) {P:Params}{h:χ}{args:List WData}{vals:List Θ}
  (hpre:l.row.toRowW.claim.pre args=Ξ) (hwl:WellAll P h vals args) :
  ∃a vs ns,vals=[Value.ref a]/\args=[WData.list (ns.map WData.int)]/\h.get? a=ζ {cls:=.type "list",data:=.seq vs.toArray}/\acI vs ns/\ns.length<=n:=by
 have hsh:WShape.hasAll [] args [.list .int]=Ξ:=(pre_splitW hpre).1;have hc:l.pre.holds [] {args:=args}=Ξ:=(pre_splitW hpre).2;obtain⟨d,r,rfl,h1,h2⟩:=hasAllW_cons hsh;obtain rfl:=hasAllW_nil h2;obtain⟨xs,rfl,h3⟩:=hasW_list h1;obtain⟨ns,rfl⟩:=items_int h3;have hlen:ns.length<=n:=by
  unfold OpenLaw.pre at hc;have h4:(WTm.not (.lt (.lit (.int (n:Int))) (.len (.arg 0)))).holds [] {args:=[.list (ns.map .int)]}=Ξ:=by
   have h4:=(holds_andW hc).1;rw[hn]at h4;exact h4
  have h5:=condW_of h4 (w_not (w_lt w_lit (w_len_list (w_arg rfl))));rw[ak6]at h5;refine apb λq=>?_
  have q':(n:Int)<((ns.length:Nat):Int):=by omega
  first
   |(rw[decide_eq_true q']at h5;exact absurd h5 (by decide))
   |(simp at h5;omega)
 cases hwl with
 |cons w1 w2 =>
  cases w2;cases w1 with
  |list ho hall=>exact⟨_,_,ns,rfl,rfl,ho,ac2 ns _ hall,hlen⟩
theorem VV(l:OpenLaw) (args:List WData):l.row.toRowW.claim.post args (.bool Ξ) args=Ξ :=
 postW_of (r:=l.row.toRowW) (X:=(Ξ==Ξ))
  (show WShape.has [] (.bool Ξ) .bool=Ξ by first|rfl|decide|simp[WShape.has,WShape.arms,WShape.armsAll])
  (show(WTm.eq .res (.lit (.bool Ξ))).value [] {args:=args,res:=ζ (.bool Ξ),after:=args}=ζ (.bool (Ξ==Ξ))from w_eq_bool (w_res rfl) w_lit) rfl
theorem ahW{l:OpenLaw}{n:Nat}{q:τ}{loose:List Str}{XP:(Str->Option Θ)->χ->Prop}{YP:ψ->χ->Prop}{d:DefRec}
  (hn:l.most=ζ n) (hdf:d.params.defaults=[])
  (call:∀(w:ψ) (s₀ s₁:ε) (mg mb:Str->Option Θ) (fa:Ω) (o:Obj) (pm cd doc:Θ) (a:Ω) (vs:List Θ) (ns:List Int),
   Ground q loose [] XP w s₀ mg mb s₁.heap->YP w s₁.heap ->
   s₁.heap.get? fa=ζ o->o.data=.func (docDef d.name d.params d.body d.scope pm cd doc)->s₁.heap.CodeRec cd d.name->mg d.name=ζ (.ref fa) ->
   s₁.heap.get? a=ζ {cls:=.type "list",data:=.seq vs.toArray}->acI vs ns->ns.length<=n->s₁.gens=#[] ->
   codeAny (model l.prog w) callerA (.call (.ref fa) ⟨[.ref a],[]⟩) (λr s'=>r=.ok (.ret (.bool Ξ))/\OldK s₁.heap s'.heap/\s'.os=s₁.os/\adp s'.gens) s₁) :
  WalkO q loose XP YP l.row.toRowW d [] (λf vs=>PySem.call f vs):=by
 intro w s₀ s₁ mg mb G Y fa o pm cd doc dV kV ho hd hcd hD hmg hg args vals as hpre hlay hrd hwl hlo;obtain rfl:dV=.none:=Dflts.none hD hdf;obtain rfl:kV=.none:=Dflts.noKw hD;obtain⟨a,vs,ns,rfl,rfl,hobj,hints,hlen⟩:=Ui hn hpre hwl;refine enter_call (al1 (call w s₀ s₁ mg mb fa o pm cd doc a vs ns G Y ho (fd_plain hd) hcd hmg hobj hints hlen hg) λr s' hq=>?_)
 obtain⟨rfl,h2,h3,h4⟩:=hq;exact⟨.inl ⟨.bool Ξ,.bool Ξ,[],rfl,λ_=>rfl,.bool Ξ,VV l _,λ_=>⟨List.Pairwise.nil,λ_ hm=>(nomatch hm)⟩⟩,h2,h3,h4⟩
end Qx
namespace L2
open PySem PySem.Spec PyProof.Rows
theorem Iw:∀{vs:List Θ}{ns:List Int},acI vs ns->Vals (ns.map V.int) vs
 |_,_,.nil=>.nil
 |_,_,.cons n t h=>.cons ⟨t,rfl⟩ (Iw h)
def cH(s:acz):Arguments:=match s with
 |.FunctionDef _ a _ _ _ _ _ _ _ _=>a
 |_=>{posonlyargs:=[],args:=[],vararg:=η,kwonlyargs:=[],kw_defaults:=[],kwarg:=η,defaults:=[]}
def cA(s:acz):List acz:=match s with
 |.FunctionDef _ _ b _ _ _ _ _ _ _=>b
 |_=>[]
def aW(s:acz):ads:=match s with
 |.FunctionDef _ _ _ _ _ _ sc _ _ _=>sc
 |_=>{kind:=.function,names:=[],isGenerator:=ξ,isCoroutine:=ξ}
abbrev bY:mZ:=λ_ _ _ _ _ _=>False
abbrev E0:XK:=λ_ _ _=>False
theorem XH{X:Cx}:Passes bY X E0:=λ_ _ _ _ _ _ _ h=>h.elim
structure mY (K:Ψ) (x qual:Str) (st:acz) (f:Ω) (fd:ο):Prop where
 ex:∃(oc:Θ) (od:Option Ω) (kV doc pm:Θ) (an:Option Ω) (cdv ct:Θ) (osl:Array (Option Θ)),
  fd=PySem.W.fnOf x qual (cH st) (cA st) (aW st) .none kV doc pm an cdv ct/\K.lookup f=ζ ⟨oc,od,.func fd,osl⟩/\PySem.W.codeIn K cdv qual=Ξ
 kp:PySem.W.keepIn K (.ref f)=Ξ
section
variable {P:τ}{w:ψ}{K:Ψ}{mg:Str->Option Θ}{base:χ}
theorem mY.ok{x qual:Str}{st:acz}{f:Ω}{fd:ο}{N ps:List Str}{k:Nat}{sp:Sp}(F:mY K x qual st f fd) (S:cB N ps (aW st)) (len:∀vs H Q E,sp vs H Q E->vs.length=ps.length)
  (hbody:∀(cdv:Θ) (A:ω) (outer:List Env) (s:ε) (H:Hp) (vs:List V) (Q:VK) (E:XK),eB k (A.deeper (envOfC qual (aW st) s.heap.objs.size f cdv))->sp vs H Q E ->
   ∃t,eX (gi bY P w K mg base N qual (aW st) f cdv A outer s H E).fC (cA st) t/\t {nx:=λ_ H'=>Q .aQ H',rt:=Q} (start N vs) H):bX P w K mg base bY (k+1) f fd ps sp:=by
 obtain⟨oc,od,kV,doc,pm,an,cdv,ct,osl,rfl,lk,hcd⟩:=F.ex;refine Ng lk hcd S len λA outer s H vs Q E hr jK=>?_
 obtain⟨t,h,q⟩:=hbody cdv A outer s H vs Q E hr jK;exact⟨t,h.fC,q⟩
theorem mY.binds{x qual:Str}{st:acz}{f:Ω}{fd:ο}{ps:List Str}(F:mY K x qual st f fd)
  (h:∀(kV doc pm:Θ) (an:Option Ω) (cdv ct:Θ) (us:List Θ),us.length=ps.length->bindArgs (PySem.W.fnOf x qual (cH st) (cA st) (aW st) .none kV doc pm an cdv ct) ⟨us,[]⟩=pure (ps.zip us)):Binds K fd ps []:=by
 obtain⟨oc,od,kV,doc,pm,an,cdv,ct,osl,rfl,lk,hcd⟩:=F.ex;exact .all (h kV doc pm an cdv ct)
theorem cL{x qual:Str}{st:acz}{f:Ω}{oc:Θ}{od an:Option Ω}{osl:Array (Option Θ)}{kV doc pm cdv ct:Θ}(l:K.lookup f=ζ ⟨oc,od,.func (PySem.W.fnOf x qual (cH st) (cA st) (aW st) .none kV doc pm an cdv ct),osl⟩)
  (c:PySem.W.codeIn K cdv qual=Ξ) (k:PySem.W.keepIn K (.ref f)=Ξ):mY K x qual st f (PySem.W.fnOf x qual (cH st) (cA st) (aW st) .none kV doc pm an cdv ct):=⟨⟨oc,od,kV,doc,pm,an,cdv,ct,osl,rfl,l,c⟩,k⟩
end
theorem adl{A:ω}{k:Nat}(hr:eB k A):A.units+1<adw:=amZ (Nat.add_le_add_left (by decide:1<=64) _) hr.units
theorem lz{A B:Prop}(h:B):if ξ=Ξ then A else B:=by
 rw[if_neg alf];exact h
theorem ly{A B:Prop}(h:A):if Ξ=Ξ then A else B:=by
 rw[if_pos rfl];exact h
def iC(X:Cx) (N':List Str) (scope:ads) (cl:List (Str×Ω)) (C:Ω) (s₀:ε) (H₀:Hp) (ex:List Ω) (pn:List (Ω×Obj)):Cx where
 prog:=X.prog
 w:=X.w
 K:=X.K
 mg:=X.mg
 base:=X.base
 A:=X.A
 N:=N'
 s₀:=s₀
 H₀:=H₀
 env:=compEnvC scope cl C X.env
 outer:=X.stack
 stack:=X.stack
 ex:=ex
 fn:=λx=>scope.names.lookup x==ζ NameKind.cell
 calm:=X.calm
 pn:=pn
 xe:=λ_ _=>False
structure cI (X:Cx) (N':List Str) (pick:List (Option Nat)) (scope:ads):Prop where
 kind:scope.kind=.function
 nd:N'.Nodup
 names:∀x∈scope.names,x.2=.local->scope.names.lookup x.1=ζ .local
 uniq:(scope.names.map (·.1)).Nodup
 len:pick.length=N'.length
 got:∀(i j:Nat) (x:Str),pick[i]? = ζ (ζ j)->N'[i]? = ζ x->scope.names.lookup x=ζ .free/\X.N[j]? = ζ x
 free:∀x∈scope.names,x.2=.free->X.env.kindOf x.1=ζ .cell\/X.env.kindOf x.1=ζ .free
def kP(pick:List (Option Nat)) (σ:St):St:=pick.map λo=>o.bind λj=>(σ[j]?).bind id
def uy(X:Cx) (ifs:List π) (t:TT):Prop :=
 ∀(pins:List (Ω×Obj)) (s:ε) (σ:St) (H:Hp) (Q:Bool->Hp->Prop),Inv X pins σ H s->t σ H Q ->
  wpAny (model X.prog X.w) X.A (forIn ifs Ξ λc r=>if r=Ξ then do let ok <-isTrue c X.env (eval c X.env);pure (ForInStep.yield ok)else pure (ForInStep.yield r)) (TP X pins σ Q) X.xe s
def RN:TT:=λ_ H Q=>Q Ξ H
theorem WI{X:Cx}:uy X [] RN:=λpins s σ H Q I h=>wpAny_tests_nil ⟨H,I,h⟩
theorem WH{X:Cx}{c:π}{t:TT}(h:PT X c t):uy X [c] t:=λpins s σ H Q I q=>wpAny_tests_one (h pins s σ H Q I q)
def Qw(J:It) (g:TG) (tt:TT) (te:TE) (Q:VK) (σ:St) (H:Hp):Prop:=∃W:Nat->Nat->St->List V->Hp->Prop,(∃m,W 0 m σ [] H) /\
  ∀i m σ' ys H,W i m σ' ys H->ys.length<ι /\
    ((J.stop i H/\∀p,H p=η->Q (.ref p) (upd H p (.lst ys))) \/
     (J.go i H/\∃N:St->List V->Hp->Prop,(∀σ2 zs H2,N σ2 zs H2->∃m',m'<m/\W (i+1) m' σ2 zs H2)/\∀x H',J.uC i H x H'->g x σ' H' λσ2 H2=>tt σ2 H2 λb H3 =>
        if b=Ξ then te σ2 H3 λy H4=>N σ2 (ys++[y]) H4 else N σ2 ys H3))
def IU(wi:TI) (pick:List (Option Nat)) (g:TG) (tt:TT) (te:TE):TE:=λσ H Q=>wi σ H λJ H1=>Qw J g tt te Q (kP pick σ) H1
def fQ(env:Env):List (Str×acB)->List (Str×Ω)->List (Str×Ω)
 |[],acc=>acc
 |(n,k)::r,acc=>fQ env r (if(k==NameKind.free)=Ξ then(n,(env.cells.lookup n).getD 0)::acc else acc)
theorem Hz{env:Env}:∀(names:List (Str×acB)) (acc:List (Str×Ω)),(∀x∈names,x.2=.free->∃c,env.cells.lookup x.1=ζ c) ->
  (forIn names acc fun(x:Str×acB) cs=>(if(x.2==NameKind.free)=Ξ then do let a <-cellOf env x.1;pure (ForInStep.yield ((x.1,a)::cs))else pure (ForInStep.yield cs):Sem (ForInStep (List (Str×Ω)))))=pure (fQ env names acc)
 |[],acc,_=>rfl
 |(n,k)::r,acc,h=>by
  rw[amF]
  by_cases hk:(k==NameKind.free)=Ξ
  ·obtain⟨c,hc⟩:=h (n,k) alC (by simpa using hk)
   have e1:cellOf env n=pure c:=by unfold cellOf;rw[show env.cells.lookup n=ζ c from hc]
   simp only[hk,if_true,e1,pure_bind];rw[Hz r _ λx hx=>h x (alu _ hx)]
   show _=pure (fQ env r (if(k==NameKind.free)=Ξ then _ else _))
   rw[if_pos hk,show env.cells.lookup n=ζ c from hc]
   rfl
  ·simp only[hk,aly,if_false,pure_bind];rw[Hz r _ λx hx=>h x (alu _ hx)]
   show _=pure (fQ env r (if(k==NameKind.free)=Ξ then _ else _))
   rw[if_neg hk]
theorem Pk{env:Env}{x:Str}{c:Ω}:∀(names:List (Str×acB)) (acc:List (Str×Ω)),(fQ env names acc).lookup x=ζ c ->
  ((x,NameKind.free)∈names/\c=(env.cells.lookup x).getD 0)\/acc.lookup x=ζ c
 |[],acc,h=>.inr h
 |(n,k)::r,acc,h=>by
  unfold fQ at h
  rcases Pk r _ h with⟨a,b⟩|q
  ·exact .inl ⟨alu _ a,b⟩
  ·by_cases hk:(k==NameKind.free)=Ξ
   ·rw[if_pos hk,alM]at q;cases hx:x==n with
    |true =>
     rw[hx]at q;have e1:x=n:=by simpa using hx
     have e2:k=.free:=by simpa using hk
     subst e1;subst e2;exact .inl ⟨alC,(alo q).symm⟩
    |false=>rw[hx]at q;exact .inr q
   ·rw[if_neg hk]at q;exact .inr q
theorem Pn{env:Env}{x:Str}:∀(names:List (Str×acB)) (acc:List (Str×Ω)),(acc.lookup x).isSome=Ξ\/(x,NameKind.free)∈names->((fQ env names acc).lookup x).isSome=Ξ
 |[],acc,h=>h.elim id λz=>by cases z
 |(n,k)::r,acc,h=>by
  unfold fQ;refine Pn r _ ?_
  by_cases hk:(k==NameKind.free)=Ξ
  ·rw[if_pos hk,alM];cases hx:x==n with
   |true=>exact .inl rfl
   |false =>
    refine h.imp id λz=>?_
    rcases akV.mp z with e|z
    ·exact absurd (show(x==n)=Ξ by cases e;simp) (by rw[hx];simp)
    ·exact z
  ·rw[if_neg hk];refine h.imp id λz=>?_
   rcases akV.mp z with e|z
   ·exact absurd (show(k==NameKind.free)=Ξ by cases e;rfl) hk
   ·exact z
theorem GA{x:Str}{c:Ω}:∀(names:List (Str×acB)) (n:Nat) (acc:List (Str×Ω)),(cellsFrom n names acc).lookup x=ζ c->(n<=c/\(x,NameKind.cell)∈names)\/acc.lookup x=ζ c
 |[],_,_,h=>.inr h
 |(y,k)::r,n,acc,h=>by
  unfold cellsFrom at h
  by_cases hk:(k==NameKind.cell)=Ξ
  ·rw[if_pos hk]at h
   rcases GA r _ _ h with⟨a,b⟩|q
   ·exact .inl ⟨als (al5 _) a,alu _ b⟩
   ·rw[alM]at q;cases hx:x==y with
    |true =>
     rw[hx]at q;have e1:x=y:=by simpa using hx
     have e2:k=.cell:=by simpa using hk
     subst e1;subst e2;exact .inl ⟨amn (alo q),alC⟩
    |false=>rw[hx]at q;exact .inr q
  ·rw[if_neg hk]at h
   rcases GA r _ _ h with⟨a,b⟩|q
   ·exact .inl ⟨a,alu _ b⟩
   ·exact .inr q
theorem Gz:∀(names:List (Str×acB)) (n:Nat) (acc:List (Str×Ω)),(∀x y c,acc.lookup x=ζ c->acc.lookup y=ζ c->x=y)->(∀x c,acc.lookup x=ζ c->c<n) ->
  ∀x y c,(cellsFrom n names acc).lookup x=ζ c->(cellsFrom n names acc).lookup y=ζ c->x=y
 |[],_,_,hi,_,x,y,c,h1,h2=>hi x y c h1 h2
 |(z,k)::r,n,acc,hi,hl,x,y,c,h1,h2=>by
  unfold cellsFrom at h1 h2
  by_cases hk:(k==NameKind.cell)=Ξ
  ·rw[if_pos hk]at h1 h2;refine Gz r (n+1) ((z,n)::acc) (λx y c e1 e2=>?_) (λx c e=>?_) x y c h1 h2
   ·rw[alM]at e1 e2;cases hx:x==z with
    |true =>
     rw[hx]at e1;cases hy:y==z with
     |true=>exact(by simpa using hx:x=z).trans (by simpa using hy:y=z).symm
     |false =>
      rw[hy]at e2;have e3:n=c:=alo e1;exact absurd (e3▸hl y c e2) (alE _)
    |false =>
     rw[hx]at e1;cases hy:y==z with
     |true =>
      rw[hy]at e2;have e3:n=c:=alo e2;exact absurd (e3▸hl x c e1) (alE _)
     |false=>rw[hy]at e2;exact hi x y c e1 e2
   ·rw[alM]at e;cases hx:x==z with
    |true=>rw[hx]at e;have e3:n=c:=alo e;exact e3▸al6 n
    |false=>rw[hx]at e;exact alT (hl x c e)
  ·rw[if_neg hk]at h1 h2;exact Gz r n acc hi hl x y c h1 h2
theorem GB{x:Str}{c:Ω}:∀(names:List (Str×acB)) (h:χ) (acc:List (Str×Ω)),(cellsFrom h.objs.size names acc).lookup x=ζ c->acc.lookup x=ζ c\/(h.objs.size<=c/\(pushCells h names).IsCell c η)
 |[],_,_,e=>.inl e
 |(y,k)::r,h,acc,e=>by
  unfold cellsFrom at e;unfold pushCells
  by_cases hk:(k==NameKind.cell)=Ξ
  ·rw[if_pos hk]at e ⊢;have e':=e;rw[show h.objs.size+1=(h.push {cls:=.type "cell",data:=.cell η}).objs.size from(alr ..).symm]at e'
   rcases GB r _ _ e' with q|⟨a,q⟩
   ·rw[alM]at q;cases hx:x==y with
    |true =>
     rw[hx]at q;have e3:h.objs.size=c:=alo q;subst e3;exact .inr ⟨akT _,_,aod _ _ _ _ (ak8 _ rfl),rfl⟩
    |false=>rw[hx]at q;exact .inl q
   ·refine .inr ⟨?_,q⟩;rw[alr]at a;omega
  ·rw[if_neg hk]at e ⊢;exact GB r h acc e
theorem Q8{M:Model}{A:ω}{E:Θ->ε->Prop}{s:ε}{scope:ads}{globals:Ω}{cl:List (Str×Ω)}{qual:Str}{env:Env}{Q:Env->ε->Prop}
  (hQ:∀h',(∀b o,s.heap.get? b=ζ o->h'.get? b=ζ o)->h'.Ns s.heap.objs.size (λ_=>η) ->
   (∀x c,(cellsFrom (s.heap.objs.size+1) scope.names cl).lookup x=ζ c->cl.lookup x=ζ c\/(s.heap.objs.size<c/\h'.IsCell c η)) ->
   Q {scope,locals:=s.heap.objs.size,globals,cells:=cellsFrom (s.heap.objs.size+1) scope.names cl,qual,func:=η,code:=env.code,frame:=env.frame,builtins:=env.builtins} {s with heap:=h'}) :
  wpAny M A (newFunctionEnv scope globals cl [] qual η .none (ζ env)) Q E s:=by
 simp only[newFunctionEnv,Option.isSome_some,if_true];refine akR (wpAny_alloc ?_);refine akR (wpAny_layCells _ (λname kind cells=>by cases hkc:kind==NameKind.cell<;>simp[hkc]) _ _ _ _ ?_)
 rw[show({s with heap:=s.heap.push {cls:=.type "dict",data:=.dict #[]} }:ε).heap.objs.size=s.heap.objs.size+1 from alr ..]
 refine akR (akS (akS ?_));refine hQ _ (λb o e=>aod _ _ b o (akU _ e)) ((Heap.Ns.new s.heap (.type "dict")).keeps (aod _ _)) λx c e=>?_
 have e':=e;rw[show s.heap.objs.size+1=(s.heap.push {cls:=.type "dict",data:=.dict #[]}).objs.size from(alr ..).symm]at e'
 rcases GB scope.names (s.heap.push {cls:=.type "dict",data:=.dict #[]}) cl e' with q|⟨a,q⟩
 ·exact .inl q
 ·refine .inr ⟨?_,q⟩;rw[alr]at a;omega
theorem yc{env:Env}{x:Str}{k':acB}:∀{names:List (Str×acB)},(names.map fun(n,k)=>if(k==NameKind.free&&env.scope.kind == .function&&env.kindOf n==ζ .cell)then(n,NameKind.cell)else(n,k)).lookup x=ζ k' ->
  ∃k,names.lookup x=ζ k/\(k'=k\/(k=.free/\k'=.cell))
 |[],h=>by cases h
 |(n,k)::r,h=>by
  rw[ak2]at h
  by_cases hc:(k==NameKind.free&&env.scope.kind == .function&&env.kindOf n==ζ .cell)=Ξ
  ·have e:(match((n,k):Str×acB)with|(n,k)=>if(k==NameKind.free&&env.scope.kind == .function&&env.kindOf n==ζ .cell)then(n,NameKind.cell)else(n,k))=(n,NameKind.cell):=if_pos hc
   rw[e,alM]at h;rw[alM];cases hx:x==n with
   |true =>
    rw[hx]at h;have hk:k=.free:=by
     simp only[ak9]at hc
     simpa using hc.1.1
    exact⟨k,rfl,.inr ⟨hk,(alo h).symm⟩⟩
   |false=>rw[hx]at h;exact yc h
  ·have e:(match((n,k):Str×acB)with|(n,k)=>if(k==NameKind.free&&env.scope.kind == .function&&env.kindOf n==ζ .cell)then(n,NameKind.cell)else(n,k))=(n,k):=if_neg hc
   rw[e,alM]at h;rw[alM];cases hx:x==n with
   |true=>rw[hx]at h;exact⟨k,rfl,.inl (alo h).symm⟩
   |false=>rw[hx]at h;exact yc h
theorem B5{env:Env}{x:Str}{k:acB}:∀{names:List (Str×acB)},names.lookup x=ζ k ->
  ∃k',(names.map fun(n,k)=>if(k==NameKind.free&&env.scope.kind == .function&&env.kindOf n==ζ .cell)then(n,NameKind.cell)else(n,k)).lookup x=ζ k'/\(k'=k\/(k=.free/\k'=.cell))
 |[],h=>by cases h
 |(n,j)::r,h=>by
  rw[ak2];rw[alM]at h
  by_cases hc:(j==NameKind.free&&env.scope.kind == .function&&env.kindOf n==ζ .cell)=Ξ
  ·have e:(match((n,j):Str×acB)with|(n,k)=>if(k==NameKind.free&&env.scope.kind == .function&&env.kindOf n==ζ .cell)then(n,NameKind.cell)else(n,k))=(n,NameKind.cell):=if_pos hc
   rw[e,alM];cases hx:x==n with
   |true =>
    rw[hx]at h;have hk:j=.free:=by
     simp only[ak9]at hc
     simpa using hc.1.1
    exact⟨.cell,rfl,.inr ⟨(alo h).symm.trans hk,rfl⟩⟩
   |false=>rw[hx]at h;exact B5 h
  ·have e:(match((n,j):Str×acB)with|(n,k)=>if(k==NameKind.free&&env.scope.kind == .function&&env.kindOf n==ζ .cell)then(n,NameKind.cell)else(n,k))=(n,j):=if_neg hc
   rw[e,alM];cases hx:x==n with
   |true=>rw[hx]at h;exact⟨j,rfl,.inl (alo h)⟩
   |false=>rw[hx]at h;exact B5 h
theorem CW{x:Str}{k:acB}:∀{names:List (Str×acB)},(names.map (·.1)).Nodup->(x,k)∈names->names.lookup x=ζ k
 |[],_,h=>by cases h
 |(n,j)::r,nd,h=>by
  have nd:(n::r.map (·.1)).Nodup:=nd;obtain⟨n1,n2⟩:=amu.mp nd;rw[alM]
  rcases akV.mp h with e|h2
  ·cases e;simp
  ·have hx:(x==n)=ξ:=by
    have:x≠n:=by
     intro e;exact n1 (akW.mpr ⟨(x,k),h2,e⟩)
    simpa using this
   rw[hx];exact CW n2 h2
theorem ahb{prog:τ}{w:ψ}{A:ω}{R:adY->ε->Prop}{s:ε}{elt target iter:π}{ifs:List π}{scope:ads}{pos:Pos}{it acc:Θ}{env:Env}(I:Nat->ε->Prop)
  (turn:∀n s,I n s->wpAny (model prog w) A (pyNext it) (λr s₁=>match r with
   |none=>R (.ok .next) s₁
   |some v=>wpAny (model prog w) A (letOwnedTupleGo target it v) (λ_ s₁'=>wpAny (model prog w) A (assign target env v) (λ_ s₂ =>
     wpAny (model prog w) A (forIn ifs Ξ λc r=>if r=Ξ then do let ok <-isTrue c env (eval c env);pure (ForInStep.yield ok)else pure (ForInStep.yield r)) (λok s₃ =>
      if ok=Ξ then wpAny (model prog w) A (eval elt env) (λx s₄ =>
       wpAny (model prog w) A (call (.builtin "list.append") [acc,x]) (λ_ s₅=>∃m,m<n/\I m s₅) (λ_ _=>False) s₄) (λ_ _=>False) s₃
      else ∃m,m<n/\I m s₃) (λ_ _=>False) s₂) (λ_ _=>False) s₁') (λ_ _=>False) s₁) (λ_ _=>False) s)
  (n:Nat) (h:I n s) :
  codeAny (model prog w) A (.compLoop (.ListComp elt [⟨target,iter,ifs,0⟩] scope pos) 0 it acc env) R s:=by
 refine codeAny_loop rfl I (λn s hI=>?_) n h
 show wpAny _ A ((compTurn (.ListComp elt [⟨target,iter,ifs,0⟩] scope pos) 0 it acc env).onRaise (λx=>do noteFrame x env;theTreesLotGoes x)) _ _ s
 refine wpAny_noted ?_;rw[compTurn_list];refine akR (wpAny_standAt (akR (alq (turn n s hI) (λr s₁ h₁=>?_) λ_ _ h'=>h'.elim)))
 cases r with
 |none=>exact akS h₁
 |some v =>
  refine akR (alq h₁ (λ_ s₁' h₁'=>?_) λ_ _ h'=>h'.elim)
  refine akR (alq h₁' (λ_ s₂ h₂=>akR (alq h₂ (λok s₃ h₃=>?_) λ_ _ h'=>h'.elim)) λ_ _ h'=>h'.elim)
  cases ok with
  |false=>exact akS ⟨rfl,h₃⟩
  |true =>
   exact akR (akR (alq h₃ (λx s₄ h₄=>akR (alq h₄ (λ_ s₅ h₅=>akS (akS ⟨rfl,h₅⟩)) λ_ _ h'=>h'.elim)) λ_ _ h'=>h'.elim))
section
variable {X:Cx}{N':List Str}{pick:List (Option Nat)}{scope:ads}{pins:List (Ω×Obj)}{σ:St}{H₂:Hp}{s₂:ε}{tg:π}{J:It}{fp:List Ω}{it:Ω}{tn:Nat->χ->Prop}
theorem ahe(S:cI X N' pick scope) (I:Inv X pins σ H₂ s₂):closureFor scope X.env=pure (fQ X.env scope.names []):=by
 have e:=Hz (env:=X.env) scope.names [] λx hx hk=>I.ok.has x.1 (S.free x hx hk)
 show((forIn scope.names ([]:List (Str×Ω)) fun(x:Str×acB) cs=>(if(x.2==NameKind.free)=Ξ then do let a <-cellOf X.env x.1;pure (ForInStep.yield ((x.1,a)::cs))else pure (ForInStep.yield cs):Sem (ForInStep (List (Str×Ω))))) >>= λcs=>pure cs)=_
 rw[e,pure_bind]
theorem wG(S:cI X N' pick scope) (I:Inv X pins σ H₂ s₂) {x:Str}{c:Ω}(h:(fQ X.env scope.names []).lookup x=ζ c):(x,NameKind.free)∈scope.names/\X.env.cells.lookup x=ζ c:=by
 rcases Pk _ _ h with⟨a,b⟩|q
 ·refine⟨a,?_⟩;obtain⟨c',hc⟩:=I.ok.has x (S.free _ a rfl);rw[hc]at b ⊢;rw[b];rfl
 ·cases q
theorem wC(S:cI X N' pick scope) (I:Inv X pins σ H₂ s₂) {n:Nat}{x:Str}{c:Ω}(h:(cellsFrom n scope.names (fQ X.env scope.names [])).lookup x=ζ c) :
  (n<=c/\scope.names.lookup x=ζ .cell)\/(scope.names.lookup x=ζ .free/\X.env.cells.lookup x=ζ c):=by
 rcases GA _ _ _ h with⟨a,b⟩|q
 ·exact .inl ⟨a,CW S.uniq b⟩
 ·obtain⟨a,b⟩:=wG S I q;exact .inr ⟨CW S.uniq a,b⟩
theorem N5(S:cI X N' pick scope) (I:Inv X pins σ H₂ s₂) {n:Nat}{x:Str}{c:Ω}(hx:scope.names.lookup x=ζ .free) (hc:X.env.cells.lookup x=ζ c) :
  (cellsFrom n scope.names (fQ X.env scope.names [])).lookup x=ζ c:=by
 have h1:((fQ X.env scope.names []).lookup x).isSome=Ξ:=Pn _ _ (.inr (ami hx));obtain⟨c',h2⟩:=anZ.mp (amW scope.names n _ (.inr h1))
 rcases wC S I h2 with⟨_,z⟩|⟨_,z⟩
 ·rw[hx]at z;cases z
 ·rw[hc]at z;cases z;exact h2
theorem aeF(I:Inv X pins σ H₂ s₂) {b:Ω}(hb:b∈frs X.stack):b<s₂.heap.objs.size:=by
 rcases akV.mp (I.oW b hb)with e|hb
 ·rw[e];exact I.lt
 ·by_cases q:b<s₂.heap.objs.size
  ·exact q
  ·exact absurd hb (I.CB (Nat.not_lt.mp q))
theorem ag5(S:cI X N' pick scope) (I:Inv X pins σ H₂ s₂) (hf:∀b∈fp,gD X pins H₂ b) (hfo:∀b∈fp,b<s₂.heap.objs.size) {n:Nat}{C:Ω}{s₄:ε}(hn:s₂.heap.objs.size<=n) (hC:s₂.heap.objs.size<=C) (hCn:C<n)
  (hos:s₄.os=s₂.os) (hge:s₄.gens=s₂.gens) (kp:∀b o,s₂.heap.get? b=ζ o->s₄.heap.get? b=ζ o) (ns:s₄.heap.Ns C λ_=>η)
  (ce:∀x c,(cellsFrom n scope.names (fQ X.env scope.names [])).lookup x=ζ c->(fQ X.env scope.names []).lookup x=ζ c\/(n<=c/\s₄.heap.IsCell c η)) :
  Inv (iC X N' scope (cellsFrom n scope.names (fQ X.env scope.names [])) C s₂ H₂ fp (X.pn++pins)) [] (kP pick σ) H₂ s₄:=by
 have fr:∀{a:Ω},s₂.heap.objs.size<=a->H₂ a=η:=λh=>I.hok.fresh h
 have old:∀{x:Str}{c:Ω},X.env.cells.lookup x=ζ c->c<s₂.heap.objs.size:=fun{x c} e=>let⟨v,z⟩:=I.cell x c e;z.lt
 have VW:∀p∈X.pn++pins,p.1<s₂.heap.objs.size:=λp hp=>akX (I.pin p hp).1
 refine⟨⟨I.ok.mod,S.kind,I.ok.glob,I.ok.blt,hC,?inj,?has,?jR,I.ok.hd,I.ok.frames,.inl rfl,?lG,I.bs,als I.ok.gZ I.sz,?iL,?kB,I.stack,I.BK⟩,
  hos,by rw[hge];exact I.bare,Un.kept kp,⟨_,ns,?loc⟩,?cell,fr hC,?gf,?pin,I.hok.kept kp,?len⟩
 case inj =>
  refine Gz _ _ _ (λx y c h1 h2=>?_) λx c h=>?_
  ·exact I.ok.inj x y c (wG S I h1).2 (wG S I h2).2
  ·exact alc (old (wG S I h).2) hn
 case has =>
  intro x hx;have hx:(relabel scope X.env).names.lookup x=ζ .cell\/(relabel scope X.env).names.lookup x=ζ .free:=hx;have go:∀k,scope.names.lookup x=ζ k->k=.cell\/k=.free->∃c,(cellsFrom n scope.names (fQ X.env scope.names [])).lookup x=ζ c:=λk hk hq=>by
   rcases hq with rfl|rfl
   ·exact anZ.mp (amW _ _ _ (.inl hk))
   ·obtain⟨c,hc⟩:=I.ok.has x (S.free _ (ami hk) rfl);exact⟨c,N5 S I hk hc⟩
  rcases hx with hx|hx
  ·obtain⟨k,hk,e|⟨e,_⟩⟩:=yc hx
   ·exact go k hk (.inl e.symm)
   ·exact go k hk (.inr e)
  ·obtain⟨k,hk,e|⟨_,e⟩⟩:=yc hx
   ·exact go k hk (.inr e.symm)
   ·cases e
 case jR =>
  intro x c hx hc;have hx:scope.names.lookup x=ζ .cell:=by simpa[iC]using hx
  rcases wC S I hc with⟨a,_⟩|⟨a,_⟩
  ·exact als hn a
  ·rw[hx]at a;cases a
 case lG =>
  intro b hb;refine⟨ak3 (alc (hfo b hb) hC),λx c hc=>?_⟩
  rcases wC S I hc with⟨a,_⟩|⟨_,a⟩
  ·exact alF (alc (hfo b hb) (als hn a))
  ·exact(hf b hb).2.2.2.2.1 x c a
 case iL =>
  intro b o e hb
  rcases(hf b hb).2.2.2.1 with z|z
  ·exact I.ok.iL b o e z
  ·exact absurd (alc (akX e) (als I.ok.gZ z)) (alE _)
 case kB =>
  intro b hb hs
  rcases akV.mp (I.oW b hs)with e|e
  ·exact(hf b hb).2.1 e
  ·exact(hf b hb).2.2.1 e
 case loc =>
  intro i x v h1 h2 h3;have h1:N'[i]? = ζ x:=h1;have hp:∃j,pick[i]? = ζ (ζ j)/\σ[j]? = ζ (ζ v):=by
   unfold kP at h2;rw[alk]at h2;cases e:pick[i]? with
   |none=>rw[e]at h2;cases h2
   |some o =>
    rw[e]at h2;cases o with
    |none=>cases h2
    |some j =>
     refine⟨j,rfl,?_⟩;have h2':(σ[j]?).bind id=ζ v:=alo h2;cases e2:σ[j]? with
     |none=>rw[e2]at h2';cases h2'
     |some q=>rw[e2]at h2';exact congrArg ζ h2'
  obtain⟨j,hj,hv⟩:=hp;obtain⟨hfr,hN⟩:=S.got i j x hj h1;have hk:=S.free _ (ami hfr) rfl;obtain⟨m,hm,hl⟩:=I.loc;obtain⟨u,ru,lk⟩:=hl j x v hN hv (.inr hk);refine⟨u,ru,?_⟩
  rcases lk with⟨z,_⟩|⟨_,c,hc,hcell⟩
  ·rcases hk with q|q<;>(rw[show X.env.kindOf x=_ from z]at q;cases q)
  ·refine .inr ⟨?_,c,N5 S I hfr hc,hcell.keeps kp⟩;show(relabel scope X.env).names.lookup x=ζ .cell\/(relabel scope X.env).names.lookup x=ζ .free;obtain⟨k',hk',e|⟨_,e⟩⟩:=B5 (env:=X.env) hfr
   ·exact .inr (by rw[<-e];exact hk')
   ·exact .inl (by rw[<-e];exact hk')
 case cell =>
  intro x c hc
  rcases ce x c hc with z|⟨_,z⟩
  ·obtain⟨v,q⟩:=I.cell x c (wG S I z).2;exact⟨v,q.keeps kp⟩
  ·exact⟨η,z⟩
 case gf =>
  intro x c hc
  rcases wC S I hc with⟨a,_⟩|⟨_,a⟩
  ·exact fr (als hn a)
  ·exact I.gf x c a
 case pin =>
  intro p hp;have hp:p∈X.pn++pins:=by simpa[iC]using hp
  obtain⟨e,n0,ne,nf,d⟩:=I.pin p hp;refine⟨kp _ _ e,n0,ak3 (alc (VW p hp) hC),λz=>?_,d⟩
  rcases akV.mp (I.oW _ z)with e|e
  ·exact ne e
  ·exact nf e
 case len =>
  unfold kP;rw[ak6];exact S.len
end
section
variable {X:Cx}{N':List Str}{pick:List (Option Nat)}{scope:ads}{pins:List (Ω×Obj)}{σ:St}{H₂:Hp}{s₂:ε}{tg:π}{J:It}{fp:List Ω}{it:Ω}{tn:Nat->χ->Prop}
 {elt iter:π}{ifs:List π}{pos:Pos}{g:TG}{tt:TT}{te:TE}
theorem ag8{E:Θ->ε->Prop}{RR:Θ->Ω->adY->ε->Prop}{Qv:V->Hp->Prop}(S:cI X N' pick scope) (hc:X.calm=Ξ) (iZ:Inv X pins σ H₂ s₂) (T:Turn X.prog X.w X.K tg J fp it tn) (st:tn 0 s₂.heap) (hf:∀b∈fp,gD X pins H₂ b)
    (hg:∀cl C s₀ H₀ ex pn,PG (iC X N' scope cl C s₀ H₀ ex pn) tg g) (hi:∀cl C s₀ H₀ ex pn,uy (iC X N' scope cl C s₀ H₀ ex pn) ifs tt) (he:∀cl C s₀ H₀ ex pn,PE (iC X N' scope cl C s₀ H₀ ex pn) elt te)
    {W:Nat->Nat->St->List V->Hp->Prop}{m0:Nat}(h0:W 0 m0 (kP pick σ) [] H₂)
    (turn:∀i m σ' ys H,W i m σ' ys H->ys.length<ι /\
      ((J.stop i H/\∀p,H p=η->Qv (.ref p) (upd H p (.lst ys))) \/
       (J.go i H/\∃N:St->List V->Hp->Prop,(∀σ2 zs H2,N σ2 zs H2->∃m',m'<m/\W (i+1) m' σ2 zs H2)/\∀x H',J.uC i H x H'->g x σ' H' λσ2 H2=>tt σ2 H2 λb H3 =>
          if b=Ξ then te σ2 H3 λy H4=>N σ2 (ys++[y]) H4 else N σ2 ys H3)))
    (fin:∀(D C:Ω) (H':Hp) (s':ε) (m:Str->Option Θ),Inv X pins σ H' s'->gD X pins H' C->s'.heap.Ns C m->Qv (.ref D) H'->RR (.ref D) C (.ok .next) s') :
    wpAny (model X.prog X.w) X.A (newList []) (λacc s₃=>wpAny (model X.prog X.w) X.A (newFunctionEnv scope X.env.globals (fQ X.env scope.names []) [] X.env.qual η .none (ζ X.env)) (λcenv s₄ =>
      codeAny (model X.prog X.w) X.A (.compStart (.ListComp elt [⟨tg,iter,ifs,0⟩] scope pos) 0 (.ref it) acc {cenv with scope:=relabel scope X.env}) (RR acc cenv.locals) s₄) E s₃) E s₂:=by
  have hfo:∀b∈fp,b<s₂.heap.objs.size:=λb hb=>let⟨o,e,_⟩:=T.obj 0 _ st b hb;akX e
  refine al4 (Q8 λh₄ kp ns ce=>?_)
  generalize ER:s₂.heap.push {cls:=.type "list",dict:=η,data:=.seq ([]:List Θ).toArray}=H3 at kp ns ce ⊢
  have hC:H3.objs.size=s₂.heap.objs.size+1:=by rw[<-ER,alr]
  have vH:∀b o,s₂.heap.get? b=ζ o->h₄.get? b=ζ o:=λb o e=>kp b o (ER▸akU _ e)
  have hD:h₄.get? s₂.heap.objs.size=ζ {cls:=.type "list",data:=.seq ([]:List Θ).toArray}:=kp _ _ (ER▸ak8 _ rfl);have nY:s₂.heap.objs.size<=H3.objs.size:=by rw[hC];exact al5 _
  have hDC:s₂.heap.objs.size≠H3.objs.size:=by rw[hC];exact ak3 (al6 _)
  generalize hcl:cellsFrom (H3.objs.size+1) scope.names (fQ X.env scope.names [])=cl at ce
  have HM:Inv (iC X N' scope cl H3.objs.size s₂ H₂ fp (X.pn++pins)) [] (kP pick σ) H₂ {s₂ with heap:=h₄}:=by
    subst hcl;exact ag5 S iZ hf hfo (n:=H3.objs.size+1) (als nY (al5 _)) nY (al6 _) rfl rfl vH ns λx c e=>ce x c e
  have adX:∀x c,cl.lookup x=ζ c->c≠s₂.heap.objs.size:=λx c e=>by
    subst hcl
    rcases wC S iZ e with⟨a,_⟩|⟨_,a⟩
    · refine alF (alc ?_ a)
      rw[hC];exact alT (al6 _)
    · obtain⟨v,z⟩:=iZ.cell x c a
      exact ak3 z.lt
  have adW:∀x c,X.env.cells.lookup x=ζ c->c≠H3.objs.size:=λx c e=>by
    obtain⟨v,z⟩:=iZ.cell x c e;exact ak3 (alc z.lt nY)
  generalize gA:iC X N' scope cl H3.objs.size s₂ H₂ fp (X.pn++pins)=X' at HM
  have xu:X'.prog=X.prog:=by subst gA;rfl
  have xw:X'.w=X.w:=by subst gA;rfl
  have xK:X'.K=X.K:=by subst gA;rfl
  have xA:X'.A=X.A:=by subst gA;rfl
  have Ij:X'.calm=Ξ:=by subst gA;exact hc
  have xx:X'.env.locals=H3.objs.size:=by subst gA;rfl
  have QL:X'.env.cells=cl:=by subst gA;rfl
  have QJ:X'.env=compEnvC scope cl H3.objs.size X.env:=by subst gA;rfl
  have Bv:X'.fs=frs X.stack:=by subst gA;rfl
  have Bw:X'.ex=fp:=by subst gA;rfl
  have Bu:X'.s₀=s₂:=by subst gA;rfl
  have Ia:X'.pn=X.pn++pins:=by subst gA;rfl
  have QG:X'.xe=λ_ _=>False:=by subst gA;rfl
  have Q7:X'.H₀=H₂:=by subst gA;rfl
  have hg':PG X' tg g:=by subst gA;exact hg _ _ _ _ _ _
  have hi':uy X' ifs tt:=by subst gA;exact hi _ _ _ _ _ _
  have he':PE X' elt te:=by subst gA;exact he _ _ _ _ _ _
  have oX:∀{H':Hp}{pl:List (Ω×Obj)},(∀b∈fp,H' b=η)->(∀p∈pl,s₂.heap.objs.size<=p.1)->∀b∈fp,gD X' pl H' b:=fun{H' pl} hn hp b hb=>by
    have hlt:=hfo b hb;obtain⟨_,f1,f2,f3,f4,f5⟩:=hf b hb;refine⟨hn b hb,by rw[xx];exact ak3 (alc hlt nY),?_,.inl (by rw[Bw];exact hb),λx c e=>?_,λp eO=>?_⟩
    · rw[Bv]
      intro z
      rcases akV.mp (iZ.oW b z)with e|e
      · exact f1 e
      · exact f2 e
    · have:=HM.ok.lG b (by rw[Bw];exact hb)
      exact this.2 x c e
    · rcases alj.mp eO with z|z
      · rw[Ia]at z;exact f5 p z
      · exact alF (alc hlt (hp p z))
  have JW:∀{H':Hp}{s':ε}{σ':St}{o:Obj},Inv X' [] σ' H' s'->s'.heap.get? s₂.heap.objs.size=ζ o->H' s₂.heap.objs.size=η->(∀v,o.data≠.cell v)->Inv X' [(s₂.heap.objs.size,o)] σ' H' s':=fun{H' s' σ' o} I e hn hnc =>
    I.yj λp hp=>by
      obtain rfl:p=(s₂.heap.objs.size,o):=by simpa using hp
      refine⟨e,hn,by rw[xx];exact hDC,?_,hnc⟩
      rw[Bv];intro z;exact absurd (aeF iZ z) (alE _)
  have A7:H₂ s₂.heap.objs.size=η:=iZ.hok.fresh (akT _)
  let Iv:Nat->ε->Prop:=λn s'=>∃(i:Nat) (σ':St) (ys:List V) (H':Hp) (its:List Θ) (k:Nat),Inv X' [(s₂.heap.objs.size,{cls:=.type "list",data:=.seq its.toArray k})] σ' H' s'/\Vals ys its/\tn i s'.heap/\(∀b∈fp,H' b=η)/\W i n σ' ys H'
  have loop:codeAny (model X.prog X.w) X.A (.compLoop (.ListComp elt [⟨tg,iter,ifs,0⟩] scope pos) 0 (.ref it) (.ref s₂.heap.objs.size) X'.env) (RR (.ref s₂.heap.objs.size) H3.objs.size) {s₂ with heap:=h₄}:=by
    refine ahb Iv ?_ m0 ⟨0,_,[],H₂,[],_,JW HM hD A7 (λv q=>nomatch q),.nil,T.keep _ _ _ st λb _ o e=>vH b o e,λb hb=>(hf b hb).1,h0⟩
    rintro n s5 ⟨i,xj,ys,H5,its,k,I5,rv,oY,zO,w5⟩
    obtain⟨hlen,tr⟩:=turn i n xj ys H5 w5;have p5:∀{o:Obj},∀p∈[(s₂.heap.objs.size,o)],s₂.heap.objs.size<=p.1:=fun{o} p hp=>by
      obtain rfl:p=(s₂.heap.objs.size,o):=by simpa using hp
      exact akT _
    rw[<-xA]
    rcases tr with⟨stop,qf⟩|⟨go,N,hN,step⟩
    · have dn:=T.done X' xu xw xK Ij i _ s5 xj H5 (λ_ _=>False) I5 (oX zO p5) oY stop
      rw[xA]at dn ⊢;refine alq dn (λr s6 h6=>?_) λ_ _ z=>z
      obtain⟨rfl,I6⟩:=h6;show RR (.ref s₂.heap.objs.size) H3.objs.size (.ok .next) s6;obtain⟨eD,nD,_⟩:=I6.pin _ (alQ _ alC);have oU:Un (frs X.stack) fp H₂ H5 s₂.heap s6.heap:=by
        have:=I6.base;rw[Bv,Bw,Bu,Q7]at this;exact this
      have lt:∀{b:Ω}{o:Obj},s₂.heap.get? b=ζ o->b≠s₂.heap.objs.size:=λe=>ak3 (akX e)
      have Rq:Un (frs X.stack) fp H₂ (upd H5 s₂.heap.objs.size (.lst ys)) s₂.heap s6.heap :=
        ⟨oU.keep,oU.slot,λb o e n hx=>by rw[bZ (lt e)];exact oU.free b o e n hx,oU.there,λb xs e=>by rw[bZ (d7 e A7)];exact oU.tups b xs e,
          λb o u e=>by rw[bZ (d7 e A7)];exact oU.gX b o u e,λb ps e=>by rw[bZ (d7 e A7)];exact oU.gT b ps e⟩
      have adA:cT X.prog X.w (upd H5 s₂.heap.objs.size (.lst ys)) s6.heap:=λb u e=>by
        by_cases hb:b=s₂.heap.objs.size
        · subst hb
          rw[fS]at e;cases e;exact⟨amr hlen,its,k,rv,eD⟩
        · rw[bZ hb]at e
          have:=I6.hok b u e;rw[xu,xw]at this;exact this.stay (λ_ _ _ q=>q) (λc q=>by rw[bZ (d7 q nD)];exact q) λc xs q=>by rw[bZ (d7 q nD)];exact q
      have I7:Inv X pins σ (upd H5 s₂.heap.objs.size (.lst ys)) s6:=by
        refine iZ.ahH (ch:=fp) ?_ Rq adA I6.bare λb hb=>?_
        · have:=I6.os;rw[Bu]at this;exact this
        · obtain⟨_,f1,f2,f3,f4,f5⟩:=hf b hb
          exact⟨f3,f1,f4,f5⟩
      obtain⟨m6,n6,_⟩:=I6.loc;rw[xx]at n6;have hC6:H5 H3.objs.size=η:=by have:=I6.free;rw[xx]at this;exact this
      refine fin _ _ _ s6 m6 I7 ⟨by rw[bZ (alP hDC)];exact hC6,?_,?_,.inr (als iZ.sz nY),adW,λp hp=>?_⟩ n6 (qf _ nD)
      · exact alF (alc iZ.lt nY)
      · intro z
        exact absurd z (iZ.CB nY)
      · exact ak3 (alc (akX (iZ.pin p hp).1) nY)
    · have itm:=T.item X' xu xw xK Ij i _ s5 xj H5 (λ_ _=>False) I5 (oX zO p5) oY go
      refine alq itm (λr s6 h6=>?_) λ_ _ z=>z
      obtain⟨u,rfl,h6⟩:=h6;refine alq h6 (λ_ s7 h7=>?_) λ_ _ z=>z
      obtain⟨x,H7,I7,rx,y7,BL,fr7⟩:=h7;have I7':=I7.pinned (oX fr7 p5) (T.obj _ _ BL);have mp:∀{α:Type}{t:Sem α}{Q:α->ε->Prop}{s:ε},wpAny (model X'.prog X'.w) X'.A t Q X'.xe s->wpAny (model X.prog X.w) X'.A t Q (λ_ _=>False) s:=fun{α t Q s} h=>by
        rw[xu,xw,QG]at h;exact h
      refine alq (mp (hg' _ s7 xj H7 x u _ I7' rx (step x H7 y7))) (λ_ s8 h8=>?_) λ_ _ z=>z
      obtain⟨uB,H8,I8,q8⟩:=h8;refine alq (mp (hi' _ s8 uB H8 _ I8 q8)) (λok s9 h9=>?_) λ_ _ z=>z
      obtain⟨H9,I9,q9⟩:=h9;have LJ:∀{σ':St}{H':Hp}{s':ε},Inv X' ([(s₂.heap.objs.size,{cls:=.type "list",data:=.seq its.toArray k})]++u0 fp s7.heap) σ' H' s'->tn (i+1) s'.heap/\∀b∈fp,H' b=η:=fun{σ' H' s'} I=>by
        refine⟨T.keep _ _ _ BL λb hb o e=>(I.pin (b,o) (alQ _ (alQ _ (zc hb e)))).1,λb hb=>?_⟩
        obtain⟨o,e,d⟩:=T.obj _ _ BL b hb;exact(I.pin (b,o) (alQ _ (alQ _ (zc hb e)))).2.1
      cases ok with
      | false =>
        rw[if_neg alf]at q9 ⊢;obtain⟨m',hm,w9⟩:=hN _ _ _ q9;obtain⟨t9,f9⟩:=LJ I9;exact⟨m',hm,i+1,uB,ys,H9,its,k,I9.uG,rv,t9,f9,w9⟩
      | true =>
        rw[if_pos rfl]at q9 ⊢;refine alq (mp (he' _ s9 uB H9 _ I9 q9)) (λv uS h10=>?_) λ_ _ z=>z
        obtain⟨y,Pz,Py,ry,se⟩:=h10;obtain⟨m',hm,nh⟩:=hN _ _ _ se;obtain⟨Sf,AB⟩:=LJ Py;have Px:=Py.uG;obtain⟨eD,nD,fX,nfD,dD⟩:=Px.pin _ (alQ _ alC);have hl:=rv.length;refine amm F.slot_list_append ⟨_,eD,rfl⟩ F.entry_list_append (F.args_list_append_2 _ _) (apa s₂.heap.objs.size its.toArray k v (by rw[ak1];omega)) ⟨eD,?_⟩
        have q:=ao9 eD (·.push v);have I11:Inv X' [] uB Pz {uS with heap:=uS.heap.update s₂.heap.objs.size (Obj.mapSeq (·.push v))}:=by
          refine(Px.yj (rP:=[]) λp hp=>by cases hp).turned (t':=uS.toks) (it:=s₂.heap.objs.size) (λb o hb e=>(alS uS.heap (Obj.mapSeq (·.push v)) (alP hb)).trans e) nD fX (.inr (by rw[Bu];exact akT _)) (λx c hc=>adX x c (by rw[<-QL];exact hc)) λp hp=>?_
          have hp:p∈X.pn++pins:=by rw[amb,Ia]at hp;exact hp
          exact ak3 (akX (iZ.pin p hp).1)
        rw[show its.toArray.push v=(its++[v]).toArray by simp]at q
        refine⟨m',hm,i+1,uB,ys++[y],Pz,its++[v],_,JW I11 q nD (λv q=>nomatch q),rv.append (.cons ry .nil),?_,AB,nh⟩
        refine T.keep _ _ _ Sf λb hb o e=>(alS uS.heap (Obj.mapSeq (·.push v)) ?_).trans e
        exact alF (hfo b hb)
  have e4:({scope:=relabel scope X.env,locals:=H3.objs.size,globals:=X.env.globals,cells:=cl,qual:=X.env.qual,func:=η,code:=X.env.code,frame:=X.env.frame,builtins:=X.env.builtins}:Env)=X'.env:=by rw[QJ];rfl
  have Je:tn 0 h₄:=T.keep _ _ _ st λb _ o e=>vH b o e
  have goal:codeAny (model X.prog X.w) X.A (.compStart (.ListComp elt [⟨tg,iter,ifs,0⟩] scope pos) 0 (.ref it) (.ref s₂.heap.objs.size) X'.env) (RR (.ref s₂.heap.objs.size) H3.objs.size) {s₂ with heap:=h₄} :=
    codeAny_compStart_list loop (T.self _ 0 _ _ _ Je loop)
  rw[<-e4]at goal;exact goal
theorem Inv.gone{H':Hp}{s':ε}{h':χ}{C:Ω}(I:Inv X pins σ H' s') (f:gD X pins H' C) (hs:adi C s'.heap h'):Inv X pins σ H' {s' with heap:=h'}:=by
 obtain⟨f0,f1,f2,f3,f4,f5⟩:=f;exact I.turned (t':=s'.toks) (λb o hb e=>(hs.2 b hb).trans e) f0 f1 f3 f4 f5
theorem Xj{wi:TI}(S:cI X N' pick scope) (hc:X.calm=Ξ) (hit:PI X tg iter wi)
  (hg:∀cl C s₀ H₀ ex pn,PG (iC X N' scope cl C s₀ H₀ ex pn) tg g) (hi:∀cl C s₀ H₀ ex pn,uy (iC X N' scope cl C s₀ H₀ ex pn) ifs tt) (he:∀cl C s₀ H₀ ex pn,PE (iC X N' scope cl C s₀ H₀ ex pn) elt te)
  (hs:∀x,foldedSetIterable iter X.env x=pure x:=by intro _;rfl) :
  PE X (.ListComp elt [⟨tg,iter,ifs,0⟩] scope pos) (IU wi pick g tt te):=by
 intro pins s σ H Q I h;rw[eval_ListComp];refine wpAny_comprehension_free (use:=η) rfl hs (ahe S I) S.kind S.names (bz (hit pins s σ H _ I h) λv s1 h1=>bz h1 λitv s2 h2=>?_)
 obtain⟨it,fp,tn,J,H2,rfl,I2,T,st2,f2,W,⟨m0,w0⟩,turn⟩:=h2;refine ag8 (RR:=λacc C=>compPost (model X.prog X.w) X.A X.xe η (EP X pins σ Q) acc C) (Qv:=Q) S hc I2 T st2 f2 hg hi he w0 turn ?_
 intro D C H' s' m I' f' n' q';exact⟨m,n',λh' hs'=>⟨.ref D,H',I'.gone f' hs',rfl,q'⟩⟩
end
def NV(XN:List Str) (xn:List (Str×acB)) (N':List Str) (pick:List (Option Nat)) (names:List (Str×acB)):Bool :=
 decide N'.Nodup&&names.all (λx=>decide (names.lookup x.1=ζ x.2))&&decide ((names.map (·.1)).Nodup)&&(pick.length==N'.length) &&
 (pick.zip N').all (λq=>match q.1 with|none=>Ξ|some j=>decide (names.lookup q.2=ζ NameKind.free)&&decide (XN[j]? = ζ q.2)) &&
 names.all (λx=>decide (x.2≠NameKind.free)||(decide (xn.lookup x.1=ζ NameKind.cell)||decide (xn.lookup x.1=ζ NameKind.free)))
theorem cI.of{X:Cx}{N':List Str}{pick:List (Option Nat)}{scope:ads}(hk:scope.kind=.function) (h:NV X.N X.env.scope.names N' pick scope.names=Ξ):cI X N' pick scope:=by
 unfold NV at h;simp only[ak9,ak0,decide_eq_true_eq,beq_iff_eq,am0]at h;obtain⟨⟨⟨⟨⟨h1,h2⟩,h3⟩,h4⟩,h5⟩,h6⟩:=h;refine⟨hk,h1,λx hx e=>by rw[<-e];exact h2 x hx,h3,h4,λi j x hp hN=>?_,λx hx e=>?_⟩
 ·have hm:(ζ j,x)∈pick.zip N':=by
   have:(pick.zip N')[i]? = ζ (ζ j,x):=by rw[apc];exact⟨hp,hN⟩
   exact alv this
  exact h5 _ hm |> λz=>by simpa using z
 ·rcases h6 x hx with z|z|z
  ·exact absurd e z
  ·exact .inl z
  ·exact .inr z
end L2
namespace PySem
open Sem (wp)
section
variable {prog:τ}{w:ψ}{A:ω}{E:Θ->ε->Prop}{s:ε}
theorem aai{it l:Ω}{i:Nat}{items:Array Θ}{x:Θ}{Q:Θ->ε->Prop}(hit:s.heap.IsTupleIter it l i)
  (hl:s.heap.IsTuple l items) (hx:items[i]? = ζ x)
  (hQ:∀h',h'.IsTupleIter it l (i+1)->adi it s.heap h'->Q x {s with heap:=h'}) :
  wpAny (model prog w) A (Builtin.SmallTypes.nextOf (.ref it)) Q E s:=by
 obtain⟨o,ho,hc,hd⟩:=id hit;obtain⟨ol,iS,_,nl,hdl⟩:=hl;unfold Builtin.SmallTypes.nextOf;refine akR (amj (name:=Str.ofString "__next__") hit.typeIs ans
  (alR ans hit.typeIs apd ?_ (ape _)))
 show wpAny _ _ (field (.ref it) 0 >>= _) _ _ s;refine akR (alG ho hd (x:=.ref l) rfl ?_);show wpAny _ _ (if(Value.ref l==Value.none)=Ξ then _ else _) _ _ s
 rw[if_neg (show ¬((Value.ref l==Value.none)=Ξ)from alf)]
 show wpAny _ _ (field (.ref it) 1 >>= _) _ _ s;refine akR (alG ho hd (x:=.int i 0) rfl ?_);show wpAny _ _ (seqItems? (.ref l) >>= _) _ _ s;refine akR (al7 iS hdl ?_);simp only[anq,hx];refine akR (am1 ho hd (by simp) (akS ⟨x,rfl,akS (hQ _ ?_ (ame ..))⟩))
 exact⟨_,amY _ ho (aoe (amG hd _)),(aof ..).trans hc,by
  rw[amG hd];simp[rawInt]⟩
theorem aaj{it l:Ω}{i:Nat}{items:Array Θ}{Q:Θ->ε->Prop}(hh:A.handled=η)
  (hit:s.heap.IsTupleIter it l i) (hl:s.heap.IsTuple l items) (hx:items[i]? = η)
  (hE:∀h' e,Heap.ExtBut it s.heap h'->(∃o,h'.get? e=ζ o/\o.cls=.type "StopIteration")->E (.ref e) {s with heap:=h'}) :
  wpAny (model prog w) A (Builtin.SmallTypes.nextOf (.ref it)) Q E s:=by
 obtain⟨o,ho,hc,hd⟩:=id hit;obtain⟨ol,iS,_,nl,hdl⟩:=hl;unfold Builtin.SmallTypes.nextOf;refine akR (amj (name:=Str.ofString "__next__") hit.typeIs ans
  (alR ans hit.typeIs apd ?_ (ape _)))
 show wpAny _ _ (field (.ref it) 0 >>= _) _ _ s;refine akR (alG ho hd (x:=.ref l) rfl ?_);show wpAny _ _ (if(Value.ref l==Value.none)=Ξ then _ else _) _ _ s
 rw[if_neg (show ¬((Value.ref l==Value.none)=Ξ)from alf)]
 show wpAny _ _ (field (.ref it) 1 >>= _) _ _ s;refine akR (alG ho hd (x:=.int i 0) rfl ?_);show wpAny _ _ (seqItems? (.ref l) >>= _) _ _ s;refine akR (al7 iS hdl ?_);simp only[anq,hx];refine akR (am2 (akR (am1 ho hd (by simp) ?_)))
 show wpAny _ _ (newExc (.type "StopIteration") [] >>= _) _ _ _;refine akR ?_;simp only[newExc,newTuple];refine akR (al4 ?_ (by size_fits))
 refine akR (m:=firstArgMember _ _) (am3 (a:=Value.none) (by first|rfl|(simp only[firstArgMember];rfl)) ?_)
 refine al4 ?_ (by size_fits)
 simp only[raiseNew];refine akR (wpAny_handled ?_)
 first|rw[show A.in1.handled=η from hh]|rw[hh]
 refine akR (akS (wpAny_throw ?_));exact hE _ _ (((ame ..).extBut.push _).push _) ⟨_,ak8 _ rfl,rfl⟩
theorem Draws.tuple{prog:τ}{w:ψ}{A:ω}(hh:A.handled=η) (it l:Ω) (hne:l≠it) (items:Array Θ) :
  adQ prog w A it [it,l] items.size (λi v=>items[i]? = ζ v) (λi h=>h.IsTupleIter it l i/\h.IsTuple l items) where
 live:=λ_ _ st=>let⟨o,ho,_⟩:=st.1;⟨o,ho⟩
 frame:=λ_ _ _ st hk=>⟨st.1.at λo e=>hk it (by simp) o e,let⟨o,e,r⟩:=st.2;⟨o,hk l (by simp) o e,r⟩⟩
 item:=λi s Q E hi st hQ=>by
  refine aai st.1 st.2 (x:=items[i]) (by simp[hi]) λh' vQ hs'=>?_
  exact hQ _ h' s.toks (by simp[hi]) ⟨vQ,let⟨o,e,r⟩:=st.2;⟨o,hs'.extBut _ _ hne e,r⟩⟩ hs'
 done:=λs Q E st hE=>aaj hh st.1 st.2 (by simp) hE
structure ZA (z TI TO i1 i2:Ω) (f1 f2:List Ω):Prop where
 TIz:TI≠z
 TOz:TO≠z
 TITO:TI≠TO
 TIi1:TI≠i1
 TIi2:TI≠i2
 m1:i1∈f1
 m2:i2∈f2
 z1:z∉f1
 z2:z∉f2
 o1:TO∉f1
 o2:TO∉f2
 x1:i1∉f2
 x2:i2∉f1
theorem QE{z TI TO i1 i2:Ω}{f1 f2:List Ω}{n1 n2 k:Nat}{P1 P2:Nat->Θ->Prop}{S1 S2:Nat->χ->Prop}{a b:Θ}{Q:Θ->ε->Prop}(D:ZA z TI TO i1 i2 f1 f2) (D1:adQ prog w A i1 f1 n1 P1 S1) (D2:adQ prog w A i2 f2 n2 P2 S2)
  (hz:adu s.heap z TI TO .none) (hTI:ac8 s.heap TI (.ref i1) (.ref i2)) (hTO:ac8 s.heap TO a b)
  (h1:S1 k s.heap) (h2:S2 k s.heap) (hx:k<n1) (hy:k<n2)
  (hQ:∀x y h' tk,P1 k x->P2 k y->adu h' z TI TO (rawInt s.heap.objs.size)->ac8 h' TO x y->S1 (k+1) h'->S2 (k+1) h'->ac8 h' s.heap.objs.size x y ->
   (∀c o,c≠z->c≠TO->c≠i1->c≠i2->s.heap.get? c=ζ o->h'.get? c=ζ o)->Q (.ref s.heap.objs.size) {s with heap:=h',toks:=tk}) :
  wpAny (model prog w) A (Builtin.«zip.__next__» ⟨[.ref z],[]⟩) (λfin s'=>∃v,fin=.done (.ret v)/\Q v s') E s:=by
 have yT:i1≠z:=λe=>D.z1 (e▸D.m1)
 have CA:i2≠z:=λe=>D.z2 (e▸D.m2)
 have CF:TO≠i1:=λe=>D.o1 (e▸D.m1)
 have KS:TO≠i2:=λe=>D.o2 (e▸D.m2)
 have n12:i1≠i2:=λe=>D.x1 (e▸D.m2)
 show wpAny _ _ (field (.ref z) 2 >>= _) _ _ _;refine akR (alG hz rfl (x:=.bool ξ) rfl ?_);show wpAny _ _ (field (.ref z) 3 >>= _) _ _ _;refine akR (alG hz rfl (x:=.ref TI) rfl ?_);refine akR (al7 hTI rfl ?_);show wpAny _ _ (Builtin.SmallTypes.ownedTupleIsFree (.ref z) >>= _) _ _ _;refine akR ?_;unfold Builtin.SmallTypes.ownedTupleIsFree;refine akR (alG hz rfl (x:=.none) rfl (akS ?_));simp only[if_true];refine akR (am2 ?_);refine akR (alG hz rfl (x:=.ref TO) rfl ?_);refine akR (amH hz (by simp) λh₁ nQ hs₁=>?_)
 replace nQ:adu h₁ z TI TO .ellipsis:=nQ
 refine akR ?_;simp only[apf,apg,amF,ant];refine akR (akR (anu ?_));show wpAny _ _ (Builtin.SmallTypes.nextOf (.ref i1) >>= _) _ _ _;refine akR (D1.item k _ _ _ hx (D1.frame _ _ _ h1 λc hc o e=>hs₁.extBut _ _ (λq=>D.z1 (q▸hc)) e) λx h₂ tk₂ px MM hs₂=>akS ?_)
 have vV:ac8 h₂ TO a b:=hs₂.extBut _ _ CF (hs₁.extBut _ _ D.TOz hTO);refine akR (al7 vV rfl ?_);refine akR (aog vV λh₃ zH jl=>?_)
 replace zH:ac8 h₃ TO x b:=zH
 refine akR (wpAny_letGo (akS ?_));refine akR (akR (anu ?_));show wpAny _ _ (Builtin.SmallTypes.nextOf (.ref i2) >>= _) _ _ _;refine akR (D2.item k _ _ _ hy (D2.frame _ _ _ h2 λc hc o e=>jl.extBut _ _ (λq=>D.o2 (q▸hc)) (hs₂.extBut _ _ (λq=>D.x1 (q▸hc)) (hs₁.extBut _ _ (λq=>D.z2 (q▸hc)) e))) λy h₄ tk₄ py aeo nT=>akS ?_)
 have ME:ac8 h₄ TO x b:=nT.extBut _ _ KS zH;refine akR (al7 ME rfl ?_);refine akR (aog ME λh₅ zG nS=>?_)
 replace zG:ac8 h₅ TO x y:=zG
 refine akR (wpAny_letGo (akS (akS ?_)));refine akR (al7 zG rfl ?_);refine akR (wpAny_newTuple ?_);have hsz:h₅.objs.size=s.heap.objs.size:=by rw[nS.1,nT.1,jl.1,hs₂.1,hs₁.1]
 have Me:adu h₅ z TI TO .ellipsis:=nS.extBut _ _ D.TOz.symm (nT.extBut _ _ CA.symm (jl.extBut _ _ D.TOz.symm (hs₂.extBut _ _ yT.symm nQ)));have adG:∀c o,c≠z->c≠TO->c≠i1->c≠i2->s.heap.get? c=ζ o->h₅.get? c=ζ o:=λc o c1 c2 c3 c4 e =>
  nS.extBut _ _ c2 (nT.extBut _ _ c4 (jl.extBut _ _ c2 (hs₂.extBut _ _ c3 (hs₁.extBut _ _ c1 e))))
 have aep:S1 (k+1) h₅:=D1.frame _ _ _ MM λc hc o e=>nS.extBut _ _ (λq=>D.o1 (q▸hc)) (nT.extBut _ _ (λq=>D.x2 (q▸hc)) (jl.extBut _ _ (λq=>D.o1 (q▸hc)) e))
 have aen:S2 (k+1) h₅:=D2.frame _ _ _ aeo λc hc o e=>nS.extBut _ _ (λq=>D.o2 (q▸hc)) e
 have Mh:z<h₅.objs.size:=akX Me;show wpAny _ _ (Builtin.SmallTypes.ownedTupleHandOut (.ref z) (.ref h₅.objs.size) >>= _) _ _ _;refine akR ?_;unfold Builtin.SmallTypes.ownedTupleHandOut;have adh:adu (h₅.push {cls:=.type "tuple",data:=.seq #[x,y]}) z TI TO .ellipsis:=akU _ Me;refine akR (amH adh (by simp) λadg Eu Mm=>?_)
 replace Eu:adu adg z TI TO (rawInt h₅.objs.size):=Eu
 refine amH Eu (by simp) λzx zy Ml=>?_
 replace zy:adu zx z TI TO (rawInt h₅.objs.size):=zy
 have up:∀c o,c≠z->h₅.get? c=ζ o->zx.get? c=ζ o:=λc o c1 e=>Ml.extBut _ _ c1 (Mm.extBut _ _ c1 (akU _ e))
 have MB:ac8 zx h₅.objs.size x y:=Ml.extBut _ _ (alF Mh) (Mm.extBut _ _ (alF Mh) (ak8 _ rfl));rw[hsz]at zy MB;refine akS ⟨_,rfl,?_⟩;show Q (.ref h₅.objs.size) _;rw[hsz];exact hQ x y zx _ px py zy (up _ _ D.TOz zG) (D1.frame _ _ _ aep λc hc o e=>up c o (λq=>D.z1 (q▸hc)) e) (D2.frame _ _ _ aen λc hc o e=>up c o (λq=>D.z2 (q▸hc)) e) MB λc o c1 c2 c3 c4 e=>up c o c1 (adG c o c1 c2 c3 c4 e)
theorem QF{z TI TO i1 i2:Ω}{f1 f2:List Ω}{n1 n2 k:Nat}{P1 P2:Nat->Θ->Prop}{S1 S2:Nat->χ->Prop}{a b:Θ}{Q:Fin->ε->Prop}(D:ZA z TI TO i1 i2 f1 f2) (D1:adQ prog w A i1 f1 n1 P1 S1) (D2:adQ prog w A i2 f2 n2 P2 S2)
  (hz:adu s.heap z TI TO .none) (hTI:ac8 s.heap TI (.ref i1) (.ref i2)) (hTO:ac8 s.heap TO a b)
  (h1:S1 k s.heap) (h2:S2 k s.heap) (hend:k=n1\/(k<n1/\k=n2))
  (hE:∀h' tk e,(∀c o,c≠z->c≠TO->c≠i1->c≠i2->s.heap.get? c=ζ o->h'.get? c=ζ o)->(∃o,h'.get? e=ζ o/\o.cls=.type "StopIteration")->E (.ref e) {s with heap:=h',toks:=tk}) :
  wpAny (model prog w) A (Builtin.«zip.__next__» ⟨[.ref z],[]⟩) Q E s:=by
 have yT:i1≠z:=λe=>D.z1 (e▸D.m1)
 have CA:i2≠z:=λe=>D.z2 (e▸D.m2)
 have CF:TO≠i1:=λe=>D.o1 (e▸D.m1)
 have KS:TO≠i2:=λe=>D.o2 (e▸D.m2)
 show wpAny _ _ (field (.ref z) 2 >>= _) _ _ _;refine akR (alG hz rfl (x:=.bool ξ) rfl ?_);show wpAny _ _ (field (.ref z) 3 >>= _) _ _ _;refine akR (alG hz rfl (x:=.ref TI) rfl ?_);refine akR (al7 hTI rfl ?_);show wpAny _ _ (Builtin.SmallTypes.ownedTupleIsFree (.ref z) >>= _) _ _ _;refine akR ?_;unfold Builtin.SmallTypes.ownedTupleIsFree;refine akR (alG hz rfl (x:=.none) rfl (akS ?_));simp only[if_true];refine akR (am2 ?_);refine akR (alG hz rfl (x:=.ref TO) rfl ?_);refine akR (amH hz (by simp) λh₁ nQ hs₁=>?_)
 replace nQ:adu h₁ z TI TO .ellipsis:=nQ
 refine akR ?_;simp only[apf,apg,amF,ant];refine akR (akR (anu ?_));show wpAny _ _ (Builtin.SmallTypes.nextOf (.ref i1) >>= _) _ _ _;have MN:S1 k h₁:=D1.frame _ _ _ h1 λc hc o e=>hs₁.extBut _ _ (λq=>D.z1 (q▸hc)) e
 rcases hend with rfl|⟨hlt,rfl⟩
 ·refine akR (D1.done _ _ _ MN λh₂ e hs₂ he=>?_)
  obtain⟨oe,pN,hce⟩:=he;have Mg:adu h₂ z TI TO .ellipsis:=hs₂ _ _ yT.symm nQ;have EE:e≠z:=λx=>by subst x;rw[Mg]at pN;cases pN;simp at hce
  refine amH Mg (by simp) λh₃ _ jl=>hE h₃ _ e (λc o c1 _ c3 _ x=>jl.extBut _ _ c1 (hs₂ _ _ c3 (hs₁.extBut _ _ c1 x))) ⟨oe,jl.extBut _ _ EE pN,hce⟩
 ·refine akR (D1.item k _ _ _ hlt MN λx h₂ tk₂ px MM hs₂=>akS ?_)
  have vV:ac8 h₂ TO a b:=hs₂.extBut _ _ CF (hs₁.extBut _ _ D.TOz hTO);refine akR (al7 vV rfl ?_);refine akR (aog vV λh₃ zH jl=>?_)
  refine akR (wpAny_letGo (akS ?_));refine akR (akR (anu ?_));show wpAny _ _ (Builtin.SmallTypes.nextOf (.ref i2) >>= _) _ _ _;refine akR (D2.done _ _ _ (D2.frame _ _ _ h2 λc hc o e=>jl.extBut _ _ (λq=>D.o2 (q▸hc)) (hs₂.extBut _ _ (λq=>D.x1 (q▸hc)) (hs₁.extBut _ _ (λq=>D.z2 (q▸hc)) e))) λh₄ e nT he=>?_)
  obtain⟨oe,pN,hce⟩:=he;have Mf:adu h₄ z TI TO .ellipsis:=nT _ _ CA.symm (jl.extBut _ _ D.TOz.symm (hs₂.extBut _ _ yT.symm nQ));have EE:e≠z:=λx=>by subst x;rw[Mf]at pN;cases pN;simp at hce
  refine amH Mf (by simp) λh₅ _ nS=>hE h₅ _ e (λc o c1 c2 c3 c4 x=>nS.extBut _ _ c1 (nT _ _ c4 (jl.extBut _ _ c2 (hs₂.extBut _ _ c3 (hs₁.extBut _ _ c1 x))))) ⟨oe,nS.extBut _ _ EE pN,hce⟩
theorem Vm{z TI TO i1 i2:Ω}{f1 f2:List Ω}{n1 n2 k:Nat}{P1 P2:Nat->Θ->Prop}{S1 S2:Nat->χ->Prop}{a b:Θ}{Q:Option Θ->ε->Prop}(D:ZA z TI TO i1 i2 f1 f2) (D1:adQ prog w A.in1 i1 f1 n1 P1 S1) (D2:adQ prog w A.in1 i2 f2 n2 P2 S2)
  (hz:adu s.heap z TI TO .none) (hTI:ac8 s.heap TI (.ref i1) (.ref i2)) (hTO:ac8 s.heap TO a b)
  (h1:S1 k s.heap) (h2:S2 k s.heap) (hx:k<n1) (hy:k<n2)
  (hQ:∀x y h' tk,P1 k x->P2 k y->adu h' z TI TO (rawInt s.heap.objs.size)->ac8 h' TO x y->S1 (k+1) h'->S2 (k+1) h'->ac8 h' s.heap.objs.size x y ->
   (∀c o,c≠z->c≠TO->c≠i1->c≠i2->s.heap.get? c=ζ o->h'.get? c=ζ o)->Q (ζ (.ref s.heap.objs.size)) {s with heap:=h',toks:=tk}) :
  wpAny (model prog w) A (pyNext (.ref z)) Q E s:=by
 have hT:s.TypeIs (.ref z) "zip":=⟨_,hz,rfl⟩;unfold pyNext;exact akR (anv (amj (name:=Str.ofString "__next__") hT anw
  (alR anw hT F.entry_zip_next
   (QE D D1 D2 hz hTI hTO h1 h2 hx hy λx y h' tk a0 b0 a1 a2 a3 a4 a5 a7=>akS (hQ x y h' tk a0 b0 a1 a2 a3 a4 a5 a7)) (F.args_zip_next_1 _))))
theorem Vn{z TI TO i1 i2:Ω}{f1 f2:List Ω}{n1 n2 k:Nat}{P1 P2:Nat->Θ->Prop}{S1 S2:Nat->χ->Prop}{a b:Θ}{Q:Option Θ->ε->Prop}(D:ZA z TI TO i1 i2 f1 f2) (D1:adQ prog w A.in1 i1 f1 n1 P1 S1) (D2:adQ prog w A.in1 i2 f2 n2 P2 S2)
  (hz:adu s.heap z TI TO .none) (hTI:ac8 s.heap TI (.ref i1) (.ref i2)) (hTO:ac8 s.heap TO a b)
  (h1:S1 k s.heap) (h2:S2 k s.heap) (hend:k=n1\/(k<n1/\k=n2))
  (hQ:∀h' tk,(∀c o,c≠z->c≠TO->c≠i1->c≠i2->s.heap.get? c=ζ o->h'.get? c=ζ o)->Q η {s with heap:=h',toks:=tk}):wpAny (model prog w) A (pyNext (.ref z)) Q E s:=by
 have hT:s.TypeIs (.ref z) "zip":=⟨_,hz,rfl⟩;unfold pyNext;refine akR (anv (amj (name:=Str.ofString "__next__") hT anw
  (alR anw hT F.entry_zip_next (QF D D1 D2 hz hTI hTO h1 h2 hend λh' tk e hk he=>?_) (F.args_zip_next_1 _))))
 obtain⟨o,ho,hc⟩:=he;refine akR (aoh (T:="StopIteration") (b:=Ξ) ⟨o,ho,hc⟩ isSubtype_stop ?_);exact akS (hQ _ _ hk)
abbrev xr(h:χ) (l1:Ω):χ:=h.push {cls:=.type "tuple_iterator",data:=.fields #[.ref l1,.int 0 0]}
abbrev xq(h:χ) (l1 l2:Ω):χ:=(xr h l1).push {cls:=.type "tuple_iterator",data:=.fields #[.ref l2,.int 0 0]}
abbrev xo(h:χ) (l1 l2:Ω):χ:=(xq h l1 l2).push {cls:=.type "tuple",data:=.seq #[.ref h.objs.size,.ref (xr h l1).objs.size]}
abbrev xm(h:χ) (l1 l2:Ω):χ:=(xo h l1 l2).push {cls:=.type "tuple",data:=.seq #[.none,.none]}
abbrev qt(h:χ) (l1 l2:Ω):χ:=(xm h l1 l2).push {cls:=.type "zip",data:=.fields #[.none,.bool ξ,.bool ξ,.ref (xq h l1 l2).objs.size,.ref (xo h l1 l2).objs.size]}
theorem ai2{h:χ}{a:Ω}{xs:Array Θ}(x:h.IsTuple a xs) (o:Obj):(h.push o).IsTuple a xs:=let⟨q,e,r⟩:=x;⟨q,akU _ e,r⟩
theorem aa9(l1 l2:Ω) (xs ys:Array Θ) :
  Meets (Builtin.«zip.__new__» ⟨[.type "zip",.ref l1,.ref l2],[]⟩) (λ_ R s=>s.heap.IsTuple l1 xs/\s.heap.IsTuple l2 ys /\
   R (.ok (.ret (.ref (xm s.heap l1 l2).objs.size))) {s with heap:=qt s.heap l1 l2}) :=
 .of_wp λprog w A R s h=>by
  obtain⟨hp,g,d,tk,os⟩:=s;obtain⟨hl1,hl2,h⟩:=h;have hsub:=sub_zip;have sP:Heap.IsTuple (Shared.heap ⟨hp,g,d,tk,os⟩) l1 xs:=hl1;have nX:Heap.IsTuple (Shared.heap ⟨hp.push {cls:=.type "tuple_iterator",data:=.fields #[.ref l1,.int 0 0]},g,d,tk,os⟩) l2 ys:=ai2 hl2 _
  wp_walk using anj sP,anj nX
  exact⟨_,rfl,h⟩
theorem ahz{l1 l2:Ω}{xs ys:Array Θ}{Q:Θ->ε->Prop}(hl1:s.heap.IsTuple l1 xs) (hl2:s.heap.IsTuple l2 ys)
  (h:∀h',adu h' (s.heap.objs.size+4) (s.heap.objs.size+2) (s.heap.objs.size+3) .none->ac8 h' (s.heap.objs.size+2) (.ref s.heap.objs.size) (.ref (s.heap.objs.size+1)) ->
   ac8 h' (s.heap.objs.size+3) .none .none->h'.IsTupleIter s.heap.objs.size l1 0->h'.IsTupleIter (s.heap.objs.size+1) l2 0 ->
   (∀c o,s.heap.get? c=ζ o->h'.get? c=ζ o)->Q (.ref (s.heap.objs.size+4)) {s with heap:=h'}) :
  wpAny (model prog w) A (call (.type "zip") [.ref l1,.ref l2]) Q E s:=by
 refine callType_new F.called_zip (by decide) (F.typeCall_zip_2 _ _) (F.newCall_zip_2 _ _) (λobj=>F.args_object_init_3 obj _ _) F.entry_zip_new
  (aa9 l1 l2 xs ys) ⟨hl1,hl2,?_⟩
 have z1:(xr s.heap l1).objs.size=s.heap.objs.size+1:=alr ..;have z2:(xq s.heap l1 l2).objs.size=s.heap.objs.size+2:=by rw[alr,z1]
 have z3:(xo s.heap l1 l2).objs.size=s.heap.objs.size+3:=by rw[alr,z2]
 have z4:(xm s.heap l1 l2).objs.size=s.heap.objs.size+4:=by rw[alr,z3]
 have g5:(qt s.heap l1 l2).get? (xm s.heap l1 l2).objs.size=ζ _:=ak8 _ rfl;have g4:(qt s.heap l1 l2).get? (xo s.heap l1 l2).objs.size=ζ _:=akU _ (ak8 _ rfl);have g3:(qt s.heap l1 l2).get? (xq s.heap l1 l2).objs.size=ζ _:=akU _ (akU _ (ak8 _ rfl));have g2:(qt s.heap l1 l2).get? (xr s.heap l1).objs.size=ζ _:=akU _ (akU _ (akU _ (ak8 _ rfl)));have g1:(qt s.heap l1 l2).get? s.heap.objs.size=ζ _:=akU _ (akU _ (akU _ (akU _ (ak8 _ rfl))));show _/\_;rw[z2,z3,z4]at g5;rw[z1,z2]at g3;rw[z3]at g4;rw[z1]at g2;rw[z4];exact⟨⟨_,g5,rfl⟩,h _ g5 g3 g4 ⟨_,g1,rfl,rfl⟩ ⟨_,g2,rfl,rfl⟩ λc o x =>
  akU _ (akU _ (akU _ (akU _ (akU _ x))))⟩
open AutoSeq1 (wpAny_loadPart')
end
end PySem
namespace L2
open PySem PySem.Spec PyProof.Rows
section
variable {X:Cx}{pins:List (Ω×Obj)}{σ:St}{H:Hp}{s:ε}{K:Ψ}
theorem aeK{a b:Ω}{xs:List V}(I:Inv X pins σ H s) (f:gD X pins H b) (q:bU X.K H a xs):a≠b:=by
 rintro rfl
 rcases q with(q|⟨o,q⟩)|⟨o,its,n,q,_⟩
 ·rw[f.1]at q;cases q
 ·rw[f.1]at q;cases q
 ·have e:=I.ok.mod.lg a o q
  rcases f.2.2.2.1 with z|z
  ·exact I.ok.iL _ _ e z
  ·exact absurd (alc (akX e) (als I.ok.gZ z)) (alE _)
theorem aeL{a b:Ω}{xs:List V}(I:Inv X pins σ H s) (f:gD X pins H b) (q:bC X.K H a xs):a≠b:=by
 rintro rfl
 rcases q with(q|⟨o,q⟩)|⟨o,its,n,q,_⟩
 ·rw[f.1]at q;cases q
 ·rw[f.1]at q;cases q
 ·have e:=I.ok.mod.lg a o q
  rcases f.2.2.2.1 with z|z
  ·exact I.ok.iL _ _ e z
  ·exact absurd (alc (akX e) (als I.ok.gZ z)) (alE _)
theorem Inv.Rx{h':χ}{t':Nat}{ch:List Ω}{T:Ω}{vs:List V}{us:List Θ}(I:Inv X pins σ H s) (hf:∀b∈ch,gD X pins H b) (k:∀b o,b∉ch->s.heap.get? b=ζ o->h'.get? b=ζ o)
  (hT:s.heap.objs.size<=T) (th:∀b∈ch,∃o,h'.get? b=ζ o) (rv:Vals vs us) (hz:vs.length<=ι) (tup:kI h' T us.toArray):Inv X pins σ (upd H T (.tup vs)) {s with heap:=h',toks:=t'}:=by
 have hn:H T=η:=I.hok.fresh hT;have jE:∀b u,H b=ζ u->b∉ch:=λb u e z=>by rw[(hf b z).1]at e;cases e
 refine I.step (g':=s.gens) (d':=s.drawn) (ch:=ch) (λb hb=>?_) (λb o _ _ hc e _=>k b o hc e) (λb o _ _ hc e _=>⟨o.slots,k b o hc e⟩) (λb o _ e n=>?_)
  (λb o hc e=>⟨o,k b o hc e⟩) (λb xs e=>by rw[bZ (d7 e hn)];exact e) (λb o u e=>by rw[bZ (d7 e hn)];exact e) (λb ps e=>⟨#[],by rw[bZ (d7 e hn),e];simp⟩) (λm hm=>?_) (λb u e=>?_) I.bare
 ·obtain⟨f0,f1,f2,f3,f4,f5⟩:=hf b hb;exact⟨f3,f1,f4,f5⟩
 ·rw[bZ (ak3 (alc (akX e) hT))];exact n
 ·obtain⟨o,es,ep,ho,r⟩:=hm;exact⟨o,es,ep,k _ o (λz=>(hf _ z).2.1 rfl) ho,r⟩
 ·by_cases hb:b=T
  ·subst hb;rw[fS]at e;cases e;exact⟨hz,us,rv,tup⟩
  ·rw[bZ hb]at e;refine(I.hok b u e).stay (λc v hc q=>k c v ?_ q) (λc q=>by rw[bZ (d7 q hn)];exact q) λc xs q=>by rw[bZ (d7 q hn)];exact q
   rcases hc with z|z
   ·rw[z];exact jE b u e
   ·exact jE c _ z
theorem Inv.Ry{h':χ}{t':Nat}{ch:List Ω}(I:Inv X pins σ H s) (hf:∀b∈ch,gD X pins H b) (k:∀b o,b∉ch->s.heap.get? b=ζ o->h'.get? b=ζ o):Inv X pins σ H {s with heap:=h',toks:=t'}:=by
 have jE:∀b u,H b=ζ u->b∉ch:=λb u e z=>by rw[(hf b z).1]at e;cases e
 refine I.step (g':=s.gens) (d':=s.drawn) (ch:=ch) (λb hb=>?_) (λb o _ _ hc e _=>k b o hc e) (λb o _ _ hc e _=>⟨o.slots,k b o hc e⟩) (λb o _ e n=>n)
  (λb o hc e=>⟨o,k b o hc e⟩) (λb xs e=>e) (λb o u e=>e) (λb ps e=>⟨#[],by rw[e];simp⟩) (λm hm=>?_) (λb u e=>?_) I.bare
 ·obtain⟨f0,f1,f2,f3,f4,f5⟩:=hf b hb;exact⟨f3,f1,f4,f5⟩
 ·obtain⟨o,es,ep,ho,r⟩:=hm;exact⟨o,es,ep,k _ o (λz=>(hf _ z).2.1 rfl) ho,r⟩
 ·refine(I.hok b u e).stay (λc v hc q=>k c v ?_ q) (λc q=>q) λc xs q=>q
  rcases hc with z|z
  ·rw[z];exact jE b u e
  ·exact jE c _ z
end
structure HE (P:τ) (w:ψ) (K:Ψ) (Sq:Hp->Ω->List V->Prop) (oH:χ->Ω->Ω->Nat->Prop) (A6:χ->Ω->Array Θ->Prop):Prop where
 get:∀{X:Cx}{pins:List (Ω×Obj)}{σ:St}{H:Hp}{s:ε}{a:Ω}{xs:List V},X.K=K->Inv X pins σ H s->Sq H a xs->∃its:List Θ,Vals xs its/\A6 s.heap a its.toArray/\xs.length<=ι
 inj:∀{X:Cx}{pins:List (Ω×Obj)}{σ:St}{H:Hp}{s:ε}{a:Ω}{xs ys:List V},X.K=K->Inv X pins σ H s->Sq H a xs->Sq H a ys->xs=ys
 ne:∀{X:Cx}{pins:List (Ω×Obj)}{σ:St}{H:Hp}{s:ε}{a b:Ω}{xs:List V},X.K=K->Inv X pins σ H s->gD X pins H b->Sq H a xs->a≠b
 sV:∀(A:ω) (it l:Ω) (items:Array Θ),A.handled=η->l≠it->adQ P w A it [it,l] items.size (λi v=>items[i]? = ζ v) (λi h=>oH h it l i/\A6 h l items)
 obj:∀{h:χ}{it l:Ω}{i:Nat},oH h it l i->∃o,h.get? it=ζ o/\∀v,o.data≠.cell v
 at':∀{h h':χ}{it l:Ω}{i:Nat},oH h it l i->(∀o,h.get? it=ζ o->h'.get? it=ζ o)->oH h' it l i
theorem Ue{P:τ}{w:ψ}{K:Ψ}:HE P w K (bU K) (λh it l i=>h.IsTupleIter it l i) (λh a xs=>h.IsTuple a xs) where
 get:=λe I q=>by subst e;obtain⟨its,r,p,z⟩:=I.tuple q;exact⟨its,r,p,z⟩
 inj:=λe I q q'=>by subst e;exact I.IF q q'
 ne:=λe I f q=>by subst e;exact aeK I f q
 sV:=λA it l items hh hne=>Draws.tuple hh it l hne items
 obj:=λst=>by obtain⟨o,e,c,d⟩:=st;exact⟨o,e,λv z=>by rw[d]at z;cases z⟩
 at':=λst k=>st.at k
theorem Ug{P:τ}{w:ψ}{K:Ψ}:HE P w K (bC K) (λh it l i=>h.IsListIter it l i) (λh a xs=>h.IsList a xs) where
 get:=λe I q=>by subst e;obtain⟨its,r,p,z⟩:=I.list q;exact⟨its,r,p.isList,z⟩
 inj:=λe I q q'=>by subst e;exact I.Ls q q'
 ne:=λe I f q=>by subst e;exact aeL I f q
 sV:=λA it l items hh hne=>Draws.list hh it l hne items
 obj:=λst=>by obtain⟨o,e,c,d⟩:=st;exact⟨o,e,λv z=>by rw[d]at z;cases z⟩
 at':=λst k=>st.at k
def A4(Sq:Hp->Ω->List V->Prop) (a1 a2:Ω):It :=
  ⟨λi H=>∃xs ys x y,Sq H a1 xs/\Sq H a2 ys/\xs[i]? = ζ x/\ys[i]? = ζ y,
   λi H v H'=>∃t x y,v=.ref t/\H t=η/\H'=upd H t (.tup [x,y])/\∀xs ys,Sq H a1 xs->Sq H a2 ys->xs[i]? = ζ x/\ys[i]? = ζ y,
   λi H=>∃xs ys,Sq H a1 xs/\Sq H a2 ys/\(i=xs.length\/(i<xs.length/\i=ys.length))⟩
theorem BC{xs:List V}{us:List Θ}{i:Nat}{u:Θ}(r:Vals xs us) (h:us.toArray[i]? = ζ u):∃x,xs[i]? = ζ x/\RelV x u:=by
 have h':us[i]? = ζ u:=by simpa using h
 have hi:i<xs.length:=by rw[r.length];exact(alb.mp h').1
 obtain⟨u',e,q⟩:=r.get (i:=i) (x:=xs[i]) (ak7 hi);rw[h']at e;cases e;exact⟨xs[i],ak7 hi,q⟩
theorem IE{P:τ}{w:ψ}{K:Ψ}{Sq:Hp->Ω->List V->Prop}{oH:χ->Ω->Ω->Nat->Prop}{A6:χ->Ω->Array Θ->Prop}(S:HE P w K Sq oH A6) {es:List π}{k:Nat}{pt:Pos}(a1 a2 z TI TO i1 i2:Ω)
  (n1:TI≠z) (n2:TO≠z) (n3:TI≠TO) (n4:TI≠i1) (n5:TI≠i2) (n6:TO≠i1) (n7:TO≠i2) (n8:i1≠z) (n9:i2≠z) (se:i1≠i2) :
  Turn P w K (.Tuple es k pt) (A4 Sq a1 a2) [z,TI,TO,i1,i2] z (λi h=>adu h z TI TO .none/\ac8 h TI (.ref i1) (.ref i2)/\(∃a b,ac8 h TO a b)/\oH h i1 a1 i/\oH h i2 a2 i) where
 mem:=by simp
 obj:=λi h st b hb=>by
  obtain⟨hz,hTI,⟨a,b',hTO⟩,h1,h2⟩:=st;simp only[akV,ala,or_false]at hb
  rcases hb with rfl|rfl|rfl|rfl|rfl
  ·exact⟨_,hz,λv q=>nomatch q⟩
  ·exact⟨_,hTI,λv q=>nomatch q⟩
  ·exact⟨_,hTO,λv q=>nomatch q⟩
  ·exact S.obj h1
  ·exact S.obj h2
 keep:=λi h h' st kp=>by
  obtain⟨hz,hTI,⟨a,b,hTO⟩,h1,h2⟩:=st;exact⟨kp _ (by simp) _ hz,kp _ (by simp) _ hTI,⟨a,b,kp _ (by simp) _ hTO⟩,S.at' h1 λo e=>kp _ (by simp) o e,S.at' h2 λo e=>kp _ (by simp) o e⟩
 item:=by
  intro X hP hw hK hc i pins s σ H E I hf st hg;subst hP hw;obtain⟨xs,ys,x,y,q1,q2,hx,hy⟩:=hg;obtain⟨hz,hTI,⟨a,b,hTO⟩,h1,h2⟩:=st;obtain⟨us,r1,p1,l1⟩:=S.get hK I q1;obtain⟨vs,r2,p2,l2⟩:=S.get hK I q2;have ne1:∀{b:Ω},b∈[z,TI,TO,i1,i2]->a1≠b:=λhb=>S.ne hK I (hf _ hb) q1
  have ne2:∀{b:Ω},b∈[z,TI,TO,i1,i2]->a2≠b:=λhb=>S.ne hK I (hf _ hb) q2
  have hx':i<us.toArray.size:=by have:=(alb.mp hx).1;have:=r1.length;simp;omega
  have hy':i<vs.toArray.size:=by have:=(alb.mp hy).1;have:=r2.length;simp;omega
  have D:ZA z TI TO i1 i2 [i1,a1] [i2,a2]:=⟨n1,n2,n3,n4,n5,by simp,by simp,by simp only[akV,ala,or_false,not_or];exact⟨n8.symm,(ne1 (by simp)).symm⟩,by simp only[akV,ala,or_false,not_or];exact⟨n9.symm,(ne2 (by simp)).symm⟩,
   by simp only[akV,ala,or_false,not_or];exact⟨n6,(ne1 (by simp)).symm⟩,by simp only[akV,ala,or_false,not_or];exact⟨n7,(ne2 (by simp)).symm⟩,
   by simp only[akV,ala,or_false,not_or];exact⟨se,(ne2 (by simp)).symm⟩,by simp only[akV,ala,or_false,not_or];exact⟨se.symm,(ne1 (by simp)).symm⟩⟩
  refine Vm D (S.sV X.A.in1 i1 a1 us.toArray (I.ok.hd hc) (ne1 (by simp))) (S.sV X.A.in1 i2 a2 vs.toArray (I.ok.hd hc) (ne2 (by simp))) hz hTI hTO ⟨h1,p1⟩ ⟨h2,p2⟩ hx' hy' λu v h' tk pu pv hz' MF s1 s2 hT kp=>?_
  refine⟨_,rfl,?_⟩;refine wpAny_letOwnedTupleGo_zip (s:={s with heap:=h',toks:=tk}) hz' λh'' Mi lB=>?_
  obtain⟨x',ex,rx⟩:=BC r1 pu;obtain⟨y',ey,ry⟩:=BC r2 pv;have lt:∀{c:Ω}{o:Obj},s.heap.get? c=ζ o->c≠s.heap.objs.size:=λe=>ak3 (akX e)
  have vH:∀c o,c∉[z,TO,i1,i2]->s.heap.get? c=ζ o->h''.get? c=ζ o:=λc o hcn e=>by
   simp only[akV,ala,or_false,not_or]at hcn;exact lB.extBut _ _ hcn.1 (kp c o hcn.1 hcn.2.1 hcn.2.2.1 hcn.2.2.2 e)
  have hT2:kI h'' s.heap.objs.size [u,v].toArray:=⟨_,lB.extBut _ _ (lt hz).symm hT,rfl,⟨_,rfl⟩,rfl⟩;have I2:Inv X pins σ (upd H s.heap.objs.size (.tup [x',y'])) {s with heap:=h'',toks:=tk}:=by
   refine I.Rx (ch:=[z,TO,i1,i2]) (us:=[u,v]) (λb hb=>hf b ?_) vH (akT _) (λb hb=>?_) (.cons rx (.cons ry .nil)) (by show 2<=ι;decide) hT2
   ·simp only[akV,ala,or_false]at hb ⊢
    rcases hb with rfl|rfl|rfl|rfl<;>simp
   ·simp only[akV,ala,or_false]at hb
    rcases hb with rfl|rfl|rfl|rfl
    ·exact⟨_,Mi⟩
    ·exact⟨_,lB.extBut _ _ n2 MF⟩
    ·obtain⟨o,e,_⟩:=S.obj s1.1;exact⟨_,lB.extBut _ _ n8 e⟩
    ·obtain⟨o,e,_⟩:=S.obj s2.1;exact⟨_,lB.extBut _ _ n9 e⟩
  refine⟨.ref s.heap.objs.size,_,I2,rfl,⟨_,x',y',rfl,I.hok.fresh (akT _),rfl,λxs' ys' w1 w2=>?_⟩,⟨Mi,?_,⟨_,_,lB.extBut _ _ n2 MF⟩,S.at' s1.1 λo e=>lB.extBut _ _ n8 e,S.at' s2.1 λo e=>lB.extBut _ _ n9 e⟩,λb hb=>?_⟩
  ·rw[S.inj hK I w1 q1,S.inj hK I w2 q2];exact⟨ex,ey⟩
  ·exact lB.extBut _ _ n1 (kp _ _ n1 n3 n4 n5 hTI)
  ·have hb':b≠s.heap.objs.size:=by
    simp only[akV,ala,or_false]at hb
    rcases hb with rfl|rfl|rfl|rfl|rfl
    ·exact lt hz
    ·exact lt hTI
    ·exact lt hTO
    ·obtain⟨o,e,_⟩:=S.obj h1;exact lt e
    ·obtain⟨o,e,_⟩:=S.obj h2;exact lt e
   rw[bZ hb'];exact(hf b hb).1
 done:=by
  intro X hP hw hK hc i pins s σ H E I hf st hg;subst hP hw;obtain⟨xs,ys,q1,q2,hend⟩:=hg;obtain⟨hz,hTI,⟨a,b,hTO⟩,h1,h2⟩:=st;obtain⟨us,r1,p1,l1⟩:=S.get hK I q1;obtain⟨vs,r2,p2,l2⟩:=S.get hK I q2;have ne1:∀{b:Ω},b∈[z,TI,TO,i1,i2]->a1≠b:=λhb=>S.ne hK I (hf _ hb) q1
  have ne2:∀{b:Ω},b∈[z,TI,TO,i1,i2]->a2≠b:=λhb=>S.ne hK I (hf _ hb) q2
  have D:ZA z TI TO i1 i2 [i1,a1] [i2,a2]:=⟨n1,n2,n3,n4,n5,by simp,by simp,by simp only[akV,ala,or_false,not_or];exact⟨n8.symm,(ne1 (by simp)).symm⟩,by simp only[akV,ala,or_false,not_or];exact⟨n9.symm,(ne2 (by simp)).symm⟩,
   by simp only[akV,ala,or_false,not_or];exact⟨n6,(ne1 (by simp)).symm⟩,by simp only[akV,ala,or_false,not_or];exact⟨n7,(ne2 (by simp)).symm⟩,
   by simp only[akV,ala,or_false,not_or];exact⟨se,(ne2 (by simp)).symm⟩,by simp only[akV,ala,or_false,not_or];exact⟨se.symm,(ne1 (by simp)).symm⟩⟩
  have e1:=r1.length;have e2:=r2.length;refine Vn D (S.sV X.A.in1 i1 a1 us.toArray (I.ok.hd hc) (ne1 (by simp))) (S.sV X.A.in1 i2 a2 vs.toArray (I.ok.hd hc) (ne2 (by simp))) hz hTI hTO (k:=i) ⟨h1,p1⟩ ⟨h2,p2⟩ (by simp only[ak1];omega) λh' tk kp=>?_
  refine⟨rfl,I.Ry (ch:=[z,TO,i1,i2]) (λb hb=>hf b ?_) λc o hcn e=>?_⟩
  ·simp only[akV,ala,or_false]at hb ⊢
   rcases hb with rfl|rfl|rfl|rfl<;>simp
  ·simp only[akV,ala,or_false,not_or]at hcn;exact kp c o hcn.1 hcn.2.1 hcn.2.2.1 hcn.2.2.2 e
 self:=λA i s Q E st h=>aoi st.1 h
section
variable {X:Cx}{es':List π}{kt:Nat}{pt:Pos}
def Mc(Sq:Hp->Ω->List V->Prop) (ta:TA):TI:=λσ H R=>ta σ H λvs H1=>∃a b,vs=[.ref a,.ref b]/\(∃xs ys,Sq H1 a xs/\Sq H1 b ys)/\R (A4 Sq a b) H1
theorem HZ{pins:List (Ω×Obj)}{σ:St}{H:Hp}{s:ε}{n:Nat}(I:Inv X pins σ H s) (hn:s.heap.objs.size=n):∀b∈[n+4,n+2,n+3,n,n+1],gD X pins H b:=λb hb=>by
 have:s.heap.objs.size<=b:=by
  simp only[akV,ala,or_false]at hb
  rcases hb with rfl|rfl|rfl|rfl|rfl<;>rw[hn]
  ·exact amI _ _
  ·exact amI _ _
  ·exact amI _ _
  ·exact akT _
  ·exact amI _ _
 exact I.vZ this (I.hok.fresh this)
theorem WL{a b:π}{ta:TA}{p pos:Pos}(hg:Gl X "zip") (hm:X.mg "zip"=η) (ha:PA X [a,b] ta) (hs:μ [a,b] X.env=[(ξ,eval a X.env),(ξ,eval b X.env)]:=by rfl) (hs2:μ [b] X.env=[(ξ,eval b X.env)]:=by rfl) :
  PI X (.Tuple es' kt pt) (.Call (.Name "zip" p) [a,b] [] pos) (Mc (bU X.K) ta):=by
 intro pins s σ H R I h;refine Call_ (nO I hg hm boot_zip (amD (bz (ha pos pins s σ H _ I h) λus s1 ⟨vs,H1,I1,r1,q1⟩=>?_) (by rw[hs,hs2]) (by rw[hs2];rfl)))
 obtain⟨a1,a2,e,⟨xs,ys,q1,q2⟩,q⟩:=q1;subst e;cases r1 with
 |cons r rr =>
  cases rr with
  |cons r' rr =>
   cases rr;cases r;cases r';obtain⟨us,ru,pu,lu⟩:=I1.tuple q1;obtain⟨vs,rv,pv,lv⟩:=I1.tuple q2;refine ahz pu pv λh' hz hTI hTO t1 t2 kp=>aoi hz ?_
   generalize hn:s1.heap.objs.size=n at hz hTI hTO t1 t2
   have ne:∀{i j:Nat},i≠j->n+i≠n+j:=λh e=>h (anx e)
   have kZ:∀{i:Nat},i≠0->n+i≠n:=λh e=>h (anx (e.trans (am4 n).symm))
   refine⟨n+4,_,_,_,H1,rfl,I1.kept (t':=s1.toks) kp,IE Ue a1 a2 (n+4) (n+2) (n+3) n (n+1) (ne (by decide)) (ne (by decide)) (ne (by decide)) (kZ (by decide)) (ne (by decide)) (kZ (by decide)) (ne (by decide)) (kZ (by decide)).symm (ne (by decide)) (kZ (by decide)).symm,⟨hz,hTI,⟨_,_,hTO⟩,t1,t2⟩,HZ I1 hn,q⟩
theorem WM{a b:π}{ta:TA}{p pos:Pos}(hg:Gl X "zip") (hm:X.mg "zip"=η) (ha:PA X [a,b] ta) (hs:μ [a,b] X.env=[(ξ,eval a X.env),(ξ,eval b X.env)]:=by rfl) (hs2:μ [b] X.env=[(ξ,eval b X.env)]:=by rfl) :
  PI X (.Tuple es' kt pt) (.Call (.Name "zip" p) [a,b] [] pos) (Mc (bC X.K) ta):=by
 intro pins s σ H R I h;refine Call_ (nO I hg hm boot_zip (amD (bz (ha pos pins s σ H _ I h) λus s1 ⟨vs,H1,I1,r1,q1⟩=>?_) (by rw[hs,hs2]) (by rw[hs2];rfl)))
 obtain⟨a1,a2,e,⟨xs,ys,q1,q2⟩,q⟩:=q1;subst e;cases r1 with
 |cons r rr =>
  cases rr with
  |cons r' rr =>
   cases rr;cases r;cases r';obtain⟨us,ru,pu,lu⟩:=I1.list q1;obtain⟨vs,rv,pv,lv⟩:=I1.list q2;refine call_zip_2 pu.isList pv.isList λh' hz hTI hTO t1 t2 _ kp=>aoi hz ?_
   generalize hn:s1.heap.objs.size=n at hz hTI hTO t1 t2
   have ne:∀{i j:Nat},i≠j->n+i≠n+j:=λh e=>h (anx e)
   have kZ:∀{i:Nat},i≠0->n+i≠n:=λh e=>h (anx (e.trans (am4 n).symm))
   refine⟨n+4,_,_,_,H1,rfl,I1.kept (t':=s1.toks) kp,IE Ug a1 a2 (n+4) (n+2) (n+3) n (n+1) (ne (by decide)) (ne (by decide)) (ne (by decide)) (kZ (by decide)) (ne (by decide)) (kZ (by decide)) (ne (by decide)) (kZ (by decide)).symm (ne (by decide)) (kZ (by decide)).symm,⟨hz,hTI,⟨_,_,hTO⟩,t1,t2⟩,HZ I1 hn,q⟩
end
section
variable {X:Cx}
theorem RD{A:ω}{bs:List Bool}{its:List Θ}(r:Vals (bs.map V.bl) its):TruthOf X.prog X.w A (λi v=>its.toArray[i]? = ζ v) (λi=>bs.getD i ξ):=by
 intro i v s Q E hP hQ;obtain⟨x,ex,rx⟩:=BC r hP;rw[alk]at ex;cases e:bs[i]? with
 |none=>rw[e]at ex;cases ex
 |some b =>
  rw[e]at ex;cases ex;cases rx;refine al9 ?_;have:bs.getD i ξ=b:=by rw[alg,e];rfl
  have hQ:Q (bs.getD i ξ) s:=hQ;rw[this]at hQ;exact hQ
theorem range_all(bs:List Bool):((θ bs.length).all λi=>bs.getD i ξ)=bs.all id:=by
 rw[amt,ak0,ak0]
 constructor
 ·intro h b hb;obtain⟨i,hi,e⟩:=aoj.mp hb;have:=h i (akY.mpr hi);rw[alg,ak7 hi]at this;rw[<-e];exact this
 ·intro h i hi;have hi:=akY.mp hi;rw[alg,ak7 hi];exact h _ (alH hi)
theorem aiJ{pins:List (Ω×Obj)}{σ:St}{H:Hp}{s:ε}{h':χ}{tk:Nat}{o:Obj}(I:Inv X pins σ H s) (kp:∀b q,b∉[s.heap.objs.size]->(s.heap.push o).get? b=ζ q->h'.get? b=ζ q):Inv X pins σ H {s with heap:=h',toks:=tk} :=
 I.kept λb q e=>kp b q (by simp only[akV,ala,or_false];exact ak3 (akX e)) (akU _ e)
theorem ahG(hc:X.calm=Ξ):c9 X (.builtin "all") (λxs H Q=>∃(p:Ω) (bs:List Bool),xs=[.ref p]/\bC X.K H p (bs.map V.bl)/\Q (.bl (bs.all id)) H):=by
 intro pins s σ H xs us Q I r h;obtain⟨p,bs,rfl,hp,q⟩:=h;obtain⟨u,rfl,ru⟩:=alD r;cases ru;obtain⟨its,rv,pl,hz⟩:=I.list hp;have hL:=pl.isList;have hpn:p≠s.heap.objs.size:=by obtain⟨o,e,_⟩:=hL;exact ak3 (akX e)
 refine call_all_walk (ani hL ⟨s.heap.objs.size,_,_,its.toArray.size,_,_,λi=>bs.getD i ξ,rfl,Walks.list (A:=X.A.in1) (I.ok.hd hc) s.heap.objs.size p hpn its.toArray,⟨⟨_,ak8 _ rfl,rfl,rfl⟩,hL.push _⟩,RD rv,λh' tk kp=>?_⟩)
 have hl:=rv.length;rw[ak6]at hl;have I1:Inv X pins σ H {s with heap:=h',toks:=tk}:=aiJ I kp
 refine⟨.bl (bs.all id),H,I1,?_,q⟩;show Value.bool _=Value.bool _;rw[ak1,<-hl,range_all]
def tyName(H:Hp):V->String->Prop
 |.aQ,n=>n="NoneType"
 |.bl _,n=>n="bool"
 |.int _,n=>n="int"
 |.str _,n=>n="str"
 |.ref a,n=>(n="list"/\((∃xs,H a=ζ (.lst xs))\/∃o xs,H a=ζ (.fE o (.lst xs))))\/(n="tuple"/\∃xs,H a=ζ (.tup xs))\/(n="dict"/\((∃k,H a=ζ (.dK k))\/∃k,H a=ζ (.dT k)))
 |_,_=>False
theorem Ru{K:Ψ}{H:Hp}{x:V}{n:String}(h:tyName H x n):iW K H x (.type n):=by
 cases x with
 |aQ=>cases(show n="NoneType" from h);exact .aQ
 |bl b=>cases(show n="bool" from h);exact .bl b
 |int b=>cases(show n="int" from h);exact .int b
 |str b=>cases(show n="str" from h);exact .str b
 |ref a =>
  rcases h with⟨rfl,⟨xs,e⟩|⟨o,xs,e⟩⟩|⟨rfl,xs,e⟩|⟨rfl,⟨k,e⟩|⟨k,e⟩⟩
  ·exact .lst e
  ·exact .fE e
  ·exact .tup e
  ·exact .dK e
  ·exact .dT e
 |_=>exact False.elim h
def uJ(n T:String):Bool:=n==T||(n=="bool"&&T=="int")
def abH(n T:String):Option Bool:=if(Value.type n==Value.type T)=Ξ then ζ Ξ else if PySem.W.kitMeta T=Ξ then(fastBuiltinMro n).map (·.contains (Value.type T))else η
theorem LG{K:Ψ}{n T:String}(hn:n∈["NoneType","bool","int","str","list","tuple","dict"]) (hT:T∈["bool","int","str","list","tuple","dict"]):PySem.W.kitOne K (.type n) (.type T)=ζ (uJ n T):=by
 show abH n T=ζ (uJ n T);simp only[akV,ala,or_false]at hn hT
 rcases hn with rfl|rfl|rfl|rfl|rfl|rfl|rfl<;>rcases hT with rfl|rfl|rfl|rfl|rfl|rfl<;>decide +kernel
theorem Rv{H:Hp}{x:V}{n:String}(h:tyName H x n):n∈["NoneType","bool","int","str","list","tuple","dict"]:=by
 cases x with
 |aQ=>cases(show n="NoneType" from h);simp
 |bl b=>cases(show n="bool" from h);simp
 |int b=>cases(show n="int" from h);simp
 |str b=>cases(show n="str" from h);simp
 |ref a=>rcases h with⟨rfl,_⟩|⟨rfl,_⟩|⟨rfl,_⟩<;>simp
 |_=>exact False.elim h
theorem ahF:c9 X (.builtin "isinstance") (λxs H Q=>∃x n T,xs=[x,.ty T]/\tyName H x n/\T∈["bool","int","str","list","tuple","dict"]/\Q (.bl (uJ n T)) H):=by
 intro pins s σ H xs us Q I r h;obtain⟨x,n,T,rfl,hx,hT,q⟩:=h;obtain⟨u,v,rfl,ru,rv⟩:=Vals.two r;cases(show v=Value.type T from rv)
 exact acH I ru (Ru hx) (LG (Rv hx) hT) λtk=>⟨.bl _,H,I.tok tk,rfl,q⟩
end
def lH(ea C:Ω):χ->Prop:=λh=>∃o,h.get? ea=ζ o/\o.cls=.ref C
def NB(a:Ω):χ->Prop:=PySem.W.KitAt a "dict"
structure Def (K:Ψ) (mg:Str->Option Θ) (x:Str) (st:acz) (ps:List Str) (f:Ω) (fd:ο):Prop where
 fn:mY K x x st f fd
 at':mg x=ζ (.ref f)
 bd:Binds K fd ps []
section
variable {X:Cx}
theorem Xi{x:Str}{st:acz}{ps:List Str}{f:Ω}{fd:ο}{k:Nat}{sp:Sp}{e:π}{es:List π}{t:TA}{p pos:Pos}(D:Def X.K X.mg x st ps f fd) (G:bX X.prog X.w X.K X.mg X.base bY k f fd ps sp) (hr:eB k X.A) (ha:PA X (e::es) t) (hg:Gl X x:=by rfl)
  (hdb:(x==("__debug__":Str))=ξ:=by decide) (he:μ (e::es) X.env=(ξ,eval e X.env)::μ es X.env:=by rfl) (hpl:(acF pos (μ es X.env)).any (·.1)=ξ:=by rfl) :
  PE X (.Call (.Name x p) (e::es) [] pos) (IW sp [] E0 t):=J1 G hr hg D.at' D.fn.kp D.bd .nil XH ha hdb he hpl
theorem W0{x:Str}{n:String}{pos:Pos}(hg:Gl X x) (hm:X.mg x=η) (hv:bootBuiltins x=ζ (.type n)) (hn:x≠"__name__":=by decide) (hd:(x==("__debug__":Str))=ξ:=by decide):PE X (.Name x pos) (tC (.ty n)):=Xm hg hm hv rfl hn hd
end
def isStar:π->Bool
 |.Starred _ _=>Ξ
 |_=>ξ
theorem b7{a:π}{es:List π}{env:Env}(h:isStar a=ξ):μ (a::es) env=(ξ,eval a env)::μ es env:=by
 cases a<;>first|(cases h;done)|(simp only[μ];done)
def noStar(es:List π):Bool:=es.all λa=>!isStar a
theorem ff{es:List π}{env:Env}{pos:Pos}(h:noStar es=Ξ):(acF pos (μ es env)).any (·.1)=ξ:=by
 induction es with
 |nil=>simp only[μ];rfl
 |cons a es ih =>
  have h:(!isStar a&&noStar es)=Ξ:=h;rw[ak9]at h;rw[b7 (by simpa using h.1)]
  have:=ih h.2
  simpa[acF]using this
theorem uM{a:π}{env:Env}(h:isStar a=ξ):μ [a] env=[(ξ,eval a env)]:=by
 rw[b7 h];simp only[μ]
theorem Jd{a b:π}{env:Env}(h:isStar a=ξ) (g:isStar b=ξ):μ [a,b] env=[(ξ,eval a env),(ξ,eval b env)]:=by
 rw[b7 h,uM g]
theorem uL{a:π}{env:Env}{pos:Pos}(h:isStar a=ξ):((acF pos (μ [a] env)).all (λx=>!x.1)&&(adt pos (adj [] env)).all (λx=>x.1.isSome)
   && decide ([a].length+([]:List adm).length+(if([]:List adm).isEmpty then 0 else 1)<30))=Ξ:=by
 rw[uM h];simp[acF,adt,adj]
inductive D where
 |aQ|bl (b:Bool)|int (i:Int)|str (x:Str)|ty (n:String)|tup (l:List D)|lst (l:List D)|ref (k:Nat)|bL (l:List Int)|fn (x:Str) (n:Nat)|exc (x:Str)|iB|dct (ks:List (Int×Int))|lam (k:Nat) (e:π) (ns:List Str) (l:List D)
inductive Cell where
 |lst (l:List D)
mutual
def noRef:D->Bool
 |.tup l=>bO l
 |.lst l=>bO l
 |.ref _=>ξ
 |.aQ=>Ξ
 |.bl _=>Ξ
 |.int _=>Ξ
 |.str _=>Ξ
 |.ty _=>Ξ
 |.bL _=>Ξ
 |.fn _ _=>Ξ
 |.exc _=>Ξ
 |.iB=>Ξ
 |.dct _=>Ξ
 |.lam _ _ _ _=>ξ
def bO:List D->Bool
 |[]=>Ξ
 |d::l=>noRef d&&bO l
end
theorem vn:∀{l m:List D},bO (l++m)=(bO l&&bO m)
 |[],m=>by simp[bO]
 |d::l,m=>by simp[bO,vn (l:=l),Bool.and_assoc]
theorem KP:∀{l:List D}{i:Nat}{d:D},bO l=Ξ->noRef d=Ξ->bO (l.set i d)=Ξ
 |[],i,d,h,g=>h
 |b::l,0,d,h,g=>by simp_all[bO]
 |b::l,i+1,d,h,g=>by
  simp only[bO,ak9]at h;simp only[amf,bO,ak9];exact⟨h.1,KP h.2 g⟩
theorem iM:∀{l:List D},bO l=Ξ↔∀d∈l,noRef d=Ξ
 |[]=>by simp[bO]
 |d::l=>by simp[bO,iM (l:=l)]
theorem yV{l:List Int}:bO (l.map D.int)=Ξ:=iM.mpr λd h=>by
 obtain⟨i,_,rfl⟩:=akW.mp h;rfl
inductive R (α:Type) where
 |ok (a:α) (c:List Cell)
 |bad
def R.bind{α β:Type}(r:R α) (f:α->List Cell->R β):R β:=match r with
 |.ok a c=>f a c
 |.bad=>.bad
@[simp] theorem R.aD{α β:Type}{a:α}{c:List Cell}{f:α->List Cell->R β}:(R.ok a c).bind f=f a c:=rfl
@[simp] theorem R.akM{α β:Type}{f:α->List Cell->R β}:(R.bad:R α).bind f=.bad:=rfl
def LA:List Str:=["greatest_among","web_of","other_web","turned_at","pairs_web","field_web","net_web"]
def abC(x:Str):Str:=x++".<locals>."++"<lambda>"
def NY(c:Ω) (q:Str):χ->Prop:=λh=>h.CodeRec (.ref c) q
def abD(a:Ω) (o:Obj):χ->Prop:=λh=>h.get? a=ζ o
def ai0(e:π) (o:Obj) (q:Str) (c:Ω) (cl:List (Str×Ω)):Prop:=match e with
 |.Lambda params body scope _=>∃pm ctv,o=PySem.W.kla_obj "<lambda>" q params body scope cl pm c ctv
 |_=>False
def acK:HO->Bool
 |.fc _=>Ξ
 |_=>ξ
def uA(H:Hp) (cl:List (Str×Ω)):List Str->List V->Prop
 |[],xs=>xs=[]
 |x::ns,xs=>∃v r c oc u,xs=v::r/\cl.lookup x=ζ c/\H c=ζ (.fE oc (.own 0))/\oc.data=.cell (ζ u)/\RelV v u/\uA H cl ns r
def ai7(cl:List (Str×Ω)) (ns:List Str):Prop:=(∀x y c,cl.lookup x=ζ c->cl.lookup y=ζ c->x=y)/\∀x c,cl.lookup x=ζ c->x∈ns
def TabAt(H:Hp) (P:Ω) (q:Str):Prop:=∃ps,H P=ζ (.fc ps)/\TriplesOk ps.toList/\∀pos cv,codeAmong pos ps.toList=ζ cv->∃c,cv=.ref c/\H c=ζ (.ext (NY c q))
def wQ(K:Ψ) (H:Hp):Prop:=∀x∈LA,∀c P,PySem.W.tabIn K x=ζ (c,P)->TabAt H P (abC x)
theorem uA.mono{H H':Hp}{cl:List (Str×Ω)}:∀{ns:List Str}{xs:List V},(∀c o,H c=ζ (.fE o (.own 0))->H' c=ζ (.fE o (.own 0)))->uA H cl ns xs->uA H' cl ns xs
 |[],_,_,h=>h
 |x::ns,xs,k,h=>by
  obtain⟨v,r,c,oc,u,e,h0,h1,h2,h3,h4⟩:=h;exact⟨v,r,c,oc,u,e,h0,k _ _ h1,h2,h3,uA.mono k h4⟩
theorem TabAt.mono{H H':Hp}{P:Ω}{q:Str}(h:TabAt H P q) (k1:∀ps,H P=ζ (.fc ps)->H' P=ζ (.fc ps)) (k2:∀c φ,H c=ζ (.ext φ)->H' c=ζ (.ext φ)):TabAt H' P q:=by
 obtain⟨ps,h1,h2,h3⟩:=h;exact⟨ps,k1 ps h1,h2,λpos cv e=>let⟨c,e1,e2⟩:=h3 pos cv e;⟨c,e1,k2 _ _ e2⟩⟩
theorem wQ.mono{K:Ψ}{H H':Hp}(h:wQ K H) (k1:∀P ps,H P=ζ (.fc ps)->H' P=ζ (.fc ps)) (k2:∀c φ,H c=ζ (.ext φ)->H' c=ζ (.ext φ)):wQ K H':=λx hx c P e=>(h x hx c P e).mono (k1 P) k2
def wR(K:Ψ) (ρ:List Ω) (H:Hp) (a:Ω) (xs:List V):Prop:=(Rd H a (.lst xs)/\a∉ρ)\/bC K (λ_=>η) a xs
mutual
def Rel(K:Ψ) (ρ:List Ω) (H:Hp):D->V->Prop
 |.aQ,v=>v=.aQ
 |.bl b,v=>v=.bl b
 |.int i,v=>v=.int i
 |.str x,v=>v=.str x
 |.ty n,v=>v=.ty n
 |.tup l,v=>∃a xs,v=.ref a/\H a=ζ (.tup xs)/\aM K ρ H l xs
 |.lst l,v=>∃a xs,v=.ref a/\(H a=ζ (.lst xs)/\a∉ρ)/\aM K ρ H l xs
 |.ref k,v=>∃a,v=.ref a/\ρ[k]? = ζ a
 |.bL l,v=>∃a,v=.ref a/\wR K ρ H a (l.map V.int)
 |.fn x n,v=>∃a,v=.ref a/\Γ K Δ x=ζ (ζ (.ref a))
 |.iB,v=>∃a,v=.ref a/\H a=ζ (.ext (NB a))
 |.dct ks,v=>∃a kvs,v=.ref a/\H a=ζ (.dT kvs)/\∀p:Int×Int,((kvs.any λkv=>decide (kv.1=[Sum.inl p.1,Sum.inl p.2]))=decide (p∈ks))
 |.exc x,v=>∃a C,v=.ref a/\Γ K Δ x=ζ (ζ (.ref C))/\H a=ζ (.ext (lH a C))
 |.lam _ e ns l,v=>∃a o q c cl xs,v=.ref a/\H a=ζ (.ext (abD a o))/\ai0 e o q c cl/\H c=ζ (.ext (NY c q))/\ai7 cl ns/\uA H cl ns xs/\aM K ρ H l xs
def aM(K:Ψ) (ρ:List Ω) (H:Hp):List D->List V->Prop
 |[],xs=>xs=[]
 |d::l,xs=>∃x r,xs=x::r/\Rel K ρ H d x/\aM K ρ H l r
end
theorem wR.sql{K:Ψ}{ρ:List Ω}{H:Hp}{a:Ω}{xs:List V}(h:wR K ρ H a xs):bC K H a xs:=by
 rcases h with⟨h,_⟩|(h|h)
 ·exact .inl h
 ·rcases h with h|⟨o,h⟩<;>cases h
 ·exact .inr h
def ai8(K:Ψ) (ρ:List Ω) (H:Hp) (a:Ω):Cell->Prop
 |.lst l=>bO l=Ξ/\∃xs,H a=ζ (.lst xs)/\aM K ρ H l xs
structure Wd (K:Ψ) (ρ:List Ω) (H:Hp) (c:List Cell):Prop where
 nd:ρ.Nodup
 len:ρ.length=c.length
 gk:∀(k:Nat) (a:Ω) (cl:Cell),ρ[k]? = ζ a->c[k]? = ζ cl->ai8 K ρ H a cl
 tab:wQ K H
structure Ext (ρ:List Ω) (H:Hp) (ρ':List Ω) (H':Hp):Prop where
 pre:∀(k:Nat) (a:Ω),ρ[k]? = ζ a->ρ'[k]? = ζ a
 keep:∀a o,H a=ζ o->a∉ρ->acK o=ξ->H' a=ζ o/\a∉ρ'
theorem Ext.refl{ρ:List Ω}{H:Hp}:Ext ρ H ρ H:=⟨λ_ _ h=>h,λ_ _ h n _=>⟨h,n⟩⟩
theorem Ext.trans{ρ aO cC:List Ω}{H H1 H2:Hp}(x:Ext ρ H aO H1) (y:Ext aO H1 cC H2):Ext ρ H cC H2 :=
 ⟨λk a h=>y.pre k a (x.pre k a h),λa o h n t=>let⟨h1,n1⟩:=x.keep a o h n t;y.keep a o h1 n1 t⟩
section
variable {K:Ψ}{ρ ρ':List Ω}{H H':Hp}{c c':List Cell}
theorem Wd.at'(W:Wd K ρ H c) {a:Ω}(h:a∈ρ):∃xs,H a=ζ (.lst xs):=by
 obtain⟨k,hk,e⟩:=aoj.mp h;have hc:k<c.length:=by rw[<-W.len];exact hk
 have q:=W.gk k a c[k] (by rw[ak7 hk,e]) (ak7 hc)
 cases hcl:c[k]with
 |lst l=>rw[hcl]at q;obtain⟨_,xs,h,_⟩:=q;exact⟨xs,h⟩
theorem Wd.noT(W:Wd K ρ H c) {a:Ω}{xs:List V}(h:H a=ζ (.tup xs)):a∉ρ:=λm=>by
 obtain⟨ys,e⟩:=W.at' m;rw[e]at h;cases h
theorem Wd.nil(W:Wd K ρ H c) {a:Ω}(h:H a=η):a∉ρ:=λm=>by
 obtain⟨ys,e⟩:=W.at' m;rw[e]at h;cases h
theorem xJ(W:Wd K ρ H c) (x:Ext ρ H ρ' H') {a:Ω}{xs:List V}(h:H a=ζ (.tup xs)):H' a=ζ (.tup xs):=(x.keep a _ h (W.noT h) rfl).1
theorem Ll(x:Ext ρ H ρ' H') {a:Ω}{xs:List V}(h:H a=ζ (.lst xs)/\a∉ρ):H' a=ζ (.lst xs)/\a∉ρ':=x.keep a _ h.1 h.2 rfl
theorem Jh(x:Ext ρ H ρ' H') {a:Ω}{xs:List V}(h:wR K ρ H a xs):wR K ρ' H' a xs:=by
 rcases h with⟨h,n⟩|h
 ·rcases h with h|⟨o,h⟩
  ·exact .inl ⟨.inl (x.keep a _ h n rfl).1,(x.keep a _ h n rfl).2⟩
  ·exact .inl ⟨.inr ⟨o,(x.keep a _ h n rfl).1⟩,(x.keep a _ h n rfl).2⟩
 ·exact .inr h
mutual
theorem Rel.mono(W:Wd K ρ H c) (x:Ext ρ H ρ' H'):∀(d:D) (v:V),Rel K ρ H d v->Rel K ρ' H' d v
 |.aQ,v,h=>h
 |.bl b,v,h=>h
 |.int i,v,h=>h
 |.str y,v,h=>h
 |.ty n,v,h=>h
 |.tup l,v,h=>by
  obtain⟨a,xs,e,s,r⟩:=h;exact⟨a,xs,e,xJ W x s,aM.mono W x l xs r⟩
 |.lst l,v,h=>by
  obtain⟨a,xs,e,s,r⟩:=h;exact⟨a,xs,e,Ll x s,aM.mono W x l xs r⟩
 |.ref k,v,h=>by
  obtain⟨a,e,s⟩:=h;exact⟨a,e,x.pre k a s⟩
 |.bL l,v,h=>by
  obtain⟨a,e,s⟩:=h;exact⟨a,e,Jh x s⟩
 |.fn a n,v,h=>h
 |.iB,v,h=>by
  obtain⟨a,e,q⟩:=h;exact⟨a,e,(x.keep a _ q (λm=>by obtain⟨ys,z⟩:=W.at' m;rw[z]at q;cases q) rfl).1⟩
 |.dct ks,v,h=>by
  obtain⟨a,kvs,e,q,z⟩:=h;exact⟨a,kvs,e,(x.keep a _ q (λm=>by obtain⟨ys,z⟩:=W.at' m;rw[z]at q;cases q) rfl).1,z⟩
 |.exc y,v,h=>by
  obtain⟨a,C,e,n,q⟩:=h;exact⟨a,C,e,n,(x.keep a _ q (λm=>by obtain⟨ys,z⟩:=W.at' m;rw[z]at q;cases q) rfl).1⟩
 |.lam _ y ns l,v,h=>by
  obtain⟨a,o,q,c,cl,xs,e,h1,h2,h3,h4,h5,h6⟩:=h;have nr:∀(b:Ω) (u:HO),H b=ζ u->(∀ys,u≠.lst ys)->b∉ρ:=λb u q n m=>by obtain⟨ys,z⟩:=W.at' m;rw[z]at q;exact n ys (alo q).symm
  exact⟨a,o,q,c,cl,xs,e,(x.keep a _ h1 (nr a _ h1 λ_ z=>nomatch z) rfl).1,h2,(x.keep c _ h3 (nr c _ h3 λ_ z=>nomatch z) rfl).1,h4,h5.mono (λb o z=>(x.keep b _ z (nr b _ z λ_ z=>nomatch z) rfl).1),aM.mono W x l xs h6⟩
theorem aM.mono(W:Wd K ρ H c) (x:Ext ρ H ρ' H'):∀(l:List D) (xs:List V),aM K ρ H l xs->aM K ρ' H' l xs
 |[],xs,h=>h
 |d::l,xs,h=>by
  obtain⟨y,r,e,h1,h2⟩:=h;exact⟨y,r,e,Rel.mono W x d y h1,aM.mono W x l r h2⟩
end
theorem aM.length:∀{l:List D}{xs:List V},aM K ρ H l xs->xs.length=l.length
 |[],xs,h=>by cases(show xs=[]from h);rfl
 |d::l,xs,h=>by
  obtain⟨y,r,rfl,h1,h2⟩:=h;simp only[ak4,aM.length h2]
theorem aM.get:∀{l:List D}{xs:List V}{i:Nat}{d:D},aM K ρ H l xs->l[i]? = ζ d->∃x,xs[i]? = ζ x/\Rel K ρ H d x
 |[],_,_,_,_,e=>by cases e
 |_::l,_,0,_,h,e=>by
  obtain⟨y,r,rfl,h1,h2⟩:=h;cases e;exact⟨y,rfl,h1⟩
 |_::l,_,i+1,_,h,e=>by
  obtain⟨y,r,rfl,h1,h2⟩:=h;exact aM.get (i:=i) h2 e
theorem aM.append:∀{l m:List D}{xs ys:List V},aM K ρ H l xs->aM K ρ H m ys->aM K ρ H (l++m) (xs++ys)
 |[],m,xs,ys,h,g=>by cases(show xs=[]from h);exact g
 |d::l,m,xs,ys,h,g=>by
  obtain⟨y,r,rfl,h1,h2⟩:=h;exact⟨y,r++ys,rfl,h1,aM.append h2 g⟩
theorem aM.set:∀{l:List D}{xs:List V}{d:D}{x:V}(i:Nat),aM K ρ H l xs->Rel K ρ H d x->aM K ρ H (l.set i d) (xs.set i x)
 |[],xs,d,x,i,h,g=>by cases(show xs=[]from h);exact rfl
 |b::l,xs,d,x,0,h,g=>by
  obtain⟨y,r,rfl,h1,h2⟩:=h;exact⟨x,r,rfl,g,h2⟩
 |b::l,xs,d,x,i+1,h,g=>by
  obtain⟨y,r,rfl,h1,h2⟩:=h;exact⟨y,r.set i x,rfl,h1,aM.set i h2 g⟩
theorem aM.take:∀{l:List D}{xs:List V}(n:Nat),aM K ρ H l xs->aM K ρ H (l.take n) (xs.take n)
 |l,xs,0,h=>by simp only[anz];exact rfl
 |[],xs,n+1,h=>by cases(show xs=[]from h);exact rfl
 |d::l,xs,n+1,h=>by
  obtain⟨y,r,rfl,h1,h2⟩:=h;exact⟨y,r.take n,rfl,h1,aM.take n h2⟩
theorem aM.drop:∀{l:List D}{xs:List V}(n:Nat),aM K ρ H l xs->aM K ρ H (l.drop n) (xs.drop n)
 |l,xs,0,h=>h
 |[],xs,n+1,h=>by cases(show xs=[]from h);exact rfl
 |d::l,xs,n+1,h=>by
  obtain⟨y,r,rfl,h1,h2⟩:=h;exact aM.drop n h2
theorem aM.ints{l:List Int}:aM K ρ H (l.map D.int) (l.map V.int):=by
 induction l with
 |nil=>exact rfl
 |cons a l ih=>exact⟨_,_,rfl,rfl,ih⟩
theorem aM.zq:∀{l:List Int}{xs:List V},aM K ρ H (l.map D.int) xs->xs=l.map V.int
 |[],xs,h=>h
 |a::l,xs,h=>by
  obtain⟨y,r,rfl,h1,h2⟩:=h;cases(show y=V.int a from h1)
  rw[aM.zq h2];rfl
theorem aM.O3:∀{l:List Bool}{xs:List V},aM K ρ H (l.map D.bl) xs->xs=l.map V.bl
 |[],xs,h=>h
 |a::l,xs,h=>by
  obtain⟨y,r,rfl,h1,h2⟩:=h;cases(show y=V.bl a from h1)
  rw[aM.O3 h2];rfl
theorem Ext.fresh{p:Ω}{o:HO}(W:Wd K ρ H c) (h:H p=η):Ext ρ H ρ (upd H p o) :=
 ⟨λ_ _ e=>e,λa u e n _=>⟨by rw[bZ (d7 e h)];exact e,n⟩⟩
theorem Wd.fresh{p:Ω}{o:HO}(W:Wd K ρ H c) (h:H p=η):Wd K ρ (upd H p o) c :=
 ⟨W.nd,W.len,λk a cl e1 e2=>by
  have q:=W.gk k a cl e1 e2;cases cl with
  |lst l =>
   obtain⟨nr,xs,e,r⟩:=q;exact⟨nr,xs,by rw[bZ (d7 e h)];exact e,aM.mono W (Ext.fresh W h) l xs r⟩,
  W.tab.mono (λP ps e=>by rw[bZ (d7 e h)];exact e) (λb φ e=>by rw[bZ (d7 e h)];exact e)⟩
theorem Ext.cell{p:Ω}{o:HO}(W:Wd K ρ H c) (h:H p=η):Ext ρ H (ρ++[p]) (upd H p o) :=
 ⟨λk a e=>by rw[alL (alb.mp e).1];exact e,λa u e n _=>⟨by rw[bZ (d7 e h)];exact e,by
  rw[alj]
  rintro (z|z)
  ·exact n z
  ·exact d7 e h (by simpa using z)⟩⟩
theorem Wd.cell{p:Ω}{l:List D}{xs:List V}(W:Wd K ρ H c) (h:H p=η) (nr:bO l=Ξ) (r:aM K ρ H l xs):Wd K (ρ++[p]) (upd H p (.lst xs)) (c++[.lst l]):=by
 have X:=Ext.cell (o:=.lst xs) W h;refine⟨?_,by simp[W.len],λk a cl e1 e2=>?_,W.tab.mono (λP ps e=>by rw[bZ (d7 e h)];exact e) (λb φ e=>by rw[bZ (d7 e h)];exact e)⟩
 ·rw[amo];refine⟨W.nd,by simp,?_⟩
  intro a ha b hb;rw[alw]at hb;subst hb;exact λz=>W.nil h (z▸ha)
 ·by_cases hk:k<c.length
  ·rw[alL hk]at e2;rw[alL (by rw[W.len];exact hk)]at e1
   have q:=W.gk k a cl e1 e2;cases cl with
   |lst l' =>
    obtain⟨rX,ys,e,r'⟩:=q;exact⟨rX,ys,by rw[bZ (d7 e h)];exact e,aM.mono W X l' ys r'⟩
  ·have hk':k=c.length:=by
    have:=(alb.mp e2).1;simp at this;omega
   subst hk';rw[al3 (akT _),amv]at e2;rw[al3 (by rw[W.len];exact akT _),W.len,amv]at e1
   cases e1;cases e2;exact⟨nr,xs,fS,aM.mono W X l xs r⟩
theorem Ext.write{k:Nat}{p:Ω}{o:HO}(h:ρ[k]? = ζ p):Ext ρ H ρ (upd H p o) :=
 ⟨λ_ _ e=>e,λa u e n _=>⟨by rw[bZ (λz=>n (by rw[z];exact alv h))];exact e,n⟩⟩
theorem Wd.write{k:Nat}{p:Ω}{l:List D}{xs:List V}(W:Wd K ρ H c) (h:ρ[k]? = ζ p) (nr:bO l=Ξ) (r:aM K ρ H l xs):Wd K ρ (upd H p (.lst xs)) (c.set k (.lst l)):=by
 have X:=Ext.write (H:=H) (o:=.lst xs) h;obtain⟨ys,hy⟩:=W.at' (alv h);refine⟨W.nd,by simp[W.len],λj a cl e1 e2=>?_,W.tab.mono (λP ps e=>by rw[bZ (KZ e hy λz=>nomatch z)];exact e) (λb φ e=>by rw[bZ (KZ e hy λz=>nomatch z)];exact e)⟩
 by_cases hj:j=k
 ·subst hj;rw[h]at e1;cases e1;have hl:j<c.length:=by rw[<-W.len];exact(alb.mp h).1
  rw[al0 hl]at e2;cases e2;exact⟨nr,xs,fS,aM.mono W X l xs r⟩
 ·rw[al8 (alP hj)]at e2;have q:=W.gk j a cl e1 e2;have hap:a≠p:=by
   intro e;subst e;have h1:=(alb.mp h);have h2:=(alb.mp e1);exact hj ((anU W.nd (h₀:=h2.1) (h₁:=h1.1)).mp (h2.2.trans h1.2.symm))
  cases cl with
  |lst l' =>
   obtain⟨rX,ys,e,r'⟩:=q;exact⟨rX,ys,by rw[bZ hap];exact e,aM.mono W X l' ys r'⟩
mutual
theorem Rel.low(h:∀a,a∈ρ'->a∈ρ):∀(d:D) (v:V),noRef d=Ξ->Rel K ρ H d v->Rel K ρ' H d v
 |.aQ,v,_,r=>r
 |.bl b,v,_,r=>r
 |.int i,v,_,r=>r
 |.str y,v,_,r=>r
 |.ty n,v,_,r=>r
 |.tup l,v,n,r=>by
  obtain⟨a,xs,e,s,r⟩:=r;exact⟨a,xs,e,s,aM.low h l xs n r⟩
 |.lst l,v,n,r=>by
  obtain⟨a,xs,e,s,r⟩:=r;exact⟨a,xs,e,⟨s.1,λq=>s.2 (h a q)⟩,aM.low h l xs n r⟩
 |.ref k,v,n,r=>by cases n
 |.bL l,v,n,r=>by
  obtain⟨a,e,s⟩:=r;refine⟨a,e,?_⟩
  rcases s with⟨s,z⟩|s
  ·exact .inl ⟨s,λq=>z (h a q)⟩
  ·exact .inr s
 |.fn a m,v,n,r=>r
 |.exc y,v,n,r=>r
 |.iB,v,n,r=>r
 |.dct _,v,n,r=>r
 |.lam _ _ _ _,v,n,r=>by cases n
theorem aM.low(h:∀a,a∈ρ'->a∈ρ):∀(l:List D) (xs:List V),bO l=Ξ->aM K ρ H l xs->aM K ρ' H l xs
 |[],xs,_,r=>r
 |d::l,xs,n,r=>by
  obtain⟨y,ys,e,h1,h2⟩:=r;have n:(noRef d&&bO l)=Ξ:=n;rw[ak9]at n;exact⟨y,ys,e,Rel.low h d y n.1 h1,aM.low h l ys n.2 h2⟩
end
theorem Wd.cut{n:Nat}(W:Wd K ρ H c) (hn:n<=c.length):Wd K (ρ.take n) H (c.take n):=by
 have sub:∀a,a∈ρ.take n->a∈ρ:=λa h=>amq h
 refine⟨W.nd.sublist (an0 _ _),by simp[W.len],λk a cl e1 e2=>?_,W.tab⟩
 rw[am5]at e1 e2;split at e1
 ·rename_i hk;rw[if_pos hk]at e2;have q:=W.gk k a cl e1 e2;cases cl with
  |lst l =>
   obtain⟨nr,xs,e,r⟩:=q;exact⟨nr,xs,e,aM.low sub l xs nr r⟩
 ·cases e1
theorem Ext.cut{n:Nat}(x:Ext ρ H ρ' H') (hn:ρ.length<=n):Ext ρ H (ρ'.take n) H' :=
 ⟨λk a e=>by rw[am5,if_pos (alc (alb.mp e).1 hn)];exact x.pre k a e,λa o e z t=>let⟨h1,h2⟩:=x.keep a o e z t;⟨h1,λq=>h2 (amq q)⟩⟩
theorem Ext.len(W:Wd K ρ H c) (W':Wd K ρ' H' c') (x:Ext ρ H ρ' H'):c.length<=c'.length:=by
 rw[<-W.len,<-W'.len]
 by_cases h:ρ.length<=ρ'.length
 ·exact h
 ·exfalso;have h':ρ'.length<ρ.length:=Nat.lt_of_not_le h;have e:=x.pre ρ'.length ρ[ρ'.length] (ak7 h');rw[amw (akT _)]at e;cases e
end
abbrev Ev:=List (Option D)
def post{α β:Type}(K:Ψ) (Rl:List Ω->Hp->α->β->Prop) (r:R α) (ρ:List Ω) (H:Hp) (Q:β->Hp->Prop):Prop:=match r with
 |.ok a c=>∀ρ' H' b,Wd K ρ' H' c->Ext ρ H ρ' H'->Rl ρ' H' a b->Q b H'
 |.bad=>False
structure dz (K:Ψ) (ρ:List Ω) (H:Hp) (e:Ev) (σ:St):Prop where
 get:∀(i:Nat) (d:D),e[i]? = ζ (ζ d)->∃v,σ[i]? = ζ (ζ v)/\Rel K ρ H d v
 len:e.length=σ.length
def tD{α β:Type}(K:Ψ) (Rl:List Ω->Hp->α->β->Prop) (d:Ev->List Cell->R α):St->Hp->(β->Hp->Prop)->Prop :=
 λσ H Q=>∃ρ e c,Wd K ρ H c/\dz K ρ H e σ/\post K Rl (d e c) ρ H Q
section
variable {α β γ δ:Type}{K:Ψ}{ρ ρ':List Ω}{H H':Hp}{c:List Cell}{e:Ev}{σ:St}{Rl:List Ω->Hp->α->β->Prop}{Rm:List Ω->Hp->γ->δ->Prop}
theorem dz.mono(V:dz K ρ H e σ) (W:Wd K ρ H c) (x:Ext ρ H ρ' H'):dz K ρ' H' e σ :=
 ⟨λi d h=>let⟨v,h1,h2⟩:=V.get i d h;⟨v,h1,Rel.mono W x d v h2⟩,V.len⟩
theorem dz.set(V:dz K ρ H e σ) {d:D}{v:L2.V}(r:Rel K ρ H d v) (i:Nat):dz K ρ H (e.set i (ζ d)) (σ.set i (ζ v)):=by
 refine⟨λj b h=>?_,by simp[V.len]⟩
 by_cases hj:j=i
 ·subst hj;have hl:j<e.length:=by
   have:=(alb.mp h).1
   simpa using this
  rw[al0 hl]at h;cases h;exact⟨v,by rw[al0 (by rw[<-V.len];exact hl)],r⟩
 ·rw[al8 (alP hj)]at h ⊢;exact V.get j b h
theorem post.ext{r:R α}{Q:β->Hp->Prop}(p:post K Rl r ρ H Q) (x:Ext ρ H ρ' H'):post K Rl r ρ' H' Q:=by
 cases r with
 |ok a c=>exact λcC H2 b W y r=>p cC H2 b W (x.trans y) r
 |bad=>exact p
theorem post.mono{r:R α}{Q Q':β->Hp->Prop}(p:post K Rl r ρ H Q) (h:∀b H,Q b H->Q' b H):post K Rl r ρ H Q':=by
 cases r with
 |ok a c=>exact λcC H2 b W y r=>h _ _ (p cC H2 b W y r)
 |bad=>exact p
theorem post.bind{r:R α}{f:α->List Cell->R γ}{Q:δ->Hp->Prop}{S:β->Hp->Prop}(p:post K Rm (r.bind f) ρ H Q)
  (h:∀a c1 ρ' H' b,r=.ok a c1->Wd K ρ' H' c1->Ext ρ H ρ' H'->Rl ρ' H' a b->post K Rm (f a c1) ρ' H' Q->S b H'):post K Rl r ρ H S:=by
 cases r with
 |ok a c1=>exact λρ' H' b W x r=>h a c1 ρ' H' b rfl W x r (post.ext (r:=f a c1) p x)
 |bad=>exact p
theorem post.here{a:α}{b:β}{Q:β->Hp->Prop}(p:post K Rl (.ok a c) ρ H Q) (W:Wd K ρ H c) (r:Rl ρ H a b):Q b H:=p ρ H b W Ext.refl r
end
abbrev aX(X:Cx) (e:π) (d:Ev->List Cell->R D):Prop:=PE X e (tD X.K (Rel X.K) d)
abbrev iE(X:Cx) (e:π) (d:Ev->List Cell->R Bool):Prop:=PT X e (tD X.K (λ_ _ a b=>a=b) d)
abbrev uw(X:Cx) (e:π) (d:Ev->List Cell->R Bool):Prop:=PW X e (tD X.K (λ_ _ a b=>a=b) d)
abbrev fq(X:Cx) (es:List π) (d:Ev->List Cell->R (List D)):Prop:=PA X es (tD X.K (aM X.K) d)
section
variable {X:Cx}{e:π}{es:List π}{st:acz}{sts:List acz}
theorem PE.imp{t t':TE}(h:PE X e t) (i:∀σ H Q,t' σ H Q->t σ H Q):PE X e t':=λpins s σ H Q I q=>h pins s σ H Q I (i _ _ _ q)
theorem PT.imp{t t':TT}(h:PT X e t) (i:∀σ H Q,t' σ H Q->t σ H Q):PT X e t':=λpins s σ H Q I q=>h pins s σ H Q I (i _ _ _ q)
theorem PW.imp{t t':TT}(h:PW X e t) (i:∀σ H Q,t' σ H Q->t σ H Q):PW X e t':=λwh pins s σ H Q I q=>h wh pins s σ H Q I (i _ _ _ q)
theorem PA.imp{t t':TA}(h:PA X es t) (i:∀σ H Q,t' σ H Q->t σ H Q):PA X es t':=λpos pins s σ H Q I q=>h pos pins s σ H Q I (i _ _ _ q)
theorem PS.imp{t t':TS}(h:PS X st t) (i:∀D σ H,t' D σ H->t D σ H):PS X st t':=λpins s σ H D I q=>h pins s σ H D I (i _ _ _ q)
theorem eX.imp{t t':TS}(h:eX X sts t) (i:∀D σ H,t' D σ H->t D σ H):eX X sts t':=λpins s σ H D I q=>h pins s σ H D I (i _ _ _ q)
end
def ak(i:Nat):Ev->List Cell->R D:=λe c=>match e[i]? with
 |some (ζ d)=>.ok d c
 |_=>.bad
def dC(d:D):Ev->List Cell->R D:=λ_ c=>.ok d c
section
variable {X:Cx}
theorem av(i:Nat) {x:Str}{pos:Pos}(hN:X.N[i]? = ζ x:=by rfl) (hv:HA X.env.scope x:=by first|exact Or.inl rfl|exact Or.inr (Or.inl rfl)|exact Or.inr (Or.inr rfl)) (hd:(x==("__debug__":Str))=ξ:=by decide)
  (hcd:(x==("__classdict__":Str))=ξ:=by decide):aX X (.Name x pos) (ak i):=(WZ hN hv hd hcd).imp λσ H Q h=>by
 obtain⟨ρ,e,c,W,V,p⟩:=h;unfold ak at p;cases q:e[i]? with
 |none=>rw[q]at p;exact p.elim
 |some o =>
  rw[q]at p;cases o with
  |none=>exact p.elim
  |some d =>
   obtain⟨v,hv,r⟩:=V.get i d q;exact⟨v,hv,p.here W r⟩
theorem pD{e:π}{v:V}{d:D}(h:PE X e (tC v)) (r:∀ρ H,Rel X.K ρ H d v):aX X e (dC d):=h.imp λσ H Q h=>by
 obtain⟨ρ,e,c,W,V,p⟩:=h;exact post.here (r:=r ρ H) p W
theorem aR{i j pos}:aX X (.Constant (.int i) j pos) (dC (.int i)):=pD Xh λ_ _=>rfl
theorem fB{b j pos}:aX X (.Constant (.bool b) j pos) (dC (.bl b)):=pD Xn λ_ _=>rfl
theorem yo{j pos}:aX X (.Constant .none j pos) (dC .aQ):=pD Xf λ_ _=>rfl
theorem gx{x j pos}:aX X (.Constant (.str x) j pos) (dC (.str x)):=pD W8 λ_ _=>rfl
theorem fK{x:Str}{n:String}{pos:Pos}(hg:Gl X x) (hm:X.mg x=η) (hv:bootBuiltins x=ζ (.type n)) (hn:x≠"__name__":=by decide) (hd:(x==("__debug__":Str))=ξ:=by decide):aX X (.Name x pos) (dC (.ty n)):=pD (W0 hg hm hv hn hd) λ_ _=>rfl
theorem Xx{x:Str}{i:Int}{t:Tok}{pos:Pos}(hg:Gl X x) (hm:X.mg x=ζ (.int i t)) (hd:(x==("__debug__":Str))=ξ:=by decide):aX X (.Name x pos) (dC (.int i)):=pD (J0 (v:=.int i) hg hm ⟨t,rfl⟩ hd) λ_ _=>rfl
end
end L2
namespace L2
open PySem PySem.Spec PyProof.Rows
def au(f:D->D->List Cell->R D) (a b:Ev->List Cell->R D):Ev->List Cell->R D:=λe c=>(a e c).bind λx c=>(b e c).bind λy c=>f x y c
def r2(K:Ψ) (f:D->D->List Cell->R D):R2:=λv u H Q=>∃ρ x y c,Wd K ρ H c/\Rel K ρ H x v/\Rel K ρ H y u/\post K (Rel K) (f x y c) ρ H Q
def r1(K:Ψ) (f:D->List Cell->R D):V->Hp->VK->Prop:=λv H Q=>∃ρ x c,Wd K ρ H c/\Rel K ρ H x v/\post K (Rel K) (f x c) ρ H Q
def rN(K:Ψ) (f:List D->List Cell->R D):List V->Hp->VK->Prop:=λvs H Q=>∃ρ xs c,Wd K ρ H c/\aM K ρ H xs vs/\post K (Rel K) (f xs c) ρ H Q
def aB(f:List D->List Cell->R D) (a:Ev->List Cell->R (List D)):Ev->List Cell->R D:=λe c=>(a e c).bind λxs c=>f xs c
section
variable {X:Cx}{a b:π}{da db dd:Ev->List Cell->R D}{pos:Pos}{K:Ψ}{σ:St}{H:Hp}{Q:VK}{f:D->D->List Cell->R D}
theorem xM(h:tD K (Rel K) (au f da db) σ H Q):tD K (Rel K) da σ H λv H1=>tD K (Rel K) db σ H1 λu H2=>r2 K f v u H2 Q:=by
 obtain⟨ρ,e,c,W,V,p⟩:=h;refine⟨ρ,e,c,W,V,post.bind p λx c1 aO H1 v _ W1 X1 r1 p1=>⟨aO,e,c1,W1,V.mono W X1,post.bind p1 λy c2 cC H2 u _ W2 X2 r2 p2=>⟨cC,x,y,c2,W2,Rel.mono W1 X2 _ _ r1,r2,p2⟩⟩⟩
theorem IP{g:List D->List Cell->R D}{ds:Ev->List Cell->R (List D)}(h:tD K (Rel K) (aB g ds) σ H Q):tD K (aM K) ds σ H λvs H1=>rN K g vs H1 Q:=by
 obtain⟨ρ,e,c,W,V,p⟩:=h;exact⟨ρ,e,c,W,V,post.bind p λx c1 aO H1 v _ W1 X1 r1 p1=>⟨aO,x,c1,W1,r1,p1⟩⟩
theorem aS{op:Operator}(ho:bN X (binaryOp op) (r2 X.K f)) (ha:aX X a da) (hb:aX X b db):aX X (.BinOp a op b pos) (au f da db):=(Xa ho ha hb).imp λσ H Q h=>xM h
theorem pF{op:CmpOp}(ho:bN X (compareOp op) (r2 X.K f)) (ha:aX X a da) (hb:aX X b db) (hm:behindInMarks op b=ξ:=by first|exact KL _|rfl):aX X (.Compare a [op] [b] pos) (au f da db):=(Xk ho ha hb hm).imp λσ H Q h=>xM h
theorem ck(hr:wZ X (r2 X.K f)) (ha:aX X a da) (hb:aX X b db) (hs:Pq b:=by exact λ_ _=>rfl):aX X (.Subscript a b pos) (au f da db):=(Xg hr ha hb hs).imp λσ H Q h=>xM h
def gY(f g:D->D->List Cell->R D) (a b d:Ev->List Cell->R D):Ev->List Cell->R D:=λe c=>(a e c).bind λx c=>(b e c).bind λy c=>(f x y c).bind λz c=>match z with
 |.bl Ξ=>(d e c).bind λu c=>g y u c
 |.bl ξ=>.ok (.bl ξ) c
 |_=>.bad
end
def aq:Ev->List Cell->R (List D):=λ_ c=>.ok [] c
def ao(a:Ev->List Cell->R D) (r:Ev->List Cell->R (List D)):Ev->List Cell->R (List D):=λe c=>(a e c).bind λx c=>(r e c).bind λxs c=>.ok (x::xs) c
def dN(a:Ev->List Cell->R (List D)):Ev->List Cell->R D:=λe c=>(a e c).bind λxs c=>if xs.length<=ι then .ok (.tup xs) c else .bad
def bH(a:Ev->List Cell->R (List D)):Ev->List Cell->R D:=λe c=>(a e c).bind λxs c=>if xs.length<=ι then .ok (.lst xs) c else .bad
def eV(a:Ev->List Cell->R (List D)):Ev->List Cell->R D:=λe c=>(a e c).bind λxs c=>if xs.length<=ι/\bO xs=Ξ then .ok (.ref c.length) (c++[.lst xs])else .bad
section
variable {X:Cx}{a:π}{es:List π}{da:Ev->List Cell->R D}{ds:Ev->List Cell->R (List D)}{pos:Pos}{K:Ψ}{ρ:List Ω}{H:Hp}{c:List Cell}{Q:VK}{xs:List D}{vs:List V}
theorem az:fq X [] aq:=jA.imp λσ H Q h=>by
 obtain⟨ρ,e,c,W,V,p⟩:=h;exact post.here (b:=[]) p W rfl
theorem ay(ha:aX X a da) (hr:fq X es ds) (hs:μ (a::es) X.env=(ξ,eval a X.env)::μ es X.env:=by exact b7 rfl):fq X (a::es) (ao da ds):=(jB ha hr hs).imp λσ H Q h=>by
 obtain⟨ρ,e,c,W,V,p⟩:=h;refine⟨ρ,e,c,W,V,post.bind p λx c1 aO H1 v _ W1 X1 r1 p1=>⟨aO,e,c1,W1,V.mono W X1,post.bind p1 λy c2 cC H2 u _ W2 X2 r2 p2=>?_⟩⟩
 exact p2.here W2 ⟨v,u,rfl,Rel.mono W1 X2 _ _ r1,r2⟩
theorem vp(W:Wd K ρ H c) (r:aM K ρ H xs vs) (p:post K (Rel K) (.ok (.tup xs) c) ρ H Q):∀q,H q=η->Q (.ref q) (upd H q (.tup vs)):=λq hq =>
 p ρ _ _ (W.fresh hq) (Ext.fresh W hq) ⟨q,vs,rfl,fS,aM.mono W (Ext.fresh W hq) _ _ r⟩
theorem kY(W:Wd K ρ H c) (r:aM K ρ H xs vs) (p:post K (Rel K) (.ok (.lst xs) c) ρ H Q):∀q,H q=η->Q (.ref q) (upd H q (.lst vs)):=λq hq =>
 p ρ _ _ (W.fresh hq) (Ext.fresh W hq) ⟨q,vs,rfl,⟨fS,W.nil hq⟩,aM.mono W (Ext.fresh W hq) _ _ r⟩
theorem CH(W:Wd K ρ H c) (nr:bO xs=Ξ) (r:aM K ρ H xs vs) (p:post K (Rel K) (.ok (.ref c.length) (c++[.lst xs])) ρ H Q):∀q,H q=η->Q (.ref q) (upd H q (.lst vs)):=λq hq =>
 p (ρ++[q]) _ _ (W.cell hq nr r) (Ext.cell W hq) ⟨q,rfl,by rw[al3 (by rw[W.len];exact akT _),W.len,amv];rfl⟩
theorem j4{x1}(h:fq X es ds):aX X (.Tuple es x1 pos) (dN ds):=(W7 h).imp λσ H Q h=>by
 obtain⟨ρ,e,c,W,V,p⟩:=h;refine⟨ρ,e,c,W,V,post.bind p λx c1 aO H1 v _ W1 X1 r1 p1=>?_⟩
 split at p1
 ·rename_i hl;exact⟨by rw[r1.length];exact hl,vp W1 r1 p1⟩
 ·exact p1.elim
theorem eo(h:fq X es ds):aX X (.List es pos) (bH ds):=(JZ h).imp λσ H Q h=>by
 obtain⟨ρ,e,c,W,V,p⟩:=h;refine⟨ρ,e,c,W,V,post.bind p λx c1 aO H1 v _ W1 X1 r1 p1=>?_⟩
 split at p1
 ·rename_i hl;exact⟨by rw[r1.length];exact hl,kY W1 r1 p1⟩
 ·exact p1.elim
theorem j5(h:fq X es ds):aX X (.List es pos) (eV ds):=(JZ h).imp λσ H Q h=>by
 obtain⟨ρ,e,c,W,V,p⟩:=h;refine⟨ρ,e,c,W,V,post.bind p λx c1 aO H1 v _ W1 X1 r1 p1=>?_⟩
 split at p1
 ·rename_i hl;exact⟨by rw[r1.length];exact hl.1,CH W1 hl.2 r1 p1⟩
 ·exact p1.elim
end
def aZ:D->D->List Cell->R D:=λx y c=>match x,y with
 |.int i,.int j=>.ok (.int (i+j)) c
 |.str a,.str b=>if a.length+b.length<=ι then .ok (.str (a++b)) c else .bad
 |.tup l,.tup m=>if l.length≠0/\l.length+m.length<=ι then .ok (.tup (l++m)) c else .bad
 |_,_=>.bad
def bS:D->D->List Cell->R D:=λx y c=>match x,y with
 |.int i,.int j=>.ok (.int (i-j)) c
 |_,_=>.bad
def b8:D->D->List Cell->R D:=λx y c=>match x,y with
 |.int i,.int j=>if(-(2^64)<i/\i<2^64)\/(-(2^64)<j/\j<2^64)then .ok (.int (i*j)) c else .bad
 |_,_=>.bad
def gO:D->D->List Cell->R D:=λx y c=>match x,y with
 |.int i,.int j=>if 0<j/\j<1073741824 then .ok (.int (i/j)) c else .bad
 |_,_=>.bad
def bT:D->D->List Cell->R D:=λx y c=>match x,y with
 |.int i,.int j=>if 0<j then .ok (.int (i % j)) c else .bad
 |_,_=>.bad
def rO:D->D->List Cell->R D:=λx y c=>match x,y with
 |.int i,.int j=>if 0<=j/\j<=1000000/\i.natAbs<2^64 then .ok (.int (i^j.toNat)) c else .bad
 |_,_=>.bad
def pX(p:Int->Int->Bool):D->D->List Cell->R D:=λx y c=>match x,y with
 |.int i,.int j=>.ok (.bl (p i j)) c
 |_,_=>.bad
section
variable {X:Cx}
theorem cY:bN X (binaryOp .Add) (r2 X.K aZ):=by
 intro pins s σ H v u vv uu Q I rv ru h;obtain⟨ρ,x,y,c,W,rx,ry,p⟩:=h;unfold aZ at p;split at p
 ·cases rx;cases ry;exact Ym pins s σ H _ _ vv uu Q I rv ru ⟨_,_,rfl,rfl,p.here W rfl⟩
 ·split at p
  ·rename_i hl;cases rx;cases ry;exact Yl pins s σ H _ _ vv uu Q I rv ru ⟨_,_,rfl,rfl,hl,p.here W rfl⟩
  ·exact p.elim
 ·split at p
  ·rename_i hl;obtain⟨a,xs,rfl,sa,ra⟩:=rx;obtain⟨b,ys,rfl,sb,rb⟩:=ry;refine Kd pins s σ H _ _ vv uu Q I rv ru ⟨a,b,xs,ys,rfl,rfl,bU.of sa,bU.of sb,λz=>hl.1 ?_,by rw[ra.length,rb.length];exact hl.2,λz=>?_,λ_=>vp W (ra.append rb) p⟩
   ·rw[<-ra.length,z];rfl
   ·refine p.here W ⟨a,xs++ys,rfl,by rw[z,amb];exact sa,ra.append rb⟩
  ·exact p.elim
 ·exact p.elim
theorem fW:bN X (binaryOp .Sub) (r2 X.K bS):=by
 intro pins s σ H v u vv uu Q I rv ru h;obtain⟨ρ,x,y,c,W,rx,ry,p⟩:=h;unfold bS at p;split at p
 ·cases rx;cases ry;exact XW pins s σ H _ _ vv uu Q I rv ru ⟨_,_,rfl,rfl,p.here W rfl⟩
 ·exact p.elim
theorem ji:bN X (binaryOp .Mult) (r2 X.K b8):=by
 intro pins s σ H v u vv uu Q I rv ru h;obtain⟨ρ,x,y,c,W,rx,ry,p⟩:=h;unfold b8 at p;split at p
 ·split at p
  ·rename_i hl;cases rx;cases ry;exact X7 pins s σ H _ _ vv uu Q I rv ru ⟨_,_,rfl,rfl,hl,p.here W rfl⟩
  ·exact p.elim
 ·exact p.elim
theorem vm:bN X (binaryOp .FloorDiv) (r2 X.K gO):=by
 intro pins s σ H v u vv uu Q I rv ru h;obtain⟨ρ,x,y,c,W,rx,ry,p⟩:=h;unfold gO at p;split at p
 ·split at p
  ·rename_i hl;cases rx;cases ry;exact Yh pins s σ H _ _ vv uu Q I rv ru ⟨_,_,rfl,rfl,hl,p.here W rfl⟩
  ·exact p.elim
 ·exact p.elim
theorem iw:bN X (binaryOp .Mod) (r2 X.K bT):=by
 intro pins s σ H v u vv uu Q I rv ru h;obtain⟨ρ,x,y,c,W,rx,ry,p⟩:=h;unfold bT at p;split at p
 ·split at p
  ·rename_i hl;cases rx;cases ry;exact X8 pins s σ H _ _ vv uu Q I rv ru ⟨_,_,rfl,rfl,hl,p.here W rfl⟩
  ·exact p.elim
 ·exact p.elim
theorem Ku:bN X (binaryOp .Pow) (r2 X.K rO):=by
 intro pins s σ H v u vv uu Q I rv ru h;obtain⟨ρ,x,y,c,W,rx,ry,p⟩:=h;unfold rO at p;split at p
 ·split at p
  ·rename_i hl;cases rx;cases ry;exact XZ pins s σ H _ _ vv uu Q I rv ru ⟨_,_,rfl,rfl,hl,p.here W rfl⟩
  ·exact p.elim
 ·exact p.elim
theorem yS{f:Θ->Θ->Sem Θ}{q:Int->Int->Bool}(h:bN X f (jX λi j=>.bl (q i j))):bN X f (r2 X.K (pX q)):=by
 intro pins s σ H v u vv uu Q I rv ru hh;obtain⟨ρ,x,y,c,W,rx,ry,p⟩:=hh;unfold pX at p;split at p
 ·cases rx;cases ry;exact h pins s σ H _ _ vv uu Q I rv ru ⟨_,_,rfl,rfl,p.here W rfl⟩
 ·exact p.elim
abbrev Lk:=pX λi j=>decide (i<j)
abbrev ez:=pX λi j=>decide (i<=j)
abbrev sQ:=pX λi j=>decide (j<i)
abbrev MO:=pX λi j=>decide (j<=i)
theorem YQ:bN X (compareOp .Lt) (r2 X.K Lk):=yS Yb
theorem rV:bN X (compareOp .LtE) (r2 X.K ez):=yS Yc
theorem Kw:bN X (compareOp .Gt) (r2 X.K sQ):=yS Ye
theorem Zp:bN X (compareOp .GtE) (r2 X.K MO):=yS Yg
end
def FZ:D->D->Option Bool
 |.aQ,.aQ=>ζ Ξ|.aQ,.int _=>ζ ξ|.int _,.aQ=>ζ ξ|.aQ,.bl _=>ζ ξ|.bl _,.aQ=>ζ ξ|.aQ,.str _=>ζ ξ|.str _,.aQ=>ζ ξ
 |.int i,.int j=>ζ (decide (i=j))|.bl a,.bl b=>ζ (decide (a=b))|.str x,.str y=>ζ (decide (x=y))
 |.int _,.str _=>ζ ξ|.str _,.int _=>ζ ξ|.bl _,.str _=>ζ ξ|.str _,.bl _=>ζ ξ
 |_,_=>η
def cy:D->D->List Cell->R D:=λx y c=>match FZ x y with
 |some b=>.ok (.bl b) c
 |none=>.bad
def fX:D->D->List Cell->R D:=λx y c=>match FZ x y with
 |some b=>.ok (.bl (!b)) c
 |none=>.bad
def iQ:D->Bool
 |.aQ=>Ξ
 |_=>ξ
def vI:D->D->List Cell->R D:=λx y c=>match y with
 |.aQ=>.ok (.bl (iQ x)) c
 |_=>.bad
section
variable {X:Cx}{K:Ψ}{ρ:List Ω}{H:Hp}{c:List Cell}
theorem Nt{x y:D}{v u:V}{b:Bool}(rx:Rel K ρ H x v) (ry:Rel K ρ H y u) (h:FZ x y=ζ b):BU v u=Ξ/\decide (v=u)=b:=by
 cases x<;>cases y<;>first
  |(cases rx;cases ry;cases h;refine⟨rfl,?_⟩;simp;done)
  |(cases h;done)
theorem iy:bN X (compareOp .Eq) (r2 X.K cy):=by
 intro pins s σ H v u vv uu Q I rv ru h;obtain⟨ρ,x,y,c,W,rx,ry,p⟩:=h;unfold cy at p;split at p
 ·rename_i b hb;obtain⟨h1,h2⟩:=Nt rx ry hb;exact Yi pins s σ H _ _ vv uu Q I rv ru ⟨h1,by rw[h2];exact p.here W rfl⟩
 ·exact p.elim
theorem pH:bN X (compareOp .NotEq) (r2 X.K fX):=by
 intro pins s σ H v u vv uu Q I rv ru h;obtain⟨ρ,x,y,c,W,rx,ry,p⟩:=h;unfold fX at p;split at p
 ·rename_i b hb;obtain⟨h1,h2⟩:=Nt rx ry hb;exact X0 pins s σ H _ _ vv uu Q I rv ru ⟨h1,by rw[h2];exact p.here W rfl⟩
 ·exact p.elim
theorem acR{x:D}{v:V}(rx:Rel K ρ H x v):decide (v=.aQ)=iQ x:=by
 cases x<;>first
  |(cases rx;rfl;done)
  |(cases rx;simp[iQ];done)
  |(obtain⟨a,xs,rfl,_⟩:=rx;simp[iQ];done)
  |(obtain⟨a,rfl,_⟩:=rx;simp[iQ];done)
  |(obtain⟨a,o,q,c,cl,xs,rfl,_⟩:=rx;simp[iQ];done)
theorem Kv:bN X (compareOp .Is) (r2 X.K vI):=by
 intro pins s σ H v u vv uu Q I rv ru h;obtain⟨ρ,x,y,c,W,rx,ry,p⟩:=h;unfold vI at p;split at p
 ·cases ry;exact Yd pins s σ H _ _ vv uu Q I rv ru ⟨rfl,by rw[acR rx];exact p.here W rfl⟩
 ·exact p.elim
theorem XD{a b d:π}{da db dd:Ev->List Cell->R D}{pos:Pos}{op op':CmpOp}{f g:D->D->List Cell->R D}(ho:bN X (compareOp op) (r2 X.K f)) (ho':bN X (compareOp op') (r2 X.K g)) (ha:aX X a da) (hb:aX X b db) (hd:aX X d dd)
  (h1:lastMarks [op,op'] [b,d]=ξ:=by with_unfolding_all rfl) :
  aX X (.Compare a [op,op'] [b,d] pos) (gY f g da db dd):=(Xl ho ho' ha hb hd h1).imp λσ H Q h=>by
 obtain⟨ρ,e,c,W,V,p⟩:=h;refine⟨ρ,e,c,W,V,post.bind p λx c1 aO H1 v _ W1 X1 r1 p1=>⟨aO,e,c1,W1,V.mono W X1,post.bind p1 λy c2 cC H2 u _ W2 X2 r2 p2=>⟨cC,x,y,c2,W2,Rel.mono W1 X2 _ _ r1,r2,post.bind p2 λz c3 m5 H3 w _ W3 X3 r3 p3=>?_⟩⟩⟩
 have V3:=(V.mono W X1).mono W1 (X2.trans X3);cases z with
 |bl k =>
  cases r3;refine⟨k,rfl,?_⟩;cases k with
  |true =>
   refine ly ⟨m5,e,c3,W3,V3,post.bind p3 λt c4 oK H4 w4 _ W4 X4 r4 p4=>⟨oK,y,t,c4,W4,Rel.mono W2 (X3.trans X4) _ _ r2,r4,p4⟩⟩
  |false=>exact lz (p3.here W3 rfl)
 |_=>exact p3.elim
end
def gw(c:List Cell):D->Option (List D)
 |.tup l=>ζ l
 |.lst l=>ζ l
 |.bL l=>ζ (l.map D.int)
 |.ref k=>match c[k]? with
  |some (.lst l)=>ζ l
  |none=>η
 |_=>η
def aF:D->D->List Cell->R D:=λx y c=>match y with
 |.int i=>match gw c x with
  |some l=>match cJ l i with
   |some d=>.ok d c
   |none=>.bad
  |none=>.bad
 |_=>.bad
section
variable {X:Cx}{K:Ψ}{ρ:List Ω}{H:Hp}{c:List Cell}
theorem xV{x:D}{v:V}{l:List D}(W:Wd K ρ H c) (rx:Rel K ρ H x v) (h:gw c x=ζ l):∃a xs,v=.ref a/\(bC K H a xs\/bU K H a xs)/\aM K ρ H l xs:=by
 cases x with
 |tup m =>
  cases h;obtain⟨a,xs,e,s,r⟩:=rx;exact⟨a,xs,e,.inr (bU.of s),r⟩
 |lst m =>
  cases h;obtain⟨a,xs,e,s,r⟩:=rx;exact⟨a,xs,e,.inl (bC.of s.1),r⟩
 |bL m =>
  cases h;obtain⟨a,e,s⟩:=rx;exact⟨a,_,e,.inl s.sql,aM.ints⟩
 |ref k =>
  obtain⟨a,e,s⟩:=rx;unfold gw at h;dsimp only at h;cases hc:c[k]? with
  |none=>rw[hc]at h;cases h
  |some cl =>
   cases cl with
   |lst m =>
    rw[hc]at h;cases h;obtain⟨_,xs,hx,r⟩:=W.gk k a _ s hc;exact⟨a,xs,e,.inl (bC.of hx),r⟩
 |_=>cases h
theorem ahX{l:List D}{xs:List V}{i:Int}{d:D}(r:aM K ρ H l xs) (h:cJ l i=ζ d):∃v,cJ xs i=ζ v/\Rel K ρ H d v:=by
 unfold cJ at h ⊢;rw[r.length];cases e:fM l.length i with
 |none=>rw[e]at h;cases h
 |some j =>
  rw[e]at h;exact r.get (i:=j) h
theorem cu:wZ X (r2 X.K aF):=by
 intro value slice pins s σ H v u vv uu Q I rv ru h hs;obtain⟨ρ,x,y,c,W,rx,ry,p⟩:=h;unfold aF at p;split at p
 ·split at p
  ·rename_i l hl;split at p
   ·rename_i d hd;cases ry;obtain⟨a,xs,rfl,sq,r⟩:=xV W rx hl;obtain⟨w,hw,rw'⟩:=ahX r hd
    rcases sq with sq|sq
    ·exact acy value slice pins s σ H _ _ vv uu Q I rv ru ⟨a,xs,_,w,rfl,rfl,sq,hw,p.here W rw'⟩ hs
    ·exact acw value slice pins s σ H _ _ vv uu Q I rv ru ⟨a,xs,_,w,rfl,rfl,sq,hw,p.here W rw'⟩ hs
   ·exact p.elim
  ·exact p.elim
 ·exact p.elim
end
def uH(c:List Cell):D->Option Bool
 |.aQ=>ζ ξ
 |.bl b=>ζ b
 |.int i=>ζ (i != 0)
 |.tup l=>ζ (!l.isEmpty)
 |.lst l=>ζ (!l.isEmpty)
 |.ref k=>match c[k]? with
  |some (.lst l)=>ζ (!l.isEmpty)
  |none=>η
 |_=>η
def tE(a:Ev->List Cell->R D):Ev->List Cell->R Bool:=λe c=>(a e c).bind λx c=>match uH c x with
 |some b=>.ok b c
 |none=>.bad
def aL(a:Ev->List Cell->R D):Ev->List Cell->R Bool:=λe c=>(a e c).bind λx c=>match x with
 |.bl b=>.ok b c
 |_=>.bad
def gB(a b:Ev->List Cell->R Bool):Ev->List Cell->R Bool:=λe c=>(a e c).bind λx c=>if x=Ξ then b e c else .ok ξ c
def dY(a b:Ev->List Cell->R Bool):Ev->List Cell->R Bool:=λe c=>(a e c).bind λx c=>if x=Ξ then .ok Ξ c else b e c
def bR(a:Ev->List Cell->R Bool):Ev->List Cell->R Bool:=λe c=>(a e c).bind λx c=>.ok (!x) c
def iT(a b:Ev->List Cell->R D):Ev->List Cell->R D:=λe c=>(a e c).bind λx c=>match x with
 |.bl k=>if k=Ξ then b e c else .ok (.bl ξ) c
 |_=>.bad
def AO(a:Ev->List Cell->R D):Ev->List Cell->R D:=λe c=>(a e c).bind λx c=>match x with
 |.bl k=>.ok (.bl (!k)) c
 |_=>.bad
section
variable {X:Cx}{a b c':π}{da db:Ev->List Cell->R D}{ta tb:Ev->List Cell->R Bool}{pos:Pos}{rest:List π}
theorem RE{K:Ψ}{ρ:List Ω}{H:Hp}{c:List Cell}{x:D}{v:V}{k:Bool}(W:Wd K ρ H c) (rx:Rel K ρ H x v) (h:uH c x=ζ k):HB K v H k:=by
 have emp:∀{l:List D}{xs:List V},aM K ρ H l xs->l.isEmpty=xs.isEmpty:=fun{l xs} r=>by
  have:=r.length;cases l<;>cases xs<;>simp_all
 cases x with
 |aQ=>cases rx;cases h;exact rfl
 |bl b=>cases rx;cases h;exact rfl
 |int i=>cases rx;cases h;exact rfl
 |tup l =>
  obtain⟨a,xs,rfl,s,r⟩:=rx;cases h;exact .inr (.inl ⟨xs,bU.of s,by rw[emp r]⟩)
 |lst l =>
  obtain⟨a,xs,rfl,s,r⟩:=rx;cases h;exact .inl ⟨xs,bC.of s.1,by rw[emp r]⟩
 |ref j =>
  obtain⟨a,rfl,s⟩:=rx;unfold uH at h;dsimp only at h;cases hc:c[j]? with
  |none=>rw[hc]at h;cases h
  |some cl =>
   cases cl with
   |lst m =>
    rw[hc]at h;cases h;obtain⟨_,xs,hx,r⟩:=W.gk j a _ s hc;exact .inl ⟨xs,bC.of hx,by rw[emp r]⟩
 |_=>cases h
theorem J2(ha:aX X a da) (he:∀whole,isTrue a X.env whole=(do let v <-whole;standAt a.pos;holding [v] (truthy v)):=by intro _;rfl):iE X a (tE da):=(Vu ha he).imp λσ H Q h=>by
 obtain⟨ρ,e,c,W,V,p⟩:=h;refine⟨ρ,e,c,W,V,post.bind p λx c1 aO H1 v _ W1 X1 r1 p1=>?_⟩
 split at p1
 ·rename_i k hk;exact⟨k,RE W1 r1 hk,p1.here W1 rfl⟩
 ·exact p1.elim
theorem Hs(h:tD X.K (λ_ _ a b=>a=b) (aL da) σ H Q):tD X.K (Rel X.K) da σ H λx H'=>∃k,x=.bl k/\Q k H':=by
 obtain⟨ρ,e,c,W,V,p⟩:=h;refine⟨ρ,e,c,W,V,post.bind p λx c1 aO H1 v _ W1 X1 r1 p1=>?_⟩
 cases x with
 |bl k=>cases r1;exact⟨k,rfl,p1.here W1 rfl⟩
 |_=>exact p1.elim
theorem gV(ha:aX X a da) (he:∀whole,isTrue a X.env whole=(do let v <-whole;standAt a.pos;holding [v] (truthy v)):=by intro _;rfl):iE X a (aL da):=(Vt ha he).imp λσ H Q h=>Hs h
theorem dj{op:CmpOp}{f:D->D->List Cell->R D}(ho:bN X (compareOp op) (r2 X.K f)) (ha:aX X a da) (hb:aX X b db) (hm:behindInMarks op b=ξ:=by first|exact KL _|rfl):iE X (.Compare a [op] [b] pos) (aL (au f da db)) :=
 (Vx ho ha hb hm).imp λσ H Q h=>xM (Q:=λx H'=>∃k,x=.bl k/\Q k H') (Hs h)
theorem J6{d:π}{dd:Ev->List Cell->R D}{op op':CmpOp}{f g:D->D->List Cell->R D}(ho:bN X (compareOp op) (r2 X.K f)) (ho':bN X (compareOp op') (r2 X.K g)) (ha:aX X a da) (hb:aX X b db) (hd:aX X d dd)
  (h1:lastMarks [op,op'] [b,d]=ξ:=by with_unfolding_all rfl):iE X (.Compare a [op,op'] [b,d] pos) (aL (gY f g da db dd)):=(Vy ho ho' ha hb hd h1).imp λσ H Q h=>by
 obtain⟨ρ,e,c,W,V,p⟩:=Hs h;refine⟨ρ,e,c,W,V,post.bind p λx c1 aO H1 v _ W1 X1 r1 p1=>⟨aO,e,c1,W1,V.mono W X1,post.bind p1 λy c2 cC H2 u _ W2 X2 r2 p2=>⟨cC,x,y,c2,W2,Rel.mono W1 X2 _ _ r1,r2,post.bind p2 λz c3 m5 H3 w _ W3 X3 r3 p3=>?_⟩⟩⟩
 have V3:=(V.mono W X1).mono W1 (X2.trans X3);cases z with
 |bl k =>
  cases r3;refine⟨k,rfl,?_⟩;cases k with
  |true =>
   refine ly ⟨m5,e,c3,W3,V3,post.bind p3 λt c4 oK H4 w4 _ W4 X4 r4 p4=>⟨oK,y,t,c4,W4,Rel.mono W2 (X3.trans X4) _ _ r2,r4,p4⟩⟩
  |false=>exact lz (p3.here W3 rfl)
 |_=>exact p3.elim
theorem vc(ha:iE X a ta):uw X (.BoolOp .And [a] pos) ta:=Vq ha
theorem pC(ha:iE X a ta):uw X (.BoolOp .Or [a] pos) ta:=Vo ha
theorem u9(ha:iE X a ta) (hb:uw X (.BoolOp .And (b::rest) pos) tb):uw X (.BoolOp .And (a::b::rest) pos) (gB ta tb):=(Vr ha hb).imp λσ H Q h=>by
 obtain⟨ρ,e,c,W,V,p⟩:=h;refine⟨ρ,e,c,W,V,post.bind p λx c1 aO H1 v _ W1 X1 r1 p1=>?_⟩
 cases r1;cases x with
 |true=>exact ly ⟨aO,e,c1,W1,V.mono W X1,p1⟩
 |false=>exact lz (post.here (a:=ξ) p1 W1 rfl)
theorem nC(ha:iE X a ta) (hb:uw X (.BoolOp .Or (b::rest) pos) tb):uw X (.BoolOp .Or (a::b::rest) pos) (dY ta tb):=(Vp ha hb).imp λσ H Q h=>by
 obtain⟨ρ,e,c,W,V,p⟩:=h;refine⟨ρ,e,c,W,V,post.bind p λx c1 aO H1 v _ W1 X1 r1 p1=>?_⟩
 cases r1;cases x with
 |true=>exact ly (post.here (a:=Ξ) p1 W1 rfl)
 |false=>exact lz ⟨aO,e,c1,W1,V.mono W X1,p1⟩
theorem gH(ha:iE X a ta):iE X (.UnaryOp .Not a pos) (bR ta):=(Vw ha).imp λσ H Q h=>by
 obtain⟨ρ,e,c,W,V,p⟩:=h;refine⟨ρ,e,c,W,V,post.bind p λx c1 aO H1 v _ W1 X1 r1 p1=>?_⟩
 cases r1;exact p1.here W1 rfl
theorem nE{op}(h:aX X a da):aX X (.BoolOp op [a] pos) da:=Xb h
theorem nG(ha:aX X a da) (hb:aX X (.BoolOp .And (b::rest) pos) db):aX X (.BoolOp .And (a::b::rest) pos) (iT da db):=(Xo ha hb).imp λσ H Q h=>by
 obtain⟨ρ,e,c,W,V,p⟩:=h;refine⟨ρ,e,c,W,V,post.bind p λx c1 aO H1 v _ W1 X1 r1 p1=>?_⟩
 cases x with
 |bl k =>
  cases r1;refine⟨k,rfl,?_⟩;cases k with
  |true=>exact ly ⟨aO,e,c1,W1,V.mono W X1,p1⟩
  |false=>exact lz (post.here (a:=D.bl ξ) p1 W1 rfl)
 |_=>exact p1.elim
theorem J3(ha:aX X a da):aX X (.UnaryOp .Not a pos) (AO da):=(Xe ha).imp λσ H Q h=>by
 obtain⟨ρ,e,c,W,V,p⟩:=h;refine⟨ρ,e,c,W,V,post.bind p λx c1 aO H1 v _ W1 X1 r1 p1=>?_⟩
 cases x with
 |bl k=>cases r1;exact⟨k,rfl,p1.here W1 rfl⟩
 |_=>exact p1.elim
end
inductive Fl where
 |nx (e:Ev)|rt (d:D)|bk (e:Ev)|ct (e:Ev)
abbrev aa:=List Cell
abbrev af:=Ev->List Cell->R D
abbrev ah:=Ev->List Cell->R Fl
abbrev ai:=Ev->List Cell->R Bool
abbrev aj:=Ev->List Cell->R (List D)
inductive FV where
 |nx (σ:St)|rt (v:V)|bk (σ:St)|ct (σ:St)
def iX(K:Ψ) (ρ:List Ω) (H:Hp):Fl->FV->Prop
 |.nx e,f=>∃σ,f=.nx σ/\dz K ρ H e σ
 |.rt d,f=>∃v,f=.rt v/\Rel K ρ H d v
 |.bk e,f=>∃σ,f=.bk σ/\dz K ρ H e σ
 |.ct e,f=>∃σ,f=.ct σ/\dz K ρ H e σ
def En(Z:Ends):FV->Hp->Prop
 |.nx σ,H=>Z.nx σ H
 |.rt v,H=>Z.rt v H
 |.bk σ,H=>Z.bk σ H
 |.ct σ,H=>Z.ct σ H
def BH(K:Ψ) (d:ah):TS:=λZ σ H=>tD K (iX K) d σ H (En Z)
abbrev ju(X:Cx) (st:acz) (d:ah):Prop:=PS X st (BH X.K d)
abbrev b9(X:Cx) (st:List acz) (d:ah):Prop:=eX X st (BH X.K d)
def br:ah:=λe c=>.ok (.nx e) c
def aE(a b:ah):ah:=λe c=>(a e c).bind λf c=>match f with
 |.nx e=>b e c
 |f=>.ok f c
def aK(a:af):ah:=λe c=>(a e c).bind λx c=>.ok (.rt x) c
def dR(a:af):ah:=λe c=>(a e c).bind λ_ c=>.ok (.nx e) c
def bq(t:ai) (a b:ah):ah:=λe c=>(t e c).bind λx c=>if x=Ξ then a e c else b e c
def aG(i:Nat) (a:af):ah:=λe c=>(a e c).bind λx c=>.ok (.nx (e.set i (ζ x))) c
def x9:ah:=λ_ _=>.bad
section
variable {X:Cx}{st:acz}{rest:List acz}{t u:ah}{e:π}{da:af}{pos:Pos}
theorem dc:b9 X [] br:=VA.imp λZ σ H h=>by
 obtain⟨ρ,e,c,W,V,p⟩:=h;exact p.here W ⟨σ,rfl,V⟩
theorem aP(h1:ju X st t) (h2:b9 X rest u):b9 X (st::rest) (aE t u):=(Cd h1 h2).imp λZ σ H h=>by
 obtain⟨ρ,e,c,W,V,p⟩:=h;refine⟨ρ,e,c,W,V,post.bind p λf c1 aO H1 b _ W1 X1 r1 p1=>?_⟩
 cases f with
 |nx e1=>obtain⟨σ1,rfl,V1⟩:=r1;exact⟨aO,e1,c1,W1,V1,p1⟩
 |rt d=>obtain⟨v,rfl,V1⟩:=r1;exact post.here (Q:=En Z) (show post X.K (iX X.K) (.ok (Fl.rt d) c1) aO H1 (En Z)from p1) W1 ⟨_,rfl,V1⟩
 |bk e1=>obtain⟨σ1,rfl,V1⟩:=r1;exact post.here (Q:=En Z) (show post X.K (iX X.K) (.ok (Fl.bk e1) c1) aO H1 (En Z)from p1) W1 ⟨_,rfl,V1⟩
 |ct e1=>obtain⟨σ1,rfl,V1⟩:=r1;exact post.here (Q:=En Z) (show post X.K (iX X.K) (.ok (Fl.ct e1) c1) aO H1 (En Z)from p1) W1 ⟨_,rfl,V1⟩
theorem aU(h1:ju X st t):b9 X [st] t:=Vz h1
theorem Jt:ju X st x9:=λ_ _ _ _ _ _ h=>by
 obtain⟨ρ,e,c,W,V,p⟩:=h;exact p.elim
theorem bG(he:aX X e da):ju X (.Return (ζ e) pos) (aK da):=(JM he).imp λZ σ H h=>by
 obtain⟨ρ,e,c,W,V,p⟩:=h;refine⟨ρ,e,c,W,V,post.bind p λx c1 aO H1 v _ W1 X1 r1 p1=>p1.here W1 ⟨v,rfl,r1⟩⟩
theorem jc(he:aX X e da) (hs:swapsWith e η pos.line X.env=pure ξ:=by rfl):ju X (.Expr e pos) (dR da):=(JO he hs).imp λZ σ H h=>by
 obtain⟨ρ,e,c,W,V,p⟩:=h;refine⟨ρ,e,c,W,V,post.bind p λx c1 aO H1 v _ W1 X1 r1 p1=>p1.here W1 ⟨σ,rfl,V.mono W X1⟩⟩
theorem cX{c':π}{a b:List acz}{tc:ai}(hc:iE X c' tc) (ha:b9 X a t) (hb:b9 X b u):ju X (.If c' a b pos) (bq tc t u):=(JN hc ha hb).imp λZ σ H h=>by
 obtain⟨ρ,e,c,W,V,p⟩:=h;refine⟨ρ,e,c,W,V,post.bind p λx c1 aO H1 v _ W1 X1 r1 p1=>?_⟩
 cases r1;cases x with
 |true=>exact ly ⟨aO,e,c1,W1,V.mono W X1,p1⟩
 |false=>exact lz ⟨aO,e,c1,W1,V.mono W X1,p1⟩
theorem bh{i:Nat}{x:Str}{pos':Pos}(he:aX X e da) (hN:X.N.Nodup:=by decide +kernel) (hi:X.N[i]? = ζ x:=by rfl) (hx:Loc X.env.scope x:=by first|exact Or.inl rfl|exact Or.inr rfl) (hs:swapsWith e (ζ (.Name x pos')) pos.line X.env=pure ξ:=by rfl)
  (hf:X.fn x=Ξ\/X.env.scope.names.lookup x=ζ .local:=by first|exact .inl rfl|exact .inr rfl):ju X (.Assign [.Name x pos'] e pos) (aG i da):=(VF hN hi hx he hs).imp λZ σ H h=>by
 obtain⟨ρ,e,c,W,V,p⟩:=h;refine⟨ρ,e,c,W,V,post.bind p λx c1 aO H1 v _ W1 X1 r1 p1=>p1.here W1 ⟨_,rfl,(V.mono W X1).set r1 i⟩⟩
end
abbrev Gd:=D->Ev->aa->R Ev
def BI(K:Ψ) (g:Gd):TG:=λv σ H Q=>∃ρ x e c,Wd K ρ H c/\dz K ρ H e σ/\Rel K ρ H x v/\post K (λρ H e σ=>dz K ρ H e σ) (g x e c) ρ H Q
def R5(K:Ψ) (g:List D->Ev->aa->R Ev):mW:=λvs σ H Q=>∃ρ xs e c,Wd K ρ H c/\dz K ρ H e σ/\aM K ρ H xs vs/\post K (λρ H e σ=>dz K ρ H e σ) (g xs e c) ρ H Q
abbrev qp(X:Cx) (e:π) (g:Gd):Prop:=PG X e (BI X.K g)
abbrev A2(X:Cx) (es:List π) (g:List D->Ev->aa->R Ev):Prop:=oG X es (R5 X.K g)
def aA(i:Nat):Gd:=λx e c=>.ok (e.set i (ζ x)) c
def EU:List D->Ev->aa->R Ev:=λxs e c=>match xs with
 |[]=>.ok e c
 |_=>.bad
def zN(g:Gd) (r:List D->Ev->aa->R Ev):List D->Ev->aa->R Ev:=λxs e c=>match xs with
 |x::xs=>(g x e c).bind λe c=>r xs e c
 |_=>.bad
def zM(n:Nat) (g:List D->Ev->aa->R Ev):Gd:=λx e c=>match x with
 |.tup l=>if l.length=n then g l e c else .bad
 |_=>.bad
theorem PG.imp{X:Cx}{e:π}{t t':TG}(h:PG X e t) (i:∀v σ H Q,t' v σ H Q->t v σ H Q):PG X e t':=λpins s σ H x u Q I r q=>h pins s σ H x u Q I r (i _ _ _ _ q)
theorem oG.imp{X:Cx}{es:List π}{t t':mW}(h:oG X es t) (i:∀v σ H Q,t' v σ H Q->t v σ H Q):oG X es t':=λpins s σ H x u Q I r q=>h pins s σ H x u Q I r (i _ _ _ _ q)
section
variable {X:Cx}{pos:Pos}
theorem bW{i:Nat}{x:Str}(hN:X.N.Nodup:=by decide +kernel) (hi:X.N[i]? = ζ x:=by rfl) (hx:Loc X.env.scope x:=by first|exact Or.inl rfl|exact Or.inr rfl) (hf:X.fn x=Ξ\/X.env.scope.names.lookup x=ζ .local:=by first|exact .inl rfl|exact .inr rfl):qp X (.Name x pos) (aA i) :=
 (WX hN hi hx hf).imp λv σ H Q h=>by
  obtain⟨ρ,x,e,c,W,V,r,p⟩:=h;exact p.here W (V.set r i)
theorem aet:A2 X [] EU:=WT.imp λv σ H Q h=>by
 obtain⟨ρ,xs,e,c,W,V,r,p⟩:=h;cases xs with
 |nil=>exact⟨r,p.here W V⟩
 |cons x xs=>exact p.elim
theorem MP{e:π}{es:List π}{g:Gd}{u:List D->Ev->aa->R Ev}(h1:qp X e g) (h2:A2 X es u) (hs:(assignEach (e::es) X.env).map (·.2)=assign e X.env::(assignEach es X.env).map (·.2):=by rfl):A2 X (e::es) (zN g u) :=
 (WU h1 h2 hs).imp λv σ H Q h=>by
  obtain⟨ρ,xs,e,c,W,V,r,p⟩:=h;cases xs with
  |nil=>exact p.elim
  |cons x xs =>
   obtain⟨y,ys,rfl,rx,rs⟩:=r;exact⟨y,ys,rfl,ρ,x,e,c,W,V,rx,post.bind p λe1 c1 aO H1 σ1 _ W1 X1 V1 p1=>⟨aO,xs,e1,c1,W1,V1,aM.mono W X1 _ _ rs,p1⟩⟩
theorem aeu{es:List π}{k:Nat}{g:List D->Ev->aa->R Ev}{n:Nat}(h:A2 X es g) (hc:X.calm=Ξ:=by rfl) (hn:(assignEach es X.env).length=n:=by rfl) (hst:(assignEach es X.env).findIdx? (·.1)=η:=by rfl):qp X (.Tuple es k pos) (zM n g) :=
 (WV hc h hn hst).imp λv σ H Q h=>by
  obtain⟨ρ,x,e,c,W,V,r,p⟩:=h;cases x with
  |tup l =>
   obtain⟨a,xs,rfl,s,rs⟩:=r;unfold zM at p;dsimp only at p;split at p
   ·rename_i hl;exact⟨a,xs,rfl,bU.of s,rs.length.trans hl,ρ,l,e,c,W,V,rs,p⟩
   ·exact p.elim
  |_=>exact p.elim
def kU(a:af) (g:Gd):ah:=λe c=>(a e c).bind λx c=>(g x e c).bind λe c=>.ok (.nx e) c
theorem xW{tg e:π}{da:af}{g:Gd}(he:aX X e da) (hg:qp X tg g) (hs:swapsWithSole [tg] e pos.line X.env=pure ξ:=by rfl) (hw:swappedStores [tg] e X.env=pure η:=by rfl)
  (h1:(assignEach [tg] X.env).map (·.2)=[assign tg X.env]:=by rfl):ju X (.Assign [tg] e pos) (kU da g):=(VI he hg hs hw h1).imp λZ σ H h=>by
 obtain⟨ρ,e,c,W,V,p⟩:=h;refine⟨ρ,e,c,W,V,post.bind p λx c1 aO H1 v _ W1 X1 r1 p1=>⟨aO,x,e,c1,W1,V.mono W X1,r1,post.bind p1 λe2 c2 cC H2 σ2 _ W2 X2 V2 p2=>p2.here W2 ⟨σ2,rfl,V2⟩⟩⟩
def kT:D->D->D->aa->R Unit:=λo i v c=>match o,i with
 |.ref k,.int i=>match c[k]? with
  |some (.lst l)=>match fM l.length i with
   |some j=>if noRef v=Ξ then .ok () (c.set k (.lst (l.set j v)))else .bad
   |none=>.bad
  |none=>.bad
 |_,_=>.bad
def lF(o i:af):Gd:=λx e c=>(o e c).bind λo c=>(i e c).bind λi c=>(kT o i x c).bind λ_ c=>.ok e c
theorem zL{o i:π}{dO di:af}(ho:aX X o dO) (hi:aX X i di)
  (ha:∀v,assign (.Subscript o i pos) X.env v=(do
   let ov <-holding [v] (eval o X.env)
   let iv <-holding [v,ov] (eval i X.env)
   standAt pos
   holding [v,ov,iv] (setItem ov iv v)
   release [v,ov,iv] []):=by intro _;rfl):qp X (.Subscript o i pos) (lF dO di):=(WW ho hi set_list ha).imp λv σ H Q h=>by
 obtain⟨ρ,x,e,c,W,V,rx,p⟩:=h;refine⟨ρ,e,c,W,V,post.bind p λo c1 aO H1 ov _ W1 X1 r1 p1=>⟨aO,e,c1,W1,V.mono W X1,post.bind p1 λi c2 cC H2 iv _ W2 X2 r2 p2=>?_⟩⟩
 have V2:=(V.mono W X1).mono W1 X2;have UB:=Rel.mono W (X1.trans X2) _ _ rx;have ro:=Rel.mono W1 X2 _ _ r1;unfold kT at p2;split at p2
 ·rename_i k i _ _;split at p2
  ·rename_i l hl;split at p2
   ·rename_i j hj;split at p2
    ·rename_i hv;obtain⟨a,rfl,ha⟩:=ro;cases r2;obtain⟨nr,ys,hy,rl⟩:=W2.gk k a _ ha hl;refine⟨a,ys,i,j,rfl,rfl,hy,by rw[rl.length];exact hj,?_⟩
     exact p2 cC _ σ (W2.write ha (KP nr hv) (rl.set j UB)) (Ext.write ha) (V2.mono W2 (Ext.write ha))
    ·exact p2.elim
   ·exact p2.elim
  ·exact p2.elim
 ·exact p2.elim
end
structure Src where
 items:List D
 stays:aa->Prop
def JS(K:Ψ) (ρ:List Ω) (H:Hp) (s:Src) (J:It):Prop :=
 ∀ρ' H' c',Wd K ρ' H' c'->Ext ρ H ρ' H'->s.stays c'->∀i:Nat,
  (∀d,s.items[i]? = ζ d->J.go i H'/\∀x H2,J.uC i H' x H2->Wd K ρ' H2 c'/\Ext ρ' H' ρ' H2/\Rel K ρ' H2 d x)/\(i=s.items.length->J.stop i H')
def IS(K:Ψ) (d:Ev->aa->R Src):TI:=tD K (JS K) d
abbrev PId(X:Cx) (tg iter:π) (d:Ev->aa->R Src):Prop:=PI X tg iter (IS X.K d)
theorem PI.imp{X:Cx}{tg iter:π}{t t':TI}(h:PI X tg iter t) (i:∀σ H Q,t' σ H Q->t σ H Q):PI X tg iter t':=λpins s σ H Q I q=>h pins s σ H Q I (i _ _ _ q)
def gh(a:af):Ev->aa->R Src:=λe c=>(a e c).bind λx c=>match x with
 |.lst l=>.ok ⟨l,λ_=>True⟩ c
 |.bL l=>.ok ⟨l.map D.int,λ_=>True⟩ c
 |.ref k=>match c[k]? with
  |some (.lst l)=>.ok ⟨l,λc=>c[k]? = ζ (.lst l)⟩ c
  |none=>.bad
 |_=>.bad
def bD(a:af):Ev->aa->R Src:=λe c=>(a e c).bind λx c=>match x with
 |.tup l=>.ok ⟨l,λ_=>True⟩ c
 |_=>.bad
def bf(lo hi:Int):List D:=(θ (hi-lo).toNat).map fun(i:Nat)=>D.int (lo+(i:Int))
def aV(a:aj):Ev->aa->R Src:=λe c=>(a e c).bind λxs c=>match xs with
 |[.int j]=>if -(2^62)<=j/\j<2^62 then .ok ⟨bf 0 j,λ_=>True⟩ c else .bad
 |_=>.bad
def oi(a:aj):Ev->aa->R Src:=λe c=>(a e c).bind λxs c=>match xs with
 |[.int i,.int j]=>if -(2^62)<=i/\i<2^62/\-(2^62)<=j/\j<2^62 then .ok ⟨bf i j,λ_=>True⟩ c else .bad
 |_=>.bad
section
variable {X:Cx}{tg:π}{K:Ψ}{ρ:List Ω}{H:Hp}
theorem Ei{l:List D}{a:Ω}{st:aa->Prop}(h:∀ρ' H' c',Wd K ρ' H' c'->Ext ρ H ρ' H'->st c'->∃xs,bC K H' a xs/\aM K ρ' H' l xs):JS K ρ H ⟨l,st⟩ (HP K a):=by
 intro ρ' H' c' W E s i;obtain⟨xs,q,r⟩:=h ρ' H' c' W E s;refine⟨λd hd=>?_,λe=>⟨xs,q,by rw[r.length];exact amn e.symm⟩⟩
 obtain⟨x,hx,rx⟩:=r.get hd;refine⟨⟨xs,x,q,hx⟩,λy H2 hy=>?_⟩
 obtain⟨rfl,hy⟩:=hy;have:=hy xs q;rw[hx]at this;cases this;exact⟨W,Ext.refl,rx⟩
theorem acu{l:List D}{a:Ω}{st:aa->Prop}(h:∀ρ' H' c',Wd K ρ' H' c'->Ext ρ H ρ' H'->st c'->∃xs,bU K H' a xs/\aM K ρ' H' l xs):JS K ρ H ⟨l,st⟩ (HN K a):=by
 intro ρ' H' c' W E s i;obtain⟨xs,q,r⟩:=h ρ' H' c' W E s;refine⟨λd hd=>?_,λe=>⟨xs,q,by rw[r.length];exact amn e.symm⟩⟩
 obtain⟨x,hx,rx⟩:=r.get hd;refine⟨⟨xs,x,q,hx⟩,λy H2 hy=>?_⟩
 obtain⟨rfl,hy⟩:=hy;have:=hy xs q;rw[hx]at this;cases this;exact⟨W,Ext.refl,rx⟩
theorem B4{lo hi:Int}{i:Nat}{d:D}(h:(bf lo hi)[i]? = ζ d):i<(hi-lo).toNat/\d=.int (lo+i):=by
 unfold bf at h;rw[alk]at h;cases q:(θ (hi-lo).toNat)[i]? with
 |none=>rw[q]at h;cases h
 |some j =>
  rw[q]at h;have h1:=(alb.mp q);obtain⟨h2,h3⟩:=h1;rw[anA]at h3;subst h3;cases h;exact⟨by simpa using h2,rfl⟩
theorem LL{lo hi:Int}{st:aa->Prop}:JS K ρ H ⟨bf lo hi,st⟩ (xg lo (hi-lo).toNat):=by
 intro ρ' H' c' W E s i;refine⟨λd hd=>?_,λe=>?_⟩
 ·obtain⟨h1,rfl⟩:=B4 hd;refine⟨h1,λx H2 hy=>?_⟩
  obtain⟨rfl,rfl⟩:=hy;exact⟨W,Ext.refl,rfl⟩
 ·have:(bf lo hi).length=(hi-lo).toNat:=by simp[bf]
  show(hi-lo).toNat<=i;rw[e];exact amn this.symm
theorem sJ{l:π}{dl:af}(hl:aX X l dl):PId X tg l (gh dl):=(WS hl).imp λσ H Q h=>by
 obtain⟨ρ,e,c,W,V,p⟩:=h;refine⟨ρ,e,c,W,V,post.bind p λx c1 aO H1 v _ W1 X1 r1 p1=>?_⟩
 cases x with
 |lst l =>
  obtain⟨a,xs,rfl,s,rs⟩:=r1;exact⟨a,rfl,⟨xs,bC.of s.1⟩,p1.here W1 (Ei λρ' H' c' W' E _=>⟨xs,bC.of (Ll E s).1,aM.mono W1 E _ _ rs⟩)⟩
 |bL l =>
  obtain⟨a,rfl,s⟩:=r1;exact⟨a,rfl,⟨_,s.sql⟩,p1.here W1 (Ei λρ' H' c' W' E _=>⟨_,(Jh E s).sql,aM.ints⟩)⟩
 |ref k =>
  obtain⟨a,rfl,ha⟩:=r1;dsimp only at p1;split at p1
  ·rename_i l hl;obtain⟨_,xs,hx,rs⟩:=W1.gk k a _ ha hl;refine⟨a,rfl,⟨xs,bC.of hx⟩,p1.here W1 (Ei λρ' H' c' W' E st=>?_)⟩
   obtain⟨_,ys,hy,rs'⟩:=W'.gk k a _ (E.pre k a ha) st;exact⟨ys,bC.of hy,rs'⟩
  ·exact p1.elim
 |_=>exact p1.elim
theorem kr{l:π}{dl:af}(hl:aX X l dl):PId X tg l (bD dl):=(WN hl).imp λσ H Q h=>by
 obtain⟨ρ,e,c,W,V,p⟩:=h;refine⟨ρ,e,c,W,V,post.bind p λx c1 aO H1 v _ W1 X1 r1 p1=>?_⟩
 cases x with
 |tup l =>
  obtain⟨a,xs,rfl,s,rs⟩:=r1;exact⟨a,rfl,⟨xs,bU.of s⟩,p1.here W1 (acu λρ' H' c' W' E _=>⟨xs,bU.of (xJ W1 E s),aM.mono W1 E _ _ rs⟩)⟩
 |_=>exact p1.elim
theorem cZ{a:π}{da:aj}{p pos:Pos}(ha:fq X [a] da) (hm:X.mg "range"=η) (hg:Gl X "range":=by rfl) (hs:μ [a] X.env=[(ξ,eval a X.env)]:=by exact uM rfl):PId X tg (.Call (.Name "range" p) [a] [] pos) (aV da) :=
 (WR hg hm ha hs).imp λσ H Q h=>by
  obtain⟨ρ,e,c,W,V,p⟩:=h;refine⟨ρ,e,c,W,V,post.bind p λx c1 aO H1 v _ W1 X1 r1 p1=>?_⟩
  split at p1
  ·rename_i j _;split at p1
   ·rename_i hj;obtain⟨y,ys,rfl,ry,rs⟩:=r1;cases ry;cases rs;refine⟨j,rfl,hj.1,hj.2,p1.here W1 ?_⟩;have:=LL (K:=X.K) (ρ:=aO) (H:=H1) (lo:=0) (hi:=j) (st:=λ_=>True)
    rw[Int.sub_zero]at this;exact this
   ·exact p1.elim
  ·exact p1.elim
theorem Ma{a b:π}{da:aj}{p pos:Pos}(ha:fq X [a,b] da) (hm:X.mg "range"=η) (hg:Gl X "range":=by rfl) (hs:μ [a,b] X.env=[(ξ,eval a X.env),(ξ,eval b X.env)]:=by exact Jd rfl rfl) (hs2:μ [b] X.env=[(ξ,eval b X.env)]:=by exact uM rfl):PId X tg (.Call (.Name "range" p) [a,b] [] pos) (oi da) :=
 (WQ hg hm ha hs hs2).imp λσ H Q h=>by
  obtain⟨ρ,e,c,W,V,p⟩:=h;refine⟨ρ,e,c,W,V,post.bind p λx c1 aO H1 v _ W1 X1 r1 p1=>?_⟩
  split at p1
  ·rename_i i j _;split at p1
   ·rename_i hj;obtain⟨y,ys,rfl,ry,z,zs,rfl,rz,rs⟩:=r1;cases ry;cases rz;cases rs;exact⟨i,j,rfl,hj,p1.here W1 LL⟩
   ·exact p1.elim
  ·exact p1.elim
theorem acs{l m:List D}{a b:Ω}{st:aa->Prop}(h:∀ρ' H' c',Wd K ρ' H' c'->Ext ρ H ρ' H'->st c'->∃xs ys,bU K H' a xs/\bU K H' b ys/\aM K ρ' H' l xs/\aM K ρ' H' m ys):JS K ρ H ⟨List.zipWith (λx y=>.tup [x,y]) l m,st⟩ (A4 (bU K) a b):=by
 intro ρ' H' c' W E s i;obtain⟨xs,ys,q1,q2,r1,r2⟩:=h ρ' H' c' W E s;refine⟨λd hd=>?_,λe=>⟨xs,ys,q1,q2,?_⟩⟩
 ·have hd:(List.zipWith (λx y=>D.tup [x,y]) l m)[i]? = ζ d:=hd
  rw[aph]at hd;cases e1:l[i]? with
  |none=>rw[e1]at hd;cases hd
  |some x =>
   cases e2:m[i]? with
   |none=>rw[e1,e2]at hd;cases hd
   |some y =>
    rw[e1,e2]at hd;cases hd;obtain⟨v,hv,rv⟩:=r1.get e1;obtain⟨u,hu,ru⟩:=r2.get e2;refine⟨⟨xs,ys,v,u,q1,q2,hv,hu⟩,λz H2 hz=>?_⟩
    obtain⟨t,v',u',rfl,ht,rfl,hz⟩:=hz;obtain⟨z1,z2⟩:=hz xs ys q1 q2;rw[hv]at z1;rw[hu]at z2;cases z1;cases z2;exact⟨W.fresh ht,Ext.fresh W ht,t,[v,u],rfl,fS,v,[u],rfl,Rel.mono W (Ext.fresh W ht) _ _ rv,u,[],rfl,Rel.mono W (Ext.fresh W ht) _ _ ru,rfl⟩
 ·have e:i=(List.zipWith (λx y=>D.tup [x,y]) l m).length:=e
  rw[api]at e;rw[r1.length,r2.length];omega
open Classical in
def cG(st:aa->Prop) (g:Gd) (b:ah):List D->ah
 |[],e,c=>if st c then .ok (.nx e) c else .bad
 |x::xs,e,c=>if st c then(g x e c).bind λe c=>(b e c).bind λf c=>match f with
   |.nx e=>cG st g b xs e c
   |.ct e=>cG st g b xs e c
   |.bk e=>.ok (.nx e) c
   |.rt d=>.ok (.rt d) c
  else .bad
def bQ(s:Ev->aa->R Src) (g:Gd) (b:ah):ah:=λe c=>(s e c).bind λs c=>cG s.stays g b s.items e c
theorem fz{iter:π}{body:List acz}{ds:Ev->aa->R Src}{g:Gd}{db:ah}{pos:Pos}(hi:PId X tg iter ds) (hg:qp X tg g) (hb:b9 X body db) (hp:adV (model X.prog X.w) X.A X.env X.xe:=by exact PassesOwn.never) (hc:X.calm=Ξ:=by rfl)
  (hs:∀x,foldedSetIterable iter X.env x=pure x:=by intro _;rfl):ju X (.For tg iter body [] pos) (bQ ds g db):=(VH hp hc hi hg hb hs).imp λZ σ H h=>by
 obtain⟨ρ,e,c,W,V,p⟩:=h;refine⟨ρ,e,c,W,V,post.bind p λs c1 aO H1 J _ W1 X1 j1 p1=>?_⟩
 refine⟨λi m σ H=>∃ρ e c,Wd X.K ρ H c/\Ext aO H1 ρ H/\dz X.K ρ H e σ/\i<=s.items.length/\m=s.items.length-i/\post X.K (iX X.K) (cG s.stays g db (s.items.drop i) e c) ρ H (En Z),
  ⟨_,aO,e,c1,W1,Ext.refl,V.mono W X1,alV _,rfl,p1⟩,?_⟩
 rintro i m σ2 H2 ⟨cC,e2,c2,W2,X2,V2,hi2,rfl,p2⟩
 by_cases hl:i<s.items.length
 ·rw[anB hl]at p2;unfold cG at p2;split at p2
  ·rename_i hst;obtain⟨go,yl⟩:=(j1 cC H2 c2 W2 X2 hst i).1 _ (ak7 hl);refine .inr ⟨go,λσ' H'=>∃ρ e c,Wd X.K ρ H' c/\Ext aO H1 ρ H'/\dz X.K ρ H' e σ'/\i+1<=s.items.length/\post X.K (iX X.K) (cG s.stays g db (s.items.drop (i+1)) e c) ρ H' (En Z),?_,λx H3 hy=>?_⟩
   ·rintro σ' H' ⟨ρ,e,c,w,x,v,l,q⟩
    exact⟨s.items.length-(i+1),by omega,ρ,e,c,w,x,v,l,rfl,q⟩
   ·obtain⟨W3,X3,r3⟩:=yl x H3 hy;refine⟨cC,_,e2,c2,W3,V2.mono W2 X3,r3,post.bind (post.ext p2 X3) λe4 c4 oK H4 Qz _ W4 X4 V4 p4=>?_⟩
    refine⟨oK,e4,c4,W4,V4,post.bind p4 λf c5 i7 H5 b _ W5 X5 r5 p5=>?_⟩
    have wO:=((X2.trans X3).trans X4).trans X5;cases f with
    |nx e1=>obtain⟨σ1,rfl,V1⟩:=r5;exact⟨i7,e1,c5,W5,wO,V1,hl,p5⟩
    |ct e1=>obtain⟨σ1,rfl,V1⟩:=r5;exact⟨i7,e1,c5,W5,wO,V1,hl,p5⟩
    |bk e1=>obtain⟨σ1,rfl,V1⟩:=r5;exact post.here (Q:=En Z) (show post X.K (iX X.K) (.ok (Fl.nx e1) c5) i7 H5 (En Z)from p5) W5 ⟨_,rfl,V1⟩
    |rt d=>obtain⟨v,rfl,V1⟩:=r5;exact post.here (Q:=En Z) (show post X.K (iX X.K) (.ok (Fl.rt d) c5) i7 H5 (En Z)from p5) W5 ⟨_,rfl,V1⟩
  ·exact p2.elim
 ·obtain rfl:i=s.items.length:=by omega
  rw[apj (akT _)]at p2;unfold cG at p2;split at p2
  ·rename_i hst;exact .inl ⟨(j1 cC H2 c2 W2 X2 hst _).2 rfl,post.here (Q:=En Z) p2 W2 ⟨σ2,rfl,V2⟩⟩
  ·exact p2.elim
def gF(t:ai) (b:ah):Nat->ah
 |0,_,_=>.bad
 |n+1,e,c=>(t e c).bind λk c=>if k=Ξ then(b e c).bind λf c=>match f with
   |.nx e=>gF t b n e c
   |.ct e=>gF t b n e c
   |.bk e=>.ok (.nx e) c
   |.rt d=>.ok (.rt d) c
  else .ok (.nx e) c
theorem Js{n:Nat}{c':π}{body:List acz}{dt:ai}{db:ah}{pos:Pos}(ht:iE X c' dt) (hb:b9 X body db) (hp:adV (model X.prog X.w) X.A X.env X.xe:=by exact PassesOwn.never):ju X (.While c' body [] pos) (gF dt db n):=(VC hp ht hb).imp λZ σ H h=>by
 obtain⟨ρ,e,c,W,V,p⟩:=h;refine⟨λm σ H=>∃ρ e c,Wd X.K ρ H c/\dz X.K ρ H e σ/\post X.K (iX X.K) (gF dt db m e c) ρ H (En Z),⟨n,ρ,e,c,W,V,p⟩,?_⟩
 rintro m σ2 H2 ⟨cC,e2,c2,W2,V2,p2⟩
 cases m with
 |zero=>exact p2.elim
 |succ m =>
  unfold gF at p2;refine⟨cC,e2,c2,W2,V2,post.bind p2 λk c3 m5 H3 b _ W3 X3 r3 p3=>?_⟩
  cases r3;cases k with
  |true =>
   refine ly ⟨λσ H=>∃ρ e c,Wd X.K ρ H c/\dz X.K ρ H e σ/\post X.K (iX X.K) (gF dt db m e c) ρ H (En Z),λσ' H' q=>⟨m,al6 _,q⟩,?_⟩
   refine⟨m5,e2,c3,W3,V2.mono W2 X3,post.bind p3 λf c5 i7 H5 b _ W5 X5 r5 p5=>?_⟩
   cases f with
   |nx e1=>obtain⟨σ1,rfl,V1⟩:=r5;exact⟨i7,e1,c5,W5,V1,p5⟩
   |ct e1=>obtain⟨σ1,rfl,V1⟩:=r5;exact⟨i7,e1,c5,W5,V1,p5⟩
   |bk e1=>obtain⟨σ1,rfl,V1⟩:=r5;exact post.here (Q:=En Z) (show post X.K (iX X.K) (.ok (Fl.nx e1) c5) i7 H5 (En Z)from p5) W5 ⟨_,rfl,V1⟩
   |rt d=>obtain⟨v,rfl,V1⟩:=r5;exact post.here (Q:=En Z) (show post X.K (iX X.K) (.ok (Fl.rt d) c5) i7 H5 (En Z)from p5) W5 ⟨_,rfl,V1⟩
  |false=>exact lz (post.here (Q:=En Z) (show post X.K (iX X.K) (.ok (Fl.nx e2) c3) m5 H3 (En Z)from p3) W3 ⟨_,rfl,V2.mono W2 X3⟩)
end
def cO(pick:List (Option Nat)) (e:Ev):Ev:=pick.map λo=>o.bind λj=>(e[j]?).bind id
open Classical in
def bI(st:aa->Prop) (g:Gd) (t:ai) (el:af):List D->Ev->List D->aa->R (List D)
 |[],e,acc,c=>if st c then .ok acc c else .bad
 |x::xs,e,acc,c=>if st c then(g x e c).bind λe c=>(t e c).bind λk c=>if k=Ξ then(el e c).bind λy c=>bI st g t el xs e (acc++[y]) c else bI st g t el xs e acc c else .bad
def aT(s:Ev->aa->R Src) (pick:List (Option Nat)) (g:Gd) (t:ai) (el:af):af:=λe c=>(s e c).bind λs c =>
 if s.items.length<ι then(bI s.stays g t el s.items (cO pick e) [] c).bind λl c=>.ok (.lst l) c else .bad
def aJ:ai:=λ_ c=>.ok Ξ c
abbrev HG(X:Cx) (ifs:List π) (t:ai):Prop:=uy X ifs (tD X.K (λ_ _ a b=>a=b) t)
section
variable {X:Cx}{N':List Str}{pick:List (Option Nat)}{scope:ads}{tg elt iter:π}{ifs:List π}{pos:Pos}{ds:Ev->aa->R Src}{g:Gd}{dt:ai}{de:af}
theorem dJ:HG X [] aJ:=λpins s σ H Q I h=>by
 obtain⟨ρ,e,c,W,V,p⟩:=h;exact WI pins s σ H Q I (post.here (b:=Ξ) p W rfl)
theorem WJ{c':π}(h:iE X c' dt):HG X [c'] dt:=WH h
theorem dz.picked{K:Ψ}{ρ:List Ω}{H:Hp}{e:Ev}{σ:St}(V:dz K ρ H e σ):dz K ρ H (cO pick e) (kP pick σ):=by
 refine⟨λi d h=>?_,by simp[cO,kP]⟩
 unfold cO at h;unfold kP;rw[alk]at h ⊢;cases q:pick[i]? with
 |none=>rw[q]at h;cases h
 |some o =>
  rw[q]at h;cases o with
  |none=>cases h
  |some j =>
   have h':(e[j]?).bind id=ζ d:=alo h;cases q2:e[j]? with
   |none=>rw[q2]at h';cases h'
   |some z =>
    rw[q2]at h';have h'':z=ζ d:=h';subst h'';obtain⟨v,hv,r⟩:=V.get j d q2;exact⟨v,by simp[hv],r⟩
theorem aha{K:Ψ}{aO:List Ω}{H1:Hp}{c1:aa}{e:Ev}{σ:St}{s:Src}{J:It}{Q:VK}(W1:Wd K aO H1 c1) (V1:dz K aO H1 e σ) (j1:JS K aO H1 s J) (hn:s.items.length<ι)
  (p1:post K (Rel K) ((bI s.stays g dt de s.items e [] c1).bind λl c=>.ok (.lst l) c) aO H1 Q):Qw J (BI K g) (tD K (λ_ _ a b=>a=b) dt) (tD K (Rel K) de) Q σ H1:=by
 refine⟨λi m σ ys H=>∃ρ e acc c,Wd K ρ H c/\Ext aO H1 ρ H/\dz K ρ H e σ/\aM K ρ H acc ys/\acc.length<=i/\i<=s.items.length/\m=s.items.length-i/\post K (Rel K) ((bI s.stays g dt de (s.items.drop i) e acc c).bind λl c=>.ok (.lst l) c) ρ H Q,
  ⟨_,aO,e,[],c1,W1,Ext.refl,V1,rfl,akT _,alV _,rfl,p1⟩,?_⟩
 rintro i m σ2 ys H2 ⟨cC,e2,acc,c2,W2,X2,V2,r2,ha,hi2,rfl,p2⟩
 refine⟨by rw[r2.length];omega,?_⟩
 by_cases hl:i<s.items.length
 ·rw[anB hl]at p2;unfold bI at p2;split at p2
  ·rename_i hst;obtain⟨go,yl⟩:=(j1 cC H2 c2 W2 X2 hst i).1 _ (ak7 hl);refine .inr ⟨go,λσ' ys' H'=>∃ρ e acc c,Wd K ρ H' c/\Ext aO H1 ρ H'/\dz K ρ H' e σ'/\aM K ρ H' acc ys'/\acc.length<=i+1/\i+1<=s.items.length/\post K (Rel K) ((bI s.stays g dt de (s.items.drop (i+1)) e acc c).bind λl c=>.ok (.lst l) c) ρ H' Q,?_,λx H3 hy=>?_⟩
   ·rintro σ' ys' H' ⟨ρ,e,acc,c,w,x,v,r,a,l,q⟩
    exact⟨s.items.length-(i+1),by omega,ρ,e,acc,c,w,x,v,r,a,l,rfl,q⟩
   ·obtain⟨W3,X3,r3⟩:=yl x H3 hy;have assoc:∀{α β γ:Type}(r:R α) (f:α->aa->R β) (g:β->aa->R γ),(r.bind f).bind g=r.bind λa c=>(f a c).bind g:=λr f g=>by cases r<;>rfl
    rw[assoc]at p2;refine⟨cC,_,e2,c2,W3,V2.mono W2 X3,r3,post.bind (post.ext p2 X3) λe4 c4 oK H4 Qz _ W4 X4 V4 p4=>?_⟩
    rw[assoc]at p4;refine⟨oK,e4,c4,W4,V4,post.bind p4 λk c5 i7 H5 b _ W5 X5 r5 p5=>?_⟩
    cases r5;have wO:=((X2.trans X3).trans X4).trans X5;have JL:=aM.mono W2 ((X3.trans X4).trans X5) _ _ r2;cases k with
    |true =>
     refine ly ?_;rw[if_pos rfl,assoc]at p5;refine⟨i7,e4,c5,W5,V4.mono W4 X5,post.bind p5 λy c6 QA H6 v _ W6 X6 r6 p6=>?_⟩
     refine⟨QA,e4,acc++[y],c6,W6,wO.trans X6,(V4.mono W4 X5).mono W5 X6,(aM.mono W5 X6 _ _ JL).append ⟨v,[],rfl,r6,rfl⟩,by simp;exact ha,hl,p6⟩
    |false =>
     refine lz ?_;rw[if_neg alf]at p5;exact⟨i7,e4,acc,c5,W5,wO,V4.mono W4 X5,JL,Nat.le_succ_of_le ha,hl,p5⟩
  ·exact p2.elim
 ·obtain rfl:i=s.items.length:=by omega
  rw[apj (akT _)]at p2;unfold bI at p2;split at p2
  ·rename_i hst;exact .inl ⟨(j1 cC H2 c2 W2 X2 hst _).2 rfl,kY W2 r2 p2⟩
  ·exact p2.elim
theorem ag9{σ:St}{H:Hp}{Q:VK}{K:Ψ}(h:tD K (Rel K) (aT ds pick g dt de) σ H Q):IU (IS K ds) pick (BI K g) (tD K (λ_ _ a b=>a=b) dt) (tD K (Rel K) de) σ H Q:=by
 obtain⟨ρ,e,c,W,V,p⟩:=h;refine⟨ρ,e,c,W,V,post.bind p λs c1 aO H1 J _ W1 X1 j1 p1=>?_⟩
 split at p1
 ·rename_i hn;exact aha W1 (V.mono W X1).picked j1 hn p1
 ·exact p1.elim
theorem dg(S:cI X N' pick scope) (hit:PId X tg iter ds)
  (hg:∀cl C s₀ H₀ ex pn,qp (iC X N' scope cl C s₀ H₀ ex pn) tg g) (hi:∀cl C s₀ H₀ ex pn,HG (iC X N' scope cl C s₀ H₀ ex pn) ifs dt) (he:∀cl C s₀ H₀ ex pn,aX (iC X N' scope cl C s₀ H₀ ex pn) elt de)
  (hc:X.calm=Ξ:=by rfl) (hs:∀x,foldedSetIterable iter X.env x=pure x:=by intro _;rfl) :
  aX X (.ListComp elt [⟨tg,iter,ifs,0⟩] scope pos) (aT ds pick g dt de):=(Xj S hc hit hg hi he hs).imp λσ H Q h=>ag9 h
end
def cj(K:Ψ) (n:Nat) (m:List D->aa->R D):Sp:=λvs H Q _=>∃ρ xs c,Wd K ρ H c/\aM K ρ H xs vs/\xs.length=n/\post K (Rel K) (m xs c) ρ H Q
def aC(n:Nat) (m:List D->aa->R D) (a:aj):af:=λe c=>(a e c).bind λxs c=>if xs.length=n then m xs c else .bad
def dH(n:Nat) (xs:List D):Ev:=xs.map ζ++ν (n-xs.length) η
def dX(own:Bool) (n:Nat) (v:D) (c:aa):R D:=match v with
 |.ref k=>match c[k]? with
  |some (.lst l)=>if n<=k then(if own=Ξ then .ok (.ref n) (c.take n++[.lst l])else .ok (.lst l) (c.take n))else .bad
  |none=>.bad
 |v=>if noRef v=Ξ then .ok v (c.take n)else .bad
def bM(n:Nat) (own:Bool) (d:ah):List D->aa->R D:=λxs c=>(d (dH n xs) c).bind λf c'=>match f with
 |.rt v=>dX own c.length v c'
 |.nx _=>dX own c.length .aQ c'
 |_=>.bad
section
variable {P:τ}{w:ψ}{K:Ψ}{mg:Str->Option Θ}{base:χ}
theorem AD{own:Bool}{ρ aO:List Ω}{H H1:Hp}{c c1:aa}{v:D}{x:V}{Q:VK}(W:Wd K ρ H c) (W1:Wd K aO H1 c1) (X1:Ext ρ H aO H1) (r:Rel K aO H1 v x) (p:post K (Rel K) (dX own c.length v c1) ρ H Q):Q x H1:=by
 have hn:=Ext.len W W1 X1;have Wc:=W1.cut hn;have Xc:=X1.cut (n:=c.length) (amn W.len);unfold dX at p;split at p
 ·rename_i k;split at p
  ·rename_i l hl;split at p
   ·rename_i hk;obtain⟨a,rfl,ha⟩:=r;obtain⟨nr,xs,hx,rl⟩:=W1.gk k a _ ha hl;have na:a∉aO.take c.length:=by
     intro h;obtain⟨j,hj,e⟩:=aoj.mp h;have hj2:j<c.length:=by simp at hj;omega
     rw[apk]at e;have hk1:=alb.mp ha;have hjl:j<aO.length:=by simp at hj;omega
     have:=(anU W1.nd (h₀:=hjl) (h₁:=hk1.1)).mp (e.trans hk1.2.symm);omega
    have sub:∀b,b∈aO.take c.length->b∈aO:=λb h=>amq h
    split at p
    ·have lr:(aO.take c.length).length=c.length:=by simp[W1.len];omega
     refine p (aO.take c.length++[a]) H1 (.ref a) ?_ ?_ ⟨a,rfl,?_⟩
     ·refine⟨?_,by simp[W1.len],λj b cl e1 e2=>?_,W1.tab⟩
      ·rw[amo];refine⟨Wc.nd,by simp,?_⟩
       intro y hy z hz;rw[alw]at hz;subst hz;exact λq=>na (q▸hy)
      ·by_cases hj:j<c.length
       ·rw[alL (by rw[lr];exact hj)]at e1
        rw[alL (by simp;omega)]at e2
        have q:=Wc.gk j b cl e1 e2;cases cl with
        |lst l' =>
         obtain⟨rX,ys,hy,r'⟩:=q;refine⟨rX,ys,hy,aM.low (ρ:=aO) (λz hz=>?_) l' ys rX ?_⟩
         ·rcases alj.mp hz with hz|hz
          ·exact sub z hz
          ·rw[alw]at hz;subst hz;exact alv ha
         ·have F5:aO[j]? = ζ b:=by rw[am5,if_pos hj]at e1;exact e1
          have e2':c1[j]? = ζ (.lst l'):=by rw[am5,if_pos hj]at e2;exact e2
          obtain⟨_,zs,hz,rz⟩:=W1.gk j b _ F5 e2';rw[hy]at hz;cases hz;exact rz
       ·have hj':j=c.length:=by
         have:=(alb.mp e1).1;rw[alp,lr]at this;simp at this;omega
        subst hj';rw[al3 (by rw[lr];exact akT _),lr,amv]at e1
        rw[al3 (by simp;omega),show c.length-(List.take c.length c1).length=0 by simp;omega]at e2
        cases e1;cases e2;refine⟨nr,xs,hx,aM.low (ρ:=aO) (λz hz=>?_) l xs nr rl⟩
        rcases alj.mp hz with hz|hz
        ·exact sub z hz
        ·rw[alw]at hz;subst hz;exact alv ha
     ·refine⟨λj b e=>?_,λb o e z t=>?_⟩
      ·have q:=Xc.pre j b e;rw[alL (alb.mp q).1];exact q
      ·obtain⟨h1,h2⟩:=X1.keep b o e z t;refine⟨h1,λq=>h2 ?_⟩
       rcases alj.mp q with q|q
       ·exact sub b q
       ·rw[alw]at q;subst q;exact alv ha
     ·rw[al3 (by rw[lr];exact akT _),lr,amv];rfl
    ·exact p (aO.take c.length) H1 (.ref a) Wc Xc ⟨a,xs,rfl,⟨hx,na⟩,aM.low sub l xs nr rl⟩
   ·exact p.elim
  ·exact p.elim
 ·split at p
  ·rename_i hv;exact p _ H1 x Wc Xc (Rel.low (λb h=>amq h) _ _ hv r)
  ·exact p.elim
theorem dz.start{ρ:List Ω}{H:Hp}{xs:List D}{vs:List V}{N:List Str}(r:aM K ρ H xs vs):dz K ρ H (dH N.length xs) (start N vs):=by
 have hl:=r.length;refine⟨λi d h=>?_,by simp[dH,L2.start,hl]⟩
 unfold dH at h;unfold L2.start
 by_cases hi:i<xs.length
 ·rw[alL (by simpa using hi),alk]at h
  cases q:xs[i]? with
  |none=>rw[q]at h;cases h
  |some x =>
   rw[q]at h;cases h;obtain⟨v,hv,rv⟩:=r.get q;exact⟨v,by rw[alL (by simp[hl];exact hi),alk,hv];rfl,rv⟩
 ·rw[al3 (by simpa using apb hi)]at h
  have:=alv h;rw[List.mem_replicate]at this;cases this.2
theorem cM{x qual:Str}{st:acz}{f:Ω}{fd:ο}{N ps:List Str}{k n m:Nat}{own:Bool}{d:ah}(F:mY K x qual st f fd) (S:cB N ps (aW st)) (hN:N.length=n) (hm:ps.length=m)
  (hb:∀(cdv:Θ) (A:ω) (outer:List Env) (s:ε) (H:Hp) (E:XK),eB k (A.deeper (envOfC qual (aW st) s.heap.objs.size f cdv))->b9 (gi bY P w K mg base N qual (aW st) f cdv A outer s H E).fC (cA st) d) :
  bX P w K mg base bY (k+1) f fd ps (cj K m (bM n own d)):=by
 subst hN;subst hm;refine F.ok S (λvs H Q E h=>?_) (λcdv A outer s H vs Q E hr h=>⟨_,hb cdv A outer s H E hr,?_⟩)
 ·obtain⟨ρ,xs,c,W,r,hl,p⟩:=h;exact r.length.trans hl
 ·obtain⟨ρ,xs,c,W,r,hl,p⟩:=h;refine⟨ρ,dH N.length xs,c,W,dz.start r,post.bind p λfl c1 aO H1 b _ W1 X1 r1 p1=>?_⟩
  cases fl with
  |nx e1 =>
   obtain⟨σ1,rfl,V1⟩:=r1;exact AD (v:=.aQ) (x:=.aQ) (H1:=H1) W W1 X1 rfl (by
    unfold bM at p;exact id (α:=post K (Rel K) (dX own c.length .aQ c1) ρ H Q) (by
     rename_i he;rw[he]at p;exact p))
  |rt d =>
   obtain⟨v,rfl,V1⟩:=r1;exact AD (v:=d) (x:=v) (H1:=H1) W W1 X1 V1 (by
    unfold bM at p;rename_i he;rw[he]at p;exact p)
  |bk e1=>exact p1.elim
  |ct e1=>exact p1.elim
end
section
variable {X:Cx}
theorem bg{x:Str}{st:acz}{ps:List Str}{f:Ω}{fd:ο}{k n:Nat}{m:List D->aa->R D}{e:π}{es:List π}{da:aj}{p pos:Pos}(D:Def X.K X.mg x st ps f fd) (G:bX X.prog X.w X.K X.mg X.base bY k f fd ps (cj X.K n m)) (hr:eB k X.A) (ha:fq X (e::es) da) (hg:Gl X x:=by rfl)
  (hdb:(x==("__debug__":Str))=ξ:=by decide) (he:μ (e::es) X.env=(ξ,eval e X.env)::μ es X.env:=by exact b7 rfl) (hpl:(acF pos (μ es X.env)).any (·.1)=ξ:=by exact ff rfl) :
  aX X (.Call (.Name x p) (e::es) [] pos) (aC n m da):=(Xi D G hr ha hg hdb he hpl).imp λσ H Q h=>by
 obtain⟨ρ,e,c,W,V,q⟩:=h;refine⟨ρ,e,c,W,V,post.bind q λxs c1 aO H1 vs _ W1 X1 r1 p1=>?_⟩
 split at p1
 ·rename_i hl;exact⟨aO,xs,c1,W1,by rw[amb];exact r1,hl,p1⟩
 ·exact p1.elim
theorem aY{id:String}{x:Str}{p pos:Pos}{e:π}{es:List π}{da:aj}{f:List D->aa->R D}(hc:c9 X (.builtin id) (rN X.K f)) (hm:X.mg x=η) (hv:bootBuiltins x=ζ (.builtin id)) (ha:fq X (e::es) da) (hg:Gl X x:=by rfl) (hn:x≠"__name__":=by decide) (hdb:(x==("__debug__":Str))=ξ:=by decide)
  (he:μ (e::es) X.env=(ξ,eval e X.env)::μ es X.env:=by exact b7 rfl) (hpl:(acF pos (μ es X.env)).any (·.1)=ξ:=by exact ff rfl):aX X (.Call (.Name x p) (e::es) [] pos) (aB f da):=(ym hc hg hm hv ha hn hdb he hpl).imp λσ H Q h=>IP h
theorem iK{T:String}{x:Str}{p pos:Pos}{e:π}{es:List π}{da:aj}{f:List D->aa->R D}(hc:c9 X (.type T) (rN X.K f)) (hm:X.mg x=η) (hv:bootBuiltins x=ζ (.type T)) (ha:fq X (e::es) da) (hg:Gl X x:=by rfl) (hn:x≠"__name__":=by decide) (hdb:(x==("__debug__":Str))=ξ:=by decide)
  (he:μ (e::es) X.env=(ξ,eval e X.env)::μ es X.env:=by exact b7 rfl) (hpl:(acF pos (μ es X.env)).any (·.1)=ξ:=by exact ff rfl):aX X (.Call (.Name x p) (e::es) [] pos) (aB f da):=(nB hc hg hm hv ha hn hdb he hpl).imp λσ H Q h=>IP h
end
def aN:List D->aa->R D:=λxs c=>match xs with
 |[x]=>match gw c x with
  |some l=>.ok (.int l.length) c
  |none=>match x with
   |.str z=>if z.length<=ι then .ok (.int z.length) c else .bad
   |_=>.bad
 |_=>.bad
def ID:D->Option String
 |.aQ=>ζ "NoneType"
 |.bl _=>ζ "bool"
 |.int _=>ζ "int"
 |.str _=>ζ "str"
 |.tup _=>ζ "tuple"
 |.lst _=>ζ "list"
 |.ref _=>ζ "list"
 |_=>η
def bx:List D->aa->R D:=λxs c=>match xs with
 |[.iB,.ty T]=>if T∈["bool","int","str","list","tuple","dict"]then .ok (.bl (uJ "dict" T)) c else .bad
 |[x,.ty T]=>match ID x with
  |some n=>if T∈["bool","int","str","list","tuple","dict"]then .ok (.bl (uJ n T)) c else .bad
  |none=>.bad
 |_=>.bad
def kC:List D->Option (List Bool)
 |[]=>ζ []
 |.bl b::l=>(kC l).map (b :: ·)
 |_=>η
def ko:List D->Option (List Int)
 |[]=>ζ []
 |.int i::l=>(ko l).map (i :: ·)
 |_=>η
theorem ahN(l:List Bool):kC (l.map D.bl)=ζ l:=by
 induction l with
 |nil=>rfl
 |cons a l ih=>simp[kC,ih]
theorem vJ(l:List Int):ko (l.map D.int)=ζ l:=by
 induction l with
 |nil=>rfl
 |cons a l ih=>simp[ko,ih]
theorem AY:∀{l:List D}{bs:List Bool},kC l=ζ bs->l=bs.map D.bl
 |[],bs,h=>by cases h;rfl
 |d::l,bs,h=>by
  cases d with
  |bl b =>
   unfold kC at h;cases q:kC l with
   |none=>rw[q]at h;cases h
   |some r=>rw[q]at h;cases h;rw[AY q];rfl
  |_=>cases h
theorem zu:∀{l:List D}{bs:List Int},ko l=ζ bs->l=bs.map D.int
 |[],bs,h=>by cases h;rfl
 |d::l,bs,h=>by
  cases d with
  |int b =>
   unfold ko at h;cases q:ko l with
   |none=>rw[q]at h;cases h
   |some r=>rw[q]at h;cases h;rw[zu q];rfl
  |_=>cases h
def Cb(f:List Bool->Bool):List D->aa->R D:=λxs c=>match xs with
 |[.lst l]=>match kC l with
  |some bs=>.ok (.bl (f bs)) c
  |none=>.bad
 |_=>.bad
def dQ:=Cb λbs=>bs.all id
def sj:List D->aa->R D:=λxs c=>match xs with
 |[.int i,.int j]=>.ok (.int (if j>i then j else i)) c
 |_=>.bad
def cg:List D->aa->R D:=λxs c=>match xs with
 |[x]=>match gw c x with
  |some l=>.ok (.tup l) c
  |none=>.bad
 |_=>.bad
def jH:List D->aa->R D:=λxs c=>match xs with
 |[x]=>match gw c x with
  |some l=>.ok (.lst l) c
  |none=>.bad
 |_=>.bad
section
variable {X:Cx}{K:Ψ}{ρ:List Ω}{H:Hp}{c:aa}
theorem cD:c9 X (.builtin "len") (rN X.K aN):=by
 intro pins s σ H vs us Q I rv h;obtain⟨ρ,xs,c,W,rx,p⟩:=h;unfold aN at p;split at p
 ·rename_i x;obtain⟨v,r,rfl,hx,hr⟩:=rx;cases hr;split at p
  ·rename_i l hl;obtain⟨a,ys,rfl,sq,r⟩:=xV W hx hl;exact ahE pins s σ H _ us Q I rv ⟨a,ys,rfl,sq,by rw[r.length];exact p.here W rfl⟩
  ·split at p
   ·split at p
    ·rename_i hz;cases hx;exact ahD pins s σ H _ us Q I rv ⟨_,rfl,hz,p.here W rfl⟩
    ·exact p.elim
   ·exact p.elim
 ·exact p.elim
theorem Rw{x:D}{v:V}{n:String}(W:Wd K ρ H c) (rx:Rel K ρ H x v) (h:ID x=ζ n):tyName H v n:=by
 cases x with
 |aQ=>cases rx;cases h;exact rfl
 |bl b=>cases rx;cases h;exact rfl
 |int b=>cases rx;cases h;exact rfl
 |str b=>cases rx;cases h;exact rfl
 |tup l=>obtain⟨a,xs,rfl,s,r⟩:=rx;cases h;exact .inr (.inl ⟨rfl,xs,s⟩)
 |lst l=>obtain⟨a,xs,rfl,s,r⟩:=rx;cases h;exact .inl ⟨rfl,.inl ⟨xs,s.1⟩⟩
 |ref k =>
  obtain⟨a,rfl,s⟩:=rx;cases h;obtain⟨xs,e⟩:=W.at' (alv s);exact .inl ⟨rfl,.inl ⟨xs,e⟩⟩
 |_=>cases h
theorem gm:c9 X (.builtin "isinstance") (rN X.K bx):=by
 intro pins s σ H vs us Q I rv h;obtain⟨ρ,xs,c,W,rx,p⟩:=h;unfold bx at p;split at p
 ·split at p
  ·rename_i hT;obtain⟨v,r,rfl,⟨a,rfl,hH⟩,u,r',rfl,hu,hr⟩:=rx;cases hr;cases hu;obtain⟨u1,u2,rfl,r1,r2⟩:=Vals.two rv;cases r1;cases r2;obtain⟨hp,_,_⟩:=I.hok a _ hH;exact alK anY I.eH hp (LG (n:="dict") (by simp) hT) (λz=>nomatch z) λtk=>⟨.bl _,H,I.tok _,rfl,p.here W rfl⟩
  ·exact p.elim
 ·split at p
  ·rename_i n hn;split at p
   ·rename_i hT;obtain⟨v,r,rfl,hx,u,r',rfl,hu,hr⟩:=rx;cases hr;cases hu;exact ahF pins s σ H _ us Q I rv ⟨v,n,_,rfl,Rw W hx hn,hT,p.here W rfl⟩
   ·exact p.elim
  ·exact p.elim
 ·exact p.elim
theorem wD(hc:X.calm=Ξ:=by rfl):c9 X (.builtin "all") (rN X.K dQ):=by
 intro pins s σ H vs us Q I rv h;obtain⟨ρ,xs,c,W,rx,p⟩:=h;unfold dQ Cb at p;split at p
 ·split at p
  ·rename_i bs hb;obtain⟨v,r,rfl,⟨a,ys,rfl,s1,r1⟩,hr⟩:=rx;cases hr;rw[AY hb]at r1;cases r1.O3;exact ahG hc pins s σ H _ us Q I rv ⟨a,bs,rfl,bC.of s1.1,p.here W rfl⟩
  ·exact p.elim
 ·exact p.elim
theorem aho(hc:X.calm=Ξ:=by rfl):c9 X (.builtin "max") (rN X.K sj):=by
 intro pins s σ H vs us Q I rv h;obtain⟨ρ,xs,c,W,rx,p⟩:=h;unfold sj at p;split at p
 ·obtain⟨v,r,rfl,hx,u,r',rfl,hu,hr⟩:=rx;cases hr;cases hx;cases hu;exact ahB hc pins s σ H _ us Q I rv ⟨_,_,rfl,p.here W rfl⟩
 ·exact p.elim
theorem jQ:c9 X (.type "tuple") (rN X.K cg):=by
 intro pins s σ H vs us Q I rv h;obtain⟨ρ,xs,c,W,rx,p⟩:=h;unfold cg at p;split at p
 ·rename_i x;obtain⟨v,r,rfl,hx,hr⟩:=rx;cases hr;split at p
  ·rename_i l hl;obtain⟨a,ys,rfl,sq,r⟩:=xV W hx hl;refine ahA pins s σ H _ us Q I rv ⟨a,ys,rfl,?_⟩
   rcases sq with sq|sq
   ·exact .inl ⟨sq,vp W r p⟩
   ·refine .inr ⟨sq,?_⟩;cases x with
    |tup m=>cases hl;exact p.here W hx
    |lst m =>
     obtain⟨b,zs,e,s1,_⟩:=hx;cases e;exfalso
     rcases sq with sq|⟨o,its,n,hk,hcl,_⟩
     ·rcases sq with sq|⟨o,sq⟩<;>(rw[s1.1]at sq;cases sq)
     ·have:=I.bs a o (I.ok.mod.lg a o hk);rw[s1.1]at this;cases this.2
    |bL m =>
     exfalso;obtain⟨b,e,s1⟩:=hx;cases e;obtain⟨i1,_,pl,_⟩:=I.list s1.sql;obtain⟨i2,_,pt,_⟩:=I.tuple sq;obtain⟨o1,e1,c1,_⟩:=pl.isList;obtain⟨o2,e2,c2,_⟩:=pt;rw[e1]at e2;cases e2;rw[c1]at c2;exact absurd c2 (by decide)
    |ref k =>
     exfalso;obtain⟨b,e,s1⟩:=hx;cases e;obtain⟨zs,hz⟩:=W.at' (alv s1)
     rcases sq with sq|⟨o,its,n,hk,hcl,_⟩
     ·rcases sq with sq|⟨o,sq⟩<;>(rw[hz]at sq;cases sq)
     ·have:=I.bs a o (I.ok.mod.lg a o hk);rw[hz]at this;cases this.2
    |_=>cases hl
  ·exact p.elim
 ·exact p.elim
theorem N9:c9 X (.type "list") (rN X.K jH):=by
 intro pins s σ H vs us Q I rv h;obtain⟨ρ,xs,c,W,rx,p⟩:=h;unfold jH at p;split at p
 ·rename_i x;obtain⟨v,r,rfl,hx,hr⟩:=rx;cases hr;split at p
  ·rename_i l hl;obtain⟨a,ys,rfl,sq,r⟩:=xV W hx hl;exact ahC pins s σ H _ us Q I rv ⟨a,ys,rfl,sq,kY W r p⟩
  ·exact p.elim
 ·exact p.elim
end
def fm(o a:af):af:=λe c=>(o e c).bind λx c=>match x with
 |.ref k=>(a e c).bind λy c=>match c[k]? with
  |some (.lst l)=>if l.length<ι/\noRef y=Ξ then .ok .aQ (c.set k (.lst (l++[y])))else .bad
  |none=>.bad
 |_=>.bad
theorem rQ{X:Cx}{o e:π}{dO da:af}{apos cpos:Pos}(ho:aX X o dO) (ha:aX X e da)
  (hbase:ado o "append" X.env (eval o X.env)=eval o X.env:=by rfl)
  (hfew:((acF cpos (μ [e] X.env)).all (λx=>!x.1)&&(adt cpos (adj [] X.env)).all (λx=>x.1.isSome)
   && decide ([e].length+([]:List adm).length+(if([]:List adm).isEmpty then 0 else 1)<30))=Ξ:=by exact uL rfl)
  (hline:(apos.endLine==cpos.line)=Ξ:=by rfl) (hs:μ [e] X.env=(ξ,eval e X.env)::μ [] X.env:=by exact b7 rfl) (hplain:(acF cpos (μ [] X.env)).any (·.1)=ξ:=by exact ff rfl) :
  aX X (.Call (.Attribute o "append" apos) [e] [] cpos) (fm dO da) :=
 (u7 am6 PySem.F.slot_list_append PySem.F.type_list_append aa7 ho (jB ha jA hs) hbase hfew hline hs hplain).imp λσ H Q h=>by
  obtain⟨ρ,e,c,W,V,p⟩:=h;refine⟨ρ,e,c,W,V,post.bind p λx c1 aO H1 v _ W1 X1 r1 p1=>?_⟩
  cases x with
  |ref k =>
   obtain⟨a,rfl,ha⟩:=r1;obtain⟨xs,hx⟩:=W1.at' (alv ha);refine⟨.inl ⟨rfl,xs,bC.of hx⟩,aO,e,c1,W1,V.mono W X1,post.bind p1 λy c2 cC H2 u _ W2 X2 r2 p2=>?_⟩
   split at p2
   ·rename_i l hl;split at p2
    ·rename_i hh;obtain⟨nr,ys,hy,rl⟩:=W2.gk k a _ (X2.pre k a ha) hl;refine⟨a,ys,u,rfl,rfl,hy,by rw[rl.length];exact hh.1,?_⟩
     refine p2 cC _ .aQ (W2.write (X2.pre k a ha) (by rw[vn,nr];simp[bO,hh.2]) (rl.append ⟨u,[],rfl,r2,rfl⟩)) (Ext.write (X2.pre k a ha)) rfl
    ·exact p2.elim
   ·exact p2.elim
  |_=>exact p1.elim
section
variable (e:Ev) (c:aa) (a b d:af) (ta tb:ai) (s t:ah) (l:aj) (g:Gd) (gs:List D->Ev->aa->R Ev)
@[simp] theorem bJ(i:Nat):ak i e c=match e[i]? with|some (ζ d)=>.ok d c|_=>.bad:=rfl
@[simp] theorem oO(d:D):dC d e c=.ok d c:=rfl
@[simp] theorem d9(f:D->D->aa->R D):au f a b e c=(a e c).bind λx c=>(b e c).bind λy c=>f x y c:=rfl
@[simp] theorem dG(f:List D->aa->R D):aB f l e c=(l e c).bind λxs c=>f xs c:=rfl
@[simp] theorem ajw(f g:D->D->aa->R D):gY f g a b d e c=(a e c).bind λx c=>(b e c).bind λy c=>(f x y c).bind λz c=>match z with
 |.bl Ξ=>(d e c).bind λu c=>g y u c
 |.bl ξ=>.ok (.bl ξ) c
 |_=>.bad:=rfl
@[simp] theorem bK:aq e c=.ok [] c:=rfl
@[simp] theorem bE:ao a l e c=(a e c).bind λx c=>(l e c).bind λxs c=>.ok (x::xs) c:=rfl
@[simp] theorem Il:dN l e c=(l e c).bind λxs c=>if xs.length<=ι then .ok (.tup xs) c else .bad:=rfl
@[simp] theorem BB:bH l e c=(l e c).bind λxs c=>if xs.length<=ι then .ok (.lst xs) c else .bad:=rfl
@[simp] theorem Q0:eV l e c=(l e c).bind λxs c=>if xs.length<=ι/\bO xs=Ξ then .ok (.ref c.length) (c++[.lst xs])else .bad:=rfl
@[simp] theorem jx:aL a e c=(a e c).bind λx c=>match x with|.bl b=>.ok b c|_=>.bad:=rfl
@[simp] theorem ajd:tE a e c=(a e c).bind λx c=>match uH c x with|some b=>.ok b c|none=>.bad:=rfl
@[simp] theorem ajy:gB ta tb e c=(ta e c).bind λx c=>if x=Ξ then tb e c else .ok ξ c:=rfl
@[simp] theorem BA:dY ta tb e c=(ta e c).bind λx c=>if x=Ξ then .ok Ξ c else tb e c:=rfl
@[simp] theorem qu:bR ta e c=(ta e c).bind λx c=>.ok (!x) c:=rfl
@[simp] theorem Q6:iT a b e c=(a e c).bind λx c=>match x with|.bl k=>if k=Ξ then b e c else .ok (.bl ξ) c|_=>.bad:=rfl
@[simp] theorem ajh:AO a e c=(a e c).bind λx c=>match x with|.bl k=>.ok (.bl (!k)) c|_=>.bad:=rfl
@[simp] theorem x_call(n:Nat) (m:List D->aa->R D):aC n m l e c=(l e c).bind λxs c=>if xs.length=n then m xs c else .bad:=rfl
@[simp] theorem QX:br e c=.ok (.nx e) c:=rfl
@[simp] theorem ajx:x9 e c=.bad:=rfl
@[simp] theorem jv:aE s t e c=(s e c).bind λf c=>match f with|.nx e=>t e c|f=>.ok f c:=rfl
@[simp] theorem jw:aK a e c=(a e c).bind λx c=>.ok (.rt x) c:=rfl
@[simp] theorem nc:dR a e c=(a e c).bind λ_ c=>.ok (.nx e) c:=rfl
@[simp] theorem gS:bq ta s t e c=(ta e c).bind λx c=>if x=Ξ then s e c else t e c:=rfl
@[simp] theorem fR(i:Nat):aG i a e c=(a e c).bind λx c=>.ok (.nx (e.set i (ζ x))) c:=rfl
@[simp] theorem Iq:kU a g e c=(a e c).bind λx c=>(g x e c).bind λe c=>.ok (.nx e) c:=rfl
@[simp] theorem Q3(i:Nat) (x:D):aA i x e c=.ok (e.set i (ζ x)) c:=rfl
@[simp] theorem ajr:EU [] e c=.ok e c:=rfl
@[simp] theorem ajs(x:D) (xs:List D):zN g gs (x::xs) e c=(g x e c).bind λe c=>gs xs e c:=rfl
@[simp] theorem ajq(n:Nat) (xs:List D):zM n gs (.tup xs) e c=if xs.length=n then gs xs e c else .bad:=rfl
@[simp] theorem Ip(x:D):lF a b x e c=(a e c).bind λo c=>(b e c).bind λi c=>(kT o i x c).bind λ_ c=>.ok e c:=rfl
@[simp] theorem gE(sr:Ev->aa->R Src):bQ sr g s e c=(sr e c).bind λq c=>cG q.stays g s q.items e c:=rfl
@[simp] theorem fu(n:Nat) (own:Bool) (xs:List D):bM n own s xs c=(s (dH n xs) c).bind λf c'=>match f with
 |.rt v=>dX own c.length v c'
 |.nx _=>dX own c.length .aQ c'
 |_=>.bad:=rfl
@[simp] theorem QN(n:Nat) (xs:List D):dH n xs=xs.map ζ++ν (n-xs.length) η:=rfl
@[simp] theorem dF(sr:Ev->aa->R Src) (pick:List (Option Nat)):aT sr pick g ta a e c=(sr e c).bind λq c =>
 if q.items.length<ι then(bI q.stays g ta a q.items (cO pick e) [] c).bind λl c=>.ok (.lst l) c else .bad:=rfl
@[simp] theorem kO:aJ e c=.ok Ξ c:=rfl
@[simp] theorem oQ(i j:Int):aZ (.int i) (.int j) c=.ok (.int (i+j)) c:=rfl
@[simp] theorem ajz(x y:List D):aZ (.tup x) (.tup y) c=if x.length≠0/\x.length+y.length<=ι then .ok (.tup (x++y)) c else .bad:=rfl
@[simp] theorem xy(i j:Int):bS (.int i) (.int j) c=.ok (.int (i-j)) c:=rfl
theorem Im(i j:Int):b8 (.int i) (.int j) c=if(-(2^64)<i/\i<2^64)\/(-(2^64)<j/\j<2^64)then .ok (.int (i*j)) c else .bad:=rfl
theorem Q5(i j:Int):gO (.int i) (.int j) c=if 0<j/\j<1073741824 then .ok (.int (i/j)) c else .bad:=rfl
theorem QY(i j:Int):bT (.int i) (.int j) c=if 0<j then .ok (.int (i % j)) c else .bad:=rfl
theorem QU(i j:Int):rO (.int i) (.int j) c=if 0<=j/\j<=1000000/\i.natAbs<2^64 then .ok (.int (i^j.toNat)) c else .bad:=rfl
@[simp] theorem ajv(p:Int->Int->Bool) (i j:Int):pX p (.int i) (.int j) c=.ok (.bl (p i j)) c:=rfl
@[simp] theorem Q4(i j:Int):cy (.int i) (.int j) c=.ok (.bl (decide (i=j))) c:=rfl
@[simp] theorem ajj(i j:Int):fX (.int i) (.int j) c=.ok (.bl (!decide (i=j))) c:=rfl
@[simp] theorem aju(i j:Bool):cy (.bl i) (.bl j) c=.ok (.bl (decide (i=j))) c:=rfl
@[simp] theorem ajk(i j:Bool):fX (.bl i) (.bl j) c=.ok (.bl (!decide (i=j))) c:=rfl
@[simp] theorem ajt(i j:Str):cy (.str i) (.str j) c=.ok (.bl (decide (i=j))) c:=rfl
@[simp] theorem aji(i j:Str):fX (.str i) (.str j) c=.ok (.bl (!decide (i=j))) c:=rfl
@[simp] theorem x_is(x:D):vI x .aQ c=.ok (.bl (iQ x)) c:=rfl
@[simp] theorem ajW:iQ .aQ=Ξ:=rfl
@[simp] theorem n_bl(b:Bool):iQ (.bl b)=ξ:=rfl
@[simp] theorem ajY(b:Int):iQ (.int b)=ξ:=rfl
@[simp] theorem ajV(b:Str):iQ (.str b)=ξ:=rfl
@[simp] theorem ajU(b:List D):iQ (.tup b)=ξ:=rfl
@[simp] theorem ajX(b:List D):iQ (.lst b)=ξ:=rfl
@[simp] theorem xD(xs:List D) (i:Int):aF (.tup xs) (.int i) c=match cJ xs i with|some d=>.ok d c|none=>.bad:=rfl
@[simp] theorem qv(xs:List D) (i:Int):aF (.lst xs) (.int i) c=match cJ xs i with|some d=>.ok d c|none=>.bad:=rfl
@[simp] theorem uD(xs:List D):aN [.tup xs] c=.ok (.int xs.length) c:=rfl
@[simp] theorem Io(xs:List D):aN [.lst xs] c=.ok (.int xs.length) c:=rfl
@[simp] theorem ajn(xs:List Int):aN [.bL xs] c=.ok (.int xs.length) c:=by
 show R.ok (D.int ((xs.map D.int).length:Nat)) c=_;rw[ak6]
@[simp] theorem QZ(i j:Int):sj [.int i,.int j] c=.ok (.int (if j>i then j else i)) c:=rfl
@[simp] theorem ajJ:noRef .aQ=Ξ:=rfl
@[simp] theorem r_bl(b:Bool):noRef (.bl b)=Ξ:=rfl
@[simp] theorem ajL(b:Int):noRef (.int b)=Ξ:=rfl
@[simp] theorem ajI(b:Str):noRef (.str b)=Ξ:=rfl
@[simp] theorem JI(b:List D):noRef (.tup b)=bO b:=by simp[noRef]
@[simp] theorem JJ(b:List D):noRef (.lst b)=bO b:=by simp[noRef]
@[simp] theorem ajK:bO []=Ξ:=by simp[bO]
@[simp] theorem ajM(d:D) (b:List D):bO (d::b)=(noRef d&&bO b):=by simp[bO]
@[simp] theorem q_bl(own:Bool) (n:Nat) (b:Bool):dX own n (.bl b) c=.ok (.bl b) (c.take n):=rfl
@[simp] theorem ajP(own:Bool) (n:Nat):dX own n .aQ c=.ok .aQ (c.take n):=rfl
@[simp] theorem ajR(own:Bool) (n:Nat) (b:Int):dX own n (.int b) c=.ok (.int b) (c.take n):=rfl
@[simp] theorem ajO(own:Bool) (n:Nat) (b:Str):dX own n (.str b) c=.ok (.str b) (c.take n):=rfl
@[simp] theorem uX(own:Bool) (n:Nat) (b:List D):dX own n (.tup b) c=if bO b=Ξ then .ok (.tup b) (c.take n)else .bad:=by
 show(if noRef (.tup b)=Ξ then R.ok (D.tup b) (c.take n)else R.bad)=_
 rw[JI]
@[simp] theorem ajQ(own:Bool) (n:Nat) (b:List D):dX own n (.lst b) c=if bO b=Ξ then .ok (.lst b) (c.take n)else .bad:=by
 show(if noRef (.lst b)=Ξ then R.ok (D.lst b) (c.take n)else R.bad)=_
 rw[JJ]
@[simp] theorem gr:aV l e c=(l e c).bind λxs c=>match xs with
 |[.int j]=>if -(2^62)<=j/\j<2^62 then .ok ⟨bf 0 j,λ_=>True⟩ c else .bad
 |_=>.bad:=rfl
@[simp] theorem ajg:oi l e c=(l e c).bind λxs c=>match xs with
 |[.int i,.int j]=>if -(2^62)<=i/\i<2^62/\-(2^62)<=j/\j<2^62 then .ok ⟨bf i j,λ_=>True⟩ c else .bad
 |_=>.bad:=rfl
@[simp] theorem xC:gh a e c=(a e c).bind λx c=>match x with
 |.lst l=>.ok ⟨l,λ_=>True⟩ c
 |.bL l=>.ok ⟨l.map D.int,λ_=>True⟩ c
 |.ref k=>match c[k]? with
  |some (.lst l)=>.ok ⟨l,λc=>c[k]? = ζ (.lst l)⟩ c
  |none=>.bad
 |_=>.bad:=rfl
@[simp] theorem xB:bD a e c=(a e c).bind λx c=>match x with
 |.tup l=>.ok ⟨l,λ_=>True⟩ c
 |_=>.bad:=rfl
end
section
variable (g:Gd) (s:ah) (t:ai) (a:af) (e:Ev) (c:aa)
@[simp] theorem akF:cG (λ_=>True) g s [] e c=.ok (.nx e) c:=by simp[cG]
@[simp] theorem iA(x:D) (xs:List D):cG (λ_=>True) g s (x::xs) e c=(g x e c).bind λe c=>(s e c).bind λf c=>match f with
   |.nx e=>cG (λ_=>True) g s xs e c
   |.ct e=>cG (λ_=>True) g s xs e c
   |.bk e=>.ok (.nx e) c
   |.rt d=>.ok (.rt d) c:=by
 conv=>lhs;unfold cG
 exact if_pos trivial
@[simp] theorem akL(acc:List D):bI (λ_=>True) g t a [] e acc c=.ok acc c:=by simp[bI]
@[simp] theorem jP(x:D) (xs acc:List D):bI (λ_=>True) g t a (x::xs) e acc c=(g x e c).bind λe c=>(t e c).bind λk c=>if k=Ξ then(a e c).bind λy c=>bI (λ_=>True) g t a xs e (acc++[y]) c else bI (λ_=>True) g t a xs e acc c:=by
 conv=>lhs;unfold bI
 exact if_pos trivial
end
@[simp] theorem gz{α:Type}(a:α) (l:List α):(a::l)[0]? = ζ a:=rfl
@[simp] theorem gs{α:Type}(a:α) (l:List α) (n:Nat):(a::l)[n+1]? = l[n]?:=rfl
@[simp] theorem at0{α:Type}(a:α) (l:List α):cJ (a::l) 0=ζ a:=by simp[cJ,fM]
@[simp] theorem at1{α:Type}(a b:α) (l:List α):cJ (a::b::l) 1=ζ b:=by
 unfold cJ fM;rw[if_pos (by decide),if_pos (by simp;omega)]
 rfl
@[simp] theorem at2{α:Type}(a b d:α) (l:List α):cJ (a::b::d::l) 2=ζ d:=by
 unfold cJ fM;rw[if_pos (by decide),if_pos (by simp;omega)]
 rfl
@[simp] theorem at3{α:Type}(a b d f:α) (l:List α):cJ (a::b::d::f::l) 3=ζ f:=by
 unfold cJ fM;rw[if_pos (by decide),if_pos (by simp;omega)]
 rfl
@[simp] theorem at4{α:Type}(a b d f h:α) (l:List α):cJ (a::b::d::f::h::l) 4=ζ h:=by
 unfold cJ fM;rw[if_pos (by decide),if_pos (by simp;omega)]
 rfl
theorem fy{n:Nat}(h:n<=1000):n<=ι:=als h (by decide)
@[simp] theorem sl0:(0:Nat)<=ι:=alV _
@[simp] theorem sl1:(1:Nat)<=ι:=by decide
@[simp] theorem sl2:(2:Nat)<=ι:=by decide
@[simp] theorem sl3:(3:Nat)<=ι:=by decide
@[simp] theorem BP:(4:Nat)<=ι:=by decide
@[simp] theorem sl5:(5:Nat)<=ι:=by decide
@[simp] theorem sl6:(6:Nat)<=ι:=by decide
@[simp] theorem st0:(0:Nat)<ι:=by decide
@[simp] theorem st1:(1:Nat)<ι:=by decide
@[simp] theorem st2:(2:Nat)<ι:=by decide
@[simp] theorem st3:(3:Nat)<ι:=by decide
@[simp] theorem Je:(4:Nat)<ι:=by decide
@[simp] theorem oY:(5:Nat)<ι:=by decide
@[simp] theorem akv(i:Int) (c:aa):bx [.int i,.ty "int"] c=.ok (.bl Ξ) c:=rfl
@[simp] theorem akw(i:Int) (c:aa):bx [.int i,.ty "bool"] c=.ok (.bl ξ) c:=rfl
@[simp] theorem akt(i:Int) (c:aa):bx [.int i,.ty "str"] c=.ok (.bl ξ) c:=rfl
@[simp] theorem aks(i:Int) (c:aa):bx [.int i,.ty "tuple"] c=.ok (.bl ξ) c:=rfl
@[simp] theorem aku(i:Int) (c:aa):bx [.int i,.ty "list"] c=.ok (.bl ξ) c:=rfl
@[simp] theorem akA(i:Bool) (c:aa):bx [.bl i,.ty "int"] c=.ok (.bl Ξ) c:=rfl
@[simp] theorem akB(i:Bool) (c:aa):bx [.bl i,.ty "bool"] c=.ok (.bl Ξ) c:=rfl
@[simp] theorem aky(i:Bool) (c:aa):bx [.bl i,.ty "str"] c=.ok (.bl ξ) c:=rfl
@[simp] theorem akx(i:Bool) (c:aa):bx [.bl i,.ty "tuple"] c=.ok (.bl ξ) c:=rfl
@[simp] theorem akz(i:Bool) (c:aa):bx [.bl i,.ty "list"] c=.ok (.bl ξ) c:=rfl
@[simp] theorem akg(i:Str) (c:aa):bx [.str i,.ty "int"] c=.ok (.bl ξ) c:=rfl
@[simp] theorem akh(i:Str) (c:aa):bx [.str i,.ty "bool"] c=.ok (.bl ξ) c:=rfl
@[simp] theorem ake(i:Str) (c:aa):bx [.str i,.ty "str"] c=.ok (.bl Ξ) c:=rfl
@[simp] theorem akd(i:Str) (c:aa):bx [.str i,.ty "tuple"] c=.ok (.bl ξ) c:=rfl
@[simp] theorem akf(i:Str) (c:aa):bx [.str i,.ty "list"] c=.ok (.bl ξ) c:=rfl
@[simp] theorem akl(c:aa):bx [.aQ,.ty "int"] c=.ok (.bl ξ) c:=rfl
@[simp] theorem akm(c:aa):bx [.aQ,.ty "bool"] c=.ok (.bl ξ) c:=rfl
@[simp] theorem akj(c:aa):bx [.aQ,.ty "str"] c=.ok (.bl ξ) c:=rfl
@[simp] theorem aki(c:aa):bx [.aQ,.ty "tuple"] c=.ok (.bl ξ) c:=rfl
@[simp] theorem akk(c:aa):bx [.aQ,.ty "list"] c=.ok (.bl ξ) c:=rfl
@[simp] theorem akb(i:List D) (c:aa):bx [.tup i,.ty "int"] c=.ok (.bl ξ) c:=rfl
@[simp] theorem akc(i:List D) (c:aa):bx [.tup i,.ty "bool"] c=.ok (.bl ξ) c:=rfl
@[simp] theorem aj9(i:List D) (c:aa):bx [.tup i,.ty "str"] c=.ok (.bl ξ) c:=rfl
@[simp] theorem aj8(i:List D) (c:aa):bx [.tup i,.ty "tuple"] c=.ok (.bl Ξ) c:=rfl
@[simp] theorem aka(i:List D) (c:aa):bx [.tup i,.ty "list"] c=.ok (.bl ξ) c:=rfl
@[simp] theorem akq(i:List D) (c:aa):bx [.lst i,.ty "int"] c=.ok (.bl ξ) c:=rfl
@[simp] theorem akr(i:List D) (c:aa):bx [.lst i,.ty "bool"] c=.ok (.bl ξ) c:=rfl
@[simp] theorem ako(i:List D) (c:aa):bx [.lst i,.ty "str"] c=.ok (.bl ξ) c:=rfl
@[simp] theorem akn(i:List D) (c:aa):bx [.lst i,.ty "tuple"] c=.ok (.bl ξ) c:=rfl
@[simp] theorem akp(i:List D) (c:aa):bx [.lst i,.ty "list"] c=.ok (.bl Ξ) c:=rfl
section
variable (c:aa) {i j:Int}
theorem zb(h1:-18446744073709551616<i) (h2:i<18446744073709551616):b8 (.int i) (.int j) c=.ok (.int (i*j)) c:=by
 rw[Im,if_pos];exact .inl ⟨by omega,by omega⟩
theorem mul_r(h1:-18446744073709551616<j) (h2:j<18446744073709551616):b8 (.int i) (.int j) c=.ok (.int (i*j)) c:=by
 rw[Im,if_pos];exact .inr ⟨by omega,by omega⟩
theorem sW(h1:0<j) (h2:j<1073741824):gO (.int i) (.int j) c=.ok (.int (i/j)) c:=by
 rw[Q5,if_pos ⟨h1,h2⟩]
theorem jG(h1:0<j):bT (.int i) (.int j) c=.ok (.int (i % j)) c:=by
 rw[QY,if_pos h1]
theorem JU(h1:0<=j) (h2:j<=1000000) (h3:i.natAbs<18446744073709551616):rO (.int i) (.int j) c=.ok (.int (i^j.toNat)) c:=by
 rw[QU,if_pos ⟨h1,h2,h3⟩]
end
section
variable {g:Gd}{s:ah}{t:ai}{a:af}
theorem oq{c:aa}(inv:Ev->Prop) (F:D->Bool) (G:D->D):∀(items:List D) (e:Ev) (acc:List D),inv e ->
  (∀x∈items,∀e,inv e->∃e',g x e c=.ok e' c/\inv e'/\t e' c=.ok (F x) c/\(F x=Ξ->a e' c=.ok (G x) c)) ->
  bI (λ_=>True) g t a items e acc c=.ok (acc++(items.filter F).map G) c
 |[],e,acc,_,_=>by simp
 |x::xs,e,acc,hi,h=>by
  obtain⟨e',h1,h2,h3,h4⟩:=h x alC e hi;rw[jP,h1,R.aD,h3,R.aD];cases hF:F x with
  |true =>
   rw[if_pos rfl,h4 hF,R.aD,oq inv F G xs e' _ h2 λy hy=>h y (alu _ hy)]
   simp[hF]
  |false =>
   rw[if_neg alf,oq inv F G xs e' _ h2 λy hy=>h y (alu _ hy)]
   simp[hF]
theorem Nb(inv:Ev->Prop):∀(items:List D) (e:Ev) (c:aa),inv e ->
  (∀x∈items,∀e c,inv e->∃e' e'' c' c'',g x e c=.ok e' c'/\s e' c'=.ok (.nx e'') c''/\inv e'') ->
  ∃e' c',inv e'/\cG (λ_=>True) g s items e c=.ok (.nx e') c'
 |[],e,c,hi,_=>⟨e,c,hi,by simp⟩
 |x::xs,e,c,hi,h=>by
  obtain⟨e',e'',c',c'',h1,h2,h3⟩:=h x alC e c hi;obtain⟨e3,c3,i3,h4⟩:=Nb inv xs e'' c'' h3 λy hy=>h y (alu _ hy)
  exact⟨e3,c3,i3,by rw[iA,h1,R.aD,h2];exact h4⟩
theorem Na(inv:Ev->aa->Prop):∀(items:List D) (e:Ev) (c:aa),inv e c ->
  (∀x∈items,∀e c,inv e c->∃e' e'' c' c'',g x e c=.ok e' c'/\s e' c'=.ok (.nx e'') c''/\inv e'' c'') ->
  ∃e' c',inv e' c'/\cG (λ_=>True) g s items e c=.ok (.nx e') c'
 |[],e,c,hi,_=>⟨e,c,hi,by simp⟩
 |x::xs,e,c,hi,h=>by
  obtain⟨e',e'',c',c'',h1,h2,h3⟩:=h x alC e c hi;obtain⟨e3,c3,i3,h4⟩:=Na inv xs e'' c'' h3 λy hy=>h y (alu _ hy)
  exact⟨e3,c3,i3,by rw[iA,h1,R.aD,h2];exact h4⟩
end
theorem vz{lo hi:Int}{d:D}(h:d∈bf lo hi):∃i:Int,d=.int i/\lo<=i/\i<hi:=by
 unfold bf at h;obtain⟨k,hk,rfl⟩:=akW.mp h;have:=akY.mp hk;exact⟨lo+k,rfl,by omega,by omega⟩
theorem fG{lo hi:Int}:(bf lo hi).length=(hi-lo).toNat:=by simp[bf]
def dW(c:aa):D->Option (List D)
 |.lst l=>ζ l
 |.ref k=>match c[k]? with
  |some (.lst l)=>ζ l
  |none=>η
 |_=>η
def uK(c:aa):D->aa->Prop
 |.ref k=>λc'=>c'[k]? = c[k]?
 |_=>λ_=>True
def dP:D->D->aa->R D:=λx y c=>match dW c x,dW c y with
 |some l,ζ m=>if l.length+m.length<=ι then .ok (.lst (l++m)) c else .bad
 |_,_=>.bad
def cutD(xs:List D) (lo hi:Option Int):List D:=(xs.drop (HT.bw xs.length 0 lo)).take (HT.bw xs.length xs.length hi-HT.bw xs.length 0 lo)
def wo(a:af) (lo hi:Ev->aa->R (Option Int)):af:=λe c=>(a e c).bind λx c=>(lo e c).bind λl c=>(hi e c).bind λu c=>match dW c x with
 |some xs=>.ok (.lst (cutD xs l u)) c
 |none=>.bad
def eU:Ev->aa->R (Option Int):=λ_ c=>.ok η c
def eT(a:af):Ev->aa->R (Option Int):=λe c=>(a e c).bind λx c=>match x with
 |.int i=>.ok (ζ i) c
 |_=>.bad
def wm(a:aj):Ev->aa->R Src:=λe c=>(a e c).bind λxs c=>match xs with
 |[.tup l,.tup m]=>.ok ⟨List.zipWith (λx y=>.tup [x,y]) l m,λ_=>True⟩ c
 |[x,y]=>match dW c x,dW c y with
  |some l,ζ m=>.ok ⟨List.zipWith (λx y=>.tup [x,y]) l m,λc'=>uK c x c'/\uK c y c'⟩ c
  |_,_=>.bad
 |_=>.bad
section
variable {X:Cx}{K:Ψ}{ρ ρ':List Ω}{H H':Hp}{c c':aa}
theorem kh{x:D}{v:V}{l:List D}(W:Wd K ρ H c) (rx:Rel K ρ H x v) (h:dW c x=ζ l):∃a xs,v=.ref a/\H a=ζ (.lst xs)/\aM K ρ H l xs:=by
 cases x with
 |lst m =>
  cases h;obtain⟨a,xs,e,s,r⟩:=rx;exact⟨a,xs,e,s.1,r⟩
 |ref k =>
  obtain⟨a,e,s⟩:=rx;unfold dW at h;dsimp only at h;cases hc:c[k]? with
  |none=>rw[hc]at h;cases h
  |some cl =>
   cases cl with
   |lst m =>
    rw[hc]at h;cases h;obtain⟨_,xs,hx,r⟩:=W.gk k a _ s hc;exact⟨a,xs,e,hx,r⟩
 |_=>cases h
theorem Lm{x:D}{v:V}{l:List D}(W:Wd K ρ H c) (W':Wd K ρ' H' c') (E:Ext ρ H ρ' H') (rx:Rel K ρ H x v) (h:dW c x=ζ l) (st:uK c x c') {a:Ω}(e:v=.ref a):∃xs,bC K H' a xs/\aM K ρ' H' l xs:=by
 have UC:=Rel.mono W E x v rx;have h':dW c' x=ζ l:=by
  cases x with
  |lst m=>exact h
  |ref k =>
   have st:c'[k]? = c[k]?:=st;unfold dW at h ⊢;dsimp only at h ⊢;rw[st];exact h
  |_=>cases h
 obtain⟨b,xs,e2,hx,r⟩:=kh W' UC h';rw[e]at e2;cases e2;exact⟨xs,bC.of hx,r⟩
theorem nI:bN X (binaryOp .Add) (r2 X.K dP):=by
 intro pins s σ H v u vv uu Q I rv ru h;obtain⟨ρ,x,y,c,W,rx,ry,p⟩:=h;unfold dP at p;split at p
 ·rename_i l m hl hm;split at p
  ·rename_i hz;obtain⟨a,xs,rfl,ha,ra⟩:=kh W rx hl;obtain⟨b,ys,rfl,hb,rb⟩:=kh W ry hm;exact Yk pins s σ H _ _ vv uu Q I rv ru ⟨a,b,xs,ys,rfl,rfl,ha,hb,by rw[ra.length,rb.length];exact hz,kY W (ra.append rb) p⟩
  ·exact p.elim
 ·exact p.elim
abbrev ux(X:Cx) (e:Option π) (d:Ev->aa->R (Option Int)):Prop:=PO X e (tD X.K (λ_ _ a b=>a=b) d)
theorem PO.imp{e:Option π}{t t':TO}(h:PO X e t) (i:∀σ H Q,t' σ H Q->t σ H Q):PO X e t':=λpins s σ H Q I q=>h pins s σ H Q I (i _ _ _ q)
theorem jZ:ux X η eU:=VY.imp λσ H Q h=>by
 obtain⟨ρ,e,c,W,Vv,p⟩:=h;exact p.here W rfl
theorem jY{e:π}{d:af}(h:aX X e d):ux X (ζ e) (eT d):=(VX h).imp λσ H Q h=>by
 obtain⟨ρ,e,c,W,Vv,p⟩:=h;refine⟨ρ,e,c,W,Vv,post.bind p λx c1 aO H1 v _ W1 X1 r1 p1=>?_⟩
 cases x with
 |int i=>cases r1;exact⟨i,rfl,p1.here W1 rfl⟩
 |_=>exact p1.elim
theorem NQ{l:List D}{xs:List V}{lo hi:Option Int}(r:aM K ρ H l xs):aM K ρ H (cutD l lo hi) (oj xs lo hi):=by
 unfold cutD oj;rw[r.length];exact(r.drop _).take _
theorem Xq{e:π}{lo hi:Option π}{p2 pos:Pos}{da:af}{dl dh:Ev->aa->R (Option Int)}(he:aX X e da) (hl:ux X lo dl) (hh:ux X hi dh):aX X (.Subscript e (.Slice lo hi η p2) pos) (wo da dl dh) :=
 (JY S7 he hl hh).imp λσ H Q h=>by
  obtain⟨ρ,e,c,W,Vv,p⟩:=h;refine⟨ρ,e,c,W,Vv,post.bind p λx c1 aO H1 v _ W1 X1 r1 p1=>⟨aO,e,c1,W1,Vv.mono W X1,post.bind p1 λl c2 cC H2 l' _ W2 X2 r2 p2=>⟨cC,e,c2,W2,(Vv.mono W X1).mono W1 X2,post.bind p2 λu c3 m5 H3 u' _ W3 X3 r3 p3=>?_⟩⟩⟩
  cases r2;cases r3;have rx:=Rel.mono W1 (X2.trans X3) _ _ r1;split at p3
  ·rename_i xs hs;obtain⟨a,ys,rfl,ha,r⟩:=kh W3 rx hs;exact⟨a,ys,rfl,bC.of ha,kY W3 (NQ r) p3⟩
  ·exact p3.elim
theorem PI.or{tg iter:π}{t t':TI}(h:PI X tg iter t) (h':PI X tg iter t'):PI X tg iter (λσ H R=>t σ H R\/t' σ H R):=λpins s σ H R I q=>q.elim (h pins s σ H R I) (h' pins s σ H R I)
theorem acr{l m:List D}{a b:Ω}{st:aa->Prop}(h:∀ρ' H' c',Wd K ρ' H' c'->Ext ρ H ρ' H'->st c'->∃xs ys,bC K H' a xs/\bC K H' b ys/\aM K ρ' H' l xs/\aM K ρ' H' m ys):JS K ρ H ⟨List.zipWith (λx y=>.tup [x,y]) l m,st⟩ (A4 (bC K) a b):=by
 intro ρ' H' c' W E s i;obtain⟨xs,ys,q1,q2,r1,r2⟩:=h ρ' H' c' W E s;refine⟨λd hd=>?_,λe=>⟨xs,ys,q1,q2,?_⟩⟩
 ·have hd:(List.zipWith (λx y=>D.tup [x,y]) l m)[i]? = ζ d:=hd
  rw[aph]at hd;cases e1:l[i]? with
  |none=>rw[e1]at hd;cases hd
  |some x =>
   cases e2:m[i]? with
   |none=>rw[e1,e2]at hd;cases hd
   |some y =>
    rw[e1,e2]at hd;cases hd;obtain⟨v,hv,rv⟩:=r1.get e1;obtain⟨u,hu,ru⟩:=r2.get e2;refine⟨⟨xs,ys,v,u,q1,q2,hv,hu⟩,λz H2 hz=>?_⟩
    obtain⟨t,v',u',rfl,ht,rfl,hz⟩:=hz;obtain⟨z1,z2⟩:=hz xs ys q1 q2;rw[hv]at z1;rw[hu]at z2;cases z1;cases z2;exact⟨W.fresh ht,Ext.fresh W ht,t,[v,u],rfl,fS,v,[u],rfl,Rel.mono W (Ext.fresh W ht) _ _ rv,u,[],rfl,Rel.mono W (Ext.fresh W ht) _ _ ru,rfl⟩
 ·have e:i=(List.zipWith (λx y=>D.tup [x,y]) l m).length:=e
  rw[api]at e;rw[r1.length,r2.length];omega
theorem ac6{es:List π}{k:Nat}{pt:Pos}{a b:π}{da:aj}{p pos:Pos}(ha:fq X [a,b] da) (hm:X.mg "zip"=η) (hg:Gl X "zip":=by rfl) (hs:μ [a,b] X.env=[(ξ,eval a X.env),(ξ,eval b X.env)]:=by exact Jd rfl rfl) (hs2:μ [b] X.env=[(ξ,eval b X.env)]:=by exact uM rfl) :
  PId X (.Tuple es k pt) (.Call (.Name "zip" p) [a,b] [] pos) (wm da):=((WL hg hm ha hs hs2).or (WM hg hm ha hs hs2)).imp λσ H Q h=>by
 obtain⟨ρ,e,c,W,Vv,p⟩:=h;cases hd:da e c with
 |bad=>unfold wm at p;rw[hd]at p;exact p.elim
 |ok xs c1 =>
  have p0:=p;unfold wm at p0;rw[hd,R.aD]at p0;split at p0
  ·left
   refine⟨ρ,e,c,W,Vv,?_⟩;rw[hd];intro aO H1 vs W1 X1 r1;obtain⟨y,ys,rfl,ry,z,zs,rfl,rz,rs⟩:=r1;cases rs;obtain⟨a1,xs,rfl,s1,t1⟩:=ry;obtain⟨a2,ys,rfl,s2,t2⟩:=rz;exact⟨a1,a2,rfl,⟨xs,ys,bU.of s1,bU.of s2⟩,post.here (post.ext p0 X1) W1 (acs λρ' H' c' W' E _=>⟨xs,ys,bU.of (xJ W1 E s1),bU.of (xJ W1 E s2),aM.mono W1 E _ _ t1,aM.mono W1 E _ _ t2⟩)⟩
  ·rename_i x y _;split at p0
   ·rename_i l m hl hm'
    right
    refine⟨ρ,e,c,W,Vv,?_⟩;rw[hd];intro aO H1 vs W1 X1 r1;obtain⟨v,ys,rfl,ry,u,zs,rfl,rz,rs⟩:=r1;cases rs;obtain⟨a1,xs,rfl,s1,t1⟩:=kh W1 ry hl;obtain⟨a2,ys,rfl,s2,t2⟩:=kh W1 rz hm';refine⟨a1,a2,rfl,⟨xs,ys,bC.of s1,bC.of s2⟩,post.here (post.ext p0 X1) W1 (acr λρ' H' c' W' E st=>?_)⟩
    obtain⟨xs',q1,q2⟩:=Lm W1 W' E ry hl st.1 rfl;obtain⟨ys',q3,q4⟩:=Lm W1 W' E rz hm' st.2 rfl;exact⟨xs',ys',q1,q3,q2,q4⟩
   ·exact p0.elim
  ·exact p0.elim
end
section
variable (e:Ev) (c:aa) (a:af) (lo hi:Ev->aa->R (Option Int)) (l:aj)
@[simp] theorem QS:wo a lo hi e c=(a e c).bind λx c=>(lo e c).bind λl c=>(hi e c).bind λu c=>match dW c x with
 |some xs=>.ok (.lst (cutD xs l u)) c
 |none=>.bad:=rfl
@[simp] theorem QW:eU e c=.ok η c:=rfl
@[simp] theorem QV:eT a e c=(a e c).bind λx c=>match x with
 |.int i=>.ok (ζ i) c
 |_=>.bad:=rfl
@[simp] theorem ajc:wm l e c=(l e c).bind λxs c=>match xs with
 |[.tup l,.tup m]=>.ok ⟨List.zipWith (λx y=>.tup [x,y]) l m,λ_=>True⟩ c
 |[x,y]=>match dW c x,dW c y with
  |some l,ζ m=>.ok ⟨List.zipWith (λx y=>.tup [x,y]) l m,λc'=>uK c x c'/\uK c y c'⟩ c
  |_,_=>.bad
 |_=>.bad:=rfl
@[simp] theorem aj6(x:List D):dW c (.lst x)=ζ x:=rfl
end
section
variable {g:Gd}{s:ah}{t:ai}{a:af}
theorem Gy{c:aa}(st:aa->Prop) (hst:st c) (inv:Ev->Prop) (F:D->Bool) (G:D->D):∀(items:List D) (e:Ev) (acc:List D),inv e ->
  (∀x∈items,∀e,inv e->∃e',g x e c=.ok e' c/\inv e'/\t e' c=.ok (F x) c/\(F x=Ξ->a e' c=.ok (G x) c)) ->
  bI st g t a items e acc c=.ok (acc++(items.filter F).map G) c
 |[],e,acc,_,_=>by
  unfold bI;rw[if_pos hst];simp
 |x::xs,e,acc,hi,h=>by
  obtain⟨e',h1,h2,h3,h4⟩:=h x alC e hi;unfold bI;rw[if_pos hst,h1,R.aD,h3,R.aD];cases hF:F x with
  |true =>
   rw[if_pos rfl,h4 hF,R.aD,Gy st hst inv F G xs e' _ h2 λy hy=>h y (alu _ hy)]
   simp[hF]
  |false =>
   rw[if_neg alf,Gy st hst inv F G xs e' _ h2 λy hy=>h y (alu _ hy)]
   simp[hF]
theorem A1{dO da:af}{e:Ev}{c:aa}{acc:List D}{y:D}(ho:dO e (c++[.lst acc])=.ok (.ref c.length) (c++[.lst acc])) (ha:da e (c++[.lst acc])=.ok y (c++[.lst acc])) (hy:noRef y=Ξ) (hl:acc.length+1<=1000000) :
  fm dO da e (c++[.lst acc])=.ok .aQ (c++[.lst (acc++[y])]):=by
 have h1:acc.length<ι:=alc (by omega:acc.length<1000000) (by decide)
 unfold fm;rw[ho,R.aD];dsimp only;rw[ha,R.aD];have e1:(c++[Cell.lst acc])[c.length]? = ζ (.lst acc):=by simp
 have e2:(c++[Cell.lst acc]).set c.length (.lst (acc++[y]))=c++[.lst (acc++[y])]:=by simp
 rw[e1];dsimp only;rw[if_pos ⟨h1,hy⟩,e2]
end
mutual
def d8:D->Option adN
 |.aQ=>ζ .none
 |.bl b=>ζ (.bool b)
 |.int i=>ζ (.int i)
 |.str x=>if PyData.strOk x=Ξ then ζ (.str x)else η
 |.tup l=>match fN l with
  |some r=>ζ (.tuple r)
  |none=>η
 |.lst l=>match fN l with
  |some r=>ζ (.list r)
  |none=>η
 |.ty _=>η
 |.ref _=>η
 |.bL _=>η
 |.fn _ _=>η
 |.exc _=>η
 |.iB=>η
 |.dct _=>η
 |.lam _ _ _ _=>η
def fN:List D->Option (List adN)
 |[]=>ζ []
 |d::l=>match d8 d,fN l with
  |some a,ζ r=>ζ (a::r)
  |_,_=>η
end
def gg(c:aa):D->Option adN
 |.ref k=>match c[k]? with
  |some (.lst l)=>match fN l with
   |some r=>ζ (.list r)
   |none=>η
  |none=>η
 |d=>d8 d
def Np:D->D->aa->R D:=λx y c=>match gg c x,gg c y with
 |some p,ζ q=>if p.depth<=64/\q.depth<=64 then .ok (.bl (p.eqv q)) c else .bad
 |_,_=>.bad
def eG:D->D->aa->R D:=λx y c=>match gg c x,gg c y with
 |some p,ζ q=>if p.depth<=64/\q.depth<=64 then .ok (.bl (!p.eqv q)) c else .bad
 |_,_=>.bad
def inD:D->D->aa->R D:=λx y c=>match gg c x,gg c y with
 |some p,ζ (.list ys)=>if p.depth<=62 then .ok (.bl (ys.any λz=>z.eqv p)) c else .bad
 |some p,ζ (.tuple ys)=>if p.depth<=62 then .ok (.bl (ys.any λz=>z.eqv p)) c else .bad
 |_,_=>.bad
section
variable {X:Cx}{pins:List (Ω×Obj)}{σ:St}{ρ:List Ω}{H:Hp}{s:ε}{c:aa}
mutual
theorem ig(I:Inv X pins σ H s):∀(d:D) (v:V) (u:Θ) (p:adN),Rel X.K ρ H d v->RelV v u->d8 d=ζ p->(∃as,Reads s.heap u p as)/\p.canLay0=Ξ
 |.aQ,v,u,p,r,ru,e=>by
  cases r;cases ru;cases e;exact⟨⟨_,.none⟩,by simp[PyData.canLay0]⟩
 |.bl b,v,u,p,r,ru,e=>by
  cases r;cases ru;cases e;exact⟨⟨_,.bool b⟩,by simp[PyData.canLay0]⟩
 |.int i,v,u,p,r,ru,e=>by
  cases r;obtain⟨t,rfl⟩:=ru;cases e;exact⟨⟨_,.int i t⟩,by simp[PyData.canLay0]⟩
 |.str x,v,u,p,r,ru,e=>by
  cases r;obtain⟨t,rfl⟩:=ru;unfold d8 at e;split at e
  ·rename_i hx;cases e;exact⟨⟨_,.str x t⟩,by simpa[PyData.canLay0]using hx⟩
  ·cases e
 |.tup l,v,u,p,r,ru,e=>by
  obtain⟨a,xs,rfl,ha,rs⟩:=r;cases ru;unfold d8 at e;split at e
  ·rename_i q hq;cases e;obtain⟨its,vs,⟨o,h1,h2,n,h3⟩,_⟩:=I.tuple (bU.of ha);obtain⟨⟨as,ra⟩,hc⟩:=yd I l xs its q rs vs hq;exact⟨⟨_,.tuple h1 h2 h3 (by simpa using ra)⟩,by simpa[PyData.canLay0]using hc⟩
  ·cases e
 |.lst l,v,u,p,r,ru,e=>by
  obtain⟨a,xs,rfl,ha,rs⟩:=r;cases ru;unfold d8 at e;split at e
  ·rename_i q hq;cases e;obtain⟨its,vs,pl,_⟩:=I.list (bC.of ha.1);obtain⟨o,h1,h2,n,h3⟩:=pl.isList;obtain⟨⟨as,ra⟩,hc⟩:=yd I l xs its q rs vs hq;exact⟨⟨_,.list h1 h2 h3 (by simpa using ra)⟩,by simpa[PyData.canLay0]using hc⟩
  ·cases e
 |.ty _,v,u,p,r,ru,e=>by simp[d8]at e
 |.ref _,v,u,p,r,ru,e=>by simp[d8]at e
 |.bL _,v,u,p,r,ru,e=>by simp[d8]at e
 |.fn _ _,v,u,p,r,ru,e=>by simp[d8]at e
 |.exc _,v,u,p,r,ru,e=>by simp[d8]at e
 |.iB,v,u,p,r,ru,e=>by simp[d8]at e
 |.dct _,v,u,p,r,ru,e=>by simp[d8]at e
 |.lam _ _ _ _,v,u,p,r,ru,e=>by simp[d8]at e
theorem yd(I:Inv X pins σ H s):∀(l:List D) (vs:List V) (us:List Θ) (ps:List adN),aM X.K ρ H l vs->Vals vs us->fN l=ζ ps->(∃as,ReadsAll s.heap us ps as)/\PyData.canLayAll0 ps=Ξ
 |[],vs,us,ps,r,ru,e=>by
  cases r;cases ru;cases e;exact⟨⟨_,.nil⟩,by simp[PyData.canLayAll0]⟩
 |d::l,vs,us,ps,r,ru,e=>by
  obtain⟨x,xs,rfl,r1,r2⟩:=r;cases ru with
  |cons q1 q2 =>
   unfold fN at e;split at e
   ·rename_i a r e1 e2;cases e;obtain⟨⟨as,ra⟩,ca⟩:=ig I d x _ a r1 q1 e1;obtain⟨⟨bs,rb⟩,cb⟩:=yd I l xs _ r r2 q2 e2;exact⟨⟨_,.cons ra rb⟩,by simp[PyData.canLayAll0,ca,cb]⟩
   ·cases e
end
theorem rK(I:Inv X pins σ H s) (W:Wd X.K ρ H c) {d:D}{v:V}{u:Θ}{p:adN}(r:Rel X.K ρ H d v) (ru:RelV v u) (e:gg c d=ζ p):(∃as,Reads s.heap u p as)/\p.canLay0=Ξ:=by
 cases d with
 |ref k =>
  unfold gg at e;dsimp only at e;cases hc:c[k]? with
  |none=>rw[hc]at e;cases e
  |some cl =>
   cases cl with
   |lst l =>
    rw[hc]at e;dsimp only at e;split at e
    ·rename_i q hq;cases e;obtain⟨a,rfl,s1⟩:=r;cases ru;obtain⟨_,xs,hx,rs⟩:=W.gk k a _ s1 hc;obtain⟨its,vs,pl,_⟩:=I.list (bC.of hx);obtain⟨o,h1,h2,n,h3⟩:=pl.isList;obtain⟨⟨as,ra⟩,hc⟩:=yd I l xs its q rs vs hq;exact⟨⟨_,.list h1 h2 h3 (by simpa using ra)⟩,by simpa[PyData.canLay0]using hc⟩
    ·cases e
 |aQ=>exact ig I _ v u p r ru e
 |bl b=>exact ig I _ v u p r ru e
 |int b=>exact ig I _ v u p r ru e
 |str b=>exact ig I _ v u p r ru e
 |tup b=>exact ig I _ v u p r ru e
 |lst b=>exact ig I _ v u p r ru e
 |ty b=>exact ig I _ v u p r ru e
 |bL b=>exact ig I _ v u p r ru e
 |fn b n=>exact ig I _ v u p r ru e
 |exc b=>exact ig I _ v u p r ru e
 |dct b=>exact ig I _ v u p r ru e
 |iB=>exact ig I _ v u p r ru e
 |lam k y ns l=>exact ig I _ v u p r ru e
theorem vj(hu:X.A.units+64<adw):bN X (compareOp .NotEq) (r2 X.K eG):=by
 intro pins s σ H v u vv uu Q I rv ru h;obtain⟨ρ,x,y,c,W,rx,ry,p⟩:=h;unfold eG at p;split at p
 ·rename_i a b ha hb;split at p
  ·rename_i hd;obtain⟨⟨as,ra⟩,ca⟩:=rK I W rx rv ha;obtain⟨⟨bs,rb⟩,cb⟩:=rK I W ry ru hb;exact PySem.SeqAt.compareNe_shaped ra rb (by simp[PySem.SeqAt.shaped,ca,hd.1]) (by simp[PySem.SeqAt.shaped,cb,hd.2]) hu ⟨.bl _,H,I,rfl,p.here W rfl⟩
  ·exact p.elim
 ·exact p.elim
theorem L7{A:ω}{p:adN}{ys:List adN}(hu:A.units+64<adw) (hd:p.depth<=62):A.units+1+min (PyData.depthAll ys) p.depth<adw:=by
 have:=ao6 (PyData.depthAll ys) p.depth;omega
theorem Cz(hu:X.A.units+64<adw):bN X (compareOp .In) (r2 X.K inD):=by
 intro pins s σ H v u vv uu Q I rv ru h;obtain⟨ρ,x,y,c,W,rx,ry,p⟩:=h;unfold inD at p;split at p
 ·rename_i a ys ha hb;split at p
  ·rename_i hd;obtain⟨⟨as,ra⟩,ca⟩:=rK I W rx rv ha;obtain⟨⟨bs,rb⟩,cb⟩:=rK I W ry ru hb;exact PySem.SeqAt.in_list_reads rb ra (by simpa[PyData.canLay0]using cb) ca (L7 hu hd) ⟨.bl _,H,I,rfl,p.here W rfl⟩
  ·exact p.elim
 ·rename_i a ys ha hb;split at p
  ·rename_i hd;obtain⟨⟨as,ra⟩,ca⟩:=rK I W rx rv ha;obtain⟨⟨bs,rb⟩,cb⟩:=rK I W ry ru hb;exact PySem.SeqAt.in_tuple_reads rb ra (by simpa[PyData.canLay0]using cb) ca (L7 hu hd) ⟨.bl _,H,I,rfl,p.here W rfl⟩
  ·exact p.elim
 ·exact p.elim
end
theorem lA{A:ω}{k:Nat}(hr:eB k A):A.units+64<adw:=by have:=hr.un;omega
section
variable (c:aa)
@[simp] theorem akI:d8 .aQ=ζ .none:=by simp only[d8]
@[simp] theorem akK(b:Bool):d8 (.bl b)=ζ (.bool b):=by simp only[d8]
@[simp] theorem akJ(i:Int):d8 (.int i)=ζ (.int i):=by simp only[d8]
@[simp] theorem akH:fN []=ζ []:=by simp only[fN]
theorem NJ(l:List Int):fN (l.map D.int)=ζ (l.map PyData.int):=by
 induction l with
 |nil=>simp
 |cons a l ih=>simp[fN,ih]
end
end L2
namespace L2
open PySem PySem.Spec PyProof.Rows
theorem vals3{a b c:V}{us:List Θ}(h:Vals [a,b,c] us):∃u v w,us=[u,v,w]/\RelV a u/\RelV b v/\RelV c w:=by
 cases h with
 |cons h1 h =>
  cases h with
  |cons h2 h =>
   cases h with
   |cons h3 h=>cases h;exact⟨_,_,_,rfl,h1,h2,h3⟩
theorem UR{K:Ψ}{ρ:List Ω}{H:Hp}{a b c:D}{vs:List V}(h:aM K ρ H [a,b,c] vs):∃u v w,vs=[u,v,w]/\Rel K ρ H a u/\Rel K ρ H b v/\Rel K ρ H c w:=by
 obtain⟨u,r,rfl,h1,v,r',rfl,h2,w,r'',rfl,h3,h4⟩:=h;cases h4;exact⟨u,v,w,rfl,h1,h2,h3⟩
def A5(hi:Int) (n:Nat):It:=⟨λi _=>i<n,λi H x H'=>H'=H/\x=.int (hi-i),λi _=>n<=i⟩
theorem RC{P:τ}{w:ψ}{K:Ψ}{tg:π}(it:Ω) (hi:Int) (n:Nat):Turn P w K tg (A5 hi n) [it] it (λi h=>adH h it (hi+(i:Nat)*(-1)) ((n:Int)-(i:Nat)) (-1)) where
 mem:=by simp
 obj:=λi h st b hb=>by
  have e:b=it:=by simpa using hb
  subst e;exact⟨_,st,λv z=>by
   have z':Data.fields _=Data.cell v:=z;cases z'⟩
 keep:=λi h h' st k=>k it (by simp) _ st
 item:=by
  intro X hP hw hK hc i pins s σ H E I hf st hg;subst hP hw hK;obtain⟨f0,f1,f2,f3,f4,f5⟩:=hf it (by simp)
  have W:=Walks.range (prog:=X.prog) (w:=X.w) (I.ok.hd hc) it hi (-1) n;refine W.item i s _ _ hg st λv h' tk hv st' kk=>?_
  obtain⟨t,rfl⟩:=hv;have I1:Inv X pins σ H {s with heap:=h',toks:=tk}:=I.turned (λb o hb e=>kk b o (by simpa using hb) e) f0 f1 f3 f4 f5
  refine⟨_,rfl,zK (s:={s with heap:=h',toks:=tk}) (n:="range_iterator") st' rfl rfl (by decide) ⟨.int (hi-i),H,I1,⟨t,?_⟩,⟨rfl,rfl⟩,st',λb hb=>(hf b hb).1⟩⟩
  congr 1
  omega
 done:=by
  intro X hP hw hK hc i pins s σ H E I hf st hg;subst hP hw hK;obtain⟨f0,f1,f2,f3,f4,f5⟩:=hf it (by simp)
  exact aoY (I.ok.hd hc) st (by have:n<=i:=hg;omega) λh' eb=>⟨rfl,I.turned (t':=s.toks) (λb o hb e=>eb b o hb e) f0 f1 f3 f4 f5⟩
 self:=λ_ _ _ _ _ st h=>aoZ st h
theorem aok(a b:Int):Builtin.Range.rangeSize a b (-1)=if b<a then a-b else 0:=by
 unfold Builtin.Range.rangeSize;rw[if_neg (by decide)]
 simp only[show(-(-1):Int)=1 by decide,an7]
 split<;>omega
theorem small_down{hi lo:Int}(h1:-(2^62)<=lo) (h2:lo<2^62) (h3:-(2^62)<=hi) (h4:hi<2^62):Builtin.Range.small hi lo (-1)=Ξ:=by
 unfold Builtin.Range.small;rw[aok];simp only[Builtin.Range.rangeFitsLong,ak9,am0,decide_eq_true_eq,beq_iff_eq,show ¬((-1:Int)>0) by decide,if_false]
 split<;>omega
def jn(hi lo:Int):List D:=(θ (hi-lo).toNat).map fun(i:Nat)=>D.int (hi-(i:Int))
def tF(a:aj):Ev->aa->R Src:=λe c=>(a e c).bind λxs c=>match xs with
 |[.int i,.int j,.int s]=>if s = -1/\-(2^62)<=i/\i<2^62/\-(2^62)<=j/\j<2^62 then .ok ⟨jn i j,λ_=>True⟩ c else .bad
 |_=>.bad
section
variable {X:Cx}{tg:π}{K:Ψ}{ρ:List Ω}{H:Hp}
theorem afp{pins:List (Ω×Obj)}{σ:St}{H:Hp}{s:ε}{R:It->Hp->Prop}{E:Θ->ε->Prop}{lo hi:Int}{t u v:Tok}{tk:Nat}(I:Inv X pins σ H s) (h1:-(2^62)<=lo) (h2:lo<2^62) (h3:-(2^62)<=hi) (h4:hi<2^62)
  (q:R (A5 hi (hi-lo).toNat) H):wpAny (model X.prog X.w) X.A (pyIter (.ref s.heap.objs.size)) (HH X pins σ tg R) E {s with heap:=s.heap.push {cls:=.type "range",data:=.fields #[.int hi t,.int lo u,.int (-1) v]},toks:=tk}:=by
 refine wpAny_pyIter_range (IsRange.new ..) (small_down h1 h2 h3 h4) ?_;have I1:Inv X pins σ H {s with heap:=s.heap.push {cls:=.type "range",data:=.fields #[.int hi t,.int lo u,.int (-1) v]},toks:=tk}:=I.kept λb o e=>akU _ e
 refine⟨(s.heap.push {cls:=.type "range",data:=.fields #[.int hi t,.int lo u,.int (-1) v]}).objs.size,[(s.heap.push {cls:=.type "range",data:=.fields #[.int hi t,.int lo u,.int (-1) v]}).objs.size],_,_,H,rfl,
  I1.kept (t':=tk) λb o e=>akU _ e,RC _ hi (hi-lo).toNat,?_,λb hb=>?_,q⟩
 ·have e1:hi+((0:Nat):Int)*(-1)=hi:=by simp
  have e2:(((hi-lo).toNat:Nat):Int)-((0:Nat):Int)=Builtin.Range.rangeSize hi lo (-1):=by rw[aok];split<;>omega
  show adH _ _ (hi+((0:Nat):Int)*(-1)) ((((hi-lo).toNat:Nat):Int)-((0:Nat):Int)) (-1);rw[e1,e2];exact ak8 _ rfl
 ·have e:b=(s.heap.push {cls:=.type "range",data:=.fields #[.int hi t,.int lo u,.int (-1) v]}).objs.size:=by simpa using hb
  subst e;exact I1.vZ (akT _) (I1.hok.fresh (akT _))
theorem acv{lo hi:Int}{st:aa->Prop}:JS K ρ H ⟨jn hi lo,st⟩ (A5 hi (hi-lo).toNat):=by
 intro ρ' H' c' W E s i;refine⟨λd hd=>?_,λe=>?_⟩
 ·have hd:(jn hi lo)[i]? = ζ d:=hd;unfold jn at hd;rw[alk,Option.map_eq_some_iff]at hd;obtain⟨k,hk,rfl⟩:=hd;obtain⟨h1,h2⟩:=alb.mp hk;rw[anA]at h2;subst h2;have h1:i<(hi-lo).toNat:=by simpa using h1
  refine⟨h1,λx H2 hy=>?_⟩
  obtain⟨rfl,rfl⟩:=hy;exact⟨W,Ext.refl,rfl⟩
 ·have:(jn hi lo).length=(hi-lo).toNat:=by simp[jn]
  show(hi-lo).toNat<=i;rw[e];exact amn this.symm
def ada(ta:TA):TI:=λσ H R=>ta σ H λvs H1=>∃i j:Int,vs=[.int i,.int j,.int (-1)]/\(-(2^62)<=i/\i<2^62/\-(2^62)<=j/\j<2^62)/\R (A5 i (i-j).toNat) H1
theorem WO{a b c:π}{ta:TA}{p pos:Pos}(hg:Gl X "range") (hm:X.mg "range"=η) (ha:PA X [a,b,c] ta) (hs:μ [a,b,c] X.env=(ξ,eval a X.env)::μ [b,c] X.env:=by exact b7 rfl) (hs2:(acF pos (μ [b,c] X.env)).any (·.1)=ξ:=by exact ff rfl) :
  PI X tg (.Call (.Name "range" p) [a,b,c] [] pos) (ada ta):=by
 intro pins s σ H R I h;refine Call_ (nO I hg hm boot_range (amD (bz (ha pos pins s σ H _ I h) λus s1 ⟨vs,H1,I1,r1,q1⟩=>?_) hs hs2))
 obtain⟨i,j,e,⟨q1,q2,q3,q4⟩,q⟩:=q1;subst e;obtain⟨u,v,w,rfl,⟨t1,rfl⟩,⟨t2,rfl⟩,⟨t3,rfl⟩⟩:=vals3 r1;exact call_range_3 (by decide) (afp I1 q3 q4 q1 q2 q) (.inl (ao0 (by decide)))
theorem ac7{a b c:π}{da:aj}{p pos:Pos}(ha:fq X [a,b,c] da) (hm:X.mg "range"=η) (hg:Gl X "range":=by rfl) (hs:μ [a,b,c] X.env=(ξ,eval a X.env)::μ [b,c] X.env:=by exact b7 rfl) (hs2:(acF pos (μ [b,c] X.env)).any (·.1)=ξ:=by exact ff rfl):PId X tg (.Call (.Name "range" p) [a,b,c] [] pos) (tF da) :=
 (WO hg hm ha hs hs2).imp λσ H Q h=>by
  obtain⟨ρ,e,c,W,V,p⟩:=h;refine⟨ρ,e,c,W,V,post.bind p λx c1 aO H1 v _ W1 X1 r1 p1=>?_⟩
  split at p1
  ·rename_i i j s _;split at p1
   ·rename_i hj;obtain⟨rfl,hj⟩:=hj;obtain⟨u,v,w,rfl,ru,rv,rw'⟩:=UR r1;cases ru;cases rv;cases rw';exact⟨i,j,rfl,hj,p1.here W1 acv⟩
   ·exact p1.elim
  ·exact p1.elim
end
section
variable (e:Ev) (c:aa) (l:aj)
@[simp] theorem ajf:tF l e c=(l e c).bind λxs c=>match xs with
 |[.int i,.int j,.int s]=>if s = -1/\-(2^62)<=i/\i<2^62/\-(2^62)<=j/\j<2^62 then .ok ⟨jn i j,λ_=>True⟩ c else .bad
 |_=>.bad:=rfl
end
def HU(K:Ψ) (H:Hp) (l:List Env) (x:Str) (h₀:χ) (H₀:Hp) (e:Θ) (h:χ):Prop :=
 ∃ea C t B,e=.ref ea/\Γ K Δ x=ζ (ζ (.ref C))/\acO B l ea (.ref C) (.ref t) h/\(∀b u,H b=ζ u->∃o,B.get? b=ζ o) /\
  (∀b o,h₀.get? b=ζ o->b∉frs l->∃o',B.get? b=ζ o')/\∀b o,h₀.get? b=ζ o->H₀ b=η->b∉frs l->B.get? b=ζ o
def iF(P:τ) (w:ψ) (K:Ψ):mZ:=λouter H s E e s'=>∃x H',s'.os=s.os/\adp s'.gens/\Un (frs outer) [] H H' s.heap s'.heap/\cT P w H' s'.heap/\HU K H' outer x s.heap H e s'.heap/\E (.str x 0) η H'
def xh(X:Cx) (x:Str) (H2:Hp):Prop :=
 ∀pins σ H1 s1 e s2,Inv X pins σ H1 s1->s2.os=s1.os->adp s2.gens->Un (frs X.stack) [] H1 H2 s1.heap s2.heap->cT X.prog X.w H2 s2.heap->HU X.K H2 X.stack x s1.heap H1 e s2.heap->X.xe e s2
def Ba(X:Cx) (x:Str) (H2:Hp):Prop:=xh X x H2 /\
 (∀pins σ s ea C args h',Inv X pins σ H2 s->Γ X.K Δ x=ζ (ζ (.ref C))->Heap.MadeExcOf s.heap h' ea (.ref C) args->X.xe (.ref ea) {s with heap:=h'})
theorem XG{X:Cx}:Passes (iF X.prog X.w X.K) X λv _ H'=>∀x,v=.str x 0->xh X x H':=by
 intro pins σ H s e s' I h;obtain⟨x,H',h1,h2,h3,h4,h5,h6⟩:=h;exact h6 x rfl pins σ H s e s' I h1 h2 h3 h4 h5
theorem Kz{P:τ}{w:ψ}{H:Hp}{h:χ}{a:Ω}{o:HO}(x:eY P w H h a o):∃u,h.get? a=ζ u:=by
 cases o with
 |lst xs=>obtain⟨_,_,_,_,e⟩:=x;exact⟨_,e⟩
 |tup xs=>obtain⟨_,_,_,_,e,_⟩:=x;exact⟨_,e⟩
 |dK kvs=>obtain⟨_,_,_,_,o,_,_,e,_⟩:=x;exact⟨_,e⟩
 |dT kvs=>obtain⟨_,_,_,_,o,_,_,e,_⟩:=x;exact⟨_,e⟩
 |set S n=>obtain⟨o,_,_,_,e,_⟩:=x;exact⟨_,e⟩
 |ins C dx fs=>obtain⟨_,_,_,e,_⟩:=x;exact⟨_,e⟩
 |own y=>obtain⟨_,e⟩:=x;exact⟨_,e⟩
 |xd fs=>obtain⟨_,⟨_,_,_,e,_⟩,_⟩:=x;exact⟨_,e⟩
 |pq lo hi=>obtain⟨_,_,_,e⟩:=x;exact⟨_,e⟩
 |fE ob u=>obtain⟨e,_⟩:=x;exact⟨_,e⟩
 |fc ps=>exact⟨_,(show h.get? a=ζ _ from x)⟩
 |met f y=>exact⟨_,(show h.get? a=ζ _ from x)⟩
 |ext φ=>obtain⟨_,⟨_,e⟩,_⟩:=x;exact⟨_,e⟩
section
variable {P:τ}{w:ψ}{K:Ψ}{mg:Str->Option Θ}{base:χ}{N:List Str}{qual:Str}{scope:ads}{f:Ω}{cd:Θ}{A:ω}{outer:List Env}{s:ε}{H:Hp}{E:XK}
theorem EA{H:Hp}{h h' B:χ}(x:cT P w H h) (st:B.StaysIn h') (sh:∀b o,B.get? b=ζ o->h.get? b=ζ o) (fT:∀b u,H b=ζ u->∃o,B.get? b=ζ o):cT P w H h':=λa o e=>by
 refine(x a o e).stay (λb u hb q=>?_) (λ_ q=>q) λ_ _ q=>q
 have hb':∃u',H b=ζ u':=by
  rcases hb with rfl|hb
  ·exact⟨_,e⟩
  ·exact⟨_,hb⟩
 obtain⟨u',hu⟩:=hb';obtain⟨o',ho⟩:=fT b u' hu;have:=sh b o' ho;rw[q]at this;cases this;exact st b _ ho
theorem abr{pins:List (Ω×Obj)}{σ:St}{H1:Hp}{s1:ε}{x:Str}{C ea:Ω}{args:List Θ}{h':χ}(I:Inv (gi (iF P w K) P w K mg base N qual scope f cd A outer s H E) pins σ H1 s1) (hn:Γ K Δ x=ζ (ζ (.ref C)))
  (hx:Heap.MadeExcOf s1.heap h' ea (.ref C) args) (hE:E (.str x 0) η H1):(gi (iF P w K) P w K mg base N qual scope f cd A outer s H E).xe (.ref ea) {s1 with heap:=h'}:=by
 have hfr:(A.deeper (envOfC qual scope s.heap.objs.size f cd)).frames=ζ (envOfC qual scope s.heap.objs.size f cd::outer):=I.ok.frames;have hst:=I.stack;have hsF:=I.BK;have hb:=I.base;have hfs:frs (envOfC qual scope s.heap.objs.size f cd::outer)=s.heap.objs.size::frs outer:=rfl;have gK:∀b:Ω,b∉(gi (iF P w K) P w K mg base N qual scope f cd A outer s H E).ex:=λb z=>absurd (show b∈([]:List Ω)from z) (by simp)
 let as:=frs (envOfC qual scope s.heap.objs.size f cd::outer)
 have hin:∀env∈(envOfC qual scope s.heap.objs.size f cd::outer),∀a,env.frame=ζ a->a∈as:=λenv he b hb=>amU.mpr ⟨env,he,hb⟩
 have hF:s1.heap.FunFrames (PySem.W.hideAll s1.heap as) (envOfC qual scope s.heap.objs.size f cd::outer):=PySem.W.funFrames_hide hst hin;show wpAny (model P w) (A.deeper (envOfC qual scope s.heap.objs.size f cd)) (leaving (envOfC qual scope s.heap.objs.size f cd) (.ref ea)) _ _ _;refine wpAny_leaves_madeW (base:=PySem.W.hideAll s1.heap as) hfr rfl (λb o q=>anS _ q) hF hx λh'' t fl _ _ up=>?_
 have vK:∀b o,s1.heap.get? b=ζ o->b∉as->(PySem.W.hideAll s1.heap as).get? b=ζ o:=λb o q n=>aoV _ q n
 have st:(PySem.W.hideAll s1.heap as).StaysIn h'':=fl.1;have old:∀b o,s.heap.get? b=ζ o->b∉frs outer->b∉as:=λb o q n m=>by
  have m:b∈s.heap.objs.size::frs outer:=m
  rcases akV.mp m with e|m
  ·exact absurd (akX q) (by rw[e];exact alE _)
  ·exact n m
 have fT:∀b u,H1 b=ζ u->∃o,(PySem.W.hideAll s1.heap as).get? b=ζ o:=λb u e=>by
  have hna:b∉as:=λm=>by rw[hsF b m]at e;cases e
  have hlt:=(I.hok b u e).lt;obtain⟨o,ho⟩:∃o,s1.heap.get? b=ζ o:=by
   have:=(I.hok b u e);exact Kz this
  exact⟨o,vK b o ho hna⟩
 refine⟨x,H1,I.os,I.bare,⟨λb o q n nf _=>?_,λb o q n hf _=>?_,λb o q n hx'=>hb.free b o q n hx',λb o q hx'=>?_,hb.tups,hb.gX,hb.gT⟩,EA I.hok st (λb o q=>anS _ q) fT,⟨ea,C,t,_,rfl,hn,fl,fT,λb o q n=>?_,λb o q n nf=>?_⟩,hE⟩
 ·exact st b o (vK b o (hb.keep b o q n nf (gK b)) (old b o q nf))
 ·obtain⟨sl,e1⟩:=hb.slot b o q n hf (gK b);have hm:b∈as:=alu _ hf;obtain⟨_,o2,ho2,hd2⟩:=hst.mem hm;rw[e1]at ho2;cases ho2;obtain⟨sl2,e2⟩:=up b _ (hx.keeps _ _ e1) hd2;exact⟨sl2,e2⟩
 ·obtain⟨o1,e1⟩:=hb.there b o q (gK b)
  by_cases hm:b∈as
  ·obtain⟨_,o2,ho2,hd2⟩:=hst.mem hm;obtain⟨sl2,e2⟩:=up b _ (hx.keeps _ _ ho2) hd2;exact⟨_,e2⟩
  ·exact⟨_,st b _ (vK b _ e1 hm)⟩
 ·obtain⟨o1,e1⟩:=hb.there b o q (gK b);exact⟨o1,vK b o1 e1 (old b o q n)⟩
 ·exact vK b o (hb.keep b o q n nf (gK b)) (old b o q nf)
theorem abq{pins:List (Ω×Obj)}{σ:St}{H1 H2:Hp}{s1 s2:ε}{x:Str}{e:Θ}(I:Inv (gi (iF P w K) P w K mg base N qual scope f cd A outer s H E) pins σ H1 s1) (hos:s2.os=s1.os) (hba:adp s2.gens)
  (un:Un (frs (envOfC qual scope s.heap.objs.size f cd::outer)) [] H1 H2 s1.heap s2.heap) (hok:cT P w H2 s2.heap) (EW:HU K H2 (envOfC qual scope s.heap.objs.size f cd::outer) x s1.heap H1 e s2.heap) (hE:E (.str x 0) η H2) :
  (gi (iF P w K) P w K mg base N qual scope f cd A outer s H E).xe e s2:=by
 obtain⟨ea,C,t,B,rfl,hn,fl,fT,old,eq⟩:=EW;have hfr:(A.deeper (envOfC qual scope s.heap.objs.size f cd)).frames=ζ (envOfC qual scope s.heap.objs.size f cd::outer):=I.ok.frames;have hst:=I.stack;have hb:=I.base;have gK:∀b:Ω,b∉(gi (iF P w K) P w K mg base N qual scope f cd A outer s H E).ex:=λb z=>absurd (show b∈([]:List Ω)from z) (by simp)
 let as:=frs (envOfC qual scope s.heap.objs.size f cd::outer)
 have olds:∀b o,s.heap.get? b=ζ o->b∉frs outer->b∉as:=λb o q n m=>by
  have m:b∈s.heap.objs.size::frs outer:=m
  rcases akV.mp m with e|m
  ·exact absurd (akX q) (by rw[e];exact alE _)
  ·exact n m
 have sh:∀b o,B.get? b=ζ o->s2.heap.get? b=ζ o:=fl.1;have fr2:=fl.2.2.1;show wpAny (model P w) (A.deeper (envOfC qual scope s.heap.objs.size f cd)) (leaving (envOfC qual scope s.heap.objs.size f cd) (.ref ea)) _ _ _;refine wpAny_leaves_onW hfr rfl fl λh'' Nj up=>?_
 have st:B.StaysIn h'':=Nj.1;have I':s2.os=s.os:=hos.trans I.os;have frame:∀b,b∈as->∃o,s2.heap.get? b=ζ o/\∀vs,o.data≠.fields vs:=λb hm=>(fr2.mem hm).2
 refine⟨x,H2,I',hba,⟨λb o q n nf _=>?_,λb o q n hf _=>?_,λb o q n _=>?_,λb o q _=>?_,λb xs q=>un.tups b xs (hb.tups b xs q),λb o u q=>un.gX b o u (hb.gX b o u q),λb ps q=>?_⟩,EA hok st sh fT,⟨ea,C,t,B,rfl,hn,Nj,fT,λb o q n=>?_,λb o q n nf=>?_⟩,hE⟩
 ·exact st b o (eq b o (hb.keep b o q n nf (gK b)) (hb.free b o q n (gK b)) (olds b o q nf))
 ·obtain⟨sl,e1⟩:=hb.slot b o q n hf (gK b);have hm:b∈as:=alu _ hf;obtain⟨sl2,e2⟩:=un.slot b _ e1 (hb.free b o q n (gK b)) hm (by simp)
  obtain⟨o3,zB,EG⟩:=frame b hm;rw[e2]at zB;cases zB;obtain⟨BP,e4⟩:=up b _ e2 EG;exact⟨BP,e4⟩
 ·obtain⟨o1,e1⟩:=hb.there b o q (gK b);exact un.free b o1 e1 (hb.free b o q n (gK b)) (by simp)
 ·obtain⟨o1,e1⟩:=hb.there b o q (gK b)
  by_cases hm:b∈as
  ·obtain⟨o3,zB,EG⟩:=frame b hm;obtain⟨BP,e4⟩:=up b _ zB EG;exact⟨_,e4⟩
  ·obtain⟨o2,e2⟩:=old b o1 e1 hm;exact⟨_,st b _ e2⟩
 ·obtain⟨m1,q1⟩:=hb.gT b ps q;obtain⟨m2,q2⟩:=un.gT b _ q1;exact⟨m1++m2,by rw[q2,aoW]⟩
 ·obtain⟨o1,e1⟩:=hb.there b o q (gK b);exact old b o1 e1 (olds b o q n)
 ·exact eq b o (hb.keep b o q n nf (gK b)) (hb.free b o q n (gK b)) (olds b o q nf)
theorem aiR{x:Str}{H2:Hp}(hE:E (.str x 0) η H2):Ba (gi (iF P w K) P w K mg base N qual scope f cd A outer s H E) x H2 :=
 ⟨λpins σ H1 s1 e s2 I h1 h2 h3 h4 h5=>abq I h1 h2 h3 h4 h5 hE,λpins σ s1 ea C args h' I hn hx=>abr I hn hx hE⟩
end
section
variable {X:Cx}
theorem VG{x:Str}{C:Ω}{B newId initId:String}{bm:List Θ}{txt:Str}{j:Nat}{np cpos pos tpos:Pos}{t:TS}(hn:Γ X.K Δ x=ζ (ζ (.ref C))) (hm:X.mg x=ζ (.ref C)) (hO:∀h,X.K.In h->OwnCls x C bm newId X.mg h) (FB:ExcBaseFacts B newId initId bm) (hc:X.calm=Ξ)
  (ht:∀D σ H,t D σ H->Ba X x H) (hg:Gl X x:=by rfl) (hd:(x==("__debug__":Str))=ξ:=by decide):PS X (.Raise (ζ (.Call (.Name x np) [.Constant (.str txt) j tpos] [] cpos)) η pos) t:=by
 intro pins s σ H D I h;have acc:=ht D σ H h;obtain⟨tl,N,nm,q,bs,hdct,sn,sub,ab,col,dd,k0,k1,k2,k3,k5,mN,hC,hN,hni,T⟩:=(hO s.heap I.eH).obj;refine wpAny_Raise_call_subT (C:=C) (nm:=nm) (q:=q) (N:=N) (bs:=bs) (bm:=tl) (hdct:=hdct) (sn:=sn) (sub:=sub) (ab:=ab) (col:=col) (dd:=dd) (k0:=k0) (k1:=k1) (k2:=k2) (k3:=k3) (k5:=k5)
  FB (mN:=mN) (T.hasType FB.hasBase) (I.ok.hd hc) (by rfl) hni (vF I hg hm ⟨rfl,?_⟩ hd)
 have hs:μ [Expr.Constant (.str txt) j tpos] X.env=[(ξ,eval (.Constant (.str txt) j tpos) X.env)]:=by simp only[μ]
 rw[hs];refine Calls.evalArgs_plain ?_;show wpAny _ _ (spliced ((ξ,eval (Expr.Constant (.str txt) j tpos) X.env)::[])) _ _ _;refine Calls.spliced_cons (Calls.Constant_str ?_);refine Calls.spliced_nil ?_;refine⟨rfl,by show 1<=ι;decide,hC,hN,T,λh' e hx=>?_⟩
 exact acc.2 pins σ _ e C _ h' (I.tok _) hn hx
end
abbrev Xd:=Ev->aa->R Str
def BG(X:Cx) (P:Str->Hp->Prop) (d:Xd):St->Hp->Prop:=λσ H=>tD X.K (λ_ _ a b=>a=b) d σ H P
abbrev wV(X:Cx) (P:Str->Hp->Prop) (st:acz) (d:Xd):Prop:=PS X st λ_ σ H=>BG X P d σ H
abbrev iY(X:Cx) (P:Str->Hp->Prop) (st:List acz) (d:Xd):Prop:=eX X st λ_ σ H=>BG X P d σ H
abbrev HJ(X:Cx) (P:Str->Hp->Prop) (e:π) (d:Xd):Prop:=PE X e λσ H _=>BG X P d σ H
def xR(K:Ψ) (n:Nat) (m:List D->aa->R Str):Sp:=λvs H _ E=>∃ρ xs c,Wd K ρ H c/\aM K ρ H xs vs/\xs.length=n/\post K (λ_ _ a b=>a=b) (m xs c) ρ H λx H'=>E (.str x 0) η H'
def fnX(n:Nat) (d:Xd):List D->aa->R Str:=λxs c=>(d (dH n xs) c).bind λx c'=>.ok x (c'.take c.length)
def oR(a b:Xd):Xd:=λe c=>match a e c with
 |.ok x c'=>.ok x c'
 |.bad=>b e c
def uE(t:ah) (u:Xd):Xd:=λe c=>(t e c).bind λf c=>match f with
 |.nx e=>u e c
 |_=>.bad
def qw(t:ai) (a b:Xd):Xd:=λe c=>(t e c).bind λk c=>if k=Ξ then a e c else b e c
def uF(x:Str):Xd:=λ_ c=>.ok x c
def xE:Xd:=λ_ _=>.bad
def jU(n:Nat) (m:List D->aa->R Str) (a:aj):Xd:=λe c=>(a e c).bind λxs c=>if xs.length=n then m xs c else .bad
section
variable {X:Cx}{P:Str->Hp->Prop}{st:acz}{sts rest:List acz}{e:π}{a b d u:Xd}{t:ah}{pos:Pos}
theorem PS.fC{st:acz}{t:TS}(h:PS X.fC st t):PS X st t:=λpins s σ H D I hw =>
 alq (h pins s σ H D (I.g9 _) hw) (λ_ _ q=>q.i8) λ_ _ z=>False.elim z
theorem PA.fC{es:List π}{t:TA}(h:PA X.fC es t):PA X es t:=λpos pins s σ H Q I hw =>
 alq (h pos pins s σ H Q (I.g9 _) hw) (λ_ _ ⟨v,H',I',r,q⟩=>⟨v,H',I'.i8,r,q⟩) λ_ _ z=>False.elim z
theorem Ic(ha:iY X P sts a) (hb:iY X P sts b):iY X P sts (oR a b):=λpins s σ H D I h=>by
 obtain⟨ρ,e,c,W,V,p⟩:=h;unfold oR at p;cases q:a e c with
 |ok x c' =>
  rw[q]at p;exact ha pins s σ H D I ⟨ρ,e,c,W,V,by rw[q];exact p⟩
 |bad =>
  rw[q]at p;exact hb pins s σ H D I ⟨ρ,e,c,W,V,p⟩
theorem Ie:iY X P sts xE:=λpins s σ H D I h=>by
 obtain⟨ρ,e,c,W,V,p⟩:=h;exact p.elim
theorem VB:eX X sts λ_ _ _=>False:=λ_ _ _ _ _ _ h=>h.elim
theorem oM(h:wV X P st d):iY X P (st::rest) d:=(Cd h (VB (sts:=rest))).imp λZ σ H q=>q
theorem Ii(h1:ju X.fC st t) (h2:iY X P rest u):iY X P (st::rest) (uE t u):=(Cd (PS.fC h1) h2).imp λZ σ H h=>by
 obtain⟨ρ,e,c,W,V,p⟩:=h;refine⟨ρ,e,c,W,V,post.bind p λf c1 aO H1 b _ W1 X1 r1 p1=>?_⟩
 cases f with
 |nx e1=>obtain⟨σ1,rfl,V1⟩:=r1;exact⟨aO,e1,c1,W1,V1,p1⟩
 |rt d=>exact p1.elim
 |bk e1=>exact p1.elim
 |ct e1=>exact p1.elim
theorem Ig{c':π}{A B:List acz}{tc:ai}(hc:iE X.fC c' tc) (ha:iY X P A a) (hb:iY X P B b):wV X P (.If c' A B pos) (qw tc a b):=(JN (PT.fC hc) ha hb).imp λZ σ H h=>by
 obtain⟨ρ,e,c,W,V,p⟩:=h;refine⟨ρ,e,c,W,V,post.bind p λx c1 aO H1 v _ W1 X1 r1 p1=>?_⟩
 cases r1;cases x with
 |true=>exact ly ⟨aO,e,c1,W1,V.mono W X1,p1⟩
 |false=>exact lz ⟨aO,e,c1,W1,V.mono W X1,p1⟩
theorem Ih(he:HJ X P e d) (hs:swapsWith e η pos.line X.env=pure ξ:=by rfl):wV X P (.Expr e pos) d:=(JO he hs).imp λZ σ H h=>h
theorem QK(he:HJ X P e d):wV X P (.Return (ζ e) pos) d:=(JM he).imp λZ σ H h=>h
structure wN (K:Ψ) (mg:Str->Option Θ) (x:Str) (bm:List Θ) (newId:String):Prop where
 ex:∃C,Γ K Δ x=ζ (ζ (.ref C))/\mg x=ζ (.ref C)/\∀h,K.In h->OwnCls x C bm newId mg h
theorem Ib{x:Str}{B newId initId:String}{bm:List Θ}{txt:Str}{j:Nat}{np cpos tpos:Pos}(hC:wN X.K X.mg x bm newId) (FB:ExcBaseFacts B newId initId bm) (hc:X.calm=Ξ:=by rfl) (hg:Gl X x:=by rfl) (hd:(x==("__debug__":Str))=ξ:=by decide) :
  wV X (Ba X) (.Raise (ζ (.Call (.Name x np) [.Constant (.str txt) j tpos] [] cpos)) η pos) (uF x):=by
 obtain⟨C,hn,hm,hO⟩:=hC.ex;refine VG hn hm hO FB hc (λZ σ H h=>?_) hg hd
 obtain⟨ρ,e,c,W,V,p⟩:=h;exact p.here W rfl
theorem Bx{x:Str}{st:acz}{ps:List Str}{f:Ω}{fd:ο}{k n:Nat}{m:List D->aa->R Str}{e:π}{es:List π}{da:aj}{p:Pos}(D:Def X.K X.mg x st ps f fd) (G:bX X.prog X.w X.K X.mg X.base (iF X.prog X.w X.K) k f fd ps (xR X.K n m)) (hr:eB k X.A) (ha:fq X.fC (e::es) da) (hx:∀x H',P x H'->xh X x H':=by first|exact λ_ _ h=>h.1|exact λ_ _ h=>h) (hg:Gl X x:=by rfl)
  (hdb:(x==("__debug__":Str))=ξ:=by decide) (he:μ (e::es) X.env=(ξ,eval e X.env)::μ es X.env:=by exact b7 rfl) (hpl:(acF pos (μ es X.env)).any (·.1)=ξ:=by exact ff rfl) :
  HJ X P (.Call (.Name x p) (e::es) [] pos) (jU n m da) :=
 (J1 G hr hg D.at' D.fn.kp D.bd .nil (XG (X:=X)) (PA.fC ha) hdb he hpl).imp λσ H Q h=>by
  obtain⟨ρ,e,c,W,V,q⟩:=h;refine⟨ρ,e,c,W,V,post.bind q λxs c1 aO H1 vs _ W1 X1 r1 p1=>?_⟩
  split at p1
  ·rename_i hl;refine⟨aO,xs,c1,W1,by rw[amb];exact r1,hl,post.mono p1 λx H' acc y hy=>?_⟩
   cases hy;exact hx _ _ acc
  ·exact p1.elim
end
section
variable {P:τ}{w:ψ}{K:Ψ}{mg:Str->Option Θ}{base:χ}
theorem Nf{x qual:Str}{st:acz}{f:Ω}{fd:ο}{N ps:List Str}{k n m:Nat}{d:Xd}(F:mY K x qual st f fd) (S:cB N ps (aW st)) (hN:N.length=n) (hm:ps.length=m)
  (hb:∀(cdv:Θ) (A:ω) (outer:List Env) (s:ε) (H:Hp) (E:XK),eB k (A.deeper (envOfC qual (aW st) s.heap.objs.size f cdv))->iY (gi (iF P w K) P w K mg base N qual (aW st) f cdv A outer s H E) (Ba (gi (iF P w K) P w K mg base N qual (aW st) f cdv A outer s H E)) (cA st) d) :
  bX P w K mg base (iF P w K) (k+1) f fd ps (xR K m (fnX n d)):=by
 subst hN;subst hm;obtain⟨oc,od,kV,doc,pm,an,cdv,ct,osl,rfl,lk,hcd⟩:=F.ex;refine Ng lk hcd S (λvs H Q E h=>?_) λA outer s H vs Q E hr h=>⟨_,hb cdv A outer s H E hr,?_⟩
 ·obtain⟨ρ,xs,c,W,r,hl,p⟩:=h;exact r.length.trans hl
 ·obtain⟨ρ,xs,c,W,r,hl,p⟩:=h;refine⟨ρ,dH N.length xs,c,W,dz.start r,post.bind p λy c1 aO H1 b _ W1 X1 r1 p1=>?_⟩
  cases r1;refine aiR ?_;have hn:=Ext.len W W1 X1;have p0:=p;unfold fnX at p0;rename_i he;rw[he,R.aD]at p0;exact p0 (aO.take c.length) H1 _ (W1.cut hn) (X1.cut (amn W.len)) rfl
end
abbrev Cx.held(X:Cx) (e:Θ):Cx:={X with A:=X.A.mark (ζ e),calm:=ξ,xe:=λ_ _=>False}
abbrev Cx.tried(X:Cx) (W:Θ->ε->Prop) (pn:List (Ω×Obj)):Cx:={X with xe:=W,pn:=pn}
section
variable {X:Cx}{pins rP:List (Ω×Obj)}{σ:St}{H H1 H2:Hp}{s s1 s2:ε}
theorem Cx.Ok.held(ok:X.Ok) (e:Θ):(X.held e).Ok :=
 ⟨ok.mod,ok.kind,ok.glob,ok.blt,ok.above,ok.inj,ok.has,ok.jR,(λz=>by cases z),ok.frames,ok.stk,ok.lG,ok.bs,ok.gZ,ok.iL,ok.kB,ok.gM,ok.jN⟩
theorem Cx.Ok.tried(ok:X.Ok) (W:Θ->ε->Prop) (pn:List (Ω×Obj)):(X.tried W pn).Ok :=
 ⟨ok.mod,ok.kind,ok.glob,ok.blt,ok.above,ok.inj,ok.has,ok.jR,ok.hd,ok.frames,ok.stk,ok.lG,ok.bs,ok.gZ,ok.iL,ok.kB,ok.gM,ok.jN⟩
theorem Cx.Ok.xH{W:Θ->ε->Prop}{pn:List (Ω×Obj)}(ok:(X.tried W pn).Ok):X.Ok :=
 ⟨ok.mod,ok.kind,ok.glob,ok.blt,ok.above,ok.inj,ok.has,ok.jR,ok.hd,ok.frames,ok.stk,ok.lG,ok.bs,ok.gZ,ok.iL,ok.kB,ok.gM,ok.jN⟩
theorem Inv.held(I:Inv X pins σ H s) (e:Θ):Inv (X.held e) pins σ H s:=⟨I.ok.held e,I.os,I.bare,I.base,I.loc,I.cell,I.free,I.gf,I.pin,I.hok,I.len⟩
theorem Inv.Ro{e:Θ}(I:Inv (X.held e) pins σ H s) (ok:X.Ok):Inv X pins σ H s:=⟨ok,I.os,I.bare,I.base,I.loc,I.cell,I.free,I.gf,I.pin,I.hok,I.len⟩
theorem Inv.tried(I:Inv X pins σ H s) (W:Θ->ε->Prop):Inv (X.tried W (X.pn++pins)) [] σ H s:=⟨I.ok.tried W _,I.os,I.bare,I.base,I.loc,I.cell,I.free,I.gf,λp hp=>I.pin p (by simpa using hp),I.hok,I.len⟩
theorem Inv.xH{W:Θ->ε->Prop}(I:Inv (X.tried W (X.pn++pins)) rP σ H s):Inv X pins σ H s:=⟨I.ok.xH,I.os,I.bare,I.base,I.loc,I.cell,I.free,I.gf,λp hp=>I.pin p (anT _ hp),I.hok,I.len⟩
theorem aeC(ok:X.Ok) {b:Ω}(h:b∈X.fs):b∈frs X.stack:=by
 rcases ok.stk with e|⟨e,hf⟩
 ·rw[e];exact h
 ·rw[e];unfold frs;rw[amC,hf];exact alu _ h
theorem land{ea C:Ω}{t:Ω}{B h':χ}(I:Inv X pins σ H1 s1) (hos:s2.os=s1.os) (hba:adp s2.gens) (un:Un (frs X.stack) [] H1 H2 s1.heap s2.heap) (hok:cT X.prog X.w H2 s2.heap)
  (EY:acO B X.stack ea (.ref C) (.ref t) s2.heap) (fl:acO B X.stack ea (.ref C) (.ref t) h') (up:s2.heap.UpToSlots h') (fT:∀b u,H2 b=ζ u->∃o,B.get? b=ζ o)
  (old:∀b o,s1.heap.get? b=ζ o->b∉frs X.stack->∃o',B.get? b=ζ o') (eq:∀b o,s1.heap.get? b=ζ o->H1 b=η->b∉frs X.stack->B.get? b=ζ o) :
  H2 ea=η/\Inv X pins σ (upd H2 ea (.ext (lH ea C))) {s2 with heap:=h'}:=by
 have st:B.StaysIn h':=fl.1;have hne:B.get? ea=η:=fl.2.1;have hfree:H2 ea=η:=by
  cases q:H2 ea with
  |none=>rfl
  |some u=>obtain⟨o,ho⟩:=fT ea u q;rw[hne]at ho;cases ho
 obtain⟨oe,he,hc⟩:=fl.there;have adP:∃vs,oe.data=.fields vs:=by
  obtain⟨ob,ws,h1,h2,h3,_⟩:=fl.first;rw[he]at h1;cases h1;exact⟨_,h3⟩
 have jJ:∀b∈frs X.stack,b≠ea:=λb hb e=>by
  subst e;obtain⟨_,o,ho,hd⟩:=fl.2.2.1.mem hb;rw[he]at ho;cases ho;obtain⟨vs,q⟩:=adP;exact hd vs q
 have hs1:s1.heap.get? ea=η:=by
  cases q:s1.heap.get? ea with
  |none=>rfl
  |some o =>
   obtain⟨o',ho'⟩:=old ea o q λm=>jJ ea m rfl
   rw[hne]at ho';cases ho'
 have ne1:∀b o,s1.heap.get? b=ζ o->b≠ea:=λb o q e=>by subst e;rw[hs1]at q;cases q
 have neT:∀b u,H1 b=ζ u->b≠ea:=λb u q=>by
  obtain⟨o,ho⟩:=Kz (I.hok b u q);exact ne1 b o ho
 have zA:cT X.prog X.w H2 h':=EA hok st EY.1 fT;have adz:cT X.prog X.w (upd H2 ea (.ext (lH ea C))) h':=λa o e=>by
  by_cases ha:a=ea
  ·subst ha;rw[fS]at e;cases e;exact⟨⟨oe,he,hc⟩,⟨oe,he⟩,λh1 h2 ⟨o,ho,hoc⟩ k=>⟨o,k o ho,hoc⟩⟩
  ·rw[bZ ha]at e;refine(zA a o e).stay (λb u _ q=>q) (λb q=>?_) λb xs q=>?_
   ·rw[bZ (d7 q hfree)];exact q
   ·rw[bZ (d7 q hfree)];exact q
 refine⟨hfree,?_⟩;have key:=I.step (h':=h') (H':=upd H2 ea (.ext (lH ea C))) (g':=s2.gens) (t':=s2.toks) (d':=s2.drawn) (ch:=[]) (λ_ z=>nomatch z)
  (λb o hb hf _ q n=>st b o (eq b o q n λm=>by
   rcases akV.mp (I.oW b m)with z|z
   ·exact hb z
   ·exact hf z))
  (λb o hb hf _ q n=>by
   have hm:=aeC I.ok hf;obtain⟨sl,e1⟩:=un.slot b o q n hm (by simp)
   obtain⟨_,o2,ho2,hd2⟩:=EY.2.2.1.mem hm;rw[e1]at ho2;cases ho2;obtain⟨sl2,e2⟩:=up b _ e1 hd2;exact⟨sl2,e2⟩)
  (λb o _ q n=>by rw[bZ (ne1 b o q)];exact un.free b o q n (by simp))
  (λb o _ q=>by
   by_cases hm:b∈frs X.stack
   ·obtain⟨_,o2,ho2,hd2⟩:=EY.2.2.1.mem hm;obtain⟨sl2,e2⟩:=up b _ ho2 hd2;exact⟨_,e2⟩
   ·obtain⟨o',ho'⟩:=old b o q hm;exact⟨o',st b o' ho'⟩)
  (λb xs q=>by rw[bZ (neT b _ q)];exact un.tups b xs q) (λb o u q=>by rw[bZ (neT b _ q)];exact un.gX b o u q) (λb ps q=>by
   obtain⟨m,e⟩:=un.gT b ps q;exact⟨m,by rw[bZ (neT b _ q)];exact e⟩)
  (λm hn=>by
   by_cases hm:X.env.locals∈frs X.stack
   ·obtain⟨o,es,ep,ho,hd,r⟩:=hn;obtain⟨sl,e1⟩:=un.slot _ o ho I.free hm (by simp)
    exact up.ns ⟨_,es,ep,e1,hd,r⟩
   ·obtain⟨o,es,ep,ho,hd,r⟩:=hn;exact⟨o,es,ep,st _ _ (eq _ o ho I.free hm),hd,r⟩) adz hba
 obtain⟨h2,g2,d2,t2,o2⟩:=s2;have e:o2=s1.os:=hos;subst e;exact key
theorem aao{n:Str}{hpos:Pos}{E:Θ->ε->Prop}{Q:Unit->ε->Prop}(I:Inv X pins σ H s) (hl:X.env.kindOf n=ζ .local) (h:∀s',Inv X pins (ν X.N.length η) H s'->Q () s') :
  wpAny (model X.prog X.w) X.A (do bindName X.env n .none;unbindBehindTheSuite X.env n hpos) Q E s:=by
 obtain⟨m,hn,_⟩:=I.loc;refine wpAny_nameGoes hl hn (by rw[I.ok.kind];rfl) λh' m' hn' sb=>?_
 have rS:∀b o,b≠X.env.locals->s.heap.get? b=ζ o->h'.get? b=ζ o:=λb o hb e=>(sb.2 b hb).trans e
 have rY:∀b o,X.s₀.heap.get? b=ζ o->b≠X.env.locals:=λb o e=>ak3 (alc (akX e) I.ok.above)
 have B:=I.base;refine h _ ⟨I.ok,I.os,I.bare,⟨λb o q n f x=>rS b o (rY b o q) (B.keep b o q n f x),λb o q n f x=>?_,B.free,λb o q x=>?_,B.tups,B.gX,B.gT⟩,⟨m',hn',λi x v _ h _=>?_⟩,λx c e=>?_,I.free,I.gf,λp hp=>?_,λa o e=>?_,by simp⟩
 ·obtain⟨sl,e⟩:=B.slot b o q n f x;exact⟨sl,rS b _ (rY b o q) e⟩
 ·obtain⟨o',e⟩:=B.there b o q x;exact⟨o',rS b _ (rY b o q) e⟩
 ·rw[anm]at h;split at h<;>cases h
 ·obtain⟨v,o,ho,hd⟩:=I.cell x c e;refine⟨v,o,rS c o (λz=>?_) ho,hd⟩
  obtain⟨o',es,ep,ho',hd',_⟩:=hn;rw[z,ho']at ho;cases ho;rw[hd']at hd;cases hd
 ·obtain⟨p1,p2,p3,p4,p5⟩:=I.pin p hp;exact⟨rS _ _ p3 p1,p2,p3,p4,p5⟩
 ·refine(I.hok a o e).stay (λb u hb q=>rS b u (λz=>?_) q) (λ_ q=>q) λ_ _ q=>q
  subst z
  rcases hb with rfl|hb
  ·rw[I.free]at e;cases e
  ·rw[I.free]at hb;cases hb
theorem VE{i:Nat}{n cn:Str}{Cn:Ω}{body:List acz}{b₀:acz}{suite:List acz}{np hpos pos:Pos}{tb:(Str->Hp->Prop)->St->Hp->Prop}{th:Ω->TS}
  (hB:∀W pn,eX (X.tried W pn) body λ_ σ H=>tb (xh (X.tried W pn)) σ H) (mono:∀(A A':Str->Hp->Prop) σ H,(∀x H',A x H'->A' x H')->tb A σ H->tb A' σ H) (hS:∀ea,eX (X.held (.ref ea)) (b₀::suite) (th ea))
  (hN:X.N.Nodup) (hi:X.N[i]? = ζ n) (hl:X.env.scope.names.lookup n=ζ .local) (hg:Gl X cn) (hm:X.mg cn=ζ (.ref Cn)) (jJ:X.stack=X.env::X.outer/\X.env.frame=ζ X.env.locals) (hd:(cn==("__debug__":Str))=ξ:=by decide) :
  PS X (.Try body [.ExceptHandler (ζ (.Name cn np)) (ζ n) (b₀::suite) hpos] [] [] pos) λD σ H=>tb (λx H2=>∃C,Γ X.K Δ x=ζ (ζ (.ref C))/\PySem.W.exmOne X.K (.ref C) (.ref Cn)=ζ Ξ /\
   ∀(ea:Ω) (σ':St),σ'.length=X.N.length->H2 ea=η->th ea {nx:=λ_ _=>False,rt:=D.rt} (σ'.set i (ζ (.ref ea))) (upd H2 ea (.ext (lH ea C)))) σ H:=by
 intro pins s σ H D I h;refine wpAny_Try_except ?_;refine alq (hB (λe s₁=>wpAny (model X.prog X.w) X.A (noteFrame e X.env) (λ_ s₂=>wpAny (model X.prog X.w) X.A (setFlight e η) (λ_ s₃=>wpAny (model X.prog X.w) X.A (handleBy e X.env [.ExceptHandler (ζ (.Name cn np)) (ζ n) (b₀::suite) hpos]) (SP X pins D) X.xe s₃) X.xe s₂) X.xe s₁) (X.pn++pins)
  [] s σ H {nx:=λ_ _=>False,rt:=λ_ _=>False} (I.tried _) (mono _ _ σ H (λx H2 acc=>?_) h)) (λf s' q=>?_) λ_ _ z=>z
 ·obtain⟨C,hn,hx,hth⟩:=acc;intro rP σ' H1 s1 e s2 I1 hos hba un hok EW;obtain⟨ea,C',t,B,rfl,hn',fl,fT,old,eq⟩:=EW;have Ms:Γ X.K Δ x=ζ (ζ (.ref C')):=hn';rw[hn]at Ms;cases Ms;have ok:X.Ok:=I.ok;have hfr:X.A.frames=ζ (X.env::X.outer):=by rw[ok.frames,jJ.1]
  have fl:acO B (X.env::X.outer) ea (.ref C) (.ref t) s2.heap:=by
   have z:acO B X.stack ea (.ref C) (.ref t) s2.heap:=fl;rw[jJ.1]at z;exact z
  show wpAny (model X.prog X.w) X.A (noteFrame (.ref ea) X.env) _ _ s2;refine wpAny_looks_onW hfr jJ.2 fl λh3 held Rn=>?_
  refine wpAny_landsW held λh4 EX Rk=>?_
  have IB:s2.heap.UpToSlots h4:=Rn.trans Rk;have L4:=land (X:=X.tried _ _) I1 hos hba un hok (by show acO B X.stack _ _ _ _;rw[jJ.1];exact fl) (by show acO B X.stack _ _ _ _;rw[jJ.1];exact EX) IB fT old eq
  have I4:Inv X pins σ' (upd H2 ea (.ext (lH ea C))) {s2 with heap:=h4}:=L4.2.xH
  refine wpAny_handleBy_cons (codeAny_handlers_test ?_) (by intro q;cases q)
  refine vF (X:=X.held (.ref ea)) (I4.held _) hg hm ?_ hd;have LT:PySem.W.Looks (model X.prog X.w) h4 (typeOf (.ref ea)) (.ref C):=by
   obtain⟨ob,hob,hc⟩:=EX.there;rw[<-hc];exact(PySem.W.Looks.ld hob).andThen .now
  refine(PySem.W.exm_one I4.eH LT hx).here ?_;dsimp only;refine codeAny_handlers_suite_as ?_;refine lands_againW EX λh5 fl5 Rj=>?_
  have L5:=land (X:=X.tried _ _) I1 hos hba un hok (by show acO B X.stack _ _ _ _;rw[jJ.1];exact fl) (by show acO B X.stack _ _ _ _;rw[jJ.1];exact fl5) (IB.trans Rj) fT old eq
  have I5:Inv X pins σ' (upd H2 ea (.ext (lH ea C))) {s2 with heap:=h5}:=L5.2.xH
  refine BJ (X:=X.held (.ref ea)) (v:=.ref ea) (I5.held _) hN hi (.inl hl) rfl (λs6 I6=>?_) (.inr hl)
  refine alq (hS ea pins s6 _ _ {nx:=λ_ _=>False,rt:=D.rt} I6 (hth ea σ' (by rw[I5.len]) L5.1)) (λf s7 q=>?_) λ_ _ z=>z.elim
  cases f with
  |next=>obtain⟨_,_,_,z⟩:=q;exact z.elim
  |brk=>obtain⟨_,_,_,z⟩:=q;exact z.elim
  |cont=>obtain⟨_,_,_,z⟩:=q;exact z.elim
  |ret u =>
   obtain⟨v,i6,H7,I7,rv,q7⟩:=q;exact aao (X:=X) (I7.Ro ok) hl λs8 I8=>⟨v,_,H7,I8,rv,q7⟩
 ·cases f with
  |next=>obtain⟨_,_,_,z⟩:=q;exact z.elim
  |brk=>obtain⟨_,_,_,z⟩:=q;exact z.elim
  |cont=>obtain⟨_,_,_,z⟩:=q;exact z.elim
  |ret u=>obtain⟨_,_,_,_,_,z⟩:=q;exact z.elim
end
end L2
namespace PySem.W
open PySem PySem.Spec PySem.Calls PyProof.Rows Builtin Builtin.ObjectAttr Builtin.Getset_descriptor
structure kN (K:Frag) (C:Ω):Prop where
 ga:findIn K (.ref C) "__getattribute__"=ζ (ζ (.builtin "BaseException.__getattribute__"))
 gn:findIn K (.ref C) "__getattr__"=ζ η
 cl:findIn K (.ref C) "__class__"=ζ (ζ (.builtin "object.__class__"))
 ob:mroIn K C (.type "object")=ζ Ξ
 be:subIn K (.ref C) (.type "BaseException")=ζ Ξ
 cc:(clsIn K C).isSome=Ξ
def FT(K:Frag) (C:Ω):Bool:=findIn K (.ref C) "__getattribute__"==ζ (ζ (.builtin "BaseException.__getattribute__"))&&findIn K (.ref C) "__getattr__"==ζ η&&findIn K (.ref C) "__class__"==ζ (ζ (.builtin "object.__class__")) &&
 mroIn K C (.type "object")==ζ Ξ&&subIn K (.ref C) (.type "BaseException")==ζ Ξ&&(clsIn K C).isSome
theorem kN.of{K:Frag}{C:Ω}(h:FT K C=Ξ):kN K C:=by
 unfold FT at h;simp only[ak9,beq_iff_eq]at h;exact⟨h.1.1.1.1.1,h.1.1.1.1.2,h.1.1.1.2,h.1.1.2,h.1.2,h.2⟩
section
variable {prog:τ}{w:ψ}{A:ω}{E:Θ->ε->Prop}{K:Frag}{h:χ}{g:Array adx}{d:Drawn}{t:Nat}{os:OsState}{a C:Ω}{o:Obj}
theorem ae4{R:adY->ε->Prop}{tp:Θ}(Z:kN K C) (X:K.In h) (hx:h.get? a=ζ o) (hc:o.cls=.ref C) (hq:R (.ok (.ret (.ref C))) ⟨h,g,d,t,os⟩) :
  codeAny (model prog w) A (.call (.builtin "getset_descriptor.__get__") ⟨[.builtin "object.__class__",.ref a,tp],[]⟩) R ⟨h,g,d,t,os⟩:=by
 have L0:Looks (model prog w) h (typeOf (.ref a)) (.ref C):=hc▸(Looks.ld hx).andThen .now;have L1:=looks_mroIn (M:=model prog w) X Z.ob;refine am7 KF.slot_gs.plain KF.entry_gs (KF.slot_gs.check _ _ _ _ _ _ _ _ KF.type_class (KF.args_gs _ _ _) ?_);unfold Builtin.«getset_descriptor.__get__» descrGet;rw[dga_obj];refine akR (akS ?_);unfold descrGetter descrCheckInstance descrNameAndClass isInstance;simp only[KF.owner_class]
 repeat lk
 refine⟨am8 _ (by decide +kernel),alW KF.entry_class ?_⟩
 unfold Builtin.«object.__class__» shownTypeOf
 repeat lk
 exact hq
theorem ae5{tk:Tok}{Q:Fin->ε->Prop}(Z:kN K C) (X:K.In h) (hx:h.get? a=ζ o) (hc:o.cls=.ref C) (hq:Q (.done (.ret (.ref C))) ⟨h,g,d,t,os⟩) :
  wpAny (model prog w) A (Builtin.«object.__getattribute__» ⟨[.ref a,.str "__class__" tk],[]⟩) Q E ⟨h,g,d,t,os⟩:=by
 have hT5:(⟨h,g,d,t,os⟩:ε).TypeIs (.builtin "object.__class__") "getset_descriptor":=apl;have f5:=apl;have f6:=F.slot_gs_get.lookup;have f7:=F.slot_gs_set.lookup;have L1:=looks_findIn (M:=model prog w) X Z.cl
 repeat (any_goals (first|assumption|(with_reducible refine aol hx ?_;rw[hc])|with_reducible refine L1.at ?_|wp_step))
 refine ae4 Z X hx hc ?_
 repeat (any_goals (first|assumption|wp_step))
theorem ae9{nameV:Θ}{Q:Unit->ε->Prop}(Z:kN K C) (X:K.In h) (hx:h.get? a=ζ o) (hc:o.cls=.ref C) (hq:Q () ⟨h,g,d,t,os⟩) :
  wpAny (model prog w) A (checkBuiltinCall "BaseException.__getattribute__" ⟨[.ref a,nameV],[]⟩) Q E ⟨h,g,d,t,os⟩:=by
 have hk:builtinKind "BaseException.__getattribute__"=ζ .slot:=by decide +kernel
 have hsplit:splitId "BaseException.__getattribute__"=ζ ("BaseException","__getattribute__"):=by decide +kernel
 have ha:=F.args_bexc_ga (.ref a) nameV;have L1:=looks_subIn (M:=model prog w) X Z.be;simp only[checkBuiltinCall,hk,hsplit];refine akR ?_
 ·unfold isInstance
  repeat (first|(with_reducible refine aol hx ?_;rw[hc])|with_reducible refine L1.at ?_|wp_step)
  exact hq
theorem ae6{tk:Tok}{R:adY->ε->Prop}(Z:kN K C) (X:K.In h) (hx:h.get? a=ζ o) (hc:o.cls=.ref C) (hq:R (.ok (.ret (.ref C))) ⟨h,g,d,t,os⟩) :
  codeAny (model prog w) A (.call (.builtin "BaseException.__getattribute__") ⟨[.ref a,.str "__class__" tk],[]⟩) R ⟨h,g,d,t,os⟩ :=
 am7 F.excAttr_ValueError.ga.plain F.entry_bexc_ga (ae9 Z X hx hc (ae5 Z X hx hc hq))
theorem ae7{tk:Tok}{Q:Θ->ε->Prop}(Z:kN K C) (X:K.In h) (hx:h.get? a=ζ o) (hc:o.cls=.ref C) (hq:Q (.ref C) ⟨h,g,d,t,os⟩):wpAny (model prog w) A (getAttrBy (.ref a) (.str "__class__" tk) ξ) Q E ⟨h,g,d,t,os⟩:=by
 have f3:=F.excAttr_ValueError.ga.bind (.ref a);have hx2:(Value.builtin "BaseException.__getattribute__"==Value.builtin "object.__getattribute__")=ξ:=by decide +kernel
 have hx1:(onTheHeap (Value.ref C)&&Value.builtin "BaseException.__getattribute__"==Value.builtin "object.__getattribute__")=ξ:=by rw[hx2];rfl
 have L1:=looks_findIn (M:=model prog w) X Z.ga;have L2:=looks_findIn (M:=model prog w) X Z.gn
 repeat (any_goals (first|assumption|(with_reducible refine aol hx ?_;rw[hc])|with_reducible refine L1.at ?_|with_reducible refine L2.at ?_|wp_step))
 refine ae6 Z X hx hc ?_
 repeat (any_goals (first|assumption|wp_step))
theorem ae8{Q:Option Θ->ε->Prop}(Z:kN K C) (X:K.In h) (hx:h.get? a=ζ o) (hc:o.cls=.ref C) (hq:Q (ζ (.ref C)) ⟨h,g,d,t+1,os⟩):wpAny (model prog w) A (getAttr? (.ref a) "__class__") Q E ⟨h,g,d,t,os⟩:=by
 unfold getAttr? getAttrBy?
 repeat (any_goals (first|assumption|with_reducible apply ae7 Z X hx hc|wp_step))
theorem LF(Z:kN K C):KitX K (.ref a) (.ref C) (L2.lH a C) where
 ty:=λM h _ ⟨o,hx,hc⟩=>hc▸(Looks.ld hx).andThen .now
 it:=λ_ _ X _=>by
  have pP:=Z.cc;unfold clsIn at pP;split at pP
  ·rename_i c' d' cd' BQ ho;intro A' Q' E' s' k q;unfold isType loadHead;exact akR (wpAny_loadPart (k _ _ (X _ _ ho)) (akS q))
  ·cases pP
 ne:=λh tp dd its n sl X htp=>by
  have pP:=Z.cc;refine Bool.eq_false_iff.mpr λq=>?_
  have e:C=tp:=Value.ref.inj (beq_iff_eq.mp q);subst e;unfold clsIn at pP;split at pP
  ·rename_i c' d' cd' BQ ho;have z:=(X _ _ ho).symm.trans htp;cases z
  ·cases pP
 ca:=fun{_ _ _ _ _ s} X ⟨o,hx,hc⟩ k=>by obtain⟨h,g,d,t,os⟩:=s;exact ae8 Z X hx hc k
end
end PySem.W
namespace L2
open PySem PySem.Spec PyProof.Rows
structure jt (k:Nat) (A:ω):Prop where
 dp:A.depth+3*k+5<recursionLimit
 un:A.units+16*k+200<adw
theorem jt.deeper{k:Nat}{A:ω}(r:jt (k+1) A) (env:Env):jt k (A.deeper env) :=
 ⟨by have:=r.dp;show A.depth+1+3*k+5<_;omega,by have:=r.un;show A.units+3+16*k+200<_;omega⟩
theorem jt.depth{k:Nat}{A:ω}(r:jt k A):A.depth<recursionLimit:=by have:=r.dp;omega
structure A8 (P:τ) (w:ψ) (K:Ψ) (mg:Str->Option Θ) (base:χ) (k:Nat) (f:Ω) (fd:ο) (ps:List Str) (sp:Sp):Prop where
 len:∀vs H Q E,sp vs H Q E->vs.length=ps.length
 run:∀(A:ω) (outer:List Env) (s:ε) (H:Hp) (args:Args) (us:List Θ) (vs:List V) (Q:VK) (E:XK),jt k A->uz P w K mg base A outer s H->adI s fd args (ps.zip us)->Vals vs us->sp vs H Q E ->
  codeAny (model P w) A (.call (.ref f) args) (CR bY outer P w H s Q E) s
abbrev wA(P:τ) (w:ψ) (K:Ψ) (mg:Str->Option Θ) (base:χ) (N:List Str) (qual:Str) (scope:ads) (f:Ω) (cd:Θ) (A:ω) (outer:List Env) (s:ε) (H:Hp) (E:XK):Cx :=
 {gi bY P w K mg base N qual scope f cd A outer s H E with calm:=ξ}
section
variable {P:τ}{w:ψ}{K:Ψ}{mg:Str->Option Θ}{base:χ}
theorem ac1{N ps:List Str}{qual:Str}{scope:ads}{f:Ω}{cd:Θ}{A:ω}{outer:List Env}{s s1:ε}{H:Hp}{E:XK}{us:List Θ}{vs:List V}
  (S:cB N ps scope) (e0:uz P w K mg base A outer s H) (hl:vs.length=ps.length) (r:Vals vs us)
  (x:InCallC s s.heap.objs.size (bindL (envOfC qual scope s.heap.objs.size f cd).kindOf (ps.zip us) λ_=>η) (cellsFrom (s.heap.objs.size+1) scope.names []) (bindC (envOfC qual scope s.heap.objs.size f cd).kindOf (ps.zip us) λ_=>η) s1) :
  Inv (wA P w K mg base N qual scope f cd A outer s H E) [] (start N vs) H s1:=by
 have I:Inv (gi bY P w K mg base N qual scope f cd {A with handled:=η} outer s H E) [] (start N vs) H s1:=LZ S rfl ⟨e0.frames,e0.mod,e0.bs,e0.gZ,e0.gM,e0.jN,e0.hok,e0.bare⟩ hl r x
 have ok:=I.ok;exact⟨⟨ok.mod,ok.kind,ok.glob,ok.blt,ok.above,ok.inj,ok.has,ok.jR,(λz=>by cases z),Around.frames_deeper e0.frames,ok.stk,ok.lG,ok.bs,ok.gZ,ok.iL,ok.kB,ok.gM,ok.jN⟩,I.os,I.bare,I.base,I.loc,I.cell,I.free,I.gf,I.pin,I.hok,I.len⟩
theorem aeV{k:Nat}{f:Ω}{name qual:Str}{params:Arguments}{body:List acz}{scope:ads}{dV kV doc pm cdv ct oc:Θ}{an od:Option Ω}
  {osl:Array (Option Θ)}{N ps:List Str}{sp:Sp}(lk:K.lookup f=ζ ⟨oc,od,.func (PySem.W.fnOf name qual params body scope dV kV doc pm an cdv ct),osl⟩) (hcd:PySem.W.codeIn K cdv qual=Ξ) (S:cB N ps scope)
  (len:∀vs H Q E,sp vs H Q E->vs.length=ps.length)
  (hbody:∀(A:ω) (outer:List Env) (s:ε) (H:Hp) (vs:List V) (Q:VK) (E:XK),jt k (A.deeper (envOfC qual scope s.heap.objs.size f cdv))->sp vs H Q E ->
   ∃t,eX (wA P w K mg base N qual scope f cdv A outer s H E) body t/\t {nx:=λ_ H'=>Q .aQ H',rt:=Q} (start N vs) H) :
  A8 P w K mg base (k+1) f (PySem.W.fnOf name qual params body scope dV kV doc pm an cdv ct) ps sp:=by
 refine⟨len,λA outer s H args us vs Q E hr e0 hb r jK=>?_⟩
 have hl:=len _ _ _ _ jK;have KX:K.In s.heap:=e0.mod.lg.keeps λb o e=>(e0.bs b o e).1
 have lim:s.heap.NoLimit:=e0.mod.nolimit.keeps λb o e=>(e0.bs b o e).1
 have hkind:∀y∈ps.zip us,scope.names.lookup y.1=ζ .local\/(scope.names.lookup y.1=ζ .cell/\((cellsFrom (s.heap.objs.size+1) scope.names []).lookup y.1).isSome=Ξ):=fun⟨n,v⟩ hy=>by
  rcases S.par n (anl hy).1 with q|q
  ·exact .inl q
  ·exact .inr ⟨q,amW _ _ _ (.inl q)⟩
 refine ao3 hr.depth (KX _ _ lk) rfl S.co S.gen rfl (ao4 KX hcd) (hb _ _ _ _ ?_);refine ao5 S.kind hkind λenv he s1 x=>?_
 subst he;refine⟨lim.keeps x.toInCall.keep,codeAny_func ?_⟩;obtain⟨t,ht,hq⟩:=hbody A outer s H vs Q E (hr.deeper _) jK;have I:Inv (wA P w K mg base N qual scope f cdv A outer s H E) [] (start N vs) H s1:=ac1 S e0 hl r x;refine alq (ht [] s1 (start N vs) H _ I hq) (λfl s' hs=>?_) λe s' hs=>hs
 have fin:∀{σ':St}{H':Hp}{v:V}{u:Θ},Inv (wA P w K mg base N qual scope f cdv A outer s H E) [] σ' H' s'->RelV v u->Q v H'->CE outer P w H s Q u s' :=
  fun{σ' H' v u} J rv q=>⟨v,H',J.os,J.bare,J.base,J.hok,rv,q⟩
 cases fl with
 |ret u =>
  obtain⟨v,σ',H',J,rv,q⟩:=hs;exact fin J rv q
 |next =>
  obtain⟨σ',H',J,q⟩:=hs;exact fin (v:=V.aQ) (u:=Value.none) J rfl q
 |brk =>
  obtain⟨_,_,_,q⟩:=hs;exact False.elim q
 |cont =>
  obtain⟨_,_,_,q⟩:=hs;exact False.elim q
theorem aeU{x qual:Str}{st:acz}{f:Ω}{fd:ο}{N ps:List Str}{k n m:Nat}{own:Bool}{d:ah}(F:mY K x qual st f fd) (S:cB N ps (aW st)) (hN:N.length=n) (hm:ps.length=m)
  (hb:∀(cdv:Θ) (A:ω) (outer:List Env) (s:ε) (H:Hp) (E:XK),jt k (A.deeper (envOfC qual (aW st) s.heap.objs.size f cdv))->b9 (wA P w K mg base N qual (aW st) f cdv A outer s H E).fC (cA st) d) :
  A8 P w K mg base (k+1) f fd ps (cj K m (bM n own d)):=by
 subst hN;subst hm;obtain⟨oc,od,kV,doc,pm,an,cdv,ct,osl,rfl,lk,hcd⟩:=F.ex;refine aeV lk hcd S (λvs H Q E h=>?_) λA outer s H vs Q E hr h=>⟨_,(hb cdv A outer s H E hr).fC,?_⟩
 ·obtain⟨ρ,xs,c,W,r,hl,p⟩:=h;exact r.length.trans hl
 ·obtain⟨ρ,xs,c,W,r,hl,p⟩:=h;refine⟨ρ,dH N.length xs,c,W,dz.start r,post.bind p λfl c1 aO H1 b _ W1 X1 r1 p1=>?_⟩
  cases fl with
  |nx e1 =>
   obtain⟨σ1,rfl,V1⟩:=r1;exact AD (v:=.aQ) (x:=.aQ) (H1:=H1) W W1 X1 rfl (by
    unfold bM at p;exact id (α:=post K (Rel K) (dX own c.length .aQ c1) ρ H Q) (by
     rename_i he;rw[he]at p;exact p))
  |rt d =>
   obtain⟨v,rfl,V1⟩:=r1;exact AD (v:=d) (x:=v) (H1:=H1) W W1 X1 V1 (by
    unfold bM at p;rename_i he;rw[he]at p;exact p)
  |bk e1=>exact p1.elim
  |ct e1=>exact p1.elim
end
section
variable {X:Cx}
theorem Xz{x:Str}{st:acz}{ps:List Str}{f:Ω}{fd:ο}{k n:Nat}{m:List D->aa->R D}{e:π}{es:List π}{da:aj}{p pos:Pos}(D:Def X.K X.mg x st ps f fd) (G:A8 X.prog X.w X.K X.mg X.base k f fd ps (cj X.K n m)) (hr:jt k X.A) (ha:fq X (e::es) da) (hg:Gl X x:=by rfl)
  (hdb:(x==("__debug__":Str))=ξ:=by decide) (he:μ (e::es) X.env=(ξ,eval e X.env)::μ es X.env:=by exact b7 rfl) (hpl:(acF pos (μ es X.env)).any (·.1)=ξ:=by exact ff rfl) :
  aX X (.Call (.Name x p) (e::es) [] pos) (aC n m da):=by
 intro pins s σ H Q I h;obtain⟨ρ,e',c,W,V,q⟩:=h;refine ank (vF I hg D.at' ?_ hdb);refine ao2 (h₀:=X.base) I.ok.mod.lg D.fn.kp (bz (ha pos pins s σ H (λvs H1=>cj X.K n m vs H1 Q E0) I ⟨ρ,e',c,W,V,post.bind q λxs c1 aO H1 vs _ W1 X1 r1 p1=>?_⟩) λus s1 ⟨vs,H1,I1,r,q⟩=>⟨I1.eH,?_⟩) he hpl
 ·split at p1
  ·rename_i hl;exact⟨aO,xs,c1,W1,r1,hl,p1⟩
  ·exact p1.elim
 ·have hl:us.length=ps.length:=by rw[<-r.length];exact G.len _ _ _ E0 q
  have hb:=D.bd s1 us I1.eH (by simpa using hl)
  rw[amb]at hb;refine amV (al1 (G.run X.A X.stack s1 H1 ⟨us,[]⟩ us vs Q E0 hr I1.Nu hb r q) λr s' hq=>?_)
  cases r with
  |error e=>exact False.elim hq
  |ok fl =>
   cases fl with
   |ret u=>exact I1.after hq
   |next=>exact False.elim hq
   |brk=>exact False.elim hq
   |cont=>exact False.elim hq
end
structure wM (K:Ψ) (T:List Str):Prop where
 cls:∀x∈T,∀C,Γ K Δ x=ζ (ζ (.ref C))->PySem.W.kN K C/\PySem.W.kitOne K (.ref C) (.type "ValueError")=ζ Ξ
 two:∀x∈T,∀y∈T,∀C C',Γ K Δ x=ζ (ζ (.ref C))->Γ K Δ y=ζ (ζ (.ref C'))->PySem.W.kitOne K (.ref C) (.ref C')=ζ (x==y)
def Ik(K:Ψ) (x:Str):Bool:=match Γ K Δ x with
 |some (ζ (.ref C))=>PySem.W.FT K C&&PySem.W.kitOne K (.ref C) (.type "ValueError")==ζ Ξ
 |_=>Ξ
def Ir(K:Ψ) (x y:Str):Bool:=match Γ K Δ x,Γ K Δ y with
 |some (ζ (.ref C)),ζ (ζ (.ref C'))=>PySem.W.kitOne K (.ref C) (.ref C')==ζ (x==y)
 |_,_=>Ξ
def Bt(K:Ψ) (T:List Str):Bool:=T.all λx=>Ik K x&&T.all λy=>Ir K x y
theorem wM.of{K:Ψ}{T:List Str}(h:Bt K T=Ξ):wM K T:=by
 unfold Bt at h;rw[ak0]at h;refine⟨λx hx C e=>?_,λx hx y hy C C' e e'=>?_⟩
 ·have q:=h x hx;rw[ak9]at q;have q:=q.1;unfold Ik at q;rw[e]at q;simp only[ak9,beq_iff_eq]at q;exact⟨.of q.1,q.2⟩
 ·have q:=h x hx;rw[ak9,ak0]at q;have q:=q.2 y hy;unfold Ir at q;rw[e,e']at q
  simpa using q
def gc(T:List Str):List D->aa->R D:=λxs c=>match xs with
 |[.exc x,.fn y _]=>if x∈T/\y∈T then .ok (.bl (x==y)) c else .bad
 |[.exc x,.ty n]=>if x∈T/\n="ValueError" then .ok (.bl Ξ) c else .bad
 |_=>.bad
section
variable {X:Cx}{T:List Str}
theorem jq(Z:wM X.K T):c9 X (.builtin "isinstance") (rN X.K (gc T)):=by
 intro pins s σ H vs us Q I rv h;obtain⟨ρ,xs,c,W,rx,p⟩:=h;unfold gc at p;split at p
 ·split at p
  ·rename_i hT;obtain⟨v,r,rfl,⟨a,C,rfl,hC,hH⟩,u,r',rfl,⟨a',rfl,hC'⟩,hr⟩:=rx;cases hr;obtain⟨u1,u2,rfl,r1,r2⟩:=rv.two;cases r1;cases r2;obtain⟨hp,_,_⟩:=I.hok a _ hH;exact alK (PySem.W.LF (Z.cls _ hT.1 C hC).1) I.eH hp (Z.two _ hT.1 _ hT.2 C a' hC hC') (λz=>nomatch z) λtk=>⟨.bl _,H,I.tok _,rfl,p.here W rfl⟩
  ·exact p.elim
 ·split at p
  ·rename_i hT;obtain⟨v,r,rfl,⟨a,C,rfl,hC,hH⟩,u,r',rfl,hu,hr⟩:=rx;cases hr;cases hu;obtain⟨u1,u2,rfl,r1,r2⟩:=rv.two;cases r1;cases r2;obtain⟨hp,_,_⟩:=I.hok a _ hH;obtain⟨_,rfl⟩:=hT;rename_i hx;exact alK (PySem.W.LF (Z.cls _ hx C hC).1) I.eH hp (Z.cls _ hx C hC).2 (λz=>nomatch z) λtk=>⟨.bl Ξ,H,I.tok _,rfl,p.here W rfl⟩
  ·exact p.elim
 ·exact p.elim
theorem jz{x:Str}{C:Ω}{pos:Pos}(hm:X.mg x=ζ (.ref C)) (hn:Γ X.K Δ x=ζ (ζ (.ref C))) (hg:Gl X x:=by rfl) (hd:(x==("__debug__":Str))=ξ:=by decide):aX X (.Name x pos) (dC (.fn x 0)) :=
 pD (J0 (v:=.ref C) hg hm rfl hd) λ_ _=>⟨C,rfl,hn⟩
end
open PySem.SeqAt
section
variable {X:Cx}
def Vi:V->List V->Hp->VK->Prop:=λx vs H Q=>∃l,∃bs:List Bool,x=.ref l/\vs=[.bl Ξ]/\H l=ζ (.lst (bs.map V.bl))/\Q (.int (bs.countP id:Nat)) H
def Vf:V->List V->Hp->VK->Prop:=λx vs H Q=>∃l,∃bs:List Bool,∃j,x=.ref l/\vs=[.bl Ξ]/\H l=ζ (.lst (bs.map V.bl))/\bs.findIdx? id=ζ j/\Q (.int (j:Nat)) H
theorem Vals.Hr:∀{bs:List Bool}{us:List Θ},Vals (bs.map V.bl) us->us=bs.map Value.bool
 |[],_,.nil=>rfl
 |b::bs,_,.cons r t=>by cases r;rw[Vals.Hr t];rfl
def eqT:Θ->Bool
 |.bool b=>b
 |_=>ξ
theorem afa(bs:List Bool):(bs.map Value.bool).countP eqT=bs.countP id:=by
 induction bs with
 |nil=>rfl
 |cons b bs ih=>rw[ak2,apm,apm,ih];rfl
theorem Nr{A:ω}{s:ε}(bs:List Bool):∀y,y∈(bs.map Value.bool).toArray->EqAt A s y (.bool Ξ) (eqT y):=λy hy=>by
 rw[List.mem_toArray,akW]at hy;obtain⟨b,_,rfl⟩:=hy;have:=EqAt.bool_bool (A:=A) (s:=s) b Ξ;cases b<;>exact this
theorem aa6:wW X "list.count" Vi:=by
 intro pins s σ H x vs v us Q I rx rv h;obtain⟨l,bs,rfl,rfl,hH,q⟩:=h;cases rx;obtain⟨u,rfl,ru⟩:=rv.one;cases ru;obtain⟨z,its,n,r,hl,e⟩:=I.k9 hH;cases r.Hr;refine amm F.slot_list_count ⟨_,e,rfl⟩ F.entry_list_count (F.args_list_count_2 _ _) (list_countAt l (bs.map Value.bool).toArray n η #[] (.bool Ξ) eqT) ⟨e,Nr bs,?_⟩;refine⟨.int (bs.countP id:Nat),H,I.tok _,⟨s.toks,?_⟩,q⟩;rw[List.toList_toArray,afa]
theorem aa4:wW X "list.index" Vf:=by
 intro pins s σ H x vs v us Q I rx rv h;obtain⟨l,bs,j,rfl,rfl,hH,hj,q⟩:=h;cases rx;obtain⟨u,rfl,ru⟩:=rv.one;cases ru;obtain⟨z,its,n,r,hl,e⟩:=I.k9 hH;cases r.Hr;rw[apn]at hj;obtain⟨h1,h2,h3⟩:=hj;have hz:bs.length<=ι:=by simpa using z
 have hs:(j:Int)<2^63-1:=by
  have:ι<2^62:=by decide
  omega
 refine amm F.slot_list_index ⟨_,e,rfl⟩ F.entry_list_index (F.args_list_index_2 _ _) (list_indexAt l (bs.map Value.bool).toArray n η #[] (.bool Ξ) eqT j (by simpa using h1) hs (by simpa[eqT]using h2) (λm hm hlt=>by have:=h3 m hlt;simpa[eqT]using this)) ⟨e,Nr bs,?_⟩
 exact⟨.int (j:Nat),H,I.tok _,⟨s.toks,rfl⟩,q⟩
end
def Gu(o a:af):af:=λe c=>(o e c).bind λx c=>match x with
 |.lst l=>(a e c).bind λy c=>match y,kC l with
  |.bl Ξ,ζ bs=>.ok (.int (bs.countP id:Nat)) c
  |_,_=>.bad
 |_=>.bad
def Gr(o a:af):af:=λe c=>(o e c).bind λx c=>match x with
 |.lst l=>(a e c).bind λy c=>match y,kC l with
  |.bl Ξ,ζ bs=>match bs.findIdx? id with
   |some j=>.ok (.int (j:Nat)) c
   |none=>.bad
  |_,_=>.bad
 |_=>.bad
theorem aM.Hq{K:Ψ}{ρ:List Ω}{H:Hp}:∀{bs:List Bool}{xs:List V},aM K ρ H (bs.map D.bl) xs->xs=bs.map V.bl
 |[],_,h=>h
 |b::bs,_,h=>by
  obtain⟨x,r,rfl,h1,h2⟩:=h;cases h1;rw[aM.Hq h2];rfl
section
variable {X:Cx}
theorem XC{o e:π}{dO da:af}{apos cpos:Pos}(ho:aX X o dO) (ha:aX X e da)
  (hbase:ado o "count" X.env (eval o X.env)=eval o X.env:=by rfl)
  (hfew:((acF cpos (μ [e] X.env)).all (λx=>!x.1)&&(adt cpos (adj [] X.env)).all (λx=>x.1.isSome)
   && decide ([e].length+([]:List adm).length+(if([]:List adm).isEmpty then 0 else 1)<30))=Ξ:=by exact uL rfl)
  (hline:(apos.endLine==cpos.line)=Ξ:=by rfl) (hs:μ [e] X.env=(ξ,eval e X.env)::μ [] X.env:=by exact b7 rfl) (hplain:(acF cpos (μ [] X.env)).any (·.1)=ξ:=by exact ff rfl) :
  aX X (.Call (.Attribute o "count" apos) [e] [] cpos) (Gu dO da) :=
 (u7 am6 PySem.F.slot_list_count PySem.F.type_list_count aa6 ho (jB ha jA hs) hbase hfew hline hs hplain).imp λσ H Q h=>by
  obtain⟨ρ,e,c,W,V,p⟩:=h;refine⟨ρ,e,c,W,V,post.bind p λx c1 aO H1 v _ W1 X1 r1 p1=>?_⟩
  cases x with
  |lst l =>
   obtain⟨a,xs,rfl,hx,rl⟩:=r1;refine⟨.inl ⟨rfl,xs,bC.of hx.1⟩,aO,e,c1,W1,V.mono W X1,post.bind p1 λy c2 cC H2 u _ W2 X2 r2 p2=>?_⟩
   split at p2
   ·rename_i bs hb _;cases r2;rw[AY hb]at rl;cases rl.Hq;exact⟨a,bs,rfl,rfl,(X2.keep a _ hx.1 hx.2 rfl).1,p2.here W2 rfl⟩
   ·exact p2.elim
  |_=>exact p1.elim
theorem Xw{o e:π}{dO da:af}{apos cpos:Pos}(ho:aX X o dO) (ha:aX X e da)
  (hbase:ado o "index" X.env (eval o X.env)=eval o X.env:=by rfl)
  (hfew:((acF cpos (μ [e] X.env)).all (λx=>!x.1)&&(adt cpos (adj [] X.env)).all (λx=>x.1.isSome)
   && decide ([e].length+([]:List adm).length+(if([]:List adm).isEmpty then 0 else 1)<30))=Ξ:=by exact uL rfl)
  (hline:(apos.endLine==cpos.line)=Ξ:=by rfl) (hs:μ [e] X.env=(ξ,eval e X.env)::μ [] X.env:=by exact b7 rfl) (hplain:(acF cpos (μ [] X.env)).any (·.1)=ξ:=by exact ff rfl) :
  aX X (.Call (.Attribute o "index" apos) [e] [] cpos) (Gr dO da) :=
 (u7 am6 PySem.F.slot_list_index PySem.F.type_list_index aa4 ho (jB ha jA hs) hbase hfew hline hs hplain).imp λσ H Q h=>by
  obtain⟨ρ,e,c,W,V,p⟩:=h;refine⟨ρ,e,c,W,V,post.bind p λx c1 aO H1 v _ W1 X1 r1 p1=>?_⟩
  cases x with
  |lst l =>
   obtain⟨a,xs,rfl,hx,rl⟩:=r1;refine⟨.inl ⟨rfl,xs,bC.of hx.1⟩,aO,e,c1,W1,V.mono W X1,post.bind p1 λy c2 cC H2 u _ W2 X2 r2 p2=>?_⟩
   split at p2
   ·rename_i bs hb _;cases r2;rw[AY hb]at rl;cases rl.Hq;split at p2
    ·rename_i j hj;exact⟨a,bs,j,rfl,rfl,(X2.keep a _ hx.1 hx.2 rfl).1,hj,p2.here W2 rfl⟩
    ·exact p2.elim
   ·exact p2.elim
  |_=>exact p1.elim
def oZ(T:List Str) (i n:Nat) (b:ah) (x:Xd) (h:af):ah:=λe c=>match b e c with
 |.ok f c=>.ok f c
 |.bad=>(x e c).bind λy c=>if y∈T then(h ((ν n η).set i (ζ (.exc y))) c).bind λv c=>.ok (.rt v) c else .bad
theorem VD{body:List acz}{h₀:ExceptHandler}{pos:Pos}{t:TS}(hb:eX X.fC body t):PS X (.Try body [h₀] [] [] pos) t:=λpins s σ H D I h=>by
 refine wpAny_Try_except (alq (hb pins s σ H D (I.g9 _) h) (λf s' q=>?_) λ_ _ z=>z.elim)
 have q:=q.i8;cases f with
 |next=>exact amT q
 |brk=>exact q
 |cont=>exact q
 |ret u=>exact q
theorem Uh{T:List Str}{i m:Nat}{n cn:Str}{Cn:Ω}{body:List acz}{he:π}{rpos np hpos pos:Pos}{b:ah}{x:Xd}{h:af}
  (hb:b9 X.fC body b) (hx:∀W pn,iY (X.tried W pn) (xh (X.tried W pn)) body x) (hS:∀ea,aX (X.held (.ref ea)) he h)
  (hm:X.mg cn=ζ (.ref Cn)) (hT:∀y∈T,∃C,Γ X.K Δ y=ζ (ζ (.ref C))/\PySem.W.exmOne X.K (.ref C) (.ref Cn)=ζ Ξ)
  (hN:X.N.Nodup:=by decide +kernel) (hi:X.N[i]? = ζ n:=by rfl) (hlen:X.N.length=m:=by rfl) (hl:X.env.scope.names.lookup n=ζ .local:=by rfl) (hg:Gl X cn:=by rfl) (jJ:X.stack=X.env::X.outer/\X.env.frame=ζ X.env.locals:=by exact⟨rfl,rfl⟩) (hd:(cn==("__debug__":Str))=ξ:=by decide) :
  ju X (.Try body [.ExceptHandler (ζ (.Name cn np)) (ζ n) [.Return (ζ he) rpos] hpos] [] [] pos) (oZ T i m b x h):=by
 intro pins s σ H D I hh;obtain⟨ρ,e,c,W,V,p⟩:=hh;unfold oZ at p;cases q:b e c with
 |ok f c1 =>
  rw[q]at p;exact VD hb pins s σ H D I ⟨ρ,e,c,W,V,by rw[q];exact p⟩
 |bad =>
  rw[q]at p;dsimp only at p;refine VE (X:=X) (th:=λea=>BH X.K (aK h)) (tb:=λA σ H=>tD X.K (λ_ _ a b=>a=b) x σ H A) hx (λA A' σ H hA ⟨ρ,e,c,W,V,p⟩=>⟨ρ,e,c,W,V,p.mono hA⟩)
   (λea=>aU (bG (hS ea))) hN hi hl hg hm jJ hd pins s σ H D I ⟨ρ,e,c,W,V,post.bind p λy c1 aO H1 b _ W1 X1 r1 p1=>?_⟩
  cases r1;split at p1
  ·rename_i hy;obtain⟨C,hC,hC2⟩:=hT y hy;refine⟨C,hC,hC2,λea σ' hl' hf=>?_⟩
   refine⟨aO,(ν m η).set i (ζ (.exc y)),c1,W1.fresh hf,⟨λj d hj=>?_,by simp[hl',hlen]⟩,?_⟩
   ·by_cases e1:j=i
    ·subst e1;have hlt:j<m:=by
      have:=(alb.mp hj).1
      simpa using this
     rw[al0 (by simpa using hlt)]at hj
     cases hj;refine⟨.ref ea,by rw[al0 (by rw[hl',hlen];exact hlt)],ea,C,rfl,hC,fS⟩
    ·rw[al8 (alP e1),anm]at hj;split at hj<;>cases hj
   ·have p2:=p1.ext (Ext.fresh (p:=ea) (o:=.ext (lH ea C)) W1 hf);unfold aK;cases qh:h ((ν m η).set i (ζ (.exc y))) c1 with
    |bad=>rw[qh]at p2;exact p2.elim
    |ok v c2 =>
     rw[qh]at p2;exact λcC H2 f W2 X2 r2=>by
      have z:=p2 cC H2 f W2 X2 r2;obtain⟨v',rfl,_⟩:=r2;exact z
  ·exact p1.elim
end
theorem jt.held{k:Nat}{A:ω}{h:Option Θ}(r:eB k A):jt k (A.mark h):=⟨r.dp,r.un⟩
theorem ahM:bootBuiltins "ValueError"=ζ (.type "ValueError"):=by decide +kernel
abbrev xF:List Θ:=[.type "ValueError",.type "Exception",.type "BaseException",.type "object"]
theorem XI{K:Ψ}{h:χ}{mg:Str->Option Θ}{x:Str}{C:Ω}{bmB:List Θ}{newId:String}(X:K.In h) (e:mg x=ζ (.ref C)) (q:PySem.W.excIn K C bmB newId=Ξ):OwnCls x C bmB newId mg h:=by
 refine⟨e,?_⟩;unfold PySem.W.excIn at q;split at q
 ·rename_i dd cd sl ho;split at q
  ·rename_i C' bm k0 k1 k2 k3 n k5 hm hs;simp only[ak9,beq_iff_eq,apo]at q;obtain⟨⟨⟨⟨⟨rfl,rfl⟩,My⟩,ht⟩,hok⟩,hni⟩:=q;obtain⟨nm,bs,mro,ns,qn,hd,sn,sub,ab,col,del⟩:=cd;dsimp only at hm My hok hni;subst hm My;have hsl:sl=#[k0,k1,k2,k3,ζ (.builtin n),k5]:=by
    obtain⟨l⟩:=sl;simp only at hs;rw[hs]
   subst hsl;exact⟨bm,ns,nm,qn,bs,hd,sn,sub,ab,col,dd,k0,k1,k2,k3,k5,_,X _ _ ho,.of_isNs (PySem.W.isNs_of_in X hok),PySem.W.nsMap_none_of_in X hok hni,PySem.W.tail_of_in X ht⟩
  ·cases q
 ·cases q
theorem wN.of{K:Ψ}{mg:Str->Option Θ}{x:Str}{C:Ω}(n:Γ K Δ x=ζ (ζ (.ref C))) (m:mg x=ζ (.ref C)) (q:PySem.W.excIn K C xF "ValueError.__new__"=Ξ):wN K mg x xF "ValueError.__new__" :=
 ⟨C,n,m,λ_ X=>XI X m q⟩
def Bs(K:Ψ) (T:List Str) (Cn:Ω):Bool:=T.all λy=>match Γ K Δ y with
 |some (ζ (.ref C))=>PySem.W.exmOne K (.ref C) (.ref Cn)==ζ Ξ
 |_=>ξ
theorem QH{K:Ψ}{T:List Str}{Cn:Ω}(h:Bs K T Cn=Ξ):∀y∈T,∃C,Γ K Δ y=ζ (ζ (.ref C))/\PySem.W.exmOne K (.ref C) (.ref Cn)=ζ Ξ:=λy hy=>by
 have q:=ak0.mp h y hy;split at q
 ·rename_i C e;exact⟨C,e,by simpa using q⟩
 ·cases q
def Gs:af:=λ_ c=>.ok .iB c
def fO:D->D->aa->R D:=λx y c=>match x,y with
 |.tup l,.tup m=>if l.length+m.length<=ι then .ok (.tup (l++m)) c else .bad
 |_,_=>.bad
section
variable {X:Cx}
theorem XA{pos:Pos}:aX X (.Dict [] [] pos) Gs:=by
 intro pins s σ H Q I h;obtain⟨ρ,e,c,W,V,p⟩:=h;refine wpAny_Dict_empty ?_;have hf:H s.heap.objs.size=η:=I.hok.fresh (akT _);refine⟨.ref s.heap.objs.size,upd H s.heap.objs.size (.ext (NB s.heap.objs.size)),I.laid (t':=s.toks) (λb u e=>akU _ e) (akT _) ?_,rfl,p ρ _ _ (W.fresh hf) (Ext.fresh W hf) ⟨_,rfl,fS⟩⟩
 exact⟨⟨_,ak8 _ rfl,rfl⟩,⟨_,ak8 _ rfl⟩,λh1 h2 ⟨o,ho,hc⟩ k=>⟨o,k o ho,hc⟩⟩
theorem Yj:bN X (binaryOp .Add) (λx y H Q=>∃a b ys,x=.ref a/\y=.ref b/\bU X.K H a []/\bU X.K H b ys/\Q (.ref b) H):=by
 intro pins s σ H x y v u Q I rx ry h;obtain⟨a,b,ys,rfl,rfl,ha,hb,q⟩:=h;cases rx;cases ry;obtain⟨its,r1,p1,_⟩:=I.tuple ha;obtain⟨its2,r2,p2,_⟩:=I.tuple hb;cases r1;obtain⟨⟨cls,dd,data,sl⟩,ho,hc,n,hd⟩:=id p1;obtain⟨⟨ahd,dd2,data2,sl2⟩,ho2,hc2,n2,hd2⟩:=id p2;simp only at hc hd hc2 hd2;subst hc hd hc2 hd2;exact an1 ⟨_,ho,rfl⟩ ⟨_,ho2,rfl⟩ an2 an3 an4 an5 (an6 _ _)
   (tuple_addW0 a b [].toArray its2.toArray n n2 dd dd2 sl sl2 rfl) ⟨ho,ho2,⟨.ref b,H,I,rfl,q⟩⟩
theorem nH:bN X (binaryOp .Add) (r2 X.K fO):=by
 intro pins s σ H v u vv uu Q I rv ru h;obtain⟨ρ,x,y,c,W,rx,ry,p⟩:=h;unfold fO at p;split at p
 ·rename_i l m;split at p
  ·rename_i hl;obtain⟨a,xs,rfl,sa,ra⟩:=rx;obtain⟨b,ys,rfl,sb,rb⟩:=ry
   by_cases hz:xs=[]
   ·subst hz;have:l=[]:=by have:=ra.length;exact anC.mp (by simpa using this.symm)
    subst this;exact Yj pins s σ H _ _ vv uu Q I rv ru ⟨a,b,ys,rfl,rfl,bU.of sa,bU.of sb,p.here W ⟨b,ys,rfl,sb,rb⟩⟩
   ·refine Kd pins s σ H _ _ vv uu Q I rv ru ⟨a,b,xs,ys,rfl,rfl,bU.of sa,bU.of sb,hz,by rw[ra.length,rb.length];exact hl,λz=>?_,λ_=>vp W (ra.append rb) p⟩
    refine p.here W ⟨a,xs++ys,rfl,by rw[z,amb];exact sa,ra.append rb⟩
  ·exact p.elim
 ·exact p.elim
end
theorem aM.rep{K:Ψ}{ρ:List Ω}{H:Hp}{l:List D}{xs:List V}(r:aM K ρ H l xs):∀n:Nat,aM K ρ H (ν n l).flatten (ν n xs).flatten
 |0=>rfl
 |n+1=>by
  rw[amc,amc,amk,amk];exact aM.append r (aM.rep r n)
def jW:D->D->aa->R D:=λx y c=>match x,y with
 |.lst l,.int k=>if -(2^63)<=k/\k<2^63/\l.length*k.toNat<=ι/\bO l=Ξ then .ok (.ref c.length) (c++[.lst (ν k.toNat l).flatten])else .bad
 |_,_=>.bad
theorem KQ{l:List D}(h:bO l=Ξ):∀n:Nat,bO (ν n l).flatten=Ξ
 |0=>by simp
 |n+1=>by rw[amc,amk,vn,h,KQ h n];rfl
theorem Ks{X:Cx}:bN X (binaryOp .Mult) (r2 X.K jW):=by
 intro pins s σ H v u vv uu Q I rv ru h;obtain⟨ρ,x,y,c,W,rx,ry,p⟩:=h;unfold jW at p;split at p
 ·split at p
  ·rename_i hl;obtain⟨a,xs,rfl,sa,ra⟩:=rx;cases ry;exact XY pins s σ H _ _ vv uu Q I rv ru ⟨a,_,xs,rfl,rfl,sa.1,hl.1,hl.2.1,by rw[ra.length];exact hl.2.2.1,CH W (KQ hl.2.2.2 _) (aM.rep ra _) p⟩
  ·exact p.elim
 ·exact p.elim
def lJ(o a:af):af:=λe c=>(o e c).bind λx c=>match x with
 |.ref k=>(a e c).bind λy c=>match y with
  |.lst m=>match c[k]? with
   |some (.lst l)=>if l.length+m.length<=ι/\bO m=Ξ then .ok .aQ (c.set k (.lst (l++m)))else .bad
   |none=>.bad
  |_=>.bad
 |_=>.bad
theorem J5{X:Cx}{o e:π}{dO da:af}{apos cpos:Pos}(ho:aX X o dO) (ha:aX X e da)
  (hbase:ado o "extend" X.env (eval o X.env)=eval o X.env:=by rfl)
  (hfew:((acF cpos (μ [e] X.env)).all (λx=>!x.1)&&(adt cpos (adj [] X.env)).all (λx=>x.1.isSome)
   && decide ([e].length+([]:List adm).length+(if([]:List adm).isEmpty then 0 else 1)<30))=Ξ:=by exact uL rfl)
  (hline:(apos.endLine==cpos.line)=Ξ:=by rfl) (hs:μ [e] X.env=(ξ,eval e X.env)::μ [] X.env:=by exact b7 rfl) (hplain:(acF cpos (μ [] X.env)).any (·.1)=ξ:=by exact ff rfl) :
  aX X (.Call (.Attribute o "extend" apos) [e] [] cpos) (lJ dO da) :=
 (u7 am6 PySem.F.slot_list_extend PySem.F.type_list_extend aa5 ho (jB ha jA hs) hbase hfew hline hs hplain).imp λσ H Q h=>by
  obtain⟨ρ,e,c,W,V,p⟩:=h;refine⟨ρ,e,c,W,V,post.bind p λx c1 aO H1 v _ W1 X1 r1 p1=>?_⟩
  cases x with
  |ref k =>
   obtain⟨a,rfl,ha⟩:=r1;obtain⟨xs,hx⟩:=W1.at' (alv ha);refine⟨.inl ⟨rfl,xs,bC.of hx⟩,aO,e,c1,W1,V.mono W X1,post.bind p1 λy c2 cC H2 u _ W2 X2 r2 p2=>?_⟩
   cases y with
   |lst m =>
    obtain⟨b,zs,rfl,sb,rb⟩:=r2;dsimp only at p2;split at p2
    ·rename_i l hl;split at p2
     ·rename_i hh;obtain⟨nr,ys,hy,rl⟩:=W2.gk k a _ (X2.pre k a ha) hl;refine⟨a,b,ys,zs,rfl,rfl,hy,sb.1,by rw[rl.length,rb.length];exact hh.1,?_⟩
      refine p2 cC _ .aQ (W2.write (X2.pre k a ha) (by rw[vn,nr,hh.2];rfl) (rl.append rb)) (Ext.write (X2.pre k a ha)) rfl
     ·exact p2.elim
    ·exact p2.elim
   |_=>exact p2.elim
  |_=>exact p1.elim
section
variable (e:Ev) (c:aa) (o a:af)
@[simp] theorem QT(m:List D) (k:Int):jW (.lst m) (.int k) c=if -(2^63)<=k/\k<2^63/\m.length*k.toNat<=ι/\bO m=Ξ then .ok (.ref c.length) (c++[.lst (ν k.toNat m).flatten])else .bad:=rfl
end
theorem pU{α:Type}{st:aa->Prop}{g:Gd}{s:ah}(C:Nat->aa) (E:Nat->α->Ev):∀(items:List D) (k:Nat) (v:α),(∀i,i<=items.length->st (C (k+i))) ->
  (∀i x,items[i]? = ζ x->∀v,∃e',g x (E (k+i) v) (C (k+i))=.ok e' (C (k+i))/\∃v',s e' (C (k+i))=.ok (.nx (E (k+i+1) v')) (C (k+i+1))) ->
  ∃v',cG st g s items (E k v) (C k)=.ok (.nx (E (k+items.length) v')) (C (k+items.length))
 |[],k,v,hst,_=>⟨v,by
   have:=hst 0 (akT _);rw[am4]at this;unfold cG;rw[if_pos this];rfl⟩
 |x::xs,k,v,hst,h=>by
  obtain⟨e',h1,v',h2⟩:=h 0 x rfl v;obtain⟨v2,h3⟩:=pU C E xs (k+1) v' (λi hi=>by
   have:=hst (i+1) (by simp only[ak4];omega)
   rwa[show k+(i+1)=k+1+i by omega]at this) (λi y hy v=>by
   have:=h (i+1) y (by simpa using hy) v
   rwa[show k+(i+1)=k+1+i by omega]at this)
  refine⟨v2,?_⟩;unfold cG;rw[if_pos (by have:=hst 0 (alV _);exact this)]
  rw[am4]at h1 h2;rw[h1,R.aD,h2];simp only[R.aD];rw[h3,ak4,show k+(xs.length+1)=k+1+xs.length by omega]
theorem pT{α:Type}{g:Gd}{s:ah}(C:Nat->aa) (E:Nat->α->Ev) {N:Int}{n:Nat}(hN:N=n) (v:α)
  (h:∀i,i<n->∀v,∃e',g (.int (i:Nat)) (E i v) (C i)=.ok e' (C i)/\∃v',s e' (C i)=.ok (.nx (E (i+1) v')) (C (i+1))) :
  ∃v',cG (λ_=>True) g s (bf 0 N) (E 0 v) (C 0)=.ok (.nx (E n v')) (C n):=by
 have hl:(bf 0 N).length=n:=by rw[fG];omega
 have:=pU (st:=λ_=>True) C E (bf 0 N) 0 v (λ_ _=>trivial) (λi x hx v=>by
  obtain⟨h1,rfl⟩:=B4 hx;rw[alz,Int.zero_add];exact h i (by omega) v)
 rwa[hl,alz]at this
theorem El{c:aa}{l:List D}{i:Int}{j:Nat}{d:D}(hi:i=j) (h:l[j]? = ζ d):aF (.ref c.length) (.int i) (c++[.lst l])=.ok d (c++[.lst l]):=by
 subst hi;unfold aF gw;simp only[aom];have:=gQ (xs:=l) (j:=j) (v:=d) h;rw[this]
theorem Jr{c:aa}{l:List D}{i:Int}{j:Nat}{d:D}(hi:i=j) (h:j<l.length) (hd:noRef d=Ξ):kT (.ref c.length) (.int i) d (c++[.lst l])=.ok () (c++[.lst (l.set j d)]):=by
 subst hi;unfold kT;simp[fM,h,hd]
def allInts:List π->Option (List Int)
 |[]=>ζ []
 |e::r=>match e with
  |.Constant (.int i) _ _=>(allInts r).map (i :: ·)
  |_=>η
def fk(l:List Int):aj:=λ_ c=>.ok (l.map D.int) c
theorem nF{X:Cx}:∀{es:List π}{l:List Int},allInts es=ζ l->fq X es (fk l)
 |[],l,h=>by cases h;exact az
 |e::es,l,h=>by
  unfold allInts at h;split at h
  ·rename_i i j pos;cases q:allInts es with
   |none=>rw[q]at h;cases h
   |some r =>
    rw[q]at h;cases h;exact ay aR (nF q) (b7 rfl)
  ·cases h
@[simp] theorem x_ints(l:List Int) (e:Ev) (c:aa):fk l e c=.ok (l.map D.int) c:=rfl
abbrev Up(l:List Nat):Prop:=l.Pairwise (· < ·)
theorem getD_list(xs:Array Nat) (i d:Nat):xs.getD i d=xs.toList.getD i d:=by
 simp[apq,alg]
theorem xG{l:List Nat}(h:Up l) {i k:Nat}(hik:i<k) (hk:k<l.length):l.getD i 0<l.getD k 0:=by
 have:=aon.mp h i k (by omega) hk hik
 simpa[alg,ak7 hk,ak7 (show i<l.length by omega)]using this
def Parts(l:List Nat) (j p:Nat):Prop:=p<=l.length/\(∀i,i<p->l.getD i 0<j)/\∀i,p<=i->i<l.length->j<=l.getD i 0
theorem Hv{xs:Array Nat}{j:Nat}(h:Up xs.toList):∀fuel lo hi,lo<=hi->hi<=xs.toList.length->hi-lo<=fuel->(∀i,i<lo->xs.toList.getD i 0<j)->(∀i,hi<=i->i<xs.toList.length->j<=xs.toList.getD i 0) ->
  Parts xs.toList j (SetTable.below.go xs j fuel lo hi)
 |0,lo,hi,h1,h2,h3,h4,h5=>⟨by unfold SetTable.below.go;omega,λi hi'=>h4 i (by unfold SetTable.below.go at hi';exact hi'),λi hi'=>h5 i (by unfold SetTable.below.go at hi';omega)⟩
 |fuel+1,lo,hi,h1,h2,h3,h4,h5=>by
  unfold SetTable.below.go
  by_cases hl:lo<hi
  ·rw[if_pos hl];dsimp only;have hm:(lo+hi)/2<xs.toList.length:=by omega
   have he:xs.getD ((lo+hi)/2) j=xs.toList.getD ((lo+hi)/2) 0:=by
    rw[getD_list];simp[alg,ak7 hm]
   rw[he]
   by_cases hc:xs.toList.getD ((lo+hi)/2) 0<j
   ·rw[if_pos hc];refine Hv h fuel _ _ (by omega) h2 (by omega) (λi hi'=>?_) h5
    by_cases hq:i=(lo+hi)/2
    ·rw[hq];exact hc
    ·exact aoo (xG h (show i<(lo+hi)/2 by omega) hm) hc
   ·rw[if_neg hc];refine Hv h fuel _ _ (by omega) (by omega) (by omega) h4 (λi hi' hl'=>?_)
    by_cases hq:i=(lo+hi)/2
    ·rw[hq];omega
    ·exact als (by omega) (amr (xG h (show(lo+hi)/2<i by omega) hl'))
  ·rw[if_neg hl];exact⟨by omega,h4,λi hi'=>h5 i (by omega)⟩
theorem A0{xs:Array Nat}(h:Up xs.toList) (j:Nat):Parts xs.toList j (SetTable.below xs j):=by
 unfold SetTable.below;exact Hv h _ _ _ (alV _) (by simp) (by simp) (λi hi=>absurd hi (anD _)) (λi h1 h2=>by simp at h2;omega)
theorem ahQ{xs:Array Nat}(h:Up xs.toList):SetTable.below xs 0=0:=by
 obtain⟨_,h2,_⟩:=A0 h 0
 rcases apr (SetTable.below xs 0)with e|e
 ·exact e
 ·exact absurd (h2 0 e) (anD _)
theorem ahR{xs:Array Nat}(h:Up xs.toList) {i:Nat}(hi:i<xs.toList.length):SetTable.below xs (xs.toList.getD i 0+1)=i+1:=by
 obtain⟨h1,h2,h3⟩:=A0 h (xs.toList.getD i 0+1)
 rcases aop (SetTable.below xs (xs.toList.getD i 0+1)) (i+1)with e|e|e
 ·have:=h3 i (by omega) hi;omega
 ·exact e
 ·have a:=h2 (i+1) e;have b:=xG h (show i<i+1 by omega) (show i+1<xs.toList.length by omega)
  omega
theorem Hu{xs:Array Nat}(h:Up xs.toList) {j:Nat}(hj:j∈xs.toList):xs[SetTable.below xs j]? = ζ j:=by
 obtain⟨i,hi,e⟩:=amJ hj;obtain⟨h1,h2,h3⟩:=A0 h j;have e':xs.toList.getD i 0=j:=by rw[alg,ak7 hi];exact e
 have hp:SetTable.below xs j=i:=by
  rcases aop (SetTable.below xs j) i with q|q|q
  ·have a:=h3 (SetTable.below xs j) (akT _) (by omega)
   have b:=xG h q hi;omega
  ·exact q
  ·have a:=h2 i q;omega
 rw[hp,<-alx,ak7 hi,e]
theorem Iz{xs:Array Nat}(h:Up xs.toList) {j:Nat}(hj:j∉xs.toList):Up (SetTable.insertAt xs (SetTable.below xs j) j).toList:=by
 rw[anE];obtain⟨h1,h2,h3⟩:=A0 h j
 generalize SetTable.below xs j=p at h1 h2 h3
 have ht:∀a∈xs.toList.take p,a<j:=by
  intro a ha;obtain⟨i,hi,e⟩:=amJ ha;have hi':i<p/\i<xs.toList.length:=by simp at hi ⊢;omega
  have:=h2 i hi'.1;rw[apk]at e;rw[alg,ak7 hi'.2]at this
  simpa[<-e]using this
 have hd:∀a∈xs.toList.drop p,j<a:=by
  intro a ha;have hm:a∈xs.toList:=am9 ha;obtain⟨i,hi,e⟩:=amJ ha;have hi':p+i<xs.toList.length:=by simp at hi ⊢;omega
  have:=h3 (p+i) (by omega) hi'
  rw[List.getElem_drop]at e;rw[alg,ak7 hi']at this;have hle:j<=a:=by simpa[<-e]using this
  exact Nat.lt_of_le_of_ne hle λq=>hj (q▸hm)
 refine List.pairwise_append.mpr ⟨h.sublist (an0 _ _),alX.mpr ⟨hd,h.sublist (List.drop_sublist _ _)⟩,λa ha b hb=>?_⟩
 rcases akV.mp hb with rfl|hb
 ·exact ht a ha
 ·exact aoo (ht a ha) (hd b hb)
theorem Cg:∀(n:Nat) (l:List Nat),(∀j,j<n->j∈l)->n<=l.length
 |0,_,_=>alV _
 |n+1,l,h=>by
  have hn:=h n (al6 _);have:=Cg n (l.erase n) λj hj=>(aoq (by omega)).mpr (h j (by omega))
  rw[aor hn]at this;have:=aps hn;omega
def gj(mask:Nat):Nat->Nat->Nat->Nat->Nat->Nat->Bool
 |0,_,_,_,_,_=>ξ
 |n+1,j,more,i,q,acc =>
  if acc |||(1 <<< j)=2^(mask+1)-1 then Ξ
  else if more>0 then gj mask n (j+1) (more-1) i q (acc |||(1 <<< j))
  else gj mask n ((i*5+1+q/32) % (mask+1)) (SetTable.runEnd mask ((i*5+1+q/32) % (mask+1))-(i*5+1+q/32) % (mask+1)) ((i*5+1+q/32) % (mask+1)) (q/32) (acc |||(1 <<< j))
def AU(mask:Nat):Bool:=(θ 128).all λh=>gj mask (10*(mask+15)) (h % (mask+1)) (SetTable.runEnd mask (h % (mask+1))-h % (mask+1)) (h % (mask+1)) h 0
def om(mask:Nat):Nat->Nat->Nat->Nat->Bool
 |0,_,_,_=>ξ
 |n+1,i,q,acc =>
  if acc |||((2^(SetTable.runEnd mask i+1-i)-1) <<< i)=2^(mask+1)-1 then Ξ
  else om mask n ((i*5+1+q/32) % (mask+1)) (q/32) (acc |||((2^(SetTable.runEnd mask i+1-i)-1) <<< i))
def Gx(mask:Nat):Bool:=(θ 128).all λh=>om mask (mask+15) (h % (mask+1)) h 0
theorem ag1:AU 7=Ξ:=by decide +kernel
theorem ag2:AU 31=Ξ:=by decide +kernel
theorem ag3:AU 127=Ξ:=by decide +kernel
theorem agZ:Gx 31=Ξ:=by decide +kernel
theorem ag0:Gx 127=Ξ:=by decide +kernel
theorem AZ(acc j k:Nat):(acc |||(1 <<< j)).testBit k=(acc.testBit k||decide (k=j)):=by
 rw[Nat.testBit_or,Nat.one_shiftLeft,Nat.testBit_two_pow]
 by_cases h:j=k
 ·subst h;simp
 ·simp[h,alP h]
theorem AS{mask:Nat}:∀n j more i q acc,gj mask n j more i q acc=Ξ->∀k,acc.testBit k=Ξ->k<=mask
 |0,_,_,_,_,_,h,_,_=>by cases h
 |n+1,j,more,i,q,acc,h,k,hk=>by
  have hk':(acc |||(1 <<< j)).testBit k=Ξ:=by rw[AZ,hk];rfl
  unfold gj at h;split at h
  ·rename_i e;rw[e,amK]at hk';have:=of_decide_eq_true hk';omega
  ·split at h
   ·exact AS _ _ _ _ _ _ h k hk'
   ·exact AS _ _ _ _ _ _ h k hk'
theorem BN{t:aae}(hd:t.dummies=#[]) (j:Nat):t.slot j=.empty\/∃i,t.slot j=.live i:=by
 unfold SetTable.slot;dsimp only;split
 ·exact .inr ⟨_,rfl⟩
 ·rw[hd];exact .inl rfl
theorem ET{t:aae}{h:Int}(hd:t.dummies=#[]):∀n (p:SetTable.Probe) acc fuel,gj t.mask n p.j p.more p.i p.perturb acc=Ξ->p.dummy=η->n<=fuel ->
  (∀k,acc.testBit k=Ξ->t.slot k≠.empty)->(∃j,j<=t.mask/\t.slot j=.empty) ->
  ∃j,SetTable.probe.go t (λ_=>h+1) h fuel p=ζ (.empty j η)/\t.slot j=.empty/\j<=t.mask
 |0,_,_,_,h,_,_,_,_=>by simp[gj]at h
 |n+1,p,acc,0,_,_,h,_,_=>by omega
 |n+1,p,acc,fuel+1,hc,hn,hf,ha,hj=>by
  have hle:p.j<=t.mask:=by
   have hk':(acc |||(1 <<< p.j)).testBit p.j=Ξ:=by rw[AZ];simp
   unfold gj at hc;split at hc
   ·rename_i e;rw[e,amK]at hk';have:=of_decide_eq_true hk';omega
   ·split at hc
    ·exact AS _ _ _ _ _ _ hc _ hk'
    ·exact AS _ _ _ _ _ _ hc _ hk'
  unfold SetTable.probe.go
  rcases BN hd p.j with e|⟨i,e⟩
  ·rw[e];dsimp only;exact⟨p.j,by rw[hn],e,hle⟩
  ·rw[e];dsimp only;have hne:(h+1==h)=ξ:=by simp;omega
   rw[hne];simp only[aly,if_false];have ha':∀k,(acc |||(1 <<< p.j)).testBit k=Ξ->t.slot k≠.empty:=by
    intro k hk;rw[AZ,am0,decide_eq_true_eq]at hk
    rcases hk with hk|rfl
    ·exact ha k hk
    ·rw[e];intro q;cases q
   unfold gj at hc;split at hc
   ·rename_i ef;obtain⟨j0,h0,e0⟩:=hj;exact absurd e0 (ha' j0 (by rw[ef,amK];exact decide_eq_true (by omega)))
   ·split at hc
    ·rename_i hm;have pR:t.advance p={p with j:=p.j+1,more:=p.more-1}:=by unfold SetTable.advance;rw[if_pos hm]
     rw[pR];exact ET hd n _ _ fuel hc hn (by omega) ha' hj
    ·rename_i hm;have pR:t.advance p={p with j:=(p.i*5+1+p.perturb/32) % (t.mask+1),more:=SetTable.runEnd t.mask ((p.i*5+1+p.perturb/32) % (t.mask+1))-(p.i*5+1+p.perturb/32) % (t.mask+1),i:=(p.i*5+1+p.perturb/32) % (t.mask+1),perturb:=p.perturb/32}:=by
      unfold SetTable.advance;rw[if_neg hm];rfl
     rw[pR];exact ET hd n _ _ fuel hc hn (by omega) ha' hj
theorem O4{n:Nat}(h:n<128):SetTable.bits (n:Int)=n:=by
 unfold SetTable.bits;have:((n:Int) % (2^64:Int))=n:=apt (by omega) (by omega)
 rw[this];rfl
def pG(m:Nat):Prop:=m=7\/m=31\/m=127
theorem agX{m:Nat}(h:pG m) {n:Nat}(hn:n<128):gj m (10*(m+15)) (n % (m+1)) (SetTable.runEnd m (n % (m+1))-n % (m+1)) (n % (m+1)) n 0=Ξ:=by
 have:AU m=Ξ:=h.elim (λe=>e▸ag1) λh=>h.elim (λe=>e▸ag2) λe=>e▸ag3
 exact ak0.mp this n (akY.mpr hn)
theorem aeG{t:aae}{n:Nat}(hd:t.dummies=#[]) (hm:pG t.mask) (hn:n<128) (hs:t.place.toList.length<=t.mask) (hu:Up t.place.toList) :
  ∃j,t.freeSlot (n:Int)=ζ (j,ξ)/\j∉t.place.toList/\j<=t.mask:=by
 have hmem:∀j,t.slot j=.empty->j∉t.place.toList:=by
  intro j e hj;unfold SetTable.slot at e;dsimp only at e;rw[Hu hu hj]at e;simp at e
 have adS:∀j,j∉t.place.toList->t.slot j=.empty:=by
  intro j hj
  rcases BN hd j with e|⟨i,e⟩
  ·exact e
  ·unfold SetTable.slot at e;dsimp only at e;split at e
   ·rename_i q;have:=eq_of_beq q;rw[<-alx]at this;exact absurd (alv this) hj
   ·split at e<;>cases e
 have hex:∃j,j<=t.mask/\t.slot j=.empty:=by
  by_cases q:∃j,j<=t.mask/\j∉t.place.toList
  ·obtain⟨j,a,b⟩:=q;exact⟨j,a,adS j b⟩
  ·have:=Cg (t.mask+1) t.place.toList λj hj=>anF λx=>q ⟨j,by omega,x⟩
   omega
 have hb:=O4 hn;obtain⟨j,e,e1,e2⟩:=ET (t:=t) (h:=(n:Int)) hd (10*(t.mask+15)) (t.probeStart n) 0 (10*SetTable.turns t.mask)
  (by show gj _ _ (SetTable.bits n % _) (SetTable.runEnd t.mask (SetTable.bits n % (t.mask+1))-SetTable.bits n % (t.mask+1)) (SetTable.bits n % _) (SetTable.bits n) _=Ξ;rw[hb];exact agX hm hn) rfl (akT _) (λk hk=>by simp at hk) hex
 refine⟨j,?_,hmem j e1,e2⟩;unfold SetTable.freeSlot SetTable.probe;rw[e];rfl
theorem UH(c i k:Nat):((2^c-1) <<< i).testBit k=decide (i<=k/\k<i+c):=by
 rw[Nat.testBit_shiftLeft,amK]
 by_cases h:i<=k
 ·simp only[ge_iff_le,h,decide_true,aos,true_and];exact decide_eq_decide.mpr (by omega)
 ·simp[h]
theorem CZ{mask:Nat}{owner:Array (Option Nat)}:∀n i q acc fuel,om mask n i q acc=Ξ->n<=fuel->(∀k,k<=mask->acc.testBit k=Ξ->owner.getD k (ζ 0)≠η) ->
  (∃j,j<=mask/\owner.getD j (ζ 0)=η)->∃j,SetTable.layClean.free mask owner fuel i q=ζ j/\owner.getD j (ζ 0)=η
 |0,_,_,_,_,h,_,_,_=>by simp[om]at h
 |n+1,i,q,acc,0,_,h,_,_=>by omega
 |n+1,i,q,acc,fuel+1,hc,hf,ha,hj=>by
  unfold SetTable.layClean.free;cases hr:(θ (SetTable.runEnd mask i+1-i)).find? (λk=>(owner.getD (i+k) (ζ 0)).isNone)with
  |some k =>
   dsimp only;have:=List.find?_some hr;exact⟨i+k,rfl,by simpa using this⟩
  |none =>
   dsimp only;have hno:=apu.mp hr;have ha':∀k,k<=mask->(acc |||((2^(SetTable.runEnd mask i+1-i)-1) <<< i)).testBit k=Ξ->owner.getD k (ζ 0)≠η:=by
    intro k hk hb;rw[Nat.testBit_or,UH,am0,decide_eq_true_eq]at hb
    rcases hb with hb|hb
    ·exact ha k hk hb
    ·intro e;have:=hno (k-i) (akY.mpr (by omega))
     rw[show i+(k-i)=k by omega,e]at this
     exact this rfl
   unfold om at hc;split at hc
   ·rename_i ef;obtain⟨j0,h0,e0⟩:=hj;exact absurd e0 (ha' j0 h0 (by rw[ef,amK];exact decide_eq_true (by omega)))
   ·exact CZ n _ _ _ fuel hc (by omega) ha' hj
def jh(m:Nat):Prop:=m=31\/m=127
theorem agY{m:Nat}(h:jh m) {n:Nat}(hn:n<128):om m (m+15) (n % (m+1)) n 0=Ξ:=by
 have:Gx m=Ξ:=h.elim (λe=>e▸agZ) λe=>e▸ag0
 exact ak0.mp this n (akY.mpr hn)
theorem EZ:∀(l:List (Option Nat)) (j k:Nat),j<l.length->l.getD j (ζ 0)=η->((l.set j (ζ k)).filterMap id).Perm (k::l.filterMap id)
 |[],_,_,h,_=>absurd h (anD _)
 |x::l,0,k,_,e=>by
  have:x=η:=by simpa using e
  subst this;simp
 |x::l,j+1,k,h,e=>by
  have ih:=EZ l j k (by simpa using h) (by simpa using e)
  rw[amf];cases x with
  |none=>simpa using ih
  |some a =>
   simp only[amC,id];exact(ih.cons a).trans (List.Perm.swap _ _ _)
theorem E4:∀(l:List (Option Nat)),(∀j,j<l.length->l.getD j (ζ 0)≠η)->(l.filterMap id).length=l.length
 |[],_=>rfl
 |x::l,h=>by
  cases x with
  |none=>exact absurd rfl (h 0 (by simp))
  |some a =>
   have:=E4 l λj hj=>by simpa using h (j+1) (by simpa using hj)
   simp[this]
def qq(mask:Nat) (owner:Array (Option Nat)) (k:Nat):Prop:=owner.toList.length=mask+1/\(owner.toList.filterMap id).Perm (θ k)
theorem jm(xs:Array (Option Nat)) (i:Nat) (d:Option Nat):xs.getD i d=xs.toList.getD i d:=by
 simp[apq,alg]
theorem abt{mask:Nat}{owner:Array (Option Nat)}{k n:Nat}(hm:jh mask) (hn:n<128) (I:qq mask owner k) (hk:k<=mask) :
  ∃j,SetTable.layClean.free mask owner (SetTable.turns mask) (SetTable.bits n % (mask+1)) (SetTable.bits n)=ζ j/\qq mask (owner.setIfInBounds j (ζ k)) (k+1):=by
 obtain⟨h1,h2⟩:=I;have hex:∃j,j<=mask/\owner.getD j (ζ 0)=η:=by
  by_cases q:∃j,j<=mask/\owner.getD j (ζ 0)=η
  ·exact q
  ·have:=E4 owner.toList λj hj e=>q ⟨j,by omega,by rw[jm];exact e⟩
   have h3:=h2.length_eq;rw[alN]at h3;omega
 obtain⟨j,e,e1⟩:=CZ (mask+15) _ _ 0 (SetTable.turns mask) (agY hm hn) (akT _) (λk _ hb=>by simp at hb) hex
 refine⟨j,by rw[O4 hn];exact e,by simpa using h1,?_⟩
 rw[jm]at e1;have hj:j<owner.toList.length:=by
  rcases anG j owner.toList.length with q|q
  ·exact q
  ·rw[alg,amw q]at e1;cases e1
 rw[anH];refine(EZ _ j k hj e1).trans ?_;rw[amg];exact(h2.cons k).trans (aot k _).symm
theorem Lw{mask:Nat}(hm:jh mask):∀(hs:List Int) (owner:Array (Option Nat)) (k:Nat),(∀h∈hs,∃n:Nat,h=n/\n<128)->qq mask owner k->k+hs.length<=mask ->
  ∃ow,hs.foldl (λacc h=>(do
   let(owner,k) <-acc
   let j <-SetTable.layClean.free mask owner (SetTable.turns mask) (SetTable.bits h % (mask+1)) (SetTable.bits h)
   pure (owner.setIfInBounds j (ζ k),k+1):Option (Array (Option Nat)×Nat))) (ζ (owner,k))=ζ (ow,k+hs.length)/\qq mask ow (k+hs.length)
 |[],owner,k,_,I,_=>⟨owner,rfl,I⟩
 |h::hs,owner,k,hh,I,hl=>by
  obtain⟨n,e,hn⟩:=hh h (.head _);subst e;simp only[ak4]at hl;obtain⟨j,e,I'⟩:=abt hm hn I (by omega)
  obtain⟨ow,e',HR⟩:=Lw hm hs _ (k+1) (λh x=>hh h (.tail _ x)) I' (by omega)
  refine⟨ow,?_,by rw[ak4,show k+(hs.length+1)=k+1+hs.length by omega];exact HR⟩
  rw[aml,ak4,show k+(hs.length+1)=k+1+hs.length by omega,<-e']
  congr 1
  show(do let j <-SetTable.layClean.free mask owner (SetTable.turns mask) (SetTable.bits n % (mask+1)) (SetTable.bits n);pure (owner.setIfInBounds j (ζ k),k+1):Option (Array (Option Nat)×Nat))=_
  rw[e];rfl
theorem abv{mask:Nat}(hm:jh mask) (hs:Array Int) (hh:∀h∈hs.toList,∃n:Nat,h=n/\n<128) (hl:hs.toList.length<=mask) :
  ∃ow,SetTable.layClean mask hs=ζ ow/\qq mask ow hs.toList.length:=by
 obtain⟨ow,e,I⟩:=Lw hm hs.toList (Array.replicate (mask+1) η) 0 hh ⟨by simp,by simp⟩ (by omega)
 rw[alz]at e I;refine⟨ow,?_,I⟩;unfold SetTable.layClean;rw[<-apv];exact congrArg (Option.map (λx:Array (Option Nat)×Nat=>x.1)) e
theorem Ca(l:List (Option Nat)):(θ l.length).filterMap (λj=>l.getD j η)=l.filterMap id:=by
 have:l=(θ l.length).map (λj=>l.getD j η):=by
  apply aou
  ·simp
  ·intro i h1 h2;simp[alg,ak7 h1]
 conv=>rhs;rw[this]
 rw[ao7];rfl
theorem abE{mask:Nat}(hm:jh mask) (f mv:Nat) (led plain:Bool) (hs:Array Int) (hh:∀h∈hs.toList,∃n:Nat,h=n/\n<128) (hl:hs.toList.length<=mask) :
  ∃place order,SetTable.laid mask f mv led plain hs=ζ ({mask:=mask,place:=place,dummies:=#[],finger:=f,led:=led,moves:=mv,plain:=plain},order)/\Up place.toList/\(∀j∈place.toList,j<=mask)/\place.size=hs.size/\order.toList.Perm (θ hs.size):=by
 obtain⟨ow,e,h1,h2⟩:=abv hm hs hh hl;refine⟨(((θ (mask+1)).filterMap λj=>(ow.getD j η).map (j,·)).map (·.1)).toArray,(((θ (mask+1)).filterMap λj=>(ow.getD j η).map (j,·)).map (·.2)).toArray,?_,?_,?_,?_,?_⟩
 ·unfold SetTable.laid;rw[e];rfl
 ·show Up ((((θ (mask+1)).filterMap λj=>(ow.getD j η).map (j,·)).map (·.1)).toArray).toList
  show List.Pairwise _ _;rw[amx];refine apw _ (λa a' hlt b hb b' hb'=>?_) aov
  cases ha:ow.getD a η<;>rw[ha]at hb<;>simp at hb
  cases ha':ow.getD a' η<;>rw[ha']at hb'<;>simp at hb'
  rw[<-hb,<-hb'];exact hlt
 ·intro j hj;simp only[akW,amU,akY]at hj;obtain⟨⟨a,b⟩,⟨c,hc,hq⟩,rfl⟩:=hj;cases ha:ow.getD c η<;>rw[ha]at hq<;>simp at hq
  obtain⟨rfl,_⟩:=hq;omega
 ·have:((θ (mask+1)).filterMap λj=>(ow.getD j η).map (j,·)).length=(ow.toList.filterMap id).length:=by
   rw[<-Ca,h1,<-ak6 (f:=Prod.snd),aow]
   congr 1
   congr 1
   funext j
   rw[jm];cases ow.toList.getD j η<;>rfl
  rw[ak1,ak6,this,h2.length_eq,alN];simp
 ·show(((θ (mask+1)).filterMap λj=>(ow.getD j η).map (j,·)).map (·.2)).Perm _
  have:(((θ (mask+1)).filterMap λj=>(ow.getD j η).map (j,·)).map (·.2))=ow.toList.filterMap id:=by
   rw[<-Ca,h1,aow]
   congr 1
   funext j
   rw[jm];cases ow.toList.getD j η<;>rfl
  rw[this]
  simpa using h2
structure oE (t:aae) (n:Nat):Prop where
 size:t.place.size=n
 up:Up t.place.toList
 le:∀j∈t.place.toList,j<=t.mask
 dm:t.dummies=#[]
 mask:(t.mask=7/\n<=4)\/(t.mask=31/\n<=18)\/(t.mask=127/\n<=76)
 plain:t.plain=Ξ
theorem oE.fits{t:aae}{n:Nat}(h:oE t n):t.fits n=Ξ:=by
 have:=h.mask;simp only[SetTable.fits,SetTable.fill,h.size,h.dm,ak9,beq_self_eq_true,true_and,decide_eq_true_eq];simp only[ak1,ali];omega
theorem RK(led:Bool):oE (.fresh 0 0 led) 0:=⟨rfl,.nil,λj h=>by simp[SetTable.fresh]at h,rfl,.inl ⟨rfl,by omega⟩,rfl⟩
def HS(es:List (Int×Θ)):Prop:=∀e∈es,∃n:Nat,e.1=n/\n<128
theorem abu{t:aae}{es:Array (Int×Θ)}{x:Θ}{m:Nat}(I:oE t es.size) (hm:m<128) (hn:es.size<64) :
  ∃es1 t1,layNew t es (m:Int) x=(es1,t1,ξ,ξ)/\es1.size=es.size+1/\t1.led=t.led/\t1.plain=Ξ/\t1.place.size=es1.size/\Up t1.place.toList/\(∀j∈t1.place.toList,j<=t1.mask)/\t1.dummies=#[]/\t1.mask=t.mask/\t1.fits es1.size=Ξ:=by
 have hk:=I.mask;have hok:pG t.mask:=by unfold pG;omega
 have hsz:=I.size;obtain⟨j,e,h1,h2⟩:=aeG (t:=t) I.dm hok hm (by simp[hsz];omega) I.up
 have hnd:(if SetTable.has t.dummies j then SetTable.eraseAt t.dummies (SetTable.below t.dummies j)else t.dummies)=#[]:=by
  rw[I.dm];rfl
 have hs1:(SetTable.insertAt es (SetTable.below t.place j) ((m:Int),x)).size=es.size+1:=by
  rw[<-ale,(amL ..).length_eq];simp
 have hs2:(SetTable.insertAt t.place (SetTable.below t.place j) j).size=es.size+1:=by
  rw[<-ale,(amL ..).length_eq];simp[hsz]
 have hfit:(t.put j).1.fits (es.size+1)=Ξ:=by
  simp only[SetTable.put,SetTable.fits,SetTable.fill,hnd,hs2,ak9,beq_self_eq_true,true_and,decide_eq_true_eq];simp only[ak1,ali];omega
 refine⟨SetTable.insertAt es (SetTable.below t.place j) ((m:Int),x),(t.put j).1,?_,hs1,rfl,I.plain,?_,?_,?_,hnd,rfl,?_⟩
 ·unfold layNew;rw[e];dsimp only;have hp:(t.put j).2=SetTable.below t.place j:=rfl;rw[hp,hs1];unfold SetTable.orStandIn;rw[hfit];rfl
 ·rw[hs1];exact hs2
 ·exact Iz I.up h1
 ·intro k hk';have:k∈(t.place.push j).toList:=(amL t.place (SetTable.below t.place j) j).mem_iff.mp hk';rw[anI,alj,alw]at this
  rcases this with q|rfl
  ·exact I.le k q
  ·exact h2
 ·rw[hs1];exact hfit
theorem US{t:aae}{es:Array (Int×Θ)}(hp:t.plain=Ξ) (hh:HS es.toList) (hm:(t.mask=7/\es.size=5)\/(t.mask=31/\es.size=19)) :
  ∃jO t2,relayAll t es (SetTable.grown es.size)=(jO,t2,ξ)/\jO.size=es.size/\oE t2 jO.size/\t2.led=t.led:=by
 have hw:∃m,SetTable.sizeAbove (SetTable.grown es.size)-1=m/\((m=31/\es.size=5)\/(m=127/\es.size=19)):=by
  rcases hm with⟨_,e⟩|⟨_,e⟩
  ·rw[e];exact⟨31,by decide,.inl ⟨rfl,rfl⟩⟩
  ·rw[e];exact⟨127,by decide,.inr ⟨rfl,rfl⟩⟩
 obtain⟨m,ew,hq⟩:=hw;have hs:(es.map (·.1)).toList=es.toList.map (·.1):=by simp
 obtain⟨place,order,e,u1,u2,u3,u4⟩:=abE (mask:=m) (by unfold jh;omega) t.finger (t.movedTo m) t.led t.plain (es.map (·.1)) (λh hx=>by
  rw[hs,akW]at hx;obtain⟨y,hy,rfl⟩:=hx;exact hh y hy) (by rw[hs,ak6,ale];omega)
 rw[Array.size_map]at u3 u4;have hes:(order.filterMap (es[·]?)).size=es.size:=by
  rw[<-ale,aox];exact((u4.filterMap _).trans (by rw[apx])).length_eq
 have hfit:SetTable.fits {mask:=m,place:=place,dummies:=#[],finger:=t.finger,led:=t.led,moves:=t.movedTo m,plain:=t.plain} es.size=Ξ:=by
  simp only[SetTable.fits,SetTable.fill,u3,ak9,beq_self_eq_true,true_and,decide_eq_true_eq];simp only[ak1,ali];omega
 refine⟨order.filterMap (es[·]?),{mask:=m,place:=place,dummies:=#[],finger:=t.finger,led:=t.led,moves:=t.movedTo m,plain:=t.plain},?_,hes,?_,?_⟩
 rotate_left
 ·rw[hes];exact⟨u3,u1,u2,rfl,.inr (by show(m=31/\_)\/(m=127/\_);omega),hp⟩
 ·rfl
 ·unfold relayAll SetTable.relaid;rw[ew,e];dsimp only;rw[hes,hfit];have hc:coversAll order es.size=Ξ:=by unfold coversAll;exact List.isPerm_iff.mpr u4
  rw[hc];rfl
theorem aeB{t t1:aae}{n:Nat}(I:oE t n) (hm:t1.mask=t.mask) (hs:t1.place.size=n+1) (hd:t1.dummies=#[]) (hn:n<64) :
  (t1.tooFull=Ξ->(t1.mask=7/\n+1=5)\/(t1.mask=31/\n+1=19))/\(t1.tooFull=ξ->((t1.mask=7/\n+1<=4)\/(t1.mask=31/\n+1<=18)\/(t1.mask=127/\n+1<=76))):=by
 have hk:=I.mask;have hz:(#[]:Array Nat).size=0:=rfl;simp only[SetTable.tooFull,SetTable.fill,hs,hd,hm,hz,decide_eq_true_eq,decide_eq_false_iff_not];omega
theorem Mz{n:Nat}(h:n<128):hashInt (n:Int)=n:=by
 have:((θ 128).all λn=>hashInt (n:Int)==(n:Int))=Ξ:=by decide +kernel
 exact eq_of_beq (ak0.mp this n (akY.mpr h))
def gC(w:ψ):Bool:=w.params.followText "set-order"
def gv(ns:List Nat) (x:Nat):List Nat:=if x∈ns then ns else ns++[x]
def gR(l:List (Int×Θ)) (ns:List Nat):Prop:=(l.map (·.1)).Perm (ns.map λn:Nat=>(n:Int))/\∀e∈l,∃(n:Nat) (tk:Tok),e=((n:Int),.int n tk)/\n<128
def g8(w:ψ) (h:χ) (a:Ω) (ns:List Nat):Prop:=∃o es ep t,h.get? a=ζ o/\o.ExactSet/\o.data=.set es ep t/\oE t es.size/\t.led = !gC w/\gR es.toList ns
theorem gR.hs{l:List (Int×Θ)}{ns:List Nat}(h:gR l ns):HS l:=λe he=>by
 obtain⟨n,tk,rfl,hn⟩:=h.2 e he;exact⟨n,rfl,hn⟩
theorem gR.len{l:List (Int×Θ)}{ns:List Nat}(h:gR l ns):l.length=ns.length:=by
 have:=h.1.length_eq;simpa using this
theorem gR.mem{l:List (Int×Θ)}{ns:List Nat}(h:gR l ns) (n:Nat):n∈ns↔∃e∈l,e.1=(n:Int):=by
 constructor
 ·intro hn;have:(n:Int)∈l.map (·.1):=h.1.mem_iff.mpr (akW.mpr ⟨n,hn,rfl⟩);obtain⟨e,he,q⟩:=akW.mp this;exact⟨e,he,q⟩
 ·rintro ⟨e,he,q⟩
  have:(n:Int)∈ns.map (λn:Nat=>(n:Int)):=h.1.mem_iff.mp (akW.mpr ⟨e,he,q⟩)
  obtain⟨m,hm,r⟩:=akW.mp this;have:m=n:=by omega
  exact this▸hm
theorem gR.perm{l l':List (Int×Θ)}{ns:List Nat}(h:gR l ns) (p:l'.Perm l):gR l' ns:=⟨(p.map _).trans h.1,λe he=>h.2 e (p.mem_iff.mp he)⟩
theorem gR.push{l:List (Int×Θ)}{ns:List Nat}(h:gR l ns) {m:Nat}(hm:m<128) (tk:Tok):gR (l++[((m:Int),.int m tk)]) (ns++[m]):=by
 refine⟨?_,λe he=>?_⟩
 ·rw[alU,alU];exact h.1.append_right _
 ·rcases alj.mp he with he|he
  ·exact h.2 e he
  ·rw[alw]at he;exact⟨m,tk,he,hm⟩
section
variable {prog:τ}{w:ψ}{A:ω}{E:Θ->ε->Prop}{s:ε}
theorem gR.els{l:List (Int×Θ)}{ns:List Nat}(h:gR l ns):ElemsOf (intKind prog w) l:=λe he=>by
 obtain⟨n,tk,rfl,hn⟩:=h.2 e he;exact⟨⟨n,by simp[intKind,Value.isInt],(Mz hn).symm⟩,rfl⟩
theorem yh{h:χ}{a:Ω}{o:Obj}{es es':Array (Int×Θ)}{ep:Nat}{t t':aae}(ho:h.get? a=ζ o) (hd:o.data=.set es ep t) :
  (h.update a (Obj.putSet es' t')).get? a=ζ {o with data:=.set es' (ep+1) t'}:=by
 have:=amY (Obj.putSet es' t') ho (by rw[putSet_of es' t' hd];rfl)
 rwa[putSet_of es' t' hd]at this
theorem Ud{a:Ω}{ns:List Nat}{m:Nat}{tk:Tok}{Q:Bool->ε->Prop}(hm:m<128) (hS:g8 w s.heap a ns) (hn:ns.length<64)
  (h:∀b h',adi a s.heap h'->g8 w h' a (gv ns m)->Q b {s with heap:=h'}):wpAny (model prog w) A (setAddHashed a (.int m tk) (hashInt m)) Q E s:=by
 obtain⟨o,es,ep,t,ho,hex,hd,hI,hl,hs⟩:=hS;have hsz:es.size=ns.length:=by rw[<-ale];exact hs.len
 have hel:ElemsOf (intKind prog w) es.toList:=hs.els;have hkey:(intKind prog w).is (m:Int) (.int m tk)=Ξ:=by simp[intKind,Value.isInt]
 unfold setAddHashed setAddHashedIn;refine alJ (akR (amh ho hd hI.fits ?_));dsimp only;rw[byScan_of (knd:=intKind prog w) rfl (by unfold scanBound;omega) hel]
 simp only[↓reduceIte];unfold setAddByScan;refine akR (akR (am2 (akR (wpAny_setScan_of (knd:=intKind prog w) hkey ho hd hI.fits hel ?_))));have hfind:∀e∈es.toList,(intKind prog w).is (m:Int) e.2=Ξ->e.1=(m:Int):=λe he q=>by
  obtain⟨n,tk',rfl,_⟩:=hs.2 e he;obtain⟨t',q⟩:=anh (show Value.isInt (m:Int) (.int (n:Int) tk')=Ξ from q)
  injection q
 cases hr:es.toList.findIdx? (λe=>(intKind prog w).is (m:Int) e.2)with
 |some j =>
  dsimp only;obtain⟨hj,hpj,_⟩:=apn.mp hr;have hmem:m∈ns:=(hs.mem m).mpr ⟨_,alH hj,hfind _ (alH hj) hpj⟩;refine akS (akS ?_);exact h ξ s.heap (Heap.SameBut.refl a s.heap) (by unfold gv;rw[if_pos hmem];exact⟨o,es,ep,t,ho,hex,hd,hI,hl,hs⟩)
 |none =>
  dsimp only;have hmem:m∉ns:=λhq=>by
   obtain⟨e,he,q⟩:=(hs.mem m).mp hq;have:=List.findIdx?_eq_none_iff.mp hr e he;obtain⟨n,tk',rfl,_⟩:=hs.2 e he;have e:n=m:=by dsimp only at q;omega
   subst e;simp[intKind,Value.isInt]at this
  have hst:gv ns m=ns++[m]:=by unfold gv;rw[if_neg hmem]
  rw[hst]at h;rw[Mz hm];have sL:=layNew_perm t es (m:Int) (.int m tk);obtain⟨es1,t1,e1,q1,q2,q3,q4,q5,q6,q7,q8,q9⟩:=abu (x:=.int m tk) hI hm (by omega)
  rw[e1]at sL ⊢;dsimp only at sL ⊢;rw[anI]at sL;have hs1:gR es1.toList (ns++[m]):=(hs.push hm tk).perm sL;refine akR (akS ?_);rw[q3];simp only[↓reduceIte];refine akR ?_;rw[aoy 8 (x:=.int m tk) rfl];refine akS ?_;dsimp only[plainKind];simp only[↓reduceIte];refine akR (anJ ho hd ?_ (fits_of_scanBound (by unfold scanBound;omega)))
  have nW:=yh (es':=es1) (t':=t1) ho hd;have iR:=ame s.heap a (Obj.putSet es1 t1);have hcs:=aeB hI q8 (q4.trans q1) q7 (by omega)
  cases hf:t1.tooFull with
  |false =>
   simp only[ana,aob,aly,↓reduceIte];refine akS (akS (h Ξ _ iR ⟨_,es1,ep+1,t1,nW,hex,rfl,⟨q4,q5,q6,q7,?_,q3⟩,q2.trans hl,hs1⟩));rw[q1];exact hcs.2 hf
  |true =>
   simp only[ana,Bool.and_self,↓reduceIte];have hp2:=relayAll_perm t1 es1 (SetTable.grown es1.size);obtain⟨jO,t2,e2,r1,r2,r3⟩:=US q3 hs1.hs (by rw[q1];exact hcs.1 hf)
   rw[e2]at hp2 ⊢;dsimp only at hp2 ⊢;refine akR (akS ?_);refine akR (anJ nW rfl ?_ (fits_of_scanBound (by unfold scanBound;omega)))
   exact akS (akS (h Ξ _ (iR.trans (ame _ a _)) ⟨_,jO,ep+1+1,t2,yh nW rfl,hex,rfl,r2,r3.trans (q2.trans hl),hs1.perm hp2⟩))
end
def dM(xs:List Nat):List Nat:=xs.foldl gv []
theorem aeQ{xs:List Nat}{i:Nat}(h:i<xs.length):dM (xs.take (i+1))=gv (dM (xs.take i)) xs[i]:=by
 unfold dM;rw[anK h,anb];rfl
theorem Nc:∀(xs ns:List Nat),ns.length<=(xs.foldl gv ns).length
 |[],ns=>akT _
 |x::xs,ns=>by
  have:=Nc xs (gv ns x);have h:ns.length<=(gv ns x).length:=by unfold gv;split<;>simp
  rw[aml];omega
theorem aeR(xs:List Nat) (i:Nat):(dM (xs.take i)).length<=(dM xs).length:=by
 have:dM xs=(xs.drop i).foldl gv (dM (xs.take i)):=by
  unfold dM;rw[<-anb,amy]
 rw[this];exact Nc _ _
theorem g8.at{w:ψ}{h h':χ}{a:Ω}{ns:List Nat}(x:g8 w h a ns) (k:∀o,h.get? a=ζ o->h'.get? a=ζ o):g8 w h' a ns :=
 let⟨o,es,ep,t,ho,r⟩:=x;⟨o,es,ep,t,k o ho,r⟩
section
variable {prog:τ}{w:ψ}{A:ω}{s:ε}{E:Θ->ε->Prop}
theorem Jq{R:adY->ε->Prop}{I:Ω}{fp wr:List Ω}{G:Array adx->Array adx->Prop}{P:Nat->Θ->Prop}{St:Nat->ε->Prop}{xs:List Nat}
  (W:WalksS prog w A.in1 I fp wr G xs.length P St) (S:Ω) (hSf:S∉fp) (hval:∀(i:Nat) v,(hi:i<xs.length)->P i v->∃t,v=Value.int (xs[i]:Nat) t) (hx:∀x∈xs,x<128) (h64:(dM xs).length<64) :
  ∀(k i:Nat) (s:ε),xs.length-i=k->i<=xs.length->St i s->g8 w s.heap S (dM (xs.take i)) ->
   (∀s',Moved (S::wr) G s s'->g8 w s'.heap S (dM xs)->R (.ok (.ret .none)) s') ->
   codeAny (model prog w) A (.builtin "set.update.loop" ⟨[.ref S,.ref I],[]⟩) R s:=by
 have zI:S∉wr:=λh=>hSf (W.sub _ h)
 have hup:∀b∈wr,b∈S::wr:=λb hb=>.tail _ hb
 intro k
 induction k with
 |zero =>
  intro i s hk hi st hS hR;cases(show i=xs.length by omega)
  refine alW anL ?_;rw[anc amM _];show wpAny _ A.in1 (pyNext (.ref I) >>= _) _ _ s;refine akR (W.done s _ _ st λs' hm=>?_)
  rw[amN]at hS;exact akS (hR s' (hm.mono hup) (hS.at λo e=>hm.heap S _ zI e))
 |succ k ih =>
  intro i s hk hi st hS hR;have hlt:i<xs.length:=by omega
  refine alW anL ?_;rw[anc amM _];show wpAny _ A.in1 (pyNext (.ref I) >>= _) _ _ s;refine akR (W.item i s _ _ hlt st λv s' hP st' hm=>?_)
  obtain⟨t,rfl⟩:=hval i v hlt hP;have hS':g8 w s'.heap S (dM (xs.take i)):=hS.at λo e=>hm.heap S _ zI e
  show wpAny _ A.in1 (holding [Value.int (xs[i]:Nat) t] (setAdd S (.int (xs[i]:Nat) t)) >>= _) _ _ s';refine akR (alJ ?_);unfold setAdd;refine alJ (akR ((intKind prog w).pyHash (k:=(xs[i]:Nat)) (by simp[intKind,Value.isInt]) ?_))
  have hl:(dM (xs.take i)).length<64:=amZ (aeR xs i) h64;refine Ud (s:={s' with toks:=s'.toks+1}) (hx _ (alH hlt)) hS' hl λb h' iR lE=>?_
  rw[<-aeQ hlt]at lE;refine akS ⟨aoz amM _,ih (i+1) _ (by omega) hlt (W.frame _ s' _ _ st' (al5 _) λb hb o e=>?_) lE λs'' EB EK=>?_⟩
  ·rw[iR.2 b (λq:b=S=>hSf (q▸hb))];exact e
  ·refine hR s'' (Moved.trans W.gtrans ((hm.mono hup).then_heap (al5 _) λb o hb e=>?_) EB) EK
   rw[iR.2 b (λq:b=S=>hb (q▸.head _))];exact e
def cS(w:ψ):Obj:={cls:=.type "set",dict:=η,data:=.set #[] 0 (.fresh 0 0 (!gC w))}
theorem Nv(w:ψ) {h:χ}{a:Ω}(e:h.get? a=ζ (cS w)):g8 w h a [] :=
 ⟨_,#[],0,_,e,⟨rfl,rfl,rfl⟩,rfl,RK _,rfl,.refl _,λe he=>by cases he⟩
theorem BR(a:Θ) {Q₁:Θ->ε->Prop}(h:Q₁ (.ref s.heap.objs.size) {s with heap:=s.heap.push (cS w)}) :
  codeAny (model prog w) A (.call (.builtin "set.__new__") ⟨[.type "set",a],[]⟩) (wants Q₁ E) s:=by
 refine anM (show wpAny _ A.in1 (do checkBuiltinCall "set.__new__" ⟨[.type "set",a],[]⟩;again (.builtin "set.__new__" ⟨[.type "set",a],[]⟩)) _ _ s from ?_)
 refine akR (am3 (PySem.F.newCall_set_1 a) (akS ⟨aoz apy _,alW PySem.F.entry_set_new ?_⟩));rw[anc apy _];unfold Builtin.«set.__new__» Builtin.Frozenset.newClass;have hsub:=sub_set_self;obtain⟨hp,g,d,tk,os⟩:=s;dsimp only;wp_walk;refine ane (akS ?_);dsimp only;simp only[newObj];exact akR (wpAny_alloc (akS (akS h)))
set_option maxHeartbeats 3200000 in
theorem T9{l:Ω}{items:Array Θ}{xs:List Nat}{Q:Θ->ε->Prop}(hh:A.handled=η) (hl:s.heap.IsList l items) (hi:acI items.toList (xs.map λn:Nat=>(n:Int))) (hx:∀x∈xs,x<128) (h64:(dM xs).length<64)
  (h:∀(h':χ) (tk:Nat),g8 w h' s.heap.objs.size (dM xs)->(∀b o,b<s.heap.objs.size->s.heap.get? b=ζ o->h'.get? b=ζ o)->Q (.ref s.heap.objs.size) {s with heap:=h',toks:=tk}) :
  wpAny (model prog w) A (call (.type "set") [.ref l]) Q E s:=by
 obtain⟨c,tl,Mt⟩:=aln.mro;have hmade:=aln.made;have hsub:=aln.sub;refine amV (anM (show wpAny _ _ (callAny (.type "set") _) _ _ _ from ?_))
 refine akS ⟨am8 _ (by decide +kernel),alW aoA ?_⟩
 rw[aoB (aoC "set" [.ref l] []) rfl];have h1:=aln.notType;have h2:=aln.canCreate;have hct:=aoD (.ref l)
 repeat any_goals (first|assumption|wp_step)
 refine al1 (BR (.ref l) (E:=E) (Q₁:=λobj s₁=>obj=.ref s.heap.objs.size/\s₁={s with heap:=s.heap.push (cS w)}) ⟨rfl,rfl⟩) λr s₁ hr=>?_
 cases r with
 |error e=>exact hr
 |ok fl =>
  cases fl with
  |ret obj =>
   obtain⟨rfl,rfl⟩:=hr;have hS:(s.heap.push (cS w)).get? s.heap.objs.size=ζ (cS w):=ak8 _ rfl;have hT:adJ {s with heap:=s.heap.push (cS w)} (.ref s.heap.objs.size) "set":=⟨_,hS,rfl⟩
   have hli:=aln.init.lookup;have hbi:=aln.init.bind (.ref s.heap.objs.size)
   repeat any_goals (first|assumption|wp_step)
   refine al1 (am7 (R:=wants (λr s₂=>r=.none/\∃h' tk,s₂={s with heap:=h',toks:=tk}/\g8 w h' s.heap.objs.size (dM xs) /\
     (∀b o,b<s.heap.objs.size->s.heap.get? b=ζ o->h'.get? b=ζ o)) E) aln.init.plain aoE (aoF hT ?_)) λr₂ s₂ jL=>?_
   ·obtain⟨ol,iS,hcl,nl,hdl⟩:=hl;obtain⟨Ky,vh,Kr,ve⟩:=ol;simp only at hcl hdl;subst hcl;subst hdl;have nU:(s.heap.push (cS w)).get? l=ζ {cls:=.type "list",dict:=vh,data:=.seq items nl,slots:=ve}:=akU _ iS;have Mn:=apz;have Mp:=apA;have hne:(Value.type "list"==Value.type "dict")=ξ:=by decide
    have hl1:(s.heap.push (cS w)).IsList l items:=⟨_,nU,rfl,nl,rfl⟩;unfold cS at hS hT nU ⊢;unfold Builtin.«set.__init__» noKeywords Builtin.Frozenset.updateFrom
    generalize vW:pyIter=PI
    wp_walk
    subst vW;refine ani hl1 (akR (anN ?_));have hlS:l<s.heap.objs.size:=akX iS;have hlen:items.size=xs.length:=by have:=hi.length;simpa using this
    have vP:l≠(s.heap.push (cS w)).objs.size:=by rw[alr];exact ak3 (alT hlS)
    have hSf:s.heap.objs.size∉[(s.heap.push (cS w)).objs.size,l]:=by
     rw[alr];simp only[akV,ala,or_false,not_or];exact⟨ak3 (al6 _),alF hlS⟩
    have W:=(Walks.list (prog:=prog) (w:=w) (A:=A.in1.in1.in1) (by simp[hh]) (s.heap.push (cS w)).objs.size l vP items).toS
    rw[hlen]at W;refine Jq (xs:=xs) W s.heap.objs.size hSf (λi v hi' hv=>?_) hx h64 xs.length 0 _ (by omega) (alV _) ⟨⟨_,ak8 _ rfl,rfl,rfl⟩,hl1.push _⟩ (Nv w (akU _ hS)) λs' hm hS'=>?_
    ·obtain⟨t,e⟩:=IntsAre.int_at hi i v (by rw[alx];exact hv)
     exact⟨t,by rw[e];simp[alg,ak7 hi']⟩
    ·obtain⟨h',g',d',tk',os'⟩:=s';cases(show g'=s.gens from hm.gens)
     cases(show d'=s.drawn from hm.drawn)
     cases(show os'=s.os from hm.os)
     refine akS (akS ⟨rfl,h',tk',rfl,hS',λb o hb e=>?_⟩)
     exact hm.heap b o (by rw[alr];simp only[akV,ala,or_false,not_or];exact⟨ak3 hb,ak3 (alT hb)⟩) (akU _ (akU _ e))
   ·cases r₂ with
    |error e=>exact jL
    |ok we =>
     cases we with
     |ret r =>
      obtain⟨rfl,h',tk,rfl,hS',hk'⟩:=jL
      repeat any_goals (first|assumption|wp_step)
      exact h _ _ hS' hk'
     |_=>exact jL.elim
  |_=>exact hr.elim
end
theorem qy:Slot "set_iterator" "__next__" "set_iterator.__next__" :=
 .of (owner:="set_iterator") (n:="__next__") (by rw[typeLookup_type,apB];kernel_rfl) (by decide +kernel) (by decide +kernel)
  (by decide +kernel) (by first|exact .inl (by decide +kernel)|exact .inr (by decide +kernel)) (by rw[anO];kernel_rfl)
theorem IZ:Slot "set_iterator" "__iter__" "set_iterator.__iter__" :=
 .of (owner:="set_iterator") (n:="__iter__") (by rw[typeLookup_type,apB];kernel_rfl) (by decide +kernel) (by decide +kernel)
  (by decide +kernel) (by first|exact .inl (by decide +kernel)|exact .inr (by decide +kernel)) (by rw[anO];kernel_rfl)
theorem Ja:entryFor table "set_iterator.__next__"=ζ Builtin.«set_iterator.__next__»:=entryFor_of_tree (by kernel_rfl)
theorem Sn:entryFor table "set_iterator.__iter__"=ζ Builtin.«dict_keyiterator.__iter__» :=
 entryFor_alias (id':="dict_keyiterator.__iter__") (by kernel_rfl) rfl (by decide +kernel) (by kernel_rfl)
theorem Sm:entryFor table "set.__iter__"=ζ Builtin.«frozenset.__iter__» :=
 entryFor_alias (id':="frozenset.__iter__") (by kernel_rfl) rfl (by decide +kernel) (by kernel_rfl)
theorem I0:Manifest.owners.lookup (String.ofList ['r','o','t','a','r','e','t','i','_','t','e','s'].reverse)=ζ Manifest.sig_set_iterator:=by kernel_rfl
theorem Jb(a:Θ):argsOk "set_iterator.__next__" ⟨[a],[]⟩:=by
 unfold argsOk;rw[signature?_of (id:="set_iterator.__next__") (n:=['_','_','t','x','e','n','_','_']) (o:=['r','o','t','a','r','e','t','i','_','t','e','s']) (by kernel_rfl) I0];kernel_rfl
theorem So(a:Θ):argsOk "set_iterator.__iter__" ⟨[a],[]⟩:=by
 unfold argsOk;rw[signature?_of (id:="set_iterator.__iter__") (n:=['_','_','r','e','t','i','_','_']) (o:=['r','o','t','a','r','e','t','i','_','t','e','s']) (by kernel_rfl) I0];kernel_rfl
theorem FW{α:Type}{l:List α}{i:Nat}(h:i<l.length):([l[i]]++l.eraseIdx i).Perm l:=by
 rw[anf];have e:l=l.take i++l[i]::l.drop (i+1):=by rw[<-anB h,amy]
 conv=>rhs;rw[e]
 exact(aoG (a:=l[i]) (l₁:=l.take i) (l₂:=l.drop (i+1))).symm
theorem JX{α:Type}(next:Nat->Nat):∀(fuel k:Nat) (left:List α) (out:Array α),fuel=left.length->(pickOrder.go next fuel k left out).toList.Perm (out.toList++left)
 |0,k,left,out,h=>by
  have:left=[]:=anC.mp h.symm;subst this;unfold pickOrder.go;simp
 |fuel+1,k,left,out,h=>by
  unfold pickOrder.go;have hlt:next k % left.length<left.length:=amz _ (by omega)
  rw[ak7 hlt];dsimp only;refine(JX next fuel _ _ _ (by rw[List.length_eraseIdx_of_lt hlt];omega)).trans ?_
  rw[anI,alA];exact(FW hlt).append_left _
def jg(w:ψ) (a:Ω) (ep:Nat) (es:Array (Int×Θ)):Array (Int×Θ):=if gC w then pickOrder (w.params.setOrder a ep) es else es
theorem yH(w:ψ) (a:Ω) (ep:Nat) (es:Array (Int×Θ)):(jg w a ep es).toList.Perm es.toList:=by
 unfold jg;split
 ·unfold pickOrder
  simpa using JX (w.params.setOrder a ep) es.size 0 es.toList #[] (by simp)
 ·exact .rfl
def iH(b:Bool) (place:Array Nat):Nat->Nat
 |0=>0
 |i+1=>if b then 0 else place.toList.getD i 0+1
def kM(h:χ) (it a:Ω) (sl i n ep:Nat):Prop:=∃o,h.get? it=ζ o/\o.cls=.type "set_iterator"/\o.data=.fields #[.int sl 0,.int i 0,.ref a,.int n 0,.int ep 0]
theorem kM.typeIs{s:ε}{it a:Ω}{sl i n ep:Nat}(h:kM s.heap it a sl i n ep):s.TypeIs (.ref it) "set_iterator":=let⟨o,ho,hc,_⟩:=h;⟨o,ho,hc⟩
theorem kM.at{h h':χ}{it a:Ω}{sl i n ep:Nat}(x:kM h it a sl i n ep) (k:∀o,h.get? it=ζ o->h'.get? it=ζ o):kM h' it a sl i n ep:=let⟨o,ho,r⟩:=x;⟨o,k o ho,r⟩
def iD(w:ψ) (h:χ) (a:Ω) (es:Array (Int×Θ)) (ep:Nat) (t:aae):Prop:=∃o,h.get? a=ζ o/\o.ExactSet/\o.data=.set es ep t/\oE t es.size/\t.led = !gC w
theorem iD.at{w:ψ}{h h':χ}{a:Ω}{es:Array (Int×Θ)}{ep:Nat}{t:aae}(x:iD w h a es ep t) (k:∀o,h.get? a=ζ o->h'.get? a=ζ o):iD w h' a es ep t:=let⟨o,ho,r⟩:=x;⟨o,k o ho,r⟩
section
variable {prog:τ}{w:ψ}{A:ω}{E:Θ->ε->Prop}{s:ε}
theorem Jp{a:Ω}{es:Array (Int×Θ)}{ep i:Nat}{t:aae}{Q:Option (Θ×Nat)->ε->Prop}(hS:iD w s.heap a es ep t) (hi:i<=es.size)
  (h:Q ((jg w a ep es)[i]?.map λe=>(e.2,iH (gC w) t.place (i+1))) s):wpAny (model prog w) A (setNext a (iH (gC w) t.place i) i ep) Q E s:=by
 obtain⟨o,ho,hex,hd,hI,hl⟩:=hS;unfold setNext;refine akR (amh ho hd hI.fits ?_);dsimp only;refine akR ?_;unfold setsByText;refine akR (ane (akS ?_));show wpAny _ _ (if gC w=Ξ then _ else _) _ _ _
 unfold jg at h;cases hb:gC w with
 |true =>
  rw[hb]at h;simp only[if_true,bne_self_eq_false,aly,if_false]at h ⊢;refine akR ?_;unfold setWalk;refine akR (amh ho hd hI.fits ?_);dsimp only;refine akR ?_;unfold setsByText;refine akR (ane (akS ?_));show wpAny _ _ (if gC w=Ξ then _ else _) _ _ _
  rw[hb];simp only[if_true];refine akR (ane (akS (akS ?_)));have e:iH Ξ t.place (i+1)=iH Ξ t.place i:=by cases i<;>rfl
  rw[e]at h;exact h
 |false =>
  rw[hb]at h hl;simp only[aly,if_false]at h ⊢;show wpAny _ _ (if(!t.plain&&decide (es.size>1))=Ξ then _ else _) _ _ _
  rw[hI.plain];simp only[amO,anV,aly,if_false];refine akR (am3 (a:=()) ?_ ?_)
  ·show(if(!t.led && !es.isEmpty)=Ξ then _ else _)=_
   rw[hl];rfl
  have hbl:SetTable.below t.place (iH ξ t.place i)=i:=by
   cases i with
   |zero=>exact ahQ hI.up
   |succ i=>exact ahR hI.up (by rw[ale,hI.size];omega)
  rw[hbl];refine akS ?_
  rcases anG i es.size with hlt|hge
  ·have hp:i<t.place.size:=by rw[hI.size];exact hlt
   rw[ang hlt]at h ⊢;rw[ang hp];have e:iH ξ t.place (i+1)=t.place[i]+1:=by
    simp[iH,alg,ak7 (show i<t.place.toList.length by simpa using hp)]
   rw[e]at h;exact h
  ·rw[apC hge]at h ⊢;exact h
end
section
variable {prog:τ}{w:ψ}{A:ω}{E:Θ->ε->Prop}{s:ε}
theorem acC{it a:Ω}{es:Array (Int×Θ)}{ep i:Nat}{t:aae}{v:Int×Θ}{Q:Option Θ->ε->Prop}(hit:kM s.heap it a (iH (gC w) t.place i) i es.size ep) (hS:iD w s.heap a es ep t) (hi:i<es.size)
  (hv:(jg w a ep es)[i]? = ζ v) (hQ:∀h',kM h' it a (iH (gC w) t.place (i+1)) (i+1) es.size ep->adi it s.heap h'->Q (ζ v.2) {s with heap:=h'}) :
  wpAny (model prog w) A (pyNext (.ref it)) Q E s:=by
 obtain⟨o,ho,hc,hd⟩:=id hit;obtain⟨oS,hoS,Mv,hdS,hI,hl⟩:=id hS;unfold pyNext;refine akR (anv (amj (name:=Str.ofString "__next__") hit.typeIs qy (alR qy hit.typeIs Ja ?_ (Jb _))));unfold Builtin.«set_iterator.__next__»;refine akR (akS ?_);refine akR (wpAny_fieldsOf ho hd ?_);dsimp only;refine akR (aoH hoS hdS hI.fits ?_);rw[if_neg (by simp)]
 refine akR (Jp (ep:=ep) (i:=i) hS (amr hi) ?_);rw[hv];dsimp only[Option.map];refine akR (am1 ho hd (by simp) ?_)
 have g1:=amY (Obj.mapFields (·.setIfInBounds 0 (rawInt ((iH (gC w) t.place (i+1):Nat):Int)))) ho (aoe (amG hd _));have d1:=amG hd (·.setIfInBounds 0 (rawInt ((iH (gC w) t.place (i+1):Nat):Int)));refine akR (am1 g1 d1 (by simp) ?_)
 have g2:=amY (Obj.mapFields (·.setIfInBounds 1 (rawInt ((i:Int)+1)))) g1 (aoe (amG d1 _));have d2:=amG d1 (·.setIfInBounds 1 (rawInt ((i:Int)+1)));refine akS ⟨_,rfl,akS (hQ _ ⟨_,g2,?_,?_⟩ ((ame ..).trans (ame ..)))⟩
 ·exact(aof ..).trans ((aof ..).trans hc)
 ·rw[d2];simp[rawInt]
theorem acD{it a:Ω}{es:Array (Int×Θ)}{ep:Nat}{t:aae}{Q:Option Θ->ε->Prop}(hh:A.handled=η) (hit:kM s.heap it a (iH (gC w) t.place es.size) es.size es.size ep) (hS:iD w s.heap a es ep t)
  (hQ:∀h',Heap.ExtBut it s.heap h'->Q η {s with heap:=h'}):wpAny (model prog w) A (pyNext (.ref it)) Q E s:=by
 obtain⟨o,ho,hc,hd⟩:=id hit;obtain⟨oS,hoS,Mv,hdS,hI,hl⟩:=id hS;unfold pyNext;refine akR (anv (amj (name:=Str.ofString "__next__") hit.typeIs qy (alR qy hit.typeIs Ja ?_ (Jb _))));unfold Builtin.«set_iterator.__next__»;refine akR (akS ?_);refine akR (wpAny_fieldsOf ho hd ?_);dsimp only;refine akR (aoH hoS hdS hI.fits ?_);rw[if_neg (by simp)]
 refine akR (Jp (ep:=ep) (i:=es.size) hS (akT _) ?_);have hv:(jg w a ep es)[es.size]? = η:=by
  have:=(yH w a ep es).length_eq;rw[ale,ale]at this;exact apC (by omega)
 rw[hv];dsimp only[Option.map];refine akR (am1 ho hd (by simp) ?_)
 show wpAny _ _ (newExc (.type "StopIteration") [] >>= _) _ _ _;refine akR ?_;simp only[newExc,newTuple];refine akR (al4 ?_ (by size_fits))
 refine akR (m:=firstArgMember _ _) (am3 (a:=Value.none) (by first|rfl|(simp only[firstArgMember];rfl)) (al4 ?_ (by size_fits)))
 simp only[raiseNew];refine akR (wpAny_handled ?_);rw[show A.in1.handled=η from hh]
 refine akR (akS (wpAny_throw ?_));refine akR (aoh (b:=Ξ) (T:="StopIteration") ⟨_,ak8 _ rfl,rfl⟩ isSubtype_stop ?_);exact akS (hQ _ (((ame ..).extBut.push _).push _))
theorem acA{it a:Ω}{sl i n ep:Nat}{Q:Θ->ε->Prop}(hit:kM s.heap it a sl i n ep) (h:Q (.ref it) s):wpAny (model prog w) A (pyIter (.ref it)) Q E s:=by
 refine wpAny_pyIter_slot hit.typeIs IZ (alR IZ hit.typeIs Sn (show wpAny _ _ (ret (.ref it)) _ _ s from ?_) (So _))
 exact akS ⟨_,rfl,"set_iterator",_,hit.typeIs,qy.lookup,h⟩
theorem T6(hh:A.handled=η) (I a:Ω) (hne:a≠I) (es:Array (Int×Θ)) (ep:Nat) (t:aae) :
  Walks prog w A I [I,a] [I] es.size (λi v=>(jg w a ep es)[i]?.map (·.2)=ζ v) (λi h=>kM h I a (iH (gC w) t.place i) i es.size ep/\iD w h a es ep t) where
 sub:=λb hb=>by simp at hb;simp[hb]
 frame:=λ_ _ _ st hk=>⟨st.1.at λo e=>hk I (by simp) o e,st.2.at λo e=>hk a (by simp) o e⟩
 item:=λi s Q E hi st hQ=>by
  have hl:=(yH w a ep es).length_eq;rw[ale,ale]at hl;have hv:(jg w a ep es)[i]? = ζ (jg w a ep es)[i]:=ang (by omega)
  refine acC st.1 st.2 hi hv λh' vQ hs'=>hQ _ h' s.toks (by rw[hv];rfl) ⟨vQ,st.2.at λo e=>?_⟩ λb o hb e=>hs'.extBut b o (λh=>hb (by simp[h])) e
  exact hs'.extBut a o hne e
 done:=λs Q E st hQ=>acD hh st.1 st.2 λh' he'=>hQ h' s.toks λb o hb e=>he' b o (λh=>hb (by simp[h])) e
 self:=λ_ _ _ _ st hQ=>acA st.1 hQ
theorem iD.typeIs{a:Ω}{es:Array (Int×Θ)}{ep:Nat}{t:aae}(h:iD w s.heap a es ep t):s.TypeIs (.ref a) "set":=let⟨o,ho,hx,_⟩:=h;⟨o,ho,hx.1⟩
theorem Ub{a:Ω}{es:Array (Int×Θ)}{ep:Nat}{t:aae}{Q:Θ->ε->Prop}(hS:iD w s.heap a es ep t)
  (hQ:Q (.ref s.heap.objs.size) {s with heap:=s.heap.push {cls:=.type "set_iterator",data:=.fields #[.int 0 0,.int 0 0,.ref a,.int es.size 0,.int ep 0]} }):wpAny (model prog w) A (pyIter (.ref a)) Q E s:=by
 obtain⟨oS,hoS,Mv,hdS,hI,hl⟩:=id hS;refine wpAny_pyIter_slot hS.typeIs apD (alR apD hS.typeIs Sm ?_ (PySem.F.args_set_iter_1 _));unfold Builtin.«frozenset.__iter__» Builtin.Frozenset.slot0;refine akR (akR (akS (akS ?_)));unfold Builtin.Frozenset.sizeOf;refine akR (akR (aoH hoS hdS hI.fits (akS ?_)));refine akR ?_;unfold setDrawn;refine akR (amh hoS hdS hI.fits ?_);dsimp only;refine akR ?_;unfold setsByText;refine akR (ane (akS (akS ?_)));have e:(!gC w&&(!t.plain&&decide (es.size>1)))=ξ:=by rw[hI.plain];simp
 show wpAny _ _ (if(!gC w&&(!t.plain&&decide (es.size>1)))=Ξ then _ else _) _ _ _
 rw[e];simp only[aly,if_false];refine akR (akS ?_);refine akR (wpAny_setEpoch_of hoS hdS hI.fits ?_);refine akR ?_;refine al4 (akS ⟨_,rfl,"set_iterator",_,⟨_,ak8 _ rfl,rfl⟩,qy.lookup,?_⟩);exact hQ
end
end L2
namespace L2
open PySem PySem.Spec PyProof.Rows PySem.W
def nP(x:Nat):List Nat->List Nat
 |[]=>[x]
 |y::l=>if x<y then x::y::l else if x=y then y::l else y::nP x l
def cE:List Nat->List Nat
 |[]=>[]
 |x::l=>nP x (cE l)
theorem CS{x y:Nat}:∀{l:List Nat},y∈nP x l↔y=x\/y∈l
 |[]=>by simp[nP]
 |z::l=>by
  unfold nP;split
  ·simp
  ·split
   ·rename_i h;subst h;simp
   ·simp only[akV,CS (l:=l)]
    constructor
    ·rintro (h|h|h)<;>simp[h]
    ·rintro (h|h|h)<;>simp[h]
theorem IA{x:Nat}:∀{l:List Nat},Up l->Up (nP x l)
 |[],_=>by simp[nP]
 |z::l,h=>by
  obtain⟨h1,h2⟩:=alX.mp h;unfold nP;split
  ·rename_i hx;exact alX.mpr ⟨λb hb=>by
    rcases akV.mp hb with rfl|hb
    ·exact hx
    ·exact aoo hx (h1 b hb),h⟩
  ·split
   ·exact h
   ·refine alX.mpr ⟨λb hb=>?_,IA h2⟩
    rcases CS.mp hb with rfl|hb
    ·omega
    ·exact h1 b hb
theorem qx:∀l:List Nat,Up (cE l)
 |[]=>.nil
 |x::l=>IA (qx l)
theorem nK{y:Nat}:∀{l:List Nat},y∈cE l↔y∈l
 |[]=>by simp[cE]
 |x::l=>by simp[cE,CS,nK (l:=l)]
theorem up_eq:∀{l m:List Nat},Up l->Up m->(∀x,x∈l↔x∈m)->l=m
 |[],[],_,_,_=>rfl
 |[],y::m,_,_,h=>absurd ((h y).mpr (.head _)) (by simp)
 |x::l,[],_,_,h=>absurd ((h x).mp (.head _)) (by simp)
 |x::l,y::m,h1,h2,h=>by
  obtain⟨a1,a2⟩:=alX.mp h1;obtain⟨b1,b2⟩:=alX.mp h2;have e:x=y:=by
   rcases akV.mp ((h x).mp (.head _))with e|hx
   ·exact e
   ·rcases akV.mp ((h y).mpr (.head _))with e|hy
    ·exact e.symm
    ·have:=a1 y hy;have:=b1 x hx;omega
  subst e;rw[up_eq a2 b2 λz=>?_]
  constructor
  ·intro hz
   rcases akV.mp ((h z).mp (.tail _ hz))with e|q
   ·subst e;exact absurd (a1 z hz) (alE _)
   ·exact q
  ·intro hz
   rcases akV.mp ((h z).mpr (.tail _ hz))with e|q
   ·subst e;exact absurd (b1 z hz) (alE _)
   ·exact q
theorem aa8{ns:List Nat}{x y:Nat}:y∈gv ns x↔y∈ns\/y=x:=by
 unfold gv;split
 ·rename_i h;exact⟨.inl,λq=>q.elim id λe=>e▸h⟩
 ·simp
theorem aal{ns:List Nat}{x:Nat}(h:ns.Nodup):(gv ns x).Nodup:=by
 unfold gv;split
 ·exact h
 ·rename_i hx;refine amo.mpr ⟨h,by simp,λa ha b hb=>?_⟩
  rw[alw]at hb;subst hb;exact λe=>hx (e▸ha)
theorem CT:∀{xs ns:List Nat}{y:Nat},y∈xs.foldl gv ns↔y∈ns\/y∈xs
 |[],ns,y=>by simp
 |x::xs,ns,y=>by
  rw[aml,CT,aa8,akV,or_assoc]
theorem CK:∀{xs ns:List Nat},ns.Nodup->(xs.foldl gv ns).Nodup
 |[],_,h=>h
 |x::xs,_,h=>CK (xs:=xs) (aal h)
theorem SS{xs:List Nat}{zs:List Int}(h1:zs.Perm ((dM xs).map λn:Nat=>(n:Int))) (h2:zs.Pairwise (·<=·)):zs=(cE xs).map λn:Nat=>(n:Int):=by
 have hz:∀z∈zs,∃n:Nat,z=n:=λz hz=>by
  obtain⟨n,_,e⟩:=akW.mp (h1.mem_iff.mp hz);exact⟨n,e.symm⟩
 have e:zs=(zs.map Int.toNat).map λn:Nat=>(n:Int):=by
  rw[alh]
  conv=>lhs;rw[<-amA zs]
  refine alY λz hq=>?_
  obtain⟨n,rfl⟩:=hz z hq;simp
 have hp:(zs.map Int.toNat).Perm (dM xs):=by
  have:=h1.map Int.toNat;rw[alh]at this;refine this.trans (apE ?_)
  conv=>rhs;rw[<-amA (dM xs)]
  exact alY λn _=>by simp
 have hnd:(zs.map Int.toNat).Nodup:=hp.nodup_iff.mpr (CK .nil);have hup:Up (zs.map Int.toNat):=by
  have hle:(zs.map Int.toNat).Pairwise (·<=·):=by
   rw[amx];exact h2.imp fun{a b} h=>by omega
  refine(hle.and hnd).imp fun{a b} h=>?_
  have h2:a≠b:=h.2;omega
 rw[e,up_eq hup (qx xs) λx=>by
  rw[hp.mem_iff,nK];unfold dM;rw[CT];simp]
theorem yY:∀{l:List Nat},Up l->l.Nodup:=fun{l} h=>h.imp fun{a b} h=>ak3 h
theorem xP(xs:List Nat):(cE xs).length=(dM xs).length:=by
 have hp:(cE xs).Perm (dM xs):=by
  refine(apF (yY (qx xs)) (CK .nil)).mpr λx=>?_
  rw[nK,CT];simp
 exact hp.length_eq
theorem L3:∀{l:List (Int×Θ)},(∀e∈l,∃(n:Nat) (tk:Tok),e=((n:Int),.int n tk)/\n<128)->acI (l.map (·.2)) (l.map (·.1))
 |[],_=>.nil
 |e::l,h=>by
  obtain⟨n,tk,rfl,_⟩:=h e (.head _);exact .cons _ _ (L3 λe he=>h e (.tail _ he))
section
variable {prog:τ}{w:ψ}{A:ω}{E:Θ->ε->Prop}{s:ε}
theorem adK{r:Ω}{Q:Bool->ε->Prop}(hT:s.TypeIs (.ref r) "set") (h:Q ξ s):wpAny (model prog w) A (Builtin.List.listLengthHint (.ref r)) Q E s:=by
 unfold Builtin.List.listLengthHint;refine akR (wpAny_specialOf hT PySem.F.slot_set_len.lookup ?_)
 generalize hid:("set.__len__":String)=id0
 wp_delta
 rw[show splitId id0=ζ ("set","__len__")from by subst hid;decide +kernel]
 subst hid;refine akR (aoh (T:="set") (b:=Ξ) hT sub_set_self ?_);refine wpAny_ite_split (λq=>absurd q (by decide)) λ_=>wpAny_ite_split (λ_=>?_) λq=>absurd (by decide +kernel) q
 exact akR (amX hT (akS h))
theorem iD.lt{h:χ}{a:Ω}{es:Array (Int×Θ)}{ep:Nat}{t:aae}(x:iD w h a es ep t):a<h.objs.size:=let⟨_,ho,_⟩:=x;akX ho
theorem Sz{a:Ω}{es:Array (Int×Θ)}{ep:Nat}{t:aae}:KdlSrc prog w "set" a a es.size (λi v=>(jg w a ep es)[i]?.map (·.2)=ζ v) (λh=>iD w h a es ep t) where
 type:=λ_ h=>h.typeIs
 there:=λ_ h=>⟨h.lt,h.lt⟩
 keep:=λ_ _ h k=>h.at λo e=>k a (.inl rfl) o e
 notList:=by decide
 notTuple:=by decide
 hint:=λ_ _ _ _ h q=>adK h.typeIs q
 iter:=λ_ s hh h=>⟨_,_,(λ_ _ q=>Ub h q),T6 hh _ a (ak3 h.lt) es ep t,⟨⟨_,ak8 _ rfl,rfl,rfl⟩,h.at λo e=>akU _ e⟩⟩
theorem SQ{a:Ω}{xs:List Nat}{Q:Θ->ε->Prop}(hh:A.handled=η) (hS:g8 w s.heap a (dM xs)) (hn:(dM xs).length<64)
  (h:∀(h1 h':χ) (tk c:Nat) (out:Array Θ),(∀b o,s.heap.get? b=ζ o->h1.get? b=ζ o)->(∀b o,h1.get? b=ζ o->h'.get? b=ζ o)->h'.get? h1.objs.size=ζ (seqObj "list" out c) ->
   acI out.toList ((cE xs).map λn:Nat=>(n:Int))->Q (.ref h1.objs.size) {s with heap:=h',toks:=tk}) :
  wpAny (model prog w) A (call (.builtin "sorted") [.ref a]) Q E s:=by
 obtain⟨o,es,ep,t,ho,hex,hd,hI,hl,hs⟩:=hS;have hlen:es.size<64:=by
  have h1:=hs.len;rw[ale]at h1;omega
 have hok:iD w s.heap a es ep t:=⟨o,ho,hex,hd,hI,hl⟩;refine apG kind_sorted plain_sorted entry_sorted (args_sorted1 _) ?_;unfold Builtin.«sorted»;refine akR (m:=checkCount "sorted" 1 1 _) (akS ?_);refine akR (kdu_collect (A:=A.in1) (Sz (prog:=prog)) hh hok (by rw[ama];omega) λh1 tk acc hk hacc=>?_)
 have afe:acc.toList=(jg w a ep es).toList.map (·.2):=by
  have hlo:=(yH w a ep es).length_eq;rw[ale,ale]at hlo;apply apH;intro i
  rcases anG i acc.size with q|q
  ·have h3:=hacc.2 i acc[i] (ang q);rw[alk,alx,alx,h3,ang q]
  ·have h4:=hacc.1;rw[amw (by simpa using q),amw (by simp;omega)]
 have hp:=yH w a ep es;have hI2:acI acc.toList ((jg w a ep es).toList.map (·.1)):=by
  rw[afe];exact L3 λe he=>hs.2 e (hp.mem_iff.mp he)
 have hal:acc.toList.length<64:=by rw[ale,hacc.1];exact hlen
 refine akR (aoI ?_ (by rw[ama];omega))
 have lC:(h1.push (seqObj "list" acc.toList.toArray 0)).get? h1.objs.size=ζ (seqObj "list" acc.toList.toArray 0):=ak8 _ rfl;refine akR (alJ (alR slot_list_sort ⟨_,lC,rfl⟩ entry_list_sort (list_sort_tree (s:={s with heap:=h1.push (seqObj "list" acc.toList.toArray 0),toks:=tk}) lC hI2 hal λout zs a1 a2 a3=>⟨_,rfl,?_⟩) (args_list_sort _)))
 refine akS ⟨_,rfl,?_⟩;have hz:=SS (a2.trans ((hp.map _).trans hs.1)) a3;rw[hz]at a1;have hne:∀b o,h1.get? b=ζ o->b≠h1.objs.size:=λb o e=>ak3 (akX e)
 have g1:=amB lC (λ_=>#[])
 have g2:=amB (akU (seqObj "list" #[] 0) (akU (seqObj "tuple" acc.toList.toArray 0) g1)) λ_=>out
 refine h h1 _ tk _ out hk (λb o e=>?_) g2 a1
 have q:=alP (hne b o e);exact(alS _ _ q).trans (akU _ (akU _ ((alS _ _ q).trans (akU _ e))))
end
abbrev nV(ns:List Nat):List V:=ns.map λn:Nat=>V.int n
abbrev nD(ns:List Nat):List D:=ns.map λn:Nat=>D.int n
def nj(w:ψ) (a:Ω) (ns:List Nat):χ->Prop:=λh=>g8 w h a (dM ns)
theorem BD:∀{ns:List Nat}{us:List Θ},Vals (nV ns) us->acI us (ns.map λn:Nat=>(n:Int))
 |[],_,.nil=>.nil
 |n::ns,_,.cons ⟨t,e⟩ r=>by subst e;exact .cons _ _ (BD r)
theorem Pw:∀{ns:List Nat}{us:List Θ},acI us (ns.map λn:Nat=>(n:Int))->Vals (nV ns) us
 |[],_,.nil=>.nil
 |n::ns,_,.cons _ t r=>.cons ⟨t,rfl⟩ (Pw r)
section
variable {X:Cx}
def U3(X:Cx):List V->Hp->VK->Prop:=λxs H Q=>∃a ns,xs=[.ref a]/\bC X.K H a (nV ns)/\(cE ns).length<64/\(∀x∈ns,x<128)/\∀p,H p=η->Q (.ref p) (upd H p (.ext (nj X.w p ns)))
theorem NS(hc:X.calm=Ξ:=by rfl):c9 X (.type "set") (U3 X):=by
 intro pins s σ H xs us Q I rv h;obtain⟨a,ns,rfl,sq,hb,hx,q⟩:=h;obtain⟨u,rfl,ru⟩:=alD rv;cases ru;obtain⟨its,ri,pl,hz⟩:=I.list sq;refine T9 (xs:=ns) (I.ok.hd hc) pl.isList (by simpa using BD ri) hx (by rw[<-xP];exact hb) λh' tk hS kp=>?_
 have hf:H s.heap.objs.size=η:=I.hok.fresh (akT _);have lE:=hS;obtain⟨o,es,ep,t,ho,_⟩:=lE;refine⟨.ref s.heap.objs.size,upd H s.heap.objs.size (.ext (nj X.w s.heap.objs.size ns)),I.laid (t':=tk) (λb u e=>kp b u (akX e) e) (akT _) ?_,rfl,q _ hf⟩
 exact⟨hS,⟨o,ho⟩,λh1 h2 x k=>x.at k⟩
def UW(X:Cx):List V->Hp->VK->Prop:=λxs H Q=>∃a ns,xs=[.ref a]/\H a=ζ (.ext (nj X.w a ns))/\(cE ns).length<64/\∀p,H p=η->Q (.ref p) (upd H p (.lst (nV (cE ns))))
theorem agR(hc:X.calm=Ξ:=by rfl):c9 X (.builtin "sorted") (UW X):=by
 intro pins s σ H xs us Q I rv h;obtain⟨a,ns,rfl,hH,hn,q⟩:=h;obtain⟨u,rfl,ru⟩:=alD rv;cases ru;obtain⟨hS,_,_⟩:=I.hok a _ hH;refine SQ (I.ok.hd hc) hS (by rw[<-xP];exact hn) λh1 h' tk c out k1 k2 hp hI=>?_
 have I1:Inv X pins σ H {s with heap:=h1,toks:=tk}:=I.kept k1
 have hf:H h1.objs.size=η:=I1.hok.fresh (akT _);refine⟨.ref h1.objs.size,upd H h1.objs.size (.lst (nV (cE ns))),I1.laid (t':=tk) k2 (akT _) ⟨?_,out.toList,c,Pw hI,by simpa using hp⟩,rfl,q _ hf⟩
 simp only[ak6];rw[ama];omega
def jF(l:List D):Option (List Nat):=match ko l with
 |some ns=>if ns.all (λn=>decide (0<=n/\n<128))=Ξ/\(cE (ns.map Int.toNat)).length<64 then ζ (ns.map Int.toNat)else η
 |none=>η
theorem CM{l:List D}{ns:List Nat}(h:jF l=ζ ns):l=nD ns/\(cE ns).length<64/\∀x∈ns,x<128:=by
 unfold jF at h;split at h
 ·rename_i zs hz;split at h
  ·rename_i hc;cases h;refine⟨?_,hc.2,λx hx=>?_⟩
   ·rw[zu hz];unfold nD;rw[alh];refine alY λz hq=>?_
    have:=of_decide_eq_true (ak0.mp hc.1 z hq);show D.int z=D.int (z.toNat:Int)
    congr 1;omega
   ·obtain⟨z,hq,rfl⟩:=akW.mp hx;have:=of_decide_eq_true (ak0.mp hc.1 z hq);omega
  ·cases h
 ·cases h
theorem Lf{ns:List Nat}(h:(cE ns).length<64) (hx:∀x∈ns,x<128):jF (nD ns)=ζ ns:=by
 unfold jF;have e:nD ns=(ns.map λn:Nat=>(n:Int)).map D.int:=by simp[nD]
 rw[e,vJ];dsimp only;have e:(ns.map λn:Nat=>(n:Int)).map Int.toNat=ns:=by
  rw[alh];have:(Int.toNat ∘ λn:Nat=>(n:Int))=id:=by funext n;simp
  rw[this,amA]
 rw[e,if_pos ⟨ak0.mpr λz hz=>by
  obtain⟨n,hn,rfl⟩:=akW.mp hz;have:=hx n hn;exact decide_eq_true (by omega),h⟩]
theorem B8{K:Ψ}{ρ:List Ω}{H:Hp}{ns:List Nat}{xs:List V}(h:aM K ρ H (nD ns) xs):xs=nV ns:=by
 have e:nD ns=(ns.map λn:Nat=>(n:Int)).map D.int:=by simp[nD]
 rw[e]at h;rw[aM.zq h];simp[nV]
theorem UQ{K:Ψ}{ρ:List Ω}{H:Hp}(ns:List Nat):aM K ρ H (nD ns) (nV ns):=by
 have e:nD ns=(ns.map λn:Nat=>(n:Int)).map D.int:=by simp[nD]
 have e':nV ns=(ns.map λn:Nat=>(n:Int)).map V.int:=by simp[nV]
 rw[e,e'];exact aM.ints
theorem CD(ns:List Nat):bO (nD ns)=Ξ:=by
 have e:nD ns=(ns.map λn:Nat=>(n:Int)).map D.int:=by simp[nD]
 rw[e];exact yV
def pV(a:aj):af:=λe c=>(a e c).bind λxs c=>match xs with
 |[x]=>match dW c x with
  |some l=>match jF l with
   |some ns=>.ok (.lst (nD (cE ns))) c
   |none=>.bad
  |none=>.bad
 |_=>.bad
theorem W9{e:π}{da:aj}{p1 p2 q1 q2:Pos}{f:List D->aa->R D}(ha:fq X [e] da) (hm:X.mg "sorted"=η) (hm2:X.mg "set"=η) (hg:Gl X "sorted") (jM:Gl X "set") (hc:X.calm=Ξ)
  (he:μ [e] X.env=(ξ,eval e X.env)::μ [] X.env)
  (hf:∀xs c ρ H (Q:VK) vs,Wd X.K ρ H c->aM X.K ρ H xs vs->post X.K (Rel X.K) (f xs c) ρ H Q->∃a ns,vs=[.ref a]/\bC X.K H a (nV ns)/\(cE ns).length<64/\(∀x∈ns,x<128) /\
   ∀p,H p=η->∀q,upd H p (.ext (nj X.w p ns)) q=η->Q (.ref q) (upd (upd H p (.ext (nj X.w p ns))) q (.lst (nV (cE ns))))) :
  aX X (.Call (.Name "sorted" p1) [.Call (.Name "set" p2) [e] [] q2] [] q1) (aB f da):=by
 have vM:PE X (.Call (.Name "set" p2) [e] [] q2) _:=nB (NS hc) jM hm2 (by decide +kernel) ha (by decide) (by decide) he (by exact ff rfl)
 refine(ym (agR hc) hg hm (by decide +kernel) (jB vM jA (b7 rfl)) (by decide) (by decide) (by exact b7 rfl) (by exact ff rfl)).imp λσ H Q h=>?_
 obtain⟨ρ,e,c,W,V,p⟩:=h;refine⟨ρ,e,c,W,V,post.bind p λxs c1 aO H1 vs ex W1 X1 r1 p1=>?_⟩
 obtain⟨a,ns,rfl,sq,h64,hx,q⟩:=hf xs c1 aO H1 Q vs W1 r1 p1;exact⟨a,ns,rfl,sq,h64,hx,λp hp=>⟨p,ns,rfl,fS,h64,λq' hq=>q p hp q' hq⟩⟩
def Jk:List D->aa->R D:=λxs c=>match xs with
 |[x]=>match dW c x with
  |some l=>match jF l with
   |some ns=>.ok (.lst (nD (cE ns))) c
   |none=>.bad
  |none=>.bad
 |_=>.bad
theorem Xp{e:π}{da:aj}{p1 p2 q1 q2:Pos}(ha:fq X [e] da) (hm:X.mg "sorted"=η) (hm2:X.mg "set"=η) (hg:Gl X "sorted":=by rfl) (jM:Gl X "set":=by rfl) (hc:X.calm=Ξ:=by rfl)
  (he:μ [e] X.env=(ξ,eval e X.env)::μ [] X.env:=by exact b7 rfl):aX X (.Call (.Name "sorted" p1) [.Call (.Name "set" p2) [e] [] q2] [] q1) (pV da) :=
 W9 (f:=Jk) ha hm hm2 hg jM hc he λxs c ρ H Q vs W r p=>by
  unfold Jk at p;split at p
  ·rename_i x;obtain⟨v,rr,rfl,hx,hr⟩:=r;cases hr;split at p
   ·rename_i l hl;split at p
    ·rename_i ns hn;obtain⟨rfl,h64,hx'⟩:=CM hn;obtain⟨a,ys,rfl,ha',rl⟩:=kh W hx hl;cases B8 rl;refine⟨a,ns,rfl,bC.of ha',h64,hx',λq hq q' hq'=>?_⟩
     exact kY (W.fresh hq) (UQ _) (post.ext p (Ext.fresh W hq)) q' hq'
    ·exact p.elim
   ·exact p.elim
  ·exact p.elim
end
section
variable (a:aj) (e:Ev) (c:aa)
@[simp] theorem aje:pV a e c=(a e c).bind λxs c=>match xs with
 |[x]=>match dW c x with
  |some l=>match jF l with
   |some ns=>.ok (.lst (nD (cE ns))) c
   |none=>.bad
  |none=>.bad
 |_=>.bad:=rfl
end
section
variable {prog:τ}{w:ψ}{A:ω}{E:Θ->ε->Prop}{s:ε}
theorem CJ:∀{l m:List Nat},l.Nodup->(∀x∈l,x∈m)->l.length<=m.length
 |[],m,_,_=>alV _
 |x::l,m,h,hs=>by
  obtain⟨h1,h2⟩:=amu.mp h;have hx:=hs x (.head _);have:=CJ (m:=m.erase x) h2 λy hy=>(aoq (λe:y=x=>h1 (by rw[<-e];exact hy))).mpr (hs y (.tail _ hy))
  rw[aor hx]at this;have:=aps hx;rw[ak4];omega
end
theorem sub_tuple_set:isSubtype (.type "tuple") (.type "set")=pure ξ:=by rw[anO];kernel_rfl
theorem sub_tuple_frozenset:isSubtype (.type "tuple") (.type "frozenset")=pure ξ:=by rw[anO];kernel_rfl
section
variable {prog:τ}{w:ψ}{A:ω}{s:ε}{E:Θ->ε->Prop}
set_option maxHeartbeats 3200000 in
theorem T7{l:Ω}{items:Array Θ}{xs:List Nat}{Q:Θ->ε->Prop}(hh:A.handled=η) (hl:s.heap.IsTuple l items) (hi:acI items.toList (xs.map λn:Nat=>(n:Int))) (hx:∀x∈xs,x<128) (h64:(dM xs).length<64)
  (h:∀(h':χ) (tk:Nat),g8 w h' s.heap.objs.size (dM xs)->(∀b o,b<s.heap.objs.size->s.heap.get? b=ζ o->h'.get? b=ζ o)->Q (.ref s.heap.objs.size) {s with heap:=h',toks:=tk}) :
  wpAny (model prog w) A (call (.type "set") [.ref l]) Q E s:=by
 obtain⟨c,tl,Mt⟩:=aln.mro;have hmade:=aln.made;have hsub:=aln.sub;refine amV (anM (show wpAny _ _ (callAny (.type "set") _) _ _ _ from ?_))
 refine akS ⟨am8 _ (by decide +kernel),alW aoA ?_⟩
 rw[aoB (aoC "set" [.ref l] []) rfl];have h1:=aln.notType;have h2:=aln.canCreate;have hct:=aoD (.ref l)
 repeat any_goals (first|assumption|wp_step)
 refine al1 (BR (.ref l) (E:=E) (Q₁:=λobj s₁=>obj=.ref s.heap.objs.size/\s₁={s with heap:=s.heap.push (cS w)}) ⟨rfl,rfl⟩) λr s₁ hr=>?_
 cases r with
 |error e=>exact hr
 |ok fl =>
  cases fl with
  |ret obj =>
   obtain⟨rfl,rfl⟩:=hr;have hS:(s.heap.push (cS w)).get? s.heap.objs.size=ζ (cS w):=ak8 _ rfl;have hT:adJ {s with heap:=s.heap.push (cS w)} (.ref s.heap.objs.size) "set":=⟨_,hS,rfl⟩
   have hli:=aln.init.lookup;have hbi:=aln.init.bind (.ref s.heap.objs.size)
   repeat any_goals (first|assumption|wp_step)
   refine al1 (am7 (R:=wants (λr s₂=>r=.none/\∃h' tk,s₂={s with heap:=h',toks:=tk}/\g8 w h' s.heap.objs.size (dM xs) /\
     (∀b o,b<s.heap.objs.size->s.heap.get? b=ζ o->h'.get? b=ζ o)) E) aln.init.plain aoE (aoF hT ?_)) λr₂ s₂ jL=>?_
   ·obtain⟨ol,iS,hcl,nl,hdl⟩:=hl;obtain⟨Ky,vh,Kr,ve⟩:=ol;simp only at hcl hdl;subst hcl;subst hdl;have nU:(s.heap.push (cS w)).get? l=ζ {cls:=.type "tuple",dict:=vh,data:=.seq items nl,slots:=ve}:=akU _ iS;have Mn:=sub_tuple_set;have Mp:=sub_tuple_frozenset;have hne:(Value.type "tuple"==Value.type "dict")=ξ:=by decide
    have hl1:(s.heap.push (cS w)).IsTuple l items:=⟨_,nU,rfl,nl,rfl⟩;unfold cS at hS hT nU ⊢;unfold Builtin.«set.__init__» noKeywords Builtin.Frozenset.updateFrom
    generalize vW:pyIter=PI
    wp_walk
    subst vW;refine anj hl1 (akR (anN ?_));have hlS:l<s.heap.objs.size:=akX iS;have hlen:items.size=xs.length:=by have:=hi.length;simpa using this
    have vP:l≠(s.heap.push (cS w)).objs.size:=by rw[alr];exact ak3 (alT hlS)
    have hSf:s.heap.objs.size∉[(s.heap.push (cS w)).objs.size,l]:=by
     rw[alr];simp only[akV,ala,or_false,not_or];exact⟨ak3 (al6 _),alF hlS⟩
    have W:=(Walks.tuple (prog:=prog) (w:=w) (A:=A.in1.in1.in1) (by simp[hh]) (s.heap.push (cS w)).objs.size l vP items).toS
    rw[hlen]at W;refine Jq (xs:=xs) W s.heap.objs.size hSf (λi v hi' hv=>?_) hx h64 xs.length 0 _ (by omega) (alV _) ⟨⟨_,ak8 _ rfl,rfl,rfl⟩,hl1.at λo e=>akU _ e⟩ (Nv w (akU _ hS)) λs' hm hS'=>?_
    ·obtain⟨t,e⟩:=IntsAre.int_at hi i v (by rw[alx];exact hv)
     exact⟨t,by rw[e];simp[alg,ak7 hi']⟩
    ·obtain⟨h',g',d',tk',os'⟩:=s';cases(show g'=s.gens from hm.gens)
     cases(show d'=s.drawn from hm.drawn)
     cases(show os'=s.os from hm.os)
     refine akS (akS ⟨rfl,h',tk',rfl,hS',λb o hb e=>?_⟩)
     exact hm.heap b o (by rw[alr];simp only[akV,ala,or_false,not_or];exact⟨ak3 hb,ak3 (alT hb)⟩) (akU _ (akU _ e))
   ·cases r₂ with
    |error e=>exact jL
    |ok we =>
     cases we with
     |ret r =>
      obtain⟨rfl,h',tk,rfl,hS',hk'⟩:=jL
      repeat any_goals (first|assumption|wp_step)
      exact h _ _ hS' hk'
     |_=>exact jL.elim
  |_=>exact hr.elim
end
section
variable {X:Cx}
def U5(X:Cx):List V->Hp->VK->Prop:=λxs H Q=>∃a ns,xs=[.ref a]/\(bC X.K H a (nV ns)\/bU X.K H a (nV ns))/\(cE ns).length<64/\(∀x∈ns,x<128)/\∀p,H p=η->Q (.ref p) (upd H p (.ext (nj X.w p ns)))
theorem agU(hc:X.calm=Ξ:=by rfl):c9 X (.type "set") (U5 X):=by
 intro pins s σ H xs us Q I rv h;obtain⟨a,ns,rfl,sq,hb,hx,q⟩:=h
 rcases sq with sq|sq
 ·exact NS hc pins s σ H _ us Q I rv ⟨a,ns,rfl,sq,hb,hx,q⟩
 ·obtain⟨u,rfl,ru⟩:=alD rv;cases ru;obtain⟨its,ri,pl,hz⟩:=I.tuple sq;refine T7 (xs:=ns) (I.ok.hd hc) (show s.heap.IsTuple a its.toArray from pl) (by simpa using BD ri) hx (by rw[<-xP];exact hb) λh' tk hS kp=>?_
  have hf:H s.heap.objs.size=η:=I.hok.fresh (akT _);have lE:=hS;obtain⟨o,es,ep,t,ho,_⟩:=lE;refine⟨.ref s.heap.objs.size,upd H s.heap.objs.size (.ext (nj X.w s.heap.objs.size ns)),I.laid (t':=tk) (λb u e=>kp b u (akX e) e) (akT _) ?_,rfl,q _ hf⟩
  exact⟨hS,⟨o,ho⟩,λh1 h2 x k=>x.at k⟩
def vq(c:aa):D->Option (List Nat)
 |.tup l=>jF l
 |x=>match dW c x with
  |some l=>jF l
  |none=>η
theorem aan{K:Ψ}{ρ:List Ω}{H:Hp}{c:aa}{x:D}{v:V}{ns:List Nat}(W:Wd K ρ H c) (r:Rel K ρ H x v) (h:vq c x=ζ ns):∃a,v=.ref a/\(bC K H a (nV ns)\/bU K H a (nV ns))/\(cE ns).length<64/\∀x∈ns,x<128:=by
 unfold vq at h;split at h
 ·obtain⟨rfl,h64,hx⟩:=CM h;obtain⟨a,xs,rfl,ha,rl⟩:=r;cases B8 rl;exact⟨a,rfl,.inr (bU.of ha),h64,hx⟩
 ·split at h
  ·rename_i l hl;obtain⟨rfl,h64,hx⟩:=CM h;obtain⟨a,ys,rfl,ha,rl⟩:=kh W r hl;cases B8 rl;exact⟨a,rfl,.inl (bC.of ha),h64,hx⟩
  ·cases h
end
section
variable {X:Cx}
theorem aaf{l:List D}(h:bO l=Ξ) (n:Nat):bO (l.take n)=Ξ:=iM.mpr λd hd=>iM.mp h d (amq hd)
theorem aag{l:List D}(h:bO l=Ξ) (n:Nat):bO (l.drop n)=Ξ:=iM.mpr λd hd=>iM.mp h d (am9 hd)
end
end L2
namespace HT
open PySem PySem.Spec PyProof.Rows
section
variable {prog:τ}{w:ψ}{A:ω}{E:Θ->ε->Prop}{s:ε}
theorem aer{t sl:Ω}{items:Array Θ}{vl vu:Θ}{lo hi:Option Int}{Q:Θ->ε->Prop}(ht:IsTup s.heap t items) (hs:s.heap.IsSliceOf sl vl vu .none) (pl:adD vl lo) (pu:adD vu hi)
  (hw:bw items.size 0 lo=0/\bw items.size items.size hi=items.size) (h:Q (.ref t) s):wpAny (model prog w) A (getItem (.ref t) (.ref sl)) Q E s:=by
 obtain⟨os,hos,hcs,hds⟩:=id hs;have pS:s.TypeIs (.ref sl) "slice":=⟨os,hos,hcs⟩;unfold getItem
 try with_reducible refine alJ ?_
 first|refine akR (akS ?_)|skip
 refine akR (wpAny_sequenceKey ht.typeIs (by decide) ?_)
 refine akR (amj (name:=Str.ofString "__getitem__") ht.typeIs amE
  (alR amE ht.typeIs entry_tuple_getitem ?_ (args_tuple_getitem _ _)))
 show wpAny _ _ (Builtin.Tuple.tupleItemsOf (.ref t) >>= _) _ _ s;refine akR (tupleItemsOf_ ht ?_);refine akR (amX pS ?_);rw[if_pos (by decide)]
 refine akR (Jm hs pl pu ?_);have hyes:(((bw items.size 0 lo:Nat):Int)==0&&(1:Int)==1&&(bw items.size items.size hi-bw items.size 0 lo)==items.size)=Ξ:=by
  rw[hw.1,hw.2,Nat.sub_zero];simp
 show wpAny _ _ (if(((bw items.size 0 lo:Nat):Int)==0&&(1:Int)==1&&(bw items.size items.size hi-bw items.size 0 lo)==items.size)=Ξ then _ else _) _ _ s
 rw[if_pos hyes];unfold Builtin.Tuple.tupleIsExact;refine akR (akR (amX ht.typeIs (akS ?_)));rw[if_pos (by decide)]
 refine akR (am2 ?_);exact akS ⟨_,rfl,akS h⟩
end
end HT
namespace L2
open PySem PySem.Spec PyProof.Rows
def fF(a:af) (lo hi:Ev->aa->R (Option Int)):af:=λe c=>(a e c).bind λx c=>(lo e c).bind λl c=>(hi e c).bind λu c=>match x with
 |.tup xs=>.ok (.tup (cutD xs l u)) c
 |_=>.bad
section
variable {X:Cx}
def UY(K:Ψ):V->Option Int->Option Int->Hp->VK->Prop:=λx lo hi H Q=>∃a xs,x=.ref a/\bU K H a xs /\
 (HT.bw xs.length 0 lo=0/\HT.bw xs.length xs.length hi=xs.length)/\Q (.ref a) H
theorem S3:oF X (UY X.K):=by
 intro pins s σ H x v vl vu lo hi sl Q I rx hs pl pu h;obtain⟨a,xs,rfl,hx,hw,q⟩:=h;cases rx;obtain⟨its,r,ht,hz⟩:=I.tuple hx;have hlen:its.toArray.size=xs.length:=by rw[ak1];exact r.length.symm
 refine⟨"tuple",_,amE.lookup,ht.typeIs,?_⟩;exact HT.aer ht hs pl pu (by rw[hlen];exact hw) ⟨.ref a,H,I,rfl,q⟩
theorem agf{xs:List D}{l u:Option Int}(h:HT.bw xs.length 0 l=0/\HT.bw xs.length xs.length u=xs.length):cutD xs l u=xs:=by
 unfold cutD;rw[h.1,h.2];simp
theorem kX{e:π}{lo hi:Option π}{p2 pos:Pos}{da:af}{dl dh:Ev->aa->R (Option Int)}(he:aX X e da) (hl:ux X lo dl) (hh:ux X hi dh):aX X (.Subscript e (.Slice lo hi η p2) pos) (fF da dl dh) :=
 (JY (S4.or S3) he hl hh).imp λσ H Q h=>by
  obtain⟨ρ,e,c,W,Vv,p⟩:=h;refine⟨ρ,e,c,W,Vv,post.bind p λx c1 aO H1 v _ W1 X1 r1 p1=>⟨aO,e,c1,W1,Vv.mono W X1,post.bind p1 λl c2 cC H2 l' _ W2 X2 r2 p2=>⟨cC,e,c2,W2,(Vv.mono W X1).mono W1 X2,post.bind p2 λu c3 m5 H3 u' _ W3 X3 r3 p3=>?_⟩⟩⟩
  cases r2;cases r3;have rx:=Rel.mono W1 (X2.trans X3) _ _ r1;split at p3
  ·rename_i xs _;obtain⟨a,ys,rfl,ha,r⟩:=rx
   by_cases hw:HT.bw xs.length 0 l=0/\HT.bw xs.length xs.length u=xs.length
   ·right
    rw[agf hw]at p3;exact⟨a,ys,rfl,bU.of ha,by rw[r.length];exact hw,p3.here W3 ⟨a,ys,rfl,ha,r⟩⟩
   ·left
    exact⟨a,ys,rfl,bU.of ha,by rw[r.length];exact hw,vp W3 (NQ r) p3⟩
  ·exact p3.elim
end
section
variable (e:Ev) (c:aa) (a:af) (lo hi:Ev->aa->R (Option Int))
@[simp] theorem QO:fF a lo hi e c=(a e c).bind λx c=>(lo e c).bind λl c=>(hi e c).bind λu c=>match x with
 |.tup xs=>.ok (.tup (cutD xs l u)) c
 |_=>.bad:=rfl
end
section
variable {X:Cx}{e sx:π}{te:TE}{lo hi:Option π}{tl th ts:TO}{pos p2:Pos}
def insI(x:Int):List Int->List Int
 |[]=>[x]
 |y::l=>if x<=y then x::y::l else y::insI x l
def fD:List Int->List Int
 |[]=>[]
 |x::l=>insI x (fD l)
theorem Er(x:Int):∀l,(insI x l).Perm (x::l)
 |[]=>.refl _
 |y::l=>by
  unfold insI;split
  ·exact .refl _
  ·exact((Er x l).cons y).trans (List.Perm.swap _ _ _)
theorem pM:∀l,(fD l).Perm l
 |[]=>.refl _
 |x::l=>(Er x _).trans ((pM l).cons x)
theorem L6(x:Int):∀{l:List Int},l.Pairwise (·<=·)->(insI x l).Pairwise (·<=·)
 |[],_=>by simp[insI]
 |y::l,h=>by
  obtain⟨h1,h2⟩:=alX.mp h;unfold insI;split
  ·rename_i hx;exact alX.mpr ⟨λb hb=>by
    rcases akV.mp hb with rfl|hb
    ·exact hx
    ·exact Int.le_trans hx (h1 b hb),h⟩
  ·refine alX.mpr ⟨λb hb=>?_,L6 x h2⟩
   rcases akV.mp ((Er x l).mem_iff.mp hb)with rfl|hb
   ·omega
   ·exact h1 b hb
theorem zo:∀l:List Int,(fD l).Pairwise (·<=·)
 |[]=>.nil
 |x::l=>L6 x (zo l)
theorem xT:∀{l m:List Int},l.Perm m->l.Pairwise (·<=·)->m.Pairwise (·<=·)->l=m
 |[],m,p,_,_=>by have:=p.length_eq;cases m with|nil=>rfl|cons a m=>simp at this
 |x::l,[],p,_,_=>by have:=p.length_eq;simp at this
 |x::l,y::m,p,h1,h2=>by
  obtain⟨a1,a2⟩:=alX.mp h1;obtain⟨b1,b2⟩:=alX.mp h2;have e:x=y:=by
   have u:x<=y:=by
    rcases akV.mp (p.mem_iff.mpr (alC (a:=y) (l:=m)))with e|q
    ·omega
    ·exact a1 y q
   have v:y<=x:=by
    rcases akV.mp (p.mem_iff.mp (alC (a:=x) (l:=l)))with e|q
    ·omega
    ·exact b1 x q
   omega
  subst e;rw[xT ((List.perm_cons _).mp p) a2 b2]
def UX(X:Cx):List V->Hp->VK->Prop:=λxs H Q=>∃a ns,xs=[.ref a]/\bC X.K H a (ns.map V.int)/\ns.length<64/\∀p,H p=η->Q (.ref p) (upd H p (.lst ((fD ns).map V.int)))
theorem HQ:∀{ns:List Int}{us:List Θ},acI us ns->Vals (ns.map V.int) us
 |[],_,.nil=>.nil
 |n::ns,_,.cons _ t r=>.cons ⟨t,rfl⟩ (HQ r)
theorem agS:c9 X (.builtin "sorted") (UX X):=by
 intro pins s σ H xs us Q I rv h;obtain⟨a,ns,rfl,sq,hn,q⟩:=h;obtain⟨u,rfl,ru⟩:=alD rv;cases ru;obtain⟨its,ri,pl,hz⟩:=I.list sq;have hl:=ri.length;have EO:acI its ns:=intsAre_of ri;refine sorted_ints pl.isList EO (by rw[<-hl];simpa using hn) λout zs i1 i2 i3=>?_
 have hzs:zs=fD ns:=xT (i2.trans (pM ns).symm) i3 (zo ns);subst hzs;have hf:H (s.heap.objs.size+1)=η:=I.hok.fresh (al5 _);have hne:∀b o,s.heap.get? b=ζ o->s.heap.objs.size≠b/\s.heap.objs.size+1≠b:=λb o e=>⟨alF (akX e),alF (alT (akX e))⟩
 have hsz:((s.heap.push (seqObj "list" #[] 0)).update s.heap.objs.size (Obj.mapSeq (· ++ its.toArray))).objs.size=s.heap.objs.size+1:=by rw[aoJ,alr]
 have lC:(((s.heap.push (seqObj "list" #[] 0)).update s.heap.objs.size (Obj.mapSeq (· ++ its.toArray))).push (seqObj "list" its.toArray 0)).get? (s.heap.objs.size+1)=ζ (seqObj "list" its.toArray 0):=by
  rw[<-hsz];exact ak8 _ rfl
 have g1:=amB lC (λ_=>#[])
 have g2:=amB (akU (seqObj "list" #[] 0) (akU (seqObj "tuple" its.toArray 0) g1)) λ_=>out
 refine⟨.ref (s.heap.objs.size+1),upd H (s.heap.objs.size+1) (.lst ((fD ns).map V.int)),I.laid (t':=s.toks) (λb o e=>?_) (al5 _) ⟨?_,out.toList,_,HQ i1,by rw[aoK];exact g2⟩,rfl,q _ hf⟩
 ·obtain⟨n1,n2⟩:=hne b o e;exact(alS _ _ n2).trans (akU _ (akU _ ((alS _ _ n2).trans (akU _ ((alS _ _ n1).trans (akU _ e))))))
 ·have:=(pM ns).length_eq;rw[ak6,this,ama];omega
def i9:List D->aa->R D:=λxs c=>match xs with
 |[x]=>match dW c x with
  |some l=>match ko l with
   |some ns=>if ns.length<64 then .ok (.lst ((fD ns).map D.int)) c else .bad
   |none=>.bad
  |none=>.bad
 |_=>.bad
theorem ahn:c9 X (.builtin "sorted") (rN X.K i9):=by
 intro pins s σ H vs us Q I rv h;obtain⟨ρ,xs,c,W,rx,p⟩:=h;unfold i9 at p;split at p
 ·obtain⟨v,r',rfl,hx,hr⟩:=rx;cases hr;split at p
  ·rename_i l hl;split at p
   ·rename_i ns hn;split at p
    ·rename_i hb;obtain⟨a,ys,rfl,ha',rl⟩:=kh W hx hl;rw[zu hn]at rl;cases rl.zq;exact agS pins s σ H _ us Q I rv ⟨a,ns,rfl,bC.of ha',hb,kY W aM.ints p⟩
    ·exact p.elim
   ·exact p.elim
  ·exact p.elim
 ·exact p.elim
def bB(i j:Int):List Int:=(θ (j-i).toNat).map λk:Nat=>i+(k:Int)
theorem Rh{f:Nat->Int}{acc:Array Θ}{n:Nat}(h:ItemsOf (λk v=>∃t,v=.int (f k) t) acc n):Vals (((θ n).map f).map V.int) acc.toList:=by
 have hl:acc.toList.length=n:=by rw[ale];exact h.1
 have key:∀(us:List Θ) (o:Nat),(∀(k:Nat) (u:Θ),us[k]? = ζ u->∃t,u=.int (f (o+k)) t)->Vals (((List.range' o us.length).map f).map V.int) us:=by
  intro us
  induction us with
  |nil=>intro o _;exact .nil
  |cons u us ih =>
   intro o hu;rw[ak4,List.range'_succ];obtain⟨t,e⟩:=hu 0 u rfl;refine .cons ⟨t,e⟩ (ih (o+1) λk v hv=>?_)
   have:=hu (k+1) v (by simpa using hv)
   rwa[show o+(k+1)=o+1+k by omega]at this
 have:=key acc.toList 0 λk u hu=>by
  have:=h.2 k u (by rw[<-alx];exact hu)
  rwa[alz]
 rwa[hl,<-List.range_eq_range']at this
def Vc(X:Cx):List V->Hp->VK->Prop:=λxs H Q=>∃p i j,xs=[.ref p]/\H p=ζ (.pq i j)/\(0<=i/\i<j/\j<1000)/\∀l,H l=η->Q (.ref l) (upd H l (.lst ((bB i j).map V.int)))
theorem NU(hc:X.calm=Ξ:=by rfl):c9 X (.type "list") (Vc X):=by
 intro pins s σ H xs us Q I rv h;obtain⟨p,i,j,rfl,hH,hb,q⟩:=h;obtain⟨u,rfl,ru⟩:=alD rv;cases ru;obtain⟨t,u,v,hr⟩:=I.hok p _ hH;have hn:Builtin.Range.rangeSize i j 1=((j-i).toNat:Nat):=by
  unfold Builtin.Range.rangeSize;rw[if_pos (by decide),if_pos hb.2.1,an7]
  omega
 have hsm:Builtin.Range.small i j 1=Ξ:=small_one (by omega) (by omega) (by omega) (by omega)
 refine call_list_range (I.ok.hd hc) hr hsm hn (by omega) λh' tk acc c' kp hg hit=>?_
 have vQ:ItemsOf (λk v=>∃t,v=Value.int ((λk:Nat=>i+(k:Int)) k) t) acc (j-i).toNat:=⟨hit.1,λk v hv=>by
  have:=hit.2 k v hv
  simpa using this⟩
 refine⟨.ref s.heap.objs.size,upd H s.heap.objs.size (.lst ((bB i j).map V.int)),I.laid (t':=tk) kp (akT _) ⟨?_,acc.toList,c',Rh vQ,by rw[aoK];exact hg⟩,rfl,q _ (I.hok.fresh (akT _))⟩
 simp only[bB,ak6,alN];rw[ama];omega
end
open PySem.SeqAt
open AutoSeq1 (wpAny_loadPart')
section
variable {X:Cx}
theorem aew{prog:τ}{w:ψ}{A:ω}{E:Θ->ε->Prop}{s:ε}{t:Ω}{us:List Θ}{Q:List Θ->ε->Prop}(ht:IsTup s.heap t us.toArray) (hz:us.length<=ι)
  (q:Q us {s with heap:=(s.heap.push (seqObj "list" #[] 0)).update s.heap.objs.size (Obj.mapSeq (· ++ us.toArray))}):wpAny (model prog w) A (collect (.ref t)) Q E s:=by
 obtain⟨o,h1,h2,n,h3⟩:=ht;have k1:(s.heap.push (seqObj "list" #[] 0)).get? t=ζ o:=akU _ h1;have CI:(s.heap.push (seqObj "list" #[] 0)).get? s.heap.objs.size=ζ (seqObj "list" #[] 0):=ak8 _ rfl;unfold collect;refine akR (anN (alW entry_proto_collect' ?_));show wpAny _ _ (do again (.builtin "list.__iadd__" ⟨[<-newList [],.ref t],[]⟩)) _ _ s
 refine akR (aoI (akS ⟨am8 _ (by decide +kernel),alW entry_list_iadd' ?_⟩))
 show wpAny _ _ (Builtin.List.listExtendWith (.ref s.heap.objs.size) (.ref t) (.ref s.heap.objs.size)) _ _ {s with heap:=s.heap.push (seqObj "list" #[] 0)}
 unfold Builtin.List.listExtendWith;refine akR (amX (T:="tuple") ⟨o,k1,h2⟩ ?_);have tt:(Value.type "tuple"==Value.type "tuple")=Ξ:=rfl;rw[if_pos (by rw[tt];simp)]
 refine akR (listItems_at k1 h3 (akR (listItems_at CI rfl ?_)));rw[if_neg (by simp)]
 refine akR (listUpdate_at CI rfl ?_ (alV _) (by show(#[]++us.toArray).size<=ι+1;rw[Array.size_append,ak1];simp only[ak1,ali];omega))
 refine akS ?_;show wpAny (model prog w) A (load s.heap.objs.size >>= _) Q E _;refine akR (wpAny_load (amB CI _) ?_);show wpAny _ _ (pure ((#[]:Array Θ)++us.toArray).toList) Q E _;have eu:((#[]:Array Θ)++us.toArray).toList=us:=by simp
 rw[eu];exact akS q
theorem SR{prog:τ}{w:ψ}{A:ω}{E:Θ->ε->Prop}{s:ε}{l:Ω}{vs:List Θ}{ns:List Int}{Q:Θ->ε->Prop}(hl:IsTup s.heap l vs.toArray) (hI:acI vs ns) (h64:vs.length<64)
  (h:∀(out:Array Θ) (ns':List Int),acI out.toList ns'->ns'.Perm ns->ns'.Pairwise (·<=·)->Q (.ref (s.heap.objs.size+1)) {s with heap:=sortedAll s.heap vs out}) :
  wpAny (model prog w) A (call (.builtin "sorted") [.ref l]) Q E s:=by
 have hz:vs.length<=ι:=by rw[ama];omega
 have e1:((s.heap.push (seqObj "list" #[] 0)).update s.heap.objs.size (Obj.mapSeq (· ++ vs.toArray))).objs.size=s.heap.objs.size+1:=by
  rw[aoJ,size_push']
 have e2:(((s.heap.push (seqObj "list" #[] 0)).update s.heap.objs.size (Obj.mapSeq (· ++ vs.toArray))).push (seqObj "list" vs.toArray 0)).get? (s.heap.objs.size+1)=ζ (seqObj "list" vs.toArray 0):=by
  rw[<-e1];exact ak8 _ rfl
 refine apG kind_sorted plain_sorted entry_sorted (args_sorted1 _) ?_;unfold Builtin.«sorted»;refine akR (m:=checkCount "sorted" 1 1 _) (akS (akR (aew hl hz (akR (aoI ?_)))));show wpAny _ _ _ _ _ {s with heap:=((s.heap.push (seqObj "list" #[] 0)).update s.heap.objs.size (Obj.mapSeq (· ++ vs.toArray))).push (seqObj "list" vs.toArray 0)}
 rw[e1];refine akR (alJ (alR slot_list_sort ⟨_,e2,rfl⟩ entry_list_sort (list_sort_tree e2 hI h64 λout ns' a1 a2 a3=>⟨_,rfl,akS ⟨_,rfl,h out ns' a1 a2 a3⟩⟩) (args_list_sort _)))
def UU(X:Cx):List V->Hp->VK->Prop:=λxs H Q=>∃a ns,xs=[.ref a]/\bU X.K H a (ns.map V.int)/\ns.length<64/\∀p,H p=η->Q (.ref p) (upd H p (.lst ((fD ns).map V.int)))
theorem agQ:c9 X (.builtin "sorted") (UU X):=by
 intro pins s σ H xs us Q I rv h;obtain⟨a,ns,rfl,sq,hn,q⟩:=h;obtain⟨u,rfl,ru⟩:=alD rv;cases ru;obtain⟨its,ri,pl,hz⟩:=I.tuple sq;have hl:=ri.length;have EO:acI its ns:=intsAre_of ri;refine SR pl EO (by rw[<-hl];simpa using hn) λout zs i1 i2 i3=>?_
 have hzs:zs=fD ns:=xT (i2.trans (pM ns).symm) i3 (zo ns);subst hzs;have hf:H (s.heap.objs.size+1)=η:=I.hok.fresh (al5 _);have hsz:((s.heap.push (seqObj "list" #[] 0)).update s.heap.objs.size (Obj.mapSeq (· ++ its.toArray))).objs.size=s.heap.objs.size+1:=by rw[aoJ,alr]
 have lC:(((s.heap.push (seqObj "list" #[] 0)).update s.heap.objs.size (Obj.mapSeq (· ++ its.toArray))).push (seqObj "list" its.toArray 0)).get? (s.heap.objs.size+1)=ζ (seqObj "list" its.toArray 0):=by
  rw[<-hsz];exact ak8 _ rfl
 have g1:=amB lC (λ_=>#[])
 have g2:=amB (akU (seqObj "list" #[] 0) (akU (seqObj "tuple" its.toArray 0) g1)) λ_=>out
 refine⟨.ref (s.heap.objs.size+1),upd H (s.heap.objs.size+1) (.lst ((fD ns).map V.int)),I.laid (t':=s.toks) (λb o e=>?_) (al5 _) ⟨?_,out.toList,_,HQ i1,by rw[aoK];exact g2⟩,rfl,q _ hf⟩
 ·have n1:s.heap.objs.size≠b:=alF (akX e);have n2:s.heap.objs.size+1≠b:=alF (alT (akX e));exact(alS _ _ n2).trans (akU _ (akU _ ((alS _ _ n2).trans (akU _ ((alS _ _ n1).trans (akU _ e))))))
 ·have:=(pM ns).length_eq;rw[ak6,this,ama];omega
def jy:List D->aa->R D:=λxs c=>match xs with
 |[.tup l]=>match ko l with
  |some ns=>if ns.length<64 then .ok (.lst ((fD ns).map D.int)) c else .bad
  |none=>.bad
 |_=>.bad
theorem ahm:c9 X (.builtin "sorted") (rN X.K jy):=by
 intro pins s σ H vs us Q I rv h;obtain⟨ρ,xs,c,W,rx,p⟩:=h;unfold jy at p;split at p
 ·obtain⟨v,r',rfl,hx,hr⟩:=rx;cases hr;split at p
  ·rename_i ns hn;split at p
   ·rename_i hb;obtain⟨a,ys,rfl,ha',rl⟩:=hx;rw[zu hn]at rl;cases rl.zq;exact agQ pins s σ H _ us Q I rv ⟨a,ns,rfl,bU.of ha',hb,kY W aM.ints p⟩
   ·exact p.elim
  ·exact p.elim
 ·exact p.elim
def U6:List V->Hp->VK->Prop:=λxs H Q=>∃j,xs=[.int j]/\∀p,H p=η->Q (.ref p) (upd H p (.pq 0 j))
theorem NT:c9 X (.type "range") U6:=by
 intro pins s σ H xs us Q I rv h;obtain⟨j,rfl,q⟩:=h;obtain⟨u,rfl,ru⟩:=alD rv;obtain⟨t,rfl⟩:=ru;refine call_range_1 ⟨.ref s.heap.objs.size,upd H s.heap.objs.size (.pq 0 j),I.laid (t':=s.toks+1+1) (λb o e=>akU _ e) (akT _) ?_,rfl,q _ (I.hok.fresh (akT _))⟩
 exact⟨_,_,_,ak8 _ rfl⟩
def jo(a:aj):af:=λe c=>(a e c).bind λxs c=>match xs with
 |[.int j]=>if 0<j/\j<1000 then .ok (.lst ((bB 0 j).map D.int)) c else .bad
 |_=>.bad
theorem J4{a:π}{da:aj}{p1 p2 q1 q2:Pos}(ha:fq X [a] da) (hm:X.mg "list"=η) (hm2:X.mg "range"=η) (hg:Gl X "list":=by rfl) (jM:Gl X "range":=by rfl) (hc:X.calm=Ξ:=by rfl)
  (he:μ [a] X.env=(ξ,eval a X.env)::μ [] X.env:=by exact b7 rfl) (hb:(acF q2 (μ [] X.env)).any (·.1)=ξ:=by exact ff rfl):aX X (.Call (.Name "list" p1) [.Call (.Name "range" p2) [a] [] q2] [] q1) (jo da):=by
 have hr:PE X (.Call (.Name "range" p2) [a] [] q2) _:=nB NT jM hm2 (by decide +kernel) ha (by decide) (by decide) he hb
 refine(nB (NU hc) hg hm (by decide +kernel) (jB hr jA (b7 rfl)) (by decide) (by decide) (by exact b7 rfl) (by exact ff rfl)).imp λσ H Q h=>?_
 obtain⟨ρ,e,c,W,V,p⟩:=h;refine⟨ρ,e,c,W,V,post.bind p λxs c1 aO H1 vs ex W1 X1 r1 p1=>?_⟩
 clear ex;split at p1
 ·rename_i j;obtain⟨v,r,rfl,hx,hr2⟩:=r1;cases hr2;cases hx;split at p1
  ·rename_i hb;refine⟨j,rfl,λp hp=>⟨p,0,j,rfl,fS,⟨aoL _,hb.1,hb.2⟩,λl hl=>?_⟩⟩
   exact kY (W1.fresh hp) aM.ints (post.ext p1 (Ext.fresh W1 hp)) l hl
  ·exact p1.elim
 ·exact p1.elim
def sI:D->D->aa->R D:=λx y c=>match x,y with
 |.bl a,.bl b=>.ok (.bl (!decide (a=b))) c
 |_,_=>.bad
theorem Zn:bN X (compareOp .IsNot) (r2 X.K sI):=by
 intro pins s σ H v u vv uu Q I rv ru h;obtain⟨ρ,x,y,c,W,rx,ry,p⟩:=h;unfold sI at p;split at p
 ·rename_i a b;cases rx;cases ry;cases rv;cases ru;refine wpAny_isNot_plain rfl (cU I (p.here W rfl) ?_);cases a<;>cases b<;>rfl
 ·exact p.elim
def Vb(X:Cx):List V->Hp->VK->Prop:=λxs H Q=>∃a ns,xs=[.ref a]/\H a=ζ (.ext (nj X.w a ns))/\(cE ns).length<64/\Q (.int ((cE ns).length:Nat)) H
theorem agW:c9 X (.builtin "len") (Vb X):=by
 intro pins s σ H xs us Q I rv h;obtain⟨a,ns,rfl,hH,hn,q⟩:=h;obtain⟨u,rfl,ru⟩:=alD rv;cases ru;obtain⟨hS,_,_⟩:=I.hok a _ hH;obtain⟨o,es,ep,t,ho,hex,hd,hI,hl,hs⟩:=hS;have he:es.size=(cE ns).length:=by rw[<-ale,xP];exact hs.len
 refine call_len_set ho hex hd hI.fits (by rw[he];omega) ⟨.int ((cE ns).length:Nat),H,I.tok _,⟨_,by rw[he]⟩,q⟩
def tK(a:aj):af:=λe c=>(a e c).bind λxs c=>match xs with
 |[x]=>match vq c x with
  |some ns=>.ok (.int ((cE ns).length:Nat)) c
  |none=>.bad
 |_=>.bad
theorem Xv{a:π}{da:aj}{p0 p1 q0 q1:Pos}(ha:fq X [a] da) (hm:X.mg "len"=η) (hm2:X.mg "set"=η) (hg:Gl X "len":=by rfl) (jM:Gl X "set":=by rfl) (hc:X.calm=Ξ:=by rfl)
  (he:μ [a] X.env=(ξ,eval a X.env)::μ [] X.env:=by exact b7 rfl) :
  aX X (.Call (.Name "len" p0) [.Call (.Name "set" p1) [a] [] q1] [] q0) (tK da):=by
 have h1:PE X (.Call (.Name "set" p1) [a] [] q1) _:=nB (agU hc) jM hm2 (by decide +kernel) ha (by decide) (by decide) he (by exact ff rfl)
 refine(ym agW hg hm (by decide +kernel) (jB h1 jA (b7 rfl)) (by decide) (by decide) (by exact b7 rfl) (by exact ff rfl)).imp λσ H Q h=>?_
 obtain⟨ρ,e,c,W,V,p⟩:=h;refine⟨ρ,e,c,W,V,post.bind p λxs c1 aO H1 vs ex W1 X1 r1 p1=>?_⟩
 clear ex;split at p1
 ·rename_i x;obtain⟨v,r,rfl,hx,hr⟩:=r1;cases hr;split at p1
  ·rename_i ns hn;obtain⟨ad,rfl,sq,h64,hx'⟩:=aan W1 hx hn;refine⟨ad,ns,rfl,sq,h64,hx',λpa hpa=>⟨pa,ns,rfl,fS,h64,?_⟩⟩
   exact(post.ext p1 (Ext.fresh W1 hpa)).here (W1.fresh hpa) rfl
  ·exact p1.elim
 ·exact p1.elim
end
section
variable (o a:af) (b:aj) (e:Ev) (c:aa)
@[simp] theorem ajo(a b:Bool):sI (.bl a) (.bl b) c=.ok (.bl (!decide (a=b))) c:=rfl
@[simp] theorem ajl:jo b e c=(b e c).bind λxs c=>match xs with
 |[.int j]=>if 0<j/\j<1000 then .ok (.lst ((bB 0 j).map D.int)) c else .bad
 |_=>.bad:=rfl
end
def m9:D->D->aa->R D:=λx y c=>match x,y with
 |.int i,.int j=>.ok (.int (Builtin.bitXor i j)) c
 |_,_=>.bad
def tG(o a:af):af:=λe c=>(o e c).bind λx c=>match x with
 |.ref k=>(a e c).bind λi c=>match i,c[k]? with
  |.int i,ζ (.lst l)=>if 0<=i/\i<l.length/\l.length<1000 then(match l[i.toNat]? with|some d=>.ok d (c.set k (.lst (l.eraseIdx i.toNat)))|none=>.bad)else .bad
  |_,_=>.bad
 |_=>.bad
def wu(a:aj):af:=λe c=>(a e c).bind λxs c=>match xs with
 |[.int j]=>if 0<j/\j<1000 then .ok (.ref c.length) (c++[.lst ((bB 0 j).map D.int)])else .bad
 |_=>.bad
section
variable {X:Cx}
theorem YM:bN X (binaryOp .BitXor) (r2 X.K m9):=by
 intro pins s σ H v u vv uu Q I rv ru h;obtain⟨ρ,x,y,c,W,rx,ry,p⟩:=h;unfold m9 at p;split at p
 ·cases rx;cases ry;exact XU pins s σ H _ _ vv uu Q I rv ru ⟨_,_,rfl,rfl,p.here W rfl⟩
 ·exact p.elim
theorem Xr{o a:π}{dO da:af}{apos cpos:Pos}(ho:aX X o dO) (ha:aX X a da)
  (hbase:ado o "pop" X.env (eval o X.env)=eval o X.env:=by rfl)
  (hfew:((acF cpos (μ [a] X.env)).all (λx=>!x.1)&&(adt cpos (adj [] X.env)).all (λx=>x.1.isSome)
   && decide ([a].length+([]:List adm).length+(if([]:List adm).isEmpty then 0 else 1)<30))=Ξ:=by exact uL rfl)
  (hline:(apos.endLine==cpos.line)=Ξ:=by rfl) (hs:μ [a] X.env=(ξ,eval a X.env)::μ [] X.env:=by exact b7 rfl) (hplain:(acF cpos (μ [] X.env)).any (·.1)=ξ:=by exact ff rfl) :
  aX X (.Call (.Attribute o "pop" apos) [a] [] cpos) (tG dO da) :=
 (u7 am6 PySem.F.slot_list_pop PySem.F.type_list_pop aa3 ho (jB ha jA hs) hbase hfew hline hs hplain).imp λσ H Q h=>by
  obtain⟨ρ,e,c,W,V,p⟩:=h;refine⟨ρ,e,c,W,V,post.bind p λx c1 aO H1 v _ W1 X1 r1 p1=>?_⟩
  cases x with
  |ref k =>
   obtain⟨ad,rfl,hk⟩:=r1;obtain⟨xs,hx⟩:=W1.at' (alv hk);refine⟨.inl ⟨rfl,xs,bC.of hx⟩,aO,e,c1,W1,V.mono W X1,post.bind p1 λi c2 cC H2 ui _ W2 X2 r2 p2=>?_⟩
   split at p2
   ·rename_i i' l hl _;split at p2
    ·rename_i hh;cases r2;have hk2:=X2.pre k ad hk;obtain⟨nr,ys,hy,rl⟩:=W2.gk k ad _ hk2 hl;split at p2
     ·rename_i d hd;obtain⟨y,hy1,ry⟩:=rl.get hd;have hlen:=rl.length;refine⟨ad,ys,i',i'.toNat,y,rfl,rfl,hy,by omega,by omega,?_,hy1,?_⟩
      ·have e0:(if i'<0 then i'+(ys.length:Int)else i')=i':=if_neg (by omega)
       unfold seqIndex?;simp only[e0];rw[if_pos (by simp only[ak9,decide_eq_true_eq];omega)]
      ·rw[anf]at p2 ⊢;refine p2 cC _ y (W2.write hk2 ?_ ((rl.take _).append (rl.drop _))) (Ext.write hk2) (Rel.mono W2 (Ext.write hk2) _ _ ry);rw[vn,aaf nr,aag nr];rfl
     ·exact p2.elim
    ·exact p2.elim
   ·exact p2.elim
  |_=>exact p1.elim
theorem Xs{a:π}{da:aj}{p1 p2 q1 q2:Pos}(ha:fq X [a] da) (hm:X.mg "list"=η) (hm2:X.mg "range"=η) (hg:Gl X "list":=by rfl) (jM:Gl X "range":=by rfl) (hc:X.calm=Ξ:=by rfl)
  (he:μ [a] X.env=(ξ,eval a X.env)::μ [] X.env:=by exact b7 rfl) (hb:(acF q2 (μ [] X.env)).any (·.1)=ξ:=by exact ff rfl):aX X (.Call (.Name "list" p1) [.Call (.Name "range" p2) [a] [] q2] [] q1) (wu da):=by
 have hr:PE X (.Call (.Name "range" p2) [a] [] q2) _:=nB NT jM hm2 (by decide +kernel) ha (by decide) (by decide) he hb
 refine(nB (NU hc) hg hm (by decide +kernel) (jB hr jA (b7 rfl)) (by decide) (by decide) (by exact b7 rfl) (by exact ff rfl)).imp λσ H Q h=>?_
 obtain⟨ρ,e,c,W,V,p⟩:=h;refine⟨ρ,e,c,W,V,post.bind p λxs c1 aO H1 vs ex W1 X1 r1 p1=>?_⟩
 clear ex;split at p1
 ·rename_i j;obtain⟨v,r,rfl,hx,hr2⟩:=r1;cases hr2;cases hx;split at p1
  ·rename_i hb;refine⟨j,rfl,λp hp=>⟨p,0,j,rfl,fS,⟨aoL _,hb.1,hb.2⟩,λl hl=>?_⟩⟩
   have nr:bO ((bB 0 j).map D.int)=Ξ:=iM.mpr λd hd=>by
    obtain⟨i,_,rfl⟩:=akW.mp hd;rfl
   exact CH (W1.fresh hp) nr aM.ints (post.ext p1 (Ext.fresh W1 hp)) l hl
  ·exact p1.elim
 ·exact p1.elim
end
section
variable (o a:af) (b:aj) (e:Ev) (c:aa)
@[simp] theorem QM(i j:Int):m9 (.int i) (.int j) c=.ok (.int (Builtin.bitXor i j)) c:=rfl
@[simp] theorem Q2:wu b e c=(b e c).bind λxs c=>match xs with
 |[.int j]=>if 0<j/\j<1000 then .ok (.ref c.length) (c++[.lst ((bB 0 j).map D.int)])else .bad
 |_=>.bad:=rfl
end
def aiY(H:Hp) (ts:List Ω):Prop:=∀b,H b=η\/(∃o xs,H b=ζ (.fE o (.lst xs)))\/(b∈ts/\H b=ζ (.fc #[]))
theorem abz{P:τ}{w:ψ}{K:Ψ}{mg mb:Str->Option Θ}{k:Nat}{fa a:Ω}{fd:ο}{x:Str}{sp:Sp}{s₁:ε}{vs:List Θ}{ns:List Int}{ts:List (Ω×Ω)}
  (KX:K.In s₁.heap) (hns:s₁.heap.Ns Δ mg) (hb:s₁.heap.Ns builtinsNs mb) (hbb:∀x:Str,x≠"__name__"->mb x=bootBuiltins x) (hlim:s₁.heap.NoLimit)
  (hbm:∃bm ob,mg "__builtins__"=ζ (.ref bm)/\bm≠builtinsNs/\s₁.heap.get? bm=ζ ob/\ob.cls=.type "module"/\ob.dict=ζ builtinsNs/\ob.data=.plain) (hg:s₁.gens=#[])
  (ha:s₁.heap.get? a=ζ {cls:=.type "list",data:=.seq vs.toArray}) (hi:acI vs ns) (hl:ns.length<=ι) (hr:eB k callerA)
  (pS:∀q∈ts,PySem.W.codeHdIn K q.1 q.2=Ξ/\s₁.heap.get? q.2=ζ (PySem.W.tabObj #[])) (hKt:PySem.W.noTabs K=Ξ)
  (F:∀base:χ,K.In base->base.Ns Δ mg->bX P w K mg base bY k fa fd [x] sp) (hbind:∀(s:ε) (u:Θ),adI s fd ⟨[u],[]⟩ [(x,u)])
  (jK:∀H:Hp,(∀q∈ts,H q.2=ζ (.fc #[]))->bC K H a (ns.map V.int)->sp [.ref a] H (λv _=>v=.bl Ξ) λ_ _ _=>False) :
  codeAny (model P w) callerA (.call (.ref fa) ⟨[.ref a],[]⟩) (λr s'=>r=.ok (.ret (.bool Ξ))/\OldK s₁.heap s'.heap/\s'.os=s₁.os/\adp s'.gens) s₁:=by
 have rv:=Iw hi;have abp:=hi.length;have nR:∀b,b∈ts.map (·.2)->s₁.heap.get? b=ζ (PySem.W.tabObj #[]):=λb h=>by
  obtain⟨q,hq,rfl⟩:=akW.mp h;exact(pS q hq).2
 have nat:a∉ts.map (·.2):=λh=>by have:=nR a h;rw[ha]at this;cases this
 have core:∀H:Hp,aiY H (ts.map (·.2))->(∀q∈ts,H q.2=ζ (.fc #[]))->bC K H a (ns.map V.int)->cT P w H s₁.heap->(∀b,H b≠η->b=a\/b∈ts.map (·.2))->(H a≠η->K.lookup a=η) ->
   codeAny (model P w) callerA (.call (.ref fa) ⟨[.ref a],[]⟩) (λr s'=>r=.ok (.ret (.bool Ξ))/\OldK s₁.heap s'.heap/\s'.os=s₁.os/\adp s'.gens) s₁:=by
  intro H hO hT hS hok hA hK;have Hw:∀{b:Ω}{o:Obj},s₁.heap.get? b=ζ o->H b=η->(lD s₁.heap H).get? b=ζ o:=λe n=>adM e n
  have noB:∀{b:Ω}{o:Obj},s₁.heap.get? b=ζ o->o.cls≠.type "list"->o.cls≠.none->H b=η:=fun{b o} e d1 d2=>by
   cases q:H b with
   |none=>rfl
   |some u =>
    rcases hA b (by rw[q];simp)with e'|e'
    ·subst e';rw[ha]at e;cases e;exact absurd rfl d1
    ·rw[nR b e']at e;cases e;exact absurd rfl d2
  have vo:∀{b:Ω}{o:Obj}{es:Array DictEntry}{ep:Nat},s₁.heap.get? b=ζ o->o.data=.dict es ep->H b=η:=fun{b o es ep} e d=>by
   cases q:H b with
   |none=>rfl
   |some u =>
    rcases hA b (by rw[q];simp)with e'|e'
    ·subst e';rw[ha]at e;cases e;have d':Data.seq vs.toArray _=Data.dict es ep:=d;cases d'
    ·rw[nR b e']at e;cases e;have d':Data.fields #[]=Data.dict es ep:=d;cases d'
  have yU:∀{b:Ω}{m:Str->Option Θ},s₁.heap.Ns b m->(lD s₁.heap H).Ns b m:=fun{b m} ⟨o,es,ep,e,d,r⟩=>⟨o,es,ep,Hw e (vo e d),d,r⟩
  have MH:K.In (lD s₁.heap H):=λb o e=>Hw (KX b o e) (by
   cases q:H b with
   |none=>rfl
   |some u =>
    rcases hA b (by rw[q];simp)with e'|e'
    ·subst e';rw[hK (by rw[q];simp)]at e;cases e
    ·have h1:=KX b o e;rw[nR b e']at h1;cases h1;have h2:=ak0.mp hKt (b,_) (PySem.W.mem_of_lookupK e);exact absurd (show ξ=Ξ from h2) alf)
  have hM:Mod K mg (lD s₁.heap H):=⟨MH,yU hns,⟨mb,yU hb,hbb⟩,let⟨mc,h1,h2⟩:=hlim;⟨mc,yU h1,h2⟩,let⟨bm,ob,b1,b2,b3,b4,b5⟩:=hbm;⟨bm,ob,b1,b2,Hw b3 (noB b3 (by rw[b4];simp) (by rw[b4];simp)),b4,b5⟩⟩
  have e0:uz P w K mg (lD s₁.heap H) callerA [] s₁ H:=⟨rfl,hM,λb o e=>YL e,amn (adL _ _),trivial,λb hb=>absurd (show b∈([]:List Ω)from hb) (by simp),hok,.of_eq hg⟩
  refine al1 ((F _ MH (yU hns)).run callerA [] s₁ H ⟨[.ref a],[]⟩ [.ref a] [.ref a] _ _ hr e0 (hbind s₁ (.ref a)) (.cons rfl .nil) (jK H hT hS)) λr s' h=>?_
  cases r with
  |error e=>exact False.elim h
  |ok fl =>
   cases fl with
   |next=>exact False.elim h
   |brk=>exact False.elim h
   |cont=>exact False.elim h
   |ret u =>
    obtain⟨v,H',os,bare,un,zA,r',q⟩:=h;have q':v=.bl Ξ:=q;subst q';obtain rfl:u=Value.bool Ξ:=r';have main:∀b o,s₁.heap.get? b=ζ o->s'.heap.get? b=ζ o\/(b∈ts.map (·.2)/\o=PySem.W.tabObj #[]/\∃ps,s'.heap.get? b=ζ (PySem.W.tabObj ps)):=λb o e=>by
     rcases hO b with z|⟨ob,xs,z⟩|⟨hm,z⟩
     ·exact .inl (un.keep b o e z (by intro z;exact absurd (show b∈([]:List Ω)from z) (by simp)) (by simp))
     ·have z2:=un.gX b ob _ z;obtain⟨e1,_⟩:=hok b _ z;obtain⟨e2,_⟩:=zA b _ z2;rw[e]at e1;cases e1;exact .inl e2
     ·obtain⟨more,z2⟩:=un.gT b _ z;have e2:s'.heap.get? b=ζ (PySem.W.tabObj (#[]++more)):=zA b _ z2;have e1:=nR b hm;rw[e]at e1;cases e1;exact .inr ⟨hm,rfl,_,e2⟩
    refine⟨rfl,⟨λb o e=>?_,λb o e=>?_⟩,os,bare⟩
    ·rcases main b o e with z|⟨hm,rfl,ps,z⟩
     ·exact .inl z
     ·obtain⟨q,hq,rfl⟩:=akW.mp hm;have hC:=PySem.W.codeHd_of_K KX (pS q hq).1;exact .inr (.inl ⟨(hC.tab (pS q hq).2).isCodeTable,rfl,#[],ps,rfl,by rw[Array.empty_append];exact z⟩)
    ·rcases main b o e with z|⟨_,_,ps,z⟩
     ·exact⟨o,z⟩
     ·exact⟨_,z⟩
 have ajA:∀(H:Hp) b,H b=ζ (.fc #[])->b∈ts.map (·.2)->eY P w H s₁.heap b (.fc #[]):=λH b _ h=>nR b h
 cases hk:K.lookup a with
 |some o =>
  have e:=KX a o hk;rw[ha]at e;cases e
  let H:Hp:=λb=>if b∈ts.map (·.2)then ζ (.fc #[])else η
  refine core H (λb=>?_) (λq hq=>if_pos (apI hq)) (.inr ⟨_,vs.toArray,_,hk,rfl,rfl,rfl,by rw[ak1,abp];exact hl,by simpa using rv⟩) (λb u z=>?_) (λb z=>?_) λz=>absurd (if_neg nat) z
  ·by_cases hb:b∈ts.map (·.2)
   ·exact .inr (.inr ⟨hb,if_pos hb⟩)
   ·exact .inl (if_neg hb)
  ·by_cases hb:b∈ts.map (·.2)
   ·have z':=(if_pos hb).symm.trans z;cases z';exact nR b hb
   ·have z':=(if_neg hb).symm.trans z;cases z'
  ·by_cases hb:b∈ts.map (·.2)
   ·exact .inr hb
   ·exact absurd (if_neg hb) z
 |none =>
  let H:Hp:=λb=>if b∈ts.map (·.2)then ζ (.fc #[])else if b=a then ζ (.fE {cls:=.type "list",data:=.seq vs.toArray} (.lst (ns.map V.int)))else η
  have Ha:H a=ζ (.fE {cls:=.type "list",data:=.seq vs.toArray} (.lst (ns.map V.int))):=(if_neg nat).trans (if_pos rfl);refine core H (λb=>?_) (λq hq=>if_pos (apI hq)) (.inl (.inr ⟨_,Ha⟩)) (λb u z=>?_) (λb z=>?_) λ_=>hk
  ·by_cases hb:b∈ts.map (·.2)
   ·exact .inr (.inr ⟨hb,if_pos hb⟩)
   ·by_cases hb2:b=a
    ·exact .inr (.inl ⟨_,_,(if_neg hb).trans (if_pos hb2)⟩)
    ·exact .inl ((if_neg hb).trans (if_neg hb2))
  ·by_cases hb:b∈ts.map (·.2)
   ·have z':=(if_pos hb).symm.trans z;cases z';exact nR b hb
   ·by_cases hb2:b=a
    ·have z':=((if_neg hb).trans (if_pos hb2)).symm.trans z;cases z';subst hb2;exact⟨ha,by rw[ak6];exact hl,vs,_,rv,ha⟩
    ·have z':=((if_neg hb).trans (if_neg hb2)).symm.trans z;cases z'
  ·by_cases hb:b∈ts.map (·.2)
   ·exact .inr hb
   ·by_cases hb2:b=a
    ·exact .inl hb2
    ·exact absurd ((if_neg hb).trans (if_neg hb2)) z
def BF(K:Ψ) (ts:List (Ω×Ω)):Bool:=LA.all λx=>match PySem.W.tabIn K x with
 |some q=>decide (q∈ts)
 |none=>Ξ
theorem RM{K:Ψ}{H:Hp}{ts:List (Ω×Ω)}(h:BF K ts=Ξ) (hT:∀q∈ts,H q.2=ζ (.fc #[])):wQ K H:=λx hx c P e=>by
 have:=ak0.mp h x hx;rw[e]at this;exact⟨#[],hT (c,P) (of_decide_eq_true this),trivial,λpos cv z=>by cases z⟩
theorem Rf{l:adE}{n k:Nat}{q:τ}{loose:List Str}{XP:(Str->Option Θ)->χ->Prop}{YP:ψ->χ->Prop}{d:DefRec}{K:Params->Ψ}{x:Str}{m:List D->aa->R D}{ts:List (Ω×Ω)}
  (hn:l.most=ζ n) (hn2:n<=ι) (hdf:d.params.defaults=[]) (hr:eB k callerA)
  (hY:∀(w:ψ) (h:χ),YP w h->(K w.params).In h/\∀q∈ts,h.get? q.2=ζ (PySem.W.tabObj #[]))
  (hK:∀p,(ts.all λq=>PySem.W.codeHdIn (K p) q.1 q.2)=Ξ/\PySem.W.noTabs (K p)=Ξ/\BF (K p) ts=Ξ)
  (F:∀(w:ψ) (mg:Str->Option Θ) (fa:Ω) (h:χ),(K w.params).In h->h.Ns Δ mg->mg d.name=ζ (.ref fa) ->
   ∃fd:ο,(∀(s:ε) (u:Θ),adI s fd ⟨[u],[]⟩ [(x,u)]) /\
    ∀base:χ,(K w.params).In base->base.Ns Δ mg->bX l.prog w (K w.params) mg base bY k fa fd [x] (cj (K w.params) 1 m))
  (hm:∀ns:List Int,ns.length<=n->∃c,m [.bL ns] []=.ok (.bl Ξ) c) :
  PySem.W.WalkO q loose XP YP l.row.toRowW d [] (λf vs=>PySem.call f vs):=by
 refine Qx.ahW hn hdf λw s₀ s₁ mg mb fa o pm cd doc a vs ns G Y ho hd hcd hmg hobj hints hlen hg=>?_
 obtain⟨KX,hT⟩:=hY w _ Y;obtain⟨fd,hb,hF⟩:=F w mg fa _ KX G.T.g hmg;obtain⟨k1,k2,k3⟩:=hK w.params;refine abz (ts:=ts) KX G.T.g G.T.b G.T.builtins G.T.nolimit G.T.bmain hg hobj hints (als hlen hn2) hr (λq hq=>⟨ak0.mp k1 q hq,hT q hq⟩) k2 hF hb λH h1 h2=>?_
 obtain⟨c,hc⟩:=hm ns hlen;refine⟨[],[.bL ns],[],⟨.nil,rfl,λk a cl e=>(by cases e),RM k3 h1⟩,⟨.ref a,[],rfl,⟨a,rfl,?_⟩,rfl⟩,rfl,?_⟩
 ·rcases h2 with hS|hS
  ·exact .inl ⟨hS,by simp⟩
  ·exact .inr (.inr hS)
 ·rw[hc];exact λρ' H' b _ _ r=>r
abbrev Pb:=SetTable.Probe
def eW(m:Nat) (p:Pb):Pb:=if p.more>0 then{p with j:=p.j+1,more:=p.more-1}else{p with j:=(p.i*5+1+p.perturb/32) % (m+1),more:=SetTable.runEnd m ((p.i*5+1+p.perturb/32) % (m+1))-(p.i*5+1+p.perturb/32) % (m+1),i:=(p.i*5+1+p.perturb/32) % (m+1),perturb:=p.perturb/32}
theorem aiL(t:aae) (p:Pb):t.advance p=eW t.mask p:=by
 unfold SetTable.advance eW;split<;>rfl
def eL(m:Nat):Nat->Pb->Pb
 |0,p=>p
 |n+1,p=>eL m n (eW m p)
theorem zm(m:Nat):∀(a b:Nat) (p:Pb),eL m (a+b) p=eL m b (eL m a p)
 |0,b,p=>by rw[alz];rfl
 |a+1,b,p=>by
  rw[show a+1+b=(a+b)+1 by omega]
  exact zm m a b (eW m p)
theorem aiM(m:Nat) (p:Pb):(eW m p).dummy=p.dummy:=by unfold eW;split<;>rfl
theorem LP(m:Nat):∀(n:Nat) (p:Pb),(eL m n p).dummy=p.dummy
 |0,_=>rfl
 |n+1,p=>(LP m n (eW m p)).trans (aiM m p)
def ny(m i q:Nat):Pb:=⟨i,SetTable.runEnd m i-i,i,q,η⟩
def gU(m:Nat) (h:Int):Pb:=ny m (SetTable.bits h % (m+1)) (SetTable.bits h)
def jr(m:Nat) (h:Int) (n:Nat):Nat:=(eL m n (gU m h)).j
def Reach(m:Nat) (P:Nat->Prop) (h:Int) (j:Nat):Prop:=∃n,n<10*(m+15)/\jr m h n=j/\∀k,k<n->P (jr m h k)
theorem Reach.mono{m:Nat}{P Q:Nat->Prop}{h:Int}{j:Nat}(r:Reach m P h j) (i:∀k,P k->Q k):Reach m Q h j :=
 let⟨n,h1,h2,h3⟩:=r;⟨n,h1,h2,λk hk=>i _ (h3 k hk)⟩
theorem BO{t:aae}(hu:Up t.place.toList) {j:Nat}(hj:j∈t.place.toList):∃i,t.slot j=.live i/\t.place[i]? = ζ j:=by
 refine⟨SetTable.below t.place j,?_,Hu hu hj⟩;unfold SetTable.slot;dsimp only;rw[Hu hu hj];simp
theorem SX{t:aae}(hd:t.dummies=#[]) {j:Nat}(hj:j∉t.place.toList):t.slot j=.empty:=by
 rcases BN hd j with e|⟨i,e⟩
 ·exact e
 ·unfold SetTable.slot at e;dsimp only at e;split at e
  ·rename_i q;have:=eq_of_beq q;rw[<-alx]at this;exact absurd (alv this) hj
  ·split at e<;>cases e
theorem ES{t:aae}{hashAt:Nat->Int}{h:Int}:∀(n fuel:Nat) (p:Pb),n<=fuel->(∀k,k<n->∃i,t.slot (eL t.mask k p).j=.live i/\(hashAt i==h)=ξ) ->
  SetTable.probe.go t hashAt h fuel p=SetTable.probe.go t hashAt h (fuel-n) (eL t.mask n p)
 |0,fuel,p,_,_=>rfl
 |n+1,0,p,hf,_=>absurd hf (by omega)
 |n+1,fuel+1,p,hf,hk=>by
  obtain⟨i,e,hne⟩:=hk 0 (by omega)
  have e:t.slot p.j=.live i:=e;have ih:=ES (t:=t) (hashAt:=hashAt) (h:=h) n fuel (eW t.mask p) (by omega) λk hk'=>hk (k+1) (by omega)
  rw[show fuel+1-(n+1)=fuel-n by omega]
  show SetTable.probe.go t hashAt h (fuel+1) p=SetTable.probe.go t hashAt h (fuel-n) (eL t.mask n (eW t.mask p));rw[<-ih]
  conv=>lhs;unfold SetTable.probe.go
  rw[e];dsimp only;rw[hne,aiL];simp only[aly,if_false]
theorem Gw{mask:Nat}:∀(n:Nat) (p:Pb) (acc:Nat),gj mask n p.j p.more p.i p.perturb acc=Ξ->∀s,s<=mask->acc.testBit s=ξ->∃k,k<n/\(eL mask k p).j=s
 |0,_,_,h,_,_,_=>by cases h
 |n+1,p,acc,hc,s,hs,ha=>by
  by_cases e:p.j=s
  ·exact⟨0,by omega,e⟩
  ·have ha':(acc |||(1 <<< p.j)).testBit s=ξ:=by
    rw[AZ,ha];simp;exact λq=>e q.symm
   unfold gj at hc;split at hc
   ·rename_i ef;rw[ef,amK]at ha';have:=of_decide_eq_false ha';omega
   ·split at hc
    ·rename_i hm;have pR:eW mask p={p with j:=p.j+1,more:=p.more-1}:=by unfold eW;rw[if_pos hm]
     obtain⟨k,hk,ek⟩:=Gw n (eW mask p) (acc |||(1 <<< p.j)) (by rw[pR];exact hc) s hs ha'
     exact⟨k+1,by omega,ek⟩
    ·rename_i hm;have pR:eW mask p={p with j:=(p.i*5+1+p.perturb/32) % (mask+1),more:=SetTable.runEnd mask ((p.i*5+1+p.perturb/32) % (mask+1))-(p.i*5+1+p.perturb/32) % (mask+1),i:=(p.i*5+1+p.perturb/32) % (mask+1),perturb:=p.perturb/32}:=by
      unfold eW;rw[if_neg hm]
     obtain⟨k,hk,ek⟩:=Gw n (eW mask p) (acc |||(1 <<< p.j)) (by rw[pR];exact hc) s hs ha'
     exact⟨k+1,by omega,ek⟩
theorem least{P:Nat->Prop}:∀(n:Nat),P n->∃k,k<=n/\P k/\∀i,i<k->¬P i:=λn=>by
 induction n using Nat.strongRecOn with
 |_ n ih =>
  intro h
  by_cases q:∃i,i<n/\P i
  ·obtain⟨i,hi,hp⟩:=q;obtain⟨k,h1,h2,h3⟩:=ih i hi hp;exact⟨k,by omega,h2,h3⟩
  ·exact⟨n,akT _,h,λi hi hp=>q ⟨i,hi,hp⟩⟩
structure oJ (h:Int):Prop where
 go:∀m,pG m->gj m (10*(m+15)) (SetTable.bits h % (m+1)) (SetTable.runEnd m (SetTable.bits h % (m+1))-SetTable.bits h % (m+1)) (SetTable.bits h % (m+1)) (SetTable.bits h) 0=Ξ
 lay:∀m,jh m->om m (m+15) (SetTable.bits h % (m+1)) (SetTable.bits h) 0=Ξ
def gW(es:Array (Int×Θ)) (i:Nat):Int:=(Option.map (λx:Int×Θ=>x.fst) es[i]?).getD 0
structure kJ (t:aae) (es:Array (Int×Θ)):Prop where
 size:t.place.size=es.size
 up:Up t.place.toList
 le:∀j∈t.place.toList,j<=t.mask
 dm:t.dummies=#[]
 mask:(t.mask=7/\es.size<=4)\/(t.mask=31/\es.size<=18)\/(t.mask=127/\es.size<=76)
 reach:∀q∈t.place.toList.zip es.toList,Reach t.mask (·∈t.place.toList) q.2.1 q.1
theorem kJ.ok{t:aae}{es:Array (Int×Θ)}(I:kJ t es):pG t.mask:=by
 have:=I.mask;unfold pG;omega
theorem kJ.fits{t:aae}{es:Array (Int×Θ)}(h:kJ t es):t.fits es.size=Ξ:=by
 have:=h.mask;simp only[SetTable.fits,SetTable.fill,h.size,h.dm,ak9,beq_self_eq_true,true_and,decide_eq_true_eq];simp only[ak1,ali];omega
theorem QD{l:List Nat}{r:List (Int×Θ)}{i j:Nat}{e:Int×Θ}(h1:l[i]? = ζ j) (h2:r[i]? = ζ e):(j,e)∈l.zip r:=by
 have:(l.zip r)[i]? = ζ (j,e):=by rw[apc];exact⟨h1,h2⟩
 exact alv this
theorem Ri{l:List Nat}(h:Up l) {i k j:Nat}(h1:l[i]? = ζ j) (h2:l[k]? = ζ j):i=k:=by
 obtain⟨a1,b1⟩:=alb.mp h1;obtain⟨a2,b2⟩:=alb.mp h2
 rcases aop i k with q|q|q
 ·have:=aon.mp h i k a1 a2 q;omega
 ·exact q
 ·have:=aon.mp h k i a2 a1 q;omega
theorem ae1{t:aae}{es:Array (Int×Θ)}(I:kJ t es) {e:Int×Θ}(he:e∈es.toList):∃j i next e',t.probe (gW es) e.1 (t.probeStart e.1)=ζ (.candidate j i next)/\es[i]? = ζ e'/\e'.1=e.1:=by
 obtain⟨i0,hi0,ee⟩:=amJ he;have e1:es.toList[i0]? = ζ e:=by rw[ak7 hi0,ee]
 have hsz:t.place.toList.length=es.toList.length:=by simp[I.size]
 obtain⟨j0,hj0⟩:∃j0,t.place.toList[i0]? = ζ j0:=⟨_,ak7 (by omega)⟩
 obtain⟨n0,hn0,ha0,hl0⟩:=I.reach (j0,e) (QD hj0 e1);have hm0:j0∈t.place.toList:=alv hj0;have hA:∀i e',es[i]? = ζ e'->gW es i=e'.1:=λi e' q=>by unfold gW;rw[q];rfl
 have Sw:∃i,t.slot (jr t.mask e.1 n0)=.live i/\gW es i=e.1:=by
  rw[ha0];obtain⟨i,s1,s2⟩:=BO I.up hm0;rw[<-alx]at s2;have:=Ri I.up s2 hj0;subst this;exact⟨i,s1,hA i e (by rw[<-alx];exact e1)⟩
 obtain⟨n,hn,⟨i,s1,s2⟩,hmin⟩:=least (P:=λn=>∃i,t.slot (jr t.mask e.1 n)=.live i/\gW es i=e.1) n0 Sw
 have hlive:∀k,k<n->∃i,t.slot (eL t.mask k (gU t.mask e.1)).j=.live i/\(gW es i==e.1)=ξ:=λk hk=>by
  obtain⟨i',q1,_⟩:=BO I.up (hl0 k (by omega))
  refine⟨i',q1,?_⟩;cases hb:gW es i'==e.1 with
  |false=>rfl
  |true=>exact absurd ⟨i',q1,eq_of_beq hb⟩ (hmin k hk)
 have Ey:=ES (t:=t) (hashAt:=gW es) (h:=e.1) n (10*SetTable.turns t.mask) (gU t.mask e.1) (by unfold SetTable.turns;omega) hlive
 have hf:∃f,10*SetTable.turns t.mask-n=f+1:=⟨10*SetTable.turns t.mask-n-1,by unfold SetTable.turns;omega⟩
 obtain⟨f,hf⟩:=hf;have hi:∃e',es[i]? = ζ e'/\e'.1=e.1:=by
  have hpl:∃j,t.place[i]? = ζ j:=by
   unfold SetTable.slot at s1;dsimp only at s1;split at s1
   ·rename_i q;cases s1;exact⟨_,eq_of_beq q⟩
   ·split at s1<;>cases s1
  obtain⟨j,hj⟩:=hpl;rw[<-alx]at hj;have hlt:=(alb.mp hj).1;have pO:i<es.toList.length:=by omega
  refine⟨es.toList[i],by rw[<-alx,ak7 pO],?_⟩
  rw[<-s2,hA i es.toList[i] (by rw[<-alx,ak7 pO])]
 obtain⟨e',h1,h2⟩:=hi;refine⟨jr t.mask e.1 n,i,t.advance (eL t.mask n (gU t.mask e.1)),e',?_,h1,h2⟩;show SetTable.probe.go t (gW es) e.1 (10*SetTable.turns t.mask) (gU t.mask e.1)=_;rw[Ey,hf];unfold SetTable.probe.go;have s1:t.slot (eL t.mask n (gU t.mask e.1)).j=.live i:=s1;rw[s1];dsimp only;rw[s2];simp;rfl
theorem aiK{m:Nat}{p:Pb}(h:p.j+p.more<=m):(eW m p).j+(eW m p).more<=m:=by
 unfold eW;split
 ·dsimp only;omega
 ·dsimp only;have:(p.i*5+1+p.perturb/32) % (m+1)<m+1:=amz _ (by omega)
  generalize (p.i*5+1+p.perturb/32) % (m+1)=i at this
  unfold SetTable.runEnd;split<;>omega
theorem LO{m:Nat}:∀(n:Nat) {p:Pb},p.j+p.more<=m->(eL m n p).j+(eL m n p).more<=m
 |0,_,h=>h
 |n+1,_,h=>LO n (aiK h)
theorem Sx(m:Nat) (h:Int):(gU m h).j+(gU m h).more<=m:=by
 have:SetTable.bits h % (m+1)<m+1:=amz _ (by omega)
 unfold gU ny;dsimp only
 generalize SetTable.bits h % (m+1)=i at this
 unfold SetTable.runEnd;split<;>omega
theorem Pd(m:Nat) (h:Int) (n:Nat):jr m h n<=m:=by
 have:=LO n (Sx m h);unfold jr;omega
theorem ae2{t:aae}{es:Array (Int×Θ)}(I:kJ t es) {h:Int}(hc:oJ h) (hno:∀e∈es.toList,e.1≠h) :
  ∃j,t.probe (gW es) h (t.probeStart h)=ζ (.empty j η)/\j∉t.place.toList/\j<=t.mask/\Reach t.mask (·∈t.place.toList) h j:=by
 have hsz:t.place.toList.length=es.toList.length:=by simp[I.size]
 have hM:=I.mask;have hes:es.toList.length=es.size:=by simp
 have hex:∃j,j<=t.mask/\j∉t.place.toList:=anF λq=>by
  have:=Cg (t.mask+1) t.place.toList λj hj=>anF λx=>q ⟨j,by omega,x⟩
  omega
 obtain⟨js,hjs,hjn⟩:=hex;obtain⟨k0,hk0,ek0⟩:=Gw (10*(t.mask+15)) (gU t.mask h) 0 (hc.go t.mask I.ok) js hjs (by simp)
 obtain⟨n,hn,hs,hmin⟩:=least (P:=λn=>jr t.mask h n∉t.place.toList) k0 (by show(eL t.mask k0 (gU t.mask h)).j∉_;rw[ek0];exact hjn)
 have hin:∀k,k<n->jr t.mask h k∈t.place.toList:=λk hk=>anF λx=>hmin k hk x
 have hA:∀i e',es[i]? = ζ e'->gW es i=e'.1:=λi e' q=>by unfold gW;rw[q];rfl
 have hlive:∀k,k<n->∃i,t.slot (eL t.mask k (gU t.mask h)).j=.live i/\(gW es i==h)=ξ:=λk hk=>by
  obtain⟨i,q1,q2⟩:=BO I.up (hin k hk);refine⟨i,q1,?_⟩;rw[<-alx]at q2;have hlt:=(alb.mp q2).1;have pO:i<es.toList.length:=by omega
  have hq:es[i]? = ζ es.toList[i]:=by rw[<-alx,ak7 pO]
  rw[hA i _ hq];exact beq_false_of_ne (hno _ (alH pO))
 have Ey:=ES (t:=t) (hashAt:=gW es) (h:=h) n (10*SetTable.turns t.mask) (gU t.mask h) (by unfold SetTable.turns;omega) hlive
 obtain⟨f,hf⟩:∃f,10*SetTable.turns t.mask-n=f+1:=⟨10*SetTable.turns t.mask-n-1,by unfold SetTable.turns;omega⟩
 refine⟨jr t.mask h n,?_,hs,?_,n,by omega,rfl,hin⟩
 ·show SetTable.probe.go t (gW es) h (10*SetTable.turns t.mask) (gU t.mask h)=_;rw[Ey,hf];unfold SetTable.probe.go;have s1:t.slot (eL t.mask n (gU t.mask h)).j=.empty:=SX I.dm hs;rw[s1];dsimp only;rw[LP];rfl
 ·exact Pd _ h n
theorem QC{l:Array Nat}{r:Array (Int×Θ)}(hs:l.size=r.size) {p j:Nat}{e:Int×Θ}:∀q∈(SetTable.insertAt l p j).toList.zip (SetTable.insertAt r p e).toList,q=(j,e)\/q∈l.toList.zip r.toList:=by
 intro q hq;rw[anE,anE]at hq;have hl:(l.toList.take p).length=(r.toList.take p).length:=by simp[hs]
 rw[apJ hl,List.zip_cons_cons,alj,akV]at hq;have hz:l.toList.zip r.toList=(l.toList.take p).zip (r.toList.take p)++(l.toList.drop p).zip (r.toList.drop p):=by
  rw[<-apJ hl,amy,amy]
 rw[hz,alj]
 rcases hq with q|q|q
 ·exact .inr (.inl q)
 ·exact .inl q
 ·exact .inr (.inr q)
theorem Vs{t:aae}{es:Array (Int×Θ)}(I:kJ t es) {h:Int}{x:Θ}{j:Nat}(hj:j∉t.place.toList) (hle:j<=t.mask) (hr:Reach t.mask (·∈t.place.toList) h j) :
  (SetTable.insertAt es (SetTable.below t.place j) (h,x)).size=es.size+1/\(t.put j).1.place.size=es.size+1/\Up (t.put j).1.place.toList/\(∀k∈(t.put j).1.place.toList,k<=t.mask)/\(t.put j).1.dummies=#[] /\
   (∀q∈(t.put j).1.place.toList.zip (SetTable.insertAt es (SetTable.below t.place j) (h,x)).toList,Reach t.mask (·∈(t.put j).1.place.toList) q.2.1 q.1):=by
 have hsz:=I.size;have hnd:(if SetTable.has t.dummies j then SetTable.eraseAt t.dummies (SetTable.below t.dummies j)else t.dummies)=#[]:=by
  rw[I.dm];rfl
 have hmem:∀k,k∈(SetTable.insertAt t.place (SetTable.below t.place j) j).toList↔k∈t.place.toList\/k=j:=λk=>by
  rw[(amL t.place (SetTable.below t.place j) j).mem_iff,anI,alj,alw]
 refine⟨?_,?_,Iz I.up hj,λk hk=>?_,hnd,λq hq=>?_⟩
 ·rw[<-ale,(amL ..).length_eq];simp
 ·show(SetTable.insertAt t.place (SetTable.below t.place j) j).size=_;rw[<-ale,(amL ..).length_eq];simp[hsz]
 ·rcases(hmem k).mp hk with q|rfl
  ·exact I.le k q
  ·exact hle
 ·rcases QC hsz q hq with rfl|q'
  ·exact hr.mono λk hk=>(hmem k).mpr (.inl hk)
  ·exact(I.reach q q').mono λk hk=>(hmem k).mpr (.inl hk)
theorem uT(m:Nat):∀(k:Nat) (p:Pb),k<=p.more->eL m k p={p with j:=p.j+k,more:=p.more-k}
 |0,p,_=>rfl
 |k+1,p,h=>by
  have ha:eW m p={p with j:=p.j+1,more:=p.more-1}:=by unfold eW;rw[if_pos (by omega)]
  show eL m k (eW m p)=_;rw[ha,uT m k _ (by dsimp only;omega)]
  dsimp only
  congr 1<;>omega
theorem Lv(m i q:Nat):eL m (SetTable.runEnd m i-i+1) (ny m i q)=ny m ((i*5+1+q/32) % (m+1)) (q/32):=by
 rw[zm m _ 1,uT m (SetTable.runEnd m i-i) (ny m i q) (akT _)];show eW m _=_;unfold eW ny;dsimp only;rw[if_neg (by omega)]
theorem UD(m i:Nat):SetTable.runEnd m i-i<=9:=by unfold SetTable.runEnd;split<;>omega
theorem UE(m i:Nat):i<=SetTable.runEnd m i:=by unfold SetTable.runEnd;split<;>omega
theorem M7{mask:Nat}{owner:Array (Option Nat)}:∀(fuel i q j:Nat),SetTable.layClean.free mask owner fuel i q=ζ j ->
  ∃n,n<10*fuel/\(eL mask n (ny mask i q)).j=j/\∀k,k<n->owner.getD (eL mask k (ny mask i q)).j (ζ 0)≠η
 |0,i,q,j,h=>by cases h
 |fuel+1,i,q,j,h=>by
  have h9:=UD mask i;have hg:=UE mask i;unfold SetTable.layClean.free at h;cases hr:(θ (SetTable.runEnd mask i+1-i)).find? (λk=>(owner.getD (i+k) (ζ 0)).isNone)with
  |some k =>
   rw[hr]at h;dsimp only at h;cases h;have hk:=akY.mp (List.mem_of_find?_eq_some hr);refine⟨k,by omega,?_,λk' hk'=>?_⟩
   ·rw[uT mask k _ (by show k<=SetTable.runEnd mask i-i;omega)]
    rfl
   ·rw[uT mask k' _ (by show k'<=SetTable.runEnd mask i-i;omega)]
    show owner.getD (i+k') (ζ 0)≠η;intro e;have hb:=List.find?_eq_some_iff_getElem.mp hr;obtain⟨_,n,hn,en,adZ⟩:=hb;have en':n=k:=by simpa using en
    have:=adZ k' (by omega)
    simp[e]at this
  |none =>
   rw[hr]at h;dsimp only at h;have h:SetTable.layClean.free mask owner fuel ((i*5+1+q/32) % (mask+1)) (q/32)=ζ j:=h;obtain⟨n,hn,ej,hl⟩:=M7 fuel _ _ j h;have hno:=apu.mp hr;refine⟨SetTable.runEnd mask i-i+1+n,by omega,?_,λk hk=>?_⟩
   ·rw[zm,Lv];exact ej
   ·by_cases hk2:k<=SetTable.runEnd mask i-i
    ·rw[uT mask k _ hk2];show owner.getD (i+k) (ζ 0)≠η;intro e;have:=hno k (akY.mpr (by omega))
     simp[e]at this
    ·rw[show k=SetTable.runEnd mask i-i+1+(k-(SetTable.runEnd mask i-i+1)) by omega,zm,Lv]
     exact hl _ (by omega)
structure wY (mask:Nat) (owner:Array (Option Nat)) (hs:List Int) (k:Nat):Prop where
 lay:qq mask owner k
 way:∀j i,owner.toList.getD j η=ζ i->∃h,hs[i]? = ζ h/\Reach mask (λs=>owner.getD s (ζ 0)≠η) h j
theorem XJ{mask:Nat}{owner:Array (Option Nat)}{k:Nat}(I:qq mask owner k) {s:Nat}(h:s<=mask):(owner.getD s (ζ 0)≠η)↔(owner.toList.getD s η≠η):=by
 have h1:=I.1;rw[jm];have hs:s<owner.toList.length:=by omega
 rw[alg,alg,ak7 hs];rfl
theorem abw{mask:Nat}{owner:Array (Option Nat)}{hs:List Int}{k:Nat}{h:Int}(hm:jh mask) (hc:oJ h) (I:wY mask owner hs k) (hk:k<=mask) (hh:hs[k]? = ζ h) :
  ∃j,SetTable.layClean.free mask owner (SetTable.turns mask) (SetTable.bits h % (mask+1)) (SetTable.bits h)=ζ j/\wY mask (owner.setIfInBounds j (ζ k)) hs (k+1):=by
 obtain⟨h1,h2⟩:=I.lay;have hex:∃j,j<=mask/\owner.getD j (ζ 0)=η:=by
  by_cases q:∃j,j<=mask/\owner.getD j (ζ 0)=η
  ·exact q
  ·have:=E4 owner.toList λj hj e=>q ⟨j,by omega,by rw[jm];exact e⟩
   have h3:=h2.length_eq;rw[alN]at h3;omega
 obtain⟨j,e,e1⟩:=CZ (mask+15) _ _ 0 (SetTable.turns mask) (hc.lay mask hm) (akT _) (λk _ hb=>by simp at hb) hex
 obtain⟨n,hn,ej,hl⟩:=M7 _ _ _ _ e;rw[jm]at e1;have hj:j<owner.toList.length:=by
  rcases anG j owner.toList.length with q|q
  ·exact q
  ·rw[alg,amw q]at e1;cases e1
 have grow:∀s,owner.getD s (ζ 0)≠η->(owner.setIfInBounds j (ζ k)).getD s (ζ 0)≠η:=λs hs=>by
  rw[jm,anH,alg,apK];split
  ·first|(split<;>simp)|simp
  ·rw[jm,alg]at hs;exact hs
 refine⟨j,e,⟨⟨by simpa using h1,?_⟩,λs i hs=>?_⟩⟩
 ·rw[anH];refine(EZ _ j k hj e1).trans ?_;rw[amg];exact(h2.cons k).trans (aot k _).symm
 ·rw[anH,alg,apK]at hs
  by_cases q:j=s
  ·subst q;rw[if_pos rfl,if_pos hj]at hs;have:k=i:=by simpa using hs
   subst this;exact⟨h,hh,n,by unfold SetTable.turns at hn;exact hn,ej,λk' hk'=>grow _ (hl k' hk')⟩
  ·rw[if_neg q]at hs;obtain⟨h',q1,q2⟩:=I.way s i (by rw[alg];exact hs)
   exact⟨h',q1,q2.mono grow⟩
theorem Lx{mask:Nat}(hm:jh mask) (all:List Int):∀(hs:List Int) (owner:Array (Option Nat)) (k:Nat),(∀h∈hs,oJ h)->wY mask owner all k->k+hs.length<=mask->(∀i,hs[i]? = all[k+i]?\/hs.length<=i) ->
  ∃ow,hs.foldl (λacc h=>(do
   let(owner,k) <-acc
   let j <-SetTable.layClean.free mask owner (SetTable.turns mask) (SetTable.bits h % (mask+1)) (SetTable.bits h)
   pure (owner.setIfInBounds j (ζ k),k+1):Option (Array (Option Nat)×Nat))) (ζ (owner,k))=ζ (ow,k+hs.length)/\wY mask ow all (k+hs.length)
 |[],owner,k,_,I,_,_=>⟨owner,rfl,I⟩
 |h::hs,owner,k,hh,I,hl,hat=>by
  simp only[ak4]at hl;have h0:all[k]? = ζ h:=by
   rcases hat 0 with q|q
   ·rw[am4]at q;rw[<-q];rfl
   ·simp at q
  obtain⟨j,e,I'⟩:=abw hm (hh h (.head _)) I (by omega) h0
  obtain⟨ow,e',HR⟩:=Lx hm all hs _ (k+1) (λh x=>hh h (.tail _ x)) I' (by omega) λi=>by
   rcases hat (i+1)with q|q
   ·left;rw[show k+1+i=k+(i+1) by omega,<-q];rfl
   ·right;simpa using q
  refine⟨ow,?_,by rw[ak4,show k+(hs.length+1)=k+1+hs.length by omega];exact HR⟩
  rw[aml,ak4,show k+(hs.length+1)=k+1+hs.length by omega,<-e']
  congr 1
  show(do let j <-SetTable.layClean.free mask owner (SetTable.turns mask) (SetTable.bits h % (mask+1)) (SetTable.bits h);pure (owner.setIfInBounds j (ζ k),k+1):Option (Array (Option Nat)×Nat))=_
  rw[e];rfl
theorem abx{mask:Nat}(hm:jh mask) (hs:Array Int) (hh:∀h∈hs.toList,oJ h) (hl:hs.toList.length<=mask) :
  ∃ow,SetTable.layClean mask hs=ζ ow/\wY mask ow hs.toList hs.toList.length:=by
 obtain⟨ow,e,I⟩:=Lx hm hs.toList hs.toList (Array.replicate (mask+1) η) 0 hh ⟨⟨by simp,by simp⟩,λj i h=>by
  rw[Array.toList_replicate,alg,anm]at h;split at h<;>cases h⟩ (by omega) λi=>.inl (by rw[alz])
 rw[alz]at e I;refine⟨ow,?_,I⟩;unfold SetTable.layClean;rw[<-apv];exact congrArg (Option.map (λx:Array (Option Nat)×Nat=>x.1)) e
theorem UT{t:aae}{es:Array (Int×Θ)}(hh:∀e∈es.toList,oJ e.1) (hm:es.size=5\/es.size=19) :
  ∃t2 order,t.relaid (es.map (·.1)) (SetTable.grown es.size)=ζ (t2,order)/\(order.filterMap (es[·]?)).size=es.size/\kJ t2 (order.filterMap (es[·]?))/\t2.led=t.led/\(order.filterMap (es[·]?)).toList.Perm es.toList:=by
 have hw:∃m,SetTable.sizeAbove (SetTable.grown es.size)-1=m/\((m=31/\es.size=5)\/(m=127/\es.size=19)):=by
  rcases hm with e|e
  ·rw[e];exact⟨31,by decide,.inl ⟨rfl,rfl⟩⟩
  ·rw[e];exact⟨127,by decide,.inr ⟨rfl,rfl⟩⟩
 obtain⟨m,ew,hq⟩:=hw;have hs:(es.map (·.1)).toList=es.toList.map (·.1):=by simp
 have hok:jh m:=by unfold jh;omega
 have EH:∀h∈(es.map (·.1)).toList,oJ h:=λh hx=>by
  rw[hs,akW]at hx;obtain⟨y,hy,rfl⟩:=hx;exact hh y hy
 have ED:(es.map (·.1)).toList.length<=m:=by rw[hs,ak6,ale];omega
 obtain⟨ow,e,⟨h1,h2⟩,adk⟩:=abx hok (es.map (·.1)) EH ED;rw[hs,ak6,ale]at h2
 let live:List (Nat×Nat):=(θ (m+1)).filterMap λj=>(ow.getD j η).map (j,·)
 have hlive:∀q:Nat×Nat,q∈live↔q.1<=m/\ow.toList.getD q.1 η=ζ q.2:=λq=>by
  simp only[live,amU,akY]
  constructor
  ·rintro ⟨c,hc,e⟩
   cases ha:ow.getD c η<;>rw[ha]at e<;>simp at e
   subst e;exact⟨by show c<=m;omega,by rw[<-jm];exact ha⟩
  ·rintro ⟨h1,h2⟩
   exact⟨q.1,by omega,by rw[jm,h2];rfl⟩
 have hord:(live.map (·.2)).Perm (θ es.size):=by
  have:live.map (·.2)=ow.toList.filterMap id:=by
   simp only[live];rw[<-Ca,h1,aow]
   congr 1
   funext j
   rw[jm];cases ow.toList.getD j η<;>rfl
  rw[this];exact h2
 have hup:Up (live.map (·.1)):=by
  show List.Pairwise _ _;rw[amx];refine apw _ (λa a' hlt b hb b' hb'=>?_) aov
  cases ha:ow.getD a η<;>rw[ha]at hb<;>simp at hb
  cases ha':ow.getD a' η<;>rw[ha']at hb'<;>simp at hb'
  rw[<-hb,<-hb'];exact hlt
 have hlen:live.length=es.size:=by
  have:=hord.length_eq
  simpa using this
 have hes:(((live.map (·.2)).toArray).filterMap (es[·]?)).toList.Perm es.toList:=by
  rw[aox];exact(hord.filterMap _).trans (by rw[apx])
 have vS:(((live.map (·.2)).toArray).filterMap (es[·]?)).size=es.size:=by
  rw[<-ale,hes.length_eq,ale]
 have hlt:∀q∈live,q.2<es.size:=λq hq=>akY.mp (hord.mem_iff.mp (akW.mpr ⟨q,hq,rfl⟩))
 have hfm:∀(l:List (Nat×Nat)),(∀q∈l,q.2<es.size)->(l.map (·.2)).filterMap (es[·]?)=l.map λq=>es.toList.getD q.2 (0,.none):=by
  intro l
  induction l with
  |nil=>intro _;rfl
  |cons q l ih =>
   intro hq;have hq0:q.2<es.size:=hq q (.head _);rw[ak2,amC,ak2,ih λy hy=>hq y (.tail _ hy)]
   have:es[q.2]? = ζ (es.toList.getD q.2 (0,.none)):=by
    rw[<-alx,alg,ak7 (by simpa using hq0)]
    rfl
   rw[this]
 refine⟨{mask:=m,place:=(live.map (·.1)).toArray,dummies:=#[],finger:=t.finger,led:=t.led,moves:=t.movedTo m,plain:=t.plain},(live.map (·.2)).toArray,?_,vS,⟨?_,?_,?_,rfl,?_,?_⟩,rfl,hes⟩
 ·unfold SetTable.relaid SetTable.laid;rw[ew,e];rfl
 ·show((live.map (·.1)).toArray).size=_;rw[vS,ak1,ak6,hlen]
 ·exact hup
 ·intro j hj;have hj:j∈live.map (·.1):=hj;obtain⟨q,hq,rfl⟩:=akW.mp hj;exact((hlive q).mp hq).1
 ·rw[vS];exact .inr (by show(m=31/\_)\/(m=127/\_);omega)
 ·intro q hq;have hq:q∈(live.map (·.1)).zip (((live.map (·.2)).toArray).filterMap (es[·]?)).toList:=hq;rw[aox]at hq;have hq:q∈(live.map (·.1)).zip ((live.map (·.2)).filterMap (es[·]?)):=hq;rw[hfm live hlt,List.zip_map',akW]at hq;obtain⟨⟨j,i⟩,hji,rfl⟩:=hq;obtain⟨zC,hjo⟩:=(hlive (j,i)).mp hji;obtain⟨h,hi,hr⟩:=adk j i hjo;have hil:=hlt (j,i) hji;have:h=(es.toList.getD i (0,.none)).1:=by
   rw[hs,alk,ak7 (by simpa using hil)]at hi
   rw[alg,ak7 (by simpa using hil)]
   simpa using hi.symm
  subst this;obtain⟨n,hn,ej,hl⟩:=hr;refine⟨n,hn,ej,λk hk=>?_⟩
  have hle:=Pd m (es.toList.getD i (0,.none)).1 k;have:=(XJ (k:=es.size) ⟨h1,h2⟩ hle).mp (hl k hk);show jr m _ k∈live.map (·.1);cases ho:ow.toList.getD (jr m (es.toList.getD i (0,.none)).1 k) η with
  |none=>exact absurd ho this
  |some i'=>exact akW.mpr ⟨(_,i'),(hlive (_,i')).mpr ⟨hle,ho⟩,rfl⟩
def hT(ks:List Int):Int:=reduceHash (Builtin.Tuple.tupleHashOf (ks.map hashInt))
def eK(ks:List Int):Prop:=∃i j:Nat,i<8/\j<8/\ks=[(i:Int),(j:Int)]
def hP(n:Nat):Int:=hT [((n/8:Nat):Int),((n % 8:Nat):Int)]
def Kp(h:Int):Bool:=([7,31,127].all λm=>gj m (10*(m+15)) (SetTable.bits h % (m+1)) (SetTable.runEnd m (SetTable.bits h % (m+1))-SetTable.bits h % (m+1)) (SetTable.bits h % (m+1)) (SetTable.bits h) 0) && [31,127].all λm=>om m (m+15) (SetTable.bits h % (m+1)) (SetTable.bits h) 0
theorem aiz:((θ 64).all λn=>Kp (hP n))=Ξ:=by decide +kernel
def eqZ(a b:Int):Bool:=match a,b with
 |.ofNat x,.ofNat y=>Nat.beq x y
 |.negSucc x,.negSucc y=>Nat.beq x y
 |_,_=>ξ
def yW(l:List Int):Bool:=match l with
 |[]=>Ξ
 |x::r=>r.all (λy=>!eqZ x y)&&yW r
theorem Nq(a:Int):eqZ a a=Ξ:=by cases a<;>exact Nat.beq_refl _
theorem aiB:yW ((θ 64).map hP)=Ξ:=by decide +kernel
theorem KR:∀{l:List Int},yW l=Ξ->∀{i k:Nat}{x:Int},l[i]? = ζ x->l[k]? = ζ x->i=k
 |[],_,i,k,x,h,_=>by simp at h
 |y::r,h,i,k,x,h1,h2=>by
  unfold yW at h;rw[ak9,ak0]at h;cases i with
  |zero =>
   cases k with
   |zero=>rfl
   |succ k =>
    have e:y=x:=by simpa using h1
    have:=h.1 x (alv (by simpa using h2))
    rw[e,Nq]at this;cases this
  |succ i =>
   cases k with
   |zero =>
    have e:y=x:=by simpa using h2
    have:=h.1 x (alv (by simpa using h1))
    rw[e,Nq]at this;cases this
   |succ k=>rw[KR h.2 (i:=i) (k:=k) (by simpa using h1) (by simpa using h2)]
theorem eK.num{ks:List Int}(h:eK ks):∃n,n<64/\ks=[((n/8:Nat):Int),((n % 8:Nat):Int)]:=by
 obtain⟨i,j,hi,hj,rfl⟩:=h;refine⟨8*i+j,by omega,?_⟩
 rw[show(8*i+j)/8=i by omega,show(8*i+j) % 8=j by omega]
theorem eK.gj{ks:List Int}(h:eK ks):oJ (hT ks):=by
 obtain⟨n,hn,rfl⟩:=h.num;have:=ak0.mp aiz n (akY.mpr hn);unfold Kp at this;rw[ak9,ak0,ak0]at this;refine⟨λm hm=>this.1 m ?_,λm hm=>this.2 m ?_⟩
 ·rcases hm with rfl|rfl|rfl<;>decide
 ·rcases hm with rfl|rfl<;>decide
theorem eK.inj{a b:List Int}(ha:eK a) (hb:eK b) (h:hT a=hT b):a=b:=by
 obtain⟨n,hn,rfl⟩:=ha.num;obtain⟨k,hk,rfl⟩:=hb.num;have h1:((θ 64).map hP)[n]? = ζ (hP n):=by rw[alk,alZ hn];rfl
 have h2:((θ 64).map hP)[k]? = ζ (hP n):=by
  rw[alk,alZ hk];exact congrArg ζ h.symm
 rw[KR aiB h1 h2]
section
variable {prog:τ}{w:ψ}{A:ω}{E:Θ->ε->Prop}{s:ε}
theorem IG{h:χ}{ks:List Int}{x:Ω}(hu:eK ks) (hx:aah (intKind prog w) h ks x):∃o a b n,h.get? x=ζ o/\o.cls=.type "tuple"/\o.data=.seq #[a,b] n/\(∃i t,a=.int i t)/\∃i t,b=.int i t:=by
 obtain⟨i,j,_,_,rfl⟩:=hu;obtain⟨o,items,n,h1,h2,h3,h4⟩:=hx;cases hi:items.toList with
 |nil=>rw[hi]at h4;cases h4
 |cons a r =>
  rw[hi]at h4;cases h4 with
  |cons q1 q2 =>
   cases r with
   |nil=>cases q2
   |cons b r2 =>
    cases q2 with
    |cons q3 q4 =>
     cases q4;refine⟨o,a,b,n,h1,h2,?_,?_,?_⟩
     ·rw[h3];congr 1;apply Array.toList_inj.mp;rw[hi]
     ·obtain⟨t,e⟩:=anh q1;exact⟨_,t,e⟩
     ·obtain⟨t,e⟩:=anh q3;exact⟨_,t,e⟩
theorem ahL{ks:List Int}{x:Ω}{Q:Bool->ε->Prop}(hu:eK ks) (hx:aah (intKind prog w) s.heap ks x) (h:∀b,Q b s):wpAny (model prog w) A (hashByValue 8 (.ref x)) Q E s:=by
 obtain⟨o,a,b,n,h1,h2,h3,⟨i,t,rfl⟩,j,u,rfl⟩:=IG hu hx;rw[hashByValue.eq_12];refine akR (wpAny_specialOf (T:="tuple") ⟨o,h1,h2⟩ F.slot_tuple_hash.lookup ?_);dsimp only;refine akR (al7 h1 h3 ?_);dsimp only[Option.getD];refine akR ?_;rw[<-apL];simp only[amF,ant];simp only[aoy 7 (x:=.int i t) rfl,aoy 7 (x:=.int j u) rfl,plainKind];refine akR (akR (akS ?_));refine akS ?_;refine akR (akR (akS ?_));refine akS ?_;exact akS (akS (h _))
theorem KO{ks:List Int}{x:Ω}{Q:Bool->ε->Prop}(hu:eK ks) (hx:aah (intKind prog w) s.heap ks x) (h:Q ξ s):wpAny (model prog w) A (ofAClassStatement 8 (.ref x)) Q E s:=by
 obtain⟨o,a,b,n,h1,h2,h3,⟨i,t,rfl⟩,j,u,rfl⟩:=IG hu hx;rw[ofAClassStatement.eq_def];dsimp only;refine akR (wpAny_typeOf_ref h1 ?_);rw[h2];dsimp only;simp only[beq_self_eq_true,if_true];refine akR (akS ?_);simp only[amO,aly,if_false];refine akR (al7 h1 h3 ?_);dsimp only;refine akR ?_;rw[<-apL];simp only[amF,ant];have e1:ofAClassStatement 7 (.int i t)=pure ξ:=by rw[ofAClassStatement.eq_def]
 have e2:ofAClassStatement 7 (.int j u)=pure ξ:=by rw[ofAClassStatement.eq_def]
 rw[e1];refine akR (akR (akS ?_));refine akS ?_;dsimp only;rw[e2];refine akR (akR (akS ?_));refine akS ?_;exact akS (akS h)
theorem Z9{ks:List Int}{x:Ω}{Q:Bool->ε->Prop}(hu:eK ks) (hx:aah (intKind prog w) s.heap ks x) (l:List Θ) (hl:∀v∈l,∃k y,v=.ref y/\eK k/\aah (intKind prog w) s.heap k y) (h:Q ξ s):wpAny (model prog w) A (searchCouldBeSeen (.ref x) l) Q E s:=by
 unfold searchCouldBeSeen;refine akR ?_;have go:∀(l:List Θ),(∀v∈l,∃k y,v=.ref y/\eK k/\aah (intKind prog w) s.heap k y)->∀{R:Option Bool×Unit->ε->Prop},R (η,()) s->wpAny (model prog w) A (forIn l (η,()) λy __s =>
    have __r:=__s;
    have Rg :=
     match(Value.ref x),y with
     |Value.ref a,Value.ref b=>a==b
     |x,x_1=>ξ;
    if(Rg||carriedByValue (.ref x)&&carriedByValue y)=Ξ then pure (ForInStep.yield (η,()))
    else do
     let __do_lift <-eqIsQuiet 8 (.ref x)
     if(!__do_lift)=Ξ then pure (ForInStep.done (ζ Ξ,()))
      else do
       let __do_lift <-eqIsQuiet 8 y
       if(!__do_lift)=Ξ then pure (ForInStep.done (ζ Ξ,()))
        else do
         let __do_lift <-ofAClassStatement 8 (.ref x)
         if __do_lift=Ξ then pure (ForInStep.done (ζ Ξ,()))
          else do
           let __do_lift <-ofAClassStatement 8 y
           if __do_lift=Ξ then pure (ForInStep.done (ζ Ξ,()))
            else pure (ForInStep.yield (η,()))) R E s:=by
  intro l
  induction l with
  |nil=>intro _ R hR;exact akS hR
  |cons v l ih =>
   intro hl R hR;obtain⟨k,y,rfl,ku,hy⟩:=hl _ (.head _);have ih:=ih (λv hv=>hl v (.tail _ hv)) (R:=R)
   rw[amF];refine akR ?_;dsimp only
   by_cases q:(x==y||carriedByValue (.ref x)&&carriedByValue (.ref y))=Ξ
   ·rw[if_pos q];exact akS (ih hR)
   ·rw[if_neg q];refine akR ((tupleKind (intKind prog w)).quiet hx ?_);simp only[amO,aly,if_false];refine akR ((tupleKind (intKind prog w)).quiet hy ?_);simp only[amO,aly,if_false];refine akR (KO hu hx ?_);simp only[aly,if_false];refine akR (KO ku hy ?_);simp only[aly,if_false];exact akS (ih hR)
 exact go l hl (akS h)
end
def fU(ks:List (List Int)) (k:List Int):List (List Int):=if k∈ks then ks else ks++[k]
abbrev sU(q:List Int×Ω):Int×Θ:=(hT q.1,.ref q.2)
def jT(P:τ) (w:ψ) (Y:Ω->Prop) (h:χ) (a:Ω) (ks:List (List Int)):Prop:=∃o es ep t,∃L:List (List Int×Ω),h.get? a=ζ o/\o.ExactSet/\o.data=.set es ep t/\kJ t es/\es.toList=L.map sU/\(∀q∈L,eK q.1/\aah (intKind P w) h q.1 q.2)/\(L.map (·.1)).Perm ks/\∀q∈L,Y q.2
theorem WY{α β:Type}{f:α->β}:∀{l:List β}{r:List α},l.Perm (r.map f)->∃l2:List α,l=l2.map f/\l2.Perm r:=by
 intro l r h
 generalize hm:r.map f=m at h
 induction h generalizing r with
 |nil =>
  cases r with
  |nil=>exact⟨[],rfl,.refl _⟩
  |cons a r=>cases hm
 |cons x _ ih =>
  cases r with
  |nil=>cases hm
  |cons a r =>
   rw[ak2]at hm
   injection hm with h1 h2
   obtain⟨l2,e,p⟩:=ih h2;exact⟨a::l2,by rw[ak2,h1,e],p.cons a⟩
 |swap x y l =>
  cases r with
  |nil=>cases hm
  |cons a r =>
   cases r with
   |nil=>simp at hm
   |cons b r =>
    simp only[ak2]at hm
    injection hm with h1 h2
    injection h2 with h3 h4
    exact⟨b::a::r,by simp only[ak2];rw[h1,h3,h4],.swap a b r⟩
 |trans _ _ ih1 ih2 =>
  obtain⟨l2,e,p⟩:=ih2 hm;obtain⟨l3,e3,p3⟩:=ih1 e.symm;exact⟨l3,e3,p3.trans p⟩
section
variable {prog:τ}{w:ψ}{A:ω}{E:Θ->ε->Prop}{s:ε}
theorem LH{h h':χ}{a x:Ω}{k:List Int}{o:Obj}{es:Array (Int×Θ)}{ep:Nat}{t:aae}(hx:aah (intKind prog w) h k x) (ho:h.get? a=ζ o) (hd:o.data=.set es ep t) (sb:adi a h h'):aah (intKind prog w) h' k x:=by
 obtain⟨o',items,n,h1,h2,h3,h4⟩:=hx;have hne:x≠a:=λe=>by
  subst e;rw[ho]at h1;cases h1;rw[hd]at h3;cases h3
 exact⟨o',items,n,by rw[sb.2 x hne];exact h1,h2,h3,h4⟩
theorem aev{t:aae}{es:Array (Int×Θ)}(I:kJ t es):t.gaveWay=ξ:=by
 unfold SetTable.gaveWay
 rcases I.ok with e|e|e<;>rw[e]<;>rfl
theorem find_key{ks:List (List Int)}{es:Array (Int×Θ)}{L:List (List Int×Ω)}{k:List Int}{i:Nat}{e:Int×Θ}(hL:es.toList=L.map sU) (hu:∀q∈L,eK q.1/\aah (intKind prog w) s.heap q.1 q.2) (hk:eK k) (h1:es[i]? = ζ e) (h2:e.1=hT k) :
  ∃y,e=(hT k,.ref y)/\aah (intKind prog w) s.heap k y/\k∈L.map (·.1):=by
 have:e∈L.map sU:=by rw[<-hL];exact alv (by rw[alx];exact h1)
 obtain⟨q,hq,rfl⟩:=akW.mp this;have e1:=(hu q hq).1.inj hk h2;refine⟨q.2,?_,?_,?_⟩
 ·show(hT q.1,_)=_;rw[e1]
 ·rw[<-e1];exact(hu q hq).2
 ·rw[<-e1];exact akW.mpr ⟨q,hq,rfl⟩
theorem Uc{Y:Ω->Prop}{a x:Ω}{ks:List (List Int)}{k:List Int}{Q:Bool->ε->Prop}(hr:A.units<adw) (hk:eK k) (hx:aah (intKind prog w) s.heap k x) (hY:Y x) (hS:jT prog w Y s.heap a ks) (hn:ks.length<64)
  (h:∀b h',adi a s.heap h'->jT prog w Y h' a (fU ks k)->Q b {s with heap:=h'}):wpAny (model prog w) A (setAddHashed a (.ref x) (hT k)) Q E s:=by
 have hS0:=hS;obtain⟨o,es,ep,t,L,ho,hex,hd,I,hL,hu,hp,Mj⟩:=hS;have hsz:es.size=ks.length:=by
  have:=congrArg List.length hL;rw[ak6,ale]at this;rw[this,<-hp.length_eq,ak6]
 unfold setAddHashed setAddHashedIn;refine alJ (akR (amh ho hd I.fits ?_));dsimp only;rw[show byScan (.ref x) es=ξ from rfl]
 simp only[aly,if_false];refine akR ?_;unfold setSearch setSearchFrom;refine akR (amh ho hd I.fits ?_);dsimp only;rw[aev I];simp only[aly,if_false]
 by_cases hk2:k∈ks
 ·have hkL:k∈L.map (·.1):=hp.mem_iff.mpr hk2;obtain⟨q,hq,rfl⟩:=akW.mp hkL;have he:sU q∈es.toList:=by rw[hL];exact akW.mpr ⟨q,hq,rfl⟩
  obtain⟨j,i,next,e',vO,h1,h2⟩:=ae1 I he;obtain⟨y,rfl,hy,_⟩:=find_key (ks:=ks) hL hu hk h1 h2;have hst:fU ks q.1=ks:=by unfold fU;rw[if_pos hk2]
  rw[hst]at h;have fin:∀(ajB:Unit),Q ξ s:=λ_=>h ξ s.heap (Heap.SameBut.refl a s.heap) hS0
  split
  ·rename_i met heq;have hm:met=.candidate j i next:=by
    have:=heq.symm.trans vO;cases this;rfl
   subst hm;dsimp only;simp only[h1];have tail:∀{R:SetFound->ε->Prop}{F:Bool->(Array (Int×Θ)×Nat×aae)->Sem SetFound},R (.there η) s->wpAny (model prog w) A (do
     let equal <-holding [Value.ref y] (eqBool (.ref y) (.ref x))
     let z <-setState a
     if(Ξ&&equal)=Ξ then pure (SetFound.there η)else F equal z) R E s:=fun{R F} hR=>by
    refine akR (alJ ((tupleKind (intKind prog w)).eqBool hr hy hx ?_));refine akR (amh ho hd I.fits ?_);rw[if_pos (by simp)]
    exact akS hR
   cases hl:t.led with
   |false =>
    simp only[ana,if_true];refine akR (Z9 hk hx _ (λv hv=>?_) ?_)
    ·obtain⟨e,he,rfl⟩:=akW.mp hv;have he:e∈es.toList:=by
      have:=Array.mem_filter.mp (anW.mp he);exact anW.mpr this.1
     rw[hL]at he;obtain⟨q',hq',rfl⟩:=akW.mp he;exact⟨q'.1,q'.2,rfl,hu q' hq'⟩
    ·simp only[aly,if_false];exact tail (akS (fin ()))
   |true =>
    simp only[amO,aly,if_false];exact tail (akS (fin ()))
  ·rename_i hne;exact absurd vO (hne _)
 ·have hno:∀e∈es.toList,e.1≠hT k:=λe he z=>by
   rw[hL]at he;obtain⟨q,hq,rfl⟩:=akW.mp he;have:=(hu q hq).1.inj hk z;exact hk2 (hp.mem_iff.mp (akW.mpr ⟨q,hq,this⟩))
  obtain⟨j,vO,hj,zC,hre⟩:=ae2 I hk.gj hno;have hst:fU ks k=ks++[k]:=by unfold fU;rw[if_neg hk2]
  rw[hst]at h;split
  ·rename_i met heq;have hm:met=.empty j η:=by
    have:=heq.symm.trans vO;cases this;rfl
   subst hm;dsimp only;refine akS ?_;dsimp only;refine akR (amh ho hd I.fits ?_);dsimp only;obtain⟨p1,p2,p3,p4,p5,p6⟩:=Vs I (x:=.ref x) hj zC hre;have BE:∀t1:aae,t1.mask=t.mask->t1.place=(t.put j).1.place->t1.dummies=(t.put j).1.dummies->wpAny (model prog w) A (do
     storeSet a (SetTable.insertAt es (t.put j).snd (hT k,Value.ref x)) t1
     if(!false&&t1.tooFull)=Ξ then do
      setRelay a (SetTable.grown (es.size+1))
      pure Ξ
     else pure Ξ) Q E s:=λt1 m1 m2 m3=>by
    have hsn:(t.put j).snd=SetTable.below t.place j:=rfl;rw[hsn]
    generalize adR:SetTable.insertAt es (SetTable.below t.place j) (hT k,Value.ref x)=es1 at p1 p6
    rw[<-m2,<-m1]at p6;rw[<-m2]at p2 p3 p4;rw[<-m1]at p4;rw[<-m3]at p5;have sP:es1.toList=(L.take (SetTable.below t.place j)++(k,x)::L.drop (SetTable.below t.place j)).map sU:=by
     rw[<-adR,anE,hL,alU,ak2,anP,List.map_drop]
    have EL:((L.take (SetTable.below t.place j)++(k,x)::L.drop (SetTable.below t.place j)).map (·.1)).Perm (ks++[k]):=by
     refine((aoG (a:=(k,x)) (l₁:=L.take (SetTable.below t.place j)) (l₂:=L.drop (SetTable.below t.place j))).map (·.1)).trans ?_;rw[amy,ak2];exact(hp.cons k).trans (aot k ks).symm
    have hu1:∀q∈(L.take (SetTable.below t.place j)++(k,x)::L.drop (SetTable.below t.place j)),eK q.1/\aah (intKind prog w) s.heap q.1 q.2:=λq hq=>by
     rw[alj,akV]at hq
     rcases hq with q1|rfl|q1
     ·exact hu q (amq q1)
     ·exact⟨hk,hx⟩
     ·exact hu q (am9 q1)
    have EJ:∀q∈(L.take (SetTable.below t.place j)++(k,x)::L.drop (SetTable.below t.place j)),Y q.2:=λq hq=>by
     rw[alj,akV]at hq
     rcases hq with q1|rfl|q1
     ·exact Mj q (amq q1)
     ·exact hY
     ·exact Mj q (am9 q1)
    generalize L.take (SetTable.below t.place j)++(k,x)::L.drop (SetTable.below t.place j)=L1 at sP EL hu1 EJ
    have hM:=I.mask;have hz0:(#[]:Array Nat).size=0:=rfl;have hfit:t1.fits es1.size=Ξ:=by
     simp only[SetTable.fits,SetTable.fill,p2,p5,p1,hz0,m1,ak9,beq_self_eq_true,true_and,decide_eq_true_eq];omega
    have sl:100<ι:=by decide
    refine akR (anJ ho hd ?_ (by omega))
    have nW:=yh (es':=es1) (t':=t1) ho hd;have iR:=ame s.heap a (Obj.putSet es1 t1);have hk1:∀q∈L1,eK q.1/\aah (intKind prog w) (s.heap.update a (Obj.putSet es1 t1)) q.1 q.2:=λq hq=>⟨(hu1 q hq).1,LH (hu1 q hq).2 ho hd iR⟩
    cases hf:t1.tooFull with
    |false =>
     simp only[ana,aob,aly,if_false];have hf2:((t1.mask=7/\es1.size<=4)\/(t1.mask=31/\es1.size<=18)\/(t1.mask=127/\es1.size<=76)):=by
      simp only[SetTable.tooFull,SetTable.fill,p2,p5,hz0,m1,decide_eq_false_iff_not]at hf;rw[m1];omega
     exact akS (h Ξ _ iR ⟨_,es1,ep+1,t1,L1,nW,hex,rfl,⟨by rw[p2,p1],p3,p4,p5,hf2,p6⟩,sP,hk1,EL,EJ⟩)
    |true =>
     simp only[ana,Bool.and_self,if_true];have hf2:es1.size=5\/es1.size=19:=by
      simp only[SetTable.tooFull,SetTable.fill,p2,p5,hz0,m1,decide_eq_true_eq]at hf;omega
     have EH:∀e∈es1.toList,oJ e.1:=λe he=>by
      rw[sP]at he;obtain⟨q,hq,rfl⟩:=akW.mp he;exact(hu1 q hq).1.gj
     obtain⟨t2,order,r1,r2,r3,r4,r5⟩:=UT (t:=t1) EH hf2
     generalize vS:order.filterMap (es1[·]?)=jO at r2 r3 r5
     refine akR ?_;unfold setRelay;refine akR (amh nW rfl hfit ?_);dsimp only;have hw:¬SetTable.sizeAbove (SetTable.grown (es.size+1))>ι:=by
      rw[<-p1]
      rcases hf2 with e|e<;>rw[e]<;>decide
     rw[if_neg hw,<-p1,r1];refine akR (am3 (show _=pure (jO,t2)from ?_) ?_)
     ·show(if((order.filterMap (es1[·]?)).size != es1.size)=Ξ then(do let _ <-unsupported "internal:set-table-lost-an-element";pure (order.filterMap (es1[·]?),t2))else pure (order.filterMap (es1[·]?),t2))=_
      rw[vS,r2];simp
     ·dsimp only;refine anJ nW rfl ?_ (by omega)
      have adq:=ame (s.heap.update a (Obj.putSet es1 t1)) a (Obj.putSet jO t2);have Mq:=iR.trans adq;have ho2:=yh (es':=jO) (t':=t2) nW rfl;obtain⟨L2,nX,EM⟩:∃L2:List (List Int×Ω),jO.toList=L2.map sU/\L2.Perm L1:=by
       rw[sP]at r5;exact WY r5
      refine akS (h Ξ _ Mq ⟨_,jO,ep+1+1,t2,L2,ho2,hex,rfl,r3,nX,λq hq=>?_,(EM.map _).trans EL,λq hq=>EJ q (EM.mem_iff.mp hq)⟩)
      have hq1:=EM.mem_iff.mp hq;exact⟨(hu1 q hq1).1,LH (hu1 q hq1).2 ho hd Mq⟩
   have mk:(t.put j).1.mask=t.mask:=rfl
   by_cases hpl:(t.put j).fst.plain=Ξ
   ·rw[if_pos hpl];refine akR (ahL hk hx λb=>?_)
    cases b with
    |true=>exact BE _ rfl rfl rfl
    |false=>exact BE _ rfl rfl rfl
   ·rw[if_neg hpl];refine akR (akS ?_);exact BE _ rfl rfl rfl
  ·rename_i hne;exact absurd vO (hne _)
end
def c8(xs:List (List Int)):List (List Int):=xs.foldl fU []
theorem aeS{xs:List (List Int)}{i:Nat}(h:i<xs.length):c8 (xs.take (i+1))=fU (c8 (xs.take i)) xs[i]:=by
 unfold c8;rw[anK h,anb];rfl
theorem Nd:∀(xs ns:List (List Int)),ns.length<=(xs.foldl fU ns).length
 |[],ns=>akT _
 |x::xs,ns=>by
  have:=Nd xs (fU ns x);have h:ns.length<=(fU ns x).length:=by unfold fU;split<;>simp
  rw[aml];omega
theorem aeT(xs:List (List Int)) (i:Nat):(c8 (xs.take i)).length<=(c8 xs).length:=by
 have:c8 xs=(xs.drop i).foldl fU (c8 (xs.take i)):=by
  unfold c8;rw[<-anb,amy]
 rw[this];exact Nd _ _
section
variable {prog:τ}{w:ψ}{A:ω}{s:ε}{E:Θ->ε->Prop}
theorem IsTupleKey.at{h h':χ}{k:List Int}{y:Ω}(x:aah (intKind prog w) h k y) (e:∀o,h.get? y=ζ o->h'.get? y=ζ o):aah (intKind prog w) h' k y :=
 let⟨o,it,n,h1,r⟩:=x;⟨o,it,n,e o h1,r⟩
theorem jT.at{Y:Ω->Prop}{h h':χ}{a:Ω}{ks:List (List Int)}(x:jT prog w Y h a ks) (k:∀b,(b=a\/Y b)->∀o,h.get? b=ζ o->h'.get? b=ζ o):jT prog w Y h' a ks :=
 let⟨o,es,ep,t,L,ho,h1,h2,h3,h4,h5,h6,h7⟩:=x
 ⟨o,es,ep,t,L,k a (.inl rfl) o ho,h1,h2,h3,h4,λq hq=>⟨(h5 q hq).1,IsTupleKey.at (h5 q hq).2 (k q.2 (.inr (h7 q hq)))⟩,h6,h7⟩
theorem Ua{R:adY->ε->Prop}{I:Ω}{fp wr:List Ω}{G:Array adx->Array adx->Prop}{P:Nat->Θ->Prop}{St:Nat->ε->Prop}{xs:List (List Int)}{ys:List Ω}(hys:ys.length=xs.length)
  (W:WalksS prog w A.in1 I fp wr G xs.length P St) (S:Ω) (hSf:S∉fp) (hval:∀(i:Nat) v,(hi:i<xs.length)->P i v->v=Value.ref (ys[i]'(by omega))) (hx:∀x∈xs,eK x) (Ew:∀y∈ys,y≠S/\y∉wr) (h64:(c8 xs).length<64) (hr:A.in1.units<adw) :
  ∀(k i:Nat) (s:ε),xs.length-i=k->i<=xs.length->St i s->jT prog w (·∈ys) s.heap S (c8 (xs.take i))->(∀j,(hj:j<xs.length)->aah (intKind prog w) s.heap xs[j] (ys[j]'(by omega))) ->
   (∀s',Moved (S::wr) G s s'->jT prog w (·∈ys) s'.heap S (c8 xs)->R (.ok (.ret .none)) s') ->
   codeAny (model prog w) A (.builtin "set.update.loop" ⟨[.ref S,.ref I],[]⟩) R s:=by
 have zI:S∉wr:=λh=>hSf (W.sub _ h)
 have hup:∀b∈wr,b∈S::wr:=λb hb=>.tail _ hb
 have MA:∀b,(b=S\/b∈ys)->b∉wr:=λb hb=>hb.elim (λe=>e▸zI) λm=>(Ew b m).2
 intro k
 induction k with
 |zero =>
  intro i s hk hi st hS hK hR;cases(show i=xs.length by omega)
  refine alW anL ?_;rw[anc amM _];show wpAny _ A.in1 (pyNext (.ref I) >>= _) _ _ s;refine akR (W.done s _ _ st λs' hm=>?_)
  rw[amN]at hS;exact akS (hR s' (hm.mono hup) (hS.at λb hb o e=>hm.heap b _ (MA b hb) e))
 |succ k ih =>
  intro i s hk hi st hS hK hR;have hlt:i<xs.length:=by omega
  have pO:i<ys.length:=by omega
  refine alW anL ?_;rw[anc amM _];show wpAny _ A.in1 (pyNext (.ref I) >>= _) _ _ s;refine akR (W.item i s _ _ hlt st λv s' hP st' hm=>?_)
  cases hval i v hlt hP;have hS':jT prog w (·∈ys) s'.heap S (c8 (xs.take i)):=hS.at λb hb o e=>hm.heap b _ (MA b hb) e
  have EN:∀j,(hj:j<xs.length)->aah (intKind prog w) s'.heap xs[j] (ys[j]'(by omega)):=λj hj=>IsTupleKey.at (hK j hj) λo e=>hm.heap _ _ ((Ew _ (alH (by omega))).2) e
  show wpAny _ A.in1 (holding [Value.ref ys[i]] (setAdd S (.ref ys[i])) >>= _) _ _ s';refine akR (alJ ?_);unfold setAdd;refine alJ (akR ((tupleKind (intKind prog w)).pyHash (k:=xs[i]) hr (EN i hlt) ?_));have hl:(c8 (xs.take i)).length<64:=amZ (aeT xs i) h64;refine Uc (Y:=(·∈ys)) (s:={s' with toks:=s'.toks+(tupleKind (intKind prog w)).draws xs[i]}) (k:=xs[i]) hr (hx _ (alH hlt)) (EN i hlt) (alH pO) hS' hl λb h' iR lE=>?_
  rw[<-aeS hlt]at lE;refine akS ⟨aoz amM _,ih (i+1) _ (by omega) hlt (W.frame _ s' _ _ st' (amI _ _) λb hb o e=>?_) lE (λj hj=>?_) λs'' EB EK=>?_⟩
  ·rw[iR.2 b (λq:b=S=>hSf (q▸hb))];exact e
  ·exact IsTupleKey.at (EN j hj) λo e=>by
    show h'.get? _=ζ o;rw[iR.2 _ (Ew _ (alH (by omega))).1];exact e
  ·refine hR s'' (Moved.trans W.gtrans ((hm.mono hup).then_heap (amI _ _) λb o hb e=>?_) EB) EK
   rw[iR.2 b (λq:b=S=>hb (q▸.head _))];exact e
theorem afb(Y:Ω->Prop) {h:χ}{a:Ω}(e:h.get? a=ζ (cS w)):jT prog w Y h a [] :=
 ⟨_,#[],0,_,[],e,⟨rfl,rfl,rfl⟩,rfl,⟨rfl,.nil,λj h=>by simp[SetTable.fresh]at h,rfl,.inl ⟨rfl,by simp⟩,λq hq=>by simp[SetTable.fresh]at hq⟩,rfl,λq hq=>(by cases hq),.refl _,λq hq=>(by cases hq)⟩
set_option maxHeartbeats 3200000 in
theorem T8{l:Ω}{items:Array Θ}{xs:List (List Int)}{ys:List Ω}{Q:Θ->ε->Prop}(hys:ys.length=xs.length) (hh:A.handled=η) (hl:s.heap.IsList l items) (hi:items.toList=ys.map Value.ref) (hK:∀j,(hj:j<xs.length)->aah (intKind prog w) s.heap xs[j] (ys[j]'(by omega))) (hx:∀x∈xs,eK x) (h64:(c8 xs).length<64) (hr:A.in1.in1.in1.units<adw)
  (h:∀(h':χ) (tk:Nat),jT prog w (·∈ys) h' s.heap.objs.size (c8 xs)->(∀b o,b<s.heap.objs.size->s.heap.get? b=ζ o->h'.get? b=ζ o)->Q (.ref s.heap.objs.size) {s with heap:=h',toks:=tk}) :
  wpAny (model prog w) A (call (.type "set") [.ref l]) Q E s:=by
 obtain⟨c,tl,Mt⟩:=aln.mro;have hmade:=aln.made;have hsub:=aln.sub;refine amV (anM (show wpAny _ _ (callAny (.type "set") _) _ _ _ from ?_))
 refine akS ⟨am8 _ (by decide +kernel),alW aoA ?_⟩
 rw[aoB (aoC "set" [.ref l] []) rfl];have h1:=aln.notType;have h2:=aln.canCreate;have hct:=aoD (.ref l)
 repeat any_goals (first|assumption|wp_step)
 refine al1 (BR (.ref l) (E:=E) (Q₁:=λobj s₁=>obj=.ref s.heap.objs.size/\s₁={s with heap:=s.heap.push (cS w)}) ⟨rfl,rfl⟩) λr s₁ hr=>?_
 cases r with
 |error e=>exact hr
 |ok fl =>
  cases fl with
  |ret obj =>
   obtain⟨rfl,rfl⟩:=hr;have hS:(s.heap.push (cS w)).get? s.heap.objs.size=ζ (cS w):=ak8 _ rfl;have hT:adJ {s with heap:=s.heap.push (cS w)} (.ref s.heap.objs.size) "set":=⟨_,hS,rfl⟩
   have hli:=aln.init.lookup;have hbi:=aln.init.bind (.ref s.heap.objs.size)
   repeat any_goals (first|assumption|wp_step)
   refine al1 (am7 (R:=wants (λr s₂=>r=.none/\∃h' tk,s₂={s with heap:=h',toks:=tk}/\jT prog w (·∈ys) h' s.heap.objs.size (c8 xs) /\
     (∀b o,b<s.heap.objs.size->s.heap.get? b=ζ o->h'.get? b=ζ o)) E) aln.init.plain aoE (aoF hT ?_)) λr₂ s₂ jL=>?_
   ·obtain⟨ol,iS,hcl,nl,hdl⟩:=hl;obtain⟨Ky,vh,Kr,ve⟩:=ol;simp only at hcl hdl;subst hcl;subst hdl;have nU:(s.heap.push (cS w)).get? l=ζ {cls:=.type "list",dict:=vh,data:=.seq items nl,slots:=ve}:=akU _ iS;have Mn:=apz;have Mp:=apA;have hne:(Value.type "list"==Value.type "dict")=ξ:=by decide
    have hl1:(s.heap.push (cS w)).IsList l items:=⟨_,nU,rfl,nl,rfl⟩;unfold cS at hS hT nU ⊢;unfold Builtin.«set.__init__» noKeywords Builtin.Frozenset.updateFrom
    generalize vW:pyIter=PI
    wp_walk
    subst vW;refine ani hl1 (akR (anN ?_));have hlS:l<s.heap.objs.size:=akX iS;have hlen:items.size=xs.length:=by
     have:=congrArg List.length hi;rw[ak6,ale]at this;omega
    have vP:l≠(s.heap.push (cS w)).objs.size:=by rw[alr];exact ak3 (alT hlS)
    have hSf:s.heap.objs.size∉[(s.heap.push (cS w)).objs.size,l]:=by
     rw[alr];simp only[akV,ala,or_false,not_or];exact⟨ak3 (al6 _),alF hlS⟩
    have W:=(Walks.list (prog:=prog) (w:=w) (A:=A.in1.in1.in1) (by simp[hh]) (s.heap.push (cS w)).objs.size l vP items).toS
    rw[hlen]at W;have hyo:∀y∈ys,∃k,aah (intKind prog w) s.heap k y:=λy hy=>by
     obtain⟨j,hj,rfl⟩:=amJ hy;exact⟨_,hK j (by omega)⟩
    have hyl:∀y∈ys,y<s.heap.objs.size/\y≠l:=λy hy=>by
     obtain⟨k,o,it,n,q1,q2,q3,q4⟩:=hyo y hy;refine⟨akX q1,λe=>?_⟩
     subst e;rw[iS]at q1;cases q1
     injection q2 with z
     exact absurd z (by decide)
    refine Ua (xs:=xs) (ys:=ys) hys W s.heap.objs.size hSf (λi v hi' hv=>?_) hx (λy hy=>?_) h64 hr xs.length 0 _ (by omega) (alV _) ⟨⟨_,ak8 _ rfl,rfl,rfl⟩,hl1.push _⟩ (afb _ (akU _ hS)) (λj hj=>IsTupleKey.at (hK j hj) λo e=>akU _ (akU _ e)) λs' hm hS'=>?_
    ·have hv:items[i]? = ζ v:=hv;rw[<-alx,hi,alk,ak7 (by omega)]at hv
     simpa using hv.symm
    ·have:=hyl y hy;rw[alr];simp only[akV,ala,or_false];exact⟨ak3 this.1,λz=>by first|exact absurd z (ak3 (alT this.1))|exact z.elim (λz=>absurd z (ak3 (alT this.1))) this.2⟩
    ·obtain⟨h',g',d',tk',os'⟩:=s';cases(show g'=s.gens from hm.gens)
     cases(show d'=s.drawn from hm.drawn)
     cases(show os'=s.os from hm.os)
     refine akS (akS ⟨rfl,h',tk',rfl,hS',λb o hb e=>?_⟩)
     exact hm.heap b o (by rw[alr];simp only[akV,ala,or_false,not_or];exact⟨ak3 hb,ak3 (alT hb)⟩) (akU _ (akU _ e))
   ·cases r₂ with
    |error e=>exact jL
    |ok we =>
     cases we with
     |ret r =>
      obtain⟨rfl,h',tk,rfl,hS',hk'⟩:=jL
      repeat any_goals (first|assumption|wp_step)
      exact h _ _ hS' hk'
     |_=>exact jL.elim
  |_=>exact hr.elim
end
def BS(P:τ) (w:ψ) (a:Ω) (n:Nat):χ->Prop:=λh=>∃o es ep t,h.get? a=ζ o/\o.ExactSet/\o.data=.set es ep t/\t.fits es.size=Ξ/\es.size=n
def uZ:D->Option (List Int)
 |.tup [.int i,.int j]=>if 0<=i/\i<8/\0<=j/\j<8 then ζ [i,j]else η
 |_=>η
def pB:List D->Option (List (List Int))
 |[]=>ζ []
 |d::l=>match uZ d,pB l with
  |some k,ζ r=>ζ (k::r)
  |_,_=>η
theorem VT{d:D}{k:List Int}(h:uZ d=ζ k):eK k/\∃i j,k=[i,j]/\d=.tup [.int i,.int j]:=by
 unfold uZ at h;split at h
 ·rename_i i j;split at h
  ·rename_i hb;cases h;exact⟨⟨i.toNat,j.toNat,by omega,by omega,by rw[show((i.toNat:Nat):Int)=i by omega,show((j.toNat:Nat):Int)=j by omega]⟩,i,j,rfl,rfl⟩
  ·cases h
 ·cases h
section
variable {X:Cx}
def U1(X:Cx):List V->Hp->VK->Prop:=λxs H Q=>∃a ys ks,xs=[.ref a]/\bC X.K H a (ys.map V.ref)/\adF (fun(y:Ω) (k:List Int)=>eK k/\H y=ζ (.tup (k.map V.int))) ys ks/\(c8 ks).length<64/\∀p,H p=η->Q (.ref p) (upd H p (.ext (BS X.prog X.w p (c8 ks).length)))
theorem J7{α β:Type}{R:α->β->Prop}:∀{l:List α}{r:List β},adF R l r->l.length=r.length
 |_,_,.nil=>rfl
 |_,_,.cons _ q=>congrArg (· + 1) (J7 q)
theorem Ci{α β:Type}{R:α->β->Prop}:∀{l:List α}{r:List β},adF R l r->∀(j:Nat) (h1:j<l.length) (h2:j<r.length),R l[j] r[j]
 |_,_,.nil,_,h,_=>absurd h (anD _)
 |_,_,.cons p q,0,_,_=>p
 |_,_,.cons p q,j+1,h1,h2=>Ci q j (by simpa using h1) (by simpa using h2)
theorem abM{pins:List (Ω×Obj)}{σ:St}{H:Hp}{s:ε}{y:Ω}{i j:Int}(I:Inv X pins σ H s) (h:H y=ζ (.tup [.int i,.int j])):aah (intKind X.prog X.w) s.heap [i,j] y:=by
 obtain⟨_,its,hv,o,h1,h2,⟨n,h3⟩,_⟩:=I.hok y _ h;cases hv with
 |cons r1 r2 =>
  cases r2 with
  |cons r3 r4 =>
   cases r4;obtain⟨t1,rfl⟩:=r1;obtain⟨t2,rfl⟩:=r3;exact⟨o,_,n,h1,h2,h3,.cons (by simp[intKind,Value.isInt]) (.cons (by simp[intKind,Value.isInt]) .nil)⟩
theorem Iu:∀{ys:List Ω}{us:List Θ},Vals (ys.map V.ref) us->us=ys.map Value.ref
 |[],_,.nil=>rfl
 |y::ys,_,.cons e r=>by cases e;rw[Iu r];rfl
theorem agT(hu:X.A.units+64<adw) (hc:X.calm=Ξ:=by rfl):c9 X (.type "set") (U1 X):=by
 intro pins s σ H xs us Q I rv h;obtain⟨a,ys,ks,rfl,sq,hp,h64,q⟩:=h;obtain⟨u,rfl,ru⟩:=alD rv;cases ru;obtain⟨its,ri,pl,hz⟩:=I.list sq;have hl:=J7 hp;refine T8 (xs:=ks) (ys:=ys) hl (I.ok.hd hc) pl.isList (by simpa using Iu ri) (λj hj=>?_) (λx hx=>?_) h64 (by show X.A.units+1+1+1<adw;omega) λh' tk hS kp=>?_
 ·obtain⟨⟨i',j',_,_,e⟩,hH⟩:=Ci hp j (by omega) hj
  rw[e]at hH ⊢;exact abM I hH
 ·obtain⟨j,hj,rfl⟩:=amJ hx;exact(Ci hp j (by omega) hj).1
 ·have hf:H s.heap.objs.size=η:=I.hok.fresh (akT _);obtain⟨o,es,ep,t,L,ho,hex,hd,IT,hL,_,sL,_⟩:=hS;have hn:es.size=(c8 ks).length:=by
   have:=congrArg List.length hL;rw[ak6,ale]at this;rw[this,<-sL.length_eq,ak6]
  refine⟨.ref s.heap.objs.size,upd H s.heap.objs.size (.ext (BS X.prog X.w s.heap.objs.size (c8 ks).length)),I.laid (t':=tk) (λb u e=>kp b u (akX e) e) (akT _) ?_,rfl,q _ hf⟩
  exact⟨⟨o,es,ep,t,ho,hex,hd,IT.fits,hn⟩,⟨o,ho⟩,λh1 h2 ⟨o,es,ep,t,ho,r⟩ k=>⟨o,es,ep,t,k o ho,r⟩⟩
def Va(X:Cx):List V->Hp->VK->Prop:=λxs H Q=>∃a n,xs=[.ref a]/\H a=ζ (.ext (BS X.prog X.w a n))/\(n:Int)<2^63/\Q (.int (n:Nat)) H
theorem agV:c9 X (.builtin "len") (Va X):=by
 intro pins s σ H xs us Q I rv h;obtain⟨a,n,rfl,hH,hn,q⟩:=h;obtain⟨u,rfl,ru⟩:=alD rv;cases ru;obtain⟨⟨o,es,ep,t,ho,hex,hd,hf,he⟩,_,_⟩:=I.hok a _ hH;subst he;exact call_len_set ho hex hd hf hn ⟨.int _,H,I.tok _,⟨_,rfl⟩,q⟩
def tH(a:aj):af:=λe c=>(a e c).bind λxs c=>match xs with
 |[x]=>match dW c x with
  |some l=>match pB l with
   |some ks=>if(c8 ks).length<64 then .ok (.int (c8 ks).length) c else .bad
   |none=>.bad
  |none=>.bad
 |_=>.bad
theorem JP{K:Ψ}{ρ:List Ω}{H:Hp}:∀{l:List D}{vs:List V}{ks:List (List Int)},aM K ρ H l vs->pB l=ζ ks->∃ys:List Ω,vs=ys.map V.ref/\adF (fun(y:Ω) (k:List Int)=>eK k/\H y=ζ (.tup (k.map V.int))) ys ks
 |[],vs,ks,r,h=>by
  cases h;have:vs=[]:=by simpa[aM]using r
  exact⟨[],this,.nil⟩
 |d::l,vs,ks,r,h=>by
  unfold pB at h;split at h
  ·rename_i k rk h1 h2;cases h;obtain⟨v,vr,rfl,rd,rr⟩:=r;obtain⟨hu,i,j,rfl,rfl⟩:=VT h1;obtain⟨y,ws,rfl,hy,rw⟩:=rd;obtain⟨v1,r1,rfl,e1,rw⟩:=rw;obtain⟨v2,r2,rfl,e2,rw⟩:=rw;cases rw;cases e1;cases e2;obtain⟨ys,rfl,p⟩:=JP rr h2;exact⟨y::ys,rfl,.cons ⟨hu,hy⟩ p⟩
  ·cases h
theorem Xu{e:π}{da:aj}{p1 p2 q1 q2:Pos}(hu:X.A.units+64<adw) (ha:fq X [e] da) (hm:X.mg "len"=η) (hm2:X.mg "set"=η) (hg:Gl X "len":=by rfl) (jM:Gl X "set":=by rfl) (hc:X.calm=Ξ:=by rfl)
  (he:μ [e] X.env=(ξ,eval e X.env)::μ [] X.env:=by exact b7 rfl):aX X (.Call (.Name "len" p1) [.Call (.Name "set" p2) [e] [] q2] [] q1) (tH da):=by
 have vM:PE X (.Call (.Name "set" p2) [e] [] q2) _:=nB (agT hu hc) jM hm2 (by decide +kernel) ha (by decide) (by decide) he (by exact ff rfl)
 refine(ym agV hg hm (by decide +kernel) (jB vM jA (b7 rfl)) (by decide) (by decide) (by exact b7 rfl) (by exact ff rfl)).imp λσ H Q h=>?_
 obtain⟨ρ,e,c,W,V,p⟩:=h;refine⟨ρ,e,c,W,V,post.bind p λxs c1 aO H1 vs ex W1 X1 r1 p1=>?_⟩
 clear ex;split at p1
 ·rename_i x;obtain⟨v,r,rfl,hx,hr⟩:=r1;cases hr;split at p1
  ·rename_i l hl;split at p1
   ·rename_i ks hn;split at p1
    ·rename_i hb;obtain⟨a,vs,rfl,ha',rl⟩:=kh W1 hx hl;obtain⟨ys,rfl,hp⟩:=JP rl hn;refine⟨a,ys,ks,rfl,bC.of ha',hp,hb,λq hq=>?_⟩
     refine⟨q,(c8 ks).length,rfl,fS,?_,?_⟩
     ·omega
     ·exact p1 aO _ _ (W1.fresh hq) (Ext.fresh W1 hq) rfl
    ·exact p1.elim
   ·exact p1.elim
  ·exact p1.elim
 ·exact p1.elim
end
@[simp] theorem ajm(a:aj) (e:Ev) (c:aa):tH a e c=(a e c).bind λxs c=>match xs with
 |[x]=>match dW c x with
  |some l=>match pB l with
   |some ks=>if(c8 ks).length<64 then .ok (.int (c8 ks).length) c else .bad
   |none=>.bad
  |none=>.bad
 |_=>.bad:=rfl
end L2
namespace Ev
open PySem L2 PyProof.Rows
def top(i:Nat):acz:=PySem.Challenge.pw_evenwebs_k51_what_is_a_square.main.body.getD i (.Pass ⟨0,0,0,0⟩)
abbrev rE:acz:=top 14
abbrev rD:acz:=top 15
abbrev rG:acz:=top 18
abbrev rH:acz:=top 19
abbrev rF:acz:=top 20
abbrev qE:acz:=top 21
abbrev qD:acz:=top 22
abbrev qF:acz:=top 23
abbrev rJ:acz:=top 24
abbrev rq:acz:=top 26
abbrev qS:acz:=top 27
abbrev qI:acz:=top 28
abbrev qG:acz:=top 29
abbrev qN:acz:=top 30
abbrev qV:acz:=top 31
abbrev qR:acz:=top 32
abbrev rj:acz:=top 33
abbrev qO:acz:=top 34
abbrev qU:acz:=top 35
abbrev qJ:acz:=top 36
abbrev qX:acz:=top 37
abbrev qY:acz:=top 38
abbrev qQ:acz:=top 39
abbrev qK:acz:=top 40
abbrev qP:acz:=top 41
abbrev qW:acz:=top 42
abbrev qT:acz:=top 43
abbrev rm:acz:=top 44
abbrev qM:acz:=top 45
abbrev qL:acz:=top 46
abbrev rB:acz:=top 47
abbrev qZ:acz:=top 48
abbrev rA:acz:=top 49
abbrev qH:acz:=top 50
abbrev rC:acz:=top 51
def eE:List Str:=["NoWeb","NoText","NoNumbers","NoField","NoThing","NoSquare","NoPlaces","TooMany","NoName","NoDeed","NoRow"]
def uo:ah :=
 (aK (iT (aB bx (ao (ak 0) (ao (dC (.ty "int")) aq))) (AO (aB bx (ao (ak 0) (ao (dC (.ty "bool")) aq))))))
def zg:List D->aa->R D:=bM 1 ξ uo
def qj:ah :=
 (aK (iT (aC 1 zg (ao (ak 0) aq)) (gY ez ez (ak 1) (ak 0) (ak 2))))
def kc:List D->aa->R D:=bM 3 ξ qj
def qk:ah :=
 (aE (bq (dY (bR (aL (aB bx (ao (ak 0) (ao (dC (.ty "tuple")) aq))))) (aL (au fX (aB aN (ao (ak 0) aq)) (ak 1)))) (aK (dC (.bl ξ))) br) (aK (iT (aB dQ (ao (aT (bD (ak 0)) [η,ζ 1] (aA 0) aJ (aC 3 kc (ao (ak 0) (ao (dC (.int 0)) (ao (au bS (ak 1) (dC (.int 1))) aq))))) aq)) (au cy (tK (ao (ak 0) aq)) (ak 1)))))
def cF:List D->aa->R D:=bM 2 ξ qk
def uq:ah :=
 (aK (aB cg (ao (aT (bD (ak 0)) [η,ζ 1] (aA 0) aJ (au aF (ak 0) (ak 1))) aq)))
def gb:List D->aa->R D:=bM 2 ξ uq
def g6:ah :=
 (aE (bq (dY (bR (aL (aB bx (ao (ak 0) (ao (dC (.ty "tuple")) aq))))) (bR (aL (gY ez ez (dC (.int 1)) (aB aN (ao (ak 0) aq)) (dC (.int 7)))))) (aK (dC (.bl ξ))) br) (aE (aG 1 (aB aN (ao (ak 0) aq))) (aE (bq (bR (aL (aB dQ (ao (aT (bD (ak 0)) [η,ζ 1] (aA 0) aJ (aC 2 cF (ao (ak 0) (ao (ak 1) aq)))) aq)))) (aK (dC (.bl ξ))) br) (aK (aB dQ (ao (aT (aV (ao (ak 1) aq)) [η,ζ 1,ζ 0] (aA 0) aJ (aC 2 cF (ao (aC 2 gb (ao (ak 2) (ao (ak 0) aq))) (ao (ak 1) aq)))) aq))))))
def cP:List D->aa->R D:=bM 2 ξ g6
def p8:ah :=
 (bq (bR (aL (aC 1 cP (ao (ak 0) aq)))) x9 br)
def k6:List D->aa->R D:=bM 1 ξ p8
def wI:Xd :=
 (qw (bR (aL (aC 1 cP (ao (ak 0) aq)))) (uF "NoSquare") xE)
def oN:List D->aa->R Str:=fnX 1 wI
def p7:ah :=
 (aK (au aF (au aF (ak 0) (au gO (ak 1) (aB aN (ao (ak 0) aq)))) (au bT (ak 1) (aB aN (ao (ak 0) aq)))))
def jj:List D->aa->R D:=bM 2 ξ p7
def p9:ah :=
 (aE (aG 2 (au b8 (aB aN (ao (ak 0) aq)) (aB aN (ao (ak 0) aq)))) (aK (au cy (tH (ao (aT (aV (ao (ak 2) aq)) [η,ζ 0,ζ 1] (aA 0) aJ (dN (ao (aC 2 jj (ao (ak 1) (ao (ak 0) aq))) (ao (aC 2 jj (ao (ak 2) (ao (ak 0) aq))) aq)))) aq)) (ak 2))))
def ze:List D->aa->R D:=bM 3 ξ p9
def lP:ah :=
 (aE (dR (aC 1 k6 (ao (ak 0) aq))) (aE (dR (aC 1 k6 (ao (ak 1) aq))) (aE (bq (aL (au fX (aB aN (ao (ak 0) aq)) (aB aN (ao (ak 1) aq)))) x9 br) (aK (aC 2 ze (ao (ak 0) (ao (ak 1) aq)))))))
def kg:List D->aa->R D:=bM 2 ξ lP
def tV:Xd :=
 (oR (jU 1 oN (ao (ak 0) aq)) (uE (dR (aC 1 k6 (ao (ak 0) aq))) (oR (jU 1 oN (ao (ak 1) aq)) (uE (dR (aC 1 k6 (ao (ak 1) aq))) (qw (aL (au fX (aB aN (ao (ak 0) aq)) (aB aN (ao (ak 1) aq)))) (uF "NoSquare") xE)))))
def ng:List D->aa->R Str:=fnX 2 tV
def qg:ah :=
 (aE (bq (aL (au Lk (ak 1) (aB aN (ao (ak 0) aq)))) (aK (au aF (ak 0) (ak 1))) br) (aK (dC (.int 0))))
def sD:List D->aa->R D:=bM 2 ξ qg
def qd:ah :=
 (aE (bq (aL (au MO (ak 0) (au rO (dC (.int 10)) (dC (.int 18))))) (aK (eV (ao (au bS (ak 0) (au rO (dC (.int 10)) (dC (.int 18)))) aq))) br) (aE (aG 1 (dC (.int 0))) (aE (bQ (aV (ao (dC (.int 64)) aq)) (aA 2) (aE (aG 3 (au bT (au b8 (au aZ (au aZ (au bT (ak 0) (dC (.int 2147483629))) (au b8 (dC (.int 7919)) (ak 2))) (dC (.int 1))) (dC (.int 48271))) (dC (.int 2147483647)))) (aE (aG 3 (au bT (au aZ (au aZ (au b8 (ak 3) (ak 3)) (au b8 (dC (.int 69621)) (ak 2))) (dC (.int 7))) (dC (.int 2147483587)))) (aG 1 (au aZ (au b8 (ak 1) (dC (.int 2147483587))) (ak 3)))))) (aK (eV (ao (ak 1) aq))))))
def sA:List D->aa->R D:=bM 4 Ξ qd
def qa:ah :=
 (aE (aG 2 (au bT (au aF (ak 0) (dC (.int 0))) (ak 1))) (aE (kU (au gO (au aF (ak 0) (dC (.int 0))) (ak 1)) (lF (ak 0) (dC (.int 0)))) (aK (ak 2))))
def b6:List D->aa->R D:=bM 3 ξ qa
def tW:ah :=
 (aK (iT (aB bx (ao (ak 0) (ao (dC (.ty "int")) aq))) (AO (aB bx (ao (ak 0) (ao (dC (.ty "bool")) aq))))))
def iN:List D->aa->R D:=bM 1 ξ tW
def qb(m:List D->aa->R D):ah :=
 (aE (bq (aL (au vI (ak 1) (dC .aQ))) (aK (au vI (ak 0) (dC .aQ))) br) (aE (bq (aL (aB bx (ao (ak 1) (ao (dC (.ty "bool")) aq)))) (aK (iT (aB bx (ao (ak 0) (ao (dC (.ty "bool")) aq))) (au cy (ak 0) (ak 1)))) br) (aE (bq (aL (aB bx (ao (ak 1) (ao (dC (.ty "int")) aq)))) (aK (iT (aC 1 iN (ao (ak 0) aq)) (au cy (ak 0) (ak 1)))) br) (aE (bq (aL (aB bx (ao (ak 1) (ao (dC (.ty "str")) aq)))) (aK (iT (aB bx (ao (ak 0) (ao (dC (.ty "str")) aq))) (au cy (ak 0) (ak 1)))) br) (aE (bq (dY (aL (au fX (aB bx (ao (ak 1) (ao (dC (.ty "tuple")) aq))) (aB bx (ao (ak 0) (ao (dC (.ty "tuple")) aq))))) (aL (au fX (aB bx (ao (ak 1) (ao (dC (.ty "list")) aq))) (aB bx (ao (ak 0) (ao (dC (.ty "list")) aq)))))) (aK (dC (.bl ξ))) br) (aK (iT (au cy (aB aN (ao (ak 0) aq)) (aB aN (ao (ak 1) aq))) (aB dQ (ao (aT (wm (ao (ak 0) (ao (ak 1) aq))) [η,η] (zM 2 (zN (aA 0) (zN (aA 1) EU))) aJ (aC 2 m (ao (ak 0) (ao (ak 1) aq)))) aq)))))))))
def iz:Nat->List D->aa->R D
 |0=>λ_ _=>.bad
 |k+1=>bM 2 ξ (qb (iz k))
def ue:ah :=
 (aE (aG 1 (bH (ao (aB (gc eE) (ao (ak 0) (ao (dC (.fn "NoWeb" 0)) aq))) (ao (aB (gc eE) (ao (ak 0) (ao (dC (.fn "NoText" 0)) aq))) (ao (aB (gc eE) (ao (ak 0) (ao (dC (.fn "NoNumbers" 0)) aq))) (ao (aB (gc eE) (ao (ak 0) (ao (dC (.fn "NoField" 0)) aq))) aq)))))) (aE (aG 1 (au dP (ak 1) (bH (ao (aB (gc eE) (ao (ak 0) (ao (dC (.fn "NoThing" 0)) aq))) (ao (aB (gc eE) (ao (ak 0) (ao (dC (.fn "NoSquare" 0)) aq))) (ao (aB (gc eE) (ao (ak 0) (ao (dC (.fn "NoPlaces" 0)) aq))) (ao (aB (gc eE) (ao (ak 0) (ao (dC (.fn "TooMany" 0)) aq))) aq))))))) (aE (aG 1 (au dP (ak 1) (bH (ao (aB (gc eE) (ao (ak 0) (ao (dC (.fn "NoName" 0)) aq))) (ao (aB (gc eE) (ao (ak 0) (ao (dC (.fn "NoDeed" 0)) aq))) (ao (aB (gc eE) (ao (ak 0) (ao (dC (.fn "NoRow" 0)) aq))) aq)))))) (aE (bq (dY (aL (au fX (Gu (ak 1) (dC (.bl Ξ))) (dC (.int 1)))) (bR (aL (aB (gc eE) (ao (ak 0) (ao (dC (.ty "ValueError")) aq)))))) (aK (dC (.str "other"))) br) (aE (aG 2 (bH (ao (dC (.str "web")) (ao (dC (.str "text")) (ao (dC (.str "numbers")) (ao (dC (.str "field")) (ao (dC (.str "thing")) (ao (dC (.str "square")) (ao (dC (.str "places")) (ao (dC (.str "many")) (ao (dC (.str "name")) (ao (dC (.str "deed")) (ao (dC (.str "row")) aq))))))))))))) (aK (au aF (ak 2) (Gr (ak 1) (dC (.bl Ξ))))))))))
def zf:List D->aa->R D:=bM 3 ξ ue
def ua:ah :=
 (aK (au aF (aT (gh (bH (fk [2,3,5,7,11,13,17,19,23,29,31,37,41,43,47]))) [η,ζ 0] (aA 0) (aL (au cy (au bT (ak 1) (ak 0)) (dC (.int 0)))) (ak 0)) (dC (.int 0))))
def gy:List D->aa->R D:=bM 1 ξ ua
def ug:ah :=
 (aE (aG 1 (dC (.int 0))) (aE (gF (aL (au sQ (ak 0) (dC (.int 1)))) (aE (aG 0 (au gO (ak 0) (aC 1 gy (ao (ak 0) aq)))) (aG 1 (au aZ (ak 1) (dC (.int 1))))) 10) (aK (ak 1))))
def j9:List D->aa->R D:=bM 2 ξ ug
def t6:ah :=
 (aE (aG 3 (eV aq)) (aE (bQ (aV (ao (ak 2) aq)) (aA 4) (aE (dR (fm (ak 3) (au bT (ak 0) (ak 1)))) (aG 0 (au gO (ak 0) (ak 1))))) (aK (ak 3))))
def fH:List D->aa->R D:=bM 5 ξ t6
def ud:ah :=
 (aE (aG 2 (dC (.int 0))) (aE (bQ (aV (ao (aB aN (ao (ak 0) aq)) aq)) (aA 3) (aG 2 (au aZ (au b8 (ak 2) (ak 1)) (au aF (ak 0) (au bS (au bS (aB aN (ao (ak 0) aq)) (dC (.int 1))) (ak 3)))))) (aK (ak 2))))
def pJ:List D->aa->R D:=bM 4 ξ ud
def lO:ah :=
 (aE (aG 3 (au jW (bH (ao (dC (.int 0)) aq)) (au bS (au aZ (aB aN (ao (ak 0) aq)) (aB aN (ao (ak 1) aq))) (dC (.int 1))))) (aE (bQ (aV (ao (aB aN (ao (ak 0) aq)) aq)) (aA 4) (bQ (aV (ao (aB aN (ao (ak 1) aq)) aq)) (aA 5) (kU (au bT (au aZ (au aF (ak 3) (au aZ (ak 4) (ak 5))) (au b8 (au aF (ak 0) (ak 4)) (au aF (ak 1) (ak 5)))) (ak 2)) (lF (ak 3) (au aZ (ak 4) (ak 5)))))) (aK (ak 3))))
def k7:List D->aa->R D:=bM 6 ξ lO
def sf:List D->aa->R D:=bM 6 Ξ lO
def oA:ah :=
 (aE (aG 2 (bH (ao (bH aq) aq))) (aE (bQ (aV (ao (ak 0) aq)) (aA 3) (aE (aG 4 (eV aq)) (aE (bQ (gh (ak 2)) (aA 5) (dR (lJ (ak 4) (aT (aV (ao (ak 1) aq)) [η,ζ 5] (aA 0) aJ (au dP (ak 1) (bH (ao (ak 0) aq))))))) (aG 2 (ak 4))))) (aK (aT (gh (ak 2)) [η] (aA 0) aJ (au dP (ak 0) (bH (ao (dC (.int 1)) aq)))))))
def nM:List D->aa->R D:=bM 6 ξ oA
def uf:ah :=
 (aE (aG 1 (aC 1 gy (ao (ak 0) aq))) (aE (aG 2 (aC 1 j9 (ao (ak 0) aq))) (aE (bq (aL (au cy (ak 2) (dC (.int 1)))) (aK (bH (ao (dC (.int 0)) (ao (dC (.int 1)) aq)))) br) (aE (aG 3 (eV aq)) (aE (bQ (oi (ao (dC (.int 1)) (ao (au aZ (au gO (ak 2) (dC (.int 2))) (dC (.int 1))) aq))) (aA 4) (bQ (gh (aC 2 nM (ao (ak 4) (ao (ak 1) aq)))) (aA 5) (dR (lJ (ak 3) (aT (gh (aC 2 nM (ao (au bS (ak 2) (ak 4)) (ao (ak 1) aq)))) [η,ζ 5,ζ 1] (aA 0) aJ (aC 3 k7 (ao (ak 1) (ao (ak 0) (ao (ak 2) aq))))))))) (aE (aG 6 (dC (.int 0))) (aE (gF (aL (au inD (au dP (aC 3 fH (ao (ak 6) (ao (ak 1) (ao (ak 2) aq)))) (bH (ao (dC (.int 1)) aq))) (ak 3))) (aG 6 (au aZ (ak 6) (dC (.int 1)))) 60) (aK (au dP (aC 3 fH (ao (ak 6) (ao (ak 1) (ao (ak 2) aq)))) (bH (ao (dC (.int 1)) aq)))))))))))
def sC:List D->aa->R D:=bM 7 ξ uf
def t7:ah :=
 (aE (aG 4 (aC 1 gy (ao (ak 0) aq))) (aE (aG 5 (au bS (aB aN (ao (ak 1) aq)) (dC (.int 1)))) (aE (aG 6 (aC 3 sf (ao (aC 3 fH (ao (ak 2) (ao (ak 4) (ao (ak 5) aq)))) (ao (aC 3 fH (ao (ak 3) (ao (ak 4) (ao (ak 5) aq)))) (ao (ak 4) aq))))) (aE (bQ (tF (ao (au bS (aB aN (ao (ak 6) aq)) (dC (.int 1))) (ao (au bS (ak 5) (dC (.int 1))) (ao (au bS (dC (.int 0)) (dC (.int 1))) aq)))) (aA 7) (aE (aG 8 (au aF (ak 6) (ak 7))) (bQ (aV (ao (au aZ (ak 5) (dC (.int 1))) aq)) (aA 9) (aE (aG 10 (au aZ (au bS (ak 7) (ak 5)) (ak 9))) (kU (au bT (au bS (au aF (ak 6) (ak 10)) (au b8 (ak 8) (au aF (ak 1) (ak 9)))) (ak 4)) (lF (ak 6) (ak 10))))))) (aK (aC 2 pJ (ao (wo (ak 6) eU (eT (ak 5))) (ao (ak 4) aq))))))))
def sy:List D->aa->R D:=bM 11 ξ t7
def tX:ah :=
 (aE (aG 4 (aC 1 gy (ao (ak 0) aq))) (aE (aG 5 (aC 1 j9 (ao (ak 0) aq))) (aE (aG 6 (bH (ao (aC 3 fH (ao (ak 1) (ao (ak 4) (ao (ak 5) aq)))) (ao (aC 3 fH (ao (ak 2) (ao (ak 4) (ao (ak 5) aq)))) aq)))) (aK (aC 2 pJ (ao (aT (aV (ao (ak 5) aq)) [η,ζ 4,ζ 3,ζ 6] (aA 0) aJ (au bT (au aZ (au aF (au aF (ak 3) (dC (.int 0))) (ak 0)) (au b8 (ak 2) (au aF (au aF (ak 3) (dC (.int 1))) (ak 0)))) (ak 1))) (ao (ak 4) aq)))))))
def nL:List D->aa->R D:=bM 7 ξ tX
def qc:ah :=
 (aE (aG 1 (aC 1 sC (ao (ak 0) aq))) (aK (aT (aV (ao (ak 0) aq)) [η,ζ 0,ζ 1] (aA 0) aJ (aT (aV (ao (ak 1) aq)) [η,ζ 1,ζ 2,ζ 0] (aA 0) aJ (aC 4 sy (ao (ak 1) (ao (ak 2) (ao (ak 3) (ao (ak 0) aq)))))))))
def su:List D->aa->R D:=bM 2 ξ qc
def iV:ah :=
 (aE (bq (dY (bR (aL (aB bx (ao (ak 0) (ao (dC (.ty "tuple")) aq))))) (bR (aL (gY ez ez (dC (.int 1)) (aB aN (ao (ak 0) aq)) (dC (.int 7)))))) (aK (dC (.bl ξ))) br) (aE (aG 1 (jo (ao (aB aN (ao (ak 0) aq)) aq))) (aE (bQ (bD (ak 0)) (aA 2) (bq (dY (bR (aL (aB bx (ao (ak 2) (ao (dC (.ty "tuple")) aq))))) (dY (bR (aL (aB dQ (ao (aT (bD (ak 2)) [η] (aA 0) aJ (aC 1 iN (ao (ak 0) aq))) aq)))) (aL (au eG (aB jy (ao (ak 2) aq)) (ak 1))))) (aK (dC (.bl ξ))) br)) (aE (bQ (aV (ao (aB aN (ao (ak 0) aq)) aq)) (aA 3) (bq (aL (au eG (aB i9 (ao (aT (bD (ak 0)) [η,ζ 3] (aA 0) aJ (au aF (ak 0) (ak 1))) aq)) (ak 1))) (aK (dC (.bl ξ))) br)) (aK (dC (.bl Ξ)))))))
def fZ:List D->aa->R D:=bM 4 ξ iV
def uc:ah :=
 (aE (aG 2 (wu (ao (ak 1) aq))) (aK (aB cg (ao (aT (aV (ao (ak 1) aq)) [η,ζ 2,ζ 0] (aA 0) aJ (tG (ak 1) (aC 2 b6 (ao (ak 2) (ao (aB aN (ao (ak 1) aq)) aq))))) aq))))
def fJ:List D->aa->R D:=bM 3 ξ uc
def uh:ah :=
 (aE (bq (gB (aL (au cy (ak 1) (dC (.int 4)))) (aL (au cy (aC 2 b6 (ao (ak 0) (ao (dC (.int 2)) aq))) (dC (.int 0))))) (aG 2 (aT (aV (ao (ak 1) aq)) [η,ζ 1] (aA 0) aJ (aT (aV (ao (ak 1) aq)) [η,ζ 0] (aA 0) aJ (au m9 (ak 1) (ak 0))))) (aE (aG 3 (au aZ (dC (.int 1)) (aC 2 b6 (ao (ak 0) (ao (aB sj (ao (dC (.int 1)) (ao (au bS (ak 1) (dC (.int 1))) aq))) aq))))) (aE (aG 2 (aT (aV (ao (ak 1) aq)) [η,ζ 1,ζ 3] (aA 0) aJ (aT (aV (ao (ak 1) aq)) [η,ζ 1,ζ 2,ζ 0] (aA 0) aJ (au bT (au aZ (au b8 (ak 2) (ak 3)) (ak 0)) (ak 1))))) (bq (aL (au eG (pV (ao (aT (gh (ak 2)) [η] (aA 0) aJ (au aF (ak 0) (dC (.int 0)))) aq)) (jo (ao (ak 1) aq)))) (aG 2 (aT (aV (ao (ak 1) aq)) [η,ζ 1] (aA 0) aJ (aT (aV (ao (ak 1) aq)) [η,ζ 1,ζ 0] (aA 0) aJ (au bT (au aZ (ak 2) (ak 0)) (ak 1))))) br)))) (aE (aG 4 (aC 2 fJ (ao (ak 0) (ao (ak 1) aq)))) (aE (aG 5 (aC 2 fJ (ao (ak 0) (ao (ak 1) aq)))) (aE (aG 6 (aC 2 fJ (ao (ak 0) (ao (ak 1) aq)))) (aK (aB cg (ao (aT (bD (ak 4)) [η,ζ 5,ζ 6,ζ 2] (aA 0) aJ (aB cg (ao (aT (bD (ak 2)) [η,ζ 1,ζ 3,ζ 0] (aA 0) aJ (au aF (ak 1) (au aF (au aF (ak 2) (ak 3)) (ak 0)))) aq))) aq)))))))
def pK:List D->aa->R D:=bM 7 ξ uh
def tZ:ah :=
 (aE (aG 1 (eV (ao (bH (fk [0,1,2,3,4,5])) (ao (bH (fk [1,0,3,2,5,4])) (ao (bH (fk [2,4,0,5,1,3])) (ao (bH (fk [3,5,1,4,0,2])) (ao (bH (fk [4,2,5,0,3,1])) aq))))))) (aE (dR (fm (ak 1) (bH (fk [5,3,4,1,2,0])))) (aE (aG 2 (aC 2 fJ (ao (ak 0) (ao (dC (.int 6)) aq)))) (aK (aB cg (ao (aT (bD (ak 2)) [η,ζ 1] (aA 0) aJ (aB cg (ao (au aF (ak 1) (ak 0)) aq))) aq))))))
def k8:List D->aa->R D:=bM 3 ξ tZ
def tY:ah :=
 (aE (bq (gB (aL (au cy (ak 1) (dC (.int 6)))) (aL (au cy (aC 2 b6 (ao (ak 0) (ao (dC (.int 2)) aq))) (dC (.int 0))))) (aK (aC 1 k8 (ao (ak 0) aq))) br) (aK (aC 2 pK (ao (ak 0) (ao (ak 1) aq)))))
def j8:List D->aa->R D:=bM 2 ξ tY
def oB:ah :=
 (aE (aG 2 (eV aq)) (aE (bQ (aV (ao (aB aN (ao (ak 0) aq)) aq)) (aA 3) (bQ (aV (ao (aB aN (ao (ak 0) aq)) aq)) (aA 4) (aE (aG 5 (dN (ao (au aF (au aF (ak 0) (ak 3)) (ak 4)) (ao (au aF (au aF (ak 1) (ak 3)) (ak 4)) aq)))) (aE (bq (aL (au inD (ak 5) (ak 2))) (aK (dC (.bl ξ))) br) (dR (fm (ak 2) (ak 5))))))) (aK (dC (.bl Ξ)))))
def sE:List D->aa->R D:=bM 6 ξ oB
def qe:ah :=
 (aE (aG 1 (aC 1 su (ao (ak 0) aq))) (aE (aG 2 (eV aq)) (aE (bQ (oi (ao (dC (.int 1)) (ao (ak 0) aq))) (aA 3) (aE (aG 4 (eV aq)) (aE (bQ (aV (ao (ak 0) aq)) (aA 5) (dR (fm (ak 4) (aB cg (ao (aT (aV (ao (ak 0) aq)) [η,ζ 0,ζ 5,ζ 1,ζ 3] (aA 0) aJ (aC 4 nL (ao (ak 1) (ao (au aF (au aF (ak 3) (ak 4)) (ak 2)) (ao (ak 0) (ao (dC (.int 1)) aq)))))) aq))))) (dR (fm (ak 2) (aB cg (ao (ak 4) aq))))))) (aK (ak 2)))))
def vB:List D->aa->R D:=bM 6 ξ qe
def qi:ah :=
 (aE (aG 2 (aB aN (ao (ak 1) aq))) (aE (aG 3 (aC 2 b6 (ao (ak 0) (ao (ak 2) aq)))) (aE (aG 4 (aC 2 b6 (ao (ak 0) (ao (ak 2) aq)))) (aE (aG 5 (bH (ao (ak 2) (ao (au bS (dC (.int 0)) (dC (.int 1))) (ao (dC (.bl Ξ)) (ao (dC .aQ) (ao (dC (.str "0")) (ao (au aF (au aF (ak 1) (ak 3)) (au bS (ak 4) (dC (.int 1)))) (ao (dN (ao (dC (.int 0)) aq)) (ao (au aF (au aF (ak 1) (au bS (ak 3) (dC (.int 1)))) (ak 4)) aq)))))))))) (aE (aG 6 (au aF (ak 5) (aC 2 b6 (ao (ak 0) (ao (dC (.int 8)) aq))))) (aE (aG 7 (au fO (au fO (fF (au aF (ak 1) (ak 3)) eU (eT (ak 4))) (dN (ao (ak 6) aq))) (fF (au aF (ak 1) (ak 3)) (eT (au aZ (ak 4) (dC (.int 1)))) eU))) (aE (aG 8 (bH (ao (au fO (au fO (fF (ak 1) eU (eT (ak 3))) (dN (ao (ak 7) aq))) (fF (ak 1) (eT (au aZ (ak 3) (dC (.int 1)))) eU)) (ao (au fO (fF (ak 1) eU (eT (ak 3))) (fF (ak 1) (eT (au aZ (ak 3) (dC (.int 1)))) eU)) (ao (au fO (ak 1) (fF (ak 1) eU (eT (dC (.int 1))))) (ao (aB jH (ao (ak 1) aq)) aq)))))) (aE (aG 8 (au dP (ak 8) (bH (ao (aB cg (ao (aT (bD (ak 1)) [η] (aA 0) aJ (aB jH (ao (ak 0) aq))) aq)) (ao (au fO (au fO (fF (ak 1) eU (eT (ak 3))) (dN (ao (au aF (ak 1) (au bS (ak 3) (dC (.int 1)))) aq))) (fF (ak 1) (eT (au aZ (ak 3) (dC (.int 1)))) eU)) (ao (dN aq) (ao (dC .aQ) aq))))))) (aE (aG 9 (eV aq)) (aE (bQ (aV (ao (dC (.int 8)) aq)) (aA 10) (dR (fm (ak 9) (aB cg (ao (aT (aV (ao (dC (.int 8)) aq)) [η,ζ 10] (aA 0) aJ (au bT (au aZ (ak 1) (ak 0)) (dC (.int 8)))) aq))))) (aE (aG 8 (au dP (ak 8) (bH (ao Gs (ao (dC (.int 7)) (ao (dC (.str "0")) (ao (dN (ao (dN (ao (dC (.int 0)) aq)) aq)) (ao (aB cg (ao (ak 9) aq)) aq)))))))) (aK (au aF (ak 8) (aC 2 b6 (ao (ak 0) (ao (dC (.int 13)) aq))))))))))))))))
def vC:List D->aa->R D:=bM 11 ξ qi
def lN:ah :=
 (oZ eE 2 3 (aK (aC 2 kg (ao (ak 0) (ao (ak 1) aq)))) (jU 2 ng (ao (ak 0) (ao (ak 1) aq))) (aC 1 zf (ao (ak 2) aq)))
def fh:List D->aa->R D:=bM 3 ξ lN
def um:ah :=
 (aE (bQ (aV (ao (dC (.int 6)) aq)) (aA 1) (aE (aG 2 (aC 1 sA (ao (aC 2 sD (ao (ak 0) (ao (ak 1) aq))) aq))) (aE (aG 3 (aC 2 j8 (ao (ak 2) (ao (au aZ (dC (.int 1)) (aC 2 b6 (ao (ak 2) (ao (dC (.int 7)) aq)))) aq)))) (aE (aG 4 (au aZ (dC (.int 1)) (aC 2 b6 (ao (ak 2) (ao (dC (.int 7)) aq))))) (aE (bq (aL (au sQ (aC 2 b6 (ao (ak 2) (ao (dC (.int 4)) aq))) (dC (.int 0)))) (aG 4 (aB aN (ao (ak 3) aq))) br) (aE (aG 5 (aC 2 j8 (ao (ak 2) (ao (ak 4) aq)))) (aE (bq (gB (aL (au inD (aB aN (ao (ak 3) aq)) (dN (ao (dC (.int 3)) (ao (dC (.int 4)) (ao (dC (.int 5)) (ao (dC (.int 7)) aq))))))) (aL (au cy (aC 2 b6 (ao (ak 2) (ao (dC (.int 2)) aq))) (dC (.int 0))))) (aE (aG 6 (aC 1 vB (ao (aB aN (ao (ak 3) aq)) aq))) (aE (aG 3 (au aF (ak 6) (aC 2 b6 (ao (ak 2) (ao (aB aN (ao (ak 6) aq)) aq))))) (aG 5 (au aF (ak 6) (aC 2 b6 (ao (ak 2) (ao (aB aN (ao (ak 6) aq)) aq))))))) br) (aE (aG 7 (aC 2 vC (ao (ak 2) (ao (ak 3) aq)))) (aE (aG 8 (aC 1 cP (ao (ak 7) aq))) (aE (bq (dY (aL (au sI (aC 1 cP (ao (ak 3) aq)) (dC (.bl Ξ)))) (bR (aL (aB bx (ao (ak 8) (ao (dC (.ty "bool")) aq)))))) (aK (dC (.bl ξ))) br) (aE (bq (aL (au fX (ak 8) (aC 1 fZ (ao (ak 7) aq)))) (aK (dC (.bl ξ))) br) (aE (aG 9 (dC (.str "square"))) (aE (bq (aL (au cy (aB aN (ao (ak 3) aq)) (aB aN (ao (ak 5) aq)))) (aG 9 (aC 2 sE (ao (ak 3) (ao (ak 5) aq)))) br) (aE (bq (bR (aL (aC 2 (iz 2) (ao (aC 2 fh (ao (ak 3) (ao (ak 5) aq))) (ao (ak 9) aq))))) (aK (dC (.bl ξ))) br) (aE (bq (bR (aL (aC 2 (iz 2) (ao (aC 2 fh (ao (ak 5) (ao (ak 3) aq))) (ao (ak 9) aq))))) (aK (dC (.bl ξ))) br) (aE (bq (gB (bR (tE (ak 8))) (aL (au eG (aC 2 fh (ao (ak 3) (ao (ak 7) aq))) (dC (.str "square"))))) (aK (dC (.bl ξ))) br) (bq (gB (bR (tE (ak 8))) (aL (au eG (aC 2 fh (ao (ak 7) (ao (ak 3) aq))) (dC (.str "square"))))) (aK (dC (.bl ξ))) br))))))))))))))))) (aK (dC (.bl Ξ))))
def vD:List D->aa->R D:=bM 10 ξ um
set_option genInjectivity false in
set_option genSizeOfSpec false in
structure Tx (K:Ψ) (mg:Str->Option Θ) where
 mO:Ω
 FL:ο
 Gp:Def K mg "is_whole" rE ["thing"] mO FL
 aaT:Γ K Δ "is_whole"=ζ (ζ (.ref mO))
 mL:Ω
 FJ:ο
 Gn:Def K mg "is_whole_within" rD ["thing","least","most"] mL FJ
 aaS:Γ K Δ "is_whole_within"=ζ (ζ (.ref mL))
 mQ:Ω
 FO:ο
 AN:Def K mg "holds_each_once" rG ["thing","many"] mQ FO
 aaV:Γ K Δ "holds_each_once"=ζ (ζ (.ref mQ))
 mR:Ω
 FP:ο
 Gq:Def K mg "column_of" rH ["rows","y"] mR FP
 aaW:Γ K Δ "column_of"=ζ (ζ (.ref mR))
 mP:Ω
 FN:ο
 tw:Def K mg "is_square" rF ["thing"] mP FN
 aaU:Γ K Δ "is_square"=ζ (ζ (.ref mP))
 kD:Ω
 zS:ο
 lI:Def K mg "require_square" qE ["thing"] kD zS
 aaq:Γ K Δ "require_square"=ζ (ζ (.ref kD))
 lR:Ω
 E6:ο
 AH:Def K mg "sign_in" qD ["square","cell"] lR E6
 aap:Γ K Δ "sign_in"=ζ (ζ (.ref lR))
 lS:Ω
 E7:ο
 F6:Def K mg "lie_across" qF ["one","other"] lS E7
 aar:Γ K Δ "lie_across"=ζ (ζ (.ref lS))
 kH:Ω
 zV:ο
 wk:Def K mg "across" rJ ["one","other"] kH zV
 aaX:Γ K Δ "across"=ζ (ζ (.ref kH))
 mH:Ω
 FF:ο
 Gj:Def K mg "_law_cell_at" rq ["script","k"] mH FF
 aaO:Γ K Δ "_law_cell_at"=ζ (ζ (.ref mH))
 mh:Ω
 Fp:ο
 Gb:Def K mg "_law_pot" qS ["cell"] mh Fp
 aaE:Γ K Δ "_law_pot"=ζ (ζ (.ref mh))
 lW:Ω
 Fb:ο
 gP:Def K mg "_law_take" qI ["pot","far"] lW Fb
 aau:Γ K Δ "_law_take"=ζ (ζ (.ref lW))
 lU:Ω
 E8:ο
 AI:Def K mg "_law_whole" qG ["found"] lU E8
 aas:Γ K Δ "_law_whole"=ζ (ζ (.ref lU))
 kF:Ω
 zU:ο
 wj:Def K mg "_law_same" qN ["found","due"] kF zU
 aaz:Γ K Δ "_law_same"=ζ (ζ (.ref kF))
 mw:Ω
 Fw:ο
 Ge:Def K mg "_law_kind_of" qV ["e"] mw Fw
 aaH:Γ K Δ "_law_kind_of"=ζ (ζ (.ref mw))
 l9:Ω
 Fo:ο
 sY:Def K mg "_law_prime" qR ["q"] l9 Fo
 aaD:Γ K Δ "_law_prime"=ζ (ζ (.ref l9))
 mF:Ω
 FD:ο
 AM:Def K mg "_law_degree" rj ["q"] mF FD
 aaM:Γ K Δ "_law_degree"=ζ (ζ (.ref mF))
 l0:Ω
 Fg:ο
 oh:Def K mg "_law_row" qO ["number","p","many"] l0 Fg
 aaA:Γ K Δ "_law_row"=ζ (ζ (.ref l0))
 mq:Ω
 Fv:ο
 AK:Def K mg "_law_number" qU ["row","p"] mq Fv
 aaG:Γ K Δ "_law_number"=ζ (ζ (.ref mq))
 kE:Ω
 zT:ο
 wg:Def K mg "_law_sums_product" qJ ["one","other","p"] kE zT
 aav:Γ K Δ "_law_sums_product"=ζ (ζ (.ref kE))
 mC:Ω
 Fy:ο
 AL:Def K mg "_law_heads" qX ["many","p"] mC Fy
 aaJ:Γ K Δ "_law_heads"=ζ (ζ (.ref mC))
 mD:Ω
 Fz:ο
 Gg:Def K mg "_law_form" qY ["q"] mD Fz
 aaK:Γ K Δ "_law_form"=ζ (ζ (.ref mD))
 l7:Ω
 Fj:ο
 Ga:Def K mg "_law_product" qQ ["q","form","one","other"] l7 Fj
 aaC:Γ K Δ "_law_product"=ζ (ζ (.ref l7))
 lX:Ω
 Fc:ο
 F7:Def K mg "_law_sum" qK ["q","one","other","sign"] lX Fc
 aaw:Γ K Δ "_law_sum"=ζ (ζ (.ref lX))
 l5:Ω
 Fi:ο
 F9:Def K mg "_law_products_of" qP ["q"] l5 Fi
 aaB:Γ K Δ "_law_products_of"=ζ (ζ (.ref l5))
 mz:Ω
 Fx:ο
 Gf:Def K mg "_law_is_square" qW ["thing"] mz Fx
 aaI:Γ K Δ "_law_is_square"=ζ (ζ (.ref mz))
 mj:Ω
 Ft:ο
 sZ:Def K mg "_law_order" qT ["pot","many"] mj Ft
 aaF:Γ K Δ "_law_order"=ζ (ζ (.ref mj))
 mG:Ω
 FE:ο
 Gi:Def K mg "_law_cycled" rm ["pot","n"] mG FE
 aaN:Γ K Δ "_law_cycled"=ζ (ζ (.ref mG))
 lZ:Ω
 Ff:ο
 F8:Def K mg "_law_six" qM ["pot"] lZ Ff
 aay:Γ K Δ "_law_six"=ζ (ζ (.ref lZ))
 lY:Ω
 Fe:ο
 AJ:Def K mg "_law_square" qL ["pot","n"] lY Fe
 aax:Γ K Δ "_law_square"=ζ (ζ (.ref lY))
 mK:Ω
 FH:ο
 Gm:Def K mg "_law_across" rB ["one","other"] mK FH
 aaQ:Γ K Δ "_law_across"=ζ (ζ (.ref mK))
 mE:Ω
 FA:ο
 Gh:Def K mg "_law_field_squares" qZ ["q"] mE FA
 aaL:Γ K Δ "_law_field_squares"=ζ (ζ (.ref mE))
 mJ:Ω
 FG:ο
 Gk:Def K mg "_law_bent" rA ["pot","square"] mJ FG
 aaP:Γ K Δ "_law_bent"=ζ (ζ (.ref mJ))
 lV:Ω
 E9:ο
 sX:Def K mg "_law_told" qH ["one","other"] lV E9
 aat:Γ K Δ "_law_told"=ζ (ζ (.ref lV))
 kG:Ω
 FI:ο
 NN:Def K mg "law" rC ["script"] kG FI
 aaR:Γ K Δ "law"=ζ (ζ (.ref kG))
 Le:mg "ValueError"=η
 r9:mg "all"=η
 rZ:mg "bool"=η
 za:mg "int"=η
 cW:mg "isinstance"=η
 cz:mg "len"=η
 nJ:mg "list"=η
 Ld:mg "max"=η
 cK:mg "range"=η
 y9:mg "set"=η
 yZ:mg "sorted"=η
 CL:mg "str"=η
 fY:mg "tuple"=η
 Lc:mg "zip"=η
 uI:Tok
 M3:mg "MOST_SIGNS"=ζ (.int 7 uI)
 tM:Ω
 MS:mg "NoWeb"=ζ (.ref tM)
 K2:Γ K Δ "NoWeb"=ζ (ζ (.ref tM))
 tO:Ω
 MU:mg "NoText"=ζ (.ref tO)
 K4:Γ K Δ "NoText"=ζ (ζ (.ref tO))
 tR:Ω
 MY:mg "NoNumbers"=ζ (.ref tR)
 K8:Γ K Δ "NoNumbers"=ζ (ζ (.ref tR))
 tT:Ω
 M0:mg "NoField"=ζ (.ref tT)
 La:Γ K Δ "NoField"=ζ (ζ (.ref tT))
 tN:Ω
 MT:mg "NoThing"=ζ (.ref tN)
 K3:Γ K Δ "NoThing"=ζ (ζ (.ref tN))
 pZ:Ω
 MV:mg "NoSquare"=ζ (.ref pZ)
 K5:Γ K Δ "NoSquare"=ζ (ζ (.ref pZ))
 tQ:Ω
 MX:mg "NoPlaces"=ζ (.ref tQ)
 K7:Γ K Δ "NoPlaces"=ζ (ζ (.ref tQ))
 tL:Ω
 MR:mg "TooMany"=ζ (.ref tL)
 K1:Γ K Δ "TooMany"=ζ (ζ (.ref tL))
 tS:Ω
 MZ:mg "NoName"=ζ (.ref tS)
 K9:Γ K Δ "NoName"=ζ (ζ (.ref tS))
 tU:Ω
 M1:mg "NoDeed"=ζ (.ref tU)
 Lb:Γ K Δ "NoDeed"=ζ (ζ (.ref tU))
 tP:Ω
 MW:mg "NoRow"=ζ (.ref tP)
 K6:Γ K Δ "NoRow"=ζ (ζ (.ref tP))
 oz:Ω
 MQ:mg "WebError"=ζ (.ref oz)
 aam:Γ K Δ "WebError"=ζ (ζ (.ref oz))
 By:wN K mg "NoSquare" xF "ValueError.__new__"
 gp:wM K eE
 xw:Bs K eE oz=Ξ
section
variable {P:τ}{w:ψ}{K:Ψ}{mg:Str->Option Θ}{base:χ}
theorem Us:cB ["thing"] ["thing"] (aW rE):=⟨rfl,rfl,rfl,by decide +kernel,rfl,by decide +kernel,by decide +kernel⟩
theorem YF(T:Tx K mg):bX P w K mg base bY 1 T.mO T.FL ["thing"] (cj K 1 zg) :=
 cM (k:=0) T.Gp.fn Us rfl rfl λcdv A outer s H E hr=>by
  show b9 _ _ uo;unfold uo;exact(aU (bG (nG (aY gm T.cW ald (ay (av 0) (ay (fK rfl T.za boot_int) az))) (nE (J3 (aY gm T.cW ald (ay (av 0) (ay (fK rfl T.rZ boot_bool) az))))))))
theorem Ur:cB ["thing","least","most"] ["thing","least","most"] (aW rD):=⟨rfl,rfl,rfl,by decide +kernel,rfl,by decide +kernel,by decide +kernel⟩
theorem YE(T:Tx K mg):bX P w K mg base bY 2 T.mL T.FJ ["thing","least","most"] (cj K 3 kc) :=
 cM (k:=1) T.Gn.fn Ur rfl rfl λcdv A outer s H E hr=>by
  show b9 _ _ qj;unfold qj;exact(aU (bG (nG (bg T.Gp (YF T) (hr.mono (by decide)) (ay (av 0) az)) (nE (XD rV rV (av 1) (av 0) (av 2))))))
theorem Ut:cB ["thing","many"] ["thing","many"] (aW rG):=⟨rfl,rfl,rfl,by decide +kernel,rfl,by decide +kernel,by decide +kernel⟩
theorem Ko(T:Tx K mg):bX P w K mg base bY 3 T.mQ T.FO ["thing","many"] (cj K 2 cF) :=
 cM (k:=2) T.AN.fn Ut rfl rfl λcdv A outer s H E hr=>by
  show b9 _ _ qk;unfold qk;refine aP (cX (PW.pt (nC (gH (gV (aY gm T.cW ald (ay (av 0) (ay (fK rfl T.fY alB) az))))) (pC (dj pH (aY cD T.cz ak5 (ay (av 0) az)) (av 1))))) (aU (bG fB)) dc) ?_;exact(aU (bG (nG (aY wD T.r9 boot_all (ay (dg (N':=["sign","many"]) (pick:=[η,ζ 1]) (cI.of rfl rfl) (kr (av 0)) (λ_ _ _ _ _ _=>(bW (i:=0) (hN:=(by decide +kernel:υ (["sign","many"]:List Str))))) (λ_ _ _ _ _ _=>dJ) (λ_ _ _ _ _ _=>(bg T.Gn (YE T) (hr.mono (by decide)) (ay (av 0) (ay aR (ay (aS fW (av 1) aR) az)))))) az)) (nE (pF iy (Xv (ay (av 0) az) T.cz T.y9) (av 1))))))
theorem Uu:cB ["rows","y"] ["rows","y"] (aW rH):=⟨rfl,rfl,rfl,by decide +kernel,rfl,by decide +kernel,by decide +kernel⟩
theorem YG(T:Tx K mg):bX P w K mg base bY 1 T.mR T.FP ["rows","y"] (cj K 2 gb) :=
 cM (k:=0) T.Gq.fn Uu rfl rfl λcdv A outer s H E hr=>by
  show b9 _ _ uq;unfold uq;exact(aU (bG (iK jQ T.fY alB (ay (dg (N':=["row","y"]) (pick:=[η,ζ 1]) (cI.of rfl rfl) (kr (av 0)) (λ_ _ _ _ _ _=>(bW (i:=0) (hN:=(by decide +kernel:υ (["row","y"]:List Str))))) (λ_ _ _ _ _ _=>dJ) (λ_ _ _ _ _ _=>(ck cu (av 0) (av 1)))) az))))
theorem JA:cB ["thing","many"] ["thing"] (aW rF):=⟨rfl,rfl,rfl,by decide +kernel,rfl,by decide +kernel,by decide +kernel⟩
theorem yR(T:Tx K mg):bX P w K mg base bY 4 T.mP T.FN ["thing"] (cj K 1 cP) :=
 cM (k:=3) T.tw.fn JA rfl rfl λcdv A outer s H E hr=>by
  show b9 _ _ g6;unfold g6;refine aP (cX (PW.pt (nC (gH (gV (aY gm T.cW ald (ay (av 0) (ay (fK rfl T.fY alB) az))))) (pC (gH (J6 rV rV aR (aY cD T.cz ak5 (ay (av 0) az)) (Xx rfl T.M3)))))) (aU (bG fB)) dc) ?_;refine aP (bh (i:=1) (aY cD T.cz ak5 (ay (av 0) az)) (hN:=JA.nd)) ?_;refine aP (cX (gH (gV (aY wD T.r9 boot_all (ay (dg (N':=["row","many"]) (pick:=[η,ζ 1]) (cI.of rfl rfl) (kr (av 0)) (λ_ _ _ _ _ _=>(bW (i:=0) (hN:=(by decide +kernel:υ (["row","many"]:List Str))))) (λ_ _ _ _ _ _=>dJ) (λ_ _ _ _ _ _=>(bg T.AN (Ko T) (hr.mono (by decide)) (ay (av 0) (ay (av 1) az))))) az)))) (aU (bG fB)) dc) ?_
  exact(aU (bG (aY wD T.r9 boot_all (ay (dg (N':=["y","many","thing"]) (pick:=[η,ζ 1,ζ 0]) (cI.of rfl rfl) (cZ (ay (av 1) az) T.cK) (λ_ _ _ _ _ _=>(bW (i:=0) (hN:=(by decide +kernel:υ (["y","many","thing"]:List Str))))) (λ_ _ _ _ _ _=>dJ) (λ_ _ _ _ _ _=>(bg T.AN (Ko T) (hr.mono (by decide)) (ay (bg T.Gq (YG T) (hr.mono (by decide)) (ay (av 2) (ay (av 0) az))) (ay (av 1) az))))) az))))
theorem Ju:cB ["thing"] ["thing"] (aW qE):=⟨rfl,rfl,rfl,by decide +kernel,rfl,by decide +kernel,by decide +kernel⟩
theorem yN(T:Tx K mg):bX P w K mg base bY 5 T.kD T.zS ["thing"] (cj K 1 k6) :=
 cM (k:=4) T.lI.fn Ju rfl rfl λcdv A outer s H E hr=>by
  show b9 _ _ p8;unfold p8;exact(aU (cX (gH (gV (bg T.tw (yR T) (hr.mono (by decide)) (ay (av 0) az)))) (aU Jt) dc))
theorem Ke(T:Tx K mg):bX P w K mg base (iF P w K) 5 T.kD T.zS ["thing"] (xR K 1 oN) :=
 Nf (k:=4) T.lI.fn Ju rfl rfl λcdv A outer s H E hr=>by
  show iY _ _ _ wI;unfold wI;exact(oM (Ig (gH (gV (bg T.tw (yR T) (hr.mono (by decide)) (ay (av 0) az)))) (oM (Ib T.By F.excBase_ValueError)) Ie))
theorem Uj:cB ["square","cell"] ["square","cell"] (aW qD):=⟨rfl,rfl,rfl,by decide +kernel,rfl,by decide +kernel,by decide +kernel⟩
theorem Kf(T:Tx K mg):bX P w K mg base bY 1 T.lR T.E6 ["square","cell"] (cj K 2 jj) :=
 cM (k:=0) T.AH.fn Uj rfl rfl λcdv A outer s H E hr=>by
  show b9 _ _ p7;unfold p7;exact(aU (bG (ck cu (ck cu (av 0) (aS vm (av 1) (aY cD T.cz ak5 (ay (av 0) az)))) (aS iw (av 1) (aY cD T.cz ak5 (ay (av 0) az))))))
theorem Jv:cB ["one","other","cells"] ["one","other"] (aW qF):=⟨rfl,rfl,rfl,by decide +kernel,rfl,by decide +kernel,by decide +kernel⟩
theorem Yp(T:Tx K mg):bX P w K mg base bY 2 T.lS T.E7 ["one","other"] (cj K 2 ze) :=
 cM (k:=1) T.F6.fn Jv rfl rfl λcdv A outer s H E hr=>by
  have hu:=Nat.lt_of_succ_lt (adl hr);show b9 _ _ p9;unfold p9;refine aP (bh (i:=2) (aS ji (aY cD T.cz ak5 (ay (av 0) az)) (aY cD T.cz ak5 (ay (av 0) az))) (hN:=Jv.nd)) ?_;exact(aU (bG (pF iy (Xu (lA hr) (ay (dg (N':=["cell","one","other"]) (pick:=[η,ζ 0,ζ 1]) (cI.of rfl rfl) (cZ (ay (av 2) az) T.cK) (λ_ _ _ _ _ _=>(bW (i:=0) (hN:=(by decide +kernel:υ (["cell","one","other"]:List Str))))) (λ_ _ _ _ _ _=>dJ) (λ_ _ _ _ _ _=>(j4 (ay (bg T.AH (Kf T) (hr.mono (by decide)) (ay (av 1) (ay (av 0) az))) (ay (bg T.AH (Kf T) (hr.mono (by decide)) (ay (av 2) (ay (av 0) az))) az))))) az) T.cz T.y9) (av 2))))
theorem JB:cB ["one","other"] ["one","other"] (aW rJ):=⟨rfl,rfl,rfl,by decide +kernel,rfl,by decide +kernel,by decide +kernel⟩
theorem YH(T:Tx K mg):bX P w K mg base bY 6 T.kH T.zV ["one","other"] (cj K 2 kg) :=
 cM (k:=5) T.wk.fn JB rfl rfl λcdv A outer s H E hr=>by
  show b9 _ _ lP;unfold lP;refine aP (jc (bg T.lI (yN T) (hr.mono (by decide)) (ay (av 0) az))) ?_
  refine aP (jc (bg T.lI (yN T) (hr.mono (by decide)) (ay (av 1) az))) ?_
  refine aP (cX (dj pH (aY cD T.cz ak5 (ay (av 0) az)) (aY cD T.cz ak5 (ay (av 1) az))) (aU Jt) dc) ?_;exact(aU (bG (bg T.F6 (Yp T) (hr.mono (by decide)) (ay (av 0) (ay (av 1) az)))))
theorem Yn(T:Tx K mg):bX P w K mg base (iF P w K) 6 T.kH T.zV ["one","other"] (xR K 2 ng) :=
 Nf (k:=5) T.wk.fn JB rfl rfl λcdv A outer s H E hr=>by
  show iY _ _ _ tV;unfold tV;exact(Ic (oM (Ih (Bx T.lI (Ke T) (hr.mono (by decide)) (ay (av 0) az)))) (Ii (jc (bg T.lI (yN T) (hr.mono (by decide)) (ay (av 0) az))) (Ic (oM (Ih (Bx T.lI (Ke T) (hr.mono (by decide)) (ay (av 1) az)))) (Ii (jc (bg T.lI (yN T) (hr.mono (by decide)) (ay (av 1) az))) (oM (Ig (dj pH (aY cD T.cz ak5 (ay (av 0) az)) (aY cD T.cz ak5 (ay (av 1) az))) (oM (Ib T.By F.excBase_ValueError)) Ie))))))
theorem Uq:cB ["script","k"] ["script","k"] (aW rq):=⟨rfl,rfl,rfl,by decide +kernel,rfl,by decide +kernel,by decide +kernel⟩
theorem YA(T:Tx K mg):bX P w K mg base bY 1 T.mH T.FF ["script","k"] (cj K 2 sD) :=
 cM (k:=0) T.Gj.fn Uq rfl rfl λcdv A outer s H E hr=>by
  show b9 _ _ qg;unfold qg;refine aP (cX (dj YQ (av 1) (aY cD T.cz ak5 (ay (av 0) az))) (aU (bG (ck cu (av 0) (av 1)))) dc) ?_;exact(aU (bG aR))
theorem qA:cB ["cell","number","j","more"] ["cell"] (aW qS):=⟨rfl,rfl,rfl,by decide +kernel,rfl,by decide +kernel,by decide +kernel⟩
theorem Yv(T:Tx K mg):bX P w K mg base bY 1 T.mh T.Fp ["cell"] (cj K 1 sA) :=
 cM (k:=0) T.Gb.fn qA rfl rfl λcdv A outer s H E hr=>by
  show b9 _ _ qd;unfold qd;refine aP (cX (dj Zp (av 0) (aS Ku aR aR)) (aU (bG (j5 (ay (aS fW (av 0) (aS Ku aR aR)) az)))) dc) ?_;refine aP (bh (i:=1) aR (hN:=qA.nd)) ?_;refine aP (fz (cZ (ay aR az) T.cK) (bW (i:=2) (hN:=qA.nd)) (aP (bh (i:=3) (aS iw (aS ji (aS cY (aS cY (aS iw (av 0) aR) (aS ji aR (av 2))) aR) aR) aR) (hN:=qA.nd)) (aP (bh (i:=3) (aS iw (aS cY (aS cY (aS ji (av 3) (av 3)) (aS ji aR (av 2))) aR) aR) (hN:=qA.nd)) (aU (bh (i:=1) (aS cY (aS ji (av 1) aR) (av 3)) (hN:=qA.nd)))))) ?_;exact(aU (bG (j5 (ay (av 1) az))))
theorem Jx:cB ["pot","far","found"] ["pot","far"] (aW qI):=⟨rfl,rfl,rfl,by decide +kernel,rfl,by decide +kernel,by decide +kernel⟩
theorem iu(T:Tx K mg):bX P w K mg base bY 1 T.lW T.Fb ["pot","far"] (cj K 2 b6) :=
 cM (k:=0) T.gP.fn Jx rfl rfl λcdv A outer s H E hr=>by
  show b9 _ _ qa;unfold qa;refine aP (bh (i:=2) (aS iw (ck cu (av 0) aR) (av 1)) (hN:=Jx.nd)) ?_;refine aP (xW (aS vm (ck cu (av 0) aR) (av 1)) (zL (av 0) aR)) ?_;exact(aU (bG (av 2)))
theorem Uk:cB ["found"] ["found"] (aW qG):=⟨rfl,rfl,rfl,by decide +kernel,rfl,by decide +kernel,by decide +kernel⟩
theorem Kg(T:Tx K mg):bX P w K mg base bY 1 T.lU T.E8 ["found"] (cj K 1 iN) :=
 cM (k:=0) T.AI.fn Uk rfl rfl λcdv A outer s H E hr=>by
  show b9 _ _ tW;unfold tW;exact(aU (bG (nG (aY gm T.cW ald (ay (av 0) (ay (fK rfl T.za boot_int) az))) (nE (J3 (aY gm T.cW ald (ay (av 0) (ay (fK rfl T.rZ boot_bool) az))))))))
theorem Um:cB ["found","due"] ["found","due"] (aW qN):=⟨rfl,rfl,rfl,by decide +kernel,rfl,by decide +kernel,by decide +kernel⟩
theorem Cy(T:Tx K mg):∀j:Nat,bX P w K mg base bY (2+j) T.kF T.zU ["found","due"] (cj K 2 (iz j))
 |0=>⟨λvs H Q E h=>by obtain⟨_,_,_,_,_,_,p⟩:=h;exact p.elim,λA outer s H args us vs Q E hr he hb hv h=>by obtain⟨_,_,_,_,_,_,p⟩:=h;exact p.elim⟩
 |j+1=>cM (k:=2+j) T.wj.fn Um rfl rfl λcdv A outer s H E hr=>by
  have ih:bX P w K mg base bY (2+j) T.kF T.zU ["found","due"] (cj K 2 (iz j)):=Cy T j;show b9 _ _ (qb (iz j));unfold qb
  generalize iz j=m at ih ⊢
  refine aP (cX (dj Kv (av 1) yo) (aU (bG (pF Kv (av 0) yo))) dc) ?_;refine aP (cX (gV (aY gm T.cW ald (ay (av 1) (ay (fK rfl T.rZ boot_bool) az)))) (aU (bG (nG (aY gm T.cW ald (ay (av 0) (ay (fK rfl T.rZ boot_bool) az))) (nE (pF iy (av 0) (av 1)))))) dc) ?_;refine aP (cX (gV (aY gm T.cW ald (ay (av 1) (ay (fK rfl T.za boot_int) az)))) (aU (bG (nG (bg T.AI (Kg T) (hr.mono (by omega)) (ay (av 0) az)) (nE (pF iy (av 0) (av 1)))))) dc) ?_
  refine aP (cX (gV (aY gm T.cW ald (ay (av 1) (ay (fK rfl T.CL boot_str) az)))) (aU (bG (nG (aY gm T.cW ald (ay (av 0) (ay (fK rfl T.CL boot_str) az))) (nE (pF iy (av 0) (av 1)))))) dc) ?_;refine aP (cX (PW.pt (nC (dj pH (aY gm T.cW ald (ay (av 1) (ay (fK rfl T.fY alB) az))) (aY gm T.cW ald (ay (av 0) (ay (fK rfl T.fY alB) az)))) (pC (dj pH (aY gm T.cW ald (ay (av 1) (ay (fK rfl T.nJ boot_list) az))) (aY gm T.cW ald (ay (av 0) (ay (fK rfl T.nJ boot_list) az))))))) (aU (bG fB)) dc) ?_;exact(aU (bG (nG (pF iy (aY cD T.cz ak5 (ay (av 0) az)) (aY cD T.cz ak5 (ay (av 1) az))) (nE (aY wD T.r9 boot_all (ay (dg (N':=["one","other"]) (pick:=[η,η]) (cI.of rfl rfl) (ac6 (ay (av 0) (ay (av 1) az)) T.Lc) (λ_ _ _ _ _ _=>(aeu (n:=2) (MP (bW (i:=0) (hN:=(by decide +kernel:υ (["one","other"]:List Str)))) (MP (bW (i:=1) (hN:=(by decide +kernel:υ (["one","other"]:List Str)))) aet)))) (λ_ _ _ _ _ _=>dJ) (λ_ _ _ _ _ _=>(bg T.wj ih (hr.mono (by omega)) (ay (av 0) (ay (av 1) az))))) az))))))
theorem uQ:cB ["e","some","words"] ["e"] (aW qV):=⟨rfl,rfl,rfl,by decide +kernel,rfl,by decide +kernel,by decide +kernel⟩
theorem YI(T:Tx K mg):A8 P w K mg base 1 T.mw T.Fw ["e"] (cj K 1 zf) :=
 aeU (k:=0) T.Ge.fn uQ rfl rfl λcdv A outer s H E hr=>by
  show b9 _ _ ue;unfold ue;refine aP (bh (i:=1) (eo (ay (aY (jq T.gp) T.cW ald (ay (av 0) (ay (jz T.MS T.K2) az))) (ay (aY (jq T.gp) T.cW ald (ay (av 0) (ay (jz T.MU T.K4) az))) (ay (aY (jq T.gp) T.cW ald (ay (av 0) (ay (jz T.MY T.K8) az))) (ay (aY (jq T.gp) T.cW ald (ay (av 0) (ay (jz T.M0 T.La) az))) az))))) (hN:=uQ.nd)) ?_;refine aP (bh (i:=1) (aS nI (av 1) (eo (ay (aY (jq T.gp) T.cW ald (ay (av 0) (ay (jz T.MT T.K3) az))) (ay (aY (jq T.gp) T.cW ald (ay (av 0) (ay (jz T.MV T.K5) az))) (ay (aY (jq T.gp) T.cW ald (ay (av 0) (ay (jz T.MX T.K7) az))) (ay (aY (jq T.gp) T.cW ald (ay (av 0) (ay (jz T.MR T.K1) az))) az)))))) (hN:=uQ.nd)) ?_;refine aP (bh (i:=1) (aS nI (av 1) (eo (ay (aY (jq T.gp) T.cW ald (ay (av 0) (ay (jz T.MZ T.K9) az))) (ay (aY (jq T.gp) T.cW ald (ay (av 0) (ay (jz T.M1 T.Lb) az))) (ay (aY (jq T.gp) T.cW ald (ay (av 0) (ay (jz T.MW T.K6) az))) az))))) (hN:=uQ.nd)) ?_;refine aP (cX (PW.pt (nC (dj pH (XC (av 1) fB) aR) (pC (gH (gV (aY (jq T.gp) T.cW ald (ay (av 0) (ay (fK rfl T.Le ahM) az)))))))) (aU (bG gx)) dc) ?_;refine aP ?_ ?_
  ·with_reducible refine bh (i:=2) ?_ ?_ ?_ ?_ ?_ ?_
   ·with_reducible refine eo ?_
    with_reducible refine ay ?_ ?_ ?_
    ·exact gx
    ·skip
     with_reducible refine ay ?_ ?_ ?_
     ·exact gx
     ·skip
      with_reducible refine ay ?_ ?_ ?_
      ·exact gx
      ·skip
       with_reducible refine ay ?_ ?_ ?_
       ·exact gx
       ·skip
        with_reducible refine ay ?_ ?_ ?_
        ·exact gx
        ·skip
         with_reducible refine ay ?_ ?_ ?_
         ·exact gx
         ·skip
          with_reducible refine ay ?_ ?_ ?_
          ·exact gx
          ·skip
           with_reducible refine ay ?_ ?_ ?_
           ·exact gx
           ·skip
            with_reducible refine ay ?_ ?_ ?_
            ·exact gx
            ·skip
             with_reducible refine ay ?_ ?_ ?_
             ·exact gx
             ·skip
              with_reducible refine ay ?_ ?_ ?_
              ·exact gx
              ·skip
               with_reducible exact az
              ·exact b7 rfl
             ·exact b7 rfl
            ·exact b7 rfl
           ·exact b7 rfl
          ·exact b7 rfl
         ·exact b7 rfl
        ·exact b7 rfl
       ·exact b7 rfl
      ·exact b7 rfl
     ·exact b7 rfl
    ·exact b7 rfl
   ·exact uQ.nd
   ·rfl
   ·first|exact Or.inl rfl|exact Or.inr rfl
   ·rfl
   ·first|exact .inl rfl|exact .inr rfl
  ·skip
   exact(aU (bG (ck cu (av 2) (Xw (av 1) fB))))
theorem Uo:cB ["q"] ["q"] (aW qR):=⟨rfl,rfl,rfl,by decide +kernel,rfl,by decide +kernel,by decide +kernel⟩
theorem yP(T:Tx K mg):bX P w K mg base bY 1 T.l9 T.Fo ["q"] (cj K 1 gy) :=
 cM (k:=0) T.sY.fn Uo rfl rfl λcdv A outer s H E hr=>by
  show b9 _ _ ua;unfold ua;refine aU ?_
  with_reducible refine bG ?_
  with_reducible refine ck cu ?_ ?_ ?_
  ·with_reducible refine dg (N':=["p","q"]) (pick:=[η,ζ 0]) ?_ ?_ ?_ ?_ ?_ ?_ ?_
   ·exact cI.of rfl rfl
   ·with_reducible refine sJ ?_
    with_reducible refine eo ?_
    with_reducible refine nF ?_
    kernel_rfl
   ·exact λ_ _ _ _ _ _=>(bW (i:=0) (hN:=(by decide +kernel:υ (["p","q"]:List Str))))
   ·exact λ_ _ _ _ _ _=>(WJ (dj iy (aS iw (av 1) (av 0)) aR))
   ·exact λ_ _ _ _ _ _=>(av 0)
   ·rfl
   ·intro _;rfl
  ·exact aR
  ·exact λ_ _=>rfl
theorem x8:cB ["q","found"] ["q"] (aW rj):=⟨rfl,rfl,rfl,by decide +kernel,rfl,by decide +kernel,by decide +kernel⟩
theorem Kn(T:Tx K mg):bX P w K mg base bY 2 T.mF T.FD ["q"] (cj K 1 j9) :=
 cM (k:=1) T.AM.fn x8 rfl rfl λcdv A outer s H E hr=>by
  show b9 _ _ ug;unfold ug;refine aP (bh (i:=1) aR (hN:=x8.nd)) ?_;refine aP (Js (n:=10) (dj Kw (av 0) aR) (aP (bh (i:=0) (aS vm (av 0) (bg T.sY (yP T) (hr.mono (by decide)) (ay (av 0) az))) (hN:=x8.nd)) (aU (bh (i:=1) (aS cY (av 1) aR) (hN:=x8.nd))))) ?_
  exact(aU (bG (av 1)))
theorem xY:cB ["number","p","many","found","k"] ["number","p","many"] (aW qO):=⟨rfl,rfl,rfl,by decide +kernel,rfl,by decide +kernel,by decide +kernel⟩
theorem rU(T:Tx K mg):bX P w K mg base bY 1 T.l0 T.Fg ["number","p","many"] (cj K 3 fH) :=
 cM (k:=0) T.oh.fn xY rfl rfl λcdv A outer s H E hr=>by
  show b9 _ _ t6;unfold t6;refine aP (bh (i:=3) (j5 az) (hN:=xY.nd)) ?_;refine aP (fz (cZ (ay (av 2) az) T.cK) (bW (i:=4) (hN:=xY.nd)) (aP (jc (rQ (av 3) (aS iw (av 0) (av 1)))) (aU (bh (i:=0) (aS vm (av 0) (av 1)) (hN:=xY.nd))))) ?_;exact(aU (bG (av 3)))
theorem xZ:cB ["row","p","found","k"] ["row","p"] (aW qU):=⟨rfl,rfl,rfl,by decide +kernel,rfl,by decide +kernel,by decide +kernel⟩
theorem Kl(T:Tx K mg):bX P w K mg base bY 1 T.mq T.Fv ["row","p"] (cj K 2 pJ) :=
 cM (k:=0) T.AK.fn xZ rfl rfl λcdv A outer s H E hr=>by
  show b9 _ _ ud;unfold ud;refine aP (bh (i:=2) aR (hN:=xZ.nd)) ?_;refine aP (fz (cZ (ay (aY cD T.cz ak5 (ay (av 0) az)) az) T.cK) (bW (i:=3) (hN:=xZ.nd)) (aU (bh (i:=2) (aS cY (aS ji (av 2) (av 1)) (ck cu (av 0) (aS fW (aS fW (aY cD T.cz ak5 (ay (av 0) az)) aR) (av 3)))) (hN:=xZ.nd)))) ?_;exact(aU (bG (av 2)))
theorem nk:cB ["one","other","p","found","k","j"] ["one","other","p"] (aW qJ):=⟨rfl,rfl,rfl,by decide +kernel,rfl,by decide +kernel,by decide +kernel⟩
theorem Yq(T:Tx K mg):bX P w K mg base bY 1 T.kE T.zT ["one","other","p"] (cj K 3 k7) :=
 cM (k:=0) T.wg.fn nk rfl rfl λcdv A outer s H E hr=>by
  show b9 _ _ lO;unfold lO;refine aP (bh (i:=3) (aS Ks (eo (ay aR az)) (aS fW (aS cY (aY cD T.cz ak5 (ay (av 0) az)) (aY cD T.cz ak5 (ay (av 1) az))) aR)) (hN:=nk.nd)) ?_;refine aP (fz (cZ (ay (aY cD T.cz ak5 (ay (av 0) az)) az) T.cK) (bW (i:=4) (hN:=nk.nd)) (aU (fz (cZ (ay (aY cD T.cz ak5 (ay (av 1) az)) az) T.cK) (bW (i:=5) (hN:=nk.nd)) (aU (xW (aS iw (aS cY (ck cu (av 3) (aS cY (av 4) (av 5))) (aS ji (ck cu (av 0) (av 4)) (ck cu (av 1) (av 5)))) (av 2)) (zL (av 3) (aS cY (av 4) (av 5)))))))) ?_;exact(aU (bG (av 3)))
theorem Yo(T:Tx K mg):bX P w K mg base bY 1 T.kE T.zT ["one","other","p"] (cj K 3 sf) :=
 cM (k:=0) T.wg.fn nk rfl rfl λcdv A outer s H E hr=>by
  show b9 _ _ lO;unfold lO;refine aP (bh (i:=3) (aS Ks (eo (ay aR az)) (aS fW (aS cY (aY cD T.cz ak5 (ay (av 0) az)) (aY cD T.cz ak5 (ay (av 1) az))) aR)) (hN:=nk.nd)) ?_;refine aP (fz (cZ (ay (aY cD T.cz ak5 (ay (av 0) az)) az) T.cK) (bW (i:=4) (hN:=nk.nd)) (aU (fz (cZ (ay (aY cD T.cz ak5 (ay (av 1) az)) az) T.cK) (bW (i:=5) (hN:=nk.nd)) (aU (xW (aS iw (aS cY (ck cu (av 3) (aS cY (av 4) (av 5))) (aS ji (ck cu (av 0) (av 4)) (ck cu (av 1) (av 5)))) (av 2)) (zL (av 3) (aS cY (av 4) (av 5)))))))) ?_;exact(aU (bG (av 3)))
theorem qB:cB ["many","p","found","k","longer","row"] ["many","p"] (aW qX):=⟨rfl,rfl,rfl,by decide +kernel,rfl,by decide +kernel,by decide +kernel⟩
theorem Km(T:Tx K mg):bX P w K mg base bY 1 T.mC T.Fy ["many","p"] (cj K 2 nM) :=
 cM (k:=0) T.AL.fn qB rfl rfl λcdv A outer s H E hr=>by
  show b9 _ _ oA;unfold oA;refine aP (bh (i:=2) (eo (ay (eo az) az)) (hN:=qB.nd)) ?_;refine aP (fz (cZ (ay (av 0) az) T.cK) (bW (i:=3) (hN:=qB.nd)) (aP (bh (i:=4) (j5 az) (hN:=qB.nd)) (aP (fz (sJ (av 2)) (bW (i:=5) (hN:=qB.nd)) (aU (jc (J5 (av 4) (dg (N':=["digit","row"]) (pick:=[η,ζ 5]) (cI.of rfl rfl) (cZ (ay (av 1) az) T.cK) (λ_ _ _ _ _ _=>(bW (i:=0) (hN:=(by decide +kernel:υ (["digit","row"]:List Str))))) (λ_ _ _ _ _ _=>dJ) (λ_ _ _ _ _ _=>(aS nI (av 1) (eo (ay (av 0) az))))))))) (aU (bh (i:=2) (av 4) (hN:=qB.nd)))))) ?_
  exact(aU (bG (dg (N':=["row"]) (pick:=[η]) (cI.of rfl rfl) (sJ (av 2)) (λ_ _ _ _ _ _=>(bW (i:=0) (hN:=(by decide +kernel:υ (["row"]:List Str))))) (λ_ _ _ _ _ _=>dJ) (λ_ _ _ _ _ _=>(aS nI (av 0) (eo (ay aR az)))))))
theorem nt:cB ["q","p","many","products","less","one","number"] ["q"] (aW qY):=⟨rfl,rfl,rfl,by decide +kernel,rfl,by decide +kernel,by decide +kernel⟩
theorem Yx(T:Tx K mg):bX P w K mg base bY 3 T.mD T.Fz ["q"] (cj K 1 sC) :=
 cM (k:=2) T.Gg.fn nt rfl rfl λcdv A outer s H E hr=>by
  show b9 _ _ uf;unfold uf;refine aP (bh (i:=1) (bg T.sY (yP T) (hr.mono (by decide)) (ay (av 0) az)) (hN:=nt.nd)) ?_
  refine aP (bh (i:=2) (bg T.AM (Kn T) (hr.mono (by decide)) (ay (av 0) az)) (hN:=nt.nd)) ?_
  refine aP (cX (dj iy (av 2) aR) (aU (bG (eo (ay aR (ay aR az))))) dc) ?_;refine aP (bh (i:=3) (j5 az) (hN:=nt.nd)) ?_;refine aP (fz (Ma (ay aR (ay (aS cY (aS vm (av 2) aR) aR) az)) T.cK) (bW (i:=4) (hN:=nt.nd)) (aU (fz (sJ (bg T.AL (Km T) (hr.mono (by decide)) (ay (av 4) (ay (av 1) az)))) (bW (i:=5) (hN:=nt.nd)) (aU (jc (J5 (av 3) (dg (N':=["other","one","p"]) (pick:=[η,ζ 5,ζ 1]) (cI.of rfl rfl) (sJ (bg T.AL (Km T) (hr.mono (by decide)) (ay (aS fW (av 2) (av 4)) (ay (av 1) az)))) (λ_ _ _ _ _ _=>(bW (i:=0) (hN:=(by decide +kernel:υ (["other","one","p"]:List Str))))) (λ_ _ _ _ _ _=>dJ) (λ_ _ _ _ _ _=>(bg T.wg (Yq T) (hr.mono (by decide)) (ay (av 1) (ay (av 0) (ay (av 2) az)))))))))))) ?_
  refine aP (bh (i:=6) aR (hN:=nt.nd)) ?_;refine aP (Js (n:=60) (dj (Cz (lA hr)) (aS nI (bg T.oh (rU T) (hr.mono (by decide)) (ay (av 6) (ay (av 1) (ay (av 2) az)))) (eo (ay aR az))) (av 3)) (aU (bh (i:=6) (aS cY (av 6) aR) (hN:=nt.nd)))) ?_
  exact(aU (bG (aS nI (bg T.oh (rU T) (hr.mono (by decide)) (ay (av 6) (ay (av 1) (ay (av 2) az)))) (eo (ay aR az)))))
theorem nq:cB ["q","form","one","other","p","many","row","place","often","k","at"] ["q","form","one","other"] (aW qQ):=⟨rfl,rfl,rfl,by decide +kernel,rfl,by decide +kernel,by decide +kernel⟩
theorem Yu(T:Tx K mg):bX P w K mg base bY 2 T.l7 T.Fj ["q","form","one","other"] (cj K 4 sy) :=
 cM (k:=1) T.Ga.fn nq rfl rfl λcdv A outer s H E hr=>by
  show b9 _ _ t7;unfold t7;refine aP (bh (i:=4) (bg T.sY (yP T) (hr.mono (by decide)) (ay (av 0) az)) (hN:=nq.nd)) ?_
  refine aP (bh (i:=5) (aS fW (aY cD T.cz ak5 (ay (av 1) az)) aR) (hN:=nq.nd)) ?_;refine aP (bh (i:=6) (bg T.wg (Yo T) (hr.mono (by decide)) (ay (bg T.oh (rU T) (hr.mono (by decide)) (ay (av 2) (ay (av 4) (ay (av 5) az)))) (ay (bg T.oh (rU T) (hr.mono (by decide)) (ay (av 3) (ay (av 4) (ay (av 5) az)))) (ay (av 4) az)))) (hN:=nq.nd)) ?_
  refine aP (fz (ac7 (ay (aS fW (aY cD T.cz ak5 (ay (av 6) az)) aR) (ay (aS fW (av 5) aR) (ay (aS fW aR aR) az))) T.cK) (bW (i:=7) (hN:=nq.nd)) (aP (bh (i:=8) (ck cu (av 6) (av 7)) (hN:=nq.nd)) (aU (fz (cZ (ay (aS cY (av 5) aR) az) T.cK) (bW (i:=9) (hN:=nq.nd)) (aP (bh (i:=10) (aS cY (aS fW (av 7) (av 5)) (av 9)) (hN:=nq.nd)) (aU (xW (aS iw (aS fW (ck cu (av 6) (av 10)) (aS ji (av 8) (ck cu (av 1) (av 9)))) (av 4)) (zL (av 6) (av 10))))))))) ?_;exact(aU (bG (bg T.AK (Kl T) (hr.mono (by decide)) (ay (Xq (av 6) jZ (jY (av 5))) (ay (av 4) az)))))
theorem xX:cB ["q","one","other","sign","p","many","rows"] ["q","one","other","sign"] (aW qK):=⟨rfl,rfl,rfl,by decide +kernel,rfl,by decide +kernel,by decide +kernel⟩
theorem Yr(T:Tx K mg):bX P w K mg base bY 3 T.lX T.Fc ["q","one","other","sign"] (cj K 4 nL) :=
 cM (k:=2) T.F7.fn xX rfl rfl λcdv A outer s H E hr=>by
  show b9 _ _ tX;unfold tX;refine aP (bh (i:=4) (bg T.sY (yP T) (hr.mono (by decide)) (ay (av 0) az)) (hN:=xX.nd)) ?_
  refine aP (bh (i:=5) (bg T.AM (Kn T) (hr.mono (by decide)) (ay (av 0) az)) (hN:=xX.nd)) ?_
  refine aP (bh (i:=6) (eo (ay (bg T.oh (rU T) (hr.mono (by decide)) (ay (av 1) (ay (av 4) (ay (av 5) az)))) (ay (bg T.oh (rU T) (hr.mono (by decide)) (ay (av 2) (ay (av 4) (ay (av 5) az)))) az))) (hN:=xX.nd)) ?_
  exact(aU (bG (bg T.AK (Kl T) (hr.mono (by decide)) (ay (dg (N':=["k","p","sign","rows"]) (pick:=[η,ζ 4,ζ 3,ζ 6]) (cI.of rfl rfl) (cZ (ay (av 5) az) T.cK) (λ_ _ _ _ _ _=>(bW (i:=0) (hN:=(by decide +kernel:υ (["k","p","sign","rows"]:List Str))))) (λ_ _ _ _ _ _=>dJ) (λ_ _ _ _ _ _=>(aS iw (aS cY (ck cu (ck cu (av 3) aR) (av 0)) (aS ji (av 2) (ck cu (ck cu (av 3) aR) (av 0)))) (av 1)))) (ay (av 4) az)))))
theorem Jy:cB ["q","form"] ["q"] (aW qP):=⟨rfl,rfl,rfl,by decide +kernel,rfl,by decide +kernel,by decide +kernel⟩
theorem Yt(T:Tx K mg):bX P w K mg base bY 4 T.l5 T.Fi ["q"] (cj K 1 su) :=
 cM (k:=3) T.F9.fn Jy rfl rfl λcdv A outer s H E hr=>by
  show b9 _ _ qc;unfold qc;refine aP (bh (i:=1) (bg T.Gg (Yx T) (hr.mono (by decide)) (ay (av 0) az)) (hN:=Jy.nd)) ?_
  exact(aU (bG (dg (N':=["one","q","form"]) (pick:=[η,ζ 0,ζ 1]) (cI.of rfl rfl) (cZ (ay (av 0) az) T.cK) (λ_ _ _ _ _ _=>(bW (i:=0) (hN:=(by decide +kernel:υ (["one","q","form"]:List Str))))) (λ_ _ _ _ _ _=>dJ) (λ_ _ _ _ _ _=>(dg (N':=["other","q","form","one"]) (pick:=[η,ζ 1,ζ 2,ζ 0]) (cI.of rfl rfl) (cZ (ay (av 1) az) T.cK) (λ_ _ _ _ _ _=>(bW (i:=0) (hN:=(by decide +kernel:υ (["other","q","form","one"]:List Str))))) (λ_ _ _ _ _ _=>dJ) (λ_ _ _ _ _ _=>(bg T.Ga (Yu T) (hr.mono (by decide)) (ay (av 1) (ay (av 2) (ay (av 3) (ay (av 0) az)))))))))))
theorem x6:cB ["thing","due","row","column"] ["thing"] (aW qW):=⟨rfl,rfl,rfl,by decide +kernel,rfl,by decide +kernel,by decide +kernel⟩
theorem Yw(T:Tx K mg):bX P w K mg base bY 2 T.mz T.Fx ["thing"] (cj K 1 fZ) :=
 cM (k:=1) T.Gf.fn x6 rfl rfl λcdv A outer s H E hr=>by
  show b9 _ _ iV;unfold iV;refine aP (cX (PW.pt (nC (gH (gV (aY gm T.cW ald (ay (av 0) (ay (fK rfl T.fY alB) az))))) (pC (gH (J6 rV rV aR (aY cD T.cz ak5 (ay (av 0) az)) aR))))) (aU (bG fB)) dc) ?_;refine aP (bh (i:=1) (J4 (ay (aY cD T.cz ak5 (ay (av 0) az)) az) T.nJ T.cK) (hN:=x6.nd)) ?_;refine aP (fz (kr (av 0)) (bW (i:=2) (hN:=x6.nd)) (aU (cX (PW.pt (nC (gH (gV (aY gm T.cW ald (ay (av 2) (ay (fK rfl T.fY alB) az))))) (nC (gH (gV (aY wD T.r9 boot_all (ay (dg (N':=["one"]) (pick:=[η]) (cI.of rfl rfl) (kr (av 2)) (λ_ _ _ _ _ _=>(bW (i:=0) (hN:=(by decide +kernel:υ (["one"]:List Str))))) (λ_ _ _ _ _ _=>dJ) (λ_ _ _ _ _ _=>(bg T.AI (Kg T) (hr.mono (by decide)) (ay (av 0) az)))) az)))) (pC (dj (vj (lA hr)) (aY ahm T.yZ (by decide +kernel) (ay (av 2) az)) (av 1)))))) (aU (bG fB)) dc))) ?_
  refine aP (fz (cZ (ay (aY cD T.cz ak5 (ay (av 0) az)) az) T.cK) (bW (i:=3) (hN:=x6.nd)) (aU (cX (dj (vj (lA hr)) (aY ahn T.yZ (by decide +kernel) (ay (dg (N':=["row","column"]) (pick:=[η,ζ 3]) (cI.of rfl rfl) (kr (av 0)) (λ_ _ _ _ _ _=>(bW (i:=0) (hN:=(by decide +kernel:υ (["row","column"]:List Str))))) (λ_ _ _ _ _ _=>dJ) (λ_ _ _ _ _ _=>(ck cu (av 0) (av 1)))) az)) (av 1)) (aU (bG fB)) dc))) ?_
  exact(aU (bG fB))
theorem Jz:cB ["pot","many","left"] ["pot","many"] (aW qT):=⟨rfl,rfl,rfl,by decide +kernel,rfl,by decide +kernel,by decide +kernel⟩
theorem yQ(T:Tx K mg):bX P w K mg base bY 2 T.mj T.Ft ["pot","many"] (cj K 2 fJ) :=
 cM (k:=1) T.sZ.fn Jz rfl rfl λcdv A outer s H E hr=>by
  show b9 _ _ uc;unfold uc;refine aP (bh (i:=2) (Xs (ay (av 1) az) T.nJ T.cK) (hN:=Jz.nd)) ?_;exact(aU (bG (iK jQ T.fY alB (ay (dg (N':=["k","left","pot"]) (pick:=[η,ζ 2,ζ 0]) (cI.of rfl rfl) (cZ (ay (av 1) az) T.cK) (λ_ _ _ _ _ _=>(bW (i:=0) (hN:=(by decide +kernel:υ (["k","left","pot"]:List Str))))) (λ_ _ _ _ _ _=>dJ) (λ_ _ _ _ _ _=>(Xr (av 1) (bg T.gP (iu T) (hr.mono (by decide)) (ay (av 2) (ay (aY cD T.cz ak5 (ay (av 1) az)) az)))))) az))))
theorem nu:cB ["pot","n","rows","by","order","names","columns"] ["pot","n"] (aW rm):=⟨rfl,rfl,rfl,by decide +kernel,rfl,by decide +kernel,by decide +kernel⟩
theorem Yz(T:Tx K mg):bX P w K mg base bY 3 T.mG T.FE ["pot","n"] (cj K 2 pK) :=
 cM (k:=2) T.Gi.fn nu rfl rfl λcdv A outer s H E hr=>by
  show b9 _ _ uh;unfold uh;refine aP (cX (PW.pt (u9 (dj iy (av 1) aR) (vc (dj iy (bg T.gP (iu T) (hr.mono (by decide)) (ay (av 0) (ay aR az))) aR)))) (aU (bh (i:=2) (dg (N':=["row","n"]) (pick:=[η,ζ 1]) (cI.of rfl rfl) (cZ (ay (av 1) az) T.cK) (λ_ _ _ _ _ _=>(bW (i:=0) (hN:=(by decide +kernel:υ (["row","n"]:List Str))))) (λ_ _ _ _ _ _=>dJ) (λ_ _ _ _ _ _=>(dg (N':=["column","row"]) (pick:=[η,ζ 0]) (cI.of rfl rfl) (cZ (ay (av 1) az) T.cK) (λ_ _ _ _ _ _=>(bW (i:=0) (hN:=(by decide +kernel:υ (["column","row"]:List Str))))) (λ_ _ _ _ _ _=>dJ) (λ_ _ _ _ _ _=>(aS YM (av 1) (av 0)))))) (hN:=nu.nd))) (aP (bh (i:=3) (aS cY aR (bg T.gP (iu T) (hr.mono (by decide)) (ay (av 0) (ay (aY aho T.Ld boot_max (ay aR (ay (aS fW (av 1) aR) az))) az)))) (hN:=nu.nd)) (aP (bh (i:=2) (dg (N':=["row","n","by"]) (pick:=[η,ζ 1,ζ 3]) (cI.of rfl rfl) (cZ (ay (av 1) az) T.cK) (λ_ _ _ _ _ _=>(bW (i:=0) (hN:=(by decide +kernel:υ (["row","n","by"]:List Str))))) (λ_ _ _ _ _ _=>dJ) (λ_ _ _ _ _ _=>(dg (N':=["column","n","by","row"]) (pick:=[η,ζ 1,ζ 2,ζ 0]) (cI.of rfl rfl) (cZ (ay (av 1) az) T.cK) (λ_ _ _ _ _ _=>(bW (i:=0) (hN:=(by decide +kernel:υ (["column","n","by","row"]:List Str))))) (λ_ _ _ _ _ _=>dJ) (λ_ _ _ _ _ _=>(aS iw (aS cY (aS ji (av 2) (av 3)) (av 0)) (av 1)))))) (hN:=nu.nd)) (aU (cX (dj (vj (lA hr)) (Xp (ay (dg (N':=["row"]) (pick:=[η]) (cI.of rfl rfl) (sJ (av 2)) (λ_ _ _ _ _ _=>(bW (i:=0) (hN:=(by decide +kernel:υ (["row"]:List Str))))) (λ_ _ _ _ _ _=>dJ) (λ_ _ _ _ _ _=>(ck cu (av 0) aR))) az) T.yZ T.y9) (J4 (ay (av 1) az) T.nJ T.cK)) (aU (bh (i:=2) (dg (N':=["row","n"]) (pick:=[η,ζ 1]) (cI.of rfl rfl) (cZ (ay (av 1) az) T.cK) (λ_ _ _ _ _ _=>(bW (i:=0) (hN:=(by decide +kernel:υ (["row","n"]:List Str))))) (λ_ _ _ _ _ _=>dJ) (λ_ _ _ _ _ _=>(dg (N':=["column","n","row"]) (pick:=[η,ζ 1,ζ 0]) (cI.of rfl rfl) (cZ (ay (av 1) az) T.cK) (λ_ _ _ _ _ _=>(bW (i:=0) (hN:=(by decide +kernel:υ (["column","n","row"]:List Str))))) (λ_ _ _ _ _ _=>dJ) (λ_ _ _ _ _ _=>(aS iw (aS cY (av 2) (av 0)) (av 1)))))) (hN:=nu.nd))) dc))))) ?_
  refine aP (bh (i:=4) (bg T.sZ (yQ T) (hr.mono (by decide)) (ay (av 0) (ay (av 1) az))) (hN:=nu.nd)) ?_
  refine aP (bh (i:=5) (bg T.sZ (yQ T) (hr.mono (by decide)) (ay (av 0) (ay (av 1) az))) (hN:=nu.nd)) ?_
  refine aP (bh (i:=6) (bg T.sZ (yQ T) (hr.mono (by decide)) (ay (av 0) (ay (av 1) az))) (hN:=nu.nd)) ?_
  exact(aU (bG (iK jQ T.fY alB (ay (dg (N':=["row","names","columns","rows"]) (pick:=[η,ζ 5,ζ 6,ζ 2]) (cI.of rfl rfl) (kr (av 4)) (λ_ _ _ _ _ _=>(bW (i:=0) (hN:=(by decide +kernel:υ (["row","names","columns","rows"]:List Str))))) (λ_ _ _ _ _ _=>dJ) (λ_ _ _ _ _ _=>(iK jQ T.fY alB (ay (dg (N':=["column","names","rows","row"]) (pick:=[η,ζ 1,ζ 3,ζ 0]) (cI.of rfl rfl) (kr (av 2)) (λ_ _ _ _ _ _=>(bW (i:=0) (hN:=(by decide +kernel:υ (["column","names","rows","row"]:List Str))))) (λ_ _ _ _ _ _=>dJ) (λ_ _ _ _ _ _=>(ck cu (av 1) (ck cu (ck cu (av 2) (av 3)) (av 0))))) az)))) az))))
theorem BV:cB ["pot","rows","order"] ["pot"] (aW qM):=⟨rfl,rfl,rfl,by decide +kernel,rfl,by decide +kernel,by decide +kernel⟩
theorem Ys(T:Tx K mg):bX P w K mg base bY 3 T.lZ T.Ff ["pot"] (cj K 1 k8) :=
 cM (k:=2) T.F8.fn BV rfl rfl λcdv A outer s H E hr=>by
  show b9 _ _ tZ;unfold tZ;refine aP ?_ ?_
  ·with_reducible refine bh (i:=1) ?_ ?_ ?_ ?_ ?_ ?_
   ·with_reducible refine j5 ?_
    with_reducible refine ay ?_ ?_ ?_
    ·with_reducible refine eo ?_
     with_reducible refine nF ?_
     kernel_rfl
    ·skip
     with_reducible refine ay ?_ ?_ ?_
     ·with_reducible refine eo ?_
      with_reducible refine nF ?_
      kernel_rfl
     ·skip
      with_reducible refine ay ?_ ?_ ?_
      ·with_reducible refine eo ?_
       with_reducible refine nF ?_
       kernel_rfl
      ·skip
       with_reducible refine ay ?_ ?_ ?_
       ·with_reducible refine eo ?_
        with_reducible refine nF ?_
        kernel_rfl
       ·skip
        with_reducible refine ay ?_ ?_ ?_
        ·with_reducible refine eo ?_
         with_reducible refine nF ?_
         kernel_rfl
        ·skip
         with_reducible exact az
        ·exact b7 rfl
       ·exact b7 rfl
      ·exact b7 rfl
     ·exact b7 rfl
    ·exact b7 rfl
   ·exact BV.nd
   ·rfl
   ·first|exact Or.inl rfl|exact Or.inr rfl
   ·rfl
   ·first|exact .inl rfl|exact .inr rfl
  ·skip
   refine aP (jc (rQ (av 1) (eo (nF (by kernel_rfl))))) ?_
   refine aP (bh (i:=2) (bg T.sZ (yQ T) (hr.mono (by decide)) (ay (av 0) (ay aR az))) (hN:=BV.nd)) ?_
   exact(aU (bG (iK jQ T.fY alB (ay (dg (N':=["row","rows"]) (pick:=[η,ζ 1]) (cI.of rfl rfl) (kr (av 2)) (λ_ _ _ _ _ _=>(bW (i:=0) (hN:=(by decide +kernel:υ (["row","rows"]:List Str))))) (λ_ _ _ _ _ _=>dJ) (λ_ _ _ _ _ _=>(iK jQ T.fY alB (ay (ck cu (av 1) (av 0)) az)))) az))))
theorem Ul:cB ["pot","n"] ["pot","n"] (aW qL):=⟨rfl,rfl,rfl,by decide +kernel,rfl,by decide +kernel,by decide +kernel⟩
theorem Kh(T:Tx K mg):bX P w K mg base bY 4 T.lY T.Fe ["pot","n"] (cj K 2 j8) :=
 cM (k:=3) T.AJ.fn Ul rfl rfl λcdv A outer s H E hr=>by
  show b9 _ _ tY;unfold tY;refine aP (cX (PW.pt (u9 (dj iy (av 1) aR) (vc (dj iy (bg T.gP (iu T) (hr.mono (by decide)) (ay (av 0) (ay aR az))) aR)))) (aU (bG (bg T.F8 (Ys T) (hr.mono (by decide)) (ay (av 0) az)))) dc) ?_
  exact(aU (bG (bg T.Gi (Yz T) (hr.mono (by decide)) (ay (av 0) (ay (av 1) az)))))
theorem uR:cB ["one","other","seen","row","column","pair"] ["one","other"] (aW rB):=⟨rfl,rfl,rfl,by decide +kernel,rfl,by decide +kernel,by decide +kernel⟩
theorem YC(T:Tx K mg):bX P w K mg base bY 1 T.mK T.FH ["one","other"] (cj K 2 sE) :=
 cM (k:=0) T.Gm.fn uR rfl rfl λcdv A outer s H E hr=>by
  show b9 _ _ oB;unfold oB;refine aP (bh (i:=2) (j5 az) (hN:=uR.nd)) ?_;refine aP (fz (cZ (ay (aY cD T.cz ak5 (ay (av 0) az)) az) T.cK) (bW (i:=3) (hN:=uR.nd)) (aU (fz (cZ (ay (aY cD T.cz ak5 (ay (av 0) az)) az) T.cK) (bW (i:=4) (hN:=uR.nd)) (aP (bh (i:=5) (j4 (ay (ck cu (ck cu (av 0) (av 3)) (av 4)) (ay (ck cu (ck cu (av 1) (av 3)) (av 4)) az))) (hN:=uR.nd)) (aP (cX (dj (Cz (lA hr)) (av 5) (av 2)) (aU (bG fB)) dc) (aU (jc (rQ (av 2) (av 5))))))))) ?_;exact(aU (bG fB))
theorem qC:cB ["q","products","found","often","rows","row"] ["q"] (aW qZ):=⟨rfl,rfl,rfl,by decide +kernel,rfl,by decide +kernel,by decide +kernel⟩
theorem Yy(T:Tx K mg):bX P w K mg base bY 5 T.mE T.FA ["q"] (cj K 1 vB) :=
 cM (k:=4) T.Gh.fn qC rfl rfl λcdv A outer s H E hr=>by
  show b9 _ _ qe;unfold qe;refine aP (bh (i:=1) (bg T.F9 (Yt T) (hr.mono (by decide)) (ay (av 0) az)) (hN:=qC.nd)) ?_
  refine aP (bh (i:=2) (j5 az) (hN:=qC.nd)) ?_;refine aP (fz (Ma (ay aR (ay (av 0) az)) T.cK) (bW (i:=3) (hN:=qC.nd)) (aP (bh (i:=4) (j5 az) (hN:=qC.nd)) (aP (fz (cZ (ay (av 0) az) T.cK) (bW (i:=5) (hN:=qC.nd)) (aU (jc (rQ (av 4) (iK jQ T.fY alB (ay (dg (N':=["column","q","row","products","often"]) (pick:=[η,ζ 0,ζ 5,ζ 1,ζ 3]) (cI.of rfl rfl) (cZ (ay (av 0) az) T.cK) (λ_ _ _ _ _ _=>(bW (i:=0) (hN:=(by decide +kernel:υ (["column","q","row","products","often"]:List Str))))) (λ_ _ _ _ _ _=>dJ) (λ_ _ _ _ _ _=>(bg T.F7 (Yr T) (hr.mono (by decide)) (ay (av 1) (ay (ck cu (ck cu (av 3) (av 4)) (av 2)) (ay (av 0) (ay aR az))))))) az)))))) (aU (jc (rQ (av 2) (iK jQ T.fY alB (ay (av 4) az)))))))) ?_
  exact(aU (bG (av 2)))
theorem jd:cB ["pot","square","many","at","place","odds","odd","row","some","eight","start"] ["pot","square"] (aW rA):=⟨rfl,rfl,rfl,by decide +kernel,rfl,by decide +kernel,by decide +kernel⟩
theorem YB(T:Tx K mg):bX P w K mg base bY 2 T.mJ T.FG ["pot","square"] (cj K 2 vC) :=
 cM (k:=1) T.Gk.fn jd rfl rfl λcdv A outer s H E hr=>by
  show b9 _ _ qi;unfold qi;refine aP (bh (i:=2) (aY cD T.cz ak5 (ay (av 1) az)) (hN:=jd.nd)) ?_;refine aP (bh (i:=3) (bg T.gP (iu T) (hr.mono (by decide)) (ay (av 0) (ay (av 2) az))) (hN:=jd.nd)) ?_
  refine aP (bh (i:=4) (bg T.gP (iu T) (hr.mono (by decide)) (ay (av 0) (ay (av 2) az))) (hN:=jd.nd)) ?_
  refine aP (bh (i:=5) (eo (ay (av 2) (ay (aS fW aR aR) (ay fB (ay yo (ay gx (ay (ck cu (ck cu (av 1) (av 3)) (aS fW (av 4) aR)) (ay (j4 (ay aR az)) (ay (ck cu (ck cu (av 1) (aS fW (av 3) aR)) (av 4)) az))))))))) (hN:=jd.nd)) ?_;refine aP (bh (i:=6) (ck cu (av 5) (bg T.gP (iu T) (hr.mono (by decide)) (ay (av 0) (ay aR az)))) (hN:=jd.nd)) ?_
  refine aP (bh (i:=7) (aS nH (aS nH (kX (ck cu (av 1) (av 3)) jZ (jY (av 4))) (j4 (ay (av 6) az))) (kX (ck cu (av 1) (av 3)) (jY (aS cY (av 4) aR)) jZ)) (hN:=jd.nd)) ?_;refine aP (bh (i:=8) (eo (ay (aS nH (aS nH (kX (av 1) jZ (jY (av 3))) (j4 (ay (av 7) az))) (kX (av 1) (jY (aS cY (av 3) aR)) jZ)) (ay (aS nH (kX (av 1) jZ (jY (av 3))) (kX (av 1) (jY (aS cY (av 3) aR)) jZ)) (ay (aS nH (av 1) (kX (av 1) jZ (jY aR))) (ay (iK N9 T.nJ boot_list (ay (av 1) az)) az))))) (hN:=jd.nd)) ?_;refine aP (bh (i:=8) (aS nI (av 8) (eo (ay (iK jQ T.fY alB (ay (dg (N':=["one"]) (pick:=[η]) (cI.of rfl rfl) (kr (av 1)) (λ_ _ _ _ _ _=>(bW (i:=0) (hN:=(by decide +kernel:υ (["one"]:List Str))))) (λ_ _ _ _ _ _=>dJ) (λ_ _ _ _ _ _=>(iK N9 T.nJ boot_list (ay (av 0) az)))) az)) (ay (aS nH (aS nH (kX (av 1) jZ (jY (av 3))) (j4 (ay (ck cu (av 1) (aS fW (av 3) aR)) az))) (kX (av 1) (jY (aS cY (av 3) aR)) jZ)) (ay (j4 az) (ay yo az)))))) (hN:=jd.nd)) ?_
  refine aP (bh (i:=9) (j5 az) (hN:=jd.nd)) ?_;refine aP (fz (cZ (ay aR az) T.cK) (bW (i:=10) (hN:=jd.nd)) (aU (jc (rQ (av 9) (iK jQ T.fY alB (ay (dg (N':=["column","start"]) (pick:=[η,ζ 10]) (cI.of rfl rfl) (cZ (ay aR az) T.cK) (λ_ _ _ _ _ _=>(bW (i:=0) (hN:=(by decide +kernel:υ (["column","start"]:List Str))))) (λ_ _ _ _ _ _=>dJ) (λ_ _ _ _ _ _=>(aS iw (aS cY (av 1) (av 0)) aR))) az)))))) ?_
  refine aP (bh (i:=8) (aS nI (av 8) (eo (ay XA (ay aR (ay gx (ay (j4 (ay (j4 (ay aR az)) az)) (ay (iK jQ T.fY alB (ay (av 9) az)) az))))))) (hN:=jd.nd)) ?_;exact(aU (bG (ck cu (av 8) (bg T.gP (iu T) (hr.mono (by decide)) (ay (av 0) (ay aR az))))))
theorem Jw:cB ["one","other","e"] ["one","other"] (aW qH):=⟨rfl,rfl,rfl,by decide +kernel,rfl,by decide +kernel,by decide +kernel⟩
theorem yO(T:Tx K mg):bX P w K mg base bY 7 T.lV T.E9 ["one","other"] (cj K 2 fh) :=
 cM (k:=6) T.sX.fn Jw rfl rfl λcdv A outer s H E hr=>by
  show b9 _ _ lN;unfold lN;exact(aU (Uh (T:=eE) (i:=2) (aU (bG (bg T.wk (YH T) (hr.mono (by decide)) (ay (av 0) (ay (av 1) az))))) (λW pn=>(oM (QK (Bx T.wk (Yn T) (hr.mono (by decide)) (ay (av 0) (ay (av 1) az)))))) (λea=>(Xz T.Ge (YI T) (jt.held (hr.mono (by decide))) (ay (av 2) az))) T.MQ (QH T.xw) (hN:=Jw.nd)))
theorem ic:cB ["script","k","pot","square","many","other","some","thing","found","due"] ["script"] (aW rC):=⟨rfl,rfl,rfl,by decide +kernel,rfl,by decide +kernel,by decide +kernel⟩
theorem YD(T:Tx K mg):bX P w K mg base bY 8 T.kG T.FI ["script"] (cj K 1 vD) :=
 cM (k:=7) T.NN.fn ic rfl rfl λcdv A outer s H E hr=>by
  show b9 _ _ um;unfold um;refine aP (fz (cZ (ay aR az) T.cK) (bW (i:=1) (hN:=ic.nd)) (aP (bh (i:=2) (bg T.Gb (Yv T) (hr.mono (by decide)) (ay (bg T.Gj (YA T) (hr.mono (by decide)) (ay (av 0) (ay (av 1) az))) az)) (hN:=ic.nd)) (aP (bh (i:=3) (bg T.AJ (Kh T) (hr.mono (by decide)) (ay (av 2) (ay (aS cY aR (bg T.gP (iu T) (hr.mono (by decide)) (ay (av 2) (ay aR az)))) az))) (hN:=ic.nd)) (aP (bh (i:=4) (aS cY aR (bg T.gP (iu T) (hr.mono (by decide)) (ay (av 2) (ay aR az)))) (hN:=ic.nd)) (aP (cX (dj Kw (bg T.gP (iu T) (hr.mono (by decide)) (ay (av 2) (ay aR az))) aR) (aU (bh (i:=4) (aY cD T.cz ak5 (ay (av 3) az)) (hN:=ic.nd))) dc) (aP (bh (i:=5) (bg T.AJ (Kh T) (hr.mono (by decide)) (ay (av 2) (ay (av 4) az))) (hN:=ic.nd)) (aP (cX (PW.pt (u9 (dj (Cz (lA hr)) (aY cD T.cz ak5 (ay (av 3) az)) (j4 (ay aR (ay aR (ay aR (ay aR az)))))) (vc (dj iy (bg T.gP (iu T) (hr.mono (by decide)) (ay (av 2) (ay aR az))) aR)))) (aP (bh (i:=6) (bg T.Gh (Yy T) (hr.mono (by decide)) (ay (aY cD T.cz ak5 (ay (av 3) az)) az)) (hN:=ic.nd)) (aP (bh (i:=3) (ck cu (av 6) (bg T.gP (iu T) (hr.mono (by decide)) (ay (av 2) (ay (aY cD T.cz ak5 (ay (av 6) az)) az)))) (hN:=ic.nd)) (aU (bh (i:=5) (ck cu (av 6) (bg T.gP (iu T) (hr.mono (by decide)) (ay (av 2) (ay (aY cD T.cz ak5 (ay (av 6) az)) az)))) (hN:=ic.nd))))) dc) (aP (bh (i:=7) (bg T.Gk (YB T) (hr.mono (by decide)) (ay (av 2) (ay (av 3) az))) (hN:=ic.nd)) (aP (bh (i:=8) (bg T.tw (yR T) (hr.mono (by decide)) (ay (av 7) az)) (hN:=ic.nd)) (aP (cX (PW.pt (nC (dj Zn (bg T.tw (yR T) (hr.mono (by decide)) (ay (av 3) az)) fB) (pC (gH (gV (aY gm T.cW ald (ay (av 8) (ay (fK rfl T.rZ boot_bool) az)))))))) (aU (bG fB)) dc) (aP (cX (dj pH (av 8) (bg T.Gf (Yw T) (hr.mono (by decide)) (ay (av 7) az))) (aU (bG fB)) dc) (aP (bh (i:=9) gx (hN:=ic.nd)) (aP (cX (dj iy (aY cD T.cz ak5 (ay (av 3) az)) (aY cD T.cz ak5 (ay (av 5) az))) (aU (bh (i:=9) (bg T.Gm (YC T) (hr.mono (by decide)) (ay (av 3) (ay (av 5) az))) (hN:=ic.nd))) dc) (aP (cX (gH (gV (bg T.wj (Cy T 2) (hr.mono (by decide)) (ay (bg T.sX (yO T) (hr.mono (by decide)) (ay (av 3) (ay (av 5) az))) (ay (av 9) az))))) (aU (bG fB)) dc) (aP (cX (gH (gV (bg T.wj (Cy T 2) (hr.mono (by decide)) (ay (bg T.sX (yO T) (hr.mono (by decide)) (ay (av 5) (ay (av 3) az))) (ay (av 9) az))))) (aU (bG fB)) dc) (aP (cX (PW.pt (u9 (gH (J2 (av 8))) (vc (dj (vj (lA hr)) (bg T.sX (yO T) (hr.mono (by decide)) (ay (av 3) (ay (av 7) az))) gx)))) (aU (bG fB)) dc) (aU (cX (PW.pt (u9 (gH (J2 (av 8))) (vc (dj (vj (lA hr)) (bg T.sX (yO T) (hr.mono (by decide)) (ay (av 7) (ay (av 3) az))) gx)))) (aU (bG fB)) dc)))))))))))))))))) ?_
  exact(aU (bG fB))
end
end Ev
namespace Ev
open PySem L2
theorem bu{s t:ah}{e e':Ev}{c c':aa}(h:s e c=.ok (.nx e') c'):aE s t e c=t e' c':=by rw[jv,h];rfl
theorem vt{i:Int}(h:0<=i):∃n:Nat,i=n:=⟨i.toNat,by omega⟩
def cV(j:Nat) (n:Nat) (c:aa):Prop:=c.length=n/\j<n/\∃p:Int,c[j]? = ζ (.lst [.int p])
theorem cV.set{j n:Nat}{c:aa}(h:cV j n c) (p:Int):cV j n (c.set j (.lst [.int p])):=by
 obtain⟨h1,h2,_⟩:=h;exact⟨by simp[h1],h2,p,by rw[al0 (by omega)]⟩
theorem iG{j n:Nat}{c:aa}{cN:Int}(h:cV j n c) (h0:0<cN) (h1:cN<1073741824) :
  ∃(x:Int) (c':aa),0<=x/\x<cN/\cV j n c'/\b6 [.ref j,.int cN] c=.ok (.int x) c':=by
 obtain⟨hl,hj,p,hp⟩:=id h;refine⟨p % cN,c.set j (.lst [.int (p/cN)]),amP _ (by omega),amQ _ h0,h.set _,?_⟩
 have e1:aF (.ref j) (.int 0) c=.ok (.int p) c:=by
  unfold aF gw;simp[hp]
 have e2:kT (.ref j) (.int 0) (.int (p/cN)) c=.ok () (c.set j (.lst [.int (p/cN)])):=by
  unfold kT;simp[hp,fM]
 have e3:(c.set j (.lst [.int (p/cN)])).take c.length=c.set j (.lst [.int (p/cN)]):=by
  rw[amR];simp
 simp(disch:=omega) [b6,qa,e1,jG,sW,e2,e3]
theorem VU(cell:Int) (c:aa):∃p:Int,sA [.int cell] c=.ok (.ref c.length) (c++[.lst [.int p]]):=by
 by_cases h:10^18<=cell
 ·refine⟨cell-10^18,?_⟩;simp(disch:=omega) [sA,qd,JU,h];rw[if_pos (by simpa using h)]
  simp[dX]
 ·obtain⟨e',c',⟨⟨q,v1,v2,rfl⟩,rfl⟩,hf⟩:=Na (g:=aA 2) (s:=(aE (aG 3 (au bT (au b8 (au aZ (au aZ (au bT (ak 0) (dC (.int 2147483629))) (au b8 (dC (.int 7919)) (ak 2))) (dC (.int 1))) (dC (.int 48271))) (dC (.int 2147483647)))) (aE (aG 3 (au bT (au aZ (au aZ (au b8 (ak 3) (ak 3)) (au b8 (dC (.int 69621)) (ak 2))) (dC (.int 7))) (dC (.int 2147483587)))) (aG 1 (au aZ (au b8 (ak 1) (dC (.int 2147483587))) (ak 3))))))
   (λe c'=>(∃q v1 v2,e=[ζ (.int cell),ζ (.int q),v1,v2])/\c'=c) (bf 0 64) [ζ (.int cell),ζ (.int 0),η,η] c ⟨⟨0,η,η,rfl⟩,rfl⟩ (λx hx e c' ⟨⟨q,v1,v2,he⟩,hc⟩=>by
    obtain⟨i,rfl,i0,i1⟩:=vz hx;subst he;subst hc;have b0:0<=(cell % 2147483629+7919*i+1)*48271 % 2147483647:=amP _ (by decide)
    have b1:(cell % 2147483629+7919*i+1)*48271 % 2147483647<2147483647:=amQ _ (by decide)
    generalize hm:(cell % 2147483629+7919*i+1)*48271 % 2147483647=m at b0 b1
    refine⟨_,[ζ (.int cell),ζ (.int (q*2147483587+(m*m+69621*i+7) % 2147483587)),ζ (.int i),ζ (.int ((m*m+69621*i+7) % 2147483587))],_,_,rfl,by simp(disch:=omega) [jG,zb,mul_r,hm],⟨⟨_,_,_,rfl⟩,rfl⟩⟩)
  refine⟨q,?_⟩;have hh:¬(1000000000000000000<=cell):=by simpa using h
  simp(disch:=omega) [sA,qd,JU,hh];rw[hf];simp[dX]
theorem ahk(ns:List Int) (k:Int) (h:0<=k) (c:aa):∃x:Int,sD [.bL ns,.int k] c=.ok (.int x) c:=by
 by_cases q:k<ns.length
 ·have hk:k.toNat<ns.length:=by omega
  refine⟨ns[k.toNat],?_⟩;have e:aF (.bL ns) (.int k) c=.ok (.int ns[k.toNat]) c:=by
   show(match cJ (ns.map D.int) k with|some d=>R.ok d c|none=>R.bad)=_
   have:cJ (ns.map D.int) k=ζ (.int ns[k.toNat]):=by
    have:=gQ (xs:=ns.map D.int) (j:=k.toNat) (v:=.int ns[k.toNat]) (by simp[hk])
    rw[Int.toNat_of_nonneg h]at this;exact this
   rw[this]
  simp[sD,qg,q,e]
 ·exact⟨0,by simp[sD,qg,q]⟩
theorem take2{j:Nat}{c:aa}{p cN:Int}(hp:c[j]? = ζ (.lst [.int p])) (h0:0<cN) (h1:cN<1073741824):b6 [.ref j,.int cN] c=.ok (.int (p % cN)) (c.set j (.lst [.int (p/cN)])):=by
 have hj:j<c.length:=(alb.mp hp).1;have e1:aF (.ref j) (.int 0) c=.ok (.int p) c:=by
  unfold aF gw;simp[hp]
 have e2:kT (.ref j) (.int 0) (.int (p/cN)) c=.ok () (c.set j (.lst [.int (p/cN)])):=by
  unfold kT;simp[hp,fM]
 have e3:(c.set j (.lst [.int (p/cN)])).take c.length=c.set j (.lst [.int (p/cN)]):=by
  rw[amR];simp
 simp(disch:=omega) [b6,qa,e1,jG,sW,e2,e3]
theorem Nl(l:List D):l.filter (λ_=>Ξ)=l:=by simp
theorem B0{β:Type}(m:Nat) (F:D->β):(bf 0 (m:Int)).map F=(θ m).map λi:Nat=>F (.int (i:Int)):=by
 unfold bf;rw[alh,show((m:Int)-0).toNat=m by omega]
 refine alY λi _=>?_
 simp
def PO(j n:Nat) (os:List Nat) (c:aa):Prop:=c.length=n+1/\j<n/\(∃p:Int,c[j]? = ζ (.lst [.int p]))/\c[n]? = ζ (.lst (nD os))
def vg:af:=(tG (ak 1) (aC 2 b6 (ao (ak 2) (ao (aB aN (ao (ak 1) aq)) aq))))
theorem aaY(l:List Nat) (i:Nat):(nD l).eraseIdx i=nD (l.eraseIdx i):=by
 rw[anf,anf];simp[nD,anP,List.map_drop]
theorem FW{l:List Nat}{i:Nat}(h:i<l.length):l.Perm (l[i]::l.eraseIdx i):=by
 have e:l.take i++l[i]::l.drop (i+1)=l:=by rw[<-anB h,amy]
 rw[anf];have p:(l.take i++l[i]::l.drop (i+1)).Perm (l[i]::(l.take i++l.drop (i+1))):=aoG
 rwa[e]at p
theorem XX{j n:Nat}{left:List Nat}{c:aa}{v:Option D}(hP:PO j n left c) (h1:0<left.length) (h2:left.length<1000) :
  ∃(x:Nat) (rest:List Nat) (c':aa),left.Perm (x::rest)/\PO j n rest c'/\(∀k,k≠j->k<n->c'[k]? = c[k]?)/\vg [v,ζ (.ref n),ζ (.ref j)] c=.ok (.int (x:Int)) c':=by
 obtain⟨g1,g2,⟨p,g3⟩,g4⟩:=hP;have ht:=take2 (cN:=(left.length:Int)) g3 (by omega) (by omega)
 have x0:=amP p (show(left.length:Int)≠0 by omega)
 have x1:=amQ p (show(0:Int)<(left.length:Int) by omega)
 generalize p % (left.length:Int)=x at ht x0 x1
 obtain⟨i,rfl⟩:=vt x0
 generalize hc1:c.set j (.lst [.int (p/(left.length:Int))])=c1 at ht
 have l1:c1.length=n+1:=by rw[<-hc1];simp[g1]
 have q1:c1[n]? = ζ (.lst (nD left)):=by rw[<-hc1,al8 (by omega)];exact g4
 have q0:c1[j]? = ζ (.lst [.int (p/(left.length:Int))]):=by rw[<-hc1,al0 (by omega)]
 have hi:i<left.length:=by omega
 have hlen:aN [.ref n] c=.ok (.int (left.length:Int)) c:=by
  unfold aN;dsimp only[gw];rw[g4];simp[nD]
 have hget:(nD left)[i]? = ζ (.int (left[i]:Nat)):=by simp[nD,hi]
 refine⟨left[i],left.eraseIdx i,c1.set n (.lst (nD (left.eraseIdx i))),FW hi,⟨by simp[l1],g2,⟨_,by rw[al8 (by omega)];exact q0⟩,by rw[al0 (by omega)]⟩,λk k1 k2=>by rw[al8 (by omega),<-hc1,al8 (by omega)],?_⟩
 unfold vg tG;simp only[bJ,gz,gs,R.aD,x_call,bE,dG,bK,hlen,ak4,ali,if_pos,ht,q1];rw[if_pos ⟨by omega,by rw[show(nD left).length=left.length by simp[nD]];omega,by rw[show(nD left).length=left.length by simp[nD]];omega⟩,anq,hget]
 dsimp only;rw[aaY]
theorem Kc{j n:Nat}:∀(ks:List D) (v:Option D) (acc:List D) (left:List Nat) (c:aa),left.length=ks.length->left.length<1000->PO j n left c ->
  ∃(os:List Nat) (c':aa),os.Perm left/\PO j n [] c'/\(∀k,k≠j->k<n->c'[k]? = c[k]?)/\bI (λ_=>True) (aA 0) aJ vg ks [v,ζ (.ref n),ζ (.ref j)] acc c=.ok (acc++nD os) c'
 |[],v,acc,left,c,hl,_,hP=>by
  have:left=[]:=anC.mp (by simpa using hl)
  subst this;exact⟨[],c,.refl _,hP,λ_ _ _=>rfl,by simp[nD]⟩
 |k::ks,v,acc,left,c,hl,h2,hP=>by
  rw[ak4]at hl;obtain⟨x,rest,c1,hp,P1,f1,h1⟩:=XX (v:=ζ k) hP (by omega) h2
  have hr:rest.length+1=left.length:=by have:=hp.length_eq;simpa using this.symm
  obtain⟨os,c2,hp2,P2,f2,h⟩:=Kc ks (ζ k) (acc++[.int (x:Int)]) rest c1 (by omega) (by omega) P1
  refine⟨x::os,c2,(hp2.cons x).trans hp.symm,P2,λk k1 k2=>(f2 k k1 k2).trans (f1 k k1 k2),?_⟩
  have e1:aA 0 k [v,ζ (.ref n),ζ (.ref j)] c=.ok [ζ k,ζ (.ref n),ζ (.ref j)] c:=rfl;rw[jP,e1,R.aD,kO,R.aD,if_pos rfl,h1,R.aD,h,alA];rfl
theorem XR{j:Nat}{q:Int}{c:aa}(b:0<q/\q<1000):(aG 2 (wu (ao (ak 1) aq))) [ζ (.ref j),ζ (.int q),η] c=.ok (.nx [ζ (.ref j),ζ (.int q),ζ (.ref c.length)]) (c++[.lst ((bB 0 q).map D.int)]):=by
 simp only[fR,Q2,bE,bJ,gz,gs,bK,R.aD];rw[if_pos b];rfl
theorem XQ{j n:Nat}{q:Int}{l:List D}{c c':aa}(b:-4611686018427387904<=q/\q<4611686018427387904) (hl:(bf 0 q).length<ι) (hc:bI (λ_=>True) (aA 0) aJ vg (bf 0 q) [η,ζ (.ref n),ζ (.ref j)] [] c=.ok l c'):(aK (aB cg (ao (aT (aV (ao (ak 1) aq)) [η,ζ 2,ζ 0] (aA 0) aJ (tG (ak 1) (aC 2 b6 (ao (ak 2) (ao (aB aN (ao (ak 1) aq)) aq))))) aq))) [ζ (.ref j),ζ (.int q),ζ (.ref n)] c=.ok (.rt (.tup l)) c':=by
 have hp:cO [η,ζ 2,ζ 0] [ζ (.ref j),ζ (.int q),ζ (.ref n)]=[η,ζ (.ref n),ζ (.ref j)]:=rfl;unfold vg at hc;simp only[jw,dG,bE,dF,gr,bJ,gz,gs,bK,R.aD];rw[if_pos (by omega)]
 simp only[R.aD];rw[if_pos hl,hp,hc];rfl
theorem uV(m:Nat):bB 0 (m:Int)=(θ m).map λk:Nat=>(k:Int):=by
 unfold bB;rw[show((m:Int)-0).toNat=m by omega]
 refine alY λk _=>?_
 omega
theorem J9{j n m:Nat}{c:aa}(hP:cV j n c) (h1:1<=m) (hm:m<1000):∃os c',os.Perm (θ m)/\cV j n c'/\(∀k,k≠j->k<n->c'[k]? = c[k]?)/\fJ [.ref j,.int (m:Int)] c=.ok (.tup (nD os)) c':=by
 have hs:=fy (n:=1000) (by decide)
 obtain⟨hl,hj,p,hp⟩:=hP;have e0:=XR (j:=j) (q:=(m:Int)) (c:=c) (by omega)
 have hr:(bB 0 (m:Int)).map D.int=nD (θ m):=by rw[uV];simp[nD]
 rw[hr]at e0;have P0:PO j n (θ m) (c++[.lst (nD (θ m))]):=⟨by simp[hl],hj,⟨p,by rw[alL (by omega)];exact hp⟩,by rw[al3 (by omega),hl];simp⟩
 obtain⟨os,c2,ho,P2,f2,hc⟩:=Kc (bf 0 (m:Int)) η [] (θ m) _ (by rw[fG,alN];omega) (by rw[alN];omega) P0
 rw[alm]at hc;have e1:=XQ (q:=(m:Int)) (by omega) (by rw[fG];omega) hc
 have hb:uc=aE (aG 2 (wu (ao (ak 1) aq))) (aK (aB cg (ao (aT (aV (ao (ak 1) aq)) [η,ζ 2,ζ 0] (aA 0) aJ (tG (ak 1) (aC 2 b6 (ao (ak 2) (ao (aB aN (ao (ak 1) aq)) aq))))) aq))):=rfl;have es:dH 3 [D.ref j,.int (m:Int)]=[ζ (.ref j),ζ (.int (m:Int)),η]:=rfl;obtain⟨l3,_,⟨p3,q3⟩,_⟩:=P2;refine⟨os,c2.take n,ho,⟨by rw[al2];omega,hj,p3,by rw[ano hj];exact q3⟩,λk k1 k2=>by rw[ano k2,f2 k k1 k2,alL (by omega)],?_⟩
 rw[hl]at e0;rw[fJ,fu,hb,es,bu e0,e1];simp only[R.aD];rw[uX,if_pos (CD os),hl]
theorem Cj{j n m:Nat}{c:aa}(hP:cV j n c) (h1:1<=m) (hm:m<1000):∃os c',os.Perm (θ m)/\cV j n c'/\fJ [.ref j,.int (m:Int)] c=.ok (.tup (nD os)) c' :=
 let⟨os,c',h1,h2,_,h3⟩:=J9 hP h1 hm
 ⟨os,c',h1,h2,h3⟩
theorem qz{s t:ah}{e:Ev}{c c':aa}{d:D}(h:s e c=.ok (.rt d) c'):aE s t e c=.ok (.rt d) c':=by
 rw[jv,h];rfl
def It(d:D):Prop:=(∃i:Int,d=.int i)\/d=.bl Ξ\/d=.aQ\/(∃z,d=.str z)\/∃l,d=.tup l
def iJ(q:Int):D->Bool
 |.int i=>decide (0<=i)&&decide (i<=q-1)
 |_=>ξ
def jk:D->Bool
 |.int _=>Ξ
 |_=>ξ
theorem Rc{d:D}(h:It d) (c:aa):zg [d] c=.ok (.bl (jk d)) c:=by
 have tu:∀l,bx [.tup l,.ty "int"] c=.ok (.bl ξ) c:=λ_=>rfl
 rcases h with⟨i,rfl⟩|rfl|rfl|⟨z,rfl⟩|⟨l,rfl⟩<;>simp[zg,uo,jk,tu]
theorem acS{d:D}(h:jk d=ξ) (q:Int):iJ q d=ξ:=by
 cases d<;>first|(cases h;done)|rfl
theorem LV{d:D}(h:jk d=Ξ):∃i,d=.int i:=by
 cases d<;>first|(cases h;done)|exact⟨_,rfl⟩
theorem Q9{d:D}(h:It d) (q:Int) (c:aa):kc [d,.int 0,.int (q-1)] c=.ok (.bl (iJ q d)) c:=by
 have hw:=Rc h c;cases hi:jk d with
 |false =>
  rw[hi]at hw;rw[acS hi];simp[kc,qj,hw]
 |true =>
  obtain⟨i,rfl⟩:=LV hi;rw[hi]at hw
  by_cases q0:0<=i<;>simp[kc,qj,hw,iJ,q0]
theorem Pg{a:af}{T:D}{q:Int}{c:aa}(ha:∀d,It d->a [ζ d,ζ T] c=.ok (.bl (iJ q d)) c):∀(l:List D) (v:Option D) (acc:List D),(∀d∈l,It d)->bI (λ_=>True) (aA 0) aJ a l [v,ζ T] acc c=.ok (acc++(l.map (iJ q)).map D.bl) c
 |[],v,acc,_=>by simp
 |d::l,v,acc,h=>by
  have h1:aA 0 d [v,ζ T] c=.ok [ζ d,ζ T] c:=rfl;rw[jP,h1,R.aD,kO,R.aD,if_pos rfl,ha d (h d (.head _)),R.aD,Pg ha l _ _ (λz hz=>h z (.tail _ hz)),alA]
  rfl
theorem lQ(l:List Bool) (c:aa):dQ [.lst (l.map D.bl)] c=.ok (.bl (l.all id)) c:=by
 unfold dQ Cb;dsimp only;rw[ahN]
theorem u5:∀{A B:List Nat},A.Nodup->(∀x∈A,x∈B)->A.length=B.length->A.Perm B
 |[],B,_,_,hl=>by
  have:B=[]:=anC.mp (by simpa using hl.symm)
  subst this;exact .refl _
 |a::A,B,hn,hs,hl=>by
  obtain⟨h1,h2⟩:=amu.mp hn;have ha:=hs a (.head _);have hp:=List.perm_cons_erase ha;have he:(B.erase a).length=B.length-1:=aor ha;have ih:=u5 (A:=A) (B:=B.erase a) h2 (λx hx=>(aoq (λe:x=a=>h1 (by rw[<-e];exact hx))).mpr (hs x (.tail _ hx))) (by rw[he];rw[ak4]at hl;omega)
  exact(ih.cons a).trans hp.symm
theorem Sy{ps:List Nat}{m:Nat}(hl:ps.length=m) (hm:∀p∈ps,p<m):(cE ps).length=m↔ps.Perm (θ m):=by
 have hn:=yY (qx ps)
 constructor
 ·intro h;have h1:(cE ps).Perm ps:=u5 hn (λx hx=>nK.mp hx) (by omega)
  have h2:(cE ps).Perm (θ m):=u5 hn (λx hx=>akY.mpr (hm x (nK.mp hx))) (by rw[alN];exact h)
  exact h1.symm.trans h2
 ·intro h;have hd:ps.Nodup:=h.nodup_iff.mpr List.nodup_range;have h1:ps.Perm (cE ps):=(apF hd hn).mpr λx=>nK.symm
  rw[<-h1.length_eq,hl]
theorem sd(ps:List Nat):nD ps=(ps.map λk:Nat=>(k:Int)).map D.int:=by simp[nD]
theorem AW:∀{ps qs:List Nat},ps.map (λk:Nat=>(k:Int))=qs.map (λk:Nat=>(k:Int))->ps=qs
 |[],[],_=>rfl
 |[],q::qs,h=>by simp at h
 |p::ps,[],h=>by simp at h
 |p::ps,q::qs,h=>by
  rw[ak2,ak2]at h;obtain⟨h1,h2⟩:=List.cons.inj h;rw[AW h2,show p=q by omega]
theorem Ep:∀{a b:List Int},a.map D.int=b.map D.int->a=b
 |[],[],_=>rfl
 |[],y::b,h=>by simp at h
 |x::a,[],h=>by simp at h
 |x::a,y::b,h=>by
  rw[ak2,ak2]at h;obtain⟨h1,h2⟩:=List.cons.inj h;cases h1;rw[Ep h2]
theorem Lg{ps qs:List Nat}(h:nD ps=nD qs):ps=qs:=by
 rw[sd,sd]at h;exact AW (Ep h)
theorem Pf{m:Nat}:∀{xs:List D},(xs.map (iJ (m:Int))).all id=Ξ->∃ps:List Nat,xs=nD ps/\∀p∈ps,p<m
 |[],_=>⟨[],rfl,λp hp=>(by cases hp)⟩
 |d::xs,h=>by
  rw[ak2,aoM,ak9]at h;obtain⟨ps,rfl,hp⟩:=Pf h.2;have hd:iJ (m:Int) d=Ξ:=h.1;cases d with
  |int i =>
   simp only[iJ,ak9,decide_eq_true_eq]at hd;obtain⟨k,rfl⟩:=vt hd.1;exact⟨k::ps,rfl,λp eO=>by
    rcases akV.mp eO with rfl|h'
    ·omega
    ·exact hp p h'⟩
  |_=>cases hd
theorem JV{m:Nat}:∀{ps:List Nat},(∀p∈ps,p<m)->((nD ps).map (iJ (m:Int))).all id=Ξ
 |[],_=>rfl
 |p::ps,h=>by
  have h1:=JV (ps:=ps) λq hq=>h q (.tail _ hq)
  have h2:=h p (.head _);show(iJ (m:Int) (.int (p:Int))&&((nD ps).map (iJ (m:Int))).all id)=Ξ;rw[h1];simp[iJ];omega
def aiX(m:Nat) (xs:List D):Prop:=∃ps:List Nat,xs=nD ps/\ps.Perm (θ m)
theorem ac0{xs:List D}{q:Int}(h:¬(xs.length:Int)=q) (c:aa):(bq (dY (bR (aL (aB bx (ao (ak 0) (ao (dC (.ty "tuple")) aq))))) (aL (au fX (aB aN (ao (ak 0) aq)) (ak 1)))) (aK (dC (.bl ξ))) br) [ζ (.tup xs),ζ (.int q)] c=.ok (.rt (.bl ξ)) c:=by
 simp[h]
theorem acZ{xs:List D}{q:Int}(h:(xs.length:Int)=q) (c:aa):(bq (dY (bR (aL (aB bx (ao (ak 0) (ao (dC (.ty "tuple")) aq))))) (aL (au fX (aB aN (ao (ak 0) aq)) (ak 1)))) (aK (dC (.bl ξ))) br) [ζ (.tup xs),ζ (.int q)] c=.ok (.nx [ζ (.tup xs),ζ (.int q)]) c:=by
 simp[h]
theorem LY{xs:List D}{q:Int}{l:List Bool}{ps:List Nat}{n:Int}{c:aa}(hl:xs.length<ι) (hc:bI (λ_=>True) (aA 0) aJ (aC 3 kc (ao (ak 0) (ao (dC (.int 0)) (ao (au bS (ak 1) (dC (.int 1))) aq)))) xs [η,ζ (.int q)] [] c=.ok (l.map D.bl) c) (hs:l.all id=Ξ->vq c (.tup xs)=ζ ps) (hn:((cE ps).length:Int)=n) :
  (aK (iT (aB dQ (ao (aT (bD (ak 0)) [η,ζ 1] (aA 0) aJ (aC 3 kc (ao (ak 0) (ao (dC (.int 0)) (ao (au bS (ak 1) (dC (.int 1))) aq))))) aq)) (au cy (tK (ao (ak 0) aq)) (ak 1)))) [ζ (.tup xs),ζ (.int q)] c=.ok (.rt (.bl (l.all id&&decide (n=q)))) c:=by
 have hp:cO [η,ζ 1] [ζ (D.tup xs),ζ (.int q)]=[η,ζ (.int q)]:=rfl;simp only[jw,Q6,dG,bE,dF,xB,bJ,gz,gs,bK,R.aD];rw[if_pos hl,hp,hc];simp only[R.aD,lQ];cases hA:l.all id with
 |false=>simp
 |true =>
  have h2:=hs hA;simp only[if_true,d9,R.aD,bJ,gz,gs];unfold tK;simp only[bE,bJ,gz,bK,R.aD,h2,hn,Q4,aos]
theorem Ez{m:Nat}(hm:m<60) {xs:List D}(hx:∀d∈xs,It d) (hl:xs.length<=20) (c:aa):∃b,cF [.tup xs,.int (m:Int)] c=.ok (.bl b) c/\(b=Ξ↔aiX m xs):=by
 have hs:=fy (n:=1000) (by decide)
 have hb:qk=aE (bq (dY (bR (aL (aB bx (ao (ak 0) (ao (dC (.ty "tuple")) aq))))) (aL (au fX (aB aN (ao (ak 0) aq)) (ak 1)))) (aK (dC (.bl ξ))) br) (aK (iT (aB dQ (ao (aT (bD (ak 0)) [η,ζ 1] (aA 0) aJ (aC 3 kc (ao (ak 0) (ao (dC (.int 0)) (ao (au bS (ak 1) (dC (.int 1))) aq))))) aq)) (au cy (tK (ao (ak 0) aq)) (ak 1)))):=rfl;have es:∀q:Int,dH 2 [.tup xs,.int q]=[ζ (.tup xs),ζ (.int q)]:=λ_=>rfl
 by_cases h1:(xs.length:Int)=(m:Int)
 ·have hc:=Pg (a:=(aC 3 kc (ao (ak 0) (ao (dC (.int 0)) (ao (au bS (ak 1) (dC (.int 1))) aq))))) (T:=.int (m:Int)) (q:=(m:Int)) (c:=c) (λd h=>by
   have:=Q9 h (m:Int) c
   generalize (m:Int)=q at *
   simp[this]) xs η [] hx
  rw[alm]at hc;have zD:∀{l:List Bool}{n:Int},(aK (iT (aB dQ (ao (aT (bD (ak 0)) [η,ζ 1] (aA 0) aJ (aC 3 kc (ao (ak 0) (ao (dC (.int 0)) (ao (au bS (ak 1) (dC (.int 1))) aq))))) aq)) (au cy (tK (ao (ak 0) aq)) (ak 1)))) [ζ (.tup xs),ζ (.int (m:Int))] c=.ok (.rt (.bl (l.all id&&decide (n=(m:Int))))) c->cF [.tup xs,.int (m:Int)] c=.ok (.bl (l.all id&&decide (n=(m:Int)))) c:=fun{l n} h=>by
   rw[cF,fu,hb,es,bu (acZ h1 c),h]
   generalize (l.all id&&decide (n=(m:Int)))=z
   simp
  cases hA:(xs.map (iJ (m:Int))).all id with
  |false =>
   have h:=zD (LY (ps:=[]) (n:=0) (by omega) hc (λh=>by rw[hA]at h;cases h) rfl)
   refine⟨_,h,?_⟩;rw[hA,anV];refine⟨λh=>(by cases h),fun⟨ps,e,hp⟩=>?_⟩
   subst e;rw[JV λp eO=>akY.mp (hp.mem_iff.mp eO)]at hA
   exact hA.symm
  |true =>
   obtain⟨ps,rfl,hp⟩:=Pf hA;have hpl:ps.length=m:=by
    have:(nD ps).length=ps.length:=by simp[nD]
    omega
   have h64:(cE ps).length<64:=by
    have:=CJ (yY (qx ps)) (λx hx=>nK.mp hx)
    omega
   have hN:vq c (.tup (nD ps))=ζ ps:=Lf h64 λx hx=>by have:=hp x hx;omega
   have h:=zD (LY (ps:=ps) (n:=((cE ps).length:Int)) (by omega) hc (λ_=>hN) rfl)
   refine⟨_,h,?_⟩;rw[hA,aos,decide_eq_true_eq];have hk:=Sy hpl hp;refine⟨λh=>⟨ps,rfl,hk.mp (by omega)⟩,fun⟨qs,e,hq⟩=>?_⟩
   cases Lg e;have:=hk.mpr hq;omega
 ·refine⟨ξ,?_,λh=>(by cases h),fun⟨ps,e,hp⟩=>?_⟩
  ·rw[cF,fu,hb,es,qz (ac0 h1 c)];simp
  ·subst e;have:=hp.length_eq;rw[alN]at this;exact absurd (by simp[nD,this]) h1
def aH(n:Nat) (s:Nat->Nat->Nat):D:=.tup ((θ n).map λi=>.tup (nD ((θ n).map (s i))))
structure eZ (n:Nat) (s:Nat->Nat->Nat):Prop where
 row:∀i,i<n->((θ n).map (s i)).Perm (θ n)
 col:∀k,k<n->((θ n).map λi=>s i k).Perm (θ n)
theorem LQ{ps:List Nat}:∀d∈nD ps,It d:=λd hd=>by
 obtain⟨k,_,rfl⟩:=akW.mp hd;exact .inl ⟨_,rfl⟩
theorem Mr{n:Nat}(hn:n<18) {ps:List Nat}(hp:ps.Perm (θ n)) (c:aa):cF [.tup (nD ps),.int (n:Int)] c=.ok (.bl Ξ) c:=by
 have hl:ps.length=n:=by have:=hp.length_eq;simpa using this
 obtain⟨b,h,i⟩:=Ez (m:=n) (by omega) (xs:=nD ps) LQ (by simp[nD,hl];omega) c
 have:b=Ξ:=i.mpr ⟨ps,rfl,hp⟩;rw[this]at h;exact h
theorem NX{n k:Nat}(s:Nat->Nat->Nat) (hk:k<n) (c:aa):∀(l:List Nat) (v:Option D) (acc:List D),bI (λ_=>True) (aA 0) aJ (au aF (ak 0) (ak 1)) (l.map λi=>.tup (nD ((θ n).map (s i)))) [v,ζ (.int (k:Int))] acc c=.ok (acc++nD (l.map λi=>s i k)) c
 |[],v,acc=>by simp[nD]
 |i::l,v,acc=>by
  have h1:aA 0 (.tup (nD ((θ n).map (s i)))) [v,ζ (.int (k:Int))] c=.ok [ζ (.tup (nD ((θ n).map (s i)))),ζ (.int (k:Int))] c:=rfl;have h2:aF (.tup (nD ((θ n).map (s i)))) (.int (k:Int)) c=.ok (.int (s i k:Nat)) c:=by
   rw[xD,gQ (v:=.int (s i k:Nat)) (by simp[nD,hk])]
  have hE:(au aF (ak 0) (ak 1)) [ζ (.tup (nD ((θ n).map (s i)))),ζ (.int (k:Int))] c=.ok (.int (s i k:Nat)) c:=by
   generalize D.tup (nD ((θ n).map (s i)))=T at *
   simp only[d9,bJ,gz,gs,R.aD,h2]
  rw[ak2,jP,h1,R.aD,kO,R.aD,if_pos rfl,hE,R.aD,NX s hk c l,alA];rfl
theorem NW{n k:Nat}(s:Nat->Nat->Nat) (hn:n<100) (hk:k<n) (c:aa):gb [aH n s,.int (k:Int)] c=.ok (.tup (nD ((θ n).map λi=>s i k))) c:=by
 have hs:=fy (n:=1000) (by decide)
 have hc:=NX s hk c (θ n) η [];rw[alm]at hc;have e:(aK (aB cg (ao (aT (bD (ak 0)) [η,ζ 1] (aA 0) aJ (au aF (ak 0) (ak 1))) aq))) [ζ (aH n s),ζ (.int (k:Int))] c=.ok (.rt (.tup (nD ((θ n).map λi=>s i k)))) c:=by
  have hp:cO [η,ζ 1] [ζ (aH n s),ζ (.int (k:Int))]=[η,ζ (.int (k:Int))]:=rfl;have hd:bD (ak 0) [ζ (aH n s),ζ (.int (k:Int))] c=.ok ⟨(θ n).map λi=>.tup (nD ((θ n).map (s i))),λ_=>True⟩ c:=rfl
  simp only[jw,dG,bE,dF,hd,bK,R.aD];rw[if_pos (by rw[ak6,alN];omega),hp,hc]
  rfl
 have hb:uq=(aK (aB cg (ao (aT (bD (ak 0)) [η,ζ 1] (aA 0) aJ (au aF (ak 0) (ak 1))) aq))):=rfl;rw[gb,fu,hb];have es:dH 2 [aH n s,.int (k:Int)]=[ζ (aH n s),ζ (.int (k:Int))]:=rfl;rw[es,e];simp only[R.aD];rw[uX,if_pos (CD _),amN]
theorem JC{n:Nat}{a:af}{c:aa}{q:Int}(f:Nat->D):∀(l:List Nat) (v:Option D) (acc:List D),(∀i∈l,a [ζ (f i),ζ (.int q)] c=.ok (.bl Ξ) c)->bI (λ_=>True) (aA 0) aJ a (l.map f) [v,ζ (.int q)] acc c=.ok (acc++(l.map λ_=>Ξ).map D.bl) c
 |[],v,acc,_=>by simp
 |i::l,v,acc,h=>by
  have h1:aA 0 (f i) [v,ζ (.int q)] c=.ok [ζ (f i),ζ (.int q)] c:=rfl;rw[ak2,jP,h1,R.aD,kO,R.aD,if_pos rfl,h i (.head _),R.aD,JC (n:=n) f l _ _ (λz hz=>h z (.tail _ hz)),alA]
  rfl
theorem all_true{α:Type}(l:List α):(l.map λ_=>Ξ).all id=Ξ:=by
 induction l with
 |nil=>rfl
 |cons a l ih=>exact ih
theorem Jg{S:D}{xs:List D}{q:Int}{l1 l2:List Bool}{c:aa}(hS:S=.tup xs) (hq:(xs.length:Int)=q) (b:1<=q/\q<=7) (hl:xs.length<ι) (hlr:(bf 0 q).length<ι) (h1:bI (λ_=>True) (aA 0) aJ (aC 2 cF (ao (ak 0) (ao (ak 1) aq))) xs [η,ζ (.int q)] [] c=.ok (l1.map D.bl) c) (a1:l1.all id=Ξ) (h2:bI (λ_=>True) (aA 0) aJ (aC 2 cF (ao (aC 2 gb (ao (ak 2) (ao (ak 0) aq))) (ao (ak 1) aq))) (bf 0 q) [η,ζ (.int q),ζ S] [] c=.ok (l2.map D.bl) c) (a2:l2.all id=Ξ):cP [S] c=.ok (.bl Ξ) c:=by
 subst hS;have hb:g6=aE (bq (dY (bR (aL (aB bx (ao (ak 0) (ao (dC (.ty "tuple")) aq))))) (bR (aL (gY ez ez (dC (.int 1)) (aB aN (ao (ak 0) aq)) (dC (.int 7)))))) (aK (dC (.bl ξ))) br) (aE (aG 1 (aB aN (ao (ak 0) aq))) (aE (bq (bR (aL (aB dQ (ao (aT (bD (ak 0)) [η,ζ 1] (aA 0) aJ (aC 2 cF (ao (ak 0) (ao (ak 1) aq)))) aq)))) (aK (dC (.bl ξ))) br) (aK (aB dQ (ao (aT (aV (ao (ak 1) aq)) [η,ζ 1,ζ 0] (aA 0) aJ (aC 2 cF (ao (aC 2 gb (ao (ak 2) (ao (ak 0) aq))) (ao (ak 1) aq)))) aq))))):=rfl;have es:dH 2 [D.tup xs]=[ζ (.tup xs),η]:=rfl;have e0:(bq (dY (bR (aL (aB bx (ao (ak 0) (ao (dC (.ty "tuple")) aq))))) (bR (aL (gY ez ez (dC (.int 1)) (aB aN (ao (ak 0) aq)) (dC (.int 7)))))) (aK (dC (.bl ξ))) br) [ζ (.tup xs),η] c=.ok (.nx [ζ (.tup xs),η]) c:=by
  have hle:aN [.tup xs] c=.ok (.int q) c:=by rw[uD,hq]
  simp[hq,b.1,b.2]
 have e1:(aG 1 (aB aN (ao (ak 0) aq))) [ζ (.tup xs),η] c=.ok (.nx [ζ (.tup xs),ζ (.int q)]) c:=by simp[hq]
 have e2:(bq (bR (aL (aB dQ (ao (aT (bD (ak 0)) [η,ζ 1] (aA 0) aJ (aC 2 cF (ao (ak 0) (ao (ak 1) aq)))) aq)))) (aK (dC (.bl ξ))) br) [ζ (.tup xs),ζ (.int q)] c=.ok (.nx [ζ (.tup xs),ζ (.int q)]) c:=by
  have hp:cO [η,ζ 1] [ζ (.tup xs),ζ (.int q)]=[η,ζ (.int q)]:=rfl;simp only[gS,qu,jx,dG,bE,dF,xB,bJ,gz,gs,bK,R.aD];rw[if_pos hl,hp,h1];simp only[R.aD,lQ,a1];simp
 have e3:(aK (aB dQ (ao (aT (aV (ao (ak 1) aq)) [η,ζ 1,ζ 0] (aA 0) aJ (aC 2 cF (ao (aC 2 gb (ao (ak 2) (ao (ak 0) aq))) (ao (ak 1) aq)))) aq))) [ζ (.tup xs),ζ (.int q)] c=.ok (.rt (.bl Ξ)) c:=by
  have hp:cO [η,ζ 1,ζ 0] [ζ (.tup xs),ζ (.int q)]=[η,ζ (.int q),ζ (.tup xs)]:=rfl;simp only[jw,dG,bE,dF,gr,bJ,gz,gs,bK,R.aD];rw[if_pos (by omega)]
  simp only[R.aD];rw[if_pos hlr,hp,h2];simp only[R.aD,lQ,a2]
 rw[cP,fu,hb,es,bu e0,bu e1,bu e2,e3];simp
theorem uO{n:Nat}{s:Nat->Nat->Nat}(h:eZ n s) (h1:1<=n) (h7:n<=7) (c:aa):cP [aH n s] c=.ok (.bl Ξ) c:=by
 have hs:=fy (n:=1000) (by decide)
 have c1:=JC (n:=n) (a:=(aC 2 cF (ao (ak 0) (ao (ak 1) aq)))) (c:=c) (q:=(n:Int)) (λi=>.tup (nD ((θ n).map (s i)))) (θ n) η [] (λi hi=>by
  have:=Mr (by omega) (h.row i (akY.mp hi)) c
  generalize D.tup (nD ((θ n).map (s i)))=T at *
  generalize (n:Int)=q at *
  simp[this])
 have c2:bI (λ_=>True) (aA 0) aJ (aC 2 cF (ao (aC 2 gb (ao (ak 2) (ao (ak 0) aq))) (ao (ak 1) aq))) (bf 0 (n:Int)) [η,ζ (.int (n:Int)),ζ (aH n s)] [] c=.ok (((θ n).map λ_=>Ξ).map D.bl) c:=by
  have:=oq (c:=c) (g:=aA 0) (t:=aJ) (a:=(aC 2 cF (ao (aC 2 gb (ao (ak 2) (ao (ak 0) aq))) (ao (ak 1) aq)))) (λe=>∃v,e=[v,ζ (.int (n:Int)),ζ (aH n s)]) (λ_=>Ξ) (λ_=>.bl Ξ) (bf 0 (n:Int)) [η,ζ (.int (n:Int)),ζ (aH n s)] [] ⟨_,rfl⟩ (λd hd e ⟨v,he⟩=>by
   subst he;obtain⟨k',rfl,k0,k1⟩:=vz hd;obtain⟨k,rfl⟩:=vt k0;refine⟨_,rfl,⟨_,rfl⟩,rfl,λ_=>?_⟩
   have g1:=NW s (by omega) (show k<n by omega) c
   have g2:=Mr (by omega) (h.col k (by omega)) c
   show(aC 2 cF (ao (aC 2 gb (ao (ak 2) (ao (ak 0) aq))) (ao (ak 1) aq))) [ζ (.int (k:Int)),ζ (.int (n:Int)),ζ (aH n s)] c=_
   generalize aH n s=S at *
   generalize D.tup (nD ((θ n).map λi=>s i k))=T at *
   generalize (n:Int)=q at *
   simp[g1,g2])
  rw[this,alm,Nl,B0,alh];rfl
 rw[alm]at c1;exact Jg rfl (by simp) (by omega) (by simp;omega) (by rw[fG];omega) c1 (all_true _) c2 (all_true _)
theorem pA{E:List (Option D)}{a:af}{n:Nat}{c:aa}(F:Nat->D) (h:∀k:Nat,k<n->a (ζ (.int (k:Int))::E) c=.ok (F k) c):bI (λ_=>True) (aA 0) aJ a (bf 0 (n:Int)) (η::E) [] c=.ok ((θ n).map F) c:=by
 have:=oq (c:=c) (g:=aA 0) (t:=aJ) (a:=a) (λe=>∃v,e=v::E) (λ_=>Ξ) (λd=>match d with|.int k=>F k.toNat|d=>d) (bf 0 (n:Int)) (η::E) [] ⟨_,rfl⟩ (λd hd e ⟨v,he⟩=>by
  subst he;obtain⟨k',rfl,k0,k1⟩:=vz hd;obtain⟨k,rfl⟩:=vt k0;exact⟨_,rfl,⟨_,rfl⟩,rfl,λ_=>h k (by omega)⟩)
 rw[this,alm,Nl,B0]
 congr 1
def dS(n:Nat) (r:Nat->Nat->Nat) (i:Nat):List Nat:=(θ n).map (r i)
def jV(n:Nat) (r:Nat->Nat->Nat):D:=.lst ((θ n).map λi=>.lst (nD (dS n r i)))
theorem BX(n:Nat) (r:Nat->Nat->Nat) (i:Nat):((θ n).map λk=>D.int (r i k:Nat))=nD (dS n r i):=by simp[nD,dS]
theorem abB:∀n,n<8->∀b,b<7->cE ((θ n).map λi=>(b*i+0) % n)=θ n->(∀i,i<n->((θ n).map λk=>(b*i+k) % n).Perm (θ n))/\(∀k,k<n->((θ n).map λi=>(b*i+k) % n).Perm (θ n)):=by decide +kernel
theorem abA:∀n,n<8->(∀i,i<n->((θ n).map λk=>(i+k) % n).Perm (θ n))/\(∀k,k<n->((θ n).map λi=>(i+k) % n).Perm (θ n)):=by decide +kernel
def m8(i k:Nat):Nat:=(Builtin.bitXor (i:Int) (k:Int)).toNat
theorem Lz:(∀i,i<4->((θ 4).map (m8 i)).Perm (θ 4))/\(∀k,k<4->((θ 4).map λi=>m8 i k).Perm (θ 4)):=by decide +kernel
theorem QI:∀i:Nat,i<4->∀k:Nat,k<4->Builtin.bitXor (i:Int) (k:Int)=((m8 i k:Nat):Int):=by decide +kernel
def six:List (List Nat):=[[0,1,2,3,4,5],[1,0,3,2,5,4],[2,4,0,5,1,3],[3,5,1,4,0,2],[4,2,5,0,3,1],[5,3,4,1,2,0]]
def jb(i k:Nat):Nat:=(six.getD i []).getD k 0
theorem Ly:(∀i,i<6->((θ 6).map (jb i)).Perm (θ 6))/\(∀k,k<6->((θ 6).map λi=>jb i k).Perm (θ 6)):=by decide +kernel
theorem ahK{q i:Int}{l:List D}{c:aa}(b:-4611686018427387904<=q/\q<4611686018427387904) (hl:(bf 0 q).length<ι) (h:bI (λ_=>True) (aA 0) aJ (au m9 (ak 1) (ak 0)) (bf 0 q) [η,ζ (.int i)] [] c=.ok l c):(aT (aV (ao (ak 1) aq)) [η,ζ 0] (aA 0) aJ (au m9 (ak 1) (ak 0))) [ζ (.int i),ζ (.int q)] c=.ok (.lst l) c:=by
 have hp:cO [η,ζ 0] [ζ (.int i),ζ (.int q)]=[η,ζ (.int i)]:=rfl;simp only[dF,gr,bE,bJ,gz,gs,bK,R.aD];rw[if_pos (by omega)]
 simp only[R.aD];rw[if_pos hl,hp,h];rfl
theorem ahx{q b' i:Int}{l:List D}{c:aa}(b:-4611686018427387904<=q/\q<4611686018427387904) (hl:(bf 0 q).length<ι) (h:bI (λ_=>True) (aA 0) aJ (au bT (au aZ (au b8 (ak 2) (ak 3)) (ak 0)) (ak 1)) (bf 0 q) [η,ζ (.int q),ζ (.int b'),ζ (.int i)] [] c=.ok l c):(aT (aV (ao (ak 1) aq)) [η,ζ 1,ζ 2,ζ 0] (aA 0) aJ (au bT (au aZ (au b8 (ak 2) (ak 3)) (ak 0)) (ak 1))) [ζ (.int i),ζ (.int q),ζ (.int b')] c=.ok (.lst l) c:=by
 have hp:cO [η,ζ 1,ζ 2,ζ 0] [ζ (.int i),ζ (.int q),ζ (.int b')]=[η,ζ (.int q),ζ (.int b'),ζ (.int i)]:=rfl;simp only[dF,gr,bE,bJ,gz,gs,bK,R.aD];rw[if_pos (by omega)]
 simp only[R.aD];rw[if_pos hl,hp,h];rfl
def wF:af:=(aT (aV (ao (ak 1) aq)) [η,ζ 1,ζ 2,ζ 0] (aA 0) aJ (au bT (au aZ (au b8 (ak 2) (ak 3)) (ak 0)) (ak 1)))
def wH:af:=(aT (aV (ao (ak 1) aq)) [η,ζ 0] (aA 0) aJ (au m9 (ak 1) (ak 0)))
def pY:af:=(aT (aV (ao (ak 1) aq)) [η,ζ 1,ζ 0] (aA 0) aJ (au bT (au aZ (ak 2) (ak 0)) (ak 1)))
theorem ahJ{q:Int}{l:List D}{a0 a2 a3 a4 a5 a6:Option D}{c:aa}(b:-4611686018427387904<=q/\q<4611686018427387904) (hl:(bf 0 q).length<ι) (h:bI (λ_=>True) (aA 0) aJ wH (bf 0 q) [η,ζ (.int q)] [] c=.ok l c):(aG 2 (aT (aV (ao (ak 1) aq)) [η,ζ 1] (aA 0) aJ wH)) [a0,ζ (.int q),a2,a3,a4,a5,a6] c=.ok (.nx [a0,ζ (.int q),ζ (.lst l),a3,a4,a5,a6]) c:=by
 have hp:cO [η,ζ 1] [a0,ζ (.int q),a2,a3,a4,a5,a6]=[η,ζ (.int q)]:=rfl;simp only[fR,dF,gr,bE,bJ,gz,gs,bK,R.aD];rw[if_pos (by omega)]
 simp only[R.aD];rw[if_pos hl,hp,h];rfl
theorem ahs{q:Int}{l:List D}{a0 a2 a3 a4 a5 a6:Option D}{c:aa}(b:-4611686018427387904<=q/\q<4611686018427387904) (hl:(bf 0 q).length<ι) (h:bI (λ_=>True) (aA 0) aJ pY (bf 0 q) [η,ζ (.int q)] [] c=.ok l c):(aG 2 (aT (aV (ao (ak 1) aq)) [η,ζ 1] (aA 0) aJ pY)) [a0,ζ (.int q),a2,a3,a4,a5,a6] c=.ok (.nx [a0,ζ (.int q),ζ (.lst l),a3,a4,a5,a6]) c:=by
 have hp:cO [η,ζ 1] [a0,ζ (.int q),a2,a3,a4,a5,a6]=[η,ζ (.int q)]:=rfl;simp only[fR,dF,gr,bE,bJ,gz,gs,bK,R.aD];rw[if_pos (by omega)]
 simp only[R.aD];rw[if_pos hl,hp,h];rfl
theorem ahw{q b':Int}{l:List D}{a0 a2 a4 a5 a6:Option D}{c:aa}(b:-4611686018427387904<=q/\q<4611686018427387904) (hl:(bf 0 q).length<ι) (h:bI (λ_=>True) (aA 0) aJ wF (bf 0 q) [η,ζ (.int q),ζ (.int b')] [] c=.ok l c):(aG 2 (aT (aV (ao (ak 1) aq)) [η,ζ 1,ζ 3] (aA 0) aJ wF)) [a0,ζ (.int q),a2,ζ (.int b'),a4,a5,a6] c=.ok (.nx [a0,ζ (.int q),ζ (.lst l),ζ (.int b'),a4,a5,a6]) c:=by
 have hp:cO [η,ζ 1,ζ 3] [a0,ζ (.int q),a2,ζ (.int b'),a4,a5,a6]=[η,ζ (.int q),ζ (.int b')]:=rfl;simp only[fR,dF,gr,bE,bJ,gz,gs,bK,R.aD];rw[if_pos (by omega)]
 simp only[R.aD];rw[if_pos hl,hp,h];rfl
theorem aht{q i:Int}{l:List D}{c:aa}(b:-4611686018427387904<=q/\q<4611686018427387904) (hl:(bf 0 q).length<ι) (h:bI (λ_=>True) (aA 0) aJ (au bT (au aZ (ak 2) (ak 0)) (ak 1)) (bf 0 q) [η,ζ (.int q),ζ (.int i)] [] c=.ok l c):pY [ζ (.int i),ζ (.int q)] c=.ok (.lst l) c:=by
 have hp:cO [η,ζ 1,ζ 0] [ζ (.int i),ζ (.int q)]=[η,ζ (.int q),ζ (.int i)]:=rfl;unfold pY;simp only[dF,gr,bE,bJ,gz,gs,bK,R.aD];rw[if_pos (by omega)]
 simp only[R.aD];rw[if_pos hl,hp,h];rfl
theorem ahu{q b' i k z w:Int}{c:aa}(m1:b8 (.int b') (.int i) c=.ok (.int z) c) (m2:bT (.int (z+k)) (.int q) c=.ok (.int w) c):(au bT (au aZ (au b8 (ak 2) (ak 3)) (ak 0)) (ak 1)) [ζ (.int k),ζ (.int q),ζ (.int b'),ζ (.int i)] c=.ok (.int w) c:=by
 simp only[d9,bJ,gz,gs,R.aD,m1,oQ,m2]
theorem ahq{q i k w:Int}{c:aa}(m2:bT (.int (i+k)) (.int q) c=.ok (.int w) c):(au bT (au aZ (ak 2) (ak 0)) (ak 1)) [ζ (.int k),ζ (.int q),ζ (.int i)] c=.ok (.int w) c:=by
 simp only[d9,bJ,gz,gs,R.aD,oQ,m2]
theorem Lh{x q w:Int}(c:aa) (hq:0<q) (h:x % q=w):bT (.int x) (.int q) c=.ok (.int w) c:=by
 rw[jG c hq,h]
theorem aa2{x y w:Int}(c:aa) (h1:-1000<x) (h2:x<1000) (h:x*y=w):b8 (.int x) (.int y) c=.ok (.int w) c:=by
 rw[zb c (by omega) (by omega),h]
theorem ahv{n:Nat}(h1:1<=n) (h8:n<8) (c:aa) (b i:Nat) (hb:b<7):wF [ζ (.int (i:Int)),ζ (.int (n:Int)),ζ (.int (b:Int))] c=.ok (.lst (nD (dS n (λi k=>(b*i+k) % n) i))) c:=by
 have hs:=fy (n:=1000) (by decide)
 have hc:=pA (E:=[ζ (.int (n:Int)),ζ (.int (b:Int)),ζ (.int (i:Int))]) (a:=(au bT (au aZ (au b8 (ak 2) (ak 3)) (ak 0)) (ak 1))) (n:=n) (c:=c) (λk=>.int ((b*i+k) % n:Nat)) (λk hk =>
  ahu (z:=(b:Int)*(i:Int)) (aa2 c (by omega) (by omega) rfl) (Lh c (by omega) (by rw[apM,apN,Int.natCast_mul])))
 rw[BX n (λi k=>(b*i+k) % n)]at hc
 exact ahx (by omega) (by rw[fG];omega) hc
theorem ahr{n:Nat}(h1:1<=n) (h8:n<8) (c:aa) (i:Nat):pY [ζ (.int (i:Int)),ζ (.int (n:Int))] c=.ok (.lst (nD (dS n (λi k=>(i+k) % n) i))) c:=by
 have hs:=fy (n:=1000) (by decide)
 have hc:=pA (E:=[ζ (.int (n:Int)),ζ (.int (i:Int))]) (a:=(au bT (au aZ (ak 2) (ak 0)) (ak 1))) (n:=n) (c:=c) (λk=>.int ((i+k) % n:Nat)) (λk hk =>
  ahq (Lh c (by omega) (by rw[apM,apN])))
 rw[BX n (λi k=>(i+k) % n)]at hc
 exact aht (by omega) (by rw[fG];omega) hc
theorem ahI(i:Nat) (hi:i<4) (c:aa):wH [ζ (.int (i:Int)),ζ (.int ((4:Nat):Int))] c=.ok (.lst (nD (dS 4 m8 i))) c:=by
 have hs:=fy (n:=1000) (by decide)
 have hc:=pA (E:=[ζ (.int (i:Int))]) (a:=(au m9 (ak 1) (ak 0))) (n:=4) (c:=c) (λk=>.int (m8 i k:Nat)) (λk hk=>by
  have:=QI i hi k hk;simp only[d9,bJ,gz,gs,R.aD,QM,this])
 rw[BX 4 m8]at hc;exact ahK (by omega) (by rw[fG];omega) hc
theorem FY:∀a b:List Int,PyData.eqvAll (a.map PyData.int) (b.map PyData.int)=decide (a=b)
 |[],[]=>by simp[PyData.eqvAll]
 |[],b::bs=>by simp[PyData.eqvAll]
 |a::as,[]=>by simp[PyData.eqvAll]
 |a::as,b::bs=>by
  rw[ak2,ak2,PyData.eqvAll,FY as bs,PyData.eqv]
  by_cases h:a=b
  ·subst h;simp
  ·simp[h]
theorem afq(a:List Int):PyData.depthAll (a.map PyData.int)=0:=by
 induction a with
 |nil=>simp[PyData.depthAll]
 |cons x a ih=>simp[PyData.depthAll,PyData.depth,ih]
theorem NL:∀ns:List Int,fN (ns.map D.int)=ζ (ns.map PyData.int)
 |[]=>rfl
 |n::ns=>by
  have:=NL ns;simp[fN,d8,this]
theorem AE(as bs:List Int) (c:aa):Np (.lst (as.map D.int)) (.lst (bs.map D.int)) c=.ok (.bl (decide (as=bs))) c/\eG (.lst (as.map D.int)) (.lst (bs.map D.int)) c=.ok (.bl (!decide (as=bs))) c:=by
 have h:∀l:List Int,gg c (.lst (l.map D.int))=ζ (.list (l.map PyData.int)):=λl=>by
  show(match fN (l.map D.int)with|some r=>ζ (PyData.list r)|none=>η)=_
  rw[NL]
 have dp:∀l:List Int,(PyData.list (l.map PyData.int)).depth<=64:=λl=>by simp[PyData.depth,afq]
 refine⟨?_,?_⟩
 ·unfold Np;rw[h,h];dsimp only;rw[if_pos ⟨dp as,dp bs⟩,PyData.eqv,FY]
 ·unfold eG;rw[h,h];dsimp only;rw[if_pos ⟨dp as,dp bs⟩,PyData.eqv,FY]
def AV(l:List Nat):List Int:=l.map λk:Nat=>(k:Int)
theorem aaZ(l:List Nat):nD l=(AV l).map D.int:=sd l
theorem Nm{n:Nat}(h1:1<=n) (r:Nat->Nat->Nat) (c:aa):∀(l:List Nat) (v:Option D) (acc:List D),bI (λ_=>True) (aA 0) aJ (au aF (ak 0) (dC (.int 0))) (l.map λi=>.lst (nD (dS n r i))) [v] acc c=.ok (acc++nD (l.map λi=>r i 0)) c
 |[],v,acc=>by simp[nD]
 |i::l,v,acc=>by
  have g1:aA 0 (.lst (nD (dS n r i))) [v] c=.ok [ζ (.lst (nD (dS n r i)))] c:=rfl;have g2:aF (.lst (nD (dS n r i))) (.int 0) c=.ok (.int (r i 0:Nat)) c:=by
   rw[qv,show(0:Int)=((0:Nat):Int)from rfl,gQ (v:=.int (r i 0:Nat)) (by simp[nD,dS,alZ (show 0<n by omega)])]
  have hE:(au aF (ak 0) (dC (.int 0))) [ζ (.lst (nD (dS n r i)))] c=.ok (.int (r i 0:Nat)) c:=by
   generalize D.lst (nD (dS n r i))=T at *
   simp only[d9,bJ,oO,gz,R.aD,g2]
  rw[ak2,jP,g1,R.aD,kO,R.aD,if_pos rfl,hE,R.aD,Nm h1 r c l,alA];rfl
theorem af3{q:Int}{rows:List D}{ns:List Nat}{z:Bool}{a0 a3 a4 a5 a6:Option D}{c:aa}(b:0<q/\q<1000) (hl:rows.length<ι) (hc:bI (λ_=>True) (aA 0) aJ (au aF (ak 0) (dC (.int 0))) rows [η] [] c=.ok (nD ns) c) (hN:jF (nD ns)=ζ ns) (hq:eG (.lst (nD (cE ns))) (.lst ((bB 0 q).map D.int)) c=.ok (.bl z) c) :
  (aL (au eG (pV (ao (aT (gh (ak 2)) [η] (aA 0) aJ (au aF (ak 0) (dC (.int 0)))) aq)) (jo (ao (ak 1) aq)))) [a0,ζ (.int q),ζ (.lst rows),a3,a4,a5,a6] c=.ok z c:=by
 have hp:cO [η] [a0,ζ (.int q),ζ (.lst rows),a3,a4,a5,a6]=[η]:=rfl;have hd:gh (ak 2) [a0,ζ (.int q),ζ (.lst rows),a3,a4,a5,a6] c=.ok ⟨rows,λ_=>True⟩ c:=rfl
 have hS:pV (ao (aT (gh (ak 2)) [η] (aA 0) aJ (au aF (ak 0) (dC (.int 0)))) aq) [a0,ζ (.int q),ζ (.lst rows),a3,a4,a5,a6] c=.ok (.lst (nD (cE ns))) c:=by
  unfold pV;simp only[bE,dF,hd,bK,R.aD];rw[if_pos hl,hp,hc];simp only[R.aD,dW,hN]
 have hR:jo (ao (ak 1) aq) [a0,ζ (.int q),ζ (.lst rows),a3,a4,a5,a6] c=.ok (.lst ((bB 0 q).map D.int)) c:=by
  unfold jo;simp only[bE,bJ,gz,gs,bK,R.aD];rw[if_pos b]
 simp only[jx,d9,hS,hR,R.aD,hq]
theorem cast_inj{a b:List Nat}(h:AV a=AV b):a=b:=AW h
theorem UN(n:Nat):bB 0 (n:Int)=AV (θ n):=uV n
theorem aak(A:List Nat) (n:Nat) (c:aa):eG (.lst (nD A)) (.lst ((bB 0 (n:Int)).map D.int)) c=.ok (.bl (!decide (A=θ n))) c:=by
 rw[aaZ,(AE _ _ c).2,UN]
 congr 3
 exact decide_eq_decide.mpr ⟨cast_inj,λh=>by rw[h]⟩
theorem age{j:Nat}{q f x:Int}{a2 a3 a4 a5 a6:Option D}{c c1:aa}(hf:(if q-1>1 then q-1 else 1)=f) (t:b6 [.ref j,.int f] c=.ok (.int x) c1):(aG 3 (au aZ (dC (.int 1)) (aC 2 b6 (ao (ak 0) (ao (aB sj (ao (dC (.int 1)) (ao (au bS (ak 1) (dC (.int 1))) aq))) aq))))) [ζ (.ref j),ζ (.int q),a2,a3,a4,a5,a6] c=.ok (.nx [ζ (.ref j),ζ (.int q),a2,ζ (.int (1+x)),a4,a5,a6]) c1:=by
 simp only[fR,d9,oO,x_call,dG,bE,bJ,gz,gs,bK,R.aD,xy,QZ,hf,ak4,ali,if_pos,t,oQ];rfl
def AQ:ah:=aE (aG 3 (au aZ (dC (.int 1)) (aC 2 b6 (ao (ak 0) (ao (aB sj (ao (dC (.int 1)) (ao (au bS (ak 1) (dC (.int 1))) aq))) aq))))) (aE (aG 2 (aT (aV (ao (ak 1) aq)) [η,ζ 1,ζ 3] (aA 0) aJ wF)) (bq (aL (au eG (pV (ao (aT (gh (ak 2)) [η] (aA 0) aJ (au aF (ak 0) (dC (.int 0)))) aq)) (jo (ao (ak 1) aq)))) (aG 2 (aT (aV (ao (ak 1) aq)) [η,ζ 1] (aA 0) aJ pY)) br))
theorem NP{j m n:Nat}{c:aa}(hP:cV j m c) (h1:1<=n) (h8:n<8):∃r v3 c',eZ n r/\cV j m c'/\AQ [ζ (.ref j),ζ (.int (n:Int)),η,η,η,η,η] c=.ok (.nx [ζ (.ref j),ζ (.int (n:Int)),ζ (jV n r),v3,η,η,η]) c':=by
 have hs:=fy (n:=1000) (by decide)
 obtain⟨f,hf⟩:∃f:Int,(if(n:Int)-1>1 then(n:Int)-1 else 1)=f:=⟨_,rfl⟩
 have hf':0<f/\f<=6:=by split at hf<;>omega
 obtain⟨x,c1,x0,x1,P1,t1⟩:=iG (cN:=f) hP hf'.1 (by omega)
 obtain⟨b,hb⟩:=vt (i:=1+x) (by omega)
 have e1:=age (a2:=η) (a3:=η) (a4:=η) (a5:=η) (a6:=η) hf t1;rw[hb]at e1;have c2:=pA (E:=[ζ (.int (n:Int)),ζ (.int (b:Int))]) (a:=wF) (n:=n) (c:=c1) (λi=>.lst (nD (dS n (λi k=>(b*i+k) % n) i))) (λi _=>ahv h1 h8 c1 b i (by omega))
 have e2:=ahw (a0:=ζ (.ref j)) (a2:=η) (a4:=η) (a5:=η) (a6:=η) (by omega) (by rw[fG];omega) c2
 have hfc:=Nm h1 (λi k=>(b*i+k) % n) c1 (θ n) η []
 rw[alm]at hfc;have hN:jF (nD ((θ n).map λi=>(b*i+0) % n))=ζ ((θ n).map λi=>(b*i+0) % n):=Lf (by
  have:=CJ (yY (qx ((θ n).map λi=>(b*i+0) % n))) (λx hx=>nK.mp hx)
  rw[ak6,alN]at this;omega) (λx hx=>by
  obtain⟨i,_,rfl⟩:=akW.mp hx;have:=amz (b*i+0) (show 0<n by omega)
  omega)
 have hu:=af3 (a0:=ζ (.ref j)) (a3:=ζ (.int (b:Int))) (a4:=η) (a5:=η) (a6:=η) (by omega) (by rw[ak6,alN];omega) hfc hN (aak _ n c1)
 by_cases hk:cE ((θ n).map λi=>(b*i+0) % n)=θ n
 ·have hL:=abB n h8 b (by omega) hk
  refine⟨λi k=>(b*i+k) % n,ζ (.int (b:Int)),c1,⟨hL.1,hL.2⟩,P1,?_⟩
  unfold AQ;rw[bu e1,bu e2,gS,hu,R.aD,decide_eq_true hk];rfl
 ·have hL:=abA n h8;have c3:=pA (E:=[ζ (.int (n:Int))]) (a:=pY) (n:=n) (c:=c1) (λi=>.lst (nD (dS n (λi k=>(i+k) % n) i))) (λi _=>ahr h1 h8 c1 i)
  have e3:=ahs (a0:=ζ (.ref j)) (a2:=ζ (.lst ((θ n).map λi=>.lst (nD (dS n (λi k=>(b*i+k) % n) i))))) (a3:=ζ (.int (b:Int))) (a4:=η) (a5:=η) (a6:=η) (by omega) (by rw[fG];omega) c3
  refine⟨λi k=>(i+k) % n,ζ (.int (b:Int)),c1,⟨hL.1,hL.2⟩,P1,?_⟩
  unfold AQ;rw[bu e1,bu e2,gS,hu,R.aD,decide_eq_false hk,if_pos (by decide)]
  exact e3
def wz:ah:=bq (gB (aL (au cy (ak 1) (dC (.int 4)))) (aL (au cy (aC 2 b6 (ao (ak 0) (ao (dC (.int 2)) aq))) (dC (.int 0))))) (aG 2 (aT (aV (ao (ak 1) aq)) [η,ζ 1] (aA 0) aJ wH)) AQ
theorem af5{q:Int}{a0 a2 a3 a4 a5 a6:Option D}{c:aa}(h:¬q=4):(gB (aL (au cy (ak 1) (dC (.int 4)))) (aL (au cy (aC 2 b6 (ao (ak 0) (ao (dC (.int 2)) aq))) (dC (.int 0))))) [a0,ζ (.int q),a2,a3,a4,a5,a6] c=.ok ξ c:=by simp[h]
theorem af4{j:Nat}{x:Int}{a2 a3 a4 a5 a6:Option D}{c c1:aa}(t:b6 [.ref j,.int 2] c=.ok (.int x) c1):(gB (aL (au cy (ak 1) (dC (.int 4)))) (aL (au cy (aC 2 b6 (ao (ak 0) (ao (dC (.int 2)) aq))) (dC (.int 0))))) [ζ (.ref j),ζ (.int 4),a2,a3,a4,a5,a6] c=.ok (decide (x=0)) c1:=by simp[t]
theorem af9{j m n:Nat}{c:aa}(hP:cV j m c) (h1:1<=n) (h8:n<8):∃r v3 c',eZ n r/\cV j m c'/\wz [ζ (.ref j),ζ (.int (n:Int)),η,η,η,η,η] c=.ok (.nx [ζ (.ref j),ζ (.int (n:Int)),ζ (jV n r),v3,η,η,η]) c':=by
 have hs:=fy (n:=1000) (by decide)
 by_cases h4:(n:Int)=4
 ·have:n=4:=by omega
  subst this;obtain⟨x,c1,x0,x1,P1,t1⟩:=iG (cN:=2) hP (by decide) (by decide)
  have ht:=af4 (a2:=η) (a3:=η) (a4:=η) (a5:=η) (a6:=η) t1
  by_cases hx:x=0
  ·have c2:=pA (E:=[ζ (.int ((4:Nat):Int))]) (a:=wH) (n:=4) (c:=c1) (λi=>.lst (nD (dS 4 m8 i))) (λi hi=>ahI i hi c1)
   have e2:=ahJ (a0:=ζ (.ref j)) (a2:=η) (a3:=η) (a4:=η) (a5:=η) (a6:=η) (by omega) (by rw[fG];omega) c2
   refine⟨m8,η,c1,⟨Lz.1,Lz.2⟩,P1,?_⟩;unfold wz;rw[gS,show((4:Nat):Int)=4 from rfl,ht,R.aD,decide_eq_true hx,if_pos rfl]
   exact e2
  ·obtain⟨r,v3,c',hL,P',h⟩:=NP P1 h1 h8;refine⟨r,v3,c',hL,P',?_⟩;unfold wz;rw[gS,show((4:Nat):Int)=4 from rfl,ht,R.aD,decide_eq_false hx,if_neg (by decide)]
   exact h
 ·obtain⟨r,v3,c',hL,P',h⟩:=NP hP h1 h8;refine⟨r,v3,c',hL,P',?_⟩;unfold wz;rw[gS,af5 h4,R.aD,if_neg (by decide)]
  exact h
theorem sG{α:Type}{E:List (Option D)}{a:af}{c:aa}(g F:α->D):∀(l:List α) (v:Option D) (acc:List D),(∀x∈l,a (ζ (g x)::E) c=.ok (F x) c)->bI (λ_=>True) (aA 0) aJ a (l.map g) (v::E) acc c=.ok (acc++l.map F) c
 |[],v,acc,_=>by simp
 |x::l,v,acc,h=>by
  have h1:aA 0 (g x) (v::E) c=.ok (ζ (g x)::E) c:=rfl;rw[ak2,jP,h1,R.aD,kO,R.aD,if_pos rfl,h x (.head _),R.aD,sG g F l _ _ (λz hz=>h z (.tail _ hz)),alA]
  rfl
theorem pI(l:List Nat):nD l=l.map λk:Nat=>D.int (k:Int):=by simp[nD]
theorem u6{os:List Nat}{n x:Nat}(h:os.Perm (θ n)) (hx:x∈os):x<n:=akY.mp (h.mem_iff.mp hx)
theorem j3{os:List Nat}{n:Nat}(h:os.Perm (θ n)):os.length=n:=by have:=h.length_eq;simpa using this
theorem zd{α:Type}(os:List Nat) (f:Nat->α):os.map f=(θ os.length).map λi=>f (os.getD i 0):=by
 refine aou (by simp) λi h1 h2=>?_
 simp[alg];rw[ak7 (by simpa using h1)]
 rfl
theorem yk{os:List Nat}{n:Nat}(h:os.Perm (θ n)):((θ n).map λi=>os.getD i 0).Perm (θ n):=by
 have:=zd os id;rw[amA,j3 h]at this;exact(apE this.symm).trans h
theorem JD{os:List Nat}{n i:Nat}(h:os.Perm (θ n)) (hi:i<n):os.getD i 0<n:=by
 have:=j3 h;rw[alg,ak7 (by omega)]
 exact u6 h (alH _)
theorem eZ.lt{n:Nat}{r:Nat->Nat->Nat}(h:eZ n r) {i k:Nat}(hi:i<n) (hk:k<n):r i k<n:=u6 (h.row i hi) (akW.mpr ⟨k,akY.mpr hk,rfl⟩)
theorem eZ.rows{n:Nat}{r:Nat->Nat->Nat}(h:eZ n r) {os:List Nat}(ho:os.Perm (θ n)):eZ n λi k=>r (os.getD i 0) k:=by
 refine⟨λi hi=>h.row _ (JD ho hi),λk hk=>?_⟩
 have:=(yk ho).map λi=>r i k
 rw[alh]at this;exact this.trans (h.col k hk)
theorem eZ.cols{n:Nat}{r:Nat->Nat->Nat}(h:eZ n r) {os:List Nat}(ho:os.Perm (θ n)):eZ n λi k=>r i (os.getD k 0):=by
 refine⟨λi hi=>?_,λk hk=>h.col _ (JD ho hk)⟩
 have:=(yk ho).map λk=>r i k
 rw[alh]at this;exact this.trans (h.row i hi)
theorem eZ.names{n:Nat}{r:Nat->Nat->Nat}(h:eZ n r) {os:List Nat}(ho:os.Perm (θ n)):eZ n λi k=>os.getD (r i k) 0:=by
 refine⟨λi hi=>?_,λk hk=>?_⟩
 ·have:=(h.row i hi).map λi=>os.getD i 0
  rw[alh]at this;exact this.trans (yk ho)
 ·have:=(h.col k hk).map λi=>os.getD i 0
  rw[alh]at this;exact this.trans (yk ho)
theorem CC(n:Nat) (s:Nat->Nat->Nat):bO ((θ n).map λi=>D.tup (nD ((θ n).map (s i))))=Ξ:=iM.mpr λd hd=>by
 obtain⟨i,_,rfl⟩:=akW.mp hd;rw[JI];exact CD _
theorem Jf{n:Nat}{os:List Nat}{f:Nat->Nat->Nat}(ho:os.length=n):D.tup (os.map λi=>D.tup (nD ((θ n).map (f i))))=aH n λi k=>f (os.getD i 0) k:=by
 unfold aH;rw[zd,ho]
theorem af6{A B:D}{row col k v:Int}{r:D}{c:aa}(h1:aF B (.int row) c=.ok r c) (h2:aF r (.int col) c=.ok (.int k) c) (h3:aF A (.int k) c=.ok (.int v) c):(au aF (ak 1) (au aF (au aF (ak 2) (ak 3)) (ak 0))) [ζ (.int col),ζ A,ζ B,ζ (.int row)] c=.ok (.int v) c:=by
 simp only[d9,bJ,gz,gs,R.aD,h1,h2,h3]
theorem af7{A B:D}{cs l:List D}{row:Int}{c:aa}(hl:cs.length<ι) (h:bI (λ_=>True) (aA 0) aJ (au aF (ak 1) (au aF (au aF (ak 2) (ak 3)) (ak 0))) cs [η,ζ A,ζ B,ζ (.int row)] [] c=.ok l c):(aB cg (ao (aT (bD (ak 2)) [η,ζ 1,ζ 3,ζ 0] (aA 0) aJ (au aF (ak 1) (au aF (au aF (ak 2) (ak 3)) (ak 0)))) aq)) [ζ (.int row),ζ A,ζ (.tup cs),ζ B] c=.ok (.tup l) c:=by
 have hp:cO [η,ζ 1,ζ 3,ζ 0] [ζ (.int row),ζ A,ζ (.tup cs),ζ B]=[η,ζ A,ζ B,ζ (.int row)]:=rfl;have hd:bD (ak 2) [ζ (.int row),ζ A,ζ (.tup cs),ζ B] c=.ok ⟨cs,λ_=>True⟩ c:=rfl
 simp only[dG,bE,dF,hd,bK,R.aD];rw[if_pos hl,hp,h];rfl
def AR:af:=(aB cg (ao (aT (bD (ak 2)) [η,ζ 1,ζ 3,ζ 0] (aA 0) aJ (au aF (ak 1) (au aF (au aF (ak 2) (ak 3)) (ak 0)))) aq))
theorem aga{A B C:D}{os l:List D}{a0 a1 a3:Option D}{c:aa}(hl:os.length<ι) (h:bI (λ_=>True) (aA 0) aJ AR os [η,ζ A,ζ C,ζ B] [] c=.ok l c):(aK (aB cg (ao (aT (bD (ak 4)) [η,ζ 5,ζ 6,ζ 2] (aA 0) aJ (aB cg (ao (aT (bD (ak 2)) [η,ζ 1,ζ 3,ζ 0] (aA 0) aJ (au aF (ak 1) (au aF (au aF (ak 2) (ak 3)) (ak 0)))) aq))) aq))) [a0,a1,ζ B,a3,ζ (.tup os),ζ A,ζ C] c=.ok (.rt (.tup l)) c:=by
 have hp:cO [η,ζ 5,ζ 6,ζ 2] [a0,a1,ζ B,a3,ζ (.tup os),ζ A,ζ C]=[η,ζ A,ζ C,ζ B]:=rfl;have hd:bD (ak 4) [a0,a1,ζ B,a3,ζ (.tup os),ζ A,ζ C] c=.ok ⟨os,λ_=>True⟩ c:=rfl
 unfold AR at h;simp only[jw,dG,bE,dF,hd,bK,R.aD];rw[if_pos hl,hp,h];rfl
section
variable {j:Nat}{q:Int}{T:D}{c c':aa}(a2 a3 a4 a5 a6:Option D)
theorem agd(h:fJ [.ref j,.int q] c=.ok T c'):(aG 4 (aC 2 fJ (ao (ak 0) (ao (ak 1) aq)))) [ζ (.ref j),ζ (.int q),a2,a3,a4,a5,a6] c=.ok (.nx [ζ (.ref j),ζ (.int q),a2,a3,ζ T,a5,a6]) c':=by
 simp only[fR,x_call,bE,bJ,gz,gs,bK,R.aD,ak4,ali,if_pos,h];rfl
theorem agc(h:fJ [.ref j,.int q] c=.ok T c'):(aG 5 (aC 2 fJ (ao (ak 0) (ao (ak 1) aq)))) [ζ (.ref j),ζ (.int q),a2,a3,a4,a5,a6] c=.ok (.nx [ζ (.ref j),ζ (.int q),a2,a3,a4,ζ T,a6]) c':=by
 simp only[fR,x_call,bE,bJ,gz,gs,bK,R.aD,ak4,ali,if_pos,h];rfl
theorem agb(h:fJ [.ref j,.int q] c=.ok T c'):(aG 6 (aC 2 fJ (ao (ak 0) (ao (ak 1) aq)))) [ζ (.ref j),ζ (.int q),a2,a3,a4,a5,a6] c=.ok (.nx [ζ (.ref j),ζ (.int q),a2,a3,a4,a5,ζ T]) c':=by
 simp only[fR,x_call,bE,bJ,gz,gs,bK,R.aD,ak4,ali,if_pos,h];rfl
end
theorem RL{n:Nat}(r:Nat->Nat->Nat) {i:Nat}(hi:i<n) (c:aa):aF (jV n r) (.int (i:Int)) c=.ok (.lst (nD (dS n r i))) c:=by
 unfold jV;rw[qv,gQ (v:=.lst (nD (dS n r i))) (by simp[hi])]
theorem UK{n:Nat}(r:Nat->Nat->Nat) (i:Nat) {k:Nat}(hk:k<n) (c:aa):aF (.lst (nD (dS n r i))) (.int (k:Int)) c=.ok (.int (r i k:Nat)) c:=by
 rw[qv,gQ (v:=.int (r i k:Nat)) (by simp[nD,dS,hk])]
theorem XO{os:List Nat}{k:Nat}(hk:k<os.length) (c:aa):aF (.tup (nD os)) (.int (k:Int)) c=.ok (.int (os.getD k 0:Nat)) c:=by
 rw[xD,gQ (v:=.int (os.getD k 0:Nat)) (by simp[nD,hk,alg])]
theorem af8{n:Nat}{r:Nat->Nat->Nat}(hL:eZ n r) (h8:n<8) {os ns cs:List Nat}(ho:os.Perm (θ n)) (hn:ns.Perm (θ n)) (hc:cs.Perm (θ n)) (c:aa) :
  bI (λ_=>True) (aA 0) aJ AR (nD os) [η,ζ (.tup (nD ns)),ζ (.tup (nD cs)),ζ (jV n r)] [] c=.ok (os.map λi=>D.tup (nD ((θ n).map λk=>ns.getD (r i (cs.getD k 0)) 0))) c:=by
 have hs:=fy (n:=1000) (by decide)
 have:=sG (E:=[ζ (.tup (nD ns)),ζ (.tup (nD cs)),ζ (jV n r)]) (a:=AR) (c:=c) (λk:Nat=>D.int (k:Int)) (λi=>D.tup (nD ((θ n).map λk=>ns.getD (r i (cs.getD k 0)) 0))) os η [] (λi hi=>by
  have hin:=u6 ho hi;have h2:=sG (E:=[ζ (.tup (nD ns)),ζ (jV n r),ζ (.int (i:Int))]) (a:=(au aF (ak 1) (au aF (au aF (ak 2) (ak 3)) (ak 0)))) (c:=c) (λk:Nat=>D.int (k:Int)) (λk=>D.int (ns.getD (r i k) 0:Nat)) cs η [] (λk hk=>by
   have hkn:=u6 hc hk;have h3:=hL.lt hin hkn;exact af6 (RL r hin c) (UK r i hkn c) (XO (by rw[j3 hn];exact h3) c))
  rw[alm,<-pI]at h2;have e:(cs.map λk=>D.int (ns.getD (r i k) 0:Nat))=nD ((θ n).map λk=>ns.getD (r i (cs.getD k 0)) 0):=by
   rw[zd,j3 hc,pI,alh];rfl
  rw[e]at h2;exact af7 (by rw[pI,ak6,j3 hc];omega) h2)
 rw[alm,<-pI]at this;exact this
theorem NO{j m n:Nat}{c:aa}(hP:cV j m c) (h1:1<=n) (h8:n<8):∃s c',eZ n s/\cV j m c'/\pK [.ref j,.int (n:Int)] c=.ok (aH n s) c':=by
 have hs:=fy (n:=1000) (by decide)
 obtain⟨r,v3,c1,hL,P1,e1⟩:=af9 hP h1 h8;obtain⟨os,c2,ho,P2,o2⟩:=Cj P1 h1 (show n<1000 by omega)
 obtain⟨ns,c3,hn,P3,o3⟩:=Cj P2 h1 (show n<1000 by omega)
 obtain⟨cs,c4,hc,P4,o4⟩:=Cj P3 h1 (show n<1000 by omega)
 have e2:=agd (ζ (jV n r)) v3 η η η o2;have e3:=agc (ζ (jV n r)) v3 (ζ (.tup (nD os))) η η o3;have e4:=agb (ζ (jV n r)) v3 (ζ (.tup (nD os))) (ζ (.tup (nD ns))) η o4;have e5:=aga (a0:=ζ (.ref j)) (a1:=ζ (.int (n:Int))) (a3:=v3) (by rw[pI,ak6,j3 ho];omega) (af8 hL h8 ho hn hc c4)
 refine⟨λi k=>ns.getD (r (os.getD i 0) (cs.getD k 0)) 0,c4,((hL.rows ho).cols hc).names hn,P4,?_⟩
 have hb:uh=aE wz (aE (aG 4 (aC 2 fJ (ao (ak 0) (ao (ak 1) aq)))) (aE (aG 5 (aC 2 fJ (ao (ak 0) (ao (ak 1) aq)))) (aE (aG 6 (aC 2 fJ (ao (ak 0) (ao (ak 1) aq)))) (aK (aB cg (ao (aT (bD (ak 4)) [η,ζ 5,ζ 6,ζ 2] (aA 0) aJ (aB cg (ao (aT (bD (ak 2)) [η,ζ 1,ζ 3,ζ 0] (aA 0) aJ (au aF (ak 1) (au aF (au aF (ak 2) (ak 3)) (ak 0)))) aq))) aq)))))):=rfl;have es:dH 7 [D.ref j,.int (n:Int)]=[ζ (.ref j),ζ (.int (n:Int)),η,η,η,η,η]:=rfl;have hq:D.tup (os.map λi=>D.tup (nD ((θ n).map λk=>ns.getD (r i (cs.getD k 0)) 0)))=aH n λi k=>ns.getD (r (os.getD i 0) (cs.getD k 0)) 0:=Jf (f:=λi k=>ns.getD (r i (cs.getD k 0)) 0) (j3 ho)
 rw[pK,fu,hb,es,bu e1,bu e2,bu e3,bu e4,e5,hq];simp only[R.aD];unfold aH;rw[uX,if_pos (CC n _),amR (by rw[P4.1,hP.1];exact akT _)]
theorem Sk{a0 a2:Option D}{c:aa}:(aG 1 (eV (ao (bH (fk [0,1,2,3,4,5])) (ao (bH (fk [1,0,3,2,5,4])) (ao (bH (fk [2,4,0,5,1,3])) (ao (bH (fk [3,5,1,4,0,2])) (ao (bH (fk [4,2,5,0,3,1])) aq))))))) [a0,η,a2] c=.ok (.nx [a0,ζ (.ref c.length),a2]) (c++[.lst ((six.take 5).map λl=>D.lst (nD l))]):=by
 simp[six,nD]
theorem Sj{a0 a2:Option D}{c:aa}:(dR (fm (ak 1) (bH (fk [5,3,4,1,2,0])))) [a0,ζ (.ref c.length),a2] (c++[.lst ((six.take 5).map λl=>D.lst (nD l))])=.ok (.nx [a0,ζ (.ref c.length),a2]) (c++[.lst ((six.take 5).map (λl=>D.lst (nD l))++[D.lst (nD [5,3,4,1,2,0])])]):=by
 have h:=A1 (dO:=ak 1) (da:=bH (fk [5,3,4,1,2,0])) (e:=[a0,ζ (.ref c.length),a2]) (c:=c) (acc:=(six.take 5).map λl=>D.lst (nD l)) (y:=D.lst (nD [5,3,4,1,2,0])) (by simp) (by simp[nD]) (by simp[nD]) (by simp[six])
 simp only[nc,h,R.aD]
theorem T4:(six.take 5).map (λl=>D.lst (nD l))++[D.lst (nD [5,3,4,1,2,0])]=(θ 6).map λi=>D.lst (nD (dS 6 jb i)):=by
 simp[six,dS,jb,nD,amg]
theorem Si{j:Nat}{T:D}{a1 a2:Option D}{c c':aa}(h:fJ [.ref j,.int 6] c=.ok T c'):(aG 2 (aC 2 fJ (ao (ak 0) (ao (dC (.int 6)) aq)))) [ζ (.ref j),a1,a2] c=.ok (.nx [ζ (.ref j),a1,ζ T]) c':=by
 simp only[fR,x_call,bE,bJ,oO,gz,gs,bK,R.aD,ak4,ali,if_pos,h];rfl
theorem Sg{k:Nat}{i:Int}{l r:List D}{c:aa}(hk:c[k]? = ζ (.lst l)) (hi:cJ l i=ζ (.lst r)):(aB cg (ao (au aF (ak 1) (ak 0)) aq)) [ζ (.int i),ζ (.ref k)] c=.ok (.tup r) c:=by
 have:aF (.ref k) (.int i) c=.ok (.lst r) c:=by
  unfold aF;dsimp only[gw];rw[hk];dsimp only;rw[hi]
 simp only[dG,bE,d9,bJ,gz,gs,bK,R.aD,this];rfl
theorem Sh{k:Nat}{os l:List D}{a0:Option D}{c:aa}(hl:os.length<ι) (h:bI (λ_=>True) (aA 0) aJ (aB cg (ao (au aF (ak 1) (ak 0)) aq)) os [η,ζ (.ref k)] [] c=.ok l c):(aK (aB cg (ao (aT (bD (ak 2)) [η,ζ 1] (aA 0) aJ (aB cg (ao (au aF (ak 1) (ak 0)) aq))) aq))) [a0,ζ (.ref k),ζ (.tup os)] c=.ok (.rt (.tup l)) c:=by
 have hp:cO [η,ζ 1] [a0,ζ (.ref k),ζ (.tup os)]=[η,ζ (.ref k)]:=rfl;have hd:bD (ak 2) [a0,ζ (.ref k),ζ (.tup os)] c=.ok ⟨os,λ_=>True⟩ c:=rfl
 simp only[jw,dG,bE,dF,hd,bK,R.aD];rw[if_pos hl,hp,h];rfl
theorem T5{j m:Nat}{c:aa}(hP:cV j m c):∃s c',eZ 6 s/\cV j m c'/\k8 [.ref j] c=.ok (aH 6 s) c':=by
 have hs:=fy (n:=1000) (by decide)
 obtain⟨hl,hj,p,hp⟩:=id hP;have e0:=Sk (a0:=ζ (.ref j)) (a2:=η) (c:=c);have e1:=Sj (a0:=ζ (.ref j)) (a2:=η) (c:=c);rw[T4]at e1;have P0:cV j (c.length+1) (c++[.lst ((θ 6).map λi=>D.lst (nD (dS 6 jb i)))]):=⟨by simp,by omega,p,by rw[alL (by omega)];exact hp⟩
 obtain⟨os,c2,ho,P2,f2,o2⟩:=J9 P0 (by decide) (show 6<1000 by decide)
 have g4:c2[c.length]? = ζ (.lst ((θ 6).map λi=>D.lst (nD (dS 6 jb i)))):=by rw[f2 c.length (by omega) (by omega)];simp
 have e2:=Si (a1:=ζ (.ref c.length)) (a2:=η) o2;have hc:=sG (E:=[ζ (.ref c.length)]) (a:=(aB cg (ao (au aF (ak 1) (ak 0)) aq))) (c:=c2) (λk:Nat=>D.int (k:Int)) (λi=>D.tup (nD (dS 6 jb i))) os η [] (λi hi=>Sg g4 (gQ (by simp[u6 ho hi])))
 rw[alm,<-pI]at hc;have e3:=Sh (a0:=ζ (.ref j)) (by rw[pI,ak6,j3 ho];omega) hc
 have hL:eZ 6 jb:=⟨Ly.1,Ly.2⟩;obtain⟨g1,g2,p2,g3⟩:=P2;refine⟨λi k=>jb (os.getD i 0) k,c2.take c.length,hL.rows ho,⟨by rw[al2];omega,hj,p2,by rw[ano (by omega)];exact g3⟩,?_⟩
 have hb:tZ=aE (aG 1 (eV (ao (bH (fk [0,1,2,3,4,5])) (ao (bH (fk [1,0,3,2,5,4])) (ao (bH (fk [2,4,0,5,1,3])) (ao (bH (fk [3,5,1,4,0,2])) (ao (bH (fk [4,2,5,0,3,1])) aq))))))) (aE (dR (fm (ak 1) (bH (fk [5,3,4,1,2,0])))) (aE (aG 2 (aC 2 fJ (ao (ak 0) (ao (dC (.int 6)) aq)))) (aK (aB cg (ao (aT (bD (ak 2)) [η,ζ 1] (aA 0) aJ (aB cg (ao (au aF (ak 1) (ak 0)) aq))) aq))))):=rfl;have es:dH 3 [D.ref j]=[ζ (.ref j),η,η]:=rfl;have hq:D.tup (os.map λi=>D.tup (nD (dS 6 jb i)))=aH 6 λi k=>jb (os.getD i 0) k:=Jf (f:=jb) (j3 ho)
 rw[k8,fu,hb,es,bu e0,bu e1,bu e2,e3,hq];simp only[R.aD];unfold aH;rw[uX,if_pos (CC 6 _)]
theorem abf{j:Nat}{T:D}{a0:Option D}{c c1 c2:aa}(t:b6 [.ref j,.int 2] c=.ok (.int 0) c1) (h:k8 [.ref j] c1=.ok T c2):(bq (gB (aL (au cy (ak 1) (dC (.int 6)))) (aL (au cy (aC 2 b6 (ao (ak 0) (ao (dC (.int 2)) aq))) (dC (.int 0))))) (aK (aC 1 k8 (ao (ak 0) aq))) br) [ζ (.ref j),ζ (.int 6)] c=.ok (.rt T) c2:=by
 simp[t,h]
theorem abg{j:Nat}{x:Int}{c c1:aa}(t:b6 [.ref j,.int 2] c=.ok (.int x) c1) (hx:¬x=0):(bq (gB (aL (au cy (ak 1) (dC (.int 6)))) (aL (au cy (aC 2 b6 (ao (ak 0) (ao (dC (.int 2)) aq))) (dC (.int 0))))) (aK (aC 1 k8 (ao (ak 0) aq))) br) [ζ (.ref j),ζ (.int 6)] c=.ok (.nx [ζ (.ref j),ζ (.int 6)]) c1:=by
 simp[t,hx]
theorem abh{j:Nat}{q:Int}{c:aa}(hq:¬q=6):(bq (gB (aL (au cy (ak 1) (dC (.int 6)))) (aL (au cy (aC 2 b6 (ao (ak 0) (ao (dC (.int 2)) aq))) (dC (.int 0))))) (aK (aC 1 k8 (ao (ak 0) aq))) br) [ζ (.ref j),ζ (.int q)] c=.ok (.nx [ζ (.ref j),ζ (.int q)]) c:=by
 simp[hq]
theorem Ln{j:Nat}{q:Int}{T:D}{c c':aa}(h:pK [.ref j,.int q] c=.ok T c'):(aK (aC 2 pK (ao (ak 0) (ao (ak 1) aq)))) [ζ (.ref j),ζ (.int q)] c=.ok (.rt T) c':=by
 simp[h]
theorem afo{j m n:Nat}{c:aa}(hP:cV j m c) (h1:1<=n) (h8:n<8):∃s c',eZ n s/\cV j m c'/\j8 [.ref j,.int (n:Int)] c=.ok (aH n s) c':=by
 have hb:tY=aE (bq (gB (aL (au cy (ak 1) (dC (.int 6)))) (aL (au cy (aC 2 b6 (ao (ak 0) (ao (dC (.int 2)) aq))) (dC (.int 0))))) (aK (aC 1 k8 (ao (ak 0) aq))) br) (aK (aC 2 pK (ao (ak 0) (ao (ak 1) aq)))):=rfl;have es:dH 2 [D.ref j,.int (n:Int)]=[ζ (.ref j),ζ (.int (n:Int))]:=rfl;have fin:∀{c'}{s:Nat->Nat->Nat},cV j m c'->dX ξ c.length (aH n s) c'=.ok (aH n s) c':=fun{c' s} P'=>by
  unfold aH;rw[uX,if_pos (CC n _),amR (by rw[P'.1,hP.1];exact akT _)]
 by_cases h6:(n:Int)=6
 ·have:n=6:=by omega
  subst this;obtain⟨x,c1,x0,x1,P1,t1⟩:=iG (cN:=2) hP (by decide) (by decide)
  by_cases hx:x=0
  ·subst hx;obtain⟨s,c2,hL,P2,h2⟩:=T5 P1;refine⟨s,c2,hL,P2,?_⟩;have e:=abf (a0:=η) t1 h2;rw[j8,fu,hb,es,show((6:Nat):Int)=6 from rfl,qz e]
   exact fin P2
  ·obtain⟨s,c2,hL,P2,h2⟩:=NO P1 h1 h8;refine⟨s,c2,hL,P2,?_⟩;have e:=abg t1 hx;rw[show((6:Nat):Int)=6 from rfl]at h2
   rw[j8,fu,hb,es,show((6:Nat):Int)=6 from rfl,bu e,Ln h2]
   exact fin P2
 ·obtain⟨s,c2,hL,P2,h2⟩:=NO hP h1 h8;refine⟨s,c2,hL,P2,?_⟩;rw[j8,fu,hb,es,bu (abh h6),Ln h2];exact fin P2
end Ev
namespace Fq
def bV(p:Int):Nat->Int->List Int
 |0,_=>[]
 |n+1,x=>x % p::bV p n (x/p)
def fL(p:Int):List Int->Int
 |[]=>0
 |d::r=>fL p r*p+d % p
def C0:List Int->Int
 |[]=>0
 |[a]=>a
 |_::b::r=>C0 (b::r)
def IK(low row:List Int):List Int:=List.zipWith (λb d=>b-C0 row*d) (0::row) low
def mulR(low ry:List Int):List Int->List Int
 |[]=>ry.map λ_=>0
 |d::rx=>List.zipWith (λa b=>a+d*b) (IK low (mulR low ry rx)) ry
def uv(p:Int) (n:Nat) (x y:Int):Int:=fL p (List.zipWith (· + ·) (bV p n x) (bV p n y))
def CO(p:Int) (n:Nat) (low x y:Int):Int:=fL p (mulR (bV p n low) (bV p n y) (bV p n x))
theorem KC(p:Int):∀r:List Int,fL p (r.map (· % p))=fL p r
 |[]=>rfl
 |d::r=>by simp only[ak2,fL,KC p r,Int.emod_emod_of_dvd _ (Int.dvd_refl p)]
theorem KA{p:Int}(hp:0<p):∀r:List Int,0<=fL p r
 |[]=>aoL 0
 |d::r=>by
  have h1:=KA hp r;have h2:=amP d (Int.ne_of_gt hp);have h3:=Int.mul_nonneg h1 (Int.le_of_lt hp);simp only[fL];omega
theorem KD{p:Int}(hp:0<p):∀r:List Int,fL p r<p^r.length
 |[]=>by simp[fL]
 |d::r=>by
  have h1:=KD hp r;have h2:=amQ d hp;simp only[fL,ak4,aoN];have h3:(fL p r+1)*p<=p^r.length*p:=Int.mul_le_mul_of_nonneg_right (by omega) (Int.le_of_lt hp)
  have h4:(fL p r+1)*p=fL p r*p+p:=by rw[Int.add_mul,Int.one_mul]
  omega
theorem iI(p:Int):∀(n:Nat) (x:Int),(bV p n x).length=n
 |0,_=>rfl
 |n+1,x=>by simp[bV,iI p n]
theorem HY{f:Int->Int->Int}{p:Int}{n:Nat}{x y:Int}:(List.zipWith f (bV p n x) (bV p n y)).length=n:=by simp[iI]
section
variable {p:Int}(hp:0<p) {n:Nat}
include hp
theorem aiO(x y:Int):0<=uv p n x y:=KA hp _
theorem aiP(x y:Int):uv p n x y<p^n:=by
 have:=KD hp (List.zipWith (· + ·) (bV p n x) (bV p n y))
 rwa[HY]at this
end
structure Fd where
 q:Nat
 p:Nat
 n:Nat
 low:Nat
 g:Nat
 E:List Nat
 L:List Nat
def cR:List Fd:=[⟨2,2,1,0,1,[1],[0,0]⟩,
 ⟨3,3,1,0,2,[1,2],[0,0,1]⟩,
 ⟨4,2,2,3,2,[1,2,3],[0,0,1,2]⟩,
 ⟨5,5,1,0,2,[1,2,4,3],[0,0,1,3,2]⟩,
 ⟨7,7,1,0,3,[1,3,2,6,4,5],[0,0,2,1,4,5,3]⟩]
def er:List Nat->Nat->Nat
 |[],_=>0
 |a::_,0=>a
 |_::l,i+1=>er l i
def mI(f:Fd) (x y:Nat):Int:=CO f.p f.n f.low x y
def aI(f:Fd) (x y:Nat):Int:=uv f.p f.n x y
def M(f:Fd) (x y:Nat):Nat:=if x=0\/y=0 then 0 else er f.E ((er f.L x+er f.L y) % (f.q-1))
def Mk(f:Fd) (x y:Nat):Nat:=cond (Nat.beq x 0||Nat.beq y 0) 0 (er f.E ((er f.L x+er f.L y) % (f.q-1)))
theorem wX(f:Fd) (x y:Nat):Mk f x y=M f x y:=by
 unfold Mk M
 by_cases h:x=0\/y=0
 ·rw[if_pos h]
  rcases h with h|h<;>subst h<;>simp
 ·rw[if_neg h];rw[not_or]at h;have h1:Nat.beq x 0=ξ:=by cases x with|zero=>exact absurd rfl h.1|succ _=>rfl
  have h2:Nat.beq y 0=ξ:=by cases y with|zero=>exact absurd rfl h.2|succ _=>rfl
  rw[h1,h2];rfl
def Em(i:Int) (k:Nat):Bool:=match i with
 |.ofNat m=>Nat.beq m k
 |.negSucc _=>ξ
theorem LR{i:Int}{k:Nat}(h:Em i k=Ξ):i=k:=by
 cases i with
 |ofNat m=>have:m=k:=apO h;subst this;rfl
 |negSucc _=>cases h
def ahg(f:Fd):Bool:=(θ f.q).all λx=>(θ f.q).all λy=>Em (mI f x y) (Mk f x y)
def ahj(f:Fd):Bool:=(θ f.q).all λx=>(θ f.q).all λy=>Nat.beq (Mk f f.g (aI f x y).toNat) (aI f (Mk f f.g x) (Mk f f.g y)).toNat
def ahi(f:Fd):Bool:=(θ (f.q-1)).all λi=>Nat.beq (er f.L (er f.E i)) i && !Nat.beq (er f.E i) 0&&Nat.ble (er f.E i+1) f.q
def ahh(f:Fd):Bool:=(θ f.q).all λx=>Nat.beq x 0||(Nat.beq (er f.E (er f.L x)) x&&Nat.ble (er f.L x+1) (f.q-1))
def N3(f:Fd):Bool:=Nat.ble 2 f.q&&Nat.beq (f.p^f.n) f.q&&Nat.beq (er f.E 0) 1&&Nat.ble 2 f.p&&Nat.ble f.p 47&&Nat.ble 1 f.n&&Nat.ble f.n 5&&Nat.beq (er f.E (1 % (f.q-1))) f.g&&Nat.ble (f.low+1) f.q&&Nat.ble 1 f.g&&Nat.ble (f.g+1) f.q
theorem aiE:cR.all ahg=Ξ:=by decide +kernel
theorem aiI:cR.all ahj=Ξ:=by decide +kernel
theorem aiH:cR.all ahi=Ξ:=by decide +kernel
theorem aiF:cR.all ahh=Ξ:=by decide +kernel
theorem aiD:cR.all N3=Ξ:=by decide +kernel
theorem bl{a b:Nat}(h:Nat.ble a b=Ξ):a<=b:=alI h
theorem be{a b:Nat}(h:Nat.beq a b=Ξ):a=b:=apO h
structure Is (f:Fd):Prop where
 q2:2<=f.q
 pn:f.p^f.n=f.q
 e0:er f.E 0=1
 p2:2<=f.p
 j6:f.p<=47
 n1:1<=f.n
 n5:f.n<=5
 eg:er f.E (1 % (f.q-1))=f.g
 lo:f.low<f.q
 g1:1<=f.g
 gq:f.g<f.q
 le:∀i,i<f.q-1->er f.L (er f.E i)=i/\er f.E i≠0/\er f.E i<f.q
 el:∀x,x<f.q->x≠0->er f.E (er f.L x)=x/\er f.L x<f.q-1
 mm:∀x y,x<f.q->y<f.q->mI f x y=(M f x y:Nat)
 dd:∀x y,x<f.q->y<f.q->M f f.g (aI f x y).toNat=(aI f (M f f.g x) (M f f.g y)).toNat
theorem iO{f:Fd}(h:f∈cR):Is f:=by
 have hM:=ak0.mp aiE f h;have hD:=ak0.mp aiI f h;have hE:=ak0.mp aiH f h;have hL:=ak0.mp aiF f h;have hO:=ak0.mp aiD f h;simp only[N3,ak9]at hO;obtain⟨⟨⟨⟨⟨⟨⟨⟨⟨⟨o1,o2⟩,o3⟩,o4⟩,o5⟩,o6⟩,o7⟩,o8⟩,o9⟩,Z4⟩,Z3⟩:=hO;refine⟨bl o1,be o2,be o3,bl o4,bl o5,bl o6,bl o7,be o8,bl o9,bl Z4,bl Z3,λi hi=>?_,λx hx h0=>?_,λx y hx hy=>?_,λx y hx hy=>?_⟩
 ·have:=ak0.mp hE i (akY.mpr hi);simp only[ak9,apo]at this;exact⟨be this.1.1,λz=>by rw[z]at this;simp at this,bl this.2⟩
 ·have:=ak0.mp hL x (akY.mpr hx);simp only[am0,ak9]at this
  rcases this with this|this
  ·exact absurd (be this) h0
  ·exact⟨be this.1,bl this.2⟩
 ·have:=ak0.mp (ak0.mp hM x (akY.mpr hx)) y (akY.mpr hy);rw[LR this,wX]
 ·have:=ak0.mp (ak0.mp hD x (akY.mpr hx)) y (akY.mpr hy);have:=be this
  rwa[wX,wX,wX]at this
section
variable {f:Fd}(I:Is f)
include I
theorem Is.pp:(0:Int)<f.p:=by have:=I.p2;omega
theorem Is.pw:((f.p:Int))^f.n=(f.q:Int):=by rw[<-I.pn];simp
end
def P(f:Fd) (x:Nat):Nat->Nat
 |0=>1
 |k+1=>M f (P f x k) x
section
variable {f:Fd}(I:Is f)
include I
theorem aiV(x y:Nat):((aI f x y).toNat:Int)=aI f x y/\(aI f x y).toNat<f.q:=by
 have h1:=aiO I.pp (n:=f.n) (x:Int) y;have h2:=aiP I.pp (n:=f.n) (x:Int) y;rw[I.pw]at h2;unfold aI;omega
end
end Fq
namespace Ev
open PySem L2 Fq
theorem BY{p:Int}(hp:0<p):∀(n:Nat) (x:Int),∀d∈bV p n x,0<=d/\d<p
 |0,x,d,h=>by cases h
 |n+1,x,d,h=>by
  rcases akV.mp h with rfl|h
  ·exact⟨amP _ (by omega),amQ _ hp⟩
  ·exact BY hp n _ d h
def zk:ah:=(aE (dR (fm (ak 3) (au bT (ak 0) (ak 1)))) (aG 0 (au gO (ak 0) (ak 1))))
theorem abi{c:aa}{a2 v4:Option D}{p left:Int}{acc:List D}(hp:0<p) (eO:p<1000) (ha:acc.length<1000):zk [ζ (.int left),ζ (.int p),a2,ζ (.ref c.length),v4] (c++[.lst acc]) =
  .ok (.nx [ζ (.int (left/p)),ζ (.int p),a2,ζ (.ref c.length),v4]) (c++[.lst (acc++[.int (left % p)])]):=by
 have h:=A1 (c:=c) (acc:=acc) (y:=.int (left % p)) (dO:=ak 3) (da:=au bT (ak 0) (ak 1)) (e:=[ζ (.int left),ζ (.int p),a2,ζ (.ref c.length),v4]) (by simp) (by simp(disch:=omega) [jG]) rfl (by have:=fy (n:=1000) (by decide);omega)
 unfold zk;rw[jv,nc,h];simp(disch:=omega) [sW]
theorem Lo{c:aa}{a2:Option D}{p:Int}(hp:0<p) (eO:p<1000):∀(items:List D) (left:Int) (acc:List D) (v4:Option D),acc.length+items.length<1000 ->
  ∃l' v',cG (λ_=>True) (aA 4) zk items [ζ (.int left),ζ (.int p),a2,ζ (.ref c.length),v4] (c++[.lst acc]) =
   .ok (.nx [ζ (.int l'),ζ (.int p),a2,ζ (.ref c.length),v']) (c++[.lst (acc++(bV p items.length left).map D.int)])
 |[],left,acc,v4,_=>⟨left,v4,by simp[bV]⟩
 |x::xs,left,acc,v4,h=>by
  simp only[ak4]at h;obtain⟨l',v',ih⟩:=Lo hp eO xs (left/p) (acc++[.int (left % p)]) (ζ x) (by simp;omega)
  refine⟨l',v',?_⟩;rw[iA];simp only[Q3,amf,amS,R.aD];rw[abi hp eO (by omega)]
  simp only[R.aD];rw[ih];simp[bV]
theorem zj{p N x:Int}(hp:0<p) (eO:p<1000) {n:Nat}(hl:(bf 0 N).length=n) (hn:n<1000) (b1:-4611686018427387904<=N/\N<4611686018427387904) (c:aa) :
  fH [.int x,.int p,.int N] c=.ok (.lst ((bV p n x).map D.int)) c:=by
 obtain⟨l',v',hf⟩:=Lo (c:=c) (a2:=ζ (.int N)) (p:=p) hp eO (bf 0 N) x [] η (by rw[hl,ali];omega)
 rw[hl,alm]at hf;unfold zk at hf;simp[fH,t6];rw[if_pos b1];simp only[R.aD];rw[hf];simp[dX,yV]
def dv(q p:Int):Bool:=decide (q % p=0)
def prs:List Int:=[2,3,5,7,11,13,17,19,23,29,31,37,41,43,47]
theorem Nk{α:Type}{P:α->Bool}{p:α}:∀{l:List α},l.find? P=ζ p->∃r,l.filter P=p::r
 |[],h=>by cases h
 |a::l,h=>by
  rw[List.find?_cons]at h;rw[aoO];cases hP:P a with
  |true=>rw[hP]at h;cases h;exact⟨_,if_pos rfl⟩
  |false =>
   rw[hP]at h;obtain⟨r,hr⟩:=Nk (l:=l) h;exact⟨r,by rw[if_neg alf];exact hr⟩
def AF(q:Int):D->Bool
 |.int p=>dv q p
 |_=>ξ
theorem Nx(q:Int):∀l:List Int,((l.map D.int).filter (AF q)).map id=(l.filter (dv q)).map D.int
 |[]=>rfl
 |a::l=>by
  have ih:=Nx q l;have e:AF q (.int a)=dv q a:=rfl;rw[ak2,aoO,aoO,e];cases dv q a with
  |true=>rw[if_pos rfl,if_pos rfl,ak2,ak2,ih];rfl
  |false=>rw[if_neg alf,if_neg alf,ih]
theorem VS{q:Int}{p:Int}(h:prs.find? (dv q)=ζ p) (c:aa):gy [.int q] c=.ok (.int p) c:=by
 have UA:(15:Nat)<=ι:=by decide
 have Sd:(15:Nat)<ι:=by decide
 have hc:=oq (c:=c) (g:=aA 0) (t:=aL (au cy (au bT (ak 1) (ak 0)) (dC (.int 0)))) (a:=ak 0) (λe=>∃v,e=[v,ζ (.int q)]) (AF q) id
  (prs.map D.int) [η,ζ (.int q)] [] ⟨η,rfl⟩ (λx hx e ⟨v,he⟩=>by
   subst he;obtain⟨i,hi,rfl⟩:=akW.mp hx;have i0:0<i:=by
    simp only[prs,akV,ala,or_false]at hi;omega
   refine⟨_,rfl,⟨_,rfl⟩,?_,λ_=>rfl⟩
   have e:bT (.int q) (.int i) c=.ok (.int (q % i)) c:=jG c i0;simp[e,AF,dv])
 obtain⟨r,hr⟩:=Nk h;rw[Nx,hr]at hc;simp only[ak2,alm]at hc;have hp:prs.map D.int=[D.int 2,.int 3,.int 5,.int 7,.int 11,.int 13,.int 17,.int 19,.int 23,.int 29,.int 31,.int 37,.int 41,.int 43,.int 47]:=rfl;rw[hp]at hc;simp[-jP,gy,ua,UA,Sd,cO];rw[hc];simp
theorem VR:(cR.all λf=>(θ f.n).all λk=>prs.find? (dv ((f.p:Int)^(k+1)))==ζ (f.p:Int))=Ξ:=by decide +kernel
theorem JR{f:Fd}(h:f∈cR) {k:Nat}(hk:k<f.n) (c:aa):gy [.int ((f.p:Int)^(k+1))] c=.ok (.int f.p) c:=by
 refine VS ?_ c;have:=ak0.mp (ak0.mp VR f h) k (akY.mpr hk)
 simpa using this
theorem Cf{f:Fd}(h:f∈cR) (c:aa):gy [.int f.q] c=.ok (.int f.p) c:=by
 have I:=iO h;have n1:=I.n1;have:=JR h (k:=f.n-1) (by omega) c
 rwa[show f.n-1+1=f.n by omega,I.pw]at this
def AG:ah:=(aE (aG 0 (au gO (ak 0) (aC 1 gy (ao (ak 0) aq)))) (aG 1 (au aZ (ak 1) (dC (.int 1)))))
theorem ND{f:Fd}(h:f∈cR) (c:aa):∀(k fuel:Nat) (d:Int),k<=f.n->k<fuel->gF (aL (au sQ (ak 0) (dC (.int 1)))) AG fuel [ζ (.int ((f.p:Int)^k)),ζ (.int d)] c=.ok (.nx [ζ (.int 1),ζ (.int (d+k))]) c
 |0,fuel+1,d,_,_=>by simp[gF]
 |k+1,fuel+1,d,hk,hf=>by
  have I:=iO h;have p2:=I.p2;have j6:=I.j6;have ih:=ND h c k fuel (d+1) (by omega) (by omega)
  have hpos:∀j:Nat,(1:Int)<=(f.p:Int)^j:=λj=>by
   have:=Nat.one_le_pow j f.p (by omega)
   have e:((f.p^j:Nat):Int)=(f.p:Int)^j:=by simp
   omega
  have h1:(1:Int)<(f.p:Int)^(k+1):=by
   rw[aoN];have h2:=hpos k;have h3:(f.p:Int)^k*2<=(f.p:Int)^k*f.p:=Int.mul_le_mul_of_nonneg_left (by omega) (by omega)
   omega
  have hd:(f.p:Int)^(k+1)/f.p=(f.p:Int)^k:=by
   rw[aoN];exact Int.mul_ediv_cancel _ (by omega)
  have e:AG [ζ (.int ((f.p:Int)^(k+1))),ζ (.int d)] c=.ok (.nx [ζ (.int ((f.p:Int)^k)),ζ (.int (d+1))]) c:=by
   have e1:gO (.int ((f.p:Int)^(k+1))) (.int f.p) c=.ok (.int ((f.p:Int)^k)) c:=by rw[sW c (by omega) (by omega),hd]
   simp[AG,JR h (show k<f.n by omega),e1]
  have et:aL (au sQ (ak 0) (dC (.int 1))) [ζ (.int ((f.p:Int)^(k+1))),ζ (.int d)] c=.ok Ξ c:=by simp[h1]
  unfold gF;rw[et];simp only[R.aD,if_pos];rw[e];simp only[R.aD];rw[ih,show d+1+(k:Int)=d+((k+1:Nat):Int) by omega]
theorem NC{f:Fd}(h:f∈cR) (c:aa):j9 [.int f.q] c=.ok (.int f.n) c:=by
 have I:=iO h;have hl:=ND h c f.n 10 0 (akT _) (by have:=I.n5;omega)
 rw[I.pw,Int.zero_add]at hl;unfold AG at hl;simp only[j9,ug,fu,QN,jv,fR,oO,R.aD,ak2,an9,ak4,ali];show R.bind (R.bind (gF _ _ 10 [ζ (.int f.q),ζ (.int 0)] c) _) _=_;rw[hl];simp
def jC(p:Int):List Int->Int
 |[]=>0
 |d::r=>jC p r*p+d
theorem KG{p:Int}:∀{r:List Int},(∀d∈r,0<=d/\d<p)->jC p r=fL p r
 |[],_=>rfl
 |d::r,h=>by
  have:=h d alC;rw[jC,fL,KG λx hx=>h x (alu _ hx),apt this.1 this.2]
theorem Z5(p:Int) (r:List Int):r.reverse.foldl (λn d=>n*p+d) 0=jC p r:=by
 rw[List.foldl_reverse]
 induction r with
 |nil=>rfl
 |cons d r ih=>rw[List.foldr_cons,ih];rfl
def Hx(L:List D->aa->R D):ah:=(aE (aG 2 (dC (.int 0))) (aE (bQ (aV (ao (aB L (ao (ak 0) aq)) aq)) (aA 3) (aG 2 (au aZ (au b8 (ak 2) (ak 1)) (au aF (ak 0) (au bS (au bS (aB L (ao (ak 0) aq)) (dC (.int 1))) (ak 3)))))) (aK (ak 2))))
theorem ahU:ud=Hx aN:=rfl
def CY(L:List D->aa->R D):ah:=(aG 2 (au aZ (au b8 (ak 2) (ak 1)) (au aF (ak 0) (au bS (au bS (aB L (ao (ak 0) aq)) (dC (.int 1))) (ak 3)))))
theorem abl{L:List D->aa->R D}{p N:Int}(hp:0<p) (eO:p<1000) (r:List Int) (hN:N=r.length) (b1:-4611686018427387904<=N/\N<4611686018427387904) {c:aa}(hL:L [.lst (r.map D.int)] c=.ok (.int N) c):bM 4 ξ (Hx L) [.lst (r.map D.int),.int p] c=.ok (.int (jC p r)) c:=by
 obtain⟨v',hf⟩:=pT (g:=aA 3) (s:=CY L) (λ_=>c) (λi v=>[ζ (.lst (r.map D.int)),ζ (.int p),ζ (.int ((r.reverse.take i).foldl (λn d=>n*p+d) 0)),v]) hN η (λi hi v=>by
  refine⟨_,rfl,ζ (.int i),?_⟩;have hr:i<r.reverse.length:=by rw[apP];exact hi
  have ht:r.reverse.take (i+1)=r.reverse.take i++[r.reverse[i]]:=anK hr;have hx:cJ (r.map D.int) (N-1-i)=ζ (.int r.reverse[i]):=by
   have hg:(r.map D.int)[r.length-1-i]? = ζ (.int r.reverse[i]):=by
    rw[alk,ak7 (by omega)]
    simp
   have:=gQ (xs:=r.map D.int) (j:=r.length-1-i) (v:=.int r.reverse[i]) hg;rw[show((r.length-1-i:Nat):Int)=N-1-i by omega]at this
   exact this
  rw[ht,anb]
  generalize (r.reverse.take i).foldl (λn d=>n*p+d) 0=w
  generalize r.reverse[i]=z at hx
  have hm:b8 (.int w) (.int p) c=.ok (.int (w*p)) c:=mul_r c (by omega) (by omega)
  simp[CY,hL,hm,hx])
 have e0:(r.reverse.take r.length).foldl (λn d=>n*p+d) 0=jC p r:=by
  rw[amR (by rw[apP];exact akT _),Z5]
 simp only[anz,List.foldl_nil]at hf;rw[e0]at hf;unfold CY at hf;simp[Hx,hL];rw[if_pos b1];simp only[R.aD];rw[hf];simp
theorem Lp{p:Int}(hp:0<p) (eO:p<1000) (r:List Int) (hr:r.length<1000) (c:aa):pJ [.lst (r.map D.int),.int p] c=.ok (.int (jC p r)) c:=by
 rw[pJ,ahU];exact abl hp eO r rfl (by omega) (by rw[Io,ak6])
def gJ(l:List Int) (i:Nat):Int:=l.getD i 0
theorem M5{l:List Int}{i:Nat}(h:i<l.length):(l.map D.int)[i]? = ζ (.int (gJ l i)):=by
 rw[alk,ak7 h];simp[gJ,List.getD,h]
theorem QB(f:Int->Int->Int) {a b:List Int}{n:Nat}(ha:a.length=n) (hb:b.length=n):List.zipWith f a b=(θ n).map λi=>f (gJ a i) (gJ b i):=by
 apply aou
 ·simp[ha,hb]
 ·intro i h1 h2;simp only[List.getElem_zipWith,List.getElem_map,anA];simp at h1;have ia:i<a.length:=by omega
  have ib:i<b.length:=by omega
  simp[gJ,List.getD,ia,ib]
theorem ag4{a b:List Int}{p s N:Int}{n:Nat}(hN:N=n) (hp:0<p) (ha:a.length=n) (hb:b.length=n) (hs:-1000<s/\s<1000) (c:aa) :
  bI (λ_=>True) (aA 0) aJ (au bT (au aZ (au aF (au aF (ak 3) (dC (.int 0))) (ak 0)) (au b8 (ak 2) (au aF (au aF (ak 3) (dC (.int 1))) (ak 0)))) (ak 1)) (bf 0 N) [η,ζ (.int p),ζ (.int s),ζ (.lst [.lst (a.map D.int),.lst (b.map D.int)])] [] c =
   .ok ((List.zipWith (λx y=>(x+s*y) % p) a b).map D.int) c:=by
 have:=oq (c:=c) (g:=aA 0) (t:=aJ) (a:=au bT (au aZ (au aF (au aF (ak 3) (dC (.int 0))) (ak 0)) (au b8 (ak 2) (au aF (au aF (ak 3) (dC (.int 1))) (ak 0)))) (ak 1)) (λe=>∃v,e=[v,ζ (.int p),ζ (.int s),ζ (.lst [.lst (a.map D.int),.lst (b.map D.int)])]) (λ_=>Ξ)
  (λd=>match d with|.int i=>.int ((gJ a i.toNat+s*gJ b i.toNat) % p)|d=>d) (bf 0 N) [η,ζ (.int p),ζ (.int s),ζ (.lst [.lst (a.map D.int),.lst (b.map D.int)])] [] ⟨η,rfl⟩ (λx hx e ⟨v,he⟩=>by
   subst he;obtain⟨i,rfl,i0,i1⟩:=vz hx;obtain⟨k,rfl⟩:∃k:Nat,i=k:=⟨i.toNat,by omega⟩
   have h1:cJ (a.map D.int) k=ζ (.int (gJ a k)):=gQ (M5 (by omega))
   have h2:cJ (b.map D.int) k=ζ (.int (gJ b k)):=gQ (M5 (by omega))
   have h3:b8 (.int s) (.int (gJ b k)) c=.ok (.int (s*gJ b k)) c:=zb c (by omega) (by omega)
   have h4:bT (.int (gJ a k+s*gJ b k)) (.int p) c=.ok (.int ((gJ a k+s*gJ b k) % p)) c:=jG c hp;refine⟨_,rfl,⟨_,rfl⟩,rfl,λ_=>?_⟩
   simp[h1,h2,h3,h4])
 rw[this,alm,apQ.mpr λ_ _=>rfl,QB _ ha hb]
 congr 1
 unfold bf;rw[alh,alh,show(N-0).toNat=n by omega]
 apply alY;intro i _;simp
def wK(L:List D->aa->R D):ah:=(aE (aG 4 (aC 1 gy (ao (ak 0) aq))) (aE (aG 5 (aC 1 j9 (ao (ak 0) aq))) (aE (aG 6 (bH (ao (aC 3 fH (ao (ak 1) (ao (ak 4) (ao (ak 5) aq)))) (ao (aC 3 fH (ao (ak 2) (ao (ak 4) (ao (ak 5) aq)))) aq)))) (aK (aC 2 L (ao (aT (aV (ao (ak 5) aq)) [η,ζ 4,ζ 3,ζ 6] (aA 0) aJ (au bT (au aZ (au aF (au aF (ak 3) (dC (.int 0))) (ak 0)) (au b8 (ak 2) (au aF (au aF (ak 3) (dC (.int 1))) (ak 0)))) (ak 1))) (ao (ak 4) aq)))))))
theorem ahS:tX=wK pJ:=rfl
theorem Su{L:List D->aa->R D}{q x y s p N w:Int}{n:Nat}{a b:List Int}{c:aa}(h1:gy [.int q] c=.ok (.int p) c) (h2:j9 [.int q] c=.ok (.int N) c) (h3:fH [.int x,.int p,.int N] c=.ok (.lst (a.map D.int)) c) (h4:fH [.int y,.int p,.int N] c=.ok (.lst (b.map D.int)) c)
  (hN:N=n) (hp:0<p) (ha:a.length=n) (hb:b.length=n) (hs:-1000<s/\s<1000) (b1:-4611686018427387904<=N/\N<4611686018427387904) (hl:(bf 0 N).length<ι) (hn:L [.lst ((List.zipWith (λx y=>(x+s*y) % p) a b).map D.int),.int p] c=.ok (.int w) c):bM 7 ξ (wK L) [.int q,.int x,.int y,.int s] c=.ok (.int w) c:=by
 have hc:=ag4 (a:=a) (b:=b) (p:=p) (s:=s) hN hp ha hb hs c;have key:wK L [ζ (.int q),ζ (.int x),ζ (.int y),ζ (.int s),η,η,η] c=.ok (.rt (.int w)) c:=by
  simp[wK,h1,h2,h3,h4,cO];rw[if_pos b1];simp only[R.aD];rw[if_pos hl,hc];simp only[R.aD,ak4,ali,if_pos,hn]
 rw[fu];show R.bind (wK L [ζ (.int q),ζ (.int x),ζ (.int y),ζ (.int s),η,η,η] c) _=_;rw[key];simp
theorem HX(f:Int->Int->Int) (p:Int):∀a b:List Int,List.zipWith (λx y=>f x y % p) a b=(List.zipWith f a b).map (· % p)
 |[],b=>by simp
 |a::as,[]=>by simp
 |a::as,b::bs=>by rw[apR,apR,ak2,HX f p as bs]
theorem Ss{f:Fd}(h:f∈cR) (x y s:Int) (hs:-1000<s/\s<1000) (c:aa):nL [.int f.q,.int x,.int y,.int s] c=.ok (.int (fL f.p (List.zipWith (λa b=>a+s*b) (bV f.p f.n x) (bV f.p f.n y)))) c:=by
 have I:=iO h;have p2:=I.p2;have j6:=I.j6;have n5:=I.n5;have hsz:=fy (n:=1000) (by decide)
 have h1:=λz=>zj (p:=f.p) (N:=f.n) (x:=z) (n:=f.n) (by omega) (by omega) (by rw[fG];omega) (by omega) (by omega) c
 have hn:=Lp (p:=f.p) (by omega) (by omega) (List.zipWith (λa b=>(a+s*b) % (f.p:Int)) (bV f.p f.n x) (bV f.p f.n y)) (by rw[HY];omega) c
 have e:jC f.p (List.zipWith (λa b=>(a+s*b) % (f.p:Int)) (bV f.p f.n x) (bV f.p f.n y))=fL f.p (List.zipWith (λa b=>a+s*b) (bV f.p f.n x) (bV f.p f.n y)):=by
  rw[HX,KG,KC];intro d hd;obtain⟨z,_,rfl⟩:=akW.mp hd;exact⟨amP _ (by omega),amQ _ (by omega)⟩
 rw[e]at hn;rw[nL,ahS];exact Su (n:=f.n) (Cf h c) (NC h c) (h1 x) (h1 y) rfl (by omega) (iI _ _ _) (iI _ _ _) hs (by omega) (by rw[fG];omega) hn
def gI(l:List Int) (i:Nat):Int:=l.getD i 0
theorem sR{l:List Int}{i:Nat}(h:i<l.length):(l.map D.int)[i]? = ζ (.int (gI l i)):=by
 rw[alk,ak7 h];simp[gI,List.getD,h]
def kq(p a:Int) (b:List Int) (k:Nat) (F:List Int):Nat->List Int
 |0=>F
 |j+1=>(kq p a b k F j).set (k+j) ((gI (kq p a b k F j) (k+j)+a*gI b j) % p)
def j7(p:Int) (a b:List Int) (F:List Int):Nat->List Int
 |0=>F
 |k+1=>kq p (gI a k) b k (j7 p a b F k) b.length
def gG(a b:List Int) (p:Int):List Int:=j7 p a b (ν (a.length+b.length-1) 0) a.length
theorem zv{p a:Int}{b:List Int}{k:Nat}{F:List Int}:∀j,(kq p a b k F j).length=F.length
 |0=>rfl
 |j+1=>by rw[kq,aoa,zv j]
theorem yF{p:Int}{a b F:List Int}:∀k,(j7 p a b F k).length=F.length
 |0=>rfl
 |k+1=>by rw[j7,zv,yF k]
theorem map_set{l:List Int}{i:Nat}{x:Int}:(l.map D.int).set i (.int x)=(l.set i x).map D.int:=by rw[List.map_set]
def in1(a p:Option D):Ev:=[a,p]
def uP:ah:=(kU (au bT (au aZ (au aF (ak 3) (au aZ (ak 4) (ak 5))) (au b8 (au aF (ak 0) (ak 4)) (au aF (ak 1) (ak 5)))) (ak 2)) (lF (ak 3) (au aZ (ak 4) (ak 5))))
theorem SO{a b F:List Int}{p:Int}{c:aa}{k j:Nat}(hp:0<p) (hk:k<a.length) (hj:j<b.length) (hF:k+j<F.length) (hs:∀x∈a,0<=x/\x<1000) :
  uP [ζ (.lst (a.map D.int)),ζ (.lst (b.map D.int)),ζ (.int p),ζ (.ref c.length),ζ (.int k),ζ (.int j)] (c++[.lst (F.map D.int)]) =
   .ok (.nx [ζ (.lst (a.map D.int)),ζ (.lst (b.map D.int)),ζ (.int p),ζ (.ref c.length),ζ (.int k),ζ (.int j)]) (c++[.lst ((F.set (k+j) ((gI F (k+j)+gI a k*gI b j) % p)).map D.int)]):=by
 have h1:=El (c:=c) (l:=F.map D.int) (i:=(k:Int)+j) (j:=k+j) (d:=.int (gI F (k+j))) (by omega) (sR hF)
 have h2:cJ (a.map D.int) k=ζ (.int (gI a k)):=gQ (sR hk);have h3:cJ (b.map D.int) j=ζ (.int (gI b j)):=gQ (sR hj);have hb:0<=gI a k/\gI a k<1000:=hs _ (by simp[gI,List.getD,hk])
 have h4:∀c,b8 (.int (gI a k)) (.int (gI b j)) c=.ok (.int (gI a k*gI b j)) c:=λc=>zb c (by omega) (by omega)
 have h5:=λx=>Jr (c:=c) (l:=F.map D.int) (i:=(k:Int)+j) (j:=k+j) (d:=.int x) (by omega) (by simpa using hF) rfl
 have h6:∀x c,bT (.int x) (.int p) c=.ok (.int (x % p)) c:=λx c=>jG c hp
 simp only[uP,Iq,d9,bJ,gz,gs,R.aD,oQ,qv,h1,h2,h3,h4,h6,Ip,h5,map_set]
def xS(L:List D->aa->R D):ah:=(bQ (aV (ao (aB L (ao (ak 1) aq)) aq)) (aA 5) uP)
theorem SN{L:List D->aa->R D}{a b F:List Int}{p N:Int}{c:aa}{k:Nat}(hp:0<p) (hk:k<a.length) (hF:a.length+b.length-1<=F.length) (hs:∀x∈a,0<=x/\x<1000) (hN:N=b.length) (b1:-4611686018427387904<=N/\N<4611686018427387904) (hL:∀c,L [.lst (b.map D.int)] c=.ok (.int N) c) (v5:Option D) :
  ∃v',xS L [ζ (.lst (a.map D.int)),ζ (.lst (b.map D.int)),ζ (.int p),ζ (.ref c.length),ζ (.int k),v5] (c++[.lst (F.map D.int)]) =
   .ok (.nx [ζ (.lst (a.map D.int)),ζ (.lst (b.map D.int)),ζ (.int p),ζ (.ref c.length),ζ (.int k),v']) (c++[.lst ((kq p (gI a k) b k F b.length).map D.int)]):=by
 obtain⟨v',hf⟩:=pT (g:=aA 5) (s:=uP) (λj=>c++[.lst ((kq p (gI a k) b k F j).map D.int)]) (λ_ v=>[ζ (.lst (a.map D.int)),ζ (.lst (b.map D.int)),ζ (.int p),ζ (.ref c.length),ζ (.int k),v]) hN v5 (λj hj v=>by
  exact⟨_,rfl,_,SO hp hk hj (by rw[zv];omega) hs⟩)
 refine⟨v',?_⟩;simp only[xS,gE,gr,bE,dG,bJ,bK,gz,gs,R.aD,hL];rw[if_pos (by omega)]
 exact hf
def wJ(L:List D->aa->R D) (Rp:D->D->aa->R D):ah:=(aE (aG 3 (au Rp (bH (ao (dC (.int 0)) aq)) (au bS (au aZ (aB L (ao (ak 0) aq)) (aB L (ao (ak 1) aq))) (dC (.int 1))))) (aE (bQ (aV (ao (aB L (ao (ak 0) aq)) aq)) (aA 4) (bQ (aV (ao (aB L (ao (ak 1) aq)) aq)) (aA 5) (kU (au bT (au aZ (au aF (ak 3) (au aZ (ak 4) (ak 5))) (au b8 (au aF (ak 0) (ak 4)) (au aF (ak 1) (ak 5)))) (ak 2)) (lF (ak 3) (au aZ (ak 4) (ak 5)))))) (aK (ak 3))))
theorem Pa:lO=wJ aN jW:=rfl
theorem Jj{L:List D->aa->R D}{Rp:D->D->aa->R D}{a b:List Int}{p N M:Int}{c:aa}(hp:0<p) (ha:a≠[]) (hs:∀x∈a,0<=x/\x<1000) (hN:N=b.length) (b1:-4611686018427387904<=N/\N<4611686018427387904) (hL:∀c,L [.lst (b.map D.int)] c=.ok (.int N) c)
  (hM:M=a.length) (b2:-4611686018427387904<=M/\M<4611686018427387904) (nX:∀c,L [.lst (a.map D.int)] c=.ok (.int M) c) (hR:Rp (.lst [.int 0]) (.int (M+N-1)) c=.ok (.ref c.length) (c++[.lst ((ν (a.length+b.length-1) (0:Int)).map D.int)])) :
  wJ L Rp [ζ (.lst (a.map D.int)),ζ (.lst (b.map D.int)),ζ (.int p),η,η,η] c=.ok (.rt (.ref c.length)) (c++[.lst ((gG a b p).map D.int)]):=by
 obtain⟨v',hf⟩:=pT (α:=Option D×Option D) (g:=aA 4) (s:=xS L) (λk=>c++[.lst ((j7 p a b (ν (a.length+b.length-1) 0) k).map D.int)]) (λ_ v=>[ζ (.lst (a.map D.int)),ζ (.lst (b.map D.int)),ζ (.int p),ζ (.ref c.length),v.1,v.2]) hM (η,η) (λk hk v=>by
  obtain⟨w,h⟩:=SN (L:=L) (a:=a) (b:=b) (F:=j7 p a b (ν (a.length+b.length-1) 0) k) (c:=c) (k:=k) hp hk (by rw[yF,anp];exact akT _) hs hN b1 hL v.2
  exact⟨_,rfl,(ζ (.int k),w),h⟩)
 simp only[wJ,jv,fR,d9,BB,bE,oO,bK,R.aD,dG,bJ,gz,gs,hL,nX,oQ,xy];rw[if_pos (by decide)]
 simp only[R.aD,hR,amf,amS,gE,gr,bE,dG,bJ,bK,gz,gs,nX];rw[if_pos (by omega)]
 simp only[R.aD];unfold xS at hf;unfold uP at hf;simp only[j7]at hf;rw[hf];rfl
theorem Ji{a b:List Int}(h:a.length+b.length<1000) (ha:a≠[]) {M N:Int}(hM:M=a.length) (hN:N=b.length) (c:aa):jW (.lst [.int 0]) (.int (M+N-1)) c=.ok (.ref c.length) (c++[.lst ((ν (a.length+b.length-1) (0:Int)).map D.int)]):=by
 have hl:0<a.length:=List.length_pos_iff.mpr ha;have hs:=fy (n:=1000) (by decide)
 have ht:(M+N-1).toNat=a.length+b.length-1:=by omega
 rw[QT,ht,if_pos ⟨by omega,by omega,by simp only[ak4,ali];omega,rfl⟩]
 congr 4
 generalize a.length+b.length-1=n
 induction n with
 |zero=>rfl
 |succ n ih=>rw[amc,amk,ih];rfl
theorem vE(l:List Int) (c:aa):aN [.lst (l.map D.int)] c=.ok (.int l.length) c:=by rw[Io,ak6]
theorem SM{a b:List Int}{p:Int}(hp:0<p) (ha:a≠[]) (hs:∀x∈a,0<=x/\x<1000) (h:a.length+b.length<1000) (c:aa):k7 [.lst (a.map D.int),.lst (b.map D.int),.int p] c=.ok (.lst ((gG a b p).map D.int)) c:=by
 have:=Jj (L:=aN) (Rp:=jW) hp ha hs rfl (by omega) (vE b) rfl (by omega) (vE a) (Ji h ha rfl rfl c)
 rw[k7,Pa,fu];show R.bind (wJ aN jW [ζ (.lst (a.map D.int)),ζ (.lst (b.map D.int)),ζ (.int p),η,η,η] c) _=_;rw[this];simp[dX]
theorem SK{a b:List Int}{p:Int}(hp:0<p) (ha:a≠[]) (hs:∀x∈a,0<=x/\x<1000) (h:a.length+b.length<1000) (c:aa):sf [.lst (a.map D.int),.lst (b.map D.int),.int p] c=.ok (.ref c.length) (c++[.lst ((gG a b p).map D.int)]):=by
 have:=Jj (L:=aN) (Rp:=jW) hp ha hs rfl (by omega) (vE b) rfl (by omega) (vE a) (Ji h ha rfl rfl c)
 rw[sf,Pa,fu];show R.bind (wJ aN jW [ζ (.lst (a.map D.int)),ζ (.lst (b.map D.int)),ζ (.int p),η,η,η] c) _=_;rw[this];simp[dX]
def more(p:Nat) (row:List Int):List (List Int):=(θ p).map λd:Nat=>row++[(d:Int)]
def dw(p:Nat):Nat->List (List Int)
 |0=>[[]]
 |i+1=>(dw p i).flatMap (more p)
theorem E5{l:List D}:(l.filter λ_=>Ξ)=l:=apQ.mpr λ_ _=>rfl
def LD(L:List (List Int)):List D:=L.map λr=>.lst (r.map D.int)
theorem Pu(a b:List (List Int)):LD (a++b)=LD a++LD b:=by simp[LD]
theorem HL(L:List (List Int)):bO (LD L)=Ξ:=iM.mpr λd hd=>by
 obtain⟨r,_,rfl⟩:=akW.mp hd;rw[JJ];exact yV
theorem kL(L:List (List Int)):(LD L).length=L.length:=by simp[LD]
theorem CP(p:Nat) (r:List Int):(more p r).length=p:=by simp[more]
theorem zE(p:Nat):∀i,(dw p i).length=p^i
 |0=>rfl
 |i+1=>by
  have:∀L:List (List Int),(L.flatMap (more p)).length=L.length*p:=by
   intro L
   induction L with
   |nil=>simp
   |cons a L ih=>rw[anQ,alp,ih,CP,ak4,amd,anr]
  rw[dw,this,zE p i,Nat.pow_succ]
theorem IM{α β:Type}(f:α->List β) {L:List α}{j:Nat}(h:j<L.length):(L.take (j+1)).flatMap f=(L.take j).flatMap f++f L[j]:=by
 rw[anK h,aoP];simp
def zF:ah:=(dR (lJ (ak 4) (aT (aV (ao (ak 1) aq)) [η,ζ 5] (aA 0) aJ (au dP (ak 1) (bH (ao (ak 0) aq))))))
def vU:ah:=(aE (aG 4 (eV aq)) (aE (bQ (gh (ak 2)) (aA 5) (dR (lJ (ak 4) (aT (aV (ao (ak 1) aq)) [η,ζ 5] (aA 0) aJ (au dP (ak 1) (bH (ao (ak 0) aq))))))) (aG 2 (ak 4))))
theorem ag7{row:List Int}{P:Int}{p:Nat}(hP:P=p) (hr:row.length<1000) (c:aa):bI (λ_=>True) (aA 0) aJ (au dP (ak 1) (bH (ao (ak 0) aq))) (bf 0 P) [η,ζ (.lst (row.map D.int))] [] c=.ok (LD (more p row)) c:=by
 have hs:=fy (n:=1000) (by decide)
 have hz:row.length+1<=ι:=by omega
 have:=oq (c:=c) (g:=aA 0) (t:=aJ) (a:=au dP (ak 1) (bH (ao (ak 0) aq))) (λe=>∃v,e=[v,ζ (.lst (row.map D.int))]) (λ_=>Ξ) (λd=>.lst (row.map D.int++[d]))
  (bf 0 P) [η,ζ (.lst (row.map D.int))] [] ⟨η,rfl⟩ (λx hx e ⟨v,he⟩=>by
   subst he;refine⟨_,rfl,⟨_,rfl⟩,rfl,λ_=>?_⟩
   simp[dP,hz])
 rw[this];subst hP
 congr 1
 unfold bf LD more;simp only[alm,E5,alh];rw[show((p:Int)-0).toNat=p by omega]
 apply alY;intro d _;simp
theorem adU{C:aa}{acc:List D}{P many:Int}{p:Nat}{row:List Int}(hP:P=p) (bP:-4611686018427387904<=P/\P<4611686018427387904) (hp:p<1000) (hr:row.length<1000) (ha:acc.length+p<=1000) (F v3:Option D) :
  zF [ζ (.int many),ζ (.int P),F,v3,ζ (.ref C.length),ζ (.lst (row.map D.int))] (C++[.lst acc])=.ok (.nx [ζ (.int many),ζ (.int P),F,v3,ζ (.ref C.length),ζ (.lst (row.map D.int))]) (C++[.lst (acc++LD (more p row))]):=by
 have hs:=fy (n:=1000) (by decide)
 have hc:=ag7 (row:=row) hP hr (C++[.lst acc]);have hl:(bf 0 P).length<ι:=by rw[fG];omega
 have hl2:acc.length+(LD (more p row)).length<=ι/\bO (LD (more p row))=Ξ:=⟨by rw[kL,CP];omega,HL _⟩
 simp only[zF,nc,lJ,bJ,gz,gs,R.aD,dF,gr,bE,bK];rw[if_pos (by omega)]
 simp only[R.aD,cO];rw[if_pos hl];show R.bind (R.bind (R.bind (bI (λ_=>True) (aA 0) aJ (au dP (ak 1) (bH (ao (ak 0) aq))) (bf 0 P) [η,ζ (.lst (row.map D.int))] [] (C++[.lst acc])) _) _) _=_
 rw[hc];simp only[R.aD,aom];rw[if_pos hl2];simp
def hC(c:aa) (p i:Nat):aa:=c++(θ i).map λt=>Cell.lst (LD (dw p (t+1)))
def hF(c:aa) (p i:Nat):D:=match i with
 |0=>.lst (LD (dw p 0))
 |i+1=>.ref (c.length+i)
theorem zJ(c:aa) (p i:Nat):(hC c p i).length=c.length+i:=by simp[hC]
theorem MK(c:aa) (p i:Nat):hC c p (i+1)=hC c p i++[.lst (LD (dw p (i+1)))]:=by simp[hC,amg]
theorem MJ(c:aa) (p i:Nat) (more:aa) {e:Ev}{k:Nat}(he:e[k]? = ζ (ζ (hF c p i))):∃st:aa->Prop,(∀m,st (hC c p i++m))/\gh (ak k) e (hC c p i++more)=.ok ⟨LD (dw p i),st⟩ (hC c p i++more):=by
 cases i with
 |zero=>exact⟨λ_=>True,λ_=>trivial,by simp only[xC,bJ,he];rfl⟩
 |succ i =>
  have hg:∀m:aa,(hC c p (i+1)++m)[c.length+i]? = ζ (.lst (LD (dw p (i+1)))):=λm=>by
   rw[alL (by rw[zJ];omega),MK,al3 (by rw[zJ];exact akT _),zJ,amv]
   rfl
  refine⟨λc'=>c'[c.length+i]? = ζ (.lst (LD (dw p (i+1)))),hg,?_⟩
  simp only[xC,bJ,he,hF,R.aD,hg]
theorem adT{c:aa}{P many:Int}{p i:Nat}(hP:P=p) (bP:-4611686018427387904<=P/\P<4611686018427387904) (hp:p<1000) (hi:p^(i+1)<=1000) (vN:∀r∈dw p i,r.length<1000) (v3 v4 v5:Option D) :
  ∃w4 w5,vU [ζ (.int many),ζ (.int P),ζ (hF c p i),v3,v4,v5] (hC c p i)=.ok (.nx [ζ (.int many),ζ (.int P),ζ (hF c p (i+1)),v3,w4,w5]) (hC c p (i+1)):=by
 obtain⟨st,hst,hseq⟩:=MJ c p i [.lst []] (e:=[ζ (.int many),ζ (.int P),ζ (hF c p i),v3,ζ (.ref (hC c p i).length),v5]) (k:=2) rfl;have hlen:=zE p i;obtain⟨v',hf⟩:=pU (st:=st) (g:=aA 5) (s:=zF) (λj=>hC c p i++[.lst (LD (((dw p i).take j).flatMap (more p)))]) (λ_ v=>[ζ (.int many),ζ (.int P),ζ (hF c p i),v3,ζ (.ref (hC c p i).length),v]) (LD (dw p i)) 0 v5
  (λj _=>hst _) (λj x hx v=>by
   rw[alz];have hj:j<(dw p i).length:=by
    have:=(alb.mp hx).1
    rwa[kL]at this
   have hx':x=.lst ((dw p i)[j].map D.int):=by
    have:=(alb.mp hx).2;rw[<-this];simp[LD]
   subst hx';refine⟨_,rfl,ζ (.lst ((dw p i)[j].map D.int)),?_⟩;have hacc:(LD (((dw p i).take j).flatMap (more p))).length+p<=1000:=by
    rw[kL];have:∀L:List (List Int),(L.flatMap (more p)).length=L.length*p:=by
     intro L
     induction L with
     |nil=>simp
     |cons a L ih=>rw[anQ,alp,ih,CP,ak4,amd,anr]
    rw[this,al2,aoQ (by omega)]
    have h2:(j+1)*p<=p^i*p:=aoR p (by omega)
    have h3:p^i*p=p^(i+1):=(Nat.pow_succ ..).symm;rw[h3,amd]at h2;omega
   have:=adU (C:=hC c p i) (many:=many) (row:=(dw p i)[j]) hP bP hp (vN _ (alH hj)) hacc (ζ (hF c p i)) v3;rw[IM _ hj,Pu];exact this)
 rw[kL,alz,amN,anz]at hf;refine⟨ζ (.ref (hC c p i).length),v',?_⟩;have hF1:hF c p (i+1)=.ref (hC c p i).length:=by rw[zJ];rfl
 rw[MK,hF1];simp only[vU,jv,fR,Q0,bK,R.aD];rw[if_pos ⟨by simp,by simp⟩]
 simp only[R.aD,amf,amS,gE];rw[hseq];simp only[R.aD];unfold zF at hf;show R.bind (cG st (aA 5) _ (LD (dw p i)) [ζ (.int many),ζ (.int P),ζ (hF c p i),v3,ζ (.ref (hC c p i).length),v5] (hC c p i++[.lst (LD ([].flatMap (more p)))])) _=_;rw[hf];rfl
def eS(p n:Nat):List (List Int):=(dw p n).map (· ++ [1])
theorem ya(p:Nat):∀i,∀r∈dw p i,r.length=i
 |0,r,h=>by
  rw[dw,alw]at h;subst h;rfl
 |i+1,r,h=>by
  rw[dw,apS]at h;obtain⟨r',h1,h2⟩:=h;obtain⟨d,_,rfl⟩:=akW.mp h2;rw[alp,ya p i r' h1];rfl
theorem Mw{P many:Int}{p n:Nat}(hP:P=p) (hn:many=n) (bP:-4611686018427387904<=P/\P<4611686018427387904) (bn:-4611686018427387904<=many/\many<4611686018427387904) (hp:0<p) (eO:p<1000) (adv:p^n<1000) (hn':n<100) (c:aa) :
  nM [.int many,.int P] c=.ok (.lst (LD (eS p n))) c:=by
 have hs:=fy (n:=1000) (by decide)
 obtain⟨v',hf⟩:=pT (α:=Option D×Option D×Option D) (g:=aA 3) (s:=vU) (hC c p) (λi v=>[ζ (.int many),ζ (.int P),ζ (hF c p i),v.1,v.2.1,v.2.2]) hn (η,η,η) (λi hi v=>by
  obtain⟨w4,w5,h⟩:=adT (c:=c) (many:=many) (p:=p) (i:=i) hP bP eO (amr (amZ (apT hp hi) adv)) (λr hr=>by rw[ya p i r hr];omega) (ζ (.int i)) v.2.1 v.2.2
  exact⟨_,rfl,(ζ (.int i),w4,w5),h⟩)
 obtain⟨st,hst,hseq⟩:=MJ c p n [] (e:=[ζ (.int many),ζ (.int P),ζ (hF c p n),v'.1,v'.2.1,v'.2.2]) (k:=2) rfl;rw[amb]at hseq;have adn:st (hC c p n):=by have:=hst [];rwa[amb]at this
 have hcp:=Gy (c:=hC c p n) st adn (g:=aA 0) (t:=aJ) (a:=au dP (ak 0) (bH (ao (dC (.int 1)) aq))) (λe=>∃v,e=[v]) (λ_=>Ξ) (λd=>match d with|.lst l=>.lst (l++[.int 1])|d=>d)
  (LD (dw p n)) [η] [] ⟨η,rfl⟩ (λx hx e ⟨v,he⟩=>by
   subst he;obtain⟨r,hr,rfl⟩:=akW.mp hx;have hz:r.length+1<=ι:=by rw[ya p n r hr];omega
   refine⟨_,rfl,⟨_,rfl⟩,rfl,λ_=>?_⟩
   simp[dP,hz])
 have hit:(LD (dw p n)).length<ι:=by rw[kL,zE];omega
 have hres:[]++((LD (dw p n)).filter λ_=>Ξ).map (λd=>match d with|.lst l=>D.lst (l++[.int 1])|d=>d)=LD (eS p n):=by
  rw[alm,E5];unfold LD eS;rw[alh,alh];apply alY;intro r _;simp
 rw[hres]at hcp;have hb:oA=aE (aG 2 (bH (ao (bH aq) aq))) (aE (bQ (aV (ao (ak 0) aq)) (aA 3) vU) (aK (aT (gh (ak 2)) [η] (aA 0) aJ (au dP (ak 0) (bH (ao (dC (.int 1)) aq)))))):=rfl;have hC0:hC c p 0=c:=by simp[hC]
 rw[hC0]at hf;have key:oA [ζ (.int many),ζ (.int P),η,η,η,η] c=.ok (.rt (.lst (LD (eS p n)))) (hC c p n):=by
  rw[hb];simp only[jv,fR,BB,bE,bK,R.aD];rw[if_pos (by decide)]
  simp only[R.aD];rw[if_pos (by decide)]
  simp only[R.aD,amf,amS,gE,gr,bE,bJ,bK,gz];rw[if_pos (by omega)]
  simp only[R.aD];show R.bind (cG (λ_=>True) (aA 3) vU (bf 0 many) [ζ (.int many),ζ (.int P),ζ (hF c p 0),η,η,η] c) _=_
  rw[hf];simp only[R.aD,jw,dF];rw[hseq];simp only[R.aD];rw[if_pos hit];show R.bind (R.bind (bI st (aA 0) aJ (au dP (ak 0) (bH (ao (dC (.int 1)) aq))) (LD (dw p n)) [η] [] (hC c p n)) _) _=_;rw[hcp];rfl
 rw[nM,fu];show R.bind (oA [ζ (.int many),ζ (.int P),η,η,η,η] c) _=_;rw[key];simp[HL,hC]
theorem Nn:∀a b:List Int,PyData.eqvAll (a.map PyData.int) (b.map PyData.int)=decide (a=b)
 |[],[]=>by simp[PyData.eqvAll]
 |[],b::bs=>by simp[PyData.eqvAll]
 |a::as,[]=>by simp[PyData.eqvAll]
 |a::as,b::bs=>by
  rw[ak2,ak2,PyData.eqvAll,Nn as bs,PyData.eqv]
  by_cases h:a=b
  ·subst h;simp
  ·simp[h]
theorem afr(a:List Int):PyData.depthAll (a.map PyData.int)=0:=by
 induction a with
 |nil=>simp[PyData.depthAll]
 |cons x a ih=>simp[PyData.depthAll,PyData.depth,ih]
theorem af1(L:List (List Int)):fN (LD L)=ζ (L.map λr=>PyData.list (r.map PyData.int)):=by
 induction L with
 |nil=>simp[LD]
 |cons r L ih =>
  have ih:fN (L.map λr=>D.lst (r.map D.int))=ζ (L.map λr=>PyData.list (r.map PyData.int)):=ih
  simp[LD,fN,d8,NJ,ih]
theorem ac5(r:List Int) (L:List (List Int)) (c:aa):inD (.lst (r.map D.int)) (.ref c.length) (c++[.lst (LD L)])=.ok (.bl (decide (r∈L))) (c++[.lst (LD L)]):=by
 unfold inD;have h1:gg (c++[.lst (LD L)]) (.lst (r.map D.int))=ζ (.list (r.map PyData.int)):=by simp[gg,d8,NJ]
 have h2:gg (c++[.lst (LD L)]) (.ref c.length)=ζ (.list (L.map λr=>PyData.list (r.map PyData.int))):=by simp[gg,af1]
 rw[h1,h2];simp only;rw[if_pos (by simp[PyData.depth,afr])]
 congr 2
 clear h1 h2
 induction L with
 |nil=>simp
 |cons a L ih =>
  rw[ak2,List.any_cons,ih,PyData.eqv,Nn]
  by_cases h:a=r
  ·subst h;simp
  ·have:¬r=a:=λz=>h z.symm
   simp[h,this]
def je(p n l:Nat) (one:List Int):List (List Int):=(eS p (n-l)).map λother=>gG one other p
def nA(p n l:Nat):List (List Int):=(eS p l).flatMap (je p n l)
def rL(p n:Nat):List (List Int):=(θ (n/2)).flatMap λl=>nA p n (l+1)
def zQ:ah:=(dR (lJ (ak 3) (aT (gh (aC 2 nM (ao (au bS (ak 2) (ak 4)) (ao (ak 1) aq)))) [η,ζ 5,ζ 1] (aA 0) aJ (aC 3 k7 (ao (ak 1) (ao (ak 0) (ao (ak 2) aq)))))))
def wc:ah:=(bQ (gh (aC 2 nM (ao (ak 4) (ao (ak 1) aq)))) (aA 5) (dR (lJ (ak 3) (aT (gh (aC 2 nM (ao (au bS (ak 2) (ak 4)) (ao (ak 1) aq)))) [η,ζ 5,ζ 1] (aA 0) aJ (aC 3 k7 (ao (ak 1) (ao (ak 0) (ao (ak 2) aq))))))))
theorem Mx{p n:Nat}(hp:p<1000) {r:List Int}(h:r∈eS p n):r.length=n+1/\r≠[]/\∀x∈r,0<=x/\x<1000:=by
 obtain⟨t,ht,rfl⟩:=akW.mp h;refine⟨by rw[alp,ya p n t ht];rfl,by simp,λx hx=>?_⟩
 have gen:∀i,∀r∈dw p i,∀x∈r,0<=x/\x<1000:=by
  intro i
  induction i with
  |zero=>intro r hr x hx;rw[dw,alw]at hr;subst hr;cases hx
  |succ i ih =>
   intro r hr x hx;rw[dw,apS]at hr;obtain⟨r',h1,h2⟩:=hr;obtain⟨d,hd,rfl⟩:=akW.mp h2
   rcases alj.mp hx with hx|hx
   ·exact ih r' h1 x hx
   ·rw[alw]at hx;subst hx;have:=akY.mp hd;omega
 rcases alj.mp hx with hx|hx
 ·exact gen n t ht x hx
 ·rw[alw]at hx;subst hx;omega
theorem ag6{p k:Nat}{one:List Int}{P:Int}(hP:P=p) (hp:0<p) (eO:p<1000) (hk:k<100) (h1:one≠[]) (h2:∀x∈one,0<=x/\x<1000) (h3:one.length<500) (c:aa) :
  bI (λ_=>True) (aA 0) aJ (aC 3 k7 (ao (ak 1) (ao (ak 0) (ao (ak 2) aq)))) (LD (eS p k)) [η,ζ (.lst (one.map D.int)),ζ (.int P)] [] c=.ok (LD ((eS p k).map λother=>gG one other p)) c:=by
 have:=oq (c:=c) (g:=aA 0) (t:=aJ) (a:=aC 3 k7 (ao (ak 1) (ao (ak 0) (ao (ak 2) aq)))) (λe=>∃v,e=[v,ζ (.lst (one.map D.int)),ζ (.int P)]) (λ_=>Ξ)
  (λd=>match d with|.lst l=>.lst ((gG one ((ko l).getD []) p).map D.int)|d=>d) (LD (eS p k)) [η,ζ (.lst (one.map D.int)),ζ (.int P)] [] ⟨η,rfl⟩ (λx hx e ⟨v,he⟩=>by
   subst he;obtain⟨r,hr,rfl⟩:=akW.mp hx;have hb:=Mx eO hr;refine⟨_,rfl,⟨_,rfl⟩,rfl,λ_=>?_⟩
   have jK:=SM (a:=one) (b:=r) (p:=P) (by omega) h1 h2 (by omega) c
   subst hP;simp[jK,vJ])
 rw[this,alm,E5]
 congr 1
 unfold LD;rw[alh,alh];apply alY;intro r _;simp[vJ]
structure A9 (p n:Nat):Prop where
 p0:0<p
 p1:p<1000
 n1:1<n
 n2:n<100
 pw:∀i,i<=n->p^i<1000
theorem zR{α β:Type}(f:α->List β) (k:Nat):∀L:List α,(∀x∈L,(f x).length=k)->(L.flatMap f).length=L.length*k
 |[],_=>by simp
 |a::L,h=>by
  rw[anQ,alp,zR f k L λx hx=>h x (alu _ hx),h a alC,ak4,amd,anr]
theorem sN(p n:Nat):(eS p n).length=p^n:=by rw[eS,ak6,zE]
theorem aeY{p n l:Nat}(B:A9 p n) {P N l':Int}(hP:P=p) (hN:N=n) (hl:l'=l) (l1:1<=l) (l2:l<=n) {c:aa}{acc:List (List Int)}{one:List Int}(h1:one≠[]) (h2:∀x∈one,0<=x/\x<1000) (h3:one.length<500) (ha:acc.length+p^(n-l)<=1000) (q v6:Option D) :
  zQ [q,ζ (.int P),ζ (.int N),ζ (.ref c.length),ζ (.int l'),ζ (.lst (one.map D.int)),v6] (c++[.lst (LD acc)]) =
   .ok (.nx [q,ζ (.int P),ζ (.int N),ζ (.ref c.length),ζ (.int l'),ζ (.lst (one.map D.int)),v6]) (c++[.lst (LD (acc++je p n l one))]):=by
 obtain⟨p0,p1,n1,n2,pw⟩:=B;have hs:=fy (n:=1000) (by decide)
 have hpl:=pw (n-l) (by omega)
 have hh:=Mw (many:=N-l') (P:=P) (p:=p) (n:=n-l) hP (by omega) (by omega) (by omega) p0 p1 hpl (by omega) (c++[.lst (LD acc)])
 have hc:=ag6 (p:=p) (k:=n-l) (one:=one) hP p0 p1 (by omega) h1 h2 h3 (c++[.lst (LD acc)])
 have hit:(LD (eS p (n-l))).length<ι:=by rw[kL,sN];omega
 have hl2:(LD acc).length+(LD (je p n l one)).length<=ι/\bO (LD (je p n l one))=Ξ:=⟨by
  rw[kL,kL,je,ak6,sN];omega,HL _⟩
 have hsub:∀c:aa,bS (.int N) (.int l') c=.ok (.int (N-l')) c:=λ_=>rfl
 simp only[zQ,nc,lJ,bJ,gz,gs,R.aD,dF,xC,x_call,bE,d9,hsub,bK,ak4,ali,if_pos,hh];rw[if_pos hit];show R.bind (R.bind (R.bind (bI (λ_=>True) (aA 0) aJ (aC 3 k7 (ao (ak 1) (ao (ak 0) (ao (ak 2) aq)))) (LD (eS p (n-l))) [η,ζ (.lst (one.map D.int)),ζ (.int P)] [] (c++[.lst (LD acc)])) _) _) _=_
 rw[hc];simp only[R.aD,aom];rw[if_pos (show(LD acc).length+(LD ((eS p (n-l)).map λother=>gG one other p)).length<=ι/\bO (LD ((eS p (n-l)).map λother=>gG one other p))=Ξ from hl2)]
 rw[Pu];simp[je]
theorem aeX{p n l:Nat}(B:A9 p n) {P N l':Int}(hP:P=p) (hN:N=n) (hl:l'=l) (l1:1<=l) (l2:l<=n) {c:aa}{acc:List (List Int)}(ha:acc.length+p^n<=1000) (q v5 v6:Option D) :
  ∃w5,wc [q,ζ (.int P),ζ (.int N),ζ (.ref c.length),ζ (.int l'),v5,v6] (c++[.lst (LD acc)])=.ok (.nx [q,ζ (.int P),ζ (.int N),ζ (.ref c.length),ζ (.int l'),w5,v6]) (c++[.lst (LD (acc++nA p n l))]):=by
 obtain⟨p0,p1,n1,n2,pw⟩:=id B;have hh:=Mw (many:=l') (P:=P) (p:=p) (n:=l) hP hl (by omega) (by omega) p0 p1 (pw l l2) (by omega) (c++[.lst (LD acc)])
 obtain⟨v',hf⟩:=pU (st:=λ_=>True) (g:=aA 5) (s:=zQ) (λj=>c++[.lst (LD (acc++((eS p l).take j).flatMap (je p n l)))]) (λ_ v=>[q,ζ (.int P),ζ (.int N),ζ (.ref c.length),ζ (.int l'),v,v6]) (LD (eS p l)) 0 v5
  (λ_ _=>trivial) (λj x hx v=>by
   rw[alz];have hj:j<(eS p l).length:=by
    have:=(alb.mp hx).1
    rwa[kL]at this
   have hx':x=.lst ((eS p l)[j].map D.int):=by
    have:=(alb.mp hx).2;rw[<-this];simp[LD]
   subst hx';have hb:=Mx p1 (alH hj);refine⟨_,rfl,ζ (.lst ((eS p l)[j].map D.int)),?_⟩;have hfl:=zR (je p n l) (p^(n-l)) ((eS p l).take j) (λy _=>by rw[je,ak6,sN])
   rw[al2,aoQ (by omega)]at hfl
   have hacc:(acc++((eS p l).take j).flatMap (je p n l)).length+p^(n-l)<=1000:=by
    rw[alp,hfl];rw[sN]at hj;have h2:(j+1)*p^(n-l)<=p^l*p^(n-l):=aoR _ hj;rw[<-Nat.pow_add,show l+(n-l)=n by omega,amd]at h2
    omega
   have:=aeY (l:=l) B hP hN hl l1 l2 (c:=c) hb.2.1 hb.2.2 (by omega) hacc q v6
   rw[IM _ hj,<-alA];exact this)
 rw[kL,alz,amN]at hf;refine⟨v',?_⟩;simp only[wc,gE,xC,x_call,bE,bJ,gz,gs,R.aD,bK,ak4,ali,if_pos,hh];unfold zQ at hf;have e0:acc++([]:List (List Int)).flatMap (je p n l)=acc:=by simp
 rw[anz,e0]at hf;exact hf
theorem VL(p n:Nat) (h:∀l,1<=l->l<=n->(nA p n l).length=p^n):∀i,i<=n->((θ i).flatMap λl=>nA p n (l+1)).length=i*p^n:=λi hi=>by
 rw[zR _ (p^n) (θ i) λx hx=>h (x+1) (by omega) (by have:=akY.mp hx;omega),alN]
theorem VM(p n l:Nat) (h:l<=n):(nA p n l).length=p^n:=by
 rw[nA,zR _ (p^(n-l)) _ λx _=>by rw[je,ak6,sN],sN,<-Nat.pow_add,show l+(n-l)=n by omega]
theorem aeW{p n:Nat}(B:A9 p n) (hb:(n/2)*p^n<=1000) {P N:Int}(hP:P=p) (hN:N=n) (c:aa) (q v6:Option D) :
  ∃w4 w5,cG (λ_=>True) (aA 4) wc (bf 1 (N/2+1)) [q,ζ (.int P),ζ (.int N),ζ (.ref c.length),η,η,v6] (c++[.lst []])=.ok (.nx [q,ζ (.int P),ζ (.int N),ζ (.ref c.length),w4,w5,v6]) (c++[.lst (LD (rL p n))]):=by
 have n1:=B.n1;have hl:(bf 1 (N/2+1)).length=n/2:=by rw[fG];omega
 obtain⟨v',hf⟩:=pU (α:=Option D×Option D) (st:=λ_=>True) (g:=aA 4) (s:=wc) (λi=>c++[.lst (LD ((θ i).flatMap λl=>nA p n (l+1)))]) (λ_ v=>[q,ζ (.int P),ζ (.int N),ζ (.ref c.length),v.1,v.2,v6]) (bf 1 (N/2+1)) 0 (η,η)
  (λ_ _=>trivial) (λi x hx v=>by
   rw[alz];obtain⟨h1,rfl⟩:=B4 hx;have hi:i<n/2:=by omega
   have hacc:((θ i).flatMap λl=>nA p n (l+1)).length+p^n<=1000:=by
    rw[VL p n (λl _ h=>VM p n l h) i (by omega)]
    have h2:(i+1)*p^n<=(n/2)*p^n:=aoR _ hi;rw[amd]at h2;omega
   obtain⟨w,h⟩:=aeX (l:=i+1) (l':=1+(i:Int)) B hP hN (by omega) (by omega) (by omega) (c:=c) hacc q v.2 v6
   refine⟨_,rfl,(ζ (.int (1+(i:Int))),w),?_⟩;rw[amg,aoP]
   simpa using h)
 rw[hl,alz]at hf;exact⟨v'.1,v'.2,hf⟩
def zP:ai:=(aL (au inD (au dP (aC 3 fH (ao (ak 6) (ao (ak 1) (ao (ak 2) aq)))) (bH (ao (dC (.int 1)) aq))) (ak 3)))
theorem Ni{p n:Nat}{P N:Int}(hP:P=p) (hN:N=n) (hp:0<p) (eO:p<1000) (hn:n<100) {t:Int}{c:aa}{L:List (List Int)}(q v4 v5:Option D) :
  zP [q,ζ (.int P),ζ (.int N),ζ (.ref c.length),v4,v5,ζ (.int t)] (c++[.lst (LD L)])=.ok (decide (bV P n t++[1]∈L)) (c++[.lst (LD L)]):=by
 have hs:=fy (n:=1000) (by decide)
 have hr:=zj (p:=P) (N:=N) (x:=t) (n:=n) (by omega) (by omega) (by rw[fG];omega) (by omega) (by omega) (c++[.lst (LD L)])
 have hz:(bV P n t).length+1<=ι:=by rw[iI];omega
 have hi:=ac5 (bV P n t++[1]) L c;rw[alU]at hi;simp[zP,hr,dP,hz];simp at hi;rw[hi];rfl
theorem Nh{p n:Nat}{P N:Int}(hP:P=p) (hN:N=n) (hp:0<p) (eO:p<1000) (hn:n<100) {c:aa}{L:List (List Int)}{low:Nat}(h1:∀t,t<low->bV P n t++[1]∈L) (h2:bV P n low++[1]∉L) (q v4 v5:Option D):∀(k fuel t:Nat),t+k=low->k<fuel ->
  gF zP (aG 6 (au aZ (ak 6) (dC (.int 1)))) fuel [q,ζ (.int P),ζ (.int N),ζ (.ref c.length),v4,v5,ζ (.int t)] (c++[.lst (LD L)])=.ok (.nx [q,ζ (.int P),ζ (.int N),ζ (.ref c.length),v4,v5,ζ (.int low)]) (c++[.lst (LD L)])
 |0,fuel+1,t,e,_=>by
  have e:t=low:=by omega
  subst e;unfold gF;rw[Ni hP hN hp eO hn,decide_eq_false h2];rfl
 |k+1,fuel+1,t,e,hf=>by
  have ih:=Nh (c:=c) hP hN hp eO hn h1 h2 q v4 v5 k fuel (t+1) (by omega) (by omega)
  unfold gF;rw[Ni hP hN hp eO hn,decide_eq_true (h1 t (by omega))]
  simp only[R.aD,if_pos];have es:(aG 6 (au aZ (ak 6) (dC (.int 1)))) [q,ζ (.int P),ζ (.int N),ζ (.ref c.length),v4,v5,ζ (.int t)] (c++[.lst (LD L)])=.ok (.nx [q,ζ (.int P),ζ (.int N),ζ (.ref c.length),v4,v5,ζ (.int ((t+1:Nat):Int))]) (c++[.lst (LD L)]):=by simp
  rw[es];exact ih
def fj(f:Fd):List Int:=if f.n=1 then[0,1]else bV f.p f.n f.low++[1]
def N4(f:Fd):Bool:=Nat.beq f.n 1||((θ f.low).all λt=>(rL f.p f.n).any λr=>decide (r=bV f.p f.n t++[1]))&&((rL f.p f.n).all λr=>decide (¬r=bV f.p f.n f.low++[1]))&&Nat.ble ((f.n/2)*f.p^f.n) 1000&&Nat.ble (f.low+1) 60
theorem aiG:cR.all N4=Ξ:=by decide +kernel
def bF(G W:ah):ah:=(aE (aG 1 (aC 1 gy (ao (ak 0) aq))) (aE (aG 2 (aC 1 j9 (ao (ak 0) aq))) (aE (bq (aL (au cy (ak 2) (dC (.int 1)))) (aK (bH (ao (dC (.int 0)) (ao (dC (.int 1)) aq)))) br) (aE (aG 3 (eV aq)) (aE (bQ (oi (ao (dC (.int 1)) (ao (au aZ (au gO (ak 2) (dC (.int 2))) (dC (.int 1))) aq))) (aA 4) G) (aE (aG 6 (dC (.int 0))) (aE W (aK (au dP (aC 3 fH (ao (ak 6) (ao (ak 1) (ao (ak 2) aq)))) (bH (ao (dC (.int 1)) aq)))))))))))
theorem ahV:uf=bF wc (gF zP (aG 6 (au aZ (ak 6) (dC (.int 1)))) 60):=rfl
theorem aeP{G W:ah}{q P N low:Int}{w4 w5:Option D}{c:aa}{C:aa}{row:List D}{bA:List Int}(hq:-4611686018427387904<=N/2+1/\N/2+1<4611686018427387904) (hn1:¬N=1) (hp:gy [.int q] c=.ok (.int P) c) (hd:j9 [.int q] c=.ok (.int N) c) (hrl:row.length+1<1000)
  (hl:cG (λ_=>True) (aA 4) G (bf 1 (N/2+1)) [ζ (.int q),ζ (.int P),ζ (.int N),ζ (.ref c.length),η,η,η] (c++[.lst []])=.ok (.nx [ζ (.int q),ζ (.int P),ζ (.int N),ζ (.ref c.length),w4,w5,η]) (c++C))
  (hw:W [ζ (.int q),ζ (.int P),ζ (.int N),ζ (.ref c.length),w4,w5,ζ (.int 0)] (c++C)=.ok (.nx [ζ (.int q),ζ (.int P),ζ (.int N),ζ (.ref c.length),w4,w5,ζ (.int low)]) (c++C))
  (hr:fH [.int low,.int P,.int N] (c++C)=.ok (.lst row) (c++C)) (he:bA.map D.int=row++[.int 1]):bM 7 ξ (bF G W) [.int q] c=.ok (.lst (bA.map D.int)) c:=by
 have hs:=fy (n:=1000) (by decide)
 have EF:gO (.int N) (.int 2) (c++[.lst []])=.ok (.int (N/2)) (c++[.lst []]):=sW _ (by decide) (by decide)
 have hz:row.length+1<=ι:=by omega
 have href:bO (row++[.int 1])=Ξ:=by rw[<-he];exact yV
 have key:bF G W [ζ (.int q),η,η,η,η,η,η] c=.ok (.rt (.lst (row++[.int 1]))) (c++C):=by
  simp[bF,hp,hd,hn1,EF];rw[if_pos (by omega)]
  simp only[R.aD];rw[hl];simp[hw,hr,dP,hz]
 rw[fu];show R.bind (bF G W [ζ (.int q),η,η,η,η,η,η] c) _=_;rw[key,he];simp[href]
theorem aeM{G W:ah}{q P:Int}{c:aa}(hp:gy [.int q] c=.ok (.int P) c) (hd:j9 [.int q] c=.ok (.int 1) c):bM 7 ξ (bF G W) [.int q] c=.ok (.lst [.int 0,.int 1]) c:=by
 simp[bF,hp,hd]
theorem aeN{f:Fd}(h:f∈cR) (c:aa):sC [.int f.q] c=.ok (.lst ((fj f).map D.int)) c:=by
 have I:=iO h;have p2:=I.p2;have j6:=I.j6;have n1:=I.n1;have n5:=I.n5;have hF:=ak0.mp aiG f h;have hp:=Cf h c;have hd:=NC h c;rw[sC,ahV]
 by_cases hn:f.n=1
 ·have e:fj f=[0,1]:=if_pos hn;rw[e];exact aeM hp (by rw[hd,hn];rfl)
 ·have e:fj f=bV f.p f.n f.low++[1]:=if_neg hn;have hn0:Nat.beq f.n 1=ξ:=by
   cases hq:Nat.beq f.n 1 with
   |false=>rfl
   |true=>exact absurd (be hq) hn
  simp only[N4,hn0,aoS,ak9]at hF;obtain⟨⟨⟨f1,f2⟩,f3⟩,f4⟩:=hF;have g1:∀t,t<f.low->bV (f.p:Int) f.n t++[1]∈rL f.p f.n:=λt ht=>by
   have:=ak0.mp f1 t (akY.mpr ht);obtain⟨r,hr,he⟩:=aoT.mp this;rw[<-of_decide_eq_true he];exact hr
  have g2:bV (f.p:Int) f.n f.low++[1]∉rL f.p f.n:=λhm=>by
   have:=ak0.mp f2 _ hm;simp at this
  have hq:f.q<1000:=by
   have:(cR.all λf=>decide (f.q<1000))=Ξ:=by decide +kernel
   simpa using ak0.mp this f h
  have B:A9 f.p f.n:=⟨by omega,by omega,by omega,by omega,λi hi=>by
   have:=apT (n:=f.p) (by omega) hi
   rw[I.pn]at this;omega⟩
  obtain⟨w4,w5,hl⟩:=aeW (P:=f.p) (N:=f.n) B (bl f3) rfl rfl c (ζ (.int f.q)) η;have hw:=Nh (P:=f.p) (N:=f.n) (p:=f.p) (n:=f.n) rfl rfl (by omega) (by omega) (by omega) (c:=c) g1 g2 (ζ (.int f.q)) w4 w5 f.low 60 0 (by omega) (bl f4)
  have hr:=zj (p:=f.p) (N:=f.n) (x:=f.low) (n:=f.n) (by omega) (by omega) (by rw[fG];omega) (by omega) (by omega) (c++[.lst (LD (rL f.p f.n))])
  exact aeP (by omega) (by omega) hp hd (by rw[ak6,iI];omega) hl hw hr (by rw[e,alU];rfl)
def kW(p fV:Int) (bA:List Int) (base:Nat) (F:List Int):Nat->List Int
 |0=>F
 |k+1=>(kW p fV bA base F k).set (base+k) ((gI (kW p fV bA base F k) (base+k)-fV*gI bA k) % p)
def ir(p:Int) (bA:List Int) (n:Nat) (F:List Int):Nat->List Int
 |0=>F
 |i+1=>kW p (gI (ir p bA n F i) (2*n-2-i)) bA (2*n-2-i-n) (ir p bA n F i) (n+1)
def rM(p:Int) (n:Nat) (bA:List Int) (x y:Int):Int:=jC p ((ir p bA n (gG (bV p n x) (bV p n y) p) (n-1)).take n)
theorem yg{p fV:Int}{bA:List Int}{base:Nat}{F:List Int}:∀k,(kW p fV bA base F k).length=F.length
 |0=>rfl
 |k+1=>by rw[kW,aoa,yg k]
theorem yf{p:Int}{bA:List Int}{n:Nat}{F:List Int}:∀i,(ir p bA n F i).length=F.length
 |0=>rfl
 |i+1=>by rw[ir,yg,yf i]
theorem Jc(a b:List Int) (p:Int):(gG a b p).length=a.length+b.length-1:=by rw[gG,yF,anp]
def yq:ah:=(aE (aG 10 (au aZ (au bS (ak 7) (ak 5)) (ak 9))) (kU (au bT (au bS (au aF (ak 6) (ak 10)) (au b8 (ak 8) (au aF (ak 1) (ak 9)))) (ak 4)) (lF (ak 6) (ak 10))))
theorem XF{bA F:List Int}{p fV N place:Int}{c:aa}{base k n:Nat}(hp:0<p) (hN:N=n) (hpl:place=(base:Int)+n) (hk:k<bA.length) (hF:base+k<F.length) (hs:∀x∈bA,0<=x/\x<1000) (q a2 a3 v10:Option D) :
  yq [q,ζ (.lst (bA.map D.int)),a2,a3,ζ (.int p),ζ (.int N),ζ (.ref c.length),ζ (.int place),ζ (.int fV),ζ (.int k),v10] (c++[.lst (F.map D.int)]) =
   .ok (.nx [q,ζ (.lst (bA.map D.int)),a2,a3,ζ (.int p),ζ (.int N),ζ (.ref c.length),ζ (.int place),ζ (.int fV),ζ (.int k),ζ (.int (place-N+k))]) (c++[.lst ((F.set (base+k) ((gI F (base+k)-fV*gI bA k) % p)).map D.int)]):=by
 have h1:=El (c:=c) (l:=F.map D.int) (i:=place-N+k) (j:=base+k) (d:=.int (gI F (base+k))) (by omega) (sR hF)
 have h2:cJ (bA.map D.int) k=ζ (.int (gI bA k)):=gQ (sR hk);have hb:0<=gI bA k/\gI bA k<1000:=hs _ (by simp[gI,List.getD,hk])
 have h4:∀c,b8 (.int fV) (.int (gI bA k)) c=.ok (.int (fV*gI bA k)) c:=λc=>mul_r c (by omega) (by omega)
 have h5:=λx=>Jr (c:=c) (l:=F.map D.int) (i:=place-N+k) (j:=base+k) (d:=.int x) (by omega) (by simpa using hF) rfl
 have h6:∀x c,bT (.int x) (.int p) c=.ok (.int (x % p)) c:=λx c=>jG c hp
 simp only[yq,jv,fR,Iq,d9,bJ,gz,gs,R.aD,oQ,xy,amf,amS,qv,h1,h2,h4,h6,Ip,h5,map_set]
def yp:ah:=(aE (aG 8 (au aF (ak 6) (ak 7))) (bQ (aV (ao (au aZ (ak 5) (dC (.int 1))) aq)) (aA 9) (aE (aG 10 (au aZ (au bS (ak 7) (ak 5)) (ak 9))) (kU (au bT (au bS (au aF (ak 6) (ak 10)) (au b8 (ak 8) (au aF (ak 1) (ak 9)))) (ak 4)) (lF (ak 6) (ak 10))))))
theorem XE{bA F:List Int}{p N place:Int}{c:aa}{base n:Nat}(hp:0<p) (hN:N=n) (b1:-4611686018427387904<=N+1/\N+1<4611686018427387904) (hpl:place=(base:Int)+n) (hk:bA.length=n+1) (hF:base+n<F.length) (hs:∀x∈bA,0<=x/\x<1000) (q a2 a3 v8 v9 v10:Option D) :
  ∃w8 w9 nh,yp [q,ζ (.lst (bA.map D.int)),a2,a3,ζ (.int p),ζ (.int N),ζ (.ref c.length),ζ (.int place),v8,v9,v10] (c++[.lst (F.map D.int)]) =
   .ok (.nx [q,ζ (.lst (bA.map D.int)),a2,a3,ζ (.int p),ζ (.int N),ζ (.ref c.length),ζ (.int place),w8,w9,nh]) (c++[.lst ((kW p (gI F (base+n)) bA base F (n+1)).map D.int)]):=by
 have h1:=El (c:=c) (l:=F.map D.int) (i:=place) (j:=base+n) (d:=.int (gI F (base+n))) (by omega) (sR hF)
 obtain⟨v',hf⟩:=pT (α:=Option D×Option D) (g:=aA 9) (s:=yq) (N:=N+1) (n:=n+1) (λk=>c++[.lst ((kW p (gI F (base+n)) bA base F k).map D.int)]) (λ_ v=>[q,ζ (.lst (bA.map D.int)),a2,a3,ζ (.int p),ζ (.int N),ζ (.ref c.length),ζ (.int place),ζ (.int (gI F (base+n))),v.1,v.2]) (by omega) (v9,v10) (λk hk' v=>by
  exact⟨_,rfl,(ζ (.int k),_),XF hp hN hpl (by omega) (by rw[yg];omega) hs q a2 a3 v.2⟩)
 refine⟨ζ (.int (gI F (base+n))),v'.1,v'.2,?_⟩;simp only[yp,jv,fR,d9,bJ,gz,gs,R.aD,h1,amf,amS,gE,gr,bE,oO,oQ,bK];rw[if_pos (by omega)]
 unfold yq at hf;exact hf
theorem abo(l:List Int) (c:aa):aN [.ref c.length] (c++[.lst (l.map D.int)])=.ok (.int l.length) (c++[.lst (l.map D.int)]):=by
 unfold aN;simp[gw]
def wL(L:List D->aa->R D) (S:Ev->aa->R Src) (Rt:ah) (G:ah):ah:=(aE (aG 4 (aC 1 gy (ao (ak 0) aq))) (aE (aG 5 (au bS (aB L (ao (ak 1) aq)) (dC (.int 1)))) (aE (aG 6 (aC 3 sf (ao (aC 3 fH (ao (ak 2) (ao (ak 4) (ao (ak 5) aq)))) (ao (aC 3 fH (ao (ak 3) (ao (ak 4) (ao (ak 5) aq)))) (ao (ak 4) aq))))) (aE (bQ S (aA 7) G) Rt))))
theorem ahT:t7=wL aN (tF (ao (au bS (aB aN (ao (ak 6) aq)) (dC (.int 1))) (ao (au bS (ak 5) (dC (.int 1))) (ao (au bS (dC (.int 0)) (dC (.int 1))) aq)))) (aK (aC 2 pJ (ao (wo (ak 6) eU (eT (ak 5))) (ao (ak 4) aq)))) yp:=rfl
theorem UP{L:List D->aa->R D}{M N:Int}{e:Ev}{c:aa}{d:D}(h6:e[6]? = ζ (ζ d)) (h5:e[5]? = ζ (ζ (.int N))) (hM:L [d] c=.ok (.int M) c) (b1:-4611686018427387904<=M-1/\M-1<4611686018427387904/\-4611686018427387904<=N-1/\N-1<4611686018427387904) :
  (tF (ao (au bS (aB L (ao (ak 6) aq)) (dC (.int 1))) (ao (au bS (ak 5) (dC (.int 1))) (ao (au bS (dC (.int 0)) (dC (.int 1))) aq)))) e c=.ok ⟨jn (M-1) (N-1),λ_=>True⟩ c:=by
 simp only[tF,bE,d9,dG,bJ,oO,bK,h6,h5,R.aD,hM,xy];rw[if_pos ⟨by decide,by omega,by omega,by omega,by omega⟩]
theorem agg{l:List D}{n:Nat}{N:Int}(hN:N=n) (h:n<=l.length):cutD l η (ζ N)=l.take n:=by
 subst hN;have:HT.bw l.length l.length (ζ (n:Int))=n:=by rw[HT.Ux];omega
 show(l.drop 0).take (HT.bw l.length l.length (ζ (n:Int))-0)=_;rw[this];simp
theorem TY{e:Ev}{N:Int}{n:Nat}{F:List Int}{c:aa}(h6:e[6]? = ζ (ζ (.ref c.length))) (h5:e[5]? = ζ (ζ (.int N))) (EI:cutD (F.map D.int) η (ζ N)=(F.take n).map D.int):wo (ak 6) eU (eT (ak 5)) e (c++[.lst (F.map D.int)])=.ok (.lst ((F.take n).map D.int)) (c++[.lst (F.map D.int)]):=by
 have adC:dW (c++[.lst (F.map D.int)]) (.ref c.length)=ζ (F.map D.int):=by simp[dW]
 rw[QS,bJ,h6,R.aD,QW,R.aD,QV,bJ,h5,R.aD,R.aD,adC];show R.ok (D.lst (cutD (F.map D.int) η (ζ N))) _=_;rw[EI]
theorem UI{m:List D->aa->R D}{Sl:af}{e:Ev}{c:aa}{p w:Int}{l:List D}(hS:Sl e c=.ok (.lst l) c) (h4:e[4]? = ζ (ζ (.int p))) (hn:m [.lst l,.int p] c=.ok (.int w) c):aK (aC 2 m (ao Sl (ao (ak 4) aq))) e c=.ok (.rt (.int w)) c:=by
 rw[jw,x_call,bE,hS,R.aD,bE,bJ,h4,R.aD,bK,R.aD,R.aD,R.aD,if_pos (show[D.lst l,D.int p].length=2 from rfl),hn,R.aD]
theorem Xy{L:List D->aa->R D}{S:Ev->aa->R Src}{Rt:ah}{its:List D}{G:ah}{q x y p N w:Int}{bA:List Int}{rx ry:List D}{F F':List Int}{c:aa}{w7 w8 w9 nh:Option D}(hp:gy [.int q] c=.ok (.int p) c) (hL:L [.lst (bA.map D.int)] c=.ok (.int (N+1)) c)
  (h1:fH [.int x,.int p,.int N] c=.ok (.lst rx) c) (h2:fH [.int y,.int p,.int N] c=.ok (.lst ry) c) (h3:sf [.lst rx,.lst ry,.int p] c=.ok (.ref c.length) (c++[.lst (F.map D.int)]))
  (hS:S [ζ (.int q),ζ (.lst (bA.map D.int)),ζ (.int x),ζ (.int y),ζ (.int p),ζ (.int N),ζ (.ref c.length),η,η,η,η] (c++[.lst (F.map D.int)])=.ok ⟨its,λ_=>True⟩ (c++[.lst (F.map D.int)]))
  (hf:cG (λ_=>True) (aA 7) G its [ζ (.int q),ζ (.lst (bA.map D.int)),ζ (.int x),ζ (.int y),ζ (.int p),ζ (.int N),ζ (.ref c.length),η,η,η,η] (c++[.lst (F.map D.int)])=.ok (.nx [ζ (.int q),ζ (.lst (bA.map D.int)),ζ (.int x),ζ (.int y),ζ (.int p),ζ (.int N),ζ (.ref c.length),w7,w8,w9,nh]) (c++[.lst (F'.map D.int)]))
  (hRt:Rt [ζ (.int q),ζ (.lst (bA.map D.int)),ζ (.int x),ζ (.int y),ζ (.int p),ζ (.int N),ζ (.ref c.length),w7,w8,w9,nh] (c++[.lst (F'.map D.int)])=.ok (.rt (.int w)) (c++[.lst (F'.map D.int)])):bM 11 ξ (wL L S Rt G) [.int q,.lst (bA.map D.int),.int x,.int y] c=.ok (.int w) c:=by
 have key:wL L S Rt G [ζ (.int q),ζ (.lst (bA.map D.int)),ζ (.int x),ζ (.int y),η,η,η,η,η,η,η] c=.ok (.rt (.int w)) (c++[.lst (F'.map D.int)]):=by
  simp[wL,hp,hL,h1,h2,h3,hS];rw[hf];simp only[R.aD];rw[hRt]
 rw[fu];show R.bind (wL L S Rt G [ζ (.int q),ζ (.lst (bA.map D.int)),ζ (.int x),ζ (.int y),η,η,η,η,η,η,η] c) _=_;rw[key];simp
theorem aeO{f:Fd}(h:f∈cR):(fj f).length=f.n+1/\∀x∈fj f,0<=x/\x<1000:=by
 have I:=iO h;have p2:=I.p2;have j6:=I.j6;unfold fj;split
 ·rename_i e;rw[e];exact⟨rfl,λx hx=>by simp at hx;omega⟩
 ·refine⟨by rw[alp,iI];rfl,λx hx=>?_⟩
  rcases alj.mp hx with hx|hx
  ·have:=BY (p:=f.p) (by omega) f.n f.low x hx;omega
  ·rw[alw]at hx;omega
theorem VO{f:Fd}(h:f∈cR) (x y:Int) (c:aa):sy [.int f.q,.lst ((fj f).map D.int),.int x,.int y] c=.ok (.int (rM f.p f.n (fj f) x y)) c:=by
 have I:=iO h;have p2:=I.p2;have j6:=I.j6;have n1:=I.n1;have n5:=I.n5;obtain⟨fl,fb⟩:=aeO h;have rl:∀z,(bV (f.p:Int) f.n z).length=f.n:=iI _ _;have rb:=λz=>BY (p:=f.p) (by omega) f.n z
 have h1:=λz=>zj (p:=f.p) (N:=f.n) (x:=z) (n:=f.n) (by omega) (by omega) (by rw[fG];omega) (by omega) (by omega) c
 have h3:=SK (a:=bV f.p f.n x) (b:=bV f.p f.n y) (p:=f.p) (by omega) (λz=>by have:=rl x;rw[z]at this;simp at this;omega) (λd hd=>by have:=rb x d hd;omega) (by rw[rl,rl];omega) c
 have MI:(gG (bV f.p f.n x) (bV f.p f.n y) f.p).length=2*f.n-1:=by rw[Jc,rl,rl];omega
 generalize hF:gG (bV (f.p:Int) f.n x) (bV f.p f.n y) f.p=F at h3 MI
 have hdl:(jn (((2*f.n-1:Nat):Int)-1) ((f.n:Int)-1)).length=f.n-1:=by simp[jn];omega
 obtain⟨v',hf⟩:=pU (α:=Option D×Option D×Option D×Option D) (st:=λ_=>True) (g:=aA 7) (s:=yp) (λi=>c++[.lst ((ir f.p (fj f) f.n F i).map D.int)]) (λ_ v=>[ζ (.int f.q),ζ (.lst ((fj f).map D.int)),ζ (.int x),ζ (.int y),ζ (.int f.p),ζ (.int f.n),ζ (.ref c.length),v.1,v.2.1,v.2.2.1,v.2.2.2])
  (jn (((2*f.n-1:Nat):Int)-1) ((f.n:Int)-1)) 0 (η,η,η,η) (λ_ _=>trivial) (λi z hz v=>by
   rw[alz];have hi:i<f.n-1:=by
    have:=(alb.mp hz).1;omega
   have hz':z=.int ((((2*f.n-1:Nat):Int)-1)-i):=by
    unfold jn at hz;rw[alk]at hz;cases hq:(θ ((((2*f.n-1:Nat):Int)-1)-((f.n:Int)-1)).toNat)[i]? with
    |none=>rw[hq]at hz;cases hz
    |some u =>
     rw[hq]at hz;have:=(alb.mp hq).2;rw[anA]at this;subst this;cases hz;rfl
   subst hz';obtain⟨w8,w9,nh,hb⟩:=XE (bA:=fj f) (F:=ir f.p (fj f) f.n F i) (p:=f.p) (N:=f.n) (place:=(((2*f.n-1:Nat):Int)-1)-i) (c:=c) (base:=2*f.n-2-i-f.n) (n:=f.n) (by omega) rfl (by omega) (by omega) fl (by rw[yf];omega) fb (ζ (.int f.q)) (ζ (.int x)) (ζ (.int y)) v.2.1 v.2.2.1 v.2.2.2
   refine⟨_,rfl,(ζ (.int ((((2*f.n-1:Nat):Int)-1)-i)),w8,w9,nh),?_⟩;rw[show 2*f.n-2-i-f.n+f.n=2*f.n-2-i by omega]at hb
   exact hb)
 rw[hdl,alz]at hf;have EI:cutD ((ir f.p (fj f) f.n F (f.n-1)).map D.int) η (ζ (f.n:Int))=((ir f.p (fj f) f.n F (f.n-1)).take f.n).map D.int:=by
  rw[agg rfl (by rw[ak6,yf];omega),anP]
 have hn:=Lp (p:=f.p) (by omega) (by omega) ((ir f.p (fj f) f.n F (f.n-1)).take f.n) (by rw[al2];omega) (c++[.lst ((ir f.p (fj f) f.n F (f.n-1)).map D.int)])
 rw[sy,ahT,rM,hF];exact Xy (Cf h c) (by rw[vE,fl];rfl) (h1 x) (h1 y) h3 (UP (M:=((2*f.n-1:Nat):Int)) rfl rfl (by rw[abo,MI]) (by omega)) hf (UI (TY rfl rfl EI) rfl hn)
def vA:List Int->Nat->(Int->Int)->List Int
 |[],_,_=>[]
 |x::l,0,f=>f x::l
 |x::l,i+1,f=>x::vA l i f
theorem CU:∀(l:List Int) (i:Nat) (f:Int->Int),i<l.length->l.set i (f (gI l i))=vA l i f
 |[],i,f,h=>by cases h
 |x::l,0,f,h=>rfl
 |x::l,i+1,f,h=>by
  have:=CU l i f (by simpa using h)
  simp only[amf,vA];rw[<-this];rfl
def zw(p a:Int) (b:List Int) (k:Nat) (F:List Int):Nat->List Int
 |0=>F
 |j+1=>vA (zw p a b k F j) (k+j) λv=>(v+a*gI b j) % p
theorem Es{p a:Int}{b:List Int}{k:Nat}{F:List Int}:∀j,k+j<=F.length->kq p a b k F j=zw p a b k F j
 |0,_=>rfl
 |j+1,h=>by rw[kq,zw,Es j (by omega),CU _ _ (λv=>(v+a*gI b j) % p) (by rw[<-Es j (by omega),zv];omega)]
def yG(p:Int) (a b F:List Int):Nat->List Int
 |0=>F
 |k+1=>zw p (gI a k) b k (yG p a b F k) b.length
theorem J8{p:Int}{a b F:List Int}:∀k,k+b.length<=F.length+1->j7 p a b F k=yG p a b F k
 |0,_=>rfl
 |k+1,h=>by rw[j7,yG,<-J8 k (by omega),Es _ (by rw[yF];omega)]
def M8{α:Type}(i:Int) (g:Int->α):α:=match i with
 |.ofNat n=>(match n with|0=>g (.ofNat 0)|m+1=>g (.ofNat (m+1)))
 |.negSucc n=>g (.negSucc n)
theorem aeH{α:Type}(i:Int) (g:Int->α):M8 i g=g i:=by
 cases i with
 |ofNat n=>cases n<;>rfl
 |negSucc n=>rfl
def ye(p fV:Int) (bA:List Int) (base:Nat) (F:List Int):Nat->List Int
 |0=>F
 |k+1=>vA (ye p fV bA base F k) (base+k) λv=>(v-fV*gI bA k) % p
theorem B9{p fV:Int}{bA:List Int}{base:Nat}{F:List Int}:∀k,base+k<=F.length->kW p fV bA base F k=ye p fV bA base F k
 |0,_=>rfl
 |k+1,h=>by rw[kW,ye,B9 k (by omega),CU _ _ (λv=>(v-fV*gI bA k) % p) (by rw[<-B9 k (by omega),yg];omega)]
def uU(p:Int) (bA:List Int) (n:Nat) (F:List Int):Nat->List Int
 |0=>F
 |i+1=>M8 (gI (uU p bA n F i) (2*n-2-i)) λz=>ye p z bA (2*n-2-i-n) (uU p bA n F i) (n+1)
theorem JE{p:Int}{bA:List Int}{n:Nat}{F:List Int}(hn:1<=n) (hF:F.length=2*n-1):∀i,i<=n-1->ir p bA n F i=uU p bA n F i
 |0,_=>rfl
 |i+1,h=>by rw[ir,uU,aeH,<-JE hn hF i (by omega),B9 _ (by rw[yf];omega)]
def Ce(p:Int) (n:Nat) (bA:List Int) (x y:Int):Int:=jC p ((uU p bA n (yG p (bV p n x) (bV p n y) (ν (2*n-1) 0) n) (n-1)).take n)
theorem VP{p:Int}{n:Nat}(hn:1<=n) (bA:List Int) (x y:Int):rM p n bA x y=Ce p n bA x y:=by
 unfold rM Ce;have hl:(gG (bV p n x) (bV p n y) p).length=2*n-1:=by rw[Jc,iI,iI];omega
 rw[JE hn hl (n-1) (akT _)]
 congr 3
 unfold gG;rw[iI,iI,show n+n-1=2*n-1 by omega,J8 n (by rw[iI,anp];omega)]
def N2(f:Fd):Bool:=Nat.beq f.n 1||(θ f.q).all λx=>(θ f.q).all λy=>Em (Ce f.p f.n (fj f) x y) (Mk f x y)
theorem aiC:cR.all N2=Ξ:=by decide +kernel
theorem VN(p x y:Int):rM p 1 [0,1] x y=(x % p*(y % p)) % p:=by
 simp[rM,ir,gG,j7,kq,bV,gI,jC]
theorem aa1(p x y:Int):CO p 1 0 x y=(x % p*(y % p)) % p:=by
 simp[CO,mulR,bV,IK,C0,fL]
theorem abj:(cR.all λf=>!Nat.beq f.n 1||Nat.beq f.low 0)=Ξ:=by decide +kernel
theorem VQ{f:Fd}(h:f∈cR) {x y:Nat}(hx:x<f.q) (hy:y<f.q) (c:aa):sy [.int f.q,.lst ((fj f).map D.int),.int x,.int y] c=.ok (.int (M f x y:Nat)) c:=by
 rw[VO h];have I:=iO h;have hc:=ak0.mp aiC f h;cases hq:Nat.beq f.n 1 with
 |true =>
  have hn:=be hq;have hl:=ak0.mp abj f h;simp only[hq,amO,aoS]at hl;have e:fj f=[0,1]:=if_pos hn;have hm:=I.mm x y hx hy;unfold mI at hm;rw[e,<-hm,hn,be hl,VN];rw[show((0:Nat):Int)=0 from rfl,aa1]
 |false =>
  simp only[N2,hq,aoS]at hc;have:=ak0.mp (ak0.mp hc x (akY.mpr hx)) y (akY.mpr hy);rw[VP I.n1,LR this,wX]
theorem uN{n:Nat}(s:Nat->Nat->Nat) (i:Nat) {k:Nat}(hk:k<n) (c:aa):aF (.tup (nD ((θ n).map (s i)))) (.int (k:Int)) c=.ok (.int (s i k:Nat)) c:=by
 rw[xD,gQ (v:=.int (s i k:Nat)) (by simp[nD,hk])]
theorem UO(m:Nat):(bB 0 (m:Int)).Pairwise (·<=·):=by
 rw[uV,amx];exact aov.imp fun{a b} h=>by omega
theorem zp(ns:List Int) (m:Nat):fD ns=bB 0 (m:Int)↔∃ps:List Nat,ns=ps.map (λk:Nat=>(k:Int))/\ps.Perm (θ m):=by
 constructor
 ·intro h;have hp:ns.Perm ((θ m).map λk:Nat=>(k:Int)):=by
   have:=(pM ns).symm
   rwa[h,uV]at this
  refine⟨ns.map Int.toNat,?_,?_⟩
  ·rw[alh]
   conv=>lhs;rw[<-amA ns]
   refine alY λn hn=>?_
   obtain⟨k,_,rfl⟩:=akW.mp (hp.mem_iff.mp hn);simp
  ·have:=hp.map Int.toNat;rw[alh]at this;have e:(Int.toNat ∘ λk:Nat=>(k:Int))=id:=by funext k;simp
   rwa[e,amA]at this
 ·rintro ⟨ps,rfl,hp⟩
  refine xT ((pM _).trans ?_) (zo _) (UO m);rw[uV];exact hp.map _
theorem SV{ns:List Int}(hn:ns.length<64) (c:aa):jy [.tup (ns.map D.int)] c=.ok (.lst ((fD ns).map D.int)) c:=by
 unfold jy;dsimp only;rw[vJ];dsimp only;rw[if_pos hn]
theorem append_at{dO da:af}{e:Ev}{c:aa}{acc:List D}{y:D}(ho:dO e (c++[.lst acc])=.ok (.ref c.length) (c++[.lst acc])) (ha:da e (c++[.lst acc])=.ok y (c++[.lst acc])) (hy:noRef y=Ξ) (hl:acc.length<ι) :
  fm dO da e (c++[.lst acc])=.ok .aQ (c++[.lst (acc++[y])]):=by
 unfold fm;rw[ho,R.aD];dsimp only;rw[ha,R.aD];have:(c++[Cell.lst acc])[c.length]? = ζ (.lst acc):=by simp
 rw[this];dsimp only;rw[if_pos ⟨hl,hy⟩];simp
theorem ahf{r:D}{k v:Int}{c:aa}(h:aF r (.int k) c=.ok (.int v) c):(au aF (ak 0) (ak 1)) [ζ r,ζ (.int k)] c=.ok (.int v) c:=by
 simp only[d9,bJ,gz,gs,R.aD,h]
theorem KY(A:List Int) (c:aa):eG (.lst (A.map D.int)) (.lst (A.map D.int)) c=.ok (.bl ξ) c:=by
 rw[(AE A A c).2];simp
theorem SW{ns:List Int}(hn:ns.length<64) (c:aa):i9 [.lst (ns.map D.int)] c=.ok (.lst ((fD ns).map D.int)) c:=by
 unfold i9;dsimp only[dW];rw[vJ];dsimp only;rw[if_pos hn]
theorem acG{xs:List D}{bs:List Bool}{A:List Int}{S:Option D}{v3:Option D}{c:aa}(hl:xs.length<ι) (h1:bI (λ_=>True) (aA 0) aJ (aC 1 iN (ao (ak 0) aq)) xs [η] [] c=.ok (bs.map D.bl) c) (ha:bs.all id=Ξ) (h2:jy [.tup xs] c=.ok (.lst (A.map D.int)) c):(bq (dY (bR (aL (aB bx (ao (ak 2) (ao (dC (.ty "tuple")) aq))))) (dY (bR (aL (aB dQ (ao (aT (bD (ak 2)) [η] (aA 0) aJ (aC 1 iN (ao (ak 0) aq))) aq)))) (aL (au eG (aB jy (ao (ak 2) aq)) (ak 1))))) (aK (dC (.bl ξ))) br) [S,ζ (.lst (A.map D.int)),ζ (.tup xs),v3] c=.ok (.nx [S,ζ (.lst (A.map D.int)),ζ (.tup xs),v3]) c:=by
 have hp:cO [η] [S,ζ (.lst (A.map D.int)),ζ (.tup xs),v3]=[η]:=rfl;have hd:bD (ak 2) [S,ζ (.lst (A.map D.int)),ζ (.tup xs),v3] c=.ok ⟨xs,λ_=>True⟩ c:=rfl
 have hn:=KY A c;have hA:(aB dQ (ao (aT (bD (ak 2)) [η] (aA 0) aJ (aC 1 iN (ao (ak 0) aq))) aq)) [S,ζ (.lst (A.map D.int)),ζ (.tup xs),v3] c=.ok (.bl Ξ) c:=by
  simp only[dG,bE,dF,hd,bK,R.aD];rw[if_pos hl,hp,h1];simp only[R.aD,lQ,ha]
 have hi:(aB bx (ao (ak 2) (ao (dC (.ty "tuple")) aq))) [S,ζ (.lst (A.map D.int)),ζ (.tup xs),v3] c=.ok (.bl Ξ) c:=by
  generalize A.map D.int=L at *
  simp
 have hS:(aB jy (ao (ak 2) aq)) [S,ζ (.lst (A.map D.int)),ζ (.tup xs),v3] c=.ok (.lst (A.map D.int)) c:=by
  generalize A.map D.int=L at *
  simp[h2]
 simp only[gS,BA,qu,jx,hi,hA,d9,hS,bJ,gz,gs,R.aD,hn];simp
theorem acJ{xs l:List D}{A:List Int}{v2:Option D}{k:Int}{c:aa}(hl:xs.length<ι) (h1:bI (λ_=>True) (aA 0) aJ (au aF (ak 0) (ak 1)) xs [η,ζ (.int k)] [] c=.ok l c) (h2:i9 [.lst l] c=.ok (.lst (A.map D.int)) c):(bq (aL (au eG (aB i9 (ao (aT (bD (ak 0)) [η,ζ 3] (aA 0) aJ (au aF (ak 0) (ak 1))) aq)) (ak 1))) (aK (dC (.bl ξ))) br) [ζ (.tup xs),ζ (.lst (A.map D.int)),v2,ζ (.int k)] c=.ok (.nx [ζ (.tup xs),ζ (.lst (A.map D.int)),v2,ζ (.int k)]) c:=by
 have hp:cO [η,ζ 3] [ζ (.tup xs),ζ (.lst (A.map D.int)),v2,ζ (.int k)]=[η,ζ (.int k)]:=rfl;have hd:bD (ak 0) [ζ (.tup xs),ζ (.lst (A.map D.int)),v2,ζ (.int k)] c=.ok ⟨xs,λ_=>True⟩ c:=rfl
 have hn:=KY A c;have hS:(aB i9 (ao (aT (bD (ak 0)) [η,ζ 3] (aA 0) aJ (au aF (ak 0) (ak 1))) aq)) [ζ (.tup xs),ζ (.lst (A.map D.int)),v2,ζ (.int k)] c=.ok (.lst (A.map D.int)) c:=by
  simp only[dG,bE,dF,hd,bK,R.aD];rw[if_pos hl,hp,h1];simp only[R.aD,h2]
 simp only[gS,jx,d9,hS,bJ,gz,gs,R.aD,hn];simp
theorem acY{xs:List D}{q:Int}{a1 a2 a3:Option D}{c:aa}(hq:(xs.length:Int)=q) (h1:1<=q) (h7:q<=7):(bq (dY (bR (aL (aB bx (ao (ak 0) (ao (dC (.ty "tuple")) aq))))) (bR (aL (gY ez ez (dC (.int 1)) (aB aN (ao (ak 0) aq)) (dC (.int 7)))))) (aK (dC (.bl ξ))) br) [ζ (.tup xs),a1,a2,a3] c=.ok (.nx [ζ (.tup xs),a1,a2,a3]) c:=by simp[hq,h1,h7]
theorem acW{xs:List D}{q:Int}{a2 a3:Option D}{c:aa}(hq:(xs.length:Int)=q) (b:0<q/\q<1000):(aG 1 (jo (ao (aB aN (ao (ak 0) aq)) aq))) [ζ (.tup xs),η,a2,a3] c=.ok (.nx [ζ (.tup xs),ζ (.lst ((bB 0 q).map D.int)),a2,a3]) c:=by
 simp only[fR,jo,bE,dG,bJ,gz,bK,R.aD,uD,hq];rw[if_pos b];rfl
theorem acV{xs:List D}{q:Int}{a1 a2 a3:Option D}{e':Ev}{c c':aa}(hq:(xs.length:Int)=q) (b:-4611686018427387904<=q/\q<4611686018427387904) (h:cG (λ_=>True) (aA 3) (bq (aL (au eG (aB i9 (ao (aT (bD (ak 0)) [η,ζ 3] (aA 0) aJ (au aF (ak 0) (ak 1))) aq)) (ak 1))) (aK (dC (.bl ξ))) br) (bf 0 q) [ζ (.tup xs),a1,a2,a3] c=.ok (.nx e') c'):(bQ (aV (ao (aB aN (ao (ak 0) aq)) aq)) (aA 3) (bq (aL (au eG (aB i9 (ao (aT (bD (ak 0)) [η,ζ 3] (aA 0) aJ (au aF (ak 0) (ak 1))) aq)) (ak 1))) (aK (dC (.bl ξ))) br)) [ζ (.tup xs),a1,a2,a3] c=.ok (.nx e') c':=by
 simp only[gE,gr,bE,dG,bJ,gz,bK,R.aD,uD,hq];rw[if_pos (by omega)]
 exact h
def dI(a:Nat×Nat):D:=.tup [.int (a.1:Nat),.int (a.2:Nat)]
theorem af2(a:Nat×Nat):d8 (dI a)=ζ (.tuple [.int (a.1:Nat),.int (a.2:Nat)]):=rfl
theorem NK:∀l:List (Nat×Nat),fN (l.map dI)=ζ (l.map λa=>PyData.tuple [.int (a.1:Nat),.int (a.2:Nat)])
 |[]=>rfl
 |a::l=>by
  show(match d8 (dI a),fN (l.map dI)with|some a,ζ r=>ζ (a::r)|_,_=>η)=_
  rw[NK l,af2];rfl
theorem JT(a b:Nat×Nat):(PyData.tuple [.int (a.1:Nat),.int (a.2:Nat)]).eqv (.tuple [.int (b.1:Nat),.int (b.2:Nat)])=decide (a=b):=by
 obtain⟨a1,a2⟩:=a;obtain⟨b1,b2⟩:=b;simp only[PyData.eqv,PyData.eqvAll,Bool.and_true];rw[amt];simp;omega
theorem ac4{k:Nat}{l:List (Nat×Nat)}{c:aa}(hk:c[k]? = ζ (.lst (l.map dI))) (a:Nat×Nat):inD (dI a) (.ref k) c=.ok (.bl (decide (a∈l))) c:=by
 have h1:gg c (dI a)=ζ (.tuple [.int (a.1:Nat),.int (a.2:Nat)]):=rfl;have h2:gg c (.ref k)=ζ (.list (l.map λa=>PyData.tuple [.int (a.1:Nat),.int (a.2:Nat)])):=by
  show(match c[k]? with|some (.lst l)=>(match fN l with|some r=>ζ (PyData.list r)|none=>η)|none=>η)=_
  rw[hk];dsimp only;rw[NK]
 unfold inD;rw[h1,h2];dsimp only;rw[if_pos (by simp[PyData.depth,PyData.depthAll])]
 congr 2
 rw[List.any_map,amt,aoT,decide_eq_true_eq];refine⟨fun⟨x,hx,e⟩=>?_,λh=>⟨a,h,?_⟩⟩
 ·have:=JT x a;rw[show((λz=>z.eqv (PyData.tuple [.int (a.1:Nat),.int (a.2:Nat)])) ∘ λa=>PyData.tuple [.int (a.1:Nat),.int (a.2:Nat)]) x=(PyData.tuple [.int (x.1:Nat),.int (x.2:Nat)]).eqv (.tuple [.int (a.1:Nat),.int (a.2:Nat)])from rfl,this]at e
  exact(of_decide_eq_true e)▸hx
 ·show(PyData.tuple [.int (a.1:Nat),.int (a.2:Nat)]).eqv (.tuple [.int (a.1:Nat),.int (a.2:Nat)])=Ξ;rw[JT];simp
theorem aiT{S T r r' P:D}{i k x y:Int}{acc:List D}{v5:Option D}{c:aa}(h1:aF S (.int i) (c++[.lst acc])=.ok r (c++[.lst acc])) (h2:aF r (.int k) (c++[.lst acc])=.ok (.int x) (c++[.lst acc])) (h3:aF T (.int i) (c++[.lst acc])=.ok r' (c++[.lst acc])) (h4:aF r' (.int k) (c++[.lst acc])=.ok (.int y) (c++[.lst acc])) (hP:D.tup [.int x,.int y]=P) (h5:inD P (.ref c.length) (c++[.lst acc])=.ok (.bl ξ) (c++[.lst acc])) (hn:noRef P=Ξ) (ha:acc.length<ι):(aE (aG 5 (dN (ao (au aF (au aF (ak 0) (ak 3)) (ak 4)) (ao (au aF (au aF (ak 1) (ak 3)) (ak 4)) aq)))) (aE (bq (aL (au inD (ak 5) (ak 2))) (aK (dC (.bl ξ))) br) (dR (fm (ak 2) (ak 5))))) [ζ S,ζ T,ζ (.ref c.length),ζ (.int i),ζ (.int k),v5] (c++[.lst acc])=.ok (.nx [ζ S,ζ T,ζ (.ref c.length),ζ (.int i),ζ (.int k),ζ P]) (c++[.lst (acc++[P])]):=by
 have hap:=append_at (c:=c) (acc:=acc) (y:=P) (dO:=ak 2) (da:=ak 5) (e:=[ζ S,ζ T,ζ (.ref c.length),ζ (.int i),ζ (.int k),ζ P]) (by rfl) (by rfl) hn ha
 have e1:(aG 5 (dN (ao (au aF (au aF (ak 0) (ak 3)) (ak 4)) (ao (au aF (au aF (ak 1) (ak 3)) (ak 4)) aq)))) [ζ S,ζ T,ζ (.ref c.length),ζ (.int i),ζ (.int k),v5] (c++[.lst acc])=.ok (.nx [ζ S,ζ T,ζ (.ref c.length),ζ (.int i),ζ (.int k),ζ P]) (c++[.lst acc]):=by
  subst hP;simp[h1,h2,h3,h4]
 rw[bu e1];simp only[jv,gS,jx,d9,bJ,gz,gs,R.aD,h5,aly,if_false,QX,nc,hap]
def qm:ah:=(aE (aG 5 (dN (ao (au aF (au aF (ak 0) (ak 3)) (ak 4)) (ao (au aF (au aF (ak 1) (ak 3)) (ak 4)) aq)))) (aE (bq (aL (au inD (ak 5) (ak 2))) (aK (dC (.bl ξ))) br) (dR (fm (ak 2) (ak 5)))))
def nv(n:Nat) (s t:Nat->Nat->Nat) (i:Nat):List (Nat×Nat):=(θ n).map λk=>(s i k,t i k)
def g7(n:Nat) (s t:Nat->Nat->Nat) (i:Nat):List (Nat×Nat):=(θ i).flatMap (nv n s t)
theorem Hy(n:Nat) (s t:Nat->Nat->Nat) (i:Nat):g7 n s t (i+1)=g7 n s t i++nv n s t i:=by
 unfold g7;rw[amg,aoP,List.flatMap_singleton]
theorem jI(x y:Str) (b:Bool) (c:aa) (h:(decide (x∈eE/\y∈eE)&&((x==y)==b))=Ξ):gc eE [.exc x,.fn y 0] c=.ok (.bl b) c:=by
 simp only[ak9,decide_eq_true_eq,beq_iff_eq]at h;unfold gc;simp only;rw[if_pos h.1,h.2]
theorem acE(x:Str) (c:aa) (h:decide (x∈eE)=Ξ):gc eE [.exc x,.ty "ValueError"] c=.ok (.bl Ξ) c:=by
 unfold gc;simp only;rw[if_pos ⟨by simpa using h,by trivial⟩]
theorem DF(c:aa):zf [.exc "NoSquare"] c=.ok (.str "square") c:=by
 have t8:(8:Nat)<=ι:=by decide
 have Se:(11:Nat)<=ι:=by decide
 have ad3:=λc=>jI "NoSquare" "NoWeb" ξ c (by decide +kernel)
 have ad5:=λc=>jI "NoSquare" "NoText" ξ c (by decide +kernel)
 have ad9:=λc=>jI "NoSquare" "NoNumbers" ξ c (by decide +kernel)
 have aeb:=λc=>jI "NoSquare" "NoField" ξ c (by decide +kernel)
 have ad4:=λc=>jI "NoSquare" "NoThing" ξ c (by decide +kernel)
 have ad6:=λc=>jI "NoSquare" "NoSquare" Ξ c (by decide +kernel)
 have ad8:=λc=>jI "NoSquare" "NoPlaces" ξ c (by decide +kernel)
 have ad2:=λc=>jI "NoSquare" "TooMany" ξ c (by decide +kernel)
 have aea:=λc=>jI "NoSquare" "NoName" ξ c (by decide +kernel)
 have aec:=λc=>jI "NoSquare" "NoDeed" ξ c (by decide +kernel)
 have ad7:=λc=>jI "NoSquare" "NoRow" ξ c (by decide +kernel)
 have ad1:=λc=>acE "NoSquare" c (by decide +kernel)
 have hf:List.findIdx? id [ξ,ξ,ξ,ξ,ξ,Ξ,ξ,ξ,ξ,ξ,ξ]=ζ 5:=by decide
 have ha:cJ [D.str "web",.str "text",.str "numbers",.str "field",.str "thing",.str "square",.str "places",.str "many",.str "name",.str "deed",.str "row"] 5=ζ (.str "square"):=rfl;simp[zf,ue,ad3,ad5,ad9,aeb,ad4,ad6,ad8,ad2,aea,aec,ad7,ad1,Gu,Gr,dP,dW,kC,t8,Se,hf,ha]
theorem SG{xs:List D}{q:Int}{l1:List Bool}{c:aa}(hq:(xs.length:Int)=q) (b:1<=q/\q<=7) (hl:xs.length<ι) (h1:bI (λ_=>True) (aA 0) aJ (aC 2 cF (ao (ak 0) (ao (ak 1) aq))) xs [η,ζ (.int q)] [] c=.ok (l1.map D.bl) c) (a1:l1.all id=ξ):cP [.tup xs] c=.ok (.bl ξ) c:=by
 have hb:g6=aE (bq (dY (bR (aL (aB bx (ao (ak 0) (ao (dC (.ty "tuple")) aq))))) (bR (aL (gY ez ez (dC (.int 1)) (aB aN (ao (ak 0) aq)) (dC (.int 7)))))) (aK (dC (.bl ξ))) br) (aE (aG 1 (aB aN (ao (ak 0) aq))) (aE (bq (bR (aL (aB dQ (ao (aT (bD (ak 0)) [η,ζ 1] (aA 0) aJ (aC 2 cF (ao (ak 0) (ao (ak 1) aq)))) aq)))) (aK (dC (.bl ξ))) br) (aK (aB dQ (ao (aT (aV (ao (ak 1) aq)) [η,ζ 1,ζ 0] (aA 0) aJ (aC 2 cF (ao (aC 2 gb (ao (ak 2) (ao (ak 0) aq))) (ao (ak 1) aq)))) aq))))):=rfl;have es:dH 2 [D.tup xs]=[ζ (.tup xs),η]:=rfl;have e0:(bq (dY (bR (aL (aB bx (ao (ak 0) (ao (dC (.ty "tuple")) aq))))) (bR (aL (gY ez ez (dC (.int 1)) (aB aN (ao (ak 0) aq)) (dC (.int 7)))))) (aK (dC (.bl ξ))) br) [ζ (.tup xs),η] c=.ok (.nx [ζ (.tup xs),η]) c:=by simp[hq,b.1,b.2]
 have e1:(aG 1 (aB aN (ao (ak 0) aq))) [ζ (.tup xs),η] c=.ok (.nx [ζ (.tup xs),ζ (.int q)]) c:=by simp[hq]
 have e2:(bq (bR (aL (aB dQ (ao (aT (bD (ak 0)) [η,ζ 1] (aA 0) aJ (aC 2 cF (ao (ak 0) (ao (ak 1) aq)))) aq)))) (aK (dC (.bl ξ))) br) [ζ (.tup xs),ζ (.int q)] c=.ok (.rt (.bl ξ)) c:=by
  have hp:cO [η,ζ 1] [ζ (.tup xs),ζ (.int q)]=[η,ζ (.int q)]:=rfl;simp only[gS,qu,jx,dG,bE,dF,xB,bJ,gz,gs,bK,R.aD];rw[if_pos hl,hp,h1];simp only[R.aD,lQ,a1];simp
 rw[cP,fu,hb,es,bu e0,bu e1,qz e2];simp
theorem SH{xs:List D}{q:Int}{l1 l2:List Bool}{c:aa}(hq:(xs.length:Int)=q) (b:1<=q/\q<=7) (hl:xs.length<ι) (hlr:(bf 0 q).length<ι) (h1:bI (λ_=>True) (aA 0) aJ (aC 2 cF (ao (ak 0) (ao (ak 1) aq))) xs [η,ζ (.int q)] [] c=.ok (l1.map D.bl) c) (a1:l1.all id=Ξ) (h2:bI (λ_=>True) (aA 0) aJ (aC 2 cF (ao (aC 2 gb (ao (ak 2) (ao (ak 0) aq))) (ao (ak 1) aq))) (bf 0 q) [η,ζ (.int q),ζ (.tup xs)] [] c=.ok (l2.map D.bl) c) (a2:l2.all id=ξ):cP [.tup xs] c=.ok (.bl ξ) c:=by
 have hb:g6=aE (bq (dY (bR (aL (aB bx (ao (ak 0) (ao (dC (.ty "tuple")) aq))))) (bR (aL (gY ez ez (dC (.int 1)) (aB aN (ao (ak 0) aq)) (dC (.int 7)))))) (aK (dC (.bl ξ))) br) (aE (aG 1 (aB aN (ao (ak 0) aq))) (aE (bq (bR (aL (aB dQ (ao (aT (bD (ak 0)) [η,ζ 1] (aA 0) aJ (aC 2 cF (ao (ak 0) (ao (ak 1) aq)))) aq)))) (aK (dC (.bl ξ))) br) (aK (aB dQ (ao (aT (aV (ao (ak 1) aq)) [η,ζ 1,ζ 0] (aA 0) aJ (aC 2 cF (ao (aC 2 gb (ao (ak 2) (ao (ak 0) aq))) (ao (ak 1) aq)))) aq))))):=rfl;have es:dH 2 [D.tup xs]=[ζ (.tup xs),η]:=rfl;have e0:(bq (dY (bR (aL (aB bx (ao (ak 0) (ao (dC (.ty "tuple")) aq))))) (bR (aL (gY ez ez (dC (.int 1)) (aB aN (ao (ak 0) aq)) (dC (.int 7)))))) (aK (dC (.bl ξ))) br) [ζ (.tup xs),η] c=.ok (.nx [ζ (.tup xs),η]) c:=by simp[hq,b.1,b.2]
 have e1:(aG 1 (aB aN (ao (ak 0) aq))) [ζ (.tup xs),η] c=.ok (.nx [ζ (.tup xs),ζ (.int q)]) c:=by simp[hq]
 have e2:(bq (bR (aL (aB dQ (ao (aT (bD (ak 0)) [η,ζ 1] (aA 0) aJ (aC 2 cF (ao (ak 0) (ao (ak 1) aq)))) aq)))) (aK (dC (.bl ξ))) br) [ζ (.tup xs),ζ (.int q)] c=.ok (.nx [ζ (.tup xs),ζ (.int q)]) c:=by
  have hp:cO [η,ζ 1] [ζ (.tup xs),ζ (.int q)]=[η,ζ (.int q)]:=rfl;simp only[gS,qu,jx,dG,bE,dF,xB,bJ,gz,gs,bK,R.aD];rw[if_pos hl,hp,h1];simp only[R.aD,lQ,a1];simp
 have e3:(aK (aB dQ (ao (aT (aV (ao (ak 1) aq)) [η,ζ 1,ζ 0] (aA 0) aJ (aC 2 cF (ao (aC 2 gb (ao (ak 2) (ao (ak 0) aq))) (ao (ak 1) aq)))) aq))) [ζ (.tup xs),ζ (.int q)] c=.ok (.rt (.bl ξ)) c:=by
  have hp:cO [η,ζ 1,ζ 0] [ζ (.tup xs),ζ (.int q)]=[η,ζ (.int q),ζ (.tup xs)]:=rfl;simp only[jw,dG,bE,dF,gr,bJ,gz,gs,bK,R.aD];rw[if_pos (by omega)]
  simp only[R.aD];rw[if_pos hlr,hp,h2];simp only[R.aD,lQ,a2]
 rw[cP,fu,hb,es,bu e0,bu e1,bu e2,e3];simp
theorem SD{d:D}{q:Int}{b:Bool}{c:aa}(h:cF [d,.int q] c=.ok (.bl b) c):(aC 2 cF (ao (ak 0) (ao (ak 1) aq))) [ζ d,ζ (.int q)] c=.ok (.bl b) c:=by simp[h]
theorem aad{xs:List D}(h:¬(1<=(xs.length:Int)/\(xs.length:Int)<=7)) (c:aa):cP [.tup xs] c=.ok (.bl ξ) c:=by
 generalize hq:(xs.length:Int)=q at h
 by_cases h1:1<=q
 ·have h2:¬q<=7:=λz=>h ⟨h1,z⟩
  simp[cP,g6,hq,h1,h2]
 ·simp[cP,g6,hq,h1]
theorem SA{S T:D}{q k:Int}{b:Bool}{c:aa}(h1:gb [S,.int k] c=.ok T c) (h2:cF [T,.int q] c=.ok (.bl b) c):(aC 2 cF (ao (aC 2 gb (ao (ak 2) (ao (ak 0) aq))) (ao (ak 1) aq))) [ζ (.int k),ζ (.int q),ζ S] c=.ok (.bl b) c:=by simp[h1,h2]
theorem ja:1000000<ι:=by decide
def qo(d:D):Prop:=(∃xs,d=.tup xs/\xs.length<=20/\∀x∈xs,It x)\/∃xs,d=.lst xs
def pe(n:Nat) (d:D):Prop:=∃ps:List Nat,d=.tup (nD ps)/\ps.Perm (θ n)
theorem ady{n:Nat}(hn:n<60) {d:D}(h:qo d) (c:aa):∃b,cF [d,.int (n:Int)] c=.ok (.bl b) c/\(b=Ξ↔pe n d):=by
 rcases h with⟨xs,rfl,hl,hx⟩|⟨xs,rfl⟩
 ·obtain⟨b,h1,h2⟩:=Ez hn hx hl c;refine⟨b,h1,h2.trans ⟨fun⟨ps,e,hp⟩=>⟨ps,by rw[e],hp⟩,fun⟨ps,e,hp⟩=>⟨ps,by injection e,hp⟩⟩⟩
 ·refine⟨ξ,?_,λh=>(by cases h),fun⟨ps,e,_⟩=>(by cases e)⟩
  generalize (n:Int)=q
  simp[cF,qk]
theorem abb{d:D}(h:It d) (c:aa):iN [d] c=.ok (.bl (jk d)) c:=by
 have tu:∀l,bx [.tup l,.ty "int"] c=.ok (.bl ξ) c:=λ_=>rfl
 rcases h with⟨i,rfl⟩|rfl|rfl|⟨z,rfl⟩|⟨l,rfl⟩<;>simp[iN,tW,jk,tu]
theorem ints_of:∀{xs:List D},(xs.map jk).all id=Ξ->∃A:List Int,xs=A.map D.int
 |[],_=>⟨[],rfl⟩
 |d::l,h=>by
  rw[ak2,aoM,ak9]at h;obtain⟨i,rfl⟩:=LV h.1;obtain⟨A,rfl⟩:=ints_of h.2;exact⟨i::A,rfl⟩
def iP:ah:=(bq (dY (bR (aL (aB bx (ao (ak 2) (ao (dC (.ty "tuple")) aq))))) (dY (bR (aL (aB dQ (ao (aT (bD (ak 2)) [η] (aA 0) aJ (aC 1 iN (ao (ak 0) aq))) aq)))) (aL (au eG (aB jy (ao (ak 2) aq)) (ak 1))))) (aK (dC (.bl ξ))) br)
def kj:ah:=(bq (aL (au eG (aB i9 (ao (aT (bD (ak 0)) [η,ζ 3] (aA 0) aJ (au aF (ak 0) (ak 1))) aq)) (ak 1))) (aK (dC (.bl ξ))) br)
theorem acL{n:Nat}{d:D}(h:qo d) (S v3:Option D) (c:aa) :
  (pe n d/\iP [S,ζ (.lst ((bB 0 (n:Int)).map D.int)),ζ d,v3] c=.ok (.nx [S,ζ (.lst ((bB 0 (n:Int)).map D.int)),ζ d,v3]) c)\/(¬pe n d/\iP [S,ζ (.lst ((bB 0 (n:Int)).map D.int)),ζ d,v3] c=.ok (.rt (.bl ξ)) c):=by
 have sz:=ja
 rcases h with⟨xs,rfl,hl,hx⟩|⟨xs,rfl⟩
 ·have hc:=sG (E:=[]) (a:=aC 1 iN (ao (ak 0) aq)) (c:=c) (λx:D=>x) (λd=>.bl (jk d)) xs η [] (λx hx'=>by
   have:=abb (hx x hx') c;simp[this])
  rw[alm,List.map_id']at hc;have hc2:bI (λ_=>True) (aA 0) aJ (aC 1 iN (ao (ak 0) aq)) xs [η] [] c=.ok ((xs.map jk).map D.bl) c:=by
   rw[hc,alh];rfl
  cases ha:(xs.map jk).all id with
  |true =>
   obtain⟨A,rfl⟩:=ints_of ha;have hs:jy [.tup (A.map D.int)] c=.ok (.lst ((fD A).map D.int)) c:=SV (by simp at hl;omega) c
   by_cases e:fD A=bB 0 (n:Int)
   ·rw[e]at hs;obtain⟨ps,e1,hp⟩:=(zp A n).mp e;refine .inl ⟨⟨ps,by rw[e1,sd],hp⟩,?_⟩
    exact acG (by omega) hc2 ha hs
   ·refine .inr ⟨fun⟨ps,e1,hp⟩=>e ((zp A n).mpr ⟨ps,?_,hp⟩),?_⟩
    ·injection e1 with e1
     rw[sd]at e1;exact Ep e1
    ·have hp:cO [η] [S,ζ (.lst ((bB 0 (n:Int)).map D.int)),ζ (.tup (A.map D.int)),v3]=[η]:=rfl;have hd:bD (ak 2) [S,ζ (.lst ((bB 0 (n:Int)).map D.int)),ζ (.tup (A.map D.int)),v3] c=.ok ⟨A.map D.int,λ_=>True⟩ c:=rfl
     have hn:=(AE (fD A) (bB 0 (n:Int)) c).2;rw[decide_eq_false e]at hn;have hA:(aB dQ (ao (aT (bD (ak 2)) [η] (aA 0) aJ (aC 1 iN (ao (ak 0) aq))) aq)) [S,ζ (.lst ((bB 0 (n:Int)).map D.int)),ζ (.tup (A.map D.int)),v3] c=.ok (.bl Ξ) c:=by
      simp only[dG,bE,dF,hd,bK,R.aD];rw[if_pos (by omega),hp,hc2]
      simp only[R.aD,lQ,ha]
     have hi:(aB bx (ao (ak 2) (ao (dC (.ty "tuple")) aq))) [S,ζ (.lst ((bB 0 (n:Int)).map D.int)),ζ (.tup (A.map D.int)),v3] c=.ok (.bl Ξ) c:=by
      generalize (bB 0 (n:Int)).map D.int=L at *
      simp
     have hS:(aB jy (ao (ak 2) aq)) [S,ζ (.lst ((bB 0 (n:Int)).map D.int)),ζ (.tup (A.map D.int)),v3] c=.ok (.lst ((fD A).map D.int)) c:=by
      generalize (bB 0 (n:Int)).map D.int=L at *
      simp[hs]
     unfold iP;simp only[gS,BA,qu,jx,hi,hA,d9,hS,bJ,gz,gs,R.aD,hn];simp
  |false =>
   refine .inr ⟨fun⟨ps,e1,_⟩=>?_,?_⟩
   ·injection e1 with e1
    rw[e1,sd,alh]at ha;have:(((ps.map λk:Nat=>(k:Int)).map (jk ∘ D.int)).all id)=Ξ:=by
     rw[ak0];intro x hx';obtain⟨y,_,rfl⟩:=akW.mp hx';rfl
    rw[this]at ha;cases ha
   ·have hp:cO [η] [S,ζ (.lst ((bB 0 (n:Int)).map D.int)),ζ (.tup xs),v3]=[η]:=rfl;have hd:bD (ak 2) [S,ζ (.lst ((bB 0 (n:Int)).map D.int)),ζ (.tup xs),v3] c=.ok ⟨xs,λ_=>True⟩ c:=rfl
    have hA:(aB dQ (ao (aT (bD (ak 2)) [η] (aA 0) aJ (aC 1 iN (ao (ak 0) aq))) aq)) [S,ζ (.lst ((bB 0 (n:Int)).map D.int)),ζ (.tup xs),v3] c=.ok (.bl ξ) c:=by
     simp only[dG,bE,dF,hd,bK,R.aD];rw[if_pos (by omega),hp,hc2]
     simp only[R.aD,lQ,ha]
    have hi:(aB bx (ao (ak 2) (ao (dC (.ty "tuple")) aq))) [S,ζ (.lst ((bB 0 (n:Int)).map D.int)),ζ (.tup xs),v3] c=.ok (.bl Ξ) c:=by
     generalize (bB 0 (n:Int)).map D.int=L at *
     simp
    unfold iP;simp only[gS,BA,qu,jx,hi,hA,R.aD];simp
 ·refine .inr ⟨fun⟨ps,e,_⟩=>(by cases e),?_⟩
  generalize (bB 0 (n:Int)).map D.int=L
  simp[iP]
theorem UJ{n:Nat}:∀{rows:List D},(∀d∈rows,pe n d)->∃s:Nat->Nat->Nat,rows=(θ rows.length).map (λi=>D.tup (nD ((θ n).map (s i))))/\∀i,i<rows.length->((θ n).map (s i)).Perm (θ n):=by
 intro rows h;have hc:∀i:Nat,∃ps:List Nat,i<rows.length->rows[i]? = ζ (.tup (nD ps))/\ps.Perm (θ n):=λi=>by
  by_cases hi:i<rows.length
  ·obtain⟨ps,e,hp⟩:=h rows[i] (alH hi);exact⟨ps,λ_=>⟨by rw[ak7 hi,e],hp⟩⟩
  ·exact⟨[],λz=>absurd z hi⟩
 let P:Nat->List Nat:=λi=>Classical.choose (hc i)
 have hP:∀i,i<rows.length->rows[i]? = ζ (.tup (nD (P i)))/\(P i).Perm (θ n):=λi hi=>apU (hc i) hi
 have hm:∀i,i<rows.length->(θ n).map (λj=>(P i).getD j 0)=P i:=λi hi=>by
  have hl:(P i).length=n:=j3 (hP i hi).2;have:=zd (P i) id;rw[amA,hl]at this;exact this.symm
 refine⟨λi j=>(P i).getD j 0,?_,λi hi=>by rw[hm i hi];exact(hP i hi).2⟩
 apply apH;intro i
 by_cases hi:i<rows.length
 ·rw[alk,alZ hi,(hP i hi).1];show _=ζ (D.tup (nD ((θ n).map λj=>(P i).getD j 0)))
  rw[hm i hi]
 ·rw[amw (by omega),amw (by simp;omega)]
theorem O2{n:Nat}(hn:n<60) (c:aa):∀(rows:List D) (v:Option D) (acc:List D),(∀d∈rows,qo d)->∃bs:List Bool,bI (λ_=>True) (aA 0) aJ (aC 2 cF (ao (ak 0) (ao (ak 1) aq))) rows [v,ζ (.int (n:Int))] acc c=.ok (acc++bs.map D.bl) c/\(bs.all id=Ξ↔∀d∈rows,pe n d)
 |[],v,acc,_=>⟨[],by simp,by simp⟩
 |d::l,v,acc,h=>by
  obtain⟨b,hb,ib⟩:=ady hn (h d (.head _)) c;obtain⟨bs,sO,vL⟩:=O2 hn c l (ζ d) (acc++[.bl b]) λz hz=>h z (.tail _ hz)
  refine⟨b::bs,?_,?_⟩
  ·have h1:aA 0 d [v,ζ (.int (n:Int))] c=.ok [ζ d,ζ (.int (n:Int))] c:=rfl;rw[jP,h1,R.aD,kO,R.aD,if_pos rfl,SD hb,R.aD,sO,alA];rfl
  ·rw[aoM,ak9,vL]
   constructor
   ·rintro ⟨z1,z2⟩ x hx
    rcases akV.mp hx with rfl|hx
    ·exact ib.mp z1
    ·exact z2 x hx
   ·exact λz=>⟨ib.mpr (z d (.head _)),λx hx=>z x (.tail _ hx)⟩
theorem LU{n:Nat}{S:Option D}{c:aa}:∀(rows:List D) (v2:Option D),(∀d∈rows,qo d) ->
  ((∀d∈rows,pe n d)/\∃w,cG (λ_=>True) (aA 2) iP rows [S,ζ (.lst ((bB 0 (n:Int)).map D.int)),v2,η] c=.ok (.nx [S,ζ (.lst ((bB 0 (n:Int)).map D.int)),w,η]) c) \/
  ((¬∀d∈rows,pe n d)/\cG (λ_=>True) (aA 2) iP rows [S,ζ (.lst ((bB 0 (n:Int)).map D.int)),v2,η] c=.ok (.rt (.bl ξ)) c)
 |[],v2,_=>.inl ⟨λd hd=>(by cases hd),v2,by simp⟩
 |d::l,v2,h=>by
  have hg:aA 2 d [S,ζ (.lst ((bB 0 (n:Int)).map D.int)),v2,η] c=.ok [S,ζ (.lst ((bB 0 (n:Int)).map D.int)),ζ d,η] c:=rfl
  rcases acL (n:=n) (h d (.head _)) S η c with⟨hb,e⟩|⟨hb,e⟩
  ·rcases LU l (ζ d) λz hz=>h z (.tail _ hz)with⟨ha,w,e2⟩|⟨ha,e2⟩
   ·refine .inl ⟨λz hz=>?_,w,?_⟩
    ·rcases akV.mp hz with rfl|hz
     ·exact hb
     ·exact ha z hz
    ·rw[iA,hg,R.aD,e];exact e2
   ·refine .inr ⟨λz=>ha λx hx=>z x (.tail _ hx),?_⟩
    rw[iA,hg,R.aD,e];exact e2
  ·refine .inr ⟨λz=>hb (z d (.head _)),?_⟩
   rw[iA,hg,R.aD,e];rfl
def lK(n:Nat) (s:Nat->Nat->Nat) (k:Nat):Prop:=((θ n).map λi=>s i k).Perm (θ n)
abbrev gu(n:Nat) (s:Nat->Nat->Nat):List D:=(θ n).map λi=>D.tup (nD ((θ n).map (s i)))
theorem acU{n k:Nat}(h8:n<8) (s:Nat->Nat->Nat) (hk:k<n) (v2:Option D) (c:aa) :
  (lK n s k/\kj [ζ (.tup (gu n s)),ζ (.lst ((bB 0 (n:Int)).map D.int)),v2,ζ (.int (k:Int))] c=.ok (.nx [ζ (.tup (gu n s)),ζ (.lst ((bB 0 (n:Int)).map D.int)),v2,ζ (.int (k:Int))]) c) \/
  (¬lK n s k/\kj [ζ (.tup (gu n s)),ζ (.lst ((bB 0 (n:Int)).map D.int)),v2,ζ (.int (k:Int))] c=.ok (.rt (.bl ξ)) c):=by
 have sz:=ja;have hcmp:=sG (E:=[ζ (.int (k:Int))]) (a:=(au aF (ak 0) (ak 1))) (c:=c) (λi=>D.tup (nD ((θ n).map (s i)))) (λi=>.int (s i k:Nat)) (θ n) η [] (λi _=>ahf (uN s i hk c))
 have hm:((θ n).map λi=>D.int (s i k:Nat))=(((θ n).map λi=>s i k).map λk:Nat=>(k:Int)).map D.int:=by rw[alh,alh];rfl
 rw[alm,hm]at hcmp;have Ex:=SW (ns:=((θ n).map λi=>s i k).map λk:Nat=>(k:Int)) (by simp;omega) c
 by_cases e:fD (((θ n).map λi=>s i k).map λk:Nat=>(k:Int))=bB 0 (n:Int)
 ·obtain⟨ps,e1,hp⟩:=(zp _ n).mp e;have:(θ n).map (λi=>s i k)=ps:=AW e1
  rw[e]at Ex;exact .inl ⟨by unfold lK;rw[this];exact hp,acJ (by simp;omega) hcmp Ex⟩
 ·refine .inr ⟨λhp=>e ((zp _ n).mpr ⟨_,rfl,hp⟩),?_⟩
  have hp:cO [η,ζ 3] [ζ (.tup (gu n s)),ζ (.lst ((bB 0 (n:Int)).map D.int)),v2,ζ (.int (k:Int))]=[η,ζ (.int (k:Int))]:=rfl;have hd:bD (ak 0) [ζ (.tup (gu n s)),ζ (.lst ((bB 0 (n:Int)).map D.int)),v2,ζ (.int (k:Int))] c=.ok ⟨gu n s,λ_=>True⟩ c:=rfl
  have hn:=(AE (fD (((θ n).map λi=>s i k).map λk:Nat=>(k:Int))) (bB 0 (n:Int)) c).2
  rw[decide_eq_false e]at hn;have hS:(aB i9 (ao (aT (bD (ak 0)) [η,ζ 3] (aA 0) aJ (au aF (ak 0) (ak 1))) aq)) [ζ (.tup (gu n s)),ζ (.lst ((bB 0 (n:Int)).map D.int)),v2,ζ (.int (k:Int))] c=.ok (.lst ((fD (((θ n).map λi=>s i k).map λk:Nat=>(k:Int))).map D.int)) c:=by
   simp only[dG,bE,dF,hd,bK,R.aD];rw[if_pos (by simp;omega),hp,hcmp]
   simp only[R.aD,Ex]
  unfold kj;simp only[gS,jx,d9,hS,bJ,gz,gs,R.aD,hn];simp
theorem LX{n:Nat}(h8:n<8) (s:Nat->Nat->Nat) (v2:Option D) (c:aa):∀(ks:List Nat) (v3:Option D),(∀k∈ks,k<n) ->
  ((∀k∈ks,lK n s k)/\∃w,cG (λ_=>True) (aA 3) kj (ks.map λk:Nat=>D.int (k:Int)) [ζ (.tup (gu n s)),ζ (.lst ((bB 0 (n:Int)).map D.int)),v2,v3] c=.ok (.nx [ζ (.tup (gu n s)),ζ (.lst ((bB 0 (n:Int)).map D.int)),v2,w]) c) \/
  ((¬∀k∈ks,lK n s k)/\cG (λ_=>True) (aA 3) kj (ks.map λk:Nat=>D.int (k:Int)) [ζ (.tup (gu n s)),ζ (.lst ((bB 0 (n:Int)).map D.int)),v2,v3] c=.ok (.rt (.bl ξ)) c)
 |[],v3,_=>.inl ⟨λd hd=>(by cases hd),v3,by simp⟩
 |k::l,v3,h=>by
  have hg:aA 3 (.int (k:Int)) [ζ (.tup (gu n s)),ζ (.lst ((bB 0 (n:Int)).map D.int)),v2,v3] c=.ok [ζ (.tup (gu n s)),ζ (.lst ((bB 0 (n:Int)).map D.int)),v2,ζ (.int (k:Int))] c:=rfl;rw[ak2]
  rcases acU h8 s (h k (.head _)) v2 c with⟨hb,e⟩|⟨hb,e⟩
  ·rcases LX h8 s v2 c l (ζ (.int (k:Int))) λz hz=>h z (.tail _ hz)with⟨ha,w,e2⟩|⟨ha,e2⟩
   ·refine .inl ⟨λz hz=>?_,w,?_⟩
    ·rcases akV.mp hz with rfl|hz
     ·exact hb
     ·exact ha z hz
    ·rw[iA,hg,R.aD,e];exact e2
   ·refine .inr ⟨λz=>ha λx hx=>z x (.tail _ hx),?_⟩
    rw[iA,hg,R.aD,e];exact e2
  ·refine .inr ⟨λz=>hb (z k (.head _)),?_⟩
   rw[iA,hg,R.aD,e];rfl
theorem yb(n:Nat):bf 0 (n:Int)=(θ n).map λk:Nat=>D.int (k:Int):=by
 have:=B0 n (λd=>d)
 rw[List.map_id']at this;exact this
theorem ahc{n:Nat}(h8:n<8) (s:Nat->Nat->Nat) (c:aa):∃bs:List Bool,bI (λ_=>True) (aA 0) aJ (aC 2 cF (ao (aC 2 gb (ao (ak 2) (ao (ak 0) aq))) (ao (ak 1) aq))) (bf 0 (n:Int)) [η,ζ (.int (n:Int)),ζ (.tup (gu n s))] [] c=.ok (bs.map D.bl) c/\(bs.all id=Ξ↔∀k,k<n->lK n s k):=by
 have hk:∀k:Nat,∃b:Bool,k<n->cF [.tup (nD ((θ n).map λi=>s i k)),.int (n:Int)] c=.ok (.bl b) c/\(b=Ξ↔lK n s k):=λk=>by
  obtain⟨b,h1,h2⟩:=Ez (m:=n) (by omega) (xs:=nD ((θ n).map λi=>s i k)) LQ (by simp[nD];omega) c
  exact⟨b,λ_=>⟨h1,h2.trans ⟨fun⟨ps,e,hp⟩=>by unfold lK;rw[Lg e];exact hp,λhp=>⟨_,rfl,hp⟩⟩⟩⟩
 let B:Nat->Bool:=λk=>Classical.choose (hk k)
 have hB:∀k,k<n->cF [.tup (nD ((θ n).map λi=>s i k)),.int (n:Int)] c=.ok (.bl (B k)) c/\(B k=Ξ↔lK n s k):=λk h=>apU (hk k) h
 refine⟨(θ n).map B,?_,?_⟩
 ·have:=pA (E:=[ζ (.int (n:Int)),ζ (.tup (gu n s))]) (a:=(aC 2 cF (ao (aC 2 gb (ao (ak 2) (ao (ak 0) aq))) (ao (ak 1) aq)))) (n:=n) (c:=c) (λk=>.bl (B k)) (λk h=>SA (NW s (by omega) h c) (hB k h).1)
  rw[this,alh];rfl
 ·rw[ak0]
  constructor
  ·intro h k hk';exact(hB k hk').2.mp (h _ (akW.mpr ⟨k,akY.mpr hk',rfl⟩))
  ·intro h b hb;obtain⟨k,hk',rfl⟩:=akW.mp hb;exact(hB k (akY.mp hk')).2.mpr (h k (akY.mp hk'))
theorem acX{xs:List D}{q:Int}{c:aa}(hq:(xs.length:Int)=q) (h:¬(1<=q/\q<=7)):fZ [.tup xs] c=.ok (.bl ξ) c:=by
 by_cases h1:1<=q
 ·have h2:¬q<=7:=λz=>h ⟨h1,z⟩
  simp[fZ,iV,hq,h1,h2]
 ·simp[fZ,iV,hq,h1]
theorem UM{rows:List D}{q:Int}{a1 a2 a3:Option D}{c:aa}(hq:(rows.length:Int)=q) (b:-4611686018427387904<=q/\q<4611686018427387904):aV (ao (aB aN (ao (ak 0) aq)) aq) [ζ (.tup rows),a1,a2,a3] c=.ok ⟨bf 0 q,λ_=>True⟩ c:=by
 simp only[gr,bE,dG,bJ,gz,bK,R.aD,uD,hq];rw[if_pos (by omega)]
def isQ:ah:=aE (bq (dY (bR (aL (aB bx (ao (ak 0) (ao (dC (.ty "tuple")) aq))))) (bR (aL (gY ez ez (dC (.int 1)) (aB aN (ao (ak 0) aq)) (dC (.int 7)))))) (aK (dC (.bl ξ))) br) (aE (aG 1 (jo (ao (aB aN (ao (ak 0) aq)) aq))) (aE (bQ (bD (ak 0)) (aA 2) iP) (aE (bQ (aV (ao (aB aN (ao (ak 0) aq)) aq)) (aA 3) kj) (aK (dC (.bl Ξ))))))
theorem acP:iV=isQ:=rfl
theorem Eo{rows:List D}{b:Bool}{c:aa}(h:isQ [ζ (.tup rows),η,η,η] c=.ok (.rt (.bl b)) c):fZ [.tup rows] c=.ok (.bl b) c:=by
 have es:dH 4 [D.tup rows]=[ζ (.tup rows),η,η,η]:=rfl;rw[fZ,fu,acP,es,h];simp
section
variable {rows:List D}{E1 E2 E3:Ev}{c:aa}(e0:(bq (dY (bR (aL (aB bx (ao (ak 0) (ao (dC (.ty "tuple")) aq))))) (bR (aL (gY ez ez (dC (.int 1)) (aB aN (ao (ak 0) aq)) (dC (.int 7)))))) (aK (dC (.bl ξ))) br) [ζ (.tup rows),η,η,η] c=.ok (.nx [ζ (.tup rows),η,η,η]) c) (e1:(aG 1 (jo (ao (aB aN (ao (ak 0) aq)) aq))) [ζ (.tup rows),η,η,η] c=.ok (.nx E1) c)
include e0 e1
theorem acN(e2:bQ (bD (ak 0)) (aA 2) iP E1 c=.ok (.rt (.bl ξ)) c):fZ [.tup rows] c=.ok (.bl ξ) c:=Eo (by
 unfold isQ;rw[bu e0,bu e1,qz e2])
theorem acQ(e2:bQ (bD (ak 0)) (aA 2) iP E1 c=.ok (.nx E2) c) (e3:bQ (aV (ao (aB aN (ao (ak 0) aq)) aq)) (aA 3) kj E2 c=.ok (.rt (.bl ξ)) c):fZ [.tup rows] c=.ok (.bl ξ) c:=Eo (by
 unfold isQ;rw[bu e0,bu e1,bu e2,qz e3])
theorem acM(e2:bQ (bD (ak 0)) (aA 2) iP E1 c=.ok (.nx E2) c) (e3:bQ (aV (ao (aB aN (ao (ak 0) aq)) aq)) (aA 3) kj E2 c=.ok (.nx E3) c):fZ [.tup rows] c=.ok (.bl Ξ) c:=Eo (by
 unfold isQ;rw[bu e0,bu e1,bu e2,bu e3];rfl)
end
theorem SI{rows:List D}(h:∀d∈rows,qo d) (c:aa):∃b,cP [.tup rows] c=.ok (.bl b) c/\fZ [.tup rows] c=.ok (.bl b) c:=by
 have sz:=ja
 by_cases hl:1<=rows.length/\rows.length<=7
 ·obtain⟨n,hn⟩:∃n:Nat,rows.length=n:=⟨_,rfl⟩;rw[hn]at hl;have e0:=acY (xs:=rows) (q:=(n:Int)) (a1:=η) (a2:=η) (a3:=η) (c:=c) (by omega) (by omega) (by omega)
  have e1:=acW (xs:=rows) (q:=(n:Int)) (a2:=η) (a3:=η) (c:=c) (by omega) (by omega)
  obtain⟨bs,sO,vL⟩:=O2 (n:=n) (by omega) c rows η [] h
  rw[alm]at sO
  rcases LU (n:=n) (S:=ζ (.tup rows)) (c:=c) rows η h with⟨ha,w,hf⟩|⟨ha,hf⟩
  ·have e2:bQ (bD (ak 0)) (aA 2) iP [ζ (.tup rows),ζ (.lst ((bB 0 (n:Int)).map D.int)),η,η] c=.ok (.nx [ζ (.tup rows),ζ (.lst ((bB 0 (n:Int)).map D.int)),w,η]) c:=by
    rw[gE];exact hf
   obtain⟨s,hs,hp⟩:=UJ ha;rw[hn]at hs;have hs:rows=gu n s:=hs;obtain⟨b2,hb2,Mb⟩:=ahc (n:=n) (by omega) s c
   rw[<-hs]at hb2
   rcases LX (n:=n) (by omega) s w c (θ n) η (λk hk=>akY.mp hk)with⟨hc,w3,hg⟩|⟨hc,hg⟩
   ·have e3:bQ (aV (ao (aB aN (ao (ak 0) aq)) aq)) (aA 3) kj [ζ (.tup rows),ζ (.lst ((bB 0 (n:Int)).map D.int)),w,η] c=.ok (.nx [ζ (.tup rows),ζ (.lst ((bB 0 (n:Int)).map D.int)),w,w3]) c:=by
     rw[<-yb,<-hs]at hg;exact acV (xs:=rows) (q:=(n:Int)) (by omega) (by omega) hg
    refine⟨Ξ,?_,?_⟩
    ·exact Jg (S:=.tup rows) (q:=(n:Int)) rfl (by omega) (by omega) (by omega) (by rw[fG];omega) sO (vL.mpr ha) hb2 (Mb.mpr λk hk=>hc k (akY.mpr hk))
    ·exact acM e0 e1 e2 e3
   ·have e3:bQ (aV (ao (aB aN (ao (ak 0) aq)) aq)) (aA 3) kj [ζ (.tup rows),ζ (.lst ((bB 0 (n:Int)).map D.int)),w,η] c=.ok (.rt (.bl ξ)) c:=by
     rw[<-yb,<-hs]at hg;have ED:=UM (rows:=rows) (q:=(n:Int)) (a1:=ζ (.lst ((bB 0 (n:Int)).map D.int))) (a2:=w) (a3:=η) (c:=c) (by omega) (by omega)
     rw[gE,ED,R.aD];exact hg
    refine⟨ξ,?_,?_⟩
    ·refine SH (q:=(n:Int)) (by omega) (by omega) (by omega) (by rw[fG];omega) sO (vL.mpr ha) hb2 ?_
     cases hB:b2.all id with
     |false=>rfl
     |true=>exact absurd (λk hk=>Mb.mp hB k (akY.mp hk)) hc
    ·exact acQ e0 e1 e2 e3
  ·have e2:bQ (bD (ak 0)) (aA 2) iP [ζ (.tup rows),ζ (.lst ((bB 0 (n:Int)).map D.int)),η,η] c=.ok (.rt (.bl ξ)) c:=by
    rw[gE];exact hf
   refine⟨ξ,?_,?_⟩
   ·refine SG (q:=(n:Int)) (by omega) (by omega) (by omega) sO ?_
    cases hB:bs.all id with
    |false=>rfl
    |true=>exact absurd (vL.mp hB) ha
   ·exact acN e0 e1 e2
 ·exact⟨ξ,aad (by omega) c,acX rfl (by omega)⟩
theorem lM{f:List D->aa->R D}{d1:af}{e:Ev}{c:aa}{x v:D}(h1:d1 e c=.ok x c) (h:f [x] c=.ok v c):aB f (ao d1 aq) e c=.ok v c:=by
 simp only[dG,bE,h1,bK,R.aD];exact h
theorem kR{i:Nat}{d:af}{e:Ev}{c:aa}{v:D}(h:d e c=.ok v c):aG i d e c=.ok (.nx (e.set i (ζ v))) c:=by rw[fR,h];rfl
theorem B6{d:af}{e:Ev}{c:aa}{v:D}(h:d e c=.ok v c):aK d e c=.ok (.rt v) c:=by rw[jw,h];rfl
theorem fP{f:D->D->aa->R D}{d1 d2:af}{e:Ev}{c:aa}{x y:D}{r:R D}(h1:d1 e c=.ok x c) (h2:d2 e c=.ok y c) (h:f x y c=r):au f d1 d2 e c=r:=by
 rw[d9,h1];simp only[R.aD];rw[h2];exact h
theorem OQ{m:List D->aa->R D}{d1 d2:af}{e:Ev}{c:aa}{x y v:D}(h1:d1 e c=.ok x c) (h2:d2 e c=.ok y c) (h:m [x,y] c=.ok v c):aC 2 m (ao d1 (ao d2 aq)) e c=.ok v c:=by
 simp only[x_call,bE,h1,h2,bK,R.aD];rw[if_pos (by rfl)];exact h
theorem OR{m:List D->aa->R D}{d1:af}{e:Ev}{c:aa}{x v:D}(h1:d1 e c=.ok x c) (h:m [x] c=.ok v c):aC 1 m (ao d1 aq) e c=.ok v c:=by
 simp only[x_call,bE,h1,bK,R.aD];rw[if_pos (by rfl)];exact h
theorem B7{n:Nat}{b:ah}{xs:List D}{c:aa}{v:D}(h:b (dH n xs) c=.ok (.rt v) c) (hv:noRef v=Ξ) (hr:∀k,v≠.ref k):bM n ξ b xs c=.ok v c:=by
 rw[fu,h];simp only[R.aD];cases v<;>first|exact absurd rfl (hr _)|(unfold dX;dsimp only;rw[if_pos hv,amN])
def A(f:Fd) (x y:Nat):Nat:=(uv f.p f.n x y).toNat
theorem ajb{f:Fd}(h:f∈cR) (x y:Nat):((A f x y:Nat):Int)=uv f.p f.n x y/\A f x y<f.q:=aiV (iO h) x y
def sF(f:Fd) (a x y:Nat):Nat:=A f (M f a x) y
theorem NZ{a:af}{E:Ev}{c:aa}(it g:Nat->D):∀(l:List Nat) (v:Option D) (acc:List D),(∀i∈l,a (ζ (it i)::E) c=.ok (g i) c)->bI (λ_=>True) (aA 0) aJ a (l.map it) (v::E) acc c=.ok (acc++l.map g) c
 |[],v,acc,_=>by simp
 |i::l,v,acc,h=>by
  have h1:aA 0 (it i) (v::E) c=.ok (ζ (it i)::E) c:=rfl;rw[ak2,jP,h1,R.aD,kO,R.aD,if_pos rfl,h i (.head _),R.aD,NZ it g l _ _ (λz hz=>h z (.tail _ hz)),alA]
  rfl
theorem B3(lo hi:Int):bf lo hi=(θ (hi-lo).toNat).map λi:Nat=>D.int (lo+(i:Int)):=rfl
theorem zl{d a:af}{pick:List (Option Nat)}{e E:Ev}{c:aa}{N:Int}{n:Nat}(g:Nat->D) (hd:d e c=.ok (.int N) c) (hN:N=n) (hn:n<1000) (hp:cO pick e=η::E) (ha:∀i,i<n->a (ζ (.int (i:Int))::E) c=.ok (g i) c) :
  aT (aV (ao d aq)) pick (aA 0) aJ a e c=.ok (.lst ((θ n).map g)) c:=by
 have sz:=ja;have h1:aV (ao d aq) e c=.ok ⟨bf 0 N,λ_=>True⟩ c:=by
  unfold aV;simp only[bE,hd,bK,R.aD];rw[if_pos (by omega)]
 have hl:(bf 0 N).length=n:=by rw[fG];omega
 have hr:bf 0 N=(θ n).map λi:Nat=>D.int (i:Int):=by
  rw[B3,show(N-0).toNat=n by omega]
  simp
 rw[dF,h1,R.aD];dsimp only;rw[if_pos (by rw[hl];omega),hp,hr,NZ _ g (θ n) η [] (λi hi=>ha i (akY.mp hi))]
 rfl
theorem II(l:List D) (c:aa) (h:l.length<=1000):cg [.lst l] c=.ok (.tup l) c:=by
 have sz:=ja;simp[cg,gw]
theorem IL{d a:af}{pick:List (Option Nat)}{e E:Ev}{c:aa}{N:Int}{n:Nat}(g:Nat->D) (hd:d e c=.ok (.int N) c) (hN:N=n) (hn:n<1000) (hp:cO pick e=η::E) (ha:∀i,i<n->a (ζ (.int (i:Int))::E) c=.ok (g i) c) :
  aB cg (ao (aT (aV (ao d aq)) pick (aA 0) aJ a) aq) e c=.ok (.tup ((θ n).map g)) c :=
 lM (zl g hd hN hn hp ha) (II _ c (by simp;omega))
theorem rW{l:List D}(h:∀d∈l,noRef d=Ξ):noRef (.tup l)=Ξ:=by unfold noRef;exact iM.mpr h
theorem KH(l:List Nat):noRef (.tup (nD l))=Ξ:=rW λd hd=>by
 obtain⟨k,_,rfl⟩:=akW.mp hd;rfl
theorem Z7(n:Nat) (s:Nat->Nat->Nat):noRef (aH n s)=Ξ:=rW λd hd=>by
 obtain⟨k,_,rfl⟩:=akW.mp hd;exact KH _
theorem Cc{f:Fd}(h:f∈cR):f.q<=50:=by
 have:(cR.all λf=>decide (f.q<=50))=Ξ:=by decide +kernel
 simpa using ak0.mp this f h
theorem CN(n:Nat) (g:Nat->Nat):nD ((θ n).map g)=(θ n).map λi=>D.int (g i:Nat):=by simp[nD]
def FS(f:Fd):List D:=(θ (f.q-1)).map λa=>aH f.q (sF f (1+a))
theorem ai6(f:Fd):(FS f).length=f.q-1:=by simp[FS]
theorem OP{m:List D->aa->R D}{d1 d2 d3 d4:af}{e:Ev}{c:aa}{x y z u v:D}(h1:d1 e c=.ok x c) (h2:d2 e c=.ok y c) (h3:d3 e c=.ok z c) (h4:d4 e c=.ok u c) (h:m [x,y,z,u] c=.ok v c):aC 4 m (ao d1 (ao d2 (ao d3 (ao d4 aq)))) e c=.ok v c:=by
 simp only[x_call,bE,h1,h2,h3,h4,bK,R.aD];rw[if_pos (by rfl)]
 exact h
def uY(f:Fd) (x:Nat):List D:=(θ f.q).map λy=>D.int (M f x y:Nat)
def PR(f:Fd):List D:=(θ f.q).map λx=>.lst (uY f x)
theorem Z8(f:Fd):noRef (.lst (PR f))=Ξ:=by
 unfold noRef;refine iM.mpr λd hd=>?_
 obtain⟨k,_,rfl⟩:=akW.mp hd;unfold noRef;refine iM.mpr λd hd=>?_
 obtain⟨k,_,rfl⟩:=akW.mp hd;rfl
theorem VJ{f:Fd}(h:f∈cR) (c:aa):su [.int f.q] c=.ok (.lst (PR f)) c:=by
 have hq:=Cc h;refine B7 (n:=2) (b:=qc) ?_ (Z8 f) (λk h=>by cases h)
 have e0:aG 1 (aC 1 sC (ao (ak 0) aq)) [ζ (.int f.q),η] c=.ok (.nx [ζ (.int f.q),ζ (.lst ((fj f).map D.int))]) c:=kR (i:=1) (OR (m:=sC) (d1:=ak 0) rfl (aeN h c));unfold qc;rw[show dH 2 [D.int f.q]=[ζ (.int f.q),η]from rfl,bu e0]
 refine B6 ?_;exact zl (N:=(f.q:Int)) (n:=f.q) (E:=[ζ (.int f.q),ζ (.lst ((fj f).map D.int))]) (λx=>D.lst (uY f x)) rfl rfl (by omega) rfl λx hx =>
  zl (N:=(f.q:Int)) (n:=f.q) (E:=[ζ (.int f.q),ζ (.lst ((fj f).map D.int)),ζ (.int (x:Int))]) (λy=>D.int (M f x y:Nat)) rfl rfl (by omega) rfl λy hy =>
   OP (m:=sy) (d1:=ak 1) (d2:=ak 2) (d3:=ak 3) (d4:=ak 0) rfl rfl rfl rfl (VQ h hx hy c)
theorem Pc{l:List D}{i:Nat}{d:D}(h:l[i]? = ζ d):cJ l (i:Int)=ζ d:=by
 have hi:=(alb.mp h).1;unfold cJ fM;rw[if_pos (by omega),if_pos (by omega)]
 simpa using h
theorem Ek{l:List D}{i:Nat}{d:D}{N:Int}(hN:N=i) (h:l[i]? = ζ d) (c:aa):aF (.lst l) (.int N) c=.ok d c:=by
 subst hN;unfold aF gw;simp only[Pc h]
theorem Ej{l:List D}{i:Nat}{d:D}{N:Int}(hN:N=i) (h:l[i]? = ζ d) (c:aa):aF (.tup l) (.int N) c=.ok d c:=by
 subst hN;unfold aF gw;simp only[Pc h]
theorem abd{f:Fd}(h:f∈cR) (x y:Nat) (c:aa):nL [.int f.q,.int x,.int y,.int 1] c=.ok (.int (A f x y:Nat)) c:=by
 rw[Ss h x y 1 (by decide) c,(ajb h x y).1]
 unfold uv;have:(λa b:Int=>a+1*b)=(· + ·):=by funext a b;omega
 rw[this]
def eF(f:Fd) (a:Nat):List D:=(θ f.q).map λx=>D.tup (nD ((θ f.q).map (sF f a x)))
def vY:ah:=(dR (fm (ak 4) (aB cg (ao (aT (aV (ao (ak 0) aq)) [η,ζ 0,ζ 5,ζ 1,ζ 3] (aA 0) aJ (aC 4 nL (ao (ak 1) (ao (au aF (au aF (ak 3) (ak 4)) (ak 2)) (ao (ak 0) (ao (dC (.int 1)) aq)))))) aq))))
def vX:ah:=(aE (aG 4 (eV aq)) (aE (bQ (aV (ao (ak 0) aq)) (aA 5) vY) (dR (fm (ak 2) (aB cg (ao (ak 4) aq))))))
theorem BW{f:Fd}{a x:Nat}(hx:x<=f.q):(eF f a).take x=(θ x).map λx=>D.tup (nD ((θ f.q).map (sF f a x))):=by
 unfold eF;rw[<-anP,List.take_range,aoQ hx]
theorem ahY{dO da:af}{e:Ev}{c:aa}{k:Nat}{l:List D}{y:D}(ho:dO e c=.ok (.ref k) c) (ha:da e c=.ok y c) (hc:c[k]? = ζ (.lst l)) (hy:noRef y=Ξ) (hl:l.length<1000):fm dO da e c=.ok .aQ (c.set k (.lst (l++[y]))):=by
 have sz:=ja;unfold fm;rw[ho,R.aD];dsimp only;rw[ha,R.aD];simp only[hc];rw[if_pos ⟨by omega,hy⟩]
theorem aeE{f:Fd}(h:f∈cR) {a:Nat}(ha:1<=a) (ha2:a<f.q) {N:Int}(hN:N=f.q) (c:aa) (v2 v5:Option D):∃v,cG (λ_=>True) (aA 5) vY (bf 0 N) [ζ (.int N),ζ (.lst (PR f)),v2,ζ (.int (a:Int)),ζ (.ref c.length),v5] (c++[.lst []])=.ok (.nx [ζ (.int N),ζ (.lst (PR f)),v2,ζ (.int (a:Int)),ζ (.ref c.length),v]) (c++[.lst (eF f a)]):=by
 have hq:=Cc h;have:=pT (g:=aA 5) (s:=vY) (λx=>c++[.lst ((eF f a).take x)]) (λ_ (v:Option D)=>[ζ (.int N),ζ (.lst (PR f)),v2,ζ (.int (a:Int)),ζ (.ref c.length),v]) hN v5 (λx hx v=>by
  refine⟨[ζ (.int N),ζ (.lst (PR f)),v2,ζ (.int (a:Int)),ζ (.ref c.length),ζ (.int (x:Nat))],rfl,ζ (.int (x:Nat)),?_⟩;have hval:(aB cg (ao (aT (aV (ao (ak 0) aq)) [η,ζ 0,ζ 5,ζ 1,ζ 3] (aA 0) aJ (aC 4 nL (ao (ak 1) (ao (au aF (au aF (ak 3) (ak 4)) (ak 2)) (ao (ak 0) (ao (dC (.int 1)) aq)))))) aq)) [ζ (.int N),ζ (.lst (PR f)),v2,ζ (.int (a:Int)),ζ (.ref c.length),ζ (.int (x:Nat))] (c++[.lst ((eF f a).take x)])=.ok (.tup ((θ f.q).map λy=>D.int (sF f a x y:Nat))) (c++[.lst ((eF f a).take x)]):=by
   refine IL (N:=N) (n:=f.q) (E:=[ζ (.int N),ζ (.int (x:Nat)),ζ (.lst (PR f)),ζ (.int (a:Int))]) (λy=>D.int (sF f a x y:Nat)) rfl hN (by omega) rfl λy hy=>?_
   have r1:(PR f)[a]? = ζ (.lst (uY f a)):=by unfold PR;rw[alk,alZ ha2];rfl
   have r2:(uY f a)[x]? = ζ (.int (M f a x:Nat)):=by unfold uY;rw[alk,alZ hx];rfl
   have i1:=Ek (N:=(a:Int)) rfl r1 (c++[.lst ((eF f a).take x)]);have i2:=Ek (N:=(x:Int)) rfl r2 (c++[.lst ((eF f a).take x)]);have hs:=abd h (M f a x) y (c++[.lst ((eF f a).take x)]);rw[<-hN]at hs;exact OP (m:=nL) (d1:=ak 1) (d3:=ak 0) (d4:=dC (.int 1)) rfl (fP (f:=aF) (fP (f:=aF) (d1:=ak 3) (d2:=ak 4) rfl rfl i1) (d2:=ak 2) rfl i2) rfl rfl hs
  have hap:=A1 (c:=c) (acc:=(eF f a).take x) (dO:=ak 4) (e:=[ζ (.int N),ζ (.lst (PR f)),v2,ζ (.int (a:Int)),ζ (.ref c.length),ζ (.int (x:Nat))]) rfl hval (by rw[<-CN];exact KH _) (by rw[BW (by omega)];simp;omega)
  unfold vY;rw[nc,hap,R.aD];have ht:(eF f a).take x++[D.tup ((θ f.q).map λy=>D.int (sF f a x y:Nat))]=(eF f a).take (x+1):=by
   rw[BW (by omega),BW (by omega),amg,alU,<-CN]
   rfl
  rw[ht])
 have hz:(eF f a).take 0=[]:=rfl;have hw:(eF f a).take f.q=eF f a:=amR (by unfold eF;simp)
 rw[hz,hw]at this;exact this
def LK(f:Fd) (k:Nat):aa:=(θ k).map λa=>Cell.lst (eF f (1+a))
def cQ(f:Fd) (c:aa) (k:Nat):aa:=c ++ .lst ((θ k).map λa=>aH f.q (sF f (1+a)))::LK f k
theorem aeD{f:Fd}(h:f∈cR) {N:Int}(hN:N=f.q) (c:aa) (v3 v4 v5:Option D):∃w,cG (λ_=>True) (aA 3) vX (bf 1 N) [ζ (.int N),ζ (.lst (PR f)),ζ (.ref c.length),v3,v4,v5] (c++[.lst []])=.ok (.nx ([ζ (.int N),ζ (.lst (PR f)),ζ (.ref c.length)]++w)) (cQ f c (f.q-1)):=by
 have hq:=Cc h;have q2:=(iO h).q2;have hl:(bf 1 N).length=f.q-1:=by rw[B3];simp;omega
 have:=pU (st:=λ_=>True) (g:=aA 3) (s:=vX) (cQ f c) (λ_ (w:Option D×Option D×Option D)=>[ζ (.int N),ζ (.lst (PR f)),ζ (.ref c.length),w.1,w.2.1,w.2.2]) (bf 1 N) 0 (v3,v4,v5) (λ_ _=>trivial) (λk x hx w=>by
  have hk:k<f.q-1:=by rw[<-hl];exact(alb.mp hx).1
  have hx':x=.int (((1+k:Nat)):Int):=by
   rw[B3,alk,alZ (by omega)]at hx
   have:D.int (1+(k:Int))=x:=by simpa using hx
   rw[<-this]
   congr 1
  subst hx';refine⟨[ζ (.int N),ζ (.lst (PR f)),ζ (.ref c.length),ζ (.int (((1+k:Nat)):Int)),w.2.1,w.2.2],rfl,?_⟩;have e0:aG 4 (eV aq) [ζ (.int N),ζ (.lst (PR f)),ζ (.ref c.length),ζ (.int (((1+k:Nat)):Int)),w.2.1,w.2.2] (cQ f c k)=.ok (.nx [ζ (.int N),ζ (.lst (PR f)),ζ (.ref c.length),ζ (.int (((1+k:Nat)):Int)),ζ (.ref (cQ f c k).length),w.2.2]) (cQ f c k++[.lst []]):=by
   simp[bO]
  obtain⟨v,e1⟩:=aeE h (a:=1+k) (by omega) (by omega) hN (cQ f c k) (ζ (.ref c.length)) w.2.2
  have h1:aV (ao (ak 0) aq) [ζ (.int N),ζ (.lst (PR f)),ζ (.ref c.length),ζ (.int (((1+k:Nat)):Int)),ζ (.ref (cQ f c k).length),w.2.2] (cQ f c k++[.lst []])=.ok ⟨bf 0 N,λ_=>True⟩ (cQ f c k++[.lst []]):=by
   unfold aV;simp only[bE,bJ,gz,bK,R.aD];rw[if_pos (by omega)]
  have F5:bQ (aV (ao (ak 0) aq)) (aA 5) vY [ζ (.int N),ζ (.lst (PR f)),ζ (.ref c.length),ζ (.int (((1+k:Nat)):Int)),ζ (.ref (cQ f c k).length),w.2.2] (cQ f c k++[.lst []])=.ok (.nx [ζ (.int N),ζ (.lst (PR f)),ζ (.ref c.length),ζ (.int (((1+k:Nat)):Int)),ζ (.ref (cQ f c k).length),v]) (cQ f c k++[.lst (eF f (1+k))]):=by
   rw[gE,h1,R.aD];exact e1
  have vN:(cQ f c k++[Cell.lst (eF f (1+k))])[(cQ f c k).length]? = ζ (.lst (eF f (1+k))):=by simp
  have htup:aB cg (ao (ak 4) aq) [ζ (.int N),ζ (.lst (PR f)),ζ (.ref c.length),ζ (.int (((1+k:Nat)):Int)),ζ (.ref (cQ f c k).length),v] (cQ f c k++[.lst (eF f (1+k))])=.ok (aH f.q (sF f (1+k))) (cQ f c k++[.lst (eF f (1+k))]):=by
   refine lM (d1:=ak 4) (x:=.ref (cQ f c k).length) rfl ?_;unfold cg gw;simp only[vN];rfl
  have adO:(cQ f c k++[Cell.lst (eF f (1+k))])[c.length]? = ζ (.lst ((θ k).map λa=>aH f.q (sF f (1+a)))):=by
   unfold cQ;simp
  have hap:=ahY (dO:=ak 2) (e:=[ζ (.int N),ζ (.lst (PR f)),ζ (.ref c.length),ζ (.int (((1+k:Nat)):Int)),ζ (.ref (cQ f c k).length),v]) rfl htup adO (Z7 _ _) (by simp;omega)
  have vM:(cQ f c k++[Cell.lst (eF f (1+k))]).set c.length (.lst (((θ k).map λa=>aH f.q (sF f (1+a)))++[aH f.q (sF f (1+k))]))=cQ f c (k+1):=by
   unfold cQ LK;rw[alA,List.set_append_right _ _ (akT _),amv,amg,alU,alU];rfl
  rw[vM]at hap;refine⟨(ζ (.int (((1+k:Nat)):Int)),ζ (.ref (cQ f c k).length),v),?_⟩;unfold vX;rw[alz];rw[bu e0,bu F5,nc,hap];rfl)
 obtain⟨w,hw⟩:=this;refine⟨[w.1,w.2.1,w.2.2],?_⟩;rw[alz,hl]at hw;exact hw
theorem abn{f:Fd}(h:f∈cR) {N:Int}(hN:N=f.q) (h7:N<=7) (c:aa):vB [.int N] c=.ok (.lst (FS f)) c:=by
 obtain⟨w,hf⟩:=aeD h hN c η η η;have hp:=VJ h c;rw[<-hN]at hp;have e0:aG 1 (aC 1 su (ao (ak 0) aq)) [ζ (.int N),η,η,η,η,η] c=.ok (.nx [ζ (.int N),ζ (.lst (PR f)),η,η,η,η]) c:=kR (i:=1) (OR (m:=su) (d1:=ak 0) rfl hp);have e1:aG 2 (eV aq) [ζ (.int N),ζ (.lst (PR f)),η,η,η,η] c=.ok (.nx [ζ (.int N),ζ (.lst (PR f)),ζ (.ref c.length),η,η,η]) (c++[.lst []]):=by simp[bO]
 have h1:oi (ao (dC (.int 1)) (ao (ak 0) aq)) [ζ (.int N),ζ (.lst (PR f)),ζ (.ref c.length),η,η,η] (c++[.lst []])=.ok ⟨bf 1 N,λ_=>True⟩ (c++[.lst []]):=by
  have q2:=(iO h).q2;simp;omega
 have e2:bQ (oi (ao (dC (.int 1)) (ao (ak 0) aq))) (aA 3) vX [ζ (.int N),ζ (.lst (PR f)),ζ (.ref c.length),η,η,η] (c++[.lst []])=.ok (.nx ([ζ (.int N),ζ (.lst (PR f)),ζ (.ref c.length)]++w)) (cQ f c (f.q-1)):=by
  rw[gE,h1,R.aD];exact hf
 have hb:qe=aE (aG 1 (aC 1 su (ao (ak 0) aq))) (aE (aG 2 (eV aq)) (aE (bQ (oi (ao (dC (.int 1)) (ao (ak 0) aq))) (aA 3) vX) (aK (ak 2)))):=rfl;show bM 6 ξ qe [.int N] c=_;unfold bM;rw[show dH 6 [D.int N]=[ζ (.int N),η,η,η,η,η]from rfl,hb,bu e0,bu e1,bu e2]
 have e3:aK (ak 2) ([ζ (.int N),ζ (.lst (PR f)),ζ (.ref c.length)]++w) (cQ f c (f.q-1))=.ok (.rt (.ref c.length)) (cQ f c (f.q-1)):=rfl;rw[e3,R.aD];dsimp only;unfold dX;dsimp only;have hg:(cQ f c (f.q-1))[c.length]? = ζ (.lst (FS f)):=by unfold cQ FS;simp
 have ht:(cQ f c (f.q-1)).take c.length=c:=by unfold cQ;simp
 rw[hg];dsimp only;rw[if_pos (akT _),if_neg (by decide),ht]
theorem nN(n:Nat) (s:Nat->Nat->Nat) (c:aa):aN [aH n s] c=.ok (.int (n:Int)) c:=by
 unfold aH;simp
theorem Jo{n i:Nat}(s:Nat->Nat->Nat) (h1:1<=n) (h7:n<=7) (hi:i<n*n) {I:Int}(hI:I=i) (c:aa):jj [aH n s,.int I] c=.ok (.int (s (i/n) (i % n):Nat)) c:=by
 have hd:i/n<n:=aoU hi;have hm:i % n<n:=amz _ (by omega)
 refine B7 (n:=2) (b:=p7) ?_ rfl (λk h=>by cases h)
 unfold p7;refine B6 ?_;have e:dH 2 [aH n s,.int I]=[ζ (aH n s),ζ (.int I)]:=rfl;rw[e];have hl:aB aN (ao (ak 0) aq) [ζ (aH n s),ζ (.int I)] c=.ok (.int (n:Int)) c:=lM (d1:=ak 0) rfl (nN n s c);have EF:gO (.int I) (.int (n:Int)) c=.ok (.int (((i/n:Nat)):Int)) c:=by
  rw[sW c (by omega) (by omega),hI]
  rfl
 have hmd:bT (.int I) (.int (n:Int)) c=.ok (.int (((i % n:Nat)):Int)) c:=by
  rw[jG c (by omega),hI]
  rfl
 have r1:((θ n).map λi=>D.tup (nD ((θ n).map (s i))))[i/n]? = ζ (.tup (nD ((θ n).map (s (i/n))))):=by rw[alk,alZ hd];rfl
 have r2:(nD ((θ n).map (s (i/n))))[i % n]? = ζ (.int (s (i/n) (i % n):Nat)):=by rw[CN,alk,alZ hm];rfl
 exact fP (f:=aF) (fP (f:=aF) (d1:=ak 0) rfl (fP (f:=gO) (d1:=ak 1) rfl hl EF) (Ej rfl r1 c)) (fP (f:=bT) (d1:=ak 1) rfl hl hmd) (Ej rfl r2 c)
def jf(n:Nat) (s s':Nat->Nat->Nat) (i:Nat):List Int:=[((s (i/n) (i % n):Nat):Int),((s' (i/n) (i % n):Nat):Int)]
def yi(n:Nat) (s s':Nat->Nat->Nat) (i:Nat):D:=.tup [.int (s (i/n) (i % n):Nat),.int (s' (i/n) (i % n):Nat)]
theorem aa0{m q:Int}(h0:0<=m) (h1:m<1000) (hq:q=m*m) (c:aa):b8 (.int m) (.int m) c=.ok (.int q) c:=by
 unfold b8;dsimp only;rw[if_pos (by omega),hq]
def Lj(n:Nat) (s:Nat->Nat->Nat):Bool:=(θ n).all λi=>decide (((θ n).map (s i)).Nodup)&&decide (((θ n).map λj=>s j i).Nodup)&&(θ n).all λj=>Nat.blt (s i j) n
def cde(n:Nat) (s s':Nat->Nat->Nat) (i:Nat):Nat:=8*s (i/n) (i % n)+s' (i/n) (i % n)
def Kq(f:Fd):Bool:=(θ (f.q-1)).all λa=>Lj f.q (sF f (1+a))&&(θ a).all λb=>decide (((θ (f.q*f.q)).map (cde f.q (sF f (1+a)) (sF f (1+b)))).Nodup)
theorem aiA:((cR.filter λf=>Nat.ble f.q 7).all Kq)=Ξ:=by decide +kernel
theorem YJ{f:Fd}(h:f∈cR) (h7:f.q<=7):Kq f=Ξ:=ak0.mp aiA f (anR.mpr ⟨h,Nat.ble_eq_true_of_le h7⟩)
theorem abc{n:Nat}{s:Nat->Nat->Nat}(h:Lj n s=Ξ):eZ n s/\∀x y,x<n->y<n->s x y<n:=by
 have h:=ak0.mp h;have hb:∀x y,x<n->y<n->s x y<n:=λx y hx hy=>by
  have:=h x (akY.mpr hx);simp only[ak9,ak0]at this;have h3:=this.2 y (akY.mpr hy);exact alc (al6 _) (alI h3)
 refine⟨⟨λi hi=>?_,λi hi=>?_⟩,hb⟩
 ·have:=h i (akY.mpr hi);simp only[ak9,decide_eq_true_eq]at this;exact u5 this.1.1 (λx hx=>by
   obtain⟨j,hj,rfl⟩:=akW.mp hx;exact akY.mpr (hb i j hi (akY.mp hj))) (by simp)
 ·have:=h i (akY.mpr hi);simp only[ak9,decide_eq_true_eq]at this;exact u5 this.1.2 (λx hx=>by
   obtain⟨j,hj,rfl⟩:=akW.mp hx;exact akY.mpr (hb j i (akY.mp hj) hi)) (by simp)
theorem xQ{n:Nat}(s:Nat->Nat->Nat) {i:Nat}(hi:i<n) (c:aa):aF (aH n s) (.int (i:Int)) c=.ok (.tup (nD ((θ n).map (s i)))) c:=by
 refine Ej rfl ?_ c;rw[alk,alZ hi];rfl
theorem aiS{S T r r' P:D}{i k x y:Int}{v5 v2:Option D}{C:aa}{j:Nat}(h1:aF S (.int i) C=.ok r C) (h2:aF r (.int k) C=.ok (.int x) C) (h3:aF T (.int i) C=.ok r' C) (h4:aF r' (.int k) C=.ok (.int y) C) (hP:D.tup [.int x,.int y]=P) (h5:inD P (.ref j) C=.ok (.bl Ξ) C):qm [ζ S,ζ T,ζ (.ref j),ζ (.int i),ζ (.int k),v5] C=.ok (.rt (.bl ξ)) C:=by
 have e1:(aG 5 (dN (ao (au aF (au aF (ak 0) (ak 3)) (ak 4)) (ao (au aF (au aF (ak 1) (ak 3)) (ak 4)) aq)))) [ζ S,ζ T,ζ (.ref j),ζ (.int i),ζ (.int k),v5] C=.ok (.nx [ζ S,ζ T,ζ (.ref j),ζ (.int i),ζ (.int k),ζ P]) C:=by
  subst hP;simp[h1,h2,h3,h4]
 unfold qm;rw[bu e1];simp only[jv,gS,jx,d9,bJ,gz,gs,R.aD,h5];rfl
theorem Pp{n i:Nat}{s t:Nat->Nat->Nat}(hi:i<n) {c:aa}:∀(ks:List Nat) (L:List (Nat×Nat)) (v4 v5:Option D),(∀k∈ks,k<n)->L.Nodup->L.length+ks.length<=100 ->
  ((L++ks.map λk=>(s i k,t i k)).Nodup/\∃w4 w5,cG (λ_=>True) (aA 4) qm (ks.map λk:Nat=>D.int (k:Int)) [ζ (aH n s),ζ (aH n t),ζ (.ref c.length),ζ (.int (i:Int)),v4,v5] (c++[.lst (L.map dI)])=.ok (.nx [ζ (aH n s),ζ (aH n t),ζ (.ref c.length),ζ (.int (i:Int)),w4,w5]) (c++[.lst ((L++ks.map λk=>(s i k,t i k)).map dI)])) \/
  ((¬(L++ks.map λk=>(s i k,t i k)).Nodup)/\∃l,cG (λ_=>True) (aA 4) qm (ks.map λk:Nat=>D.int (k:Int)) [ζ (aH n s),ζ (aH n t),ζ (.ref c.length),ζ (.int (i:Int)),v4,v5] (c++[.lst (L.map dI)])=.ok (.rt (.bl ξ)) (c++[.lst l]))
 |[],L,v4,v5,_,hL,_=>.inl ⟨by simpa using hL,v4,v5,by simp⟩
 |k::ks,L,v4,v5,hk,hL,hl=>by
  have sz:=ja;have hkn:=hk k (.head _);simp only[ak4]at hl;have hg:aA 4 (.int (k:Int)) [ζ (aH n s),ζ (aH n t),ζ (.ref c.length),ζ (.int (i:Int)),v4,v5] (c++[.lst (L.map dI)])=.ok [ζ (aH n s),ζ (aH n t),ζ (.ref c.length),ζ (.int (i:Int)),ζ (.int (k:Int)),v5] (c++[.lst (L.map dI)]):=rfl;have hin:=ac4 (k:=c.length) (l:=L) (c:=c++[.lst (L.map dI)]) (by simp) (s i k,t i k)
  rw[ak2,ak2]
  by_cases hm:(s i k,t i k)∈L
  ·rw[decide_eq_true hm]at hin;refine .inr ⟨λz=>?_,L.map dI,?_⟩
   ·rw[amo]at z;exact z.2.2 _ hm _ (.head _) rfl
   ·rw[iA,hg,R.aD,aiS (v2:=η) (xQ s hi _) (uN s i hkn _) (xQ t hi _) (uN t i hkn _) rfl hin];rfl
  ·rw[decide_eq_false hm]at hin;have e1:qm [ζ (aH n s),ζ (aH n t),ζ (.ref c.length),ζ (.int (i:Int)),ζ (.int (k:Int)),v5] (c++[.lst (L.map dI)])=.ok (.nx [ζ (aH n s),ζ (aH n t),ζ (.ref c.length),ζ (.int (i:Int)),ζ (.int (k:Int)),ζ (dI (s i k,t i k))]) (c++[.lst (L.map dI++[dI (s i k,t i k)])]):=aiT (v5:=v5) (xQ s hi _) (uN s i hkn _) (xQ t hi _) (uN t i hkn _) rfl hin rfl (by rw[ak6];omega)
   have hmp:L.map dI++[dI (s i k,t i k)]=(L++[(s i k,t i k)]).map dI:=by rw[alU];rfl
   have hap:L++(s i k,t i k)::(ks.map λk=>(s i k,t i k))=(L++[(s i k,t i k)])++ks.map λk=>(s i k,t i k):=by rw[alA];rfl
   have nX:(L++[(s i k,t i k)]).Nodup:=by
    rw[amo];refine⟨hL,by simp,λa ha b hb e=>?_⟩
    rw[alw]at hb;subst hb;subst e;exact hm ha
   rw[hmp]at e1;rw[hap,iA,hg,R.aD,e1];exact Pp hi ks (L++[(s i k,t i k)]) _ _ (λz hz=>hk z (.tail _ hz)) nX (by simp;omega)
def ql:ah:=bQ (aV (ao (aB aN (ao (ak 0) aq)) aq)) (aA 4) qm
theorem JF{S:D}{q:Int}{a1 a2 a3 a4 a5:Option D}{c:aa}(hl:aN [S] c=.ok (.int q) c) (b:-4611686018427387904<=q/\q<4611686018427387904):aV (ao (aB aN (ao (ak 0) aq)) aq) [ζ S,a1,a2,a3,a4,a5] c=.ok ⟨bf 0 q,λ_=>True⟩ c:=by
 simp only[gr,bE,dG,bJ,gz,bK,R.aD,hl];rw[if_pos (by omega)]
theorem BZ(n:Nat) (s t:Nat->Nat->Nat) (i:Nat):nv n s t i=(θ n).map λk=>(s i k,t i k):=rfl
theorem Po{n:Nat}(h8:n<8) {s t:Nat->Nat->Nat}{c:aa}:∀(is:List Nat) (L:List (Nat×Nat)) (v3 v4 v5:Option D),(∀i∈is,i<n)->L.Nodup->L.length+is.length*n<=100 ->
  ((L++is.flatMap (nv n s t)).Nodup/\∃w l,cG (λ_=>True) (aA 3) ql (is.map λi:Nat=>D.int (i:Int)) [ζ (aH n s),ζ (aH n t),ζ (.ref c.length),v3,v4,v5] (c++[.lst (L.map dI)])=.ok (.nx ([ζ (aH n s),ζ (aH n t),ζ (.ref c.length)]++w)) (c++[.lst l])) \/
  ((¬(L++is.flatMap (nv n s t)).Nodup)/\∃l,cG (λ_=>True) (aA 3) ql (is.map λi:Nat=>D.int (i:Int)) [ζ (aH n s),ζ (aH n t),ζ (.ref c.length),v3,v4,v5] (c++[.lst (L.map dI)])=.ok (.rt (.bl ξ)) (c++[.lst l]))
 |[],L,v3,v4,v5,_,hL,_=>.inl ⟨by simpa using hL,[v3,v4,v5],_,by simp;rfl⟩
 |i::is,L,v3,v4,v5,hi,hL,hl=>by
  have hin:=hi i (.head _);simp only[ak4,amd]at hl;have hg:aA 3 (.int (i:Int)) [ζ (aH n s),ζ (aH n t),ζ (.ref c.length),v3,v4,v5] (c++[.lst (L.map dI)])=.ok [ζ (aH n s),ζ (aH n t),ζ (.ref c.length),ζ (.int (i:Int)),v4,v5] (c++[.lst (L.map dI)]):=rfl;have hr:=JF (S:=aH n s) (q:=(n:Int)) (a1:=ζ (aH n t)) (a2:=ζ (.ref c.length)) (a3:=ζ (.int (i:Int))) (a4:=v4) (a5:=v5) (c:=c++[.lst (L.map dI)]) (nN n s _) (by omega)
  have vR:∀{r:R Fl},cG (λ_=>True) (aA 4) qm ((θ n).map λk:Nat=>D.int (k:Int)) [ζ (aH n s),ζ (aH n t),ζ (.ref c.length),ζ (.int (i:Int)),v4,v5] (c++[.lst (L.map dI)])=r->ql [ζ (aH n s),ζ (aH n t),ζ (.ref c.length),ζ (.int (i:Int)),v4,v5] (c++[.lst (L.map dI)])=r:=λh=>by
   unfold ql;rw[gE,hr,R.aD,<-h,<-yb]
  rw[ak2,anQ]
  rcases Pp hin (s:=s) (t:=t) (c:=c) (θ n) L v4 v5 (λk hk=>akY.mp hk) hL (by simp;omega)with⟨hn,w4,w5,e⟩|⟨hn,l,e⟩
  ·rw[<-BZ]at hn e;have e:=vR e;have:=Po h8 (s:=s) (t:=t) (c:=c) is (L++nv n s t i) (ζ (.int (i:Int))) w4 w5 (λz hz=>hi z (.tail _ hz)) hn (by rw[alp,BZ,ak6,alN];omega)
   rw[<-alA]
   rcases this with⟨h1,w,l,h2⟩|⟨h1,l,h2⟩
   ·refine .inl ⟨h1,w,l,?_⟩;rw[iA,hg,R.aD,e];exact h2
   ·refine .inr ⟨h1,l,?_⟩;rw[iA,hg,R.aD,e];exact h2
  ·rw[<-BZ]at hn;have e:=vR e;refine .inr ⟨λz=>hn ?_,l,?_⟩
   ·rw[<-alA]at z;exact(amo.mp z).1
   ·rw[iA,hg,R.aD,e];rfl
theorem abF{n:Nat}(h8:n<8) (s t:Nat->Nat->Nat) (c:aa):sE [aH n s,aH n t] c=.ok (.bl (decide (g7 n s t n).Nodup)) c:=by
 have hnn:n*n<=7*7:=Nat.mul_le_mul (by omega) (by omega)
 have e0:(aG 2 (eV aq)) [ζ (aH n s),ζ (aH n t),η,η,η,η] c=.ok (.nx [ζ (aH n s),ζ (aH n t),ζ (.ref c.length),η,η,η]) (c++[.lst []]):=by
  generalize aH n s=A
  generalize aH n t=B
  simp
 have hr:=JF (S:=aH n s) (q:=(n:Int)) (a1:=ζ (aH n t)) (a2:=ζ (.ref c.length)) (a3:=η) (a4:=η) (a5:=η) (c:=c++[.lst []]) (nN n s _) (by omega)
 have vR:∀{r:R Fl},cG (λ_=>True) (aA 3) ql ((θ n).map λk:Nat=>D.int (k:Int)) [ζ (aH n s),ζ (aH n t),ζ (.ref c.length),η,η,η] (c++[.lst []])=r->bQ (aV (ao (aB aN (ao (ak 0) aq)) aq)) (aA 3) ql [ζ (aH n s),ζ (aH n t),ζ (.ref c.length),η,η,η] (c++[.lst []])=r:=λh=>by
  rw[gE,hr,R.aD,<-h,<-yb]
 have hb:oB=aE (aG 2 (eV aq)) (aE (bQ (aV (ao (aB aN (ao (ak 0) aq)) aq)) (aA 3) ql) (aK (dC (.bl Ξ)))):=rfl;have ht:∀l,(c++[Cell.lst l]).take c.length=c:=λl=>by simp
 have es:dH 6 [aH n s,aH n t]=[ζ (aH n s),ζ (aH n t),η,η,η,η]:=rfl
 rcases Po h8 (s:=s) (t:=t) (c:=c) (θ n) [] η η η (λk hk=>akY.mp hk) List.nodup_nil (by simp;omega)with⟨hn,w,l,e⟩|⟨hn,l,e⟩
 ·rw[alm]at hn;have hn:(g7 n s t n).Nodup:=hn;have e1:=vR e;rw[decide_eq_true hn];show bM 6 ξ oB [aH n s,aH n t] c=_;unfold bM;rw[es,hb,bu e0,bu e1];show dX ξ c.length (.bl Ξ) (c++[.lst l])=_;unfold dX;dsimp only;rw[if_pos (show noRef (D.bl Ξ)=Ξ from rfl),ht]
 ·rw[alm]at hn;have hn:¬(g7 n s t n).Nodup:=hn;have e1:=vR e;rw[decide_eq_false hn];show bM 6 ξ oB [aH n s,aH n t] c=_;unfold bM;rw[es,hb,bu e0,qz e1];show dX ξ c.length (.bl ξ) (c++[.lst l])=_;unfold dX;dsimp only;rw[if_pos (show noRef (D.bl ξ)=Ξ from rfl),ht]
theorem EV:∀(l r:List (List Int)),r.Nodup->(l.foldl fU r).length<=r.length+l.length/\((l.foldl fU r).length=r.length+l.length↔(r++l).Nodup)
 |[],r,h=>⟨by simp,by simp[h]⟩
 |k::l,r,h=>by
  by_cases hk:k∈r
  ·have hs:fU r k=r:=by unfold fU;rw[if_pos hk]
   rw[aml,hs];obtain⟨h1,_⟩:=EV l r h;refine⟨by simp;omega,⟨λe=>?_,λz=>?_⟩⟩
   ·simp only[ak4]at e;omega
   ·rw[amo]at z;exact absurd rfl (z.2.2 k hk k (.head _))
  ·have hs:fU r k=r++[k]:=by unfold fU;rw[if_neg hk]
   rw[aml,hs];have h2:(r++[k]).Nodup:=by
    rw[amo];refine⟨h,by simp,λa ha b hb e=>?_⟩
    rw[alw]at hb;subst hb;subst e;exact hk ha
   obtain⟨h1,i1⟩:=EV l (r++[k]) h2;rw[alp,alA]at *;refine⟨by simp at h1 ⊢;omega,?_⟩
   simp only[ak4,ali]at i1 ⊢;rw[show r.length+(l.length+1)=r.length+(0+1)+l.length by omega]
   exact i1
theorem Pj(n:Nat) (h1:1<=n) (s t:Nat->Nat->Nat):∀k,(θ (k*n)).map (λi=>(s (i/n) (i % n),t (i/n) (i % n)))=g7 n s t k
 |0=>by simp[g7]
 |k+1=>by
  rw[Hy,<-Pj n h1 s t k,amd,List.range_add,alU,alh]
  congr 1
  unfold nv;refine alY λj hj=>?_
  have hj:=akY.mp hj;have e1:(k*n+j)/n=k:=by rw[aoc,Nat.mul_add_div (by omega),Nat.div_eq_of_lt hj];omega
  have e2:(k*n+j) % n=j:=by rw[aoc,Nat.mul_add_mod,Nat.mod_eq_of_lt hj]
  show(s ((k*n+j)/n) ((k*n+j) % n),_)=_;rw[e1,e2]
theorem aac{n:Nat}(h1:1<=n) (s t:Nat->Nat->Nat):((θ (n*n)).map (jf n s t)).Nodup↔(g7 n s t n).Nodup:=by
 rw[<-Pj n h1 s t n];unfold υ;rw[amx,amx]
 constructor
 ·refine λh=>h.imp fun{i j} hne e=>hne ?_
  unfold jf
  injection e with e1 e2
  rw[e1,e2]
 ·refine λh=>h.imp fun{i j} hne e=>hne ?_
  unfold jf at e
  injection e with e1 e2
  injection e2 with e2 _
  have e1:s (i/n) (i % n)=s (j/n) (j % n):=by omega
  have e2:t (i/n) (i % n)=t (j/n) (j % n):=by omega
  rw[e1,e2]
theorem JQ{n:Nat}{s s':Nat->Nat->Nat}(a:∀x y,x<n->y<n->s x y<8) (b:∀x y,x<n->y<n->s' x y<8):∀l:List Nat,(∀i∈l,i<n*n)->pB (l.map (yi n s s'))=ζ (l.map (jf n s s'))
 |[],_=>rfl
 |i::l,h=>by
  have hi:=h i (.head _);have h0:0<n:=by rcases apr n with e|e;(subst e;simp at hi);exact e
  have a1:=a (i/n) (i % n) (aoU hi) (amz _ h0);have a2:=b (i/n) (i % n) (aoU hi) (amz _ h0);have hp:uZ (yi n s s' i)=ζ (jf n s s' i):=by
   unfold uZ yi jf;dsimp only;rw[if_pos (by omega)]
  rw[ak2,ak2];unfold pB;rw[hp,JQ a b l λj hj=>h j (.tail _ hj)]
theorem eq_int(x y:Int) (c:aa):cy (.int x) (.int y) c=.ok (.bl (decide (x=y))) c:=by simp
def jS(n:Nat) (s s':Nat->Nat->Nat):Bool:=decide (g7 n s s' n).Nodup
theorem abm{n:Nat}{s s':Nat->Nat->Nat}(h1:1<=n) (h7:n<=7) (L:eZ n s) (L':eZ n s') (c:aa):ze [aH n s,aH n s'] c=.ok (.bl (jS n s s')) c:=by
 have hnn:n*n<=49:=Nat.mul_le_mul h7 h7;refine B7 (n:=3) (b:=p9) ?_ rfl (λk h=>by cases h)
 obtain⟨Q,hQ⟩:∃Q:Int,Q=((n*n:Nat):Int):=⟨_,rfl⟩;have hml:b8 (.int (n:Int)) (.int (n:Int)) c=.ok (.int Q) c:=by
  rw[hQ];exact aa0 (m:=(n:Int)) (by omega) (by omega) (by simp) c
 have e0:aG 2 (au b8 (aB aN (ao (ak 0) aq)) (aB aN (ao (ak 0) aq))) [ζ (aH n s),ζ (aH n s'),η] c=.ok (.nx [ζ (aH n s),ζ (aH n s'),ζ (.int Q)]) c:=kR (i:=2) (fP (f:=b8) (lM (d1:=ak 0) rfl (nN n s c)) (lM (d1:=ak 0) rfl (nN n s c)) hml);have t2:(2:Nat)<=ι:=by decide
 have hc:=zl (d:=ak 2) (a:=dN (ao (aC 2 jj (ao (ak 1) (ao (ak 0) aq))) (ao (aC 2 jj (ao (ak 2) (ao (ak 0) aq))) aq))) (pick:=[η,ζ 0,ζ 1]) (e:=[ζ (aH n s),ζ (aH n s'),ζ (.int Q)]) (E:=[ζ (aH n s),ζ (aH n s')]) (c:=c) (N:=Q) (n:=n*n) (yi n s s') rfl hQ (by omega) rfl (λi hi=>by
  have g1:=OQ (m:=jj) (d1:=ak 1) (d2:=ak 0) (e:=[ζ (.int (i:Int)),ζ (aH n s),ζ (aH n s')]) rfl rfl (Jo s h1 h7 hi rfl c);have g2:=OQ (m:=jj) (d1:=ak 2) (d2:=ak 0) (e:=[ζ (.int (i:Int)),ζ (aH n s),ζ (aH n s')]) rfl rfl (Jo s' h1 h7 hi rfl c);simp only[Il,bE,g1,g2,bK,R.aD];rw[if_pos (by exact t2)]
  rfl)
 have hp:=JQ (s:=s) (s':=s') (λx y hx hy=>by have:=L.lt hx hy;omega) (λx y hx hy=>by have:=L'.lt hx hy;omega) (θ (n*n)) λi hi=>akY.mp hi
 obtain⟨f1,f2⟩:=EV ((θ (n*n)).map (jf n s s')) [] List.nodup_nil;rw[ak6,alN,ali,alz]at f1 f2;rw[alm,aac h1]at f2;have hs:tH (ao (aT (aV (ao (ak 2) aq)) [η,ζ 0,ζ 1] (aA 0) aJ (dN (ao (aC 2 jj (ao (ak 1) (ao (ak 0) aq))) (ao (aC 2 jj (ao (ak 2) (ao (ak 0) aq))) aq)))) aq) [ζ (aH n s),ζ (aH n s'),ζ (.int Q)] c=.ok (.int ((c8 ((θ (n*n)).map (jf n s s'))).length:Nat)) c:=by
  unfold tH;simp only[bE,hc,bK,R.aD,dW,hp];rw[if_pos (show(c8 ((θ (n*n)).map (jf n s s'))).length<64 from amZ f1 (by omega))]
 have hb:p9=aE (aG 2 (au b8 (aB aN (ao (ak 0) aq)) (aB aN (ao (ak 0) aq)))) (aK (au cy (tH (ao (aT (aV (ao (ak 2) aq)) [η,ζ 0,ζ 1] (aA 0) aJ (dN (ao (aC 2 jj (ao (ak 1) (ao (ak 0) aq))) (ao (aC 2 jj (ao (ak 2) (ao (ak 0) aq))) aq)))) aq)) (ak 2))):=rfl;rw[show dH 3 [aH n s,aH n s']=[ζ (aH n s),ζ (aH n s'),η]from rfl,hb,bu e0]
 have zD:cy (.int ((c8 ((θ (n*n)).map (jf n s s'))).length:Nat)) (.int Q) c=.ok (.bl (jS n s s')) c:=by
  have f3:(c8 ((θ (n*n)).map (jf n s s'))).length=n*n↔(g7 n s s' n).Nodup:=f2
  generalize (c8 ((θ (n*n)).map (jf n s s'))).length=m at f3
  have hd:decide (((m:Nat):Int)=Q)=jS n s s':=by
   unfold jS;rw[decide_eq_decide,<-f3,hQ]
   generalize n*n=k
   omega
  rw[eq_int,hd]
 exact B6 (fP (f:=cy) hs (d2:=ak 2) (y:=.int Q) rfl zD)
theorem Et:("NoSquare":Str)∈eE:=by decide +kernel
section
variable {c:aa}
theorem uW{d:D}(h:cP [d] c=.ok (.bl Ξ) c):k6 [d] c=.ok .aQ c/\oN [d] c=.bad:=by
 constructor
 ·simp[k6,p8,h]
 ·simp[oN,wI,fnX,qw,xE,h]
theorem JG{d:D}(h:cP [d] c=.ok (.bl ξ) c):k6 [d] c=.bad/\oN [d] c=.ok "NoSquare" c:=by
 constructor
 ·simp[k6,p8,h]
 ·simp[oN,wI,fnX,qw,uF,h]
theorem RI{d e:D}(h:cP [d] c=.ok (.bl ξ) c):fh [d,e] c=.ok (.str "square") c:=by
 obtain⟨r1,r2⟩:=JG h;have h1:kg [d,e] c=.bad:=by simp[kg,lP,r1]
 have h2:ng [d,e] c=.ok "NoSquare" c:=by simp[ng,tV,fnX,oR,jU,r2]
 simp[fh,lN,oZ,h1,jU,h2,Et,DF]
theorem RH{d e:D}(h:cP [d] c=.ok (.bl Ξ) c) (h':cP [e] c=.ok (.bl ξ) c):fh [d,e] c=.ok (.str "square") c:=by
 obtain⟨s1,s2⟩:=uW h;obtain⟨r1,r2⟩:=JG h';have h1:kg [d,e] c=.bad:=by simp[kg,lP,s1,r1]
 have h2:ng [d,e] c=.ok "NoSquare" c:=by simp[ng,tV,fnX,oR,jU,s2,uE,s1,r2]
 simp[fh,lN,oZ,h1,jU,h2,Et,DF]
theorem IJ{d e:D}{p q:Int}(h:cP [d] c=.ok (.bl Ξ) c) (h':cP [e] c=.ok (.bl Ξ) c) (hl:aN [d] c=.ok (.int p) c) (hl':aN [e] c=.ok (.int q) c) (hne:¬p=q):fh [d,e] c=.ok (.str "square") c:=by
 obtain⟨s1,s2⟩:=uW h;obtain⟨r1,r2⟩:=uW h';have h1:kg [d,e] c=.bad:=by simp[kg,lP,s1,r1,hl,hl',hne]
 have h2:ng [d,e] c=.ok "NoSquare" c:=by simp[ng,tV,fnX,oR,jU,s2,uE,s1,r2,r1,qw,uF,hl,hl',hne]
 simp[fh,lN,oZ,h1,jU,h2,Et,DF]
theorem RJ{d e:D}{p:Int}{b:Bool}(h:cP [d] c=.ok (.bl Ξ) c) (h':cP [e] c=.ok (.bl Ξ) c) (hl:aN [d] c=.ok (.int p) c) (hl':aN [e] c=.ok (.int p) c) (ha:ze [d,e] c=.ok (.bl b) c):fh [d,e] c=.ok (.bl b) c:=by
 obtain⟨s1,s2⟩:=uW h;obtain⟨r1,r2⟩:=uW h';have h1:kg [d,e] c=.ok (.bl b) c:=by simp[kg,lP,s1,r1,hl,hl',ha]
 simp[fh,lN,oZ,h1]
end
theorem ur{l:List D}{i:Int}(h0:-(l.length:Int)<=i) (h1:i<l.length):∃d∈l,cJ l i=ζ d:=by
 by_cases h:0<=i
 ·obtain⟨k,rfl⟩:∃k:Nat,i=k:=⟨i.toNat,by omega⟩
  have hk:k<l.length:=by omega
  exact⟨l[k],alH hk,gQ (ak7 hk)⟩
 ·have hk:(i+l.length).toNat<l.length:=by omega
  refine⟨l[(i+l.length).toNat],alH hk,?_⟩;unfold cJ fM;rw[if_neg h];simp only[h0,h1,true_and];simp[hk]
  first|done|omega|(intros;omega)|skip
def wU(d:D):Prop:=qo d/\noRef d=Ξ
def Thing(X:D):Prop:=noRef X=Ξ/\((∃rows,X=.tup rows/\∀d∈rows,qo d)\/(∃l,X=.lst l)\/X=.aQ\/X=.iB\/(∃i,X=.int i)\/∃z,X=.str z)
theorem ni{rows:List D}(h:∀d∈rows,wU d):Thing (.tup rows):=⟨rW λd hd=>(h d hd).2,.inl ⟨rows,rfl,λd hd=>(h d hd).1⟩⟩
theorem SE{X:D}(h:Thing X) (c:aa):∃b,cP [X] c=.ok (.bl b) c/\fZ [X] c=.ok (.bl b) c:=by
 rcases h.2 with⟨rows,rfl,hr⟩|⟨l,rfl⟩|rfl|rfl|⟨i,rfl⟩|⟨z,rfl⟩
 ·exact SI hr c
 ·exact⟨ξ,by simp[cP,g6],by simp[fZ,iV]⟩
 ·exact⟨ξ,by simp[cP,g6],by simp[fZ,iV]⟩
 ·have hd:bx [.iB,.ty "tuple"] c=.ok (.bl ξ) c:=rfl;exact⟨ξ,by simp[cP,g6,hd],by simp[fZ,iV,hd]⟩
 ·exact⟨ξ,by simp[cP,g6],by simp[fZ,iV]⟩
 ·exact⟨ξ,by simp[cP,g6],by simp[fZ,iV]⟩
theorem Gv{l:List D}{lo hi:Option Int}{d:D}(h:d∈cutD l lo hi):d∈l:=by
 unfold cutD at h;exact am9 (amq h)
theorem wB(l:List D) (lo hi:Option Int):(cutD l lo hi).length<=l.length:=by
 unfold cutD;rw[al2,an8];omega
theorem ou{d1 d2:af}{e:Ev}{c:aa}{l r:List D}(h1:d1 e c=.ok (.tup l) c) (h2:d2 e c=.ok (.tup r) c) (hl:l.length+r.length<=1000):au fO d1 d2 e c=.ok (.tup (l++r)) c:=by
 have sz:=ja;refine fP h1 h2 ?_;show(if l.length+r.length<=ι then R.ok (D.tup (l++r)) c else .bad)=_
 rw[if_pos (by omega)]
theorem kQ{d:af}{lo hi:Ev->aa->R (Option Int)}{e:Ev}{c:aa}{l:List D}{a b:Option Int}(h:d e c=.ok (.tup l) c) (h1:lo e c=.ok a c) (h2:hi e c=.ok b c):fF d lo hi e c=.ok (.tup (cutD l a b)) c:=by
 rw[QO,h,R.aD,h1,R.aD,h2,R.aD]
theorem dZ{d:af}{r:aj}{e:Ev}{c:aa}{x:D}{xs:List D}(h1:d e c=.ok x c) (h2:r e c=.ok xs c):ao d r e c=.ok (x::xs) c:=by
 simp only[bE,h1,h2,R.aD]
theorem jD(e:Ev) (c:aa):aq e c=.ok [] c:=rfl
theorem zh{a:aj}{e:Ev}{c:aa}{xs:List D}(h:a e c=.ok xs c) (hl:xs.length<=100):bH a e c=.ok (.lst xs) c:=by
 have sz:=ja;simp only[BB,h,R.aD];rw[if_pos (by omega)]
theorem oV{a:aj}{e:Ev}{c:aa}{xs:List D}(h:a e c=.ok xs c) (hl:xs.length<=100):dN a e c=.ok (.tup xs) c:=by
 have sz:=ja;simp only[Il,h,R.aD];rw[if_pos (by omega)]
theorem OO{d1 d2:af}{e:Ev}{c:aa}{l r:List D}(h1:d1 e c=.ok (.lst l) c) (h2:d2 e c=.ok (.lst r) c) (hl:l.length+r.length<=1000):au dP d1 d2 e c=.ok (.lst (l++r)) c:=by
 have sz:=ja;refine fP h1 h2 ?_;show(if l.length+r.length<=ι then R.ok (D.lst (l++r)) c else .bad)=_
 rw[if_pos (by omega)]
theorem cV.cut{j m:Nat}{c:aa}(h:cV j (m+1) c) (hj:j<m):cV j m (c.take m):=by
 obtain⟨h1,_,p,h3⟩:=h;refine⟨by rw[al2];omega,hj,p,?_⟩
 rw[am5];rw[if_pos hj];exact h3
structure HD (n:Nat) (S:List D):Prop where
 len:S.length=n
 row:∀d∈S,∃R,d=.tup R/\R.length=n/\∀x∈R,∃i:Int,x=.int i
theorem SJ(n:Nat) (s:Nat->Nat->Nat):HD n (gu n s):=⟨by simp[gu],λd hd=>by
 obtain⟨i,_,rfl⟩:=akW.mp hd;refine⟨_,rfl,by simp[nD],λx hx=>?_⟩
 obtain⟨k,_,rfl⟩:=akW.mp hx;exact⟨_,rfl⟩⟩
theorem UL{n:Nat}{S:List D}(h:HD n S) (h7:n<=7):∀d∈S,wU d:=λd hd=>by
 obtain⟨R,rfl,hl,hx⟩:=h.row d hd;refine⟨.inl ⟨R,rfl,by omega,λx hx'=>.inl (hx x hx')⟩,rW λx hx'=>?_⟩
 obtain⟨i,rfl⟩:=hx x hx';rfl
def O1:ah:=(aG 2 (aB aN (ao (ak 1) aq)))
def O0:ah:=(aG 3 (aC 2 b6 (ao (ak 0) (ao (ak 2) aq))))
def OY:ah:=(aG 4 (aC 2 b6 (ao (ak 0) (ao (ak 2) aq))))
def OX:ah:=(aG 5 (bH (ao (ak 2) (ao (au bS (dC (.int 0)) (dC (.int 1))) (ao (dC (.bl Ξ)) (ao (dC .aQ) (ao (dC (.str "0")) (ao (au aF (au aF (ak 1) (ak 3)) (au bS (ak 4) (dC (.int 1)))) (ao (dN (ao (dC (.int 0)) aq)) (ao (au aF (au aF (ak 1) (au bS (ak 3) (dC (.int 1)))) (ak 4)) aq))))))))))
def OW:ah:=(aG 6 (au aF (ak 5) (aC 2 b6 (ao (ak 0) (ao (dC (.int 8)) aq)))))
def OV:ah:=(aG 7 (au fO (au fO (fF (au aF (ak 1) (ak 3)) eU (eT (ak 4))) (dN (ao (ak 6) aq))) (fF (au aF (ak 1) (ak 3)) (eT (au aZ (ak 4) (dC (.int 1)))) eU)))
def OU:ah:=(aG 8 (bH (ao (au fO (au fO (fF (ak 1) eU (eT (ak 3))) (dN (ao (ak 7) aq))) (fF (ak 1) (eT (au aZ (ak 3) (dC (.int 1)))) eU)) (ao (au fO (fF (ak 1) eU (eT (ak 3))) (fF (ak 1) (eT (au aZ (ak 3) (dC (.int 1)))) eU)) (ao (au fO (ak 1) (fF (ak 1) eU (eT (dC (.int 1))))) (ao (aB jH (ao (ak 1) aq)) aq))))))
def OT:ah:=(aG 8 (au dP (ak 8) (bH (ao (aB cg (ao (aT (bD (ak 1)) [η] (aA 0) aJ (aB jH (ao (ak 0) aq))) aq)) (ao (au fO (au fO (fF (ak 1) eU (eT (ak 3))) (dN (ao (au aF (ak 1) (au bS (ak 3) (dC (.int 1)))) aq))) (fF (ak 1) (eT (au aZ (ak 3) (dC (.int 1)))) eU)) (ao (dN aq) (ao (dC .aQ) aq)))))))
def OS:ah:=(aG 9 (eV aq))
def Hl:ah:=(bQ (aV (ao (dC (.int 8)) aq)) (aA 10) (dR (fm (ak 9) (aB cg (ao (aT (aV (ao (dC (.int 8)) aq)) [η,ζ 10] (aA 0) aJ (au bT (au aZ (ak 1) (ak 0)) (dC (.int 8)))) aq)))))
def OZ:ah:=(aG 8 (au dP (ak 8) (bH (ao Gs (ao (dC (.int 7)) (ao (dC (.str "0")) (ao (dN (ao (dN (ao (dC (.int 0)) aq)) aq)) (ao (aB cg (ao (ak 9) aq)) aq))))))))
def Ho:ah:=(aK (au aF (ak 8) (aC 2 b6 (ao (ak 0) (ao (dC (.int 13)) aq)))))
def Hj:ah:=(dR (fm (ak 9) (aB cg (ao (aT (aV (ao (dC (.int 8)) aq)) [η,ζ 10] (aA 0) aJ (au bT (au aZ (ak 1) (ak 0)) (dC (.int 8)))) aq))))
theorem ahP:qi=aE O1 (aE O0 (aE OY (aE OX (aE OW (aE OV (aE OU (aE OT (aE OS (aE Hl (aE OZ Ho)))))))))):=rfl
def r8(x:Nat):D:=.tup ((θ 8).map λk:Nat=>D.int (((x:Int)+(k:Int)) % 8))
theorem JK(x:Nat):wU (r8 x):=by
 refine⟨.inl ⟨_,rfl,by simp,λd hd=>?_⟩,rW λd hd=>?_⟩
 ·obtain⟨k,_,rfl⟩:=akW.mp hd;exact .inl ⟨_,rfl⟩
 ·obtain⟨k,_,rfl⟩:=akW.mp hd;rfl
theorem afd(a0 a1 a2 a3 a4 a5 a6 a7 a8 v10:Option D) (c:aa):∃w,Hl [a0,a1,a2,a3,a4,a5,a6,a7,a8,ζ (.ref c.length),v10] (c++[.lst []])=.ok (.nx [a0,a1,a2,a3,a4,a5,a6,a7,a8,ζ (.ref c.length),w]) (c++[.lst ((θ 8).map r8)]):=by
 have:=pT (g:=aA 10) (s:=Hj) (N:=8) (n:=8) (λx=>c++[.lst ((θ x).map r8)]) (λ_ (v:Option D)=>[a0,a1,a2,a3,a4,a5,a6,a7,a8,ζ (.ref c.length),v]) rfl v10 (λx hx v=>by
  refine⟨[a0,a1,a2,a3,a4,a5,a6,a7,a8,ζ (.ref c.length),ζ (.int (x:Nat))],rfl,ζ (.int (x:Nat)),?_⟩;have hval:(aB cg (ao (aT (aV (ao (dC (.int 8)) aq)) [η,ζ 10] (aA 0) aJ (au bT (au aZ (ak 1) (ak 0)) (dC (.int 8)))) aq)) [a0,a1,a2,a3,a4,a5,a6,a7,a8,ζ (.ref c.length),ζ (.int (x:Nat))] (c++[.lst ((θ x).map r8)])=.ok (r8 x) (c++[.lst ((θ x).map r8)]) :=
   IL (d:=dC (.int 8)) (a:=au bT (au aZ (ak 1) (ak 0)) (dC (.int 8))) (pick:=[η,ζ 10]) (N:=8) (n:=8) (E:=[ζ (.int (x:Nat))]) (λk:Nat=>D.int (((x:Int)+(k:Int)) % 8)) rfl rfl (by omega) rfl λk hk =>
    fP (f:=bT) (x:=.int ((x:Int)+(k:Int))) (y:=.int 8) (fP (f:=aZ) (d1:=ak 1) (d2:=ak 0) rfl rfl rfl) (d2:=dC (.int 8)) rfl (jG _ (by decide))
  have hap:=A1 (c:=c) (acc:=(θ x).map r8) (dO:=ak 9) (e:=[a0,a1,a2,a3,a4,a5,a6,a7,a8,ζ (.ref c.length),ζ (.int (x:Nat))]) rfl hval (JK x).2 (by simp;omega)
  unfold Hj;rw[nc,hap,R.aD];rw[show(θ x).map r8++[r8 x]=(θ (x+1)).map r8 by rw[amg,alU];rfl])
 obtain⟨w,hw⟩:=this;refine⟨w,?_⟩;have hr:aV (ao (dC (.int 8)) aq) [a0,a1,a2,a3,a4,a5,a6,a7,a8,ζ (.ref c.length),v10] (c++[.lst []])=.ok ⟨bf 0 8,λ_=>True⟩ (c++[.lst []]):=by simp
 have hb:Hl=bQ (aV (ao (dC (.int 8)) aq)) (aA 10) Hj:=rfl;rw[hb,gE,hr,R.aD];exact hw
theorem xU{i:Nat}{d:af}{e:Ev}{c c':aa}{v:D}(h:d e c=.ok v c'):aG i d e c=.ok (.nx (e.set i (ζ v))) c':=by rw[fR,h];rfl
theorem O9{f:D->D->aa->R D}{d1 d2:af}{e:Ev}{c c1 c2:aa}{x y:D}{r:R D}(h1:d1 e c=.ok x c1) (h2:d2 e c1=.ok y c2) (h:f x y c2=r):au f d1 d2 e c=r:=by
 rw[d9,h1,R.aD,h2,R.aD,h]
theorem AX{m:List D->aa->R D}{d1 d2:af}{e:Ev}{c c':aa}{x y v:D}(h1:d1 e c=.ok x c) (h2:d2 e c=.ok y c) (h:m [x,y] c=.ok v c'):aC 2 m (ao d1 (ao d2 aq)) e c=.ok v c':=by
 simp only[x_call,bE,h1,h2,bK,R.aD];rw[if_pos (by rfl)]
 exact h
theorem pL{l:List D}{i:Int}{d:D}(h:cJ l i=ζ d) (c:aa):aF (.tup l) (.int i) c=.ok d c:=by rw[xD,h]
theorem LM{l:List D}{i:Int}{d:D}(h:cJ l i=ζ d) (c:aa):aF (.lst l) (.int i) c=.ok d c:=by rw[qv,h]
theorem Lr(c:aa):∀(S:List D) (v:Option D) (acc:List D),(∀d∈S,∃Q,d=.tup Q)->∃T:List (List D),bI (λ_=>True) (aA 0) aJ (aB jH (ao (ak 0) aq)) S [v] acc c=.ok (acc++T.map D.lst) c/\T.length=S.length/\∀Q∈T,D.tup Q∈S
 |[],v,acc,_=>⟨[],by simp,rfl,λQ h=>(by cases h)⟩
 |d::S,v,acc,h=>by
  obtain⟨Q,rfl⟩:=h d (.head _);obtain⟨T,e,hl,hm⟩:=Lr c S (ζ (.tup Q)) (acc++[.lst Q]) λz hz=>h z (.tail _ hz)
  refine⟨Q::T,?_,by simp[hl],λR' h'=>?_⟩
  ·have h1:aA 0 (.tup Q) [v] c=.ok [ζ (.tup Q)] c:=rfl;have h2:aB jH (ao (ak 0) aq) [ζ (.tup Q)] c=.ok (.lst Q) c:=rfl;rw[jP,h1,R.aD,kO,R.aD,if_pos rfl,h2,R.aD,e,alA];rfl
  ·rcases akV.mp h' with rfl|h'
   ·exact .head _
   ·exact .tail _ (hm R' h')
theorem ahO{j m n:Nat}{S:List D}(hS:HD n S) (h1:1<=n) (h7:n<=7) {c:aa}(hP:cV j m c):∃X c',Thing X/\cV j m c'/\vC [.ref j,.tup S] c=.ok X c':=by
 have sz:=ja;have hN:=UL hS h7;obtain⟨N,eN⟩:∃N:Int,N=(n:Int):=⟨_,rfl⟩;have hSl:=hS.len;obtain⟨a,c1,a0,a1,P1,t1⟩:=iG (cN:=N) hP (by omega) (by omega)
 obtain⟨p,c2,p0,p1,P2,t2⟩:=iG (cN:=N) P1 (by omega) (by omega)
 obtain⟨dA,mA,hA⟩:=ur (l:=S) (i:=a) (by omega) (by omega)
 obtain⟨Ra,rfl,la,xa⟩:=hS.row dA mA;obtain⟨dB,mB,hB⟩:=ur (l:=S) (i:=a-1) (by omega) (by omega)
 obtain⟨Rb,rfl,lb,xb⟩:=hS.row dB mB;obtain⟨dU,mU,hU⟩:=ur (l:=Ra) (i:=p-1) (by omega) (by omega)
 obtain⟨u,rfl⟩:=xa dU mU;obtain⟨dV,mV,hV⟩:=ur (l:=Rb) (i:=p) (by omega) (by omega)
 obtain⟨v,rfl⟩:=xb dV mV;have f0:O1 [ζ (.ref j),ζ (.tup S),η,η,η,η,η,η,η,η,η] c=.ok (.nx [ζ (.ref j),ζ (.tup S),ζ (.int N),η,η,η,η,η,η,η,η]) c:=by
  refine kR (i:=2) (lM (d1:=ak 1) rfl ?_);rw[uD,hSl,eN]
 have f1:O0 [ζ (.ref j),ζ (.tup S),ζ (.int N),η,η,η,η,η,η,η,η] c=.ok (.nx [ζ (.ref j),ζ (.tup S),ζ (.int N),ζ (.int a),η,η,η,η,η,η,η]) c1:=xU (i:=3) (AX (m:=b6) (d1:=ak 0) (d2:=ak 2) rfl rfl t1);have f2:OY [ζ (.ref j),ζ (.tup S),ζ (.int N),ζ (.int a),η,η,η,η,η,η,η] c1=.ok (.nx [ζ (.ref j),ζ (.tup S),ζ (.int N),ζ (.int a),ζ (.int p),η,η,η,η,η,η]) c2:=xU (i:=4) (AX (m:=b6) (d1:=ak 0) (d2:=ak 2) rfl rfl t2);have f3:OX [ζ (.ref j),ζ (.tup S),ζ (.int N),ζ (.int a),ζ (.int p),η,η,η,η,η,η] c2=.ok (.nx [ζ (.ref j),ζ (.tup S),ζ (.int N),ζ (.int a),ζ (.int p),ζ (.lst [.int N,.int (-1),.bl Ξ,.aQ,.str "0",.int u,.tup [.int 0],.int v]),η,η,η,η,η]) c2 :=
  kR (i:=5) (zh (dZ (d:=ak 2) rfl (dZ (x:=.int (-1)) rfl (dZ (x:=.bl Ξ) rfl (dZ (x:=.aQ) rfl (dZ (x:=.str "0") rfl (dZ (fP (f:=aF) (fP (f:=aF) (d1:=ak 1) (d2:=ak 3) rfl rfl (pL hA c2)) (d2:=au bS (ak 4) (dC (.int 1))) rfl (pL hU c2)) (dZ (oV (dZ (x:=.int 0) rfl (jD _ _)) (alI rfl)) (dZ (fP (f:=aF) (fP (f:=aF) (d1:=ak 1) (d2:=au bS (ak 3) (dC (.int 1))) rfl rfl (pL hB c2)) (d2:=ak 4) rfl (pL hV c2)) (jD _ _))))))))) (alI rfl))
 obtain⟨y,c3,y0,y1,P3,t3⟩:=iG (cN:=8) P2 (by decide) (by decide)
 obtain⟨odd,mo,ho⟩:=ur (l:=[D.int N,.int (-1),.bl Ξ,.aQ,.str "0",.int u,.tup [.int 0],.int v]) (i:=y) (by show -(8:Int)<=y;omega) (by show y<8;omega)
 have hodd:It odd/\noRef odd=Ξ:=by
  simp only[akV,ala,or_false]at mo
  rcases mo with rfl|rfl|rfl|rfl|rfl|rfl|rfl|rfl
  ·exact⟨.inl ⟨_,rfl⟩,rfl⟩
  ·exact⟨.inl ⟨_,rfl⟩,rfl⟩
  ·exact⟨.inr (.inl rfl),rfl⟩
  ·exact⟨.inr (.inr (.inl rfl)),rfl⟩
  ·exact⟨.inr (.inr (.inr (.inl ⟨_,rfl⟩))),rfl⟩
  ·exact⟨.inl ⟨_,rfl⟩,rfl⟩
  ·exact⟨.inr (.inr (.inr (.inr ⟨_,rfl⟩))),rfl⟩
  ·exact⟨.inl ⟨_,rfl⟩,rfl⟩
 have f4:OW [ζ (.ref j),ζ (.tup S),ζ (.int N),ζ (.int a),ζ (.int p),ζ (.lst [.int N,.int (-1),.bl Ξ,.aQ,.str "0",.int u,.tup [.int 0],.int v]),η,η,η,η,η] c2=.ok (.nx [ζ (.ref j),ζ (.tup S),ζ (.int N),ζ (.int a),ζ (.int p),ζ (.lst [.int N,.int (-1),.bl Ξ,.aQ,.str "0",.int u,.tup [.int 0],.int v]),ζ odd,η,η,η,η]) c3:=xU (i:=6) (O9 (f:=aF) (d1:=ak 5) rfl (AX (m:=b6) (d1:=ak 0) (d2:=dC (.int 8)) rfl rfl t3) (LM ho c3))
 generalize (D.lst [.int N,.int (-1),.bl Ξ,.aQ,.str "0",.int u,.tup [.int 0],.int v])=O at f3 f4
 obtain⟨row,FU⟩:∃row,row=cutD Ra η (ζ p)++[odd]++cutD Ra (ζ (p+1)) η:=⟨_,rfl⟩;have lr1:=wB Ra η (ζ p);have lr2:=wB Ra (ζ (p+1)) η;have vN:wU (.tup row):=by
  have hm:∀x∈row,It x/\noRef x=Ξ:=λx hx=>by
   rw[FU,alj,alj,alw]at hx
   rcases hx with(hx|rfl)|hx
   ·obtain⟨i,rfl⟩:=xa x (Gv hx);exact⟨.inl ⟨_,rfl⟩,rfl⟩
   ·exact hodd
   ·obtain⟨i,rfl⟩:=xa x (Gv hx);exact⟨.inl ⟨_,rfl⟩,rfl⟩
  refine⟨.inl ⟨row,rfl,?_,λx hx=>(hm x hx).1⟩,rW λx hx=>(hm x hx).2⟩
  rw[FU];simp only[alp,ak4,ali];omega
 have f5:OV [ζ (.ref j),ζ (.tup S),ζ (.int N),ζ (.int a),ζ (.int p),ζ O,ζ odd,η,η,η,η] c3=.ok (.nx [ζ (.ref j),ζ (.tup S),ζ (.int N),ζ (.int a),ζ (.int p),ζ O,ζ odd,ζ (.tup row),η,η,η]) c3:=by
  rw[FU];refine kR (i:=7) (ou (ou (kQ (fP (f:=aF) (d1:=ak 1) (d2:=ak 3) rfl rfl (pL hA c3)) rfl rfl) (oV (dZ (d:=ak 6) rfl (jD _ _)) (alI rfl)) ?_) (kQ (fP (f:=aF) (d1:=ak 1) (d2:=ak 3) rfl rfl (pL hA c3)) rfl rfl) ?_)
  ·simp only[ak4,ali];omega
  ·simp only[alp,ak4,ali];omega
 have ls1:=wB S η (ζ a);have ls2:=wB S (ζ (a+1)) η;have ls3:=wB S η (ζ 1);have mS:∀{lo hi:Option Int},∀d∈cutD S lo hi,wU d:=λd hd=>hN d (Gv hd)
 have f6:OU [ζ (.ref j),ζ (.tup S),ζ (.int N),ζ (.int a),ζ (.int p),ζ O,ζ odd,ζ (.tup row),η,η,η] c3=.ok (.nx [ζ (.ref j),ζ (.tup S),ζ (.int N),ζ (.int a),ζ (.int p),ζ O,ζ odd,ζ (.tup row),ζ (.lst [.tup (cutD S η (ζ a)++[.tup row]++cutD S (ζ (a+1)) η),.tup (cutD S η (ζ a)++cutD S (ζ (a+1)) η),.tup (S++cutD S η (ζ 1)),.lst S]),η,η]) c3:=by
  refine kR (i:=8) (zh (dZ (ou (ou (kQ (d:=ak 1) rfl rfl rfl) (oV (dZ (d:=ak 7) rfl (jD _ _)) (alI rfl)) ?_) (kQ (d:=ak 1) rfl rfl rfl) ?_) (dZ (ou (kQ (d:=ak 1) rfl rfl rfl) (kQ (d:=ak 1) rfl rfl rfl) ?_) (dZ (ou (d1:=ak 1) rfl (kQ (d:=ak 1) rfl rfl rfl) ?_) (dZ (lM (f:=jH) (d1:=ak 1) rfl rfl) (jD _ _))))) (alI rfl))
  ·simp only[ak4,ali];omega
  ·simp only[alp,ak4,ali];omega
  ·omega
  ·omega
 obtain⟨T,hT,lT,mT⟩:=Lr c3 S η [] λd hd=>by
  obtain⟨R,rfl,_⟩:=hS.row d hd;exact⟨R,rfl⟩
 rw[alm]at hT;have MD:aB cg (ao (aT (bD (ak 1)) [η] (aA 0) aJ (aB jH (ao (ak 0) aq))) aq) [ζ (.ref j),ζ (.tup S),ζ (.int N),ζ (.int a),ζ (.int p),ζ O,ζ odd,ζ (.tup row),ζ (.lst [.tup (cutD S η (ζ a)++[.tup row]++cutD S (ζ (a+1)) η),.tup (cutD S η (ζ a)++cutD S (ζ (a+1)) η),.tup (S++cutD S η (ζ 1)),.lst S]),η,η] c3=.ok (.tup (T.map D.lst)) c3:=by
  refine lM (x:=.lst (T.map D.lst)) ?_ (II _ c3 (by simp;omega))
  have hd:bD (ak 1) [ζ (.ref j),ζ (.tup S),ζ (.int N),ζ (.int a),ζ (.int p),ζ O,ζ odd,ζ (.tup row),ζ (.lst [.tup (cutD S η (ζ a)++[.tup row]++cutD S (ζ (a+1)) η),.tup (cutD S η (ζ a)++cutD S (ζ (a+1)) η),.tup (S++cutD S η (ζ 1)),.lst S]),η,η] c3=.ok ⟨S,λ_=>True⟩ c3:=rfl
  rw[dF,hd,R.aD];dsimp only;rw[if_pos (by omega)]
  show(bI (λ_=>True) (aA 0) aJ (aB jH (ao (ak 0) aq)) S [η] [] c3).bind _=_
  rw[hT];rfl
 obtain⟨l6,F2⟩:∃l6:List D,l6=[.tup (cutD S η (ζ a)++[.tup row]++cutD S (ζ (a+1)) η),.tup (cutD S η (ζ a)++cutD S (ζ (a+1)) η),.tup (S++cutD S η (ζ 1)),.lst S]:=⟨_,rfl⟩;have LC:l6.length=4:=by rw[F2];rfl
 rw[<-F2]at f6 MD;have f7:OT [ζ (.ref j),ζ (.tup S),ζ (.int N),ζ (.int a),ζ (.int p),ζ O,ζ odd,ζ (.tup row),ζ (.lst l6),η,η] c3=.ok (.nx [ζ (.ref j),ζ (.tup S),ζ (.int N),ζ (.int a),ζ (.int p),ζ O,ζ odd,ζ (.tup row),ζ (.lst (l6++[.tup (T.map D.lst),.tup (cutD S η (ζ a)++[.tup Rb]++cutD S (ζ (a+1)) η),.tup [],.aQ])),η,η]) c3:=by
  refine kR (i:=8) (OO (d1:=ak 8) rfl (zh (dZ MD (dZ (ou (ou (kQ (d:=ak 1) rfl rfl rfl) (oV (dZ (fP (f:=aF) (d1:=ak 1) (d2:=au bS (ak 3) (dC (.int 1))) rfl rfl (pL hB c3)) (jD _ _)) (alI rfl)) ?_) (kQ (d:=ak 1) rfl rfl rfl) ?_) (dZ (oV (jD _ _) (alI rfl)) (dZ (x:=.aQ) rfl (jD _ _))))) (alI rfl)) ?_)
  ·simp only[ak4,ali];omega
  ·simp only[alp,ak4,ali];omega
  ·rw[LC];exact alI rfl
 obtain⟨l8,F1⟩:∃l8:List D,l8=l6++[.tup (T.map D.lst),.tup (cutD S η (ζ a)++[.tup Rb]++cutD S (ζ (a+1)) η),.tup [],.aQ]:=⟨_,rfl⟩;have LB:l8.length=8:=by rw[F1,alp,LC];rfl
 rw[<-F1]at f7;have f8:OS [ζ (.ref j),ζ (.tup S),ζ (.int N),ζ (.int a),ζ (.int p),ζ O,ζ odd,ζ (.tup row),ζ (.lst l8),η,η] c3=.ok (.nx [ζ (.ref j),ζ (.tup S),ζ (.int N),ζ (.int a),ζ (.int p),ζ O,ζ odd,ζ (.tup row),ζ (.lst l8),ζ (.ref c3.length),η]) (c3++[.lst []]):=by
  refine xU (i:=9) ?_;simp[bO]
 obtain⟨w,f9⟩:=afd (ζ (.ref j)) (ζ (.tup S)) (ζ (.int N)) (ζ (.int a)) (ζ (.int p)) (ζ O) (ζ odd) (ζ (.tup row)) (ζ (.lst l8)) η c3;have MG:cV j (m+1) (c3++[.lst ((θ 8).map r8)]):=by
  obtain⟨q1,q2,q,q3⟩:=P3;refine⟨by rw[alp,q1];rfl,by omega,q,?_⟩
  rw[alL (by omega)]
  exact q3
 have zC:j<m:=P3.2.1;have hcm:c.length=m:=hP.1;have ML:aB cg (ao (ak 9) aq) [ζ (.ref j),ζ (.tup S),ζ (.int N),ζ (.int a),ζ (.int p),ζ O,ζ odd,ζ (.tup row),ζ (.lst l8),ζ (.ref c3.length),w] (c3++[.lst ((θ 8).map r8)])=.ok (.tup ((θ 8).map r8)) (c3++[.lst ((θ 8).map r8)]):=by
  refine lM (d1:=ak 9) (x:=.ref c3.length) rfl ?_;have hg:(c3++[Cell.lst ((θ 8).map r8)])[c3.length]? = ζ (.lst ((θ 8).map r8)):=by simp
  unfold cg gw;simp only[hg]
 generalize (c3++[Cell.lst ((θ 8).map r8)])=c4 at f9 MG ML
 have AB:OZ [ζ (.ref j),ζ (.tup S),ζ (.int N),ζ (.int a),ζ (.int p),ζ O,ζ odd,ζ (.tup row),ζ (.lst l8),ζ (.ref c3.length),w] c4=.ok (.nx [ζ (.ref j),ζ (.tup S),ζ (.int N),ζ (.int a),ζ (.int p),ζ O,ζ odd,ζ (.tup row),ζ (.lst (l8++[.iB,.int 7,.str "0",.tup [.tup [.int 0]],.tup ((θ 8).map r8)])),ζ (.ref c3.length),w]) c4:=by
  refine kR (i:=8) (OO (d1:=ak 8) rfl (zh (dZ (x:=.iB) rfl (dZ (x:=.int 7) rfl (dZ (x:=.str "0") rfl (dZ (oV (dZ (oV (dZ (x:=.int 0) rfl (jD _ _)) (alI rfl)) (jD _ _)) (alI rfl)) (dZ ML (jD _ _)))))) (alI rfl)) ?_);rw[LB];exact alI rfl
 obtain⟨z,c5,z0,z1,P5,t5⟩:=iG (cN:=13) MG (by decide) (by decide)
 obtain⟨vG,F3⟩:∃vG:List D,vG=l8++[.iB,.int 7,.str "0",.tup [.tup [.int 0]],.tup ((θ 8).map r8)]:=⟨_,rfl⟩;have l13l:vG.length=13:=by rw[F3,alp,LB];rfl
 rw[<-F3]at AB;obtain⟨X,mX,hX⟩:=ur (l:=vG) (i:=z) (by omega) (by omega)
 have MC:Thing X:=by
  rw[F3,F1,F2]at mX;simp only[List.cons_append,alm,akV,ala,or_false]at mX
  rcases mX with rfl|rfl|rfl|rfl|rfl|rfl|rfl|rfl|rfl|rfl|rfl|rfl|rfl
  ·refine ni λd hd=>?_
   rw[alj,alj,alw]at hd
   rcases hd with(hd|rfl)|hd
   ·exact mS d hd
   ·exact vN
   ·exact mS d hd
  ·refine ni λd hd=>?_
   rw[alj]at hd;exact hd.elim (mS d) (mS d)
  ·refine ni λd hd=>?_
   rw[alj]at hd;exact hd.elim (hN d) (mS d)
  ·refine⟨?_,.inr (.inl ⟨_,rfl⟩)⟩;unfold noRef;exact iM.mpr λd hd=>(hN d hd).2
  ·refine ni λd hd=>?_
   obtain⟨R,hR,rfl⟩:=akW.mp hd;refine⟨.inr ⟨R,rfl⟩,?_⟩;have:=(hN _ (mT R hR)).2;unfold noRef at this ⊢;exact this
  ·refine ni λd hd=>?_
   rw[alj,alj,alw]at hd
   rcases hd with(hd|rfl)|hd
   ·exact mS d hd
   ·exact hN _ mB
   ·exact mS d hd
  ·exact ni λd hd=>by cases hd
  ·exact⟨rfl,.inr (.inr (.inl rfl))⟩
  ·exact⟨rfl,.inr (.inr (.inr (.inl rfl)))⟩
  ·exact⟨rfl,.inr (.inr (.inr (.inr (.inl ⟨_,rfl⟩))))⟩
  ·exact⟨rfl,.inr (.inr (.inr (.inr (.inr ⟨_,rfl⟩))))⟩
  ·refine ni λd hd=>?_
   rw[alw]at hd;subst hd;exact⟨.inl ⟨_,rfl,by simp,λx hx=>.inl ⟨0,by simpa using hx⟩⟩,rfl⟩
  ·refine ni λd hd=>?_
   obtain⟨k,_,rfl⟩:=akW.mp hd;exact JK k
 have f11:Ho [ζ (.ref j),ζ (.tup S),ζ (.int N),ζ (.int a),ζ (.int p),ζ O,ζ odd,ζ (.tup row),ζ (.lst vG),ζ (.ref c3.length),w] c4=.ok (.rt X) c5:=by
  unfold Ho;rw[jw,O9 (f:=aF) (d1:=ak 8) rfl (AX (m:=b6) (d1:=ak 0) (d2:=dC (.int 13)) rfl rfl t5) (LM hX c5)];rfl
 refine⟨X,c5.take m,MC,P5.cut zC,?_⟩;show bM 11 ξ qi [.ref j,.tup S] c=_;unfold bM;rw[show dH 11 [D.ref j,.tup S]=[ζ (.ref j),ζ (.tup S),η,η,η,η,η,η,η,η,η]from rfl,ahP,bu f0,bu f1,bu f2,bu f3,bu f4,bu f5,bu f6,bu f7,bu f8,bu f9,bu AB,f11,R.aD]
 dsimp only;rw[hcm];have hnr:=MC.1;unfold dX;cases X with
 |ref k=>cases hnr
 |_=>(dsimp only;rw[if_pos hnr])
theorem L8(i:Int) (c:aa):inD (.int i) (.tup [.int 3,.int 4,.int 5,.int 7]) c=.ok (.bl (decide (i∈[(3:Int),4,5,7]))) c:=by
 have h1:gg c (.int i)=ζ (.int i):=rfl;have h2:gg c (.tup [.int 3,.int 4,.int 5,.int 7])=ζ (.tuple [.int 3,.int 4,.int 5,.int 7]):=rfl;unfold inD;rw[h1,h2];dsimp only;rw[if_pos (by simp[PyData.depth])]
 congr 2
 simp[PyData.eqv,eq_comm]
 by_cases e3:i=3<;>by_cases e4:i=4<;>by_cases e5:i=5<;>by_cases e7:i=7<;>simp[e3,e4,e5,e7]<;>omega
def Cv:ah:=(aG 2 (aC 1 sA (ao (aC 2 sD (ao (ak 0) (ao (ak 1) aq))) aq)))
def Cu:ah:=(aG 3 (aC 2 j8 (ao (ak 2) (ao (au aZ (dC (.int 1)) (aC 2 b6 (ao (ak 2) (ao (dC (.int 7)) aq)))) aq))))
def Cr:ah:=(aG 4 (au aZ (dC (.int 1)) (aC 2 b6 (ao (ak 2) (ao (dC (.int 7)) aq)))))
def yI:ah:=(bq (aL (au sQ (aC 2 b6 (ao (ak 2) (ao (dC (.int 4)) aq))) (dC (.int 0)))) (aG 4 (aB aN (ao (ak 3) aq))) br)
def Cq:ah:=(aG 5 (aC 2 j8 (ao (ak 2) (ao (ak 4) aq))))
def vf:ah:=(bq (gB (aL (au inD (aB aN (ao (ak 3) aq)) (dN (ao (dC (.int 3)) (ao (dC (.int 4)) (ao (dC (.int 5)) (ao (dC (.int 7)) aq))))))) (aL (au cy (aC 2 b6 (ao (ak 2) (ao (dC (.int 2)) aq))) (dC (.int 0))))) (aE (aG 6 (aC 1 vB (ao (aB aN (ao (ak 3) aq)) aq))) (aE (aG 3 (au aF (ak 6) (aC 2 b6 (ao (ak 2) (ao (aB aN (ao (ak 6) aq)) aq))))) (aG 5 (au aF (ak 6) (aC 2 b6 (ao (ak 2) (ao (aB aN (ao (ak 6) aq)) aq))))))) br)
def Cp:ah:=(aG 7 (aC 2 vC (ao (ak 2) (ao (ak 3) aq))))
def Co:ah:=(aG 8 (aC 1 cP (ao (ak 7) aq)))
def Cm:ah:=(bq (dY (aL (au sI (aC 1 cP (ao (ak 3) aq)) (dC (.bl Ξ)))) (bR (aL (aB bx (ao (ak 8) (ao (dC (.ty "bool")) aq)))))) (aK (dC (.bl ξ))) br)
def Ck:ah:=(bq (aL (au fX (ak 8) (aC 1 fZ (ao (ak 7) aq)))) (aK (dC (.bl ξ))) br)
def Ka:ah:=(aG 9 (dC (.str "square")))
def rT:ah:=(bq (aL (au cy (aB aN (ao (ak 3) aq)) (aB aN (ao (ak 5) aq)))) (aG 9 (aC 2 sE (ao (ak 3) (ao (ak 5) aq)))) br)
def Ct:ah:=(bq (bR (aL (aC 2 (iz 2) (ao (aC 2 fh (ao (ak 3) (ao (ak 5) aq))) (ao (ak 9) aq))))) (aK (dC (.bl ξ))) br)
def Cs:ah:=(bq (bR (aL (aC 2 (iz 2) (ao (aC 2 fh (ao (ak 5) (ao (ak 3) aq))) (ao (ak 9) aq))))) (aK (dC (.bl ξ))) br)
def yK:ah:=(bq (gB (bR (tE (ak 8))) (aL (au eG (aC 2 fh (ao (ak 3) (ao (ak 7) aq))) (dC (.str "square"))))) (aK (dC (.bl ξ))) br)
def yJ:ah:=(bq (gB (bR (tE (ak 8))) (aL (au eG (aC 2 fh (ao (ak 7) (ao (ak 3) aq))) (dC (.str "square"))))) (aK (dC (.bl ξ))) br)
def vd:ah:=aE Cv (aE Cu (aE Cr (aE yI (aE Cq (aE vf (aE Cp (aE Co (aE Cm (aE Ck (aE Ka (aE rT (aE Ct (aE Cs (aE yK yJ))))))))))))))
def kK(n:Nat) (s:Nat->Nat->Nat):Prop:=eZ n s/\1<=n/\n<=7
theorem Nz{j m:Nat}{c:aa}(hP:cV j m c) {N:Int}(h1:1<=N) (h7:N<=7):∃n s c',kK n s/\N=n/\cV j m c'/\j8 [.ref j,.int N] c=.ok (aH n s) c':=by
 obtain⟨n,rfl⟩:∃n:Nat,N=n:=⟨N.toNat,by omega⟩
 obtain⟨s,c',hL,P,h⟩:=afo hP (n:=n) (by omega) (by omega)
 exact⟨n,s,c',⟨hL,by omega,by omega⟩,rfl,P,h⟩
theorem aeZ{n:Nat}(h:(n:Int)∈[(3:Int),4,5,7]):∃f∈cR,f.q=n:=by
 simp only[akV,ala,or_false]at h;have hn:n=3\/n=4\/n=5\/n=7:=by omega
 have h3:∀k∈[3,4,5,7],cR.any (λf=>decide (f.q=k))=Ξ:=by decide +kernel
 have:=h3 n (by simp;omega)
 obtain⟨f,hf,e⟩:=aoT.mp this;exact⟨f,hf,of_decide_eq_true e⟩
theorem M6{f:Fd}(h:f∈cR) (h7:f.q<=7) {x:Int}(x0:0<=x) (x1:x<((f.q-1:Nat):Int)):∃s,kK f.q s/\∀c,aF (.lst (FS f)) (.int x) c=.ok (aH f.q s) c:=by
 have q2:=(iO h).q2;obtain⟨a,rfl⟩:∃a:Nat,x=a:=⟨x.toNat,by omega⟩
 have ha:a<f.q-1:=by omega
 have ho:=ak0.mp (YJ h h7) a (akY.mpr ha);rw[ak9]at ho;refine⟨sF f (1+a),⟨(abc ho.1).1,by omega,h7⟩,λc=>Ek rfl ?_ c⟩
 unfold FS;rw[alk,alZ ha];rfl
theorem Uz{j m n n':Nat}{s s':Nat->Nat->Nat}{c:aa}(hP:cV j m c) (L:kK n s) (L':kK n' s') (a0 a1 a4 v6 v7 v8 v9:Option D):∃N S N' S' w6 c',kK N S/\kK N' S'/\cV j m c'/\vf [a0,a1,ζ (.ref j),ζ (aH n s),a4,ζ (aH n' s'),v6,v7,v8,v9] c=.ok (.nx [a0,a1,ζ (.ref j),ζ (aH N S),a4,ζ (aH N' S'),w6,v7,v8,v9]) c':=by
 have t4:(4:Nat)<=ι:=by decide
 obtain⟨Q,hQ⟩:∃Q:Int,Q=(n:Int):=⟨_,rfl⟩;have hl:∀c,aN [aH n s] c=.ok (.int Q) c:=λc=>by rw[hQ];exact nN n s c
 by_cases hm:Q∈[(3:Int),4,5,7]
 ·have hin:inD (.int Q) (.tup [.int 3,.int 4,.int 5,.int 7]) c=.ok (.bl Ξ) c:=by rw[L8,decide_eq_true hm]
  obtain⟨x,c1,x0,x1,P1,t1⟩:=iG (cN:=2) hP (by decide) (by decide)
  by_cases hx:x=0
  ·rw[hQ]at hm;obtain⟨f,hf,hfq⟩:=aeZ hm;have h7:f.q<=7:=by have:=L.2.2;omega
   have q2:=(iO hf).q2;have hfs:vB [.int Q] c1=.ok (.lst (FS f)) c1:=abn hf (by rw[hQ,hfq]) (by omega) c1
   obtain⟨K,hK⟩:∃K:Int,K=((f.q-1:Nat):Int):=⟨_,rfl⟩;have hfl:∀c,aN [.lst (FS f)] c=.ok (.int K) c:=λc=>by
    rw[hK,<-ai6];rfl
   have q3:3<=f.q:=by
    simp only[akV,ala,or_false]at hm;omega
   obtain⟨y,c2,y0,y1,P2,t2⟩:=iG (cN:=K) P1 (by omega) (by omega)
   obtain⟨z,c3,z0,z1,P3,t3⟩:=iG (cN:=K) P2 (by omega) (by omega)
   obtain⟨s1,L1,i1⟩:=M6 hf h7 y0 (by omega)
   obtain⟨s2,L2,i2⟩:=M6 hf h7 z0 (by omega)
   refine⟨f.q,s1,f.q,s2,ζ (.lst (FS f)),c3,L1,L2,P3,?_⟩
   generalize aH n s=A at *
   generalize aH n' s'=B at *
   generalize aH f.q s1=C at *
   generalize aH f.q s2=E at *
   generalize D.lst (FS f)=F at *
   simp[vf,hl,t4,hin,t1,hx,hfs,hfl,t2,i1,t3,i2]
  ·refine⟨n,s,n',s',v6,c1,L,L',P1,?_⟩
   generalize aH n s=A at *
   generalize aH n' s'=B at *
   simp[vf,hl,t4,hin,t1,hx]
 ·have hin:inD (.int Q) (.tup [.int 3,.int 4,.int 5,.int 7]) c=.ok (.bl ξ) c:=by rw[L8,decide_eq_false hm]
  refine⟨n,s,n',s',v6,c,L,L',hP,?_⟩
  generalize aH n s=A at *
  generalize aH n' s'=B at *
  simp[vf,hl,t4,hin]
theorem Ph(n:Nat) (s t:Nat->Nat->Nat):∀k,g7 n t s k=(g7 n s t k).map λp=>(p.2,p.1)
 |0=>rfl
 |k+1=>by
  rw[Hy,Hy,alU,<-Ph n s t k]
  congr 1
  unfold nv;rw[alh];rfl
theorem aiQ(n:Nat) (s t:Nat->Nat->Nat):jS n t s=jS n s t:=by
 have h:∀s t:Nat->Nat->Nat,(g7 n s t n).Nodup->(g7 n t s n).Nodup:=λs t h=>by
  rw[Ph n s t n];unfold υ;rw[amx];refine h.imp fun{p q} hne e=>hne ?_
  injection e with e1 e2
  exact Prod.ext e2 e1
 unfold jS;rw[decide_eq_decide];exact⟨h t s,h s t⟩
theorem Uw(b:Bool) (c:aa):iz 2 [.bl b,.bl b] c=.ok (.bl Ξ) c:=by
 cases b<;>simp[iz,qb]
theorem Uv(c:aa):iz 2 [.str "square",.str "square"] c=.ok (.bl Ξ) c:=by
 simp[iz,qb]
theorem KW(c:aa):eG (.str "square") (.str "square") c=.ok (.bl ξ) c:=by
 have hs:PyData.strOk "square"=Ξ:=by decide +kernel
 simp[eG,gg,d8,PyData.depth,PyData.eqv,hs]
theorem XT{A B:D}{P:Int}{b:Bool}{c:aa}(l1:aN [A] c=.ok (.int P) c) (l2:aN [B] c=.ok (.int P) c) (hla:sE [A,B] c=.ok (.bl b) c) (a0 a1 a2 a4 a6 a7 a8:Option D):rT [a0,a1,a2,ζ A,a4,ζ B,a6,a7,a8,ζ (.str "square")] c=.ok (.nx [a0,a1,a2,ζ A,a4,ζ B,a6,a7,a8,ζ (.bl b)]) c:=by simp[rT,l1,l2,hla]
theorem XS{A B:D}{P Q:Int}{c:aa}(l1:aN [A] c=.ok (.int P) c) (l2:aN [B] c=.ok (.int Q) c) (e:¬P=Q) (a0 a1 a2 a4 a6 a7 a8:Option D):rT [a0,a1,a2,ζ A,a4,ζ B,a6,a7,a8,ζ (.str "square")] c=.ok (.nx [a0,a1,a2,ζ A,a4,ζ B,a6,a7,a8,ζ (.str "square")]) c:=by simp[rT,l1,l2,e]
theorem ki{n:Nat}{P:Int}(h:P=(n:Int)) (s:Nat->Nat->Nat) (c:aa):aN [aH n s] c=.ok (.int P) c:=by subst h;exact nN n s c
theorem abG{n:Nat}(h8:n<8) (s t:Nat->Nat->Nat) (c:aa):sE [aH n s,aH n t] c=.ok (.bl (jS n s t)) c:=by
 unfold jS;exact abF h8 s t c
theorem Ny{n:Nat}{s s':Nat->Nat->Nat}(L:kK n s) (L':kK n s') {P:Int}(hP:P=(n:Int)) (c:aa):fh [aH n s,aH n s'] c=.ok (.bl (jS n s s')) c:=RJ (uO L.1 L.2.1 L.2.2 c) (uO L'.1 L'.2.1 L'.2.2 c) (ki hP s c) (ki hP s' c) (abm L.2.1 L.2.2 L.1 L'.1 c)
theorem afn{n n':Nat}{s s':Nat->Nat->Nat}(L:kK n s) (L':kK n' s') (c:aa) (a0 a1 a2 a4 a6 a7 a8 v9:Option D):∃X,fh [aH n s,aH n' s'] c=.ok X c/\fh [aH n' s',aH n s] c=.ok X c/\iz 2 [X,X] c=.ok (.bl Ξ) c /\
  rT [a0,a1,a2,ζ (aH n s),a4,ζ (aH n' s'),a6,a7,a8,ζ (.str "square")] c=.ok (.nx [a0,a1,a2,ζ (aH n s),a4,ζ (aH n' s'),a6,a7,a8,ζ X]) c:=by
 obtain⟨P,hP⟩:∃P:Int,P=(n:Int):=⟨_,rfl⟩;obtain⟨Q,hQ⟩:∃Q:Int,Q=(n':Int):=⟨_,rfl⟩
 by_cases en:n=n'
 ·subst en;have hl8:n<8:=Nat.lt_succ_of_le L.2.2;have h2:=Ny L' L hP c;rw[aiQ]at h2;exact⟨.bl (jS n s s'),Ny L L' hP c,h2,Uw _ c,XT (ki hP s c) (ki hP s' c) (abG hl8 s s' c) _ _ _ _ _ _ _⟩
 ·have e:¬P=Q:=by omega
  have q1:=uO L.1 L.2.1 L.2.2 c;have q2:=uO L'.1 L'.2.1 L'.2.2 c;exact⟨.str "square",IJ q1 q2 (ki hP s c) (ki hQ s' c) e,IJ q2 q1 (ki hQ s' c) (ki hP s c) (λz=>e z.symm),Uv c,XS (ki hP s c) (ki hQ s' c) e _ _ _ _ _ _ _⟩
theorem XM{ns:List Int}{i:Int}(hi:0<=i) (c:aa) (v2 v3 v4 v5 v6 v7 v8 v9:Option D) :
  ∃e' c',(∃w1 w2 w3 w4 w5 w6 w7 w8 w9,e'=[ζ (.bL ns),w1,w2,w3,w4,w5,w6,w7,w8,w9])/\vd [ζ (.bL ns),ζ (.int i),v2,v3,v4,v5,v6,v7,v8,v9] c=.ok (.nx e') c':=by
 obtain⟨x,hx⟩:=ahk ns i hi c;obtain⟨p0,hp⟩:=VU x c;have P0:cV c.length (c.length+1) (c++[.lst [.int p0]]):=⟨by simp,by omega,p0,by simp⟩
 generalize hj:c.length=j at hp P0
 have e0:Cv [ζ (.bL ns),ζ (.int i),v2,v3,v4,v5,v6,v7,v8,v9] c=.ok (.nx [ζ (.bL ns),ζ (.int i),ζ (.ref j),v3,v4,v5,v6,v7,v8,v9]) (c++[.lst [.int p0]]):=by simp[Cv,hx,hp]
 obtain⟨x1,c1,a1,b1,P1,t1⟩:=iG (cN:=7) P0 (by decide) (by decide)
 obtain⟨n,s,c2,L,hn,P2,d1⟩:=Nz P1 (N:=1+x1) (by omega) (by omega)
 have e1:Cu [ζ (.bL ns),ζ (.int i),ζ (.ref j),v3,v4,v5,v6,v7,v8,v9] (c++[.lst [.int p0]])=.ok (.nx [ζ (.bL ns),ζ (.int i),ζ (.ref j),ζ (aH n s),v4,v5,v6,v7,v8,v9]) c2:=by
  generalize aH n s=A at *
  simp[Cu,t1,d1]
 obtain⟨x2,c3,a2,b2,P3,t2⟩:=iG (cN:=7) P2 (by decide) (by decide)
 have e2:Cr [ζ (.bL ns),ζ (.int i),ζ (.ref j),ζ (aH n s),v4,v5,v6,v7,v8,v9] c2=.ok (.nx [ζ (.bL ns),ζ (.int i),ζ (.ref j),ζ (aH n s),ζ (.int (1+x2)),v5,v6,v7,v8,v9]) c3:=by
  generalize aH n s=A at *
  simp[Cr,t2]
 obtain⟨x3,c4,a3,b3,P4,t3⟩:=iG (cN:=4) P3 (by decide) (by decide)
 have e3:∃M:Int,1<=M/\M<=7/\yI [ζ (.bL ns),ζ (.int i),ζ (.ref j),ζ (aH n s),ζ (.int (1+x2)),v5,v6,v7,v8,v9] c3=.ok (.nx [ζ (.bL ns),ζ (.int i),ζ (.ref j),ζ (aH n s),ζ (.int M),v5,v6,v7,v8,v9]) c4:=by
  have hl:aN [aH n s] c4=.ok (.int (1+x1)) c4:=by rw[hn];exact nN n s c4
  by_cases h:x3>0
  ·refine⟨1+x1,by omega,by omega,?_⟩
   generalize aH n s=A at *
   simp[yI,t3,h,hl]
  ·refine⟨1+x2,by omega,by omega,?_⟩
   generalize aH n s=A at *
   simp[yI,t3,h]
 obtain⟨M,m1,m7,e3⟩:=e3;obtain⟨n',s',c5,L',hn',P5,d2⟩:=Nz P4 (N:=M) m1 m7;have e4:Cq [ζ (.bL ns),ζ (.int i),ζ (.ref j),ζ (aH n s),ζ (.int M),v5,v6,v7,v8,v9] c4=.ok (.nx [ζ (.bL ns),ζ (.int i),ζ (.ref j),ζ (aH n s),ζ (.int M),ζ (aH n' s'),v6,v7,v8,v9]) c5:=by
  generalize aH n s=A at *
  generalize aH n' s'=B at *
  simp[Cq,d2]
 obtain⟨N,S,N',S',w6,c6,LS,LS',P6,e5⟩:=Uz P5 L L' (ζ (.bL ns)) (ζ (.int i)) (ζ (.int M)) v6 v7 v8 v9;obtain⟨Z,c7,hZ,P7,hb⟩:=ahO (SJ N S) LS.2.1 LS.2.2 P6;have hb:vC [.ref j,aH N S] c6=.ok Z c7:=hb;have e6:Cp [ζ (.bL ns),ζ (.int i),ζ (.ref j),ζ (aH N S),ζ (.int M),ζ (aH N' S'),w6,v7,v8,v9] c6=.ok (.nx [ζ (.bL ns),ζ (.int i),ζ (.ref j),ζ (aH N S),ζ (.int M),ζ (aH N' S'),w6,ζ Z,v8,v9]) c7:=by
  generalize aH N S=A at *
  generalize aH N' S'=B at *
  simp[Cp,hb]
 obtain⟨b,hq,hlq⟩:=SE hZ c7;have hS:=uO LS.1 LS.2.1 LS.2.2 c7;obtain⟨X,tl,tr,sm,e11⟩:=afn LS LS' c7 (ζ (.bL ns)) (ζ (.int i)) (ζ (.ref j)) (ζ (.int M)) w6 (ζ Z) (ζ (.bl b)) v9;have tz:b=ξ->fh [aH N S,Z] c7=.ok (.str "square") c7/\fh [Z,aH N S] c7=.ok (.str "square") c7:=λhb0=>by
  rw[hb0]at hq;exact⟨RH hS hq,RI hq⟩
 generalize aH N S=A at *
 generalize aH N' S'=B at *
 have e7:Co [ζ (.bL ns),ζ (.int i),ζ (.ref j),ζ A,ζ (.int M),ζ B,w6,ζ Z,v8,v9] c7=.ok (.nx [ζ (.bL ns),ζ (.int i),ζ (.ref j),ζ A,ζ (.int M),ζ B,w6,ζ Z,ζ (.bl b),v9]) c7:=by simp[Co,hq]
 have hnb:sI (.bl Ξ) (.bl Ξ) c7=.ok (.bl ξ) c7:=rfl;have htb:∀z,uH c7 (.bl z)=ζ z:=λ_=>rfl
 have e8:Cm [ζ (.bL ns),ζ (.int i),ζ (.ref j),ζ A,ζ (.int M),ζ B,w6,ζ Z,ζ (.bl b),v9] c7=.ok (.nx [ζ (.bL ns),ζ (.int i),ζ (.ref j),ζ A,ζ (.int M),ζ B,w6,ζ Z,ζ (.bl b),v9]) c7:=by simp[Cm,hS,hnb]
 have e9:Ck [ζ (.bL ns),ζ (.int i),ζ (.ref j),ζ A,ζ (.int M),ζ B,w6,ζ Z,ζ (.bl b),v9] c7=.ok (.nx [ζ (.bL ns),ζ (.int i),ζ (.ref j),ζ A,ζ (.int M),ζ B,w6,ζ Z,ζ (.bl b),v9]) c7:=by simp[Ck,hlq]
 have e10:Ka [ζ (.bL ns),ζ (.int i),ζ (.ref j),ζ A,ζ (.int M),ζ B,w6,ζ Z,ζ (.bl b),v9] c7=.ok (.nx [ζ (.bL ns),ζ (.int i),ζ (.ref j),ζ A,ζ (.int M),ζ B,w6,ζ Z,ζ (.bl b),ζ (.str "square")]) c7:=rfl;have e12:Ct [ζ (.bL ns),ζ (.int i),ζ (.ref j),ζ A,ζ (.int M),ζ B,w6,ζ Z,ζ (.bl b),ζ X] c7=.ok (.nx [ζ (.bL ns),ζ (.int i),ζ (.ref j),ζ A,ζ (.int M),ζ B,w6,ζ Z,ζ (.bl b),ζ X]) c7:=by simp[Ct,tl,sm]
 have e13:Cs [ζ (.bL ns),ζ (.int i),ζ (.ref j),ζ A,ζ (.int M),ζ B,w6,ζ Z,ζ (.bl b),ζ X] c7=.ok (.nx [ζ (.bL ns),ζ (.int i),ζ (.ref j),ζ A,ζ (.int M),ζ B,w6,ζ Z,ζ (.bl b),ζ X]) c7:=by simp[Cs,tr,sm]
 have e14:yK [ζ (.bL ns),ζ (.int i),ζ (.ref j),ζ A,ζ (.int M),ζ B,w6,ζ Z,ζ (.bl b),ζ X] c7=.ok (.nx [ζ (.bL ns),ζ (.int i),ζ (.ref j),ζ A,ζ (.int M),ζ B,w6,ζ Z,ζ (.bl b),ζ X]) c7:=by
  cases b with
  |true=>simp[yK,htb]
  |false=>simp[yK,htb,(tz rfl).1,KW]
 have e15:yJ [ζ (.bL ns),ζ (.int i),ζ (.ref j),ζ A,ζ (.int M),ζ B,w6,ζ Z,ζ (.bl b),ζ X] c7=.ok (.nx [ζ (.bL ns),ζ (.int i),ζ (.ref j),ζ A,ζ (.int M),ζ B,w6,ζ Z,ζ (.bl b),ζ X]) c7:=by
  cases b with
  |true=>simp[yJ,htb]
  |false=>simp[yJ,htb,(tz rfl).2,KW]
 refine⟨_,c7,⟨ζ (.int i),ζ (.ref j),ζ A,ζ (.int M),ζ B,w6,ζ Z,ζ (.bl b),ζ X,rfl⟩,?_⟩;unfold vd;rw[bu e0,bu e1,bu e2,bu e3,bu e4,bu e5,bu e6,bu e7,bu e8,bu e9,bu e10,bu e11,bu e12,bu e13,bu e14,e15]
theorem aby(ns:List Int) (hl:ns.length<=63):∃c,vD [.bL ns] []=.ok (.bl Ξ) c:=by
 obtain⟨e',c',⟨w1,w2,w3,w4,w5,w6,w7,w8,w9,rfl⟩,hf⟩:=Nb (g:=aA 1) (s:=vd)
  (λe=>∃w1 w2 w3 w4 w5 w6 w7 w8 w9,e=[ζ (.bL ns),w1,w2,w3,w4,w5,w6,w7,w8,w9]) (bf 0 6) [ζ (.bL ns),η,η,η,η,η,η,η,η,η] [] ⟨_,_,_,_,_,_,_,_,_,rfl⟩ (λt ht e c ⟨w1,w2,w3,w4,w5,w6,w7,w8,w9,he⟩=>by
   subst he;obtain⟨i,rfl,i0,i1⟩:=vz ht;obtain⟨e',c',ie,ho⟩:=XM (ns:=ns) i0 c w2 w3 w4 w5 w6 w7 w8 w9;exact⟨_,e',_,c',rfl,ho,ie⟩)
 have hb2:um=aE (bQ (aV (ao (dC (.int 6)) aq)) (aA 1) vd) (aK (dC (.bl Ξ))):=rfl;have hsr:aV (ao (dC (.int 6)) aq) [ζ (.bL ns),η,η,η,η,η,η,η,η,η] []=.ok ⟨bf 0 6,λ_=>True⟩ []:=by simp
 have e1:bQ (aV (ao (dC (.int 6)) aq)) (aA 1) vd [ζ (.bL ns),η,η,η,η,η,η,η,η,η] []=.ok (.nx [ζ (.bL ns),w1,w2,w3,w4,w5,w6,w7,w8,w9]) c':=by
  rw[gE,hsr,R.aD];exact hf
 refine⟨c'.take 0,?_⟩;unfold vD bM;rw[show dH 10 [D.bL ns]=[ζ (.bL ns),η,η,η,η,η,η,η,η,η]from rfl,hb2,bu e1]
 rfl
end Ev
namespace Ev
open PySem L2 PyProof.Rows
theorem all_mk{l:adE}{w:ψ}{K:Ψ}{h:χ}{mg:Str->Option Θ}{fa:Ω}{Aw Av Ay Az Ax zX zW zY AA Ar Ag z6 zZ Ab Aj Af Ao Ac Ai z7 Al Am Ae z8 Ad Ak Ah Aq Aa z9 Au An As z5 FQ:Ω}(X:K.In h) (G:h.Ns Δ mg) (hfa:mg "law"=ζ (.ref fa))
  {Zl aiu Zk ait Zo aiw Zq aix Zm aiv YO ah0 YN ahZ YR ah1 Zr aiy Zg aip Y6 aie YU ah4 YS ah2 YZ ah9 Y9 aii Y5 aid Ze ain Y0 aia Y8 aih YV ah5 Zb aik Zc ail Y4 aic YW ah6 Y3 aib Za aij Y7 aif Zf aio YY ah8 YX ah7 Zi air Zd aim Zh aiq YT ah3 Zj ais:Option Ω}{TU TR TX TZ TV S6 S5 S8 T3 TL Tq Td S9 Ti Tu Tp TH Tj Tt Te Tw Tz To Tf Tn Tv Tr TJ Th Tg TN TF TM Tc TQ:Array (Option Θ)}{ZY acm afW WA OI agL ZX ack afV Wz OH agK Z0 aco afY WC OL agN Z1 acp afZ WD OM agO ZZ acn afX WB OJ agM Zt abP aft V0 N8 agi Zs abO afs VZ N7 agh Zu abQ afu V5 Oa agj Z2 acq af0 WE ON agP ZT acg afR Wv OD agG ZJ ab3 afH Wk Oq agw Zx abT afx V8 Od agm Zv abR afv V6 Ob agk ZE abY afC Wf Oi agr ZM ab6 afK Wn Ov agz ZI ab2 afG Wj Oo agv ZR ace afP Wt OB agE ZF abZ afD Wg Oj ags ZL ab5 afJ Wm Ou agy Zy abU afy V9 Oe agn ZO ab8 afM Wq Ox agB ZP ab9 afN Wr Oz agC ZH ab1 afF Wi Om agu Zz abV afz Wa Of ago ZG ab0 afE Wh Ol agt ZN ab7 afL Wo Ow agA ZK ab4 afI Wl Ot agx ZS acf afQ Wu OC agF ZD abX afB We Oh agq ZC abW afA Wb Og agp ZV aci afT Wx OF agI ZQ acd afO Ws OA agD ZU ach afS Ww OE agH Zw abS afw V7 Oc agl ZW acj afU Wy OG agJ:Θ}
  (mO:Γ K Δ "is_whole"=ζ (ζ (.ref Aw))) (Dz:K.lookup Aw=ζ ⟨ZY,Zl,.func (PySem.W.fnOf "is_whole" "is_whole" (cH rE) (cA rE) (aW rE) .none acm afW WA aiu OI agL),TU⟩) (G9:PySem.W.codeIn K OI "is_whole"=Ξ) (Ec:PySem.W.keepIn K (.ref Aw)=Ξ)
  (mL:Γ K Δ "is_whole_within"=ζ (ζ (.ref Av))) (Dy:K.lookup Av=ζ ⟨ZX,Zk,.func (PySem.W.fnOf "is_whole_within" "is_whole_within" (cH rD) (cA rD) (aW rD) .none ack afV Wz ait OH agK),TR⟩) (G8:PySem.W.codeIn K OH "is_whole_within"=Ξ) (Eb:PySem.W.keepIn K (.ref Av)=Ξ)
  (mQ:Γ K Δ "holds_each_once"=ζ (ζ (.ref Ay))) (DB:K.lookup Ay=ζ ⟨Z0,Zo,.func (PySem.W.fnOf "holds_each_once" "holds_each_once" (cH rG) (cA rG) (aW rG) .none aco afY WC aiw OL agN),TX⟩) (Hg:PySem.W.codeIn K OL "holds_each_once"=Ξ) (Ef:PySem.W.keepIn K (.ref Ay)=Ξ)
  (mR:Γ K Δ "column_of"=ζ (ζ (.ref Az))) (DC:K.lookup Az=ζ ⟨Z1,Zq,.func (PySem.W.fnOf "column_of" "column_of" (cH rH) (cA rH) (aW rH) .none acp afZ WD aix OM agO),TZ⟩) (Hh:PySem.W.codeIn K OM "column_of"=Ξ) (Eg:PySem.W.keepIn K (.ref Az)=Ξ)
  (mP:Γ K Δ "is_square"=ζ (ζ (.ref Ax))) (DA:K.lookup Ax=ζ ⟨ZZ,Zm,.func (PySem.W.fnOf "is_square" "is_square" (cH rF) (cA rF) (aW rF) .none acn afX WB aiv OJ agM),TV⟩) (Hf:PySem.W.codeIn K OJ "is_square"=Ξ) (Ed:PySem.W.keepIn K (.ref Ax)=Ξ)
  (kD:Γ K Δ "require_square"=ζ (ζ (.ref zX))) (C2:K.lookup zX=ζ ⟨Zt,YO,.func (PySem.W.fnOf "require_square" "require_square" (cH qE) (cA qE) (aW qE) .none abP aft V0 ah0 N8 agi),S6⟩) (GD:PySem.W.codeIn K N8 "require_square"=Ξ) (DH:PySem.W.keepIn K (.ref zX)=Ξ)
  (lR:Γ K Δ "sign_in"=ζ (ζ (.ref zW))) (C1:K.lookup zW=ζ ⟨Zs,YN,.func (PySem.W.fnOf "sign_in" "sign_in" (cH qD) (cA qD) (aW qD) .none abO afs VZ ahZ N7 agh),S5⟩) (GC:PySem.W.codeIn K N7 "sign_in"=Ξ) (DG:PySem.W.keepIn K (.ref zW)=Ξ)
  (lS:Γ K Δ "lie_across"=ζ (ζ (.ref zY))) (C3:K.lookup zY=ζ ⟨Zu,YR,.func (PySem.W.fnOf "lie_across" "lie_across" (cH qF) (cA qF) (aW qF) .none abQ afu V5 ah1 Oa agj),S8⟩) (GF:PySem.W.codeIn K Oa "lie_across"=Ξ) (DI:PySem.W.keepIn K (.ref zY)=Ξ)
  (kH:Γ K Δ "across"=ζ (ζ (.ref AA))) (DE:K.lookup AA=ζ ⟨Z2,Zr,.func (PySem.W.fnOf "across" "across" (cH rJ) (cA rJ) (aW rJ) .none acq af0 WE aiy ON agP),T3⟩) (Hi:PySem.W.codeIn K ON "across"=Ξ) (Eh:PySem.W.keepIn K (.ref AA)=Ξ)
  (mH:Γ K Δ "_law_cell_at"=ζ (ζ (.ref Ar))) (Dt:K.lookup Ar=ζ ⟨ZT,Zg,.func (PySem.W.fnOf "_law_cell_at" "_law_cell_at" (cH rq) (cA rq) (aW rq) .none acg afR Wv aip OD agG),TL⟩) (G4:PySem.W.codeIn K OD "_law_cell_at"=Ξ) (D7:PySem.W.keepIn K (.ref Ar)=Ξ)
  (mh:Γ K Δ "_law_pot"=ζ (ζ (.ref Ag))) (Di:K.lookup Ag=ζ ⟨ZJ,Y6,.func (PySem.W.fnOf "_law_pot" "_law_pot" (cH qS) (cA qS) (aW qS) .none ab3 afH Wk aie Oq agw),Tq⟩) (GU:PySem.W.codeIn K Oq "_law_pot"=Ξ) (DV:PySem.W.keepIn K (.ref Ag)=Ξ)
  (lW:Γ K Δ "_law_take"=ζ (ζ (.ref z6))) (C6:K.lookup z6=ζ ⟨Zx,YU,.func (PySem.W.fnOf "_law_take" "_law_take" (cH qI) (cA qI) (aW qI) .none abT afx V8 ah4 Od agm),Td⟩) (GI:PySem.W.codeIn K Od "_law_take"=Ξ) (DL:PySem.W.keepIn K (.ref z6)=Ξ)
  (lU:Γ K Δ "_law_whole"=ζ (ζ (.ref zZ))) (C4:K.lookup zZ=ζ ⟨Zv,YS,.func (PySem.W.fnOf "_law_whole" "_law_whole" (cH qG) (cA qG) (aW qG) .none abR afv V6 ah2 Ob agk),S9⟩) (GG:PySem.W.codeIn K Ob "_law_whole"=Ξ) (DJ:PySem.W.keepIn K (.ref zZ)=Ξ)
  (kF:Γ K Δ "_law_same"=ζ (ζ (.ref Ab))) (Dd:K.lookup Ab=ζ ⟨ZE,YZ,.func (PySem.W.fnOf "_law_same" "_law_same" (cH qN) (cA qN) (aW qN) .none abY afC Wf ah9 Oi agr),Ti⟩) (GO:PySem.W.codeIn K Oi "_law_same"=Ξ) (DQ:PySem.W.keepIn K (.ref Ab)=Ξ)
  (mw:Γ K Δ "_law_kind_of"=ζ (ζ (.ref Aj))) (Dl:K.lookup Aj=ζ ⟨ZM,Y9,.func (PySem.W.fnOf "_law_kind_of" "_law_kind_of" (cH qV) (cA qV) (aW qV) .none ab6 afK Wn aii Ov agz),Tu⟩) (GX:PySem.W.codeIn K Ov "_law_kind_of"=Ξ) (DY:PySem.W.keepIn K (.ref Aj)=Ξ)
  (l9:Γ K Δ "_law_prime"=ζ (ζ (.ref Af))) (Dh:K.lookup Af=ζ ⟨ZI,Y5,.func (PySem.W.fnOf "_law_prime" "_law_prime" (cH qR) (cA qR) (aW qR) .none ab2 afG Wj aid Oo agv),Tp⟩) (GS:PySem.W.codeIn K Oo "_law_prime"=Ξ) (DU:PySem.W.keepIn K (.ref Af)=Ξ)
  (mF:Γ K Δ "_law_degree"=ζ (ζ (.ref Ao))) (Dr:K.lookup Ao=ζ ⟨ZR,Ze,.func (PySem.W.fnOf "_law_degree" "_law_degree" (cH rj) (cA rj) (aW rj) .none ace afP Wt ain OB agE),TH⟩) (G2:PySem.W.codeIn K OB "_law_degree"=Ξ) (D5:PySem.W.keepIn K (.ref Ao)=Ξ)
  (l0:Γ K Δ "_law_row"=ζ (ζ (.ref Ac))) (De:K.lookup Ac=ζ ⟨ZF,Y0,.func (PySem.W.fnOf "_law_row" "_law_row" (cH qO) (cA qO) (aW qO) .none abZ afD Wg aia Oj ags),Tj⟩) (GP:PySem.W.codeIn K Oj "_law_row"=Ξ) (DR:PySem.W.keepIn K (.ref Ac)=Ξ)
  (mq:Γ K Δ "_law_number"=ζ (ζ (.ref Ai))) (Dk:K.lookup Ai=ζ ⟨ZL,Y8,.func (PySem.W.fnOf "_law_number" "_law_number" (cH qU) (cA qU) (aW qU) .none ab5 afJ Wm aih Ou agy),Tt⟩) (GW:PySem.W.codeIn K Ou "_law_number"=Ξ) (DX:PySem.W.keepIn K (.ref Ai)=Ξ)
  (kE:Γ K Δ "_law_sums_product"=ζ (ζ (.ref z7))) (C7:K.lookup z7=ζ ⟨Zy,YV,.func (PySem.W.fnOf "_law_sums_product" "_law_sums_product" (cH qJ) (cA qJ) (aW qJ) .none abU afy V9 ah5 Oe agn),Te⟩) (GJ:PySem.W.codeIn K Oe "_law_sums_product"=Ξ) (DM:PySem.W.keepIn K (.ref z7)=Ξ)
  (mC:Γ K Δ "_law_heads"=ζ (ζ (.ref Al))) (Dn:K.lookup Al=ζ ⟨ZO,Zb,.func (PySem.W.fnOf "_law_heads" "_law_heads" (cH qX) (cA qX) (aW qX) .none ab8 afM Wq aik Ox agB),Tw⟩) (GZ:PySem.W.codeIn K Ox "_law_heads"=Ξ) (D0:PySem.W.keepIn K (.ref Al)=Ξ)
  (mD:Γ K Δ "_law_form"=ζ (ζ (.ref Am))) (Dp:K.lookup Am=ζ ⟨ZP,Zc,.func (PySem.W.fnOf "_law_form" "_law_form" (cH qY) (cA qY) (aW qY) .none ab9 afN Wr ail Oz agC),Tz⟩) (G0:PySem.W.codeIn K Oz "_law_form"=Ξ) (D3:PySem.W.keepIn K (.ref Am)=Ξ)
  (l7:Γ K Δ "_law_product"=ζ (ζ (.ref Ae))) (Dg:K.lookup Ae=ζ ⟨ZH,Y4,.func (PySem.W.fnOf "_law_product" "_law_product" (cH qQ) (cA qQ) (aW qQ) .none ab1 afF Wi aic Om agu),To⟩) (GR:PySem.W.codeIn K Om "_law_product"=Ξ) (DT:PySem.W.keepIn K (.ref Ae)=Ξ)
  (lX:Γ K Δ "_law_sum"=ζ (ζ (.ref z8))) (C8:K.lookup z8=ζ ⟨Zz,YW,.func (PySem.W.fnOf "_law_sum" "_law_sum" (cH qK) (cA qK) (aW qK) .none abV afz Wa ah6 Of ago),Tf⟩) (GK:PySem.W.codeIn K Of "_law_sum"=Ξ) (DN:PySem.W.keepIn K (.ref z8)=Ξ)
  (l5:Γ K Δ "_law_products_of"=ζ (ζ (.ref Ad))) (Df:K.lookup Ad=ζ ⟨ZG,Y3,.func (PySem.W.fnOf "_law_products_of" "_law_products_of" (cH qP) (cA qP) (aW qP) .none ab0 afE Wh aib Ol agt),Tn⟩) (GQ:PySem.W.codeIn K Ol "_law_products_of"=Ξ) (DS:PySem.W.keepIn K (.ref Ad)=Ξ)
  (mz:Γ K Δ "_law_is_square"=ζ (ζ (.ref Ak))) (Dm:K.lookup Ak=ζ ⟨ZN,Za,.func (PySem.W.fnOf "_law_is_square" "_law_is_square" (cH qW) (cA qW) (aW qW) .none ab7 afL Wo aij Ow agA),Tv⟩) (GY:PySem.W.codeIn K Ow "_law_is_square"=Ξ) (DZ:PySem.W.keepIn K (.ref Ak)=Ξ)
  (mj:Γ K Δ "_law_order"=ζ (ζ (.ref Ah))) (Dj:K.lookup Ah=ζ ⟨ZK,Y7,.func (PySem.W.fnOf "_law_order" "_law_order" (cH qT) (cA qT) (aW qT) .none ab4 afI Wl aif Ot agx),Tr⟩) (GV:PySem.W.codeIn K Ot "_law_order"=Ξ) (DW:PySem.W.keepIn K (.ref Ah)=Ξ)
  (mG:Γ K Δ "_law_cycled"=ζ (ζ (.ref Aq))) (Ds:K.lookup Aq=ζ ⟨ZS,Zf,.func (PySem.W.fnOf "_law_cycled" "_law_cycled" (cH rm) (cA rm) (aW rm) .none acf afQ Wu aio OC agF),TJ⟩) (G3:PySem.W.codeIn K OC "_law_cycled"=Ξ) (D6:PySem.W.keepIn K (.ref Aq)=Ξ)
  (lZ:Γ K Δ "_law_six"=ζ (ζ (.ref Aa))) (Dc:K.lookup Aa=ζ ⟨ZD,YY,.func (PySem.W.fnOf "_law_six" "_law_six" (cH qM) (cA qM) (aW qM) .none abX afB We ah8 Oh agq),Th⟩) (GN:PySem.W.codeIn K Oh "_law_six"=Ξ) (DP:PySem.W.keepIn K (.ref Aa)=Ξ)
  (lY:Γ K Δ "_law_square"=ζ (ζ (.ref z9))) (C9:K.lookup z9=ζ ⟨ZC,YX,.func (PySem.W.fnOf "_law_square" "_law_square" (cH qL) (cA qL) (aW qL) .none abW afA Wb ah7 Og agp),Tg⟩) (GL:PySem.W.codeIn K Og "_law_square"=Ξ) (DO:PySem.W.keepIn K (.ref z9)=Ξ)
  (mK:Γ K Δ "_law_across"=ζ (ζ (.ref Au))) (Dv:K.lookup Au=ζ ⟨ZV,Zi,.func (PySem.W.fnOf "_law_across" "_law_across" (cH rB) (cA rB) (aW rB) .none aci afT Wx air OF agI),TN⟩) (G6:PySem.W.codeIn K OF "_law_across"=Ξ) (D9:PySem.W.keepIn K (.ref Au)=Ξ)
  (mE:Γ K Δ "_law_field_squares"=ζ (ζ (.ref An))) (Dq:K.lookup An=ζ ⟨ZQ,Zd,.func (PySem.W.fnOf "_law_field_squares" "_law_field_squares" (cH qZ) (cA qZ) (aW qZ) .none acd afO Ws aim OA agD),TF⟩) (G1:PySem.W.codeIn K OA "_law_field_squares"=Ξ) (D4:PySem.W.keepIn K (.ref An)=Ξ)
  (mJ:Γ K Δ "_law_bent"=ζ (ζ (.ref As))) (Du:K.lookup As=ζ ⟨ZU,Zh,.func (PySem.W.fnOf "_law_bent" "_law_bent" (cH rA) (cA rA) (aW rA) .none ach afS Ww aiq OE agH),TM⟩) (G5:PySem.W.codeIn K OE "_law_bent"=Ξ) (D8:PySem.W.keepIn K (.ref As)=Ξ)
  (lV:Γ K Δ "_law_told"=ζ (ζ (.ref z5))) (C5:K.lookup z5=ζ ⟨Zw,YT,.func (PySem.W.fnOf "_law_told" "_law_told" (cH qH) (cA qH) (aW qH) .none abS afw V7 ah3 Oc agl),Tc⟩) (GH:PySem.W.codeIn K Oc "_law_told"=Ξ) (DK:PySem.W.keepIn K (.ref z5)=Ξ)
  (kG:Γ K Δ "law"=ζ (ζ (.ref FQ))) (Dw:K.lookup FQ=ζ ⟨ZW,Zj,.func (PySem.W.fnOf "law" "law" (cH rC) (cA rC) (aW rC) .none acj afU Wy ais OG agJ),TQ⟩) (G7:PySem.W.codeIn K OG "law"=Ξ) (Ea:PySem.W.keepIn K (.ref FQ)=Ξ)
  (Bq:Γ K Δ "ValueError"=ζ η)
  (Bp:Γ K Δ "all"=ζ η)
  (Bo:Γ K Δ "bool"=ζ η)
  (Bm:Γ K Δ "int"=ζ η)
  (Bl:Γ K Δ "isinstance"=ζ η)
  (Bk:Γ K Δ "len"=ζ η)
  (Bj:Γ K Δ "list"=ζ η)
  (Bh:Γ K Δ "max"=ζ η)
  (Bg:Γ K Δ "range"=ζ η)
  (Bf:Γ K Δ "set"=ζ η)
  (Be:Γ K Δ "sorted"=ζ η)
  (Bd:Γ K Δ "str"=ζ η)
  (Bc:Γ K Δ "tuple"=ζ η)
  (Bb:Γ K Δ "zip"=ζ η)
  {uI:Tok}(Br:Γ K Δ "MOST_SIGNS"=ζ (ζ (.int 7 uI)))
  {tM:Ω}(yu:Γ K Δ "NoWeb"=ζ (ζ (.ref tM)))
  {tO:Ω}(yw:Γ K Δ "NoText"=ζ (ζ (.ref tO)))
  {tR:Ω}(yz:Γ K Δ "NoNumbers"=ζ (ζ (.ref tR)))
  {tT:Ω}(yD:Γ K Δ "NoField"=ζ (ζ (.ref tT)))
  {tN:Ω}(yv:Γ K Δ "NoThing"=ζ (ζ (.ref tN)))
  {pZ:Ω}(rR:Γ K Δ "NoSquare"=ζ (ζ (.ref pZ)))
  {tQ:Ω}(yy:Γ K Δ "NoPlaces"=ζ (ζ (.ref tQ)))
  {tL:Ω}(yt:Γ K Δ "TooMany"=ζ (ζ (.ref tL)))
  {tS:Ω}(yC:Γ K Δ "NoName"=ζ (ζ (.ref tS)))
  {tU:Ω}(yE:Γ K Δ "NoDeed"=ζ (ζ (.ref tU)))
  {tP:Ω}(yx:Γ K Δ "NoRow"=ζ (ζ (.ref tP)))
  {oz:Ω}(yr:Γ K Δ "WebError"=ζ (ζ (.ref oz)))
  (F4:PySem.W.excIn K pZ xF "ValueError.__new__"=Ξ)
  (gp:Bt K eE=Ξ) (xw:Bs K eE oz=Ξ)
  : ∃fd:ο,(∀(s:ε) (v:Θ),adI s fd ⟨[v],[]⟩ [("script",v)])/\∀base:χ,K.In base->base.Ns Δ mg->bX l.prog w K mg base bY 8 fa fd ["script"] (cj K 1 vD):=by
 have e:=hfa.symm.trans (akZ X G kG);cases e;have Qp:=cL (st:=rE) Dz G9 Ec;have uo:=Qp.binds (ps:=["thing"]) λ_ _ _ _ _ _ us hl=>match us,hl with|[_],_=>rfl
 have Qo:=cL (st:=rD) Dy G8 Eb;have qj:=Qo.binds (ps:=["thing","least","most"]) λ_ _ _ _ _ _ us hl=>match us,hl with|[_,_,_],_=>rfl
 have Qs:=cL (st:=rG) DB Hg Ef;have qk:=Qs.binds (ps:=["thing","many"]) λ_ _ _ _ _ _ us hl=>match us,hl with|[_,_],_=>rfl
 have Qt:=cL (st:=rH) DC Hh Eg;have uq:=Qt.binds (ps:=["rows","y"]) λ_ _ _ _ _ _ us hl=>match us,hl with|[_,_],_=>rfl
 have Qq:=cL (st:=rF) DA Hf Ed;have g6:=Qq.binds (ps:=["thing"]) λ_ _ _ _ _ _ us hl=>match us,hl with|[_],_=>rfl
 have PC:=cL (st:=qE) C2 GD DH;have p8:=PC.binds (ps:=["thing"]) λ_ _ _ _ _ _ us hl=>match us,hl with|[_],_=>rfl
 have PB:=cL (st:=qD) C1 GC DG;have p7:=PB.binds (ps:=["square","cell"]) λ_ _ _ _ _ _ us hl=>match us,hl with|[_,_],_=>rfl
 have PD:=cL (st:=qF) C3 GF DI;have p9:=PD.binds (ps:=["one","other"]) λ_ _ _ _ _ _ us hl=>match us,hl with|[_,_],_=>rfl
 have Qu:=cL (st:=rJ) DE Hi Eh;have lP:=Qu.binds (ps:=["one","other"]) λ_ _ _ _ _ _ us hl=>match us,hl with|[_,_],_=>rfl
 have Qk:=cL (st:=rq) Dt G4 D7;have qg:=Qk.binds (ps:=["script","k"]) λ_ _ _ _ _ _ us hl=>match us,hl with|[_,_],_=>rfl
 have P9:=cL (st:=qS) Di GU DV;have qd:=P9.binds (ps:=["cell"]) λ_ _ _ _ _ _ us hl=>match us,hl with|[_],_=>rfl
 have PK:=cL (st:=qI) C6 GI DL;have qa:=PK.binds (ps:=["pot","far"]) λ_ _ _ _ _ _ us hl=>match us,hl with|[_,_],_=>rfl
 have PF:=cL (st:=qG) C4 GG DJ;have tW:=PF.binds (ps:=["found"]) λ_ _ _ _ _ _ us hl=>match us,hl with|[_],_=>rfl
 have PV:=cL (st:=qN) Dd GO DQ;have qb:=PV.binds (ps:=["found","due"]) λ_ _ _ _ _ _ us hl=>match us,hl with|[_,_],_=>rfl
 have Qd:=cL (st:=qV) Dl GX DY;have ue:=Qd.binds (ps:=["e"]) λ_ _ _ _ _ _ us hl=>match us,hl with|[_],_=>rfl
 have P8:=cL (st:=qR) Dh GS DU;have ua:=P8.binds (ps:=["q"]) λ_ _ _ _ _ _ us hl=>match us,hl with|[_],_=>rfl
 have Qi:=cL (st:=rj) Dr G2 D5;have ug:=Qi.binds (ps:=["q"]) λ_ _ _ _ _ _ us hl=>match us,hl with|[_],_=>rfl
 have PX:=cL (st:=qO) De GP DR;have t6:=PX.binds (ps:=["number","p","many"]) λ_ _ _ _ _ _ us hl=>match us,hl with|[_,_,_],_=>rfl
 have Qc:=cL (st:=qU) Dk GW DX;have ud:=Qc.binds (ps:=["row","p"]) λ_ _ _ _ _ _ us hl=>match us,hl with|[_,_],_=>rfl
 have PL:=cL (st:=qJ) C7 GJ DM;have lO:=PL.binds (ps:=["one","other","p"]) λ_ _ _ _ _ _ us hl=>match us,hl with|[_,_,_],_=>rfl
 have Qf:=cL (st:=qX) Dn GZ D0;have oA:=Qf.binds (ps:=["many","p"]) λ_ _ _ _ _ _ us hl=>match us,hl with|[_,_],_=>rfl
 have Qg:=cL (st:=qY) Dp G0 D3;have uf:=Qg.binds (ps:=["q"]) λ_ _ _ _ _ _ us hl=>match us,hl with|[_],_=>rfl
 have PZ:=cL (st:=qQ) Dg GR DT;have t7:=PZ.binds (ps:=["q","form","one","other"]) λ_ _ _ _ _ _ us hl=>match us,hl with|[_,_,_,_],_=>rfl
 have PM:=cL (st:=qK) C8 GK DN;have tX:=PM.binds (ps:=["q","one","other","sign"]) λ_ _ _ _ _ _ us hl=>match us,hl with|[_,_,_,_],_=>rfl
 have PY:=cL (st:=qP) Df GQ DS;have qc:=PY.binds (ps:=["q"]) λ_ _ _ _ _ _ us hl=>match us,hl with|[_],_=>rfl
 have Qe:=cL (st:=qW) Dm GY DZ;have iV:=Qe.binds (ps:=["thing"]) λ_ _ _ _ _ _ us hl=>match us,hl with|[_],_=>rfl
 have Qa:=cL (st:=qT) Dj GV DW;have uc:=Qa.binds (ps:=["pot","many"]) λ_ _ _ _ _ _ us hl=>match us,hl with|[_,_],_=>rfl
 have Qj:=cL (st:=rm) Ds G3 D6;have uh:=Qj.binds (ps:=["pot","n"]) λ_ _ _ _ _ _ us hl=>match us,hl with|[_,_],_=>rfl
 have PU:=cL (st:=qM) Dc GN DP;have tZ:=PU.binds (ps:=["pot"]) λ_ _ _ _ _ _ us hl=>match us,hl with|[_],_=>rfl
 have PN:=cL (st:=qL) C9 GL DO;have tY:=PN.binds (ps:=["pot","n"]) λ_ _ _ _ _ _ us hl=>match us,hl with|[_,_],_=>rfl
 have Qm:=cL (st:=rB) Dv G6 D9;have oB:=Qm.binds (ps:=["one","other"]) λ_ _ _ _ _ _ us hl=>match us,hl with|[_,_],_=>rfl
 have Qh:=cL (st:=qZ) Dq G1 D4;have qe:=Qh.binds (ps:=["q"]) λ_ _ _ _ _ _ us hl=>match us,hl with|[_],_=>rfl
 have Ql:=cL (st:=rA) Du G5 D8;have qi:=Ql.binds (ps:=["pot","square"]) λ_ _ _ _ _ _ us hl=>match us,hl with|[_,_],_=>rfl
 have PJ:=cL (st:=qH) C5 GH DK;have lN:=PJ.binds (ps:=["one","other"]) λ_ _ _ _ _ _ us hl=>match us,hl with|[_,_],_=>rfl
 have Qn:=cL (st:=rC) Dw G7 Ea;have um:=Qn.binds (ps:=["script"]) λ_ _ _ _ _ _ us hl=>match us,hl with|[_],_=>rfl
 let T:Tx K mg:={
  mO:=Aw,FL:=_,Gp:=⟨Qp,akZ X G mO,uo⟩,aaT:=mO,
  mL:=Av,FJ:=_,Gn:=⟨Qo,akZ X G mL,qj⟩,aaS:=mL,
  mQ:=Ay,FO:=_,AN:=⟨Qs,akZ X G mQ,qk⟩,aaV:=mQ,
  mR:=Az,FP:=_,Gq:=⟨Qt,akZ X G mR,uq⟩,aaW:=mR,
  mP:=Ax,FN:=_,tw:=⟨Qq,akZ X G mP,g6⟩,aaU:=mP,
  kD:=zX,zS:=_,lI:=⟨PC,akZ X G kD,p8⟩,aaq:=kD,
  lR:=zW,E6:=_,AH:=⟨PB,akZ X G lR,p7⟩,aap:=lR,
  lS:=zY,E7:=_,F6:=⟨PD,akZ X G lS,p9⟩,aar:=lS,
  kH:=AA,zV:=_,wk:=⟨Qu,akZ X G kH,lP⟩,aaX:=kH,
  mH:=Ar,FF:=_,Gj:=⟨Qk,akZ X G mH,qg⟩,aaO:=mH,
  mh:=Ag,Fp:=_,Gb:=⟨P9,akZ X G mh,qd⟩,aaE:=mh,
  lW:=z6,Fb:=_,gP:=⟨PK,akZ X G lW,qa⟩,aau:=lW,
  lU:=zZ,E8:=_,AI:=⟨PF,akZ X G lU,tW⟩,aas:=lU,
  kF:=Ab,zU:=_,wj:=⟨PV,akZ X G kF,qb⟩,aaz:=kF,
  mw:=Aj,Fw:=_,Ge:=⟨Qd,akZ X G mw,ue⟩,aaH:=mw,
  l9:=Af,Fo:=_,sY:=⟨P8,akZ X G l9,ua⟩,aaD:=l9,
  mF:=Ao,FD:=_,AM:=⟨Qi,akZ X G mF,ug⟩,aaM:=mF,
  l0:=Ac,Fg:=_,oh:=⟨PX,akZ X G l0,t6⟩,aaA:=l0,
  mq:=Ai,Fv:=_,AK:=⟨Qc,akZ X G mq,ud⟩,aaG:=mq,
  kE:=z7,zT:=_,wg:=⟨PL,akZ X G kE,lO⟩,aav:=kE,
  mC:=Al,Fy:=_,AL:=⟨Qf,akZ X G mC,oA⟩,aaJ:=mC,
  mD:=Am,Fz:=_,Gg:=⟨Qg,akZ X G mD,uf⟩,aaK:=mD,
  l7:=Ae,Fj:=_,Ga:=⟨PZ,akZ X G l7,t7⟩,aaC:=l7,
  lX:=z8,Fc:=_,F7:=⟨PM,akZ X G lX,tX⟩,aaw:=lX,
  l5:=Ad,Fi:=_,F9:=⟨PY,akZ X G l5,qc⟩,aaB:=l5,
  mz:=Ak,Fx:=_,Gf:=⟨Qe,akZ X G mz,iV⟩,aaI:=mz,
  mj:=Ah,Ft:=_,sZ:=⟨Qa,akZ X G mj,uc⟩,aaF:=mj,
  mG:=Aq,FE:=_,Gi:=⟨Qj,akZ X G mG,uh⟩,aaN:=mG,
  lZ:=Aa,Ff:=_,F8:=⟨PU,akZ X G lZ,tZ⟩,aay:=lZ,
  lY:=z9,Fe:=_,AJ:=⟨PN,akZ X G lY,tY⟩,aax:=lY,
  mK:=Au,FH:=_,Gm:=⟨Qm,akZ X G mK,oB⟩,aaQ:=mK,
  mE:=An,FA:=_,Gh:=⟨Qh,akZ X G mE,qe⟩,aaL:=mE,
  mJ:=As,FG:=_,Gk:=⟨Ql,akZ X G mJ,qi⟩,aaP:=mJ,
  lV:=z5,E9:=_,sX:=⟨PJ,akZ X G lV,lN⟩,aat:=lV,
  kG:=fa,FI:=_,NN:=⟨Qn,akZ X G kG,um⟩,aaR:=kG,
  Le:=alO X G Bq,
  r9:=alO X G Bp,
  rZ:=alO X G Bo,
  za:=alO X G Bm,
  cW:=alO X G Bl,
  cz:=alO X G Bk,
  nJ:=alO X G Bj,
  Ld:=alO X G Bh,
  cK:=alO X G Bg,
  y9:=alO X G Bf,
  yZ:=alO X G Be,
  CL:=alO X G Bd,
  fY:=alO X G Bc,
  Lc:=alO X G Bb,
  uI:=uI,M3:=akZ X G Br,
  tM:=tM,MS:=akZ X G yu,K2:=yu,
  tO:=tO,MU:=akZ X G yw,K4:=yw,
  tR:=tR,MY:=akZ X G yz,K8:=yz,
  tT:=tT,M0:=akZ X G yD,La:=yD,
  tN:=tN,MT:=akZ X G yv,K3:=yv,
  pZ:=pZ,MV:=akZ X G rR,K5:=rR,
  tQ:=tQ,MX:=akZ X G yy,K7:=yy,
  tL:=tL,MR:=akZ X G yt,K1:=yt,
  tS:=tS,MZ:=akZ X G yC,K9:=yC,
  tU:=tU,M1:=akZ X G yE,Lb:=yE,
  tP:=tP,MW:=akZ X G yx,K6:=yx,
  oz:=oz,MQ:=akZ X G yr,aam:=yr,
  By:=wN.of rR (akZ X G rR) F4,
  gp:=wM.of gp,xw:=xw}
 exact⟨_,λs v=>.of_eq rfl,λbase _ _=>YD T⟩
theorem walk{l:adE}{q:τ}{loose:List Str}{XP:(Str->Option Θ)->χ->Prop}{YP:ψ->χ->Prop}{d:DefRec}{K:Params->Ψ}(hn:l.most=ζ 63) (hdf:d.params.defaults=[])
  (hY:∀(w:ψ) (h:χ),YP w h->(K w.params).In h) (hK:∀p,PySem.W.noTabs (K p)=Ξ/\BF (K p) []=Ξ)
  (F:∀(w:ψ) (mg:Str->Option Θ) (fa:Ω) (h:χ),(K w.params).In h->h.Ns Δ mg->mg d.name=ζ (.ref fa) ->
   ∃fd:ο,(∀(s:ε) (u:Θ),adI s fd ⟨[u],[]⟩ [("script",u)])/\∀base:χ,(K w.params).In base->base.Ns Δ mg->bX l.prog w (K w.params) mg base bY 8 fa fd ["script"] (cj (K w.params) 1 vD)) :
  PySem.W.WalkO q loose XP YP l.row.toRowW d [] (λf vs=>PySem.call f vs) :=
 L2.Rf (ts:=[]) (n:=63) (k:=8) (x:="script") hn (by decide) hdf ⟨rfl,by decide,by decide⟩ (λw h Y=>⟨hY w h Y,λ_ h=>nomatch h⟩) (λp=>⟨rfl,(hK p).1,(hK p).2⟩) F aby
end Ev
noncomputable 
def PySem.W.Fast.tw18411963409388424410:Nat:=0
noncomputable def PySem.W.Fast.tw3427818771596193903:Nat:=0
noncomputable def PySem.W.Fast.tw11102723466026307118:Nat:=0
noncomputable def PySem.W.Fast.tw14041276299640047354:Nat:=0
noncomputable def PySem.W.Fast.tw5516168869304577514:Nat:=0
noncomputable def PySem.W.Fast.tw3361758417091319704:Nat:=0
noncomputable def PySem.W.Fast.tw15523332692631606251:Nat:=0
noncomputable def PySem.W.Fast.tw10649223493807309289:Nat:=0
noncomputable def PySem.W.Fast.tw3987544653548752978:Nat:=0
noncomputable def PySem.W.Fast.tw7773642794491057759:Nat:=0
noncomputable def PySem.W.Fast.tw9858810243011572601:Nat:=0
noncomputable def PySem.W.Fast.tw14357553214032484085:Nat:=0
noncomputable def PySem.W.Fast.tw912693976301194892:Nat:=0
noncomputable def PySem.W.Fast.tw2022986443054954571:Nat:=0
noncomputable def PySem.W.Fast.tw5527294890768341445:Nat:=0
noncomputable def PySem.W.Fast.tw15042094973820985785:Nat:=0
noncomputable def PySem.W.Fast.tw7240412385105009714:Nat:=0
noncomputable def PySem.W.Fast.tw10256877769740534379:Nat:=0
noncomputable def PySem.W.Fast.tw8051197822607320425:Nat:=0
noncomputable def PySem.W.Fast.tw6481608599537917357:Nat:=0
noncomputable def PySem.W.Fast.tw3303776636733825117:Nat:=0
noncomputable def PySem.W.Fast.tw10217084920364872699:Nat:=0
noncomputable def PySem.W.Fast.tw14597613900419678067:Nat:=0
noncomputable def PySem.W.Fast.tw1395805634988509402:Nat:=0
noncomputable def PySem.W.Fast.tw17165730934615665520:Nat:=0
noncomputable def PySem.W.Fast.tw10663161225868101639:Nat:=0
noncomputable def PySem.W.Fast.tw11337493293562821325:Nat:=0
noncomputable def PySem.W.Fast.tw7207317785698173328:Nat:=0
noncomputable def PySem.W.Fast.tw14530699897538618671:Nat:=0
noncomputable def PySem.W.Fast.tw9261310659495383123:Nat:=0
noncomputable def PySem.W.Fast.tw5938492538442101575:Nat:=0
noncomputable def PySem.W.Fast.tw16290143120095895976:Nat:=0
noncomputable def PySem.W.Fast.tw2652351482019262009:Nat:=0
noncomputable def PySem.W.Fast.tw6405331534589943801:Nat:=0
noncomputable def PySem.W.Fast.tw16462728547700355020:Nat:=0
noncomputable def PySem.W.Fast.tw3902185253981234236:Nat:=0
noncomputable def PySem.W.Fast.tw15384656996481802229:Nat:=0
noncomputable def PySem.W.Fast.tw14784476291731042340:Nat:=0
noncomputable def PySem.W.Fast.tw1121946386530389908:Nat:=0
noncomputable def PySem.W.Fast.tw16158979778305340086:Nat:=0
noncomputable def PySem.W.Fast.tw9464785856539769884:Nat:=0
noncomputable def PySem.W.Fast.tw15319585623741957364:Nat:=0
noncomputable def PySem.W.Fast.tw2633168515283241719:Nat:=0
noncomputable def PySem.W.Fast.tw7915162438226024081:Nat:=0
noncomputable def PySem.W.Fast.tw8404545012080146534:Nat:=0
noncomputable def PySem.W.Fast.tw2239075306589342094:Nat:=0
noncomputable def PySem.W.Fast.tw16545727862898023994:Nat:=0
noncomputable def PySem.W.Fast.tw3332081531132840450:Nat:=0
noncomputable def PySem.W.Fast.tw5471626240311366830:Nat:=0
noncomputable def PySem.W.Fast.tw10595622660087197751:Nat:=0
noncomputable def PySem.W.Fast.tw11089710148403772526:Nat:=0
open PySem PySem.W PyProof.Rows
set_option maxRecDepth 100000 in
set_option maxHeartbeats 0 in
theorem PySem.Challenge.cw_evenwebs_k51_what_is_a_square_holds : PySem.Challenge.rw_evenwebs_k51_what_is_a_square.Holds := by
  w_on; o_law; k_head; (case hw => w_witness2)
  k_fill
  refine Ev.walk (l := PySem.Challenge.rw_evenwebs_k51_what_is_a_square) rfl rfl (fun w h Y => PySem.W.kIn_of Y) (fun p => ⟨by kernel_rfl, by kernel_rfl⟩) ?F
  case F =>
    intro w mg fa h KX G hmg
    refine' Ev.all_mk KX G hmg ?mO ?Dz ?G9 ?Ec ?mL ?Dy ?G8 ?Eb ?mQ ?DB ?Hg ?Ef ?mR ?DC ?Hh ?Eg ?mP ?DA ?Hf ?Ed ?kD ?C2 ?GD ?DH ?lR ?C1 ?GC ?DG ?lS ?C3 ?GF ?DI ?kH ?DE ?Hi ?Eh ?mH ?Dt ?G4 ?D7 ?mh ?Di ?GU ?DV ?lW ?C6 ?GI ?DL ?lU ?C4 ?GG ?DJ ?kF ?Dd ?GO ?DQ ?mw ?Dl ?GX ?DY ?l9 ?Dh ?GS ?DU ?mF ?Dr ?G2 ?D5 ?l0 ?De ?GP ?DR ?mq ?Dk ?GW ?DX ?kE ?C7 ?GJ ?DM ?mC ?Dn ?GZ ?D0 ?mD ?Dp ?G0 ?D3 ?l7 ?Dg ?GR ?DT ?lX ?C8 ?GK ?DN ?l5 ?Df ?GQ ?DS ?mz ?Dm ?GY ?DZ ?mj ?Dj ?GV ?DW ?mG ?Ds ?G3 ?D6 ?lZ ?Dc ?GN ?DP ?lY ?C9 ?GL ?DO ?mK ?Dv ?G6 ?D9 ?mE ?Dq ?G1 ?D4 ?mJ ?Du ?G5 ?D8 ?lV ?C5 ?GH ?DK ?kG ?Dw ?G7 ?Ea ?Bq ?Bp ?Bo ?Bm ?Bl ?Bk ?Bj ?Bh ?Bg ?Bf ?Be ?Bd ?Bc ?Bb ?Br ?yu ?yw ?yz ?yD ?yv ?rR ?yy ?yt ?yC ?yE ?yx ?yr ?F4 ?gp ?xw
    case mO|Dz|G9|Ec|mL|Dy|G8|Eb|mQ|DB|Hg|Ef|mR|DC|Hh|Eg|mP|DA|Hf|Ed|kD|C2|GD|DH|lR|C1|GC|DG|lS|C3|GF|DI|kH|DE|Hi|Eh|mH|Dt|G4|D7|mh|Di|GU|DV|lW|C6|GI|DL|lU|C4|GG|DJ|kF|Dd|GO|DQ|mw|Dl|GX|DY|l9|Dh|GS|DU|mF|Dr|G2|D5|l0|De|GP|DR|mq|Dk|GW|DX|kE|C7|GJ|DM|mC|Dn|GZ|D0|mD|Dp|G0|D3|l7|Dg|GR|DT|lX|C8|GK|DN|l5|Df|GQ|DS|mz|Dm|GY|DZ|mj|Dj|GV|DW|mG|Ds|G3|D6|lZ|Dc|GN|DP|lY|C9|GL|DO|mK|Dv|G6|D9|mE|Dq|G1|D4|mJ|Du|G5|D8|lV|C5|GH|DK|kG|Dw|G7|Ea|Bq|Bp|Bo|Bm|Bl|Bk|Bj|Bh|Bg|Bf|Be|Bd|Bc|Bb|Br|yu|yw|yz|yD|yv|rR|yy|yt|yC|yE|yx|yr=>k_is
    (case F4 => k_exc)
    (case gp => kernel_rfl)
    (case xw => kernel_rfl)
