import PyProof.Rows.All
import Wide.All
import OpenK.AllK
import Wide.FinOn
import Lean
import PyProof.EqAt
import PyProof.EqKinds
import PyProof.TupleCall
import PySem.Challenge.RW_evenwebs_k55_webs_of_nets
import PyProof.P3In
import PyProof.EqLayable
import PyProof.SumAny
import PyProof.NoPylong
import PyProof.FitsBits
import PyProof.Rows.Range3
import PyProof.DictRoads
import PyProof.DictKinds
import PyProof.Rows.FactsT2
import KE.KRevIter
import PyProof.SetScanFacts
import PyProof.SetKind
import PyProof.Rows.SetFrom
import PyProof.Walks
import PyProof.DictValues
import PyProof.FactsAll.set_1
import PyProof.DictWalks
import KE.KDictSum
import PyProof.SetRoads
import PyProof.MeetsSeq2
import PyProof.WalksMore
import PyProof.AutoSeq1
import PyProof.ListRange
import PyProof.Rows.SortShell
import PyProof.TupleOfSeq
import KE.KLam
set_option Elab.async false
set_option linter.all false
set_option maxHeartbeats 4000000
set_option maxRecDepth 100000
set_option bootstrap.genMatcherCode false
set_option genSizeOfSpec false
set_option genSizeOf false
open PySem renaming wpAny_bind→akT,wpAny_pure→akU,boot_len→alj,wpAny_mono→alE,wpAny_field→alV,wpAny_holding→alZ,codeAny_mono→al0,mem_of_lookup→al1,wpAny_seqItems→al6,wpAny_call_entry→ama,wpAny_setState_of→ame,wpAny_truthy_bool→amh,codeAny_builtin→amq,wpAny_passesOwn→amt,wpAny_call→amE,call_meets→amH,wpAny_newObj_type→amJ,wpAny_callSpecial?_slot→amK,wpAny_setField_rec→amM,wpAny_pyIter_list→am3,sizeLine_eq→am4,wpAny_Call_Name_kw→am5,wpAny_setField→am9,wpAny_of_eq→ana,wpAny_askSetting→ank,wpAny_execs_nil→anp,wpAny_pyIter_tuple→anq,wpAny_rule→anx,wpAny_onRaise→anA,wpAny_attempt→anB,wpAny_storeSet_of→anT,codeAny_of_tree→anV,isSubtype_type→anW,wpAny_standAt→an1,pushCells_keeps→an9,wpAny_updateSeq_pair→aod,wpAny_isInstance→aoe,wpAny_pyIter_zip→aof,hashByValue_scannable→aor,plainId_quiet→aos,weight_type_call_type→aow,codeAny_call_builtin→aoy,check_set_init_1→aoA,wpAny_runValue→aoB,wpAny_setEntries_of→aoE,wpAny_pyNext_range_end→aoR,wpAny_pyIter_rangeiter→aoS,list_append→ao2,wpAny_comprehension_free→ao4,filterMap_getElem?_range→api,builtinLookup_eq_fast→apm
open Nat renaming le_refl→akV,ne_of_lt→ak1,lt_of_lt_of_le→ak7,le_trans→alk,zero_add→alr,lt_irrefl→alJ,ne_of_gt→alO,zero_le→alW,lt_succ_self→al2,lt_of_le_of_lt→al4,lt_succ_of_lt→al5,mod_lt→al7,le_of_lt→amg,succ_mul→amk,le_of_eq→aml,le_add_right→amm,sub_self→amo,le_succ→amG,add_zero→amN,testBit_two_pow_sub_one→amQ,div_lt_of_lt_mul→am0,mul_le_mul→am1,add_comm→anv,add_left_cancel→anD,not_lt_zero→anI,lt_trichotomy→anJ,lt_or_ge→anN,mul_le_mul_right→an0,mul_comm→an8,lt_trans→aok,eq_zero_or_pos→aol,min_eq_left→aoL,le_of_not_lt→ao3,eq_of_beq_eq_true→apE,le_of_ble_eq_true→apF,pow_le_pow_right→apL,div_add_mod→apO,add_sub_cancel_left→apP
open List renaming mem_map→akW,mem_cons→akY,mem_range→akZ,all_eq_true→ak2,getElem?_eq_getElem→ak3,length_map→ak4,map_cons→ak6,size_toArray→ak8,not_mem_nil→ak9,getElem?_eq_some_iff→ala,length_cons→alc,getElem?_map→ale,getD_eq_getElem?_getD→alf,nil_append→alg,map_map→aln,mem_of_getElem?→alo,getElem_mem→alq,length_append→als,append_assoc→alu,mem_of_mem_take→alx,length_nil→aly,mem_append→alz,getElem?_append_left→alA,lookup_cons→alC,mem_cons_of_mem→alD,getElem?_set_ne→alG,getElem?_append_right→alL,mem_cons_self→alN,mem_singleton→alP,mem_append_right→alQ,length_range→alR,getElem?_range→alS,getElem?_set_self→alT,map_append→alX,map_congr_left→alY,append_nil→al3,nodup_cons→al8,replicate_succ→al9,set_cons_succ→amc,range_succ→amd,take_length→amf,length_take→ami,flatten_cons→amj,mem_iff_getElem→amn,mem_filterMap→amv,foldl_cons→amw,getElem?_eq_none→amy,getElem_of_mem→amz,take_append_drop→amA,eraseIdx_eq_take_drop_succ→amB,mem_filter→amC,forIn_cons→amI,nodup_append→amO,pairwise_cons→amP,pairwise_map→amR,zip_cons_cons→amV,map_take→amW,take_of_length_le→amY,set_cons_zero→amZ,filterMap_cons→am2,of_mem_zip→am6,getElem?_take→anb,getElem_range→anc,pairwise_iff_getElem→ane,take_succ_eq_append_getElem→anh,foldl_append→ani,getElem_inj→ano,getElem?_take_of_lt→ant,length_replicate→anu,forIn_nil→anz,take_zero→anF,drop_eq_getElem_cons→anG,getElem_take→anH,mem_of_mem_drop→anL,perm_append_singleton→anP,ext_getElem→anQ,pairwise_lt_range→anR,map_id→anY,cons_append→anZ,take_sublist→an5,length_set→an6,getElem?_zip_eq_some→aoa,any_eq_true→aog,getElem?_concat_length→aoj,mem_erase_of_ne→aom,length_erase_of_mem→aon,map_filterMap→aop,perm_middle→aoC,length_eq_zero_iff→aoD,map_drop→aoG,filter_cons→aoI,zipWith_cons_cons→aoJ,flatMap_cons→aoK,any_cons→aoM,length_filter_le→aoO,mem_append_left→aoP,getElem?_replicate→aoW,zipIdx_cons→ao7,zipIdx_nil→ao8,getElem?_zipWith→ao9,length_zipWith→apa,drop_eq_nil_of_le→apb,length_pos_of_mem→apd,find?_eq_none→apf,length_eraseIdx_of_lt→apn,perm_ext_iff_of_nodup→aps,ext_getElem?→apt,reverse_cons→apw,mem_map_of_mem→apx,zip_append→apy,getElem?_set→apz,nodup_range→apB,length_reverse→apG,getElem_map→apH,filter_eq_self→apI,flatMap_append→apJ,mem_flatMap→apK,set_append_right→apM,range_succ_eq_map→apQ
open PySem.Heap renaming get?_push_of_some→akX,lt_size→ak0,get?_push_size→alb,size_push→alv,get?_update_other→amF,get?_update_self→am8
open PySem.W renaming mg_of→ak5,mg_none_of→alM,kia_one→alU,cellsFrom_some→anr,kitx_dict→an4,rangeSize_down→aoi,kitx_list→aoU,callWith_K→aoV,codeHd_of_K→apu
open Bool renaming and_eq_true→ald,false_ne_true→ali,false_eq_true→alB,or_eq_true→amx,eq_iff_iff→amD,not_true→amU,not_false→anf,and_self→ang,false_and→an2,and_false→an7,true_and→aoo,false_or→aoN
open Option.some renaming inj→alh
open Array renaming length_toList→alm,getElem?_toList→alw,getElem?_eq_getElem→anl,toList_setIfInBounds→anO,toList_push→anS,mem_toList_iff→an3,toList_filterMap→aoq,getD_eq_getD_getElem?→apc,foldl_toList→apg,getElem?_eq_none→apo,toList_append→apv,forIn_toList→apA
open PySem.F renaming called_set→alp,slot_tuple_iterator_next→anw,slot_zip_next→anC,plainAttrs_list→aoh,entry_type_call→aou,typeCall_set_1→aox,entry_set_init→aoz,slot_tuple_add→aoX,entry_tuple_add→aoY,args_tuple_add_2→aoZ,entry_tuple_iterator_next→ao5,args_tuple_iterator_next_1→ao6,plain_set_new→apj,sub_list_set→apk,sub_list_frozenset→apl,slot_set_iter→apq
open Ne renaming symm→alF
open PyProof.Rows renaming boot_isinstance→alH,boot_tuple→alI,vals1→alK,callWith_type1→amu,boot_all→amX
open PySem.Heap.SameBut renaming update→amb
open Int renaming emod_nonneg→amr,emod_lt_of_pos→ams,toNat_natCast→am7,le_refl→aoF,pow_succ→aoH,emod_eq_of_lt→ape,natCast_emod→apC,natCast_add→apD
open PySem.Obj renaming data_mapFields→amL,isFreed_of_fields→aob,cls_mapFields→aoc
open PySem.SetTable renaming insertAt_perm→amS,toList_insertAt→anK
open PyProof.Rows.F renaming plain_set_update_loop→amT,entry_set_update_loop→anU
open PySem.Around renaming under_plainId→anj,under_plain→aov
open PySem.Value renaming isInt_shape→anm
open Option renaming isSome_iff_exists→ans,getD_none→ao0
open PySem.Walks renaming list→anE
open Classical renaming byContradiction→anM
open PySem.Code renaming quiet_builtin→aot
open PySem.Calls renaming Name_function_global→aoQ
open PyProof renaming noPylong_small→aoT
open PySem.IsL renaming update→ao1
open List.Pairwise renaming filterMap→aph,imp_of_mem→apN
open List.Perm renaming of_eq→apr
noncomputable section
namespace L2
open PySem PySem.Spec PyProof.Rows
abbrev Key:=Sum Int Str
def K5:Key->Value->Bool
 |.inl k,v=>Value.isInt k v
 |.inr x,v=>Value.isStrOf x v
def abX(w:World):Key->Int
 |.inl k=>hashInt k
 |.inr x=>hashStr w x
theorem kW:∀{k:Key}{v:Value},K5 k v=true->(∃i t,k=Sum.inl i/\v=Value.int i t)\/(∃x t,k=Sum.inr x/\v=Value.str x t)
 |.inl i,v,h=>by
  obtain⟨t,e⟩:=anm (k:=i) (v:=v) h
  exact .inl ⟨i,t,rfl,e⟩
 |.inr x,v,h=>by
  obtain⟨t,e⟩:=Value.isStrOf_shape (x:=x) (v:=v) h
  exact .inr ⟨x,t,rfl,e⟩
theorem abV(a b:Int):decide ((Sum.inl a:Key)=Sum.inl b)=(a==b):=by
 by_cases e:a=b
 ·subst e;simp
 ·have h:¬(Sum.inl a:Key)=Sum.inl b:=λq=>e (Sum.inl.inj q)
  rw[decide_eq_false h]
  exact(beq_eq_false_iff_ne.mpr e).symm
theorem abS(a b:Str):decide ((Sum.inr a:Key)=Sum.inr b)=decide (a=b):=by
 by_cases e:a=b
 ·subst e;simp
 ·have h:¬(Sum.inr a:Key)=Sum.inr b:=λq=>e (Sum.inr.inj q)
  rw[decide_eq_false h,decide_eq_false e]
theorem abU(a:Int) (b:Str):decide ((Sum.inl a:Key)=Sum.inr b)=false:=decide_eq_false (λq=>nomatch q)
theorem abT(a:Str) (b:Int):decide ((Sum.inr a:Key)=Sum.inl b)=false:=decide_eq_false (λq=>nomatch q)
def Kz(prog:Program) (w:World):PySem.KeyKind prog w Key where
 is:=K5
 hash:=abX w
 inj:=λv a b ha hb=>by
  rcases kW ha with⟨i,t,rfl,rfl⟩|⟨x,t,rfl,rfl⟩
  ·rcases kW hb with⟨j,u,rfl,e⟩|⟨y,u,rfl,e⟩
   ·injection e with e1 _;rw[e1]
   ·exact nomatch e
  ·rcases kW hb with⟨j,u,rfl,e⟩|⟨y,u,rfl,e⟩
   ·exact nomatch e
   ·injection e with e1 _;rw[e1]
 byValue:=λk v h=>by
  rcases kW h with⟨i,t,rfl,rfl⟩|⟨x,t,rfl,rfl⟩<;>rfl
 pyHash:=λhv h=>by
  rcases kW hv with⟨i,t,rfl,rfl⟩|⟨x,t,rfl,rfl⟩
  ·exact wpAny_pyHash_int h
  ·exact wpAny_pyHash_str h
 eqBool:=λhu hv h=>by
  rcases kW hu with⟨i,t,rfl,rfl⟩|⟨x,t,rfl,rfl⟩
  ·rcases kW hv with⟨j,u,rfl,rfl⟩|⟨y,u,rfl,rfl⟩
   ·rw[abV]at h;exact wpAny_eqBool_int h
   ·rw[abU]at h;exact SeqAt.EqAt.int_str i t y u _ _ _ _ h
  ·rcases kW hv with⟨j,u,rfl,rfl⟩|⟨y,u,rfl,rfl⟩
   ·rw[abT]at h;exact SeqAt.EqAt.str_int x t j u _ _ _ _ h
   ·rw[abS]at h;exact wpAny_eqBool_str h
 «strs»:=λk x t v h=>by
  rcases kW h with⟨i,u,rfl,e⟩|⟨y,u,rfl,e⟩
  ·exact nomatch e
  ·injection e with e1 _
   subst e1
   cases v<;>rfl
inductive V where
 |aO|bl (b:Bool)|int (i:Int)|str (x:Str)|jB (b:Array UInt8)|sM (b:UInt64)|ref (a:Addr)|ty (n:String)
 deriving DecidableEq
def RelV:V->Value->Prop
 |.aO,u=>u=Value.none
 |.bl b,u=>u=Value.bool b
 |.int i,u=>∃t,u=Value.int i t
 |.str x,u=>∃t,u=Value.str x t
 |.jB b,u=>∃t,u=Value.bytes b t
 |.sM b,u=>∃t,u=Value.float b t
 |.ref a,u=>u=Value.ref a
 |.ty n,u=>u=Value.type n
abbrev Vals:List V->List Value->Prop:=Paired RelV
theorem Vals.length{xs:List V}{us:List Value}(r:Vals xs us):xs.length=us.length:=Paired.length r
theorem Vals.get:∀{xs:List V}{us:List Value}{i:Nat}{x:V},Vals xs us->xs[i]? = some x->∃u,us[i]? = some u/\RelV x u
 |_,_,_,_,.nil,e=>by simp at e
 |_,_,0,_,.cons r _,e=>by simp at e;subst e;exact⟨_,rfl,r⟩
 |_,_,i+1,x,.cons _ t,e=>by
  obtain⟨u,h1,h2⟩:=Vals.get (i:=i) (x:=x) t (by simpa using e)
  exact⟨u,by simpa using h1,h2⟩
theorem Vals.set{x:V}{u:Value}(r:RelV x u):∀{xs:List V}{us:List Value}(i:Nat),Vals xs us->Vals (xs.set i x) (us.set i u)
 |_,_,_,.nil=>.nil
 |_,_,0,.cons _ t=>.cons r t
 |_,_,i+1,.cons q t=>.cons q (Vals.set r i t)
theorem Vals.append:∀{xs ys:List V}{us ws:List Value},Vals xs us->Vals ys ws->Vals (xs++ys) (us++ws)
 |_,_,_,_,.nil,s=>s
 |_,_,_,_,.cons r t,s=>.cons r (Vals.append t s)
theorem Vals.take:∀{xs:List V}{us:List Value}(n:Nat),Vals xs us->Vals (xs.take n) (us.take n)
 |_,_,0,_=>.nil
 |_,_,_+1,.nil=>.nil
 |_,_,n+1,.cons r t=>.cons r (Vals.take n t)
theorem Vals.drop:∀{xs:List V}{us:List Value}(n:Nat),Vals xs us->Vals (xs.drop n) (us.drop n)
 |_,_,0,r=>r
 |_,_,_+1,.nil=>.nil
 |_,_,n+1,.cons _ t=>Vals.drop n t
def G5:Option V->Option Value->Prop
 |some v,some u=>RelV v u
 |none,none=>True
 |_,_=>False
def KV{κ:Type}:List (κ×V)->List (κ×Value)->Prop:=Paired fun(p:κ×V) (q:κ×Value)=>p.1=q.1/\RelV p.2 q.2
def kV:Key->V
 |.inl i=>.int i
 |.inr x=>.str x
inductive HO where
 |lst (xs:List V)
 |tup (xs:List V)
 |dK (kvs:List (Key×V))|dT (kvs:List (List Key×V))
 |set (S:Int->Bool) (n:Nat)
 |ins (C dx:Addr) (fs:List (Str×V))
 |own (x:Addr)
 |xd (fs:List (Str×V))
 |met (f x:Addr)
 |rM (lo hi:Int)
 |cH (o:Obj) (u:HO)
 |cE (ps:Array Value)
 |ext (φ:Heap->Prop)
abbrev Hp:=Addr->Option HO
def upd(H:Hp) (a:Addr) (o:HO):Hp:=λb=>if b=a then some o else H b
theorem fD{H:Hp}{a:Addr}{o:HO}:upd H a o a=some o:=by unfold upd;rw[if_pos rfl]
theorem bL{H:Hp}{a b:Addr}{o:HO}(h:b≠a):upd H a o b=H b:=by unfold upd;rw[if_neg h]
theorem Kp{H:Hp}{a b:Addr}{o u:HO}(h:H a=some o) (h':H b=some u) (d:o≠u):a≠b:=by
 intro e;subst e;rw[h]at h';exact d (alh h')
theorem c9{H:Hp}{a b:Addr}{o:HO}(h:H a=some o) (h':H b=none):a≠b:=by
 intro e;subst e;rw[h]at h';cases h'
def kh(h:Heap) (a:Addr) (items:Array Value):Prop:=∃o,h.get? a=some o/\o.cls=.type "tuple"/\(∃n,o.data=.seq items n)/\o.dict=none
theorem kh.tup{h:Heap}{a:Addr}{items:Array Value}:kh h a items->IsTup h a items:=fun⟨o,e,c,d,_⟩=>⟨o,e,c,d⟩
theorem kh.new(h:Heap) (items:Array Value):kh (h.push {cls:=.type "tuple",data:=.seq items}) h.objs.size items:=⟨_,alb _ rfl,rfl,⟨_,rfl⟩,rfl⟩
section
variable (P:Program) (w:World)
def fj(H:Hp) (h:Heap) (a:Addr):HO->Prop
 |.lst xs=>xs.length<=sizeLine/\∃(its:List Value) (n:Nat),Vals xs its/\h.get? a=some {cls:=.type "list",data:=.seq its.toArray n}
 |.tup xs=>xs.length<=sizeLine/\∃its:List Value,Vals xs its/\kh h a its.toArray
 |.dK kvs=>kvs.length<=sizeLine/\(a==sysModules)=false/\∃vs,KV kvs vs/\h.DictOf (Kz P w) a vs
 |.dT kvs=>kvs.length<=sizeLine/\(a==sysModules)=false/\∃xs:List (List Key×Addr×Value),
   Paired (fun(p:List Key×V) (q:List Key×Addr×Value)=>p.1=q.1/\H q.2.1=some (.tup (p.1.map kV))/\RelV p.2 q.2.2) kvs xs /\
   ∃o es ep,h.get? a=some o/\o.ExactDict/\o.data=.dict es ep/\es.toList=xs.map (entryOfKey (tupleKind (Kz P w)))/\(xs.map (·.1)).Nodup
 |.set S n=>h.SetOf (intKind P w) a S n
 |.ins C dx fs=>H dx=some (.own a)/\fs.length<=1000/\dx≠a/\h.get? a=some (PySem.W.instObj C dx) /\
   ∃mA,h.Ns1 dx mA/\(∀f,G5 (fs.lookup f) (mA f))/\PySem.Within mA (fs.map (·.1))
 |.own _=>∃o,h.get? a=some o
 |.xd fs=>∃mA,h.Ns1 a mA/\∀f,G5 (fs.lookup f) (mA f)
 |.rM lo hi=>∃t u v,h.get? a=some {cls:=.type "range",data:=.fields #[.int lo t,.int hi u,.int 1 v]}
 |.cH o u=>h.get? a=some o/\fj H h a u
 |.cE ps=>h.get? a=some {cls:=.none,data:=.fields ps}
 |.met f x=>h.get? a=some (PySem.W.methodObj (.ref f) (.ref x))
 |.ext φ=>φ h/\(∃o,h.get? a=some o)/\∀h1 h2:Heap,φ h1->(∀o,h1.get? a=some o->h2.get? a=some o)->φ h2
def c7(H:Hp) (h:Heap):Prop:=∀a o,H a=some o->fj P w H h a o
end
section
variable {P:Program}{w:World}{H H':Hp}{h h':Heap}{a:Addr}{o:HO}
theorem fj.lt(x:fj P w H h a o):a<h.objs.size:=by
 cases o with
 |lst xs=>obtain⟨_,_,_,_,e⟩:=x;exact ak0 e
 |tup xs=>obtain⟨_,_,_,p⟩:=x;exact p.tup.lt
 |dK kvs=>obtain⟨_,_,_,_,o,_,_,e,_⟩:=x;exact ak0 e
 |dT kvs=>obtain⟨_,_,_,_,o,_,_,e,_⟩:=x;exact ak0 e
 |set S n=>obtain⟨o,_,_,_,e,_⟩:=x;exact ak0 e
 |ins C dx fs=>obtain⟨_,_,_,e,_⟩:=x;exact ak0 e
 |own y=>obtain⟨_,e⟩:=x;exact ak0 e
 |xd fs=>obtain⟨_,⟨_,_,_,e,_⟩,_⟩:=x;exact ak0 e
 |rM lo hi=>obtain⟨_,_,_,e⟩:=x;exact ak0 e
 |cH ob u=>obtain⟨e,_⟩:=x;exact ak0 e
 |cE ps=>exact ak0 (show h.get? a=some _ from x)
 |met f y=>exact ak0 (show h.get? a=some _ from x)
 |ext φ=>obtain⟨_,⟨_,e⟩,_⟩:=x;exact ak0 e
theorem Paired.KA{α β:Type}{F G:α->β->Prop}:∀{l₁:List α}{l₂:List β},Paired F l₁ l₂->(∀a b,F a b->G a b)->Paired G l₁ l₂
 |_,_,.nil,_=>.nil
 |_,_,.cons r t,f=>.cons (f _ _ r) (Paired.KA t f)
theorem fj.stay(x:fj P w H h a o) (k:∀b u,(b=a\/H b=some (.own a))->h.get? b=some u->h'.get? b=some u)
  (ho:∀b,H b=some (.own a)->H' b=some (.own a)) (ht:∀b xs,H b=some (.tup xs)->H' b=some (.tup xs)):fj P w H' h' a o:=by
 induction o with
 |lst xs=>obtain⟨z,its,n,r,e⟩:=x;exact⟨z,its,n,r,k _ _ (.inl rfl) e⟩
 |tup xs=>obtain⟨z,its,r,ob,e,c⟩:=x;exact⟨z,its,r,ob,k _ _ (.inl rfl) e,c⟩
 |dK kvs=>obtain⟨z,y,vs,r,ob,es,ep,e,c⟩:=x;exact⟨z,y,vs,r,ob,es,ep,k _ _ (.inl rfl) e,c⟩
 |dT kvs =>
  obtain⟨z,y,xs,r,ob,es,ep,e,c⟩:=x
  exact⟨z,y,xs,Paired.KA r λp q z=>⟨z.1,ht _ _ z.2.1,z.2.2⟩,ob,es,ep,k _ _ (.inl rfl) e,c⟩
 |set S n=>obtain⟨ob,es,ep,t,e,c⟩:=x;exact⟨ob,es,ep,t,k _ _ (.inl rfl) e,c⟩
 |ins C dx fs =>
  obtain⟨d,z,ne,e,mA,⟨od,es,ep,e2,c⟩,r⟩:=x
  exact⟨ho _ d,z,ne,k _ _ (.inl rfl) e,mA,⟨od,es,ep,k _ _ (.inr d) e2,c⟩,r⟩
 |own y=>obtain⟨ob,e⟩:=x;exact⟨ob,k _ _ (.inl rfl) e⟩
 |xd fs=>obtain⟨mA,⟨od,es,ep,e,c⟩,r⟩:=x;exact⟨mA,⟨od,es,ep,k _ _ (.inl rfl) e,c⟩,r⟩
 |rM lo hi=>obtain⟨t,u,v,e⟩:=x;exact⟨t,u,v,k _ _ (.inl rfl) e⟩
 |cH ob u ih=>obtain⟨e,q⟩:=x;exact⟨k _ _ (.inl rfl) e,ih q⟩
 |cE ps =>
  have e:h.get? a=some {cls:=.none,data:=.fields ps}:=x
  show h'.get? a=some {cls:=.none,data:=.fields ps}
  exact k a _ (.inl rfl) e
 |met f y =>
  have e:h.get? a=some (PySem.W.methodObj (.ref f) (.ref y)):=x
  show h'.get? a=some (PySem.W.methodObj (.ref f) (.ref y))
  exact k a _ (.inl rfl) e
 |ext φ=>obtain⟨p,⟨o,e⟩,st⟩:=x;exact⟨st _ _ p λo q=>k _ _ (.inl rfl) q,⟨o,k _ _ (.inl rfl) e⟩,st⟩
theorem c7.lt(x:c7 P w H h) (e:H a=some o):a<h.objs.size:=(x a o e).lt
theorem c7.fresh(x:c7 P w H h) (e:h.objs.size<=a):H a=none:=by
 cases q:H a with
 |none=>rfl
 |some u=>exact absurd (ak7 (x.lt q) e) (alJ _)
theorem c7.kept(x:c7 P w H h) (k:∀b u,h.get? b=some u->h'.get? b=some u):c7 P w H h':=λa o e =>
 (x a o e).stay (λb u _ q=>k b u q) (λ_ q=>q) λ_ _ q=>q
theorem c7.laid(x:c7 P w H h) (k:∀b u,h.get? b=some u->h'.get? b=some u) (hp:h.objs.size<=a) (new:fj P w (upd H a o) h' a o):c7 P w (upd H a o) h':=λb u e=>by
 have hn:=x.fresh hp
 by_cases hb:b=a
 ·subst hb;rw[fD]at e;cases e;exact new
 ·rw[bL hb]at e
  exact(x b u e).stay (λc v _ q=>k c v q) (λc q=>by rw[bL (c9 q hn)];exact q) λc xs q=>by rw[bL (c9 q hn)];exact q
end
def Rd(H:Hp) (a:Addr) (u:HO):Prop:=H a=some u\/∃o,H a=some (.cH o u)
theorem Rd.ok{P:Program}{w:World}{H:Hp}{h:Heap}{a:Addr}{u:HO}(r:Rd H a u) (x:c7 P w H h):fj P w H h a u:=by
 rcases r with r|⟨o,r⟩
 ·exact x a u r
 ·obtain⟨_,q⟩:=x a _ r
  exact q
def Am:Option HO->Prop
 |some (.lst _)=>True
 |some (.dK _)=>True
 |some (.dT _)=>True
 |some (.set _ _)=>True
 |some (.ins _ _ _)=>True
 |some (.ext _)=>True
 |_=>False
section
variable {P:Program}{w:World}{H:Hp}{h h':Heap}{x e:Addr}{o':HO}
theorem c7.write(ok:c7 P w H h) (mu:Am (H x)) (he:e=x\/H e=some (.own x)) (k:∀b u,b≠e->h.get? b=some u->h'.get? b=some u) (sC:∃u,h'.get? e=some u)
  (new:fj P w (upd H x o') h' x o'):c7 P w (upd H x o') h':=λb u q=>by
 have J9:∀c y,H c=some (.own y)->c≠x:=λc y r z=>by subst z;rw[r]at mu;exact mu
 have Z4:∀c xs,H c=some (.tup xs)->c≠x:=λc xs r z=>by subst z;rw[r]at mu;exact mu
 by_cases hb:b=x
 ·subst hb;rw[fD]at q;cases q;exact new
 ·rw[bL hb]at q
  by_cases pJ:b=e
  ·have q':H b=some (.own x):=by
    rcases he with z|z
    ·exact absurd (pJ.trans z) hb
    ·rw[pJ];exact z
   rw[q]at q';cases q'
   obtain⟨v,hv⟩:=sC
   exact⟨v,by rw[pJ];exact hv⟩
  ·refine(ok b u q).stay (λc v hc r=>k c v ?_ r) (λc r=>by rw[bL (J9 c b r)];exact r) λc xs r=>by rw[bL (Z4 c xs r)];exact r
   rcases hc with rfl|hc
   ·exact pJ
   ·rintro rfl
    rcases he with z|z
    ·exact J9 c b hc z
    ·rw[hc]at z;cases z;exact hb rfl
end
structure Un (fs ex:List Addr) (H H':Hp) (h h':Heap):Prop where
 keep:∀b o,h.get? b=some o->H b=none->b∉fs->b∉ex->h'.get? b=some o
 slot:∀b o,h.get? b=some o->H b=none->b∈fs->b∉ex->∃sl,h'.get? b=some {o with slots:=sl}
 free:∀b o,h.get? b=some o->H b=none->b∉ex->H' b=none
 there:∀b o,h.get? b=some o->b∉ex->∃o',h'.get? b=some o'
 tups:∀b xs,H b=some (.tup xs)->H' b=some (.tup xs)
 iG:∀b o u,H b=some (.cH o u)->H' b=some (.cH o u)
 iR:∀b ps,H b=some (.cE ps)->∃more,H' b=some (.cE (ps++more))
section
variable {fs fs' ex ex':List Addr}{H H1 H2:Hp}{h h1 h2 h':Heap}{a x e:Addr}{o:HO}
theorem Un.any(u:Un fs ex H H1 h h1) {b:Addr}{ob:Obj}(q:h.get? b=some ob) (n:H b=none) (hx:b∉ex):∃sl,h1.get? b=some {ob with slots:=sl}:=by
 by_cases hb:b∈fs
 ·exact u.slot b ob q n hb hx
 ·exact⟨ob.slots,u.keep b ob q n hb hx⟩
theorem Un.kept(k:∀b u,h.get? b=some u->h'.get? b=some u):Un fs ex H H h h' :=
 ⟨λb ob q _ _ _=>k b ob q,λb ob q _ _ _=>⟨ob.slots,k b ob q⟩,λ_ _ _ n _=>n,λb ob q _=>⟨ob,k b ob q⟩,λ_ _ q=>q,λ_ _ _ q=>q,λ_ ps q=>⟨#[],by rw[q];simp⟩⟩
theorem Un.refl:Un fs ex H H h h:=Un.kept λ_ _ q=>q
theorem Un.laid(k:∀b u,h.get? b=some u->h'.get? b=some u) (hp:h.objs.size<=a) (hn:H a=none):Un fs ex H (upd H a o) h h' where
 keep:=λb u q _ _ _=>k b u q
 slot:=λb u q _ _ _=>⟨u.slots,k b u q⟩
 free:=λb u q n _=>by rw[bL (ak1 (ak7 (ak0 q) hp))];exact n
 there:=λb u q _=>⟨u,k b u q⟩
 tups:=λb xs q=>by rw[bL (c9 q hn)];exact q
 iG:=λb u xs q=>by rw[bL (c9 q hn)];exact q
 iR:=λb ps q=>⟨#[],by rw[bL (c9 q hn),q];simp⟩
theorem Un.write(mu:Am (H x)) (he:e=x\/H e=some (.own x)) (k:∀b u,b≠e->h.get? b=some u->h'.get? b=some u) (sC:∃u,h'.get? e=some u):Un fs ex H (upd H x o) h h':=by
 have hx:∀b,H b=none->b≠x:=λb n z=>by subst z;rw[n]at mu;exact mu
 have hb:∀b,H b=none->b≠e:=λb n z=>by
  subst z
  rcases he with r|r
  ·exact hx b n r
  ·rw[n]at r;cases r
 have hm:∀b u,H b=some u->¬Am (some u)->b≠x:=λb u q nm z=>by subst z;rw[q]at mu;exact nm mu
 refine⟨λb u q n _ _=>k b u (hb b n) q,λb u q n _ _=>⟨u.slots,k b u (hb b n) q⟩,λb u q n _=>by rw[bL (hx b n)];exact n,λb u q _=>?_,
  λb xs q=>by rw[bL (hm b _ q λz=>z)];exact q,λb u xs q=>by rw[bL (hm b _ q λz=>z)];exact q,λb ps q=>⟨#[],by rw[bL (hm b _ q λz=>z),q];simp⟩⟩
 by_cases pJ:b=e
 ·subst pJ;exact sC
 ·exact⟨u,k b u pJ q⟩
end
def wW(h:Heap) (H:Hp):List Addr:=(List.range h.objs.size).filter λa=>(H a).isSome
def k6(h:Heap) (H:Hp):Heap:=PySem.W.hideAll h (wW h H)
theorem adR(h:Heap) (H:Hp):(k6 h H).objs.size=h.objs.size:=PySem.W.hideAll_size _ _
theorem adS{h:Heap}{H:Hp}{b:Addr}{o:Obj}(e:h.get? b=some o) (n:H b=none):(k6 h H).get? b=some o :=
 PySem.W.hideAll_get _ e λhm=>by
  have q:(H b).isSome=true:=(amC.mp hm).2
  rw[n]at q;simp at q
theorem Yy{h:Heap}{H:Hp}{b:Addr}{o:Obj}(e:(k6 h H).get? b=some o):h.get? b=some o/\H b=none:=by
 have e':h.get? b=some o:=PySem.W.of_hideAll (wW h H) e
 refine⟨e',?_⟩
 cases q:H b with
 |none=>rfl
 |some x =>
  have hm:b∈wW h H:=amC.mpr ⟨akZ.mpr (ak0 e'),by simp[q]⟩
  have z:(k6 h H).get? b=none:=PySem.W.hideAll_none (wW h H) hm
  rw[z]at e;cases e
structure Mod (K:PySem.W.Frag) (mg:Str->Option Value) (base:Heap):Prop where
 kU:K.In base
 glob:base.Ns mainGlobals mg
 blt:∃mb,base.Ns builtinsNs mb/\∀x:Str,x≠"__name__"->mb x=bootBuiltins x
 nolimit:base.NoLimit
 bmod:∃bm ob,mg "__builtins__"=some (.ref bm)/\bm≠builtinsNs/\base.get? bm=some ob/\ob.cls=.type "module"/\ob.dict=some builtinsNs/\ob.data=.plain
structure Cx where
 prog:Program
 w:World
 K:PySem.W.Frag
 mg:Str->Option Value
 base:Heap
 A:Around
 N:List Str
 s₀:Shared
 H₀:Hp
 env:Env
 outer:List Env
 stack:List Env
 ex:List Addr
 fn:Str->Bool
 calm:Bool
 pn:List (Addr×Obj)
 xe:Value->Shared->Prop
def frs(l:List Env):List Addr:=l.filterMap (·.frame)
abbrev Cx.fs(X:Cx):List Addr:=frs X.outer
def Ah(sc:Scope) (x:Str):Prop:=sc.names.lookup x=some .local\/sc.names.lookup x=some .cell\/sc.names.lookup x=some .free
def Loc(sc:Scope) (x:Str):Prop:=sc.names.lookup x=some .local\/sc.names.lookup x=some .cell
def Look(env:Env) (h:Heap) (m:Str->Option Value) (x:Str) (u:Value):Prop :=
 (env.kindOf x=some .local/\m x=some u)\/((env.kindOf x=some .cell\/env.kindOf x=some .free)/\∃c,env.cells.lookup x=some c/\h.IsCell c (some u))
structure Cx.Ok (X:Cx):Prop where
 mod:Mod X.K X.mg X.base
 kind:X.env.scope.kind=.function
 glob:X.env.globals=mainGlobals
 blt:X.env.builtins=builtinsNs
 above:X.s₀.heap.objs.size<=X.env.locals
 inj:∀x y c,X.env.cells.lookup x=some c->X.env.cells.lookup y=some c->x=y
 has:∀x,(X.env.kindOf x=some .cell\/X.env.kindOf x=some .free)->∃c,X.env.cells.lookup x=some c
 nS:∀x c,X.fn x=true->X.env.cells.lookup x=some c->X.s₀.heap.objs.size<=c
 hd:X.calm=true->X.A.handled=none
 frames:X.A.frames=some X.stack
 stk:X.stack=X.outer\/(X.stack=X.env::X.outer/\X.env.frame=some X.env.locals)
 vL:∀b∈X.ex,b≠X.env.locals/\∀x c,X.env.cells.lookup x=some c->c≠b
 bs:∀b o,X.base.get? b=some o->X.s₀.heap.get? b=some o/\X.H₀ b=none
 g8:X.base.objs.size<=X.s₀.heap.objs.size
 kL:∀b o,X.base.get? b=some o->b∉X.ex
 sN:∀b∈X.ex,b∉X.fs
 gK:X.s₀.heap.FunFrames X.base X.outer
 j3:∀b∈X.fs,X.H₀ b=none
structure Inv (X:Cx) (pins:List (Addr×Obj)) (σ:List (Option V)) (H:Hp) (s:Shared):Prop where
 ok:X.Ok
 os:s.os=X.s₀.os
 bare:AllBare s.gens
 base:Un X.fs X.ex X.H₀ H X.s₀.heap s.heap
 loc:∃m,s.heap.Ns X.env.locals m/\∀(i:Nat) (x:Str) (v:V),X.N[i]? = some x->σ[i]? = some (some v)->Ah X.env.scope x->∃u,RelV v u/\Look X.env s.heap m x u
 cell:∀x c,X.env.cells.lookup x=some c->∃v,s.heap.IsCell c v
 free:H X.env.locals=none
 iH:∀x c,X.env.cells.lookup x=some c->H c=none
 pin:∀p∈X.pn++pins,s.heap.get? p.1=some p.2/\H p.1=none/\p.1≠X.env.locals/\p.1∉X.fs/\∀v,p.2.data≠.cell v
 hok:c7 X.prog X.w H s.heap
 len:σ.length=X.N.length
section
variable {X:Cx}{pins:List (Addr×Obj)}{σ:List (Option V)}{H H':Hp}{s:Shared}{h':Heap}
theorem Cx.Ok.Z9(ok:X.Ok) {b:Addr}{o:Obj}(e:X.base.get? b=some o):b∉X.fs:=λhb=>by
 have:=(ok.gK.mem hb).1
 rw[e]at this;cases this
theorem Inv.bs(I:Inv X pins σ H s):∀b o,X.base.get? b=some o->s.heap.get? b=some o/\H b=none:=λb o e =>
 ⟨I.base.keep b o (I.ok.bs b o e).1 (I.ok.bs b o e).2 (I.ok.Z9 e) (I.ok.kL b o e),I.base.free b o (I.ok.bs b o e).1 (I.ok.bs b o e).2 (I.ok.kL b o e)⟩
theorem Inv.bk(I:Inv X pins σ H s):∀b o,X.base.get? b=some o->s.heap.get? b=some o:=λb o e=>(I.bs b o e).1
theorem Inv.mod(I:Inv X pins σ H s):Mod X.K X.mg X.base:=I.ok.mod
theorem Inv.fB(I:Inv X pins σ H s):X.K.In s.heap:=I.ok.mod.kU.keeps I.bk
theorem Inv.lt(I:Inv X pins σ H s):X.env.locals<s.heap.objs.size:=let⟨_,hn,_⟩:=I.loc;hn.lt
theorem Inv.sz(I:Inv X pins σ H s):X.s₀.heap.objs.size<=s.heap.objs.size:=alk I.ok.above (amg I.lt)
theorem Inv.BH(I:Inv X pins σ H s) {a:Addr}(h:s.heap.objs.size<=a):a∉X.fs:=λhb=>by
 obtain⟨_,o,ho,_⟩:=I.ok.gK.mem hb
 exact absurd (ak7 (ak0 ho) (alk I.sz h)) (alJ _)
theorem Inv.nQ(I:Inv X pins σ H s):∀x c,X.env.cells.lookup x=some c->c≠X.env.locals:=λx c e z=>by
 obtain⟨v,o,ho,hd⟩:=I.cell x c e
 obtain⟨m,⟨o',es,ep,ho',hd',_⟩,_⟩:=I.loc
 rw[z,ho']at ho;cases ho;rw[hd']at hd;cases hd
theorem Inv.gK(I:Inv X pins σ H s):s.heap.FunFrames X.base X.outer:=by
 have all:∀(l:List Env),(∀b∈frs l,b∈X.fs)->X.s₀.heap.FunFrames X.base l->s.heap.FunFrames X.base l:=by
  intro l
  induction l with
  |nil=>intro _ _;trivial
  |cons env r ih =>
   intro hs hl
   obtain⟨hk,⟨L,o,hf,hn,ho,hd⟩,hr⟩:=hl
   have hL:L∈X.fs:=hs L (by unfold frs;rw[am2,hf];exact alN)
   obtain⟨sl,e⟩:=I.base.slot L o ho (I.ok.j3 L hL) hL λz=>I.ok.sN L z hL
   exact⟨hk,⟨L,_,hf,hn,e,hd⟩,ih (λb hb=>hs b (by unfold frs;rw[am2,hf];exact alD _ hb)) hr⟩
 exact all X.outer (λ_ hb=>hb) I.ok.gK
theorem Inv.stack(I:Inv X pins σ H s):s.heap.FunFrames X.base X.stack:=by
 rcases I.ok.stk with e|⟨e,hf⟩
 ·rw[e];exact I.gK
 ·rw[e]
  obtain⟨m,hn,_⟩:=I.loc
  refine .cons (by rw[I.ok.kind];decide) hf hn ?_ I.gK
  exact Heap.get?_none_of_le (alk I.ok.g8 I.ok.above)
theorem Inv.oE(I:Inv X pins σ H s):∀b∈frs X.stack,b∈X.env.locals::X.fs:=λb hb=>by
 rcases I.ok.stk with e|⟨e,hf⟩
 ·rw[e]at hb;exact alD _ hb
 ·rw[e]at hb
  unfold frs at hb
  rw[am2,hf]at hb
  exact hb
theorem Inv.AZ(I:Inv X pins σ H s):∀b∈frs X.stack,H b=none:=λb hb=>by
 rcases akY.mp (I.oE b hb)with e|hb
 ·rw[e];exact I.free
 ·obtain⟨_,o,ho,_⟩:=I.ok.gK.mem hb
  exact I.base.free b o ho (I.ok.j3 b hb) λz=>I.ok.sN b z hb
theorem Inv.step{g':Array GenState}{t':Nat}{d':Drawn}{ch:List Addr}(I:Inv X pins σ H s)
  (hch:∀b∈ch,(b∈X.ex\/X.s₀.heap.objs.size<=b)/\b≠X.env.locals/\(∀x c,X.env.cells.lookup x=some c->c≠b)/\∀p∈X.pn++pins,p.1≠b)
  (keep:∀b o,b≠X.env.locals->b∉X.fs->b∉ch->s.heap.get? b=some o->H b=none->h'.get? b=some o)
  (slot:∀b o,b≠X.env.locals->b∈X.fs->b∉ch->s.heap.get? b=some o->H b=none->∃sl,h'.get? b=some {o with slots:=sl}) (free:∀b o,b∉ch->s.heap.get? b=some o->H b=none->H' b=none)
  (there:∀b o,b∉ch->s.heap.get? b=some o->∃o',h'.get? b=some o')
  (tups:∀b xs,H b=some (.tup xs)->H' b=some (.tup xs)) (iG:∀b o u,H b=some (.cH o u)->H' b=some (.cH o u)) (iR:∀b ps,H b=some (.cE ps)->∃more,H' b=some (.cE (ps++more)))
  (ns:∀m,s.heap.Ns X.env.locals m->h'.Ns X.env.locals m) (hok:c7 X.prog X.w H' h') (hg:AllBare g') :
  Inv X pins σ H' {s with heap:=h',gens:=g',drawn:=d',toks:=t'}:=by
 have Kq:∀b o,X.s₀.heap.get? b=some o->b≠X.env.locals:=λb o e=>ak1 (ak7 (ak0 e) I.ok.above)
 have yh:∀b o,X.s₀.heap.get? b=some o->b∉X.ex->b∉ch:=λb o e hx hb=>by
  rcases(hch b hb).1 with z|z
  ·exact hx z
  ·exact absurd (ak7 (ak0 e) z) (alJ _)
 have cellK:∀x c,X.env.cells.lookup x=some c->∀v,s.heap.IsCell c v->h'.IsCell c v:=λx c e v ⟨o,ho,hd⟩=>by
  have jq:c∉ch:=λz=>(hch c z).2.2.1 x c e rfl
  by_cases hc:c∈X.fs
  ·obtain⟨sl,q⟩:=slot c o (I.nQ x c e) hc jq ho (I.iH x c e)
   exact⟨_,q,hd⟩
  ·exact⟨o,keep c o (I.nQ x c e) hc jq ho (I.iH x c e),hd⟩
 refine⟨I.ok,I.os,hg,⟨λb o e n hb hx=>?_,λb o e n hb hx=>?_,λb o e n hx=>?_,λb o e hx=>?_,λb xs e=>tups b xs (I.base.tups b xs e),λb o xs e=>iG b o xs (I.base.iG b o xs e),λb ps e=>?_⟩,?_,λx c e=>?_,?_,λx c e=>?_,λp hp=>?_,hok,I.len⟩
 ·exact keep b o (Kq b o e) hb (yh b o e hx) (I.base.keep b o e n hb hx) (I.base.free b o e n hx)
 ·obtain⟨sl,e1⟩:=I.base.slot b o e n hb hx
  obtain⟨S9,e2⟩:=slot b _ (Kq b o e) hb (yh b o e hx) e1 (I.base.free b o e n hx)
  exact⟨S9,e2⟩
 ·obtain⟨o',e1⟩:=I.base.there b o e hx
  exact free b o' (yh b o e hx) e1 (I.base.free b o e n hx)
 ·obtain⟨o',e1⟩:=I.base.there b o e hx
  exact there b o' (yh b o e hx) e1
 ·obtain⟨m1,e1⟩:=I.base.iR b ps e
  obtain⟨m2,e2⟩:=iR b _ e1
  exact⟨m1++m2,by rw[e2,Array.append_assoc]⟩
 ·obtain⟨m,hn,hl⟩:=I.loc
  refine⟨m,ns m hn,λi x v e1 e2 e3=>?_⟩
  obtain⟨u,r,l⟩:=hl i x v e1 e2 e3
  refine⟨u,r,?_⟩
  rcases l with l|⟨k,c,e,z⟩
  ·exact .inl l
  ·exact .inr ⟨k,c,e,cellK x c e _ z⟩
 ·obtain⟨v,z⟩:=I.cell x c e
  exact⟨v,cellK x c e v z⟩
 ·obtain⟨m,⟨o,_,_,ho,_⟩,_⟩:=I.loc
  exact free _ o (λz=>(hch _ z).2.1 rfl) ho I.free
 ·obtain⟨v,o,ho,hd⟩:=I.cell x c e
  exact free c o (λz=>(hch c z).2.2.1 x c e rfl) ho (I.iH x c e)
 ·obtain⟨e,n,ne,nf,d⟩:=I.pin p hp
  have jq:p.1∉ch:=λz=>(hch p.1 z).2.2.2 p hp rfl
  exact⟨keep p.1 p.2 ne nf jq e n,free p.1 p.2 jq e n,ne,nf,d⟩
theorem Inv.un{t':Nat}(I:Inv X pins σ H s) (u:Un X.fs [] H H' s.heap h') (hok:c7 X.prog X.w H' h'):Inv X pins σ H' {s with heap:=h',toks:=t'}:=by
 obtain⟨m,⟨o,es,ep,ho,r⟩,_⟩:=id I.loc
 obtain⟨sl,hL⟩:=u.any ho I.free (by simp)
 exact I.step (g':=s.gens) (d':=s.drawn) (ch:=[]) (λ_ z=>nomatch z) (λb o _ hb _ e n=>u.keep b o e n hb (by simp)) (λb o _ hb _ e n=>u.slot b o e n hb (by simp)) (λb o _ e n=>u.free b o e n (by simp)) (λb o _ e=>u.there b o e (by simp)) u.tups u.iG u.iR (λm' hm=>by
  obtain⟨o',es',E9,ho',r'⟩:=hm
  rw[ho]at ho';cases ho'
  exact⟨_,es',E9,hL,r'⟩) hok I.bare
theorem Inv.call{g':Array GenState}{t':Nat}{d':Drawn}{ch:List Addr}(I:Inv X pins σ H s) (u:Un (frs X.stack) ch H H' s.heap h') (hok:c7 X.prog X.w H' h') (hg:AllBare g')
  (hch:∀b∈ch,(b∈X.ex\/X.s₀.heap.objs.size<=b)/\b≠X.env.locals/\(∀x c,X.env.cells.lookup x=some c->c≠b)/\∀p∈X.pn++pins,p.1≠b) :
  Inv X pins σ H' {s with heap:=h',gens:=g',drawn:=d',toks:=t'}:=by
 obtain⟨m,⟨o,es,ep,ho,r⟩,_⟩:=id I.loc
 obtain⟨sl,hL⟩:=u.any ho I.free λz=>(hch _ z).2.1 rfl
 exact I.step (ch:=ch) hch (λb o hL hb hc e n=>u.keep b o e n (λz=>(akY.mp (I.oE b z)).elim hL hb) hc) (λb o _ _ hc e n=>u.any e n hc) (λb o hc e n=>u.free b o e n hc) (λb o hc e=>u.there b o e hc) u.tups u.iG u.iR (λm' hm=>by
  obtain⟨o',es',E9,ho',r'⟩:=hm
  rw[ho]at ho';cases ho'
  exact⟨_,es',E9,hL,r'⟩) hok hg
theorem Inv.turned{t':Nat}{it:Addr}(I:Inv X pins σ H s) (k:∀b o,b≠it->s.heap.get? b=some o->h'.get? b=some o) (hn:H it=none) (hL:it≠X.env.locals)
  (h1:it∈X.ex\/X.s₀.heap.objs.size<=it) (h2:∀x c,X.env.cells.lookup x=some c->c≠it) (h3:∀p∈X.pn++pins,p.1≠it):Inv X pins σ H {s with heap:=h',toks:=t'}:=by
 have Ko:∀b u,H b=some u->b≠it:=λb u e z=>by rw[z,hn]at e;cases e
 refine I.step (g':=s.gens) (d':=s.drawn) (ch:=[it]) (λb hb=>?_) (λb o _ _ hc e _=>k b o (λz=>hc (by simp[z])) e) (λb o _ _ hc e _=>⟨o.slots,k b o (λz=>hc (by simp[z])) e⟩) (λ_ _ _ _ n=>n)
  (λb o hc e=>⟨o,k b o (λz=>hc (by simp[z])) e⟩) (λ_ _ e=>e) (λ_ _ _ e=>e) (λb ps e=>⟨#[],by rw[e];simp⟩) (λm hm=>?_) (λb u e=>?_) I.bare
 ·have e:b=it:=by simpa using hb
  subst e
  exact⟨h1,hL,h2,h3⟩
 ·obtain⟨o,es,ep,ho,r⟩:=hm
  exact⟨o,es,ep,k _ o (alF hL) ho,r⟩
 ·refine(I.hok b u e).stay (λc v hc q=>k c v ?_ q) (λ_ q=>q) λ_ _ q=>q
  rcases hc with z|z
  ·rw[z];exact Ko b u e
  ·exact Ko c _ z
theorem Inv.tok(I:Inv X pins σ H s) (t:Nat):Inv X pins σ H {s with toks:=t}:=I.un (h':=s.heap) (t':=t) Un.refl I.hok
theorem Inv.kept{t':Nat}(I:Inv X pins σ H s) (k:∀b u,s.heap.get? b=some u->h'.get? b=some u):Inv X pins σ H {s with heap:=h',toks:=t'}:=I.un (Un.kept k) (I.hok.kept k)
theorem Inv.laid{a:Addr}{o:HO}{t':Nat}(I:Inv X pins σ H s) (k:∀b u,s.heap.get? b=some u->h'.get? b=some u) (hp:s.heap.objs.size<=a) (new:fj X.prog X.w (upd H a o) h' a o) :
  Inv X pins σ (upd H a o) {s with heap:=h',toks:=t'}:=I.un (Un.laid k hp (I.hok.fresh hp)) (I.hok.laid k hp new)
theorem Inv.write{x e:Addr}{o:HO}{t':Nat}(I:Inv X pins σ H s) (mu:Am (H x)) (he:e=x\/H e=some (.own x)) (k:∀b u,b≠e->s.heap.get? b=some u->h'.get? b=some u) (sC:∃u,h'.get? e=some u)
  (new:fj X.prog X.w (upd H x o) h' x o):Inv X pins σ (upd H x o) {s with heap:=h',toks:=t'}:=I.un (Un.write mu he k sC) (I.hok.write mu he k sC new)
theorem Inv.xP{Bt:List (Addr×Obj)}(I:Inv X pins σ H s) (h:∀p∈Bt,s.heap.get? p.1=some p.2/\H p.1=none/\p.1≠X.env.locals/\p.1∉X.fs/\∀v,p.2.data≠.cell v):Inv X Bt σ H s :=
 ⟨I.ok,I.os,I.bare,I.base,I.loc,I.cell,I.free,I.iH,λp hp=>(alz.mp hp).elim (λz=>I.pin p (aoP _ z)) (h p),I.hok,I.len⟩
theorem Kd{N:List Str}(hN:N.Nodup) {i j:Nat}{x:Str}(a:N[i]? = some x) (b:N[j]? = some x):i=j:=by
 obtain⟨h1,e1⟩:=ala.mp a
 obtain⟨h2,e2⟩:=ala.mp b
 exact(ano hN).mp (e1.trans e2.symm)
theorem IE{M:Model}{A:Around}{E:Value->Shared->Prop}{i:Nat}{x:Str}{v:V}{u:Value}{Q:Unit->Shared->Prop}(I:Inv X pins σ H s) (hN:X.N.Nodup) (hi:X.N[i]? = some x) (hx:Loc X.env.scope x) (r:RelV v u)
  (h:∀s',Inv X pins (σ.set i (some v)) H s'->(∃a,Heap.SameBut a s.heap s'.heap/\(a=X.env.locals\/X.env.cells.lookup x=some a))->Q () s') (hf:X.fn x=true\/X.env.scope.names.lookup x=some .local:=by first|exact .inl rfl|exact .inr rfl|assumption):wpAny M A (storeName X.env x u) Q E s:=by
 obtain⟨m,hn,hl⟩:=id I.loc
 have hcls:(X.env.scope.kind == .class||(X.env.scope.kind == .module&&X.env.locals != X.env.globals))=false:=by rw[I.ok.kind];rfl
 have LI:i<σ.length:=by rw[I.len];exact(ala.mp hi).1
 have nQ:=I.nQ
 have tracked:∀{a:Addr}{h':Heap},(∃o,s.heap.get? a=some o/\H a=none)->Heap.SameBut a s.heap h'->c7 X.prog X.w H h':=fun{a h'} ha hs b ob e=>by
  obtain⟨_,_,hfree⟩:=ha
  refine(I.hok b ob e).stay (λc w' hc q=>(hs.2 c ?_).trans q) (λ_ q=>q) λ_ _ q=>q
  rintro rfl
  rcases hc with rfl|hc
  ·rw[hfree]at e;cases e
  ·rw[hfree]at hc;cases hc
 rcases hx with hk|hk
 ·refine wpAny_storeName_local hk hn (λh' hn' hs=>?_) hcls
  obtain⟨oL,_,_,vq,_⟩:=id hn
  refine h _ ⟨I.ok,I.os,I.bare,⟨λb o e n hb hx=>?_,λb o e n hb hx=>?_,I.base.free,λb o e hx=>?_,I.base.tups,I.base.iG,I.base.iR⟩,⟨_,hn',λj y v' e1 e2 e3=>?_⟩,λy c e=>?_,I.free,I.iH,λp hp=>?_,tracked ⟨oL,vq,I.free⟩ hs,by simpa using I.len⟩ ⟨_,hs,.inl rfl⟩
  ·exact(hs.2 b (ak1 (ak7 (ak0 e) I.ok.above))).trans (I.base.keep b o e n hb hx)
  ·obtain⟨sl,e1⟩:=I.base.slot b o e n hb hx
   exact⟨sl,(hs.2 b (ak1 (ak7 (ak0 e) I.ok.above))).trans e1⟩
  ·obtain⟨o',e1⟩:=I.base.there b o e hx
   exact⟨o',(hs.2 b (ak1 (ak7 (ak0 e) I.ok.above))).trans e1⟩
  ·by_cases hj:j=i
   ·subst hj
    rw[hi]at e1;cases e1
    rw[alT LI]at e2
    cases e2
    exact⟨u,r,.inl ⟨hk,by simp⟩⟩
   ·rw[alG (alF hj)]at e2
    obtain⟨u',r',q⟩:=hl j y v' e1 e2 e3
    refine⟨u',r',?_⟩
    rcases q with⟨k,e⟩|⟨k,c,e,z⟩
    ·refine .inl ⟨k,?_⟩
     have:y≠x:=λe=>hj (Kd hN e1 (e▸hi))
     simp[this,e]
    ·exact .inr ⟨k,c,e,z.sameBut hs (nQ y c e)⟩
  ·obtain⟨w',z⟩:=I.cell y c e
   exact⟨w',z.sameBut hs (nQ y c e)⟩
  ·obtain⟨e,n,ne,nf,d⟩:=I.pin p hp
   exact⟨(hs.2 p.1 ne).trans e,n,ne,nf,d⟩
 ·have hfn:X.fn x=true:=by
   rcases hf with z|z
   ·exact z
   ·rw[z]at hk;cases hk
  obtain⟨c,hc⟩:=I.ok.has x (.inl hk)
  obtain⟨w',z⟩:=I.cell x c hc
  refine wpAny_storeName_cell I.ok.kind hk hc z (λh' hc' hs=>?_)
  obtain⟨oc,hoc,adF⟩:=id z
  refine h {s with heap:=h'} ⟨I.ok,I.os,I.bare,⟨λb o e n hb hx=>?_,λb o e n hb hx=>?_,I.base.free,λb o e hx=>?_,I.base.tups,I.base.iG,I.base.iR⟩,⟨m,hn.sameBut hs (alF (nQ x c hc)),λj y v' e1 e2 e3=>?_⟩,λy c' e=>?_,I.free,I.iH,λp hp=>?_,tracked ⟨oc,hoc,I.iH x c hc⟩ hs,by simpa using I.len⟩ ⟨c,hs,.inr hc⟩
  ·exact(hs.2 b (ak1 (ak7 (ak0 e) (I.ok.nS x c hfn hc)))).trans (I.base.keep b o e n hb hx)
  ·obtain⟨sl,e1⟩:=I.base.slot b o e n hb hx
   exact⟨sl,(hs.2 b (ak1 (ak7 (ak0 e) (I.ok.nS x c hfn hc)))).trans e1⟩
  ·obtain⟨o',e1⟩:=I.base.there b o e hx
   exact⟨o',(hs.2 b (ak1 (ak7 (ak0 e) (I.ok.nS x c hfn hc)))).trans e1⟩
  ·by_cases hj:j=i
   ·subst hj
    rw[hi]at e1;cases e1
    rw[alT LI]at e2
    cases e2
    exact⟨u,r,.inr ⟨.inl hk,c,hc,hc'⟩⟩
   ·rw[alG (alF hj)]at e2
    obtain⟨u',r',q⟩:=hl j y v' e1 e2 e3
    refine⟨u',r',?_⟩
    rcases q with q|⟨k,c',e,z'⟩
    ·exact .inl q
    ·refine .inr ⟨k,c',e,z'.sameBut hs ?_⟩
     rintro rfl
     exact hj (Kd hN e1 (I.ok.inj _ _ _ e hc▸hi))
  ·by_cases hcc:c'=c
   ·subst hcc;exact⟨_,hc'⟩
   ·obtain⟨w2,z2⟩:=I.cell y c' e
    exact⟨w2,z2.sameBut hs hcc⟩
  ·obtain⟨e,n,ne,nf,d⟩:=I.pin p hp
   refine⟨(hs.2 p.1 ?_).trans e,n,ne,nf,d⟩
   intro q
   rw[q,hoc]at e
   have q':oc=p.2:=alh e
   exact d w' (by rw[<-q'];exact adF)
theorem IF{M:Model}{A:Around}{E:Value->Shared->Prop}{i:Nat}{x:Str}{v:V}{u:Value}{Q:Unit->Shared->Prop}(I:Inv X pins σ H s) (hN:X.N.Nodup) (hi:X.N[i]? = some x) (hx:Loc X.env.scope x) (r:RelV v u)
  (h:∀s',Inv X pins (σ.set i (some v)) H s'->Q () s') (hf:X.fn x=true\/X.env.scope.names.lookup x=some .local:=by first|exact .inl rfl|exact .inr rfl|assumption):wpAny M A (storeName X.env x u) Q E s :=
 IE I hN hi hx r (λs' I' _=>h s' I') hf
theorem Inv.F4{s':Shared}{ch:List Addr}(I:Inv X pins σ H s) (ho:s'.os=s.os) (u:Un (frs X.stack) ch H H' s.heap s'.heap) (hok:c7 X.prog X.w H' s'.heap) (hg:AllBare s'.gens)
  (hch:∀b∈ch,(b∈X.ex\/X.s₀.heap.objs.size<=b)/\b≠X.env.locals/\(∀x c,X.env.cells.lookup x=some c->c≠b)/\∀p∈X.pn++pins,p.1≠b):Inv X pins σ H' s':=by
 obtain⟨h',g',d',t',o'⟩:=s'
 have e:o'=s.os:=ho
 subst e
 exact I.call (g':=g') (t':=t') (d':=d') u hok hg hch
end
abbrev XK:=Value->Option Addr->Hp->Prop
abbrev St:=List (Option V)
abbrev VK:=V->Hp->Prop
abbrev TE:=St->Hp->VK->Prop
abbrev TT:=St->Hp->(Bool->Hp->Prop)->Prop
abbrev TA:=St->Hp->(List V->Hp->Prop)->Prop
structure Ends where
 nx:St->Hp->Prop
 rt:VK
 bk:St->Hp->Prop:=λ_ _=>False
 ct:St->Hp->Prop:=λ_ _=>False
abbrev TS:=Ends->St->Hp->Prop
def EP(X:Cx) (pins:List (Addr×Obj)) (σ:St) (Q:VK) (u:Value) (s':Shared):Prop:=∃v H',Inv X pins σ H' s'/\RelV v u/\Q v H'
def TP(X:Cx) (pins:List (Addr×Obj)) (σ:St) (Q:Bool->Hp->Prop) (b:Bool) (s':Shared):Prop:=∃H',Inv X pins σ H' s'/\Q b H'
def AP(X:Cx) (pins:List (Addr×Obj)) (σ:St) (Q:List V->Hp->Prop) (us:List Value) (s':Shared):Prop:=∃vs H',Inv X pins σ H' s'/\Vals vs us/\Q vs H'
def SP(X:Cx) (pins:List (Addr×Obj)) (D:Ends) (f:Flow) (s':Shared):Prop :=
 match f with
 |.next=>∃σ' H',Inv X pins σ' H' s'/\D.nx σ' H'
 |.brk=>∃σ' H',Inv X pins σ' H' s'/\D.bk σ' H'
 |.cont=>∃σ' H',Inv X pins σ' H' s'/\D.ct σ' H'
 |.ret u=>∃v σ' H',Inv X pins σ' H' s'/\RelV v u/\D.rt v H'
def PE(X:Cx) (e:Expr) (t:TE):Prop :=
 ∀(pins:List (Addr×Obj)) (s:Shared) (σ:St) (H:Hp) (Q:VK),Inv X pins σ H s->t σ H Q->wpAny (model X.prog X.w) X.A (eval e X.env) (EP X pins σ Q) X.xe s
def PT(X:Cx) (e:Expr) (t:TT):Prop :=
 ∀(pins:List (Addr×Obj)) (s:Shared) (σ:St) (H:Hp) (Q:Bool->Hp->Prop),Inv X pins σ H s->t σ H Q->wpAny (model X.prog X.w) X.A (isTrue e X.env (eval e X.env)) (TP X pins σ Q) X.xe s
def PW(X:Cx) (e:Expr) (t:TT):Prop :=
 ∀(whole:Sem Value) (pins:List (Addr×Obj)) (s:Shared) (σ:St) (H:Hp) (Q:Bool->Hp->Prop),Inv X pins σ H s->t σ H Q->wpAny (model X.prog X.w) X.A (isTrue e X.env whole) (TP X pins σ Q) X.xe s
theorem PW.pt{X:Cx}{e:Expr}{t:TT}(h:PW X e t):PT X e t:=h _
def PA(X:Cx) (es:List Expr) (t:TA):Prop :=
 ∀(pos:Pos) (pins:List (Addr×Obj)) (s:Shared) (σ:St) (H:Hp) (Q:List V->Hp->Prop),Inv X pins σ H s->t σ H Q->wpAny (model X.prog X.w) X.A (spliced (backTo pos (starEach es X.env))) (AP X pins σ Q) X.xe s
def PS(X:Cx) (st:Stmt) (t:TS):Prop :=
 ∀(pins:List (Addr×Obj)) (s:Shared) (σ:St) (H:Hp) (D:Ends),Inv X pins σ H s->t D σ H->wpAny (model X.prog X.w) X.A (exec st X.env) (SP X pins D) X.xe s
def fY(X:Cx) (st:List Stmt) (t:TS):Prop :=
 ∀(pins:List (Addr×Obj)) (s:Shared) (σ:St) (H:Hp) (D:Ends),Inv X pins σ H s->t D σ H->wpAny (model X.prog X.w) X.A (execs st X.env) (SP X pins D) X.xe s
theorem bh{α:Type}{t:Sem α}{Q Q':α->Shared->Prop}{M:Model}{A:Around}{E:Value->Shared->Prop}{s:Shared}(h:wpAny M A t Q E s) (hQ:∀a s,Q a s->Q' a s):wpAny M A t Q' E s:=alE h hQ λ_ _ x=>x
section
variable {X:Cx}
def Q4(i:Nat):TE:=λσ H Q=>∃v,σ[i]? = some (some v)/\Q v H
def tC(v:V):TE:=λ_ H Q=>Q v H
theorem JA{i:Nat}{x:Str}{pos:Pos}(hN:X.N[i]? = some x) (hv:Ah X.env.scope x) (hd:(x==("__debug__":Str))=false:=by decide) (hcd:(x==("__classdict__":Str))=false:=by decide):PE X (.Name x pos) (Q4 i):=by
 intro pins s σ H Q I h
 obtain⟨v,e,h⟩:=h
 obtain⟨m,hn,hl⟩:=I.loc
 obtain⟨u,r,l⟩:=hl i x v hN e hv
 have fin:EP X pins σ Q u s:=⟨v,H,I,r,h⟩
 rcases l with⟨hk,hm⟩|⟨hk,c,hc,hcell⟩
 ·exact wpAny_Name (wpAny_loadName_local I.ok.kind hk hn hm fin) hd
 ·rcases hk with hk|hk
  ·exact wpAny_Name (wpAny_loadName_cell I.ok.kind hk hc hcell fin) hd
  ·exact wpAny_Name (wpAny_loadName_free I.ok.kind hk hc hcell fin hcd) hd
theorem WR{i j pos}:PE X (.Constant (.int i) j pos) (tC (.int i)):=λ_ _ _ H _ I h=>wpAny_Constant_int ⟨.int i,H,I.tok _,⟨_,rfl⟩,h⟩
theorem W7{b j pos}:PE X (.Constant (.bool b) j pos) (tC (.bl b)):=λ_ _ _ H _ I h=>Constant_bool ⟨.bl b,H,I,rfl,h⟩
theorem WN{j pos}:PE X (.Constant .none j pos) (tC .aO):=λ_ _ _ H _ I h=>Constant_none ⟨.aO,H,I,rfl,h⟩
def Gl(X:Cx) (x:Str):Prop:=X.env.kindOf x=some .globalImplicit
theorem Cf{E:Value->Shared->Prop}{pins:List (Addr×Obj)}{s:Shared}{σ:St}{H:Hp}{x:Str}{u:Value}{pos:Pos}{Q:Value->Shared->Prop}(I:Inv X pins σ H s) (hg:Gl X x) (hm:X.mg x=some u) (h:Q u s)
  (hd:(x==("__debug__":Str))=false:=by decide):wpAny (model X.prog X.w) X.A (eval (.Name x pos) X.env) Q E s :=
 aoQ I.ok.kind hg (Calls.loadGlobal_global (by rw[I.ok.glob];exact I.mod.glob.keeps I.bk) hm h) hd
theorem kT{E:Value->Shared->Prop}{pins:List (Addr×Obj)}{s:Shared}{σ:St}{H:Hp}{x:Str}{u:Value}{pos:Pos}{Q:Value->Shared->Prop}(I:Inv X pins σ H s) (hg:Gl X x) (hm:X.mg x=none) (hv:bootBuiltins x=some u) (h:Q u s)
  (hn:x≠"__name__":=by decide) (hd:(x==("__debug__":Str))=false:=by decide):wpAny (model X.prog X.w) X.A (eval (.Name x pos) X.env) Q E s:=by
 obtain⟨mb,h1,h2⟩:=I.mod.blt
 exact aoQ I.ok.kind hg (Calls.loadGlobal_builtin (by rw[I.ok.glob];exact I.mod.glob.keeps I.bk) hm (by rw[I.ok.blt];exact h1.keeps I.bk) ((h2 x hn).trans hv) h) hd
theorem WT{x:Str}{v:V}{u:Value}{pos:Pos}(hg:Gl X x) (hm:X.mg x=some u) (r:RelV v u) (hd:(x==("__debug__":Str))=false:=by decide):PE X (.Name x pos) (tC v) :=
 λ_ _ _ H _ I h=>Cf I hg hm ⟨v,H,I,r,h⟩ hd
theorem W0{x:Str}{v:V}{u:Value}{pos:Pos}(hg:Gl X x) (hm:X.mg x=none) (hv:bootBuiltins x=some u) (r:RelV v u) (hn:x≠"__name__":=by decide) (hd:(x==("__debug__":Str))=false:=by decide):PE X (.Name x pos) (tC v) :=
 λ_ _ _ H _ I h=>kT I hg hm hv ⟨v,H,I,r,h⟩ hn hd
variable {a b:Expr}{ta tb:TE}{pos:Pos}
def tB(t:TE):TT:=λσ H Q=>t σ H λx H1=>∃c,x=.bl c/\Q c H1
theorem U3{e:Expr}{t:TE}(h:PE X e t) (he:∀whole,isTrue e X.env whole=(do let v <-whole;standAt e.pos;holding [v] (truthy v)):=by intro _;rfl):PT X e (tB t):=by
 intro pins s σ H Q I hw
 refine isTrue_plain (bh (h pins s σ H _ I hw) λv s1 ⟨x,H1,I1,r1,q1⟩=>?_) (he _)
 obtain⟨d,rfl,q⟩:=q1
 cases r1
 exact amh ⟨H1,I1,q⟩
variable {tA xg:TT}{rest:List Expr}
def Rz(t u:TT):TT:=λσ H Q=>t σ H λc H1=>if c=true then u σ H1 Q else Q false H1
def Rb(t u:TT):TT:=λσ H Q=>t σ H λc H1=>if c=true then Q true H1 else u σ H1 Q
def Rf(t:TT):TT:=λσ H Q=>t σ H λc H1=>Q (!c) H1
theorem UY(ha:PT X a tA):PW X (.BoolOp .And [a] pos) tA:=by
 intro wh pins s σ H Q I h
 refine isTrue_and (bh (ha pins s σ H Q I h) λc s1 e=>?_)
 cases c with
 |true=>exact isTrue_and_nil e
 |false=>exact e
theorem UW(ha:PT X a tA):PW X (.BoolOp .Or [a] pos) tA:=by
 intro wh pins s σ H Q I h
 refine isTrue_or (bh (ha pins s σ H Q I h) λc s1 e=>?_)
 cases c with
 |false=>exact isTrue_or_nil e
 |true=>exact e
theorem UZ(ha:PT X a tA) (hb:PW X (.BoolOp .And (b::rest) pos) xg):PW X (.BoolOp .And (a::b::rest) pos) (Rz tA xg):=by
 intro wh pins s σ H Q I h
 refine isTrue_and (bh (ha pins s σ H _ I h) λc s1 ⟨H1,I1,q1⟩=>?_)
 cases c with
 |true=>exact hb wh pins s1 σ H1 Q I1 q1
 |false=>exact⟨H1,I1,q1⟩
theorem UX(ha:PT X a tA) (hb:PW X (.BoolOp .Or (b::rest) pos) xg):PW X (.BoolOp .Or (a::b::rest) pos) (Rb tA xg):=by
 intro wh pins s σ H Q I h
 refine isTrue_or (bh (ha pins s σ H _ I h) λc s1 ⟨H1,I1,q1⟩=>?_)
 cases c with
 |true=>exact⟨H1,I1,q1⟩
 |false=>exact hb wh pins s1 σ H1 Q I1 q1
theorem U4(ha:PT X a tA):PT X (.UnaryOp .Not a pos) (Rf tA):=by
 intro pins s σ H Q I h
 exact isTrue_not (ha pins s σ H (λc H1=>Q (!c) H1) I h)
def Ry(ta tb:TE):TE:=λσ H Q=>ta σ H λx H1=>∃c,x=.bl c/\if c=true then tb σ H1 Q else Q (.bl false) H1
def Rc(ta:TE):TE:=λσ H Q=>ta σ H λx H1=>∃c,x=.bl c/\Q (.bl (!c)) H1
theorem WL{op}{t:TE}(h:PE X a t):PE X (.BoolOp op [a] pos) t:=λpins s σ H Q I hw=>BoolOp_one (h pins s σ H Q I hw)
theorem W8(ha:PE X a ta) (hb:PE X (.BoolOp .And (b::rest) pos) tb):PE X (.BoolOp .And (a::b::rest) pos) (Ry ta tb):=by
 intro pins s σ H Q I h
 refine BoolOp_and (bh (ha pins s σ H _ I h) λv s1 ⟨x,H1,I1,r1,q1⟩=>?_)
 obtain⟨c,rfl,q1⟩:=q1
 cases r1
 refine amh ?_
 cases c with
 |true=>exact hb pins s1 σ H1 Q I1 q1
 |false=>exact⟨.bl false,H1,I1,rfl,q1⟩
theorem WM(ha:PE X a ta):PE X (.UnaryOp .Not a pos) (Rc ta):=by
 intro pins s σ H Q I h
 refine UnaryOp_ (bh (ha pins s σ H _ I h) λv s1 ⟨x,H1,I1,r1,q1⟩=>?_)
 obtain⟨c,rfl,q1⟩:=q1
 cases r1
 exact not_of (amh ⟨.bl (!c),H1,I1,rfl,q1⟩)
def Ro(t:TT) (ta tb:TE):TE:=λσ H Q=>t σ H λc H1=>if c=true then ta σ H1 Q else tb σ H1 Q
theorem WS{c:Expr}(hc:PT X c tA) (ha:PE X a ta) (hb:PE X b tb):PE X (.IfExp c a b pos) (Ro tA ta tb):=by
 intro pins s σ H Q I h
 refine wpAny_IfExp (bh (hc pins s σ H _ I h) λd s1 ⟨H1,I1,q1⟩=>?_)
 cases d with
 |true=>exact ha pins s1 σ H1 Q I1 q1
 |false=>exact hb pins s1 σ H1 Q I1 q1
end
def bH(K:PySem.W.Frag) (H:Hp) (a:Addr) (xs:List V):Prop :=
 Rd H a (.lst xs) \/
  ∃(o:Obj) (its:Array Value) (n:Nat),K.lookup a=some o/\o.cls=.type "list"/\o.dict=none/\o.data=.seq its n/\its.size<=sizeLine/\Vals xs its.toList
def cI(K:PySem.W.Frag) (H:Hp) (a:Addr) (xs:List V):Prop :=
 Rd H a (.tup xs) \/
  ∃(o:Obj) (its:Array Value) (n:Nat),K.lookup a=some o/\o.cls=.type "tuple"/\o.data=.seq its n/\its.size<=sizeLine/\Vals xs its.toList
def aiZ:Value->Option V
 |.none=>some .aO
 |.bool b=>some (.bl b)
 |.int i _=>some (.int i)
 |.str x _=>some (.str x)
 |.bytes b _=>some (.jB b)
 |.float b _=>some (.sM b)
 |.ref a=>some (.ref a)
 |.type n=>some (.ty n)
 |_=>none
theorem RelV.abs{x:V}{u:Value}(r:RelV x u):aiZ u=some x:=by
 cases x with
 |aO=>cases r;rfl
 |bl _=>cases r;rfl
 |int _=>obtain⟨t,rfl⟩:=r;rfl
 |str _=>obtain⟨t,rfl⟩:=r;rfl
 |jB _=>obtain⟨t,rfl⟩:=r;rfl
 |sM _=>obtain⟨t,rfl⟩:=r;rfl
 |ref _=>cases r;rfl
 |ty _=>cases r;rfl
theorem RelV.inj{x y:V}{u:Value}(r:RelV x u) (q:RelV y u):x=y:=alh (r.abs.symm.trans q.abs)
theorem Vals.inj:∀{xs ys:List V}{us:List Value},Vals xs us->Vals ys us->xs=ys
 |_,_,_,.nil,.nil=>rfl
 |_,_,_,.cons r t,.cons r' t'=>by rw[r.inj r',Vals.inj t t']
section
variable {X:Cx}{pins:List (Addr×Obj)}{σ:St}{H:Hp}{s:Shared}{a:Addr}{xs ys:List V}
theorem bH.of{K:PySem.W.Frag}(h:H a=some (.lst xs)):bH K H a xs:=.inl (.inl h)
theorem cI.of{K:PySem.W.Frag}(h:H a=some (.tup xs)):cI K H a xs:=.inl (.inl h)
theorem Inv.list(I:Inv X pins σ H s) (h:bH X.K H a xs):∃its:List Value,Vals xs its/\PlainL s.heap a its.toArray/\xs.length<=sizeLine:=by
 rcases h with h|⟨o,its,n,hk,hc,hd,hs,hz,r⟩
 ·obtain⟨z,its,n,r,e⟩:=h.ok I.hok
  exact⟨its,r,⟨_,n,e,rfl,rfl,rfl⟩,z⟩
 ·refine⟨its.toList,r,⟨o,n,I.fB a o hk,hc,hd,by simpa using hs⟩,?_⟩
  have e:=r.length
  simp only[alm]at e
  omega
theorem Inv.tuple(I:Inv X pins σ H s) (h:cI X.K H a xs):∃its:List Value,Vals xs its/\IsTup s.heap a its.toArray/\xs.length<=sizeLine:=by
 rcases h with h|⟨o,its,n,hk,hc,hs,hz,r⟩
 ·obtain⟨z,its,r,p⟩:=h.ok I.hok
  exact⟨its,r,p.tup,z⟩
 ·refine⟨its.toList,r,⟨o,I.fB a o hk,hc,n,by simpa using hs⟩,?_⟩
  have e:=r.length
  simp only[alm]at e
  omega
theorem Inv.KQ(I:Inv X pins σ H s) (h:bH X.K H a xs) (h':bH X.K H a ys):xs=ys:=by
 obtain⟨its,r,⟨o,n,e,_,_,d⟩,_⟩:=I.list h
 obtain⟨its',r',⟨o',n',e',_,_,d'⟩,_⟩:=I.list h'
 rw[e]at e';cases e'
 rw[d]at d'
 injection d' with d1 _
 have:its=its':=by simpa using congrArg Array.toList d1
 subst this
 exact r.inj r'
theorem Inv.HZ(I:Inv X pins σ H s) (h:cI X.K H a xs) (h':cI X.K H a ys):xs=ys:=by
 obtain⟨its,r,⟨o,e,_,n,d⟩,_⟩:=I.tuple h
 obtain⟨its',r',⟨o',e',_,n',d'⟩,_⟩:=I.tuple h'
 rw[e]at e';cases e'
 rw[d]at d'
 injection d' with d1 _
 have:its=its':=by simpa using congrArg Array.toList d1
 subst this
 exact r.inj r'
end
abbrev Cx.jG(X:Cx) (E:Value->Shared->Prop):Cx:={X with xe:=E}
abbrev Cx.kK(X:Cx):Cx:=X.jG λ_ _=>False
theorem Cx.Ok.jG{X:Cx}(ok:X.Ok) (E:Value->Shared->Prop):(X.jG E).Ok :=
 ⟨ok.mod,ok.kind,ok.glob,ok.blt,ok.above,ok.inj,ok.has,ok.nS,ok.hd,ok.frames,ok.stk,ok.vL,ok.bs,ok.g8,ok.kL,ok.sN,ok.gK,ok.j3⟩
theorem Cx.Ok.mQ{X:Cx}{E:Value->Shared->Prop}(ok:(X.jG E).Ok):X.Ok :=
 ⟨ok.mod,ok.kind,ok.glob,ok.blt,ok.above,ok.inj,ok.has,ok.nS,ok.hd,ok.frames,ok.stk,ok.vL,ok.bs,ok.g8,ok.kL,ok.sN,ok.gK,ok.j3⟩
section
variable {X:Cx}{pins:List (Addr×Obj)}{σ:St}{H:Hp}{s:Shared}{E:Value->Shared->Prop}
theorem Inv.jG(I:Inv X pins σ H s) (E:Value->Shared->Prop):Inv (X.jG E) pins σ H s:=⟨I.ok.jG E,I.os,I.bare,I.base,I.loc,I.cell,I.free,I.iH,I.pin,I.hok,I.len⟩
theorem Inv.mQ(I:Inv (X.jG E) pins σ H s):Inv X pins σ H s:=⟨I.ok.mQ,I.os,I.bare,I.base,I.loc,I.cell,I.free,I.iH,I.pin,I.hok,I.len⟩
theorem SP.mQ{D:Ends}{f:Flow}{s':Shared}(h:SP (X.jG E) pins D f s'):SP X pins D f s':=by
 cases f with
 |next=>obtain⟨σ',H',I,q⟩:=h;exact⟨σ',H',I.mQ,q⟩
 |brk=>obtain⟨σ',H',I,q⟩:=h;exact⟨σ',H',I.mQ,q⟩
 |cont=>obtain⟨σ',H',I,q⟩:=h;exact⟨σ',H',I.mQ,q⟩
 |ret u=>obtain⟨v,σ',H',I,r,q⟩:=h;exact⟨v,σ',H',I.mQ,r,q⟩
theorem fY.kK{st:List Stmt}{t:TS}(h:fY X.kK st t):fY X st t:=λpins s σ H D I hw =>
 alE (h pins s σ H D (I.jG _) hw) (λ_ _ q=>q.mQ) λ_ _ z=>False.elim z
end
section
variable {X:Cx}{st:Stmt}{rest:List Stmt}{t u:TS}{e:Expr}{te:TE}{pos:Pos}
def Ri:TS:=λD σ H=>D.nx σ H
def Q8(t u:TS):TS:=λD σ H=>t {D with nx:=u D} σ H
theorem U8:fY X [] Ri:=λ_ _ σ H _ I h=>anp ⟨σ,H,I,h⟩
theorem U9(h1:PS X st t) (h2:fY X rest u):fY X (st::rest) (Q8 t u):=by
 intro pins s σ H D I h
 refine wpAny_execs_cons (bh (h1 pins s σ H {D with nx:=u D} I h) λf s1 q=>?_)
 cases f with
 |next =>
  obtain⟨σ',H',I',q⟩:=q
  exact h2 pins s1 σ' H' D I' q
 |ret v=>exact q
 |brk=>exact q
 |cont=>exact q
theorem U7(h1:PS X st t):fY X [st] t:=by
 intro pins s σ H D I h
 refine wpAny_execs_cons (bh (h1 pins s σ H D I h) λf s1 q=>?_)
 cases f with
 |next=>exact anp q
 |ret v=>exact q
 |brk=>exact q
 |cont=>exact q
theorem Inv.quiet{pins:List (Addr×Obj)}{σ:St}{H:Hp}{s:Shared}(I:Inv X pins σ H s):interactive X.env=false:=by simp[interactive,I.ok.kind]
def Ru(te:TE):TS:=λD σ H=>te σ H λ_ H1=>D.nx σ H1
theorem Vg(he:PE X e te) (hs:swapsWith e none pos.line X.env=pure false:=by rfl):PS X (.Expr e pos) (Ru te):=by
 intro pins s σ H D I h
 exact wpAny_Expr_any (bh (he pins s σ H _ I h) λv s1 ⟨x,H1,I1,r1,q1⟩=>⟨σ,H1,I1,q1⟩) I.quiet hs
def Q9(te:TE):TS:=λD σ H=>te σ H D.rt
theorem Vd(he:PE X e te):PS X (.Return (some e) pos) (Q9 te):=by
 intro pins s σ H D I h
 exact wpAny_Return_some (bh (he pins s σ H _ I h) λv s1 ⟨x,H1,I1,r1,q1⟩=>⟨x,σ,H1,I1,r1,q1⟩)
def Rn(c:TT) (t u:TS):TS:=λD σ H=>c σ H λb H1=>if b=true then t D σ H1 else u D σ H1
theorem Ve{c:Expr}{a b:List Stmt}{tc:TT}(hc:PT X c tc) (ha:fY X a t) (hb:fY X b u):PS X (.If c a b pos) (Rn tc t u):=by
 intro pins s σ H D I h
 refine wpAny_If (bh (hc pins s σ H _ I h) λd s1 ⟨H1,I1,q1⟩=>?_)
 cases d with
 |true=>exact ha pins s1 σ H1 D I1 q1
 |false=>exact hb pins s1 σ H1 D I1 q1
end
abbrev TG:=V->St->Hp->(St->Hp->Prop)->Prop
abbrev mG:=List V->St->Hp->(St->Hp->Prop)->Prop
def PG(X:Cx) (target:Expr) (t:TG):Prop :=
 ∀(pins:List (Addr×Obj)) (s:Shared) (σ:St) (H:Hp) (v:V) (u:Value) (Q:St->Hp->Prop),Inv X pins σ H s->RelV v u->t v σ H Q ->
  wpAny (model X.prog X.w) X.A (assign target X.env u) (λ_ s'=>∃σ' H',Inv X pins σ' H' s'/\Q σ' H') X.xe s
def nZ(X:Cx) (ts:List Expr) (t:mG):Prop :=
 ∀(pins:List (Addr×Obj)) (s:Shared) (σ:St) (H:Hp) (vs:List V) (us:List Value) (Q:St->Hp->Prop),Inv X pins σ H s->Vals vs us->t vs σ H Q ->
  wpAny (model X.prog X.w) X.A (assignInOrder ((assignEach ts X.env).map (·.2)) us) (λ_ s'=>∃σ' H',Inv X pins σ' H' s'/\Q σ' H') X.xe s
abbrev G4:=V->V->V->Hp->(Hp->Prop)->Prop
def Om(X:Cx) (t:G4):Prop :=
 ∀(pins:List (Addr×Obj)) (s:Shared) (σ:St) (H:Hp) (o i v:V) (ov iv u:Value) (Q:Hp->Prop),Inv X pins σ H s->RelV o ov->RelV i iv->RelV v u->t o i v H Q ->
  wpAny (model X.prog X.w) X.A (setItem ov iv u) (λ_ s'=>∃H',Inv X pins σ H' s'/\Q H') X.xe s
section
variable {X:Cx}{pos:Pos}
def L7(i:Nat):TG:=λv σ H Q=>Q (σ.set i (some v)) H
theorem WD{i:Nat}{x:Str}(hN:X.N.Nodup) (hi:X.N[i]? = some x) (hx:Loc X.env.scope x) (hf:X.fn x=true\/X.env.scope.names.lookup x=some .local:=by first|exact .inl rfl|exact .inr rfl|assumption):PG X (.Name x pos) (L7 i):=by
 intro pins s σ H v u Q I r h
 exact wpAny_assign_Name (IF I hN hi hx r (λs' I'=>⟨_,H,I',h⟩) hf)
def aer:mG:=λvs σ H Q=>vs=[]/\Q σ H
def aes(t:TG) (u:mG):mG:=λvs σ H Q=>∃v r,vs=v::r/\t v σ H λσ' H'=>u r σ' H' Q
theorem Wz:nZ X [] aer:=by
 intro pins s σ H vs us Q I r h
 obtain⟨e,h⟩:=h
 subst e
 cases r
 exact assignInOrder_nil ⟨σ,H,I,h⟩
theorem WA{e:Expr}{es:List Expr}{t:TG}{u:mG}(h1:PG X e t) (h2:nZ X es u)
  (hs:(assignEach (e::es) X.env).map (·.2)=assign e X.env::(assignEach es X.env).map (·.2):=by rfl):nZ X (e::es) (aes t u):=by
 intro pins s σ H vs us Q I r h
 obtain⟨v,vr,e1,h⟩:=h
 subst e1
 cases r with
 |cons r rr =>
  rw[hs]
  refine assignInOrder_cons (bh (h1 pins s σ H _ _ _ I r h) λ_ s1 ⟨σ1,H1,I1,q1⟩=>?_)
  exact h2 pins s1 σ1 H1 _ _ Q I1 rr q1
def aep(K:PySem.W.Frag) (n:Nat) (t:mG):TG:=λv σ H Q=>∃a xs,v=.ref a/\cI K H a xs/\xs.length=n/\t xs σ H Q
theorem WB{es:List Expr}{k:Nat}{t:mG}{n:Nat}(hc:X.calm=true) (h:nZ X es t)
  (hn:(assignEach es X.env).length=n:=by rfl) (hst:(assignEach es X.env).findIdx? (·.1)=none:=by rfl):PG X (.Tuple es k pos) (aep X.K n t):=by
 intro pins s σ H v u Q I r hw
 obtain⟨a,xs,e1,hq,hl,hw⟩:=hw
 subst e1
 cases r
 obtain⟨its,rv,ht,hz⟩:=I.tuple hq
 refine assign_Tuple_tuple (I.ok.hd hc) ht (by simp[hn,<-hl,rv.length]) hst λh' hx=>?_
 have I1:Inv X pins σ H {s with heap:=h'}:=I.kept (t':=s.toks) λb o e=>hx b o (ak1 (ak0 e)) e
 exact h pins _ σ H xs _ Q I1 (by simpa using rv) hw
def aeq(to ti:TE) (t:G4):TG:=λv σ H Q=>to σ H λo H1=>ti σ H1 λi H2=>t o i v H2 λH3=>Q σ H3
theorem WC{o i:Expr}{to ti:TE}{t:G4}(ho:PE X o to) (hi:PE X i ti) (hs:Om X t)
  (ha:∀v,assign (.Subscript o i pos) X.env v=(do
   let ov <-holding [v] (eval o X.env)
   let iv <-holding [v,ov] (eval i X.env)
   standAt pos
   holding [v,ov,iv] (setItem ov iv v)
   release [v,ov,iv] []):=by intro _;rfl):PG X (.Subscript o i pos) (aeq to ti t):=by
 intro pins s σ H v u Q I r h
 rw[ha]
 refine akT (alZ (bh (ho pins s σ H _ I h) λov s1 ⟨x,H1,I1,r1,q1⟩=>?_))
 refine akT (alZ (bh (hi pins s1 σ H1 _ I1 q1) λiv s2 ⟨y,H2,I2,r2,q2⟩=>?_))
 refine akT (an1 (akT (alZ (bh (hs pins s2 σ H2 x y v ov iv u _ I2 r1 r2 r q2) λ_ s3 ⟨H3,I3,q3⟩=>?_))))
 exact wpAny_release ⟨σ,H3,I3,q3⟩
def Iw(te:TE) (g:TG):TS:=λD σ H=>te σ H λx H1=>g x σ H1 D.nx
theorem Vh{tg e:Expr}{te:TE}{g:TG}(he:PE X e te) (hg:PG X tg g) (hs:swapsWithSole [tg] e pos.line X.env=pure false:=by rfl) (hw:swappedStores [tg] e X.env=pure none:=by rfl)
  (h1:(assignEach [tg] X.env).map (·.2)=[assign tg X.env]:=by rfl):PS X (.Assign [tg] e pos) (Iw te g):=by
 intro pins s σ H D I h
 refine wpAny_Assign_stores (bh (he pins s σ H _ I h) λv s1 ⟨x,H1,I1,r1,q1⟩=>?_) hs hw
 rw[h1]
 exact bh (hg pins s1 σ H1 x v _ I1 r1 q1) λ_ s2 q=>q
theorem Vc{i:Nat}{x:Str}{e:Expr}{te:TE}{pos':Pos}(hN:X.N.Nodup) (hi:X.N[i]? = some x) (hx:Loc X.env.scope x) (he:PE X e te) (hs:swapsWith e (some (.Name x pos')) pos.line X.env=pure false:=by rfl) (hf:X.fn x=true\/X.env.scope.names.lookup x=some .local:=by first|exact .inl rfl|exact .inr rfl|assumption) :
  PS X (.Assign [.Name x pos'] e pos) (Iw te (L7 i)):=by
 intro pins s σ H D I h
 refine wpAny_Assign_Name (bh (he pins s σ H _ I h) λv s1 ⟨y,H1,I1,r1,q1⟩=>?_) hs
 exact IF I1 hN hi hx r1 (λs2 I2=>⟨_,H1,I2,q1⟩) hf
end
section
variable {X:Cx}{pos:Pos}
def Q3(c:TT) (tb:TS):TS:=λD σ H=>∃W:Nat->St->Hp->Prop,(∃m,W m σ H)/\∀m σ H,W m σ H ->
 c σ H λb H1=>if b=true then ∃N:St->Hp->Prop,(∀σ' H',N σ' H'->∃m',m'<m/\W m' σ' H')/\tb {D with nx:=N,ct:=N,bk:=D.nx} σ H1 else D.nx σ H1
theorem Va{c:Expr}{body:List Stmt}{tc:TT}{tb:TS}(hp:PassesOwn (model X.prog X.w) X.A X.env X.xe) (hc:PT X c tc) (hb:fY X body tb):PS X (.While c body [] pos) (Q3 tc tb):=by
 intro pins s σ H D I h
 obtain⟨W,⟨m0,w0⟩,turn⟩:=h
 refine wpAny_While (codeAny_whileLoop (λn s'=>∃σ' H',Inv X pins σ' H' s'/\W n σ' H') ?_ m0 ⟨σ,H,I,w0⟩)
 rintro n s1 ⟨σ1,H1,I1,w1⟩
 refine amt hp (bh (hc pins s1 σ1 H1 _ I1 (turn n σ1 H1 w1)) λb s2 ⟨H2,I2,q2⟩=>?_)
 cases b with
 |true =>
  obtain⟨N,hN,q2⟩:=q2
  rw[if_pos rfl]
  refine amt hp (bh (hb pins s2 σ1 H2 _ I2 q2) λf s3 q3=>?_)
  cases f with
  |next =>
   obtain⟨σ3,H3,I3,n3⟩:=q3
   obtain⟨m',hm,w3⟩:=hN σ3 H3 n3
   exact⟨m',hm,σ3,H3,I3,w3⟩
  |cont =>
   obtain⟨σ3,H3,I3,n3⟩:=q3
   obtain⟨m',hm,w3⟩:=hN σ3 H3 n3
   exact⟨m',hm,σ3,H3,I3,w3⟩
  |brk=>exact q3
  |ret v=>exact q3
 |false =>
  rw[if_neg ali]
  exact anp ⟨σ1,H2,I2,q2⟩
end
structure It where
 go:Nat->Hp->Prop
 t7:Nat->Hp->V->Hp->Prop
 stop:Nat->Hp->Prop
def gi(X:Cx) (pins:List (Addr×Obj)) (H:Hp) (b:Addr):Prop :=
 H b=none/\b≠X.env.locals/\b∉X.fs/\(b∈X.ex\/X.s₀.heap.objs.size<=b)/\(∀x c,X.env.cells.lookup x=some c->c≠b)/\∀p∈X.pn++pins,p.1≠b
theorem Inv.vI{X:Cx}{pins:List (Addr×Obj)}{σ:St}{H H':Hp}{s:Shared}{b:Addr}(I:Inv X pins σ H s) (hb:s.heap.objs.size<=b) (hn:H' b=none):gi X pins H' b:=by
 refine⟨hn,alO (ak7 I.lt hb),I.BH hb,.inr (alk I.sz hb),λx c e z=>?_,λp hp z=>?_⟩
 ·obtain⟨v,q⟩:=I.cell x c e
  exact absurd (ak7 q.lt (by rw[z];exact hb)) (alJ _)
 ·exact absurd (ak7 (ak0 (I.pin p hp).1) (by rw[z];exact hb)) (alJ _)
structure Turn (P:Program) (w:World) (K:PySem.W.Frag) (tg:Expr) (J:It) (fp:List Addr) (it:Addr) (tn:Nat->Heap->Prop):Prop where
 mem:it∈fp
 obj:∀i h,tn i h->∀b∈fp,∃o,h.get? b=some o/\∀v,o.data≠.cell v
 keep:∀i h h',tn i h->(∀b∈fp,∀o,h.get? b=some o->h'.get? b=some o)->tn i h'
 item:∀(X:Cx),X.prog=P->X.w=w->X.K=K->X.calm=true->∀(i:Nat) (pins:List (Addr×Obj)) (s:Shared) (σ:St) (H:Hp) (E:Value->Shared->Prop),Inv X pins σ H s->(∀b∈fp,gi X pins H b)->tn i s.heap->J.go i H ->
  wpAny (model P w) X.A (pyNext (.ref it)) (λr s1=>∃u,r=some u /\
   wpAny (model P w) X.A (letOwnedTupleGo tg (.ref it) u) (λ_ s2=>∃x H',Inv X pins σ H' s2/\RelV x u/\J.t7 i H x H'/\tn (i+1) s2.heap/\∀b∈fp,H' b=none) E s1) E s
 done:∀(X:Cx),X.prog=P->X.w=w->X.K=K->X.calm=true->∀(i:Nat) (pins:List (Addr×Obj)) (s:Shared) (σ:St) (H:Hp) (E:Value->Shared->Prop),Inv X pins σ H s->(∀b∈fp,gi X pins H b)->tn i s.heap->J.stop i H ->
  wpAny (model P w) X.A (pyNext (.ref it)) (λr s1=>r=none/\Inv X pins σ H s1) E s
 self:∀(A:Around) (i:Nat) (s:Shared) (Q:Value->Shared->Prop) (E:Value->Shared->Prop),tn i s.heap->Q (.ref it) s->wpAny (model P w) A (pyIter (.ref it)) Q E s
abbrev TI:=St->Hp->(It->Hp->Prop)->Prop
def G6(X:Cx) (pins:List (Addr×Obj)) (σ:St) (tg:Expr) (R:It->Hp->Prop) (itv:Value) (s2:Shared):Prop :=
 ∃(it:Addr) (fp:List Addr) (tn:Nat->Heap->Prop) (J:It) (H':Hp),itv=.ref it/\Inv X pins σ H' s2/\Turn X.prog X.w X.K tg J fp it tn/\tn 0 s2.heap/\(∀b∈fp,gi X pins H' b)/\R J H'
def PI(X:Cx) (tg iter:Expr) (wi:TI):Prop :=
 ∀(pins:List (Addr×Obj)) (s:Shared) (σ:St) (H:Hp) (R:It->Hp->Prop),Inv X pins σ H s->wi σ H R ->
  wpAny (model X.prog X.w) X.A (eval iter X.env) (λv s1=>wpAny (model X.prog X.w) X.A (pyIter v) (G6 X pins σ tg R) X.xe s1) X.xe s
theorem yP{M:Model}{A:Around}{E:Value->Shared->Prop}{s:Shared}{tg:Expr}{it:Addr}{u:Value}{o:Obj}{n:String}{vs:Array Value}{Q:Unit->Shared->Prop}(ho:s.heap.get? it=some o) (hc:o.cls=.type n) (hd:o.data=.fields vs)
    (hn:["enumerate","zip","dict_itemiterator","dict_reverseitemiterator","odict_iterator","itertools.zip_longest","itertools.pairwise"].contains n=false) (hQ:Q () s):wpAny M A (letOwnedTupleGo tg (.ref it) u) Q E s:=by
  unfold letOwnedTupleGo
  cases tg<;>first
    | exact akU hQ
    | (cases u<;>first
        | exact akU hQ
        | (refine akT (wpAny_load ho ?_)
           rw[hc,hd]
           show wpAny M A (if(["enumerate","zip","dict_itemiterator","dict_reverseitemiterator","odict_iterator","itertools.zip_longest","itertools.pairwise"].contains n&&vs[0]? == some (rawInt _))=true then _ else _) Q E s
           rw[if_neg (by intro h;rw[hn,an2]at h;cases h)]
           exact akU hQ))
def Hi(K:PySem.W.Frag) (a:Addr):It :=
 ⟨λi H=>∃xs x,bH K H a xs/\xs[i]? = some x,λi H x H'=>H'=H/\∀xs,bH K H a xs->xs[i]? = some x,λi H=>∃xs,bH K H a xs/\xs.length<=i⟩
def Hh(K:PySem.W.Frag) (a:Addr):It :=
 ⟨λi H=>∃xs x,cI K H a xs/\xs[i]? = some x,λi H x H'=>H'=H/\∀xs,cI K H a xs->xs[i]? = some x,λi H=>∃xs,cI K H a xs/\xs.length<=i⟩
def wD(lo:Int) (n:Nat):It:=⟨λi _=>i<n,λi H x H'=>H'=H/\x=.int (lo+i),λi _=>n<=i⟩
theorem QL{P:Program}{w:World}{K:PySem.W.Frag}{tg:Expr}(a it:Addr):Turn P w K tg (Hi K a) [it] it (λi h=>h.IsListIter it a i) where
 mem:=by simp
 obj:=λi h st b hb=>by
  have e:b=it:=by simpa using hb
  subst e
  obtain⟨o,e,c,d⟩:=st
  exact⟨o,e,λv z=>by rw[d]at z;cases z⟩
 keep:=λi h h' st k=>st.at λo e=>k it (by simp) o e
 item:=by
  intro X hP hw hK hc i pins s σ H E I hf st hg
  subst hP hw hK
  obtain⟨xs,x,hq,hx⟩:=hg
  obtain⟨its,rv,p,hz⟩:=I.list hq
  obtain⟨u,hu,ru⟩:=rv.get hx
  obtain⟨f0,f1,f2,f3,f4,f5⟩:=hf it (by simp)
  refine wpAny_pyNext_list_item st p.isList (x:=u) (by simpa using hu) λh' st' sb=>?_
  have I1:Inv X pins σ H {s with heap:=h'}:=I.turned (t':=s.toks) (λb o hb e=>(sb.2 b hb).trans e) f0 f1 f3 f4 f5
  obtain⟨o,e,c,d⟩:=id st'
  exact⟨u,rfl,yP (s:={s with heap:=h'}) e c d (by decide) ⟨x,H,I1,ru,⟨rfl,λys hy=>by rw[I.KQ hy hq];exact hx⟩,st',λb hb=>(hf b hb).1⟩⟩
 done:=by
  intro X hP hw hK hc i pins s σ H E I hf st hg
  subst hP hw hK
  obtain⟨xs,hq,hx⟩:=hg
  obtain⟨its,rv,p,hz⟩:=I.list hq
  obtain⟨f0,f1,f2,f3,f4,f5⟩:=hf it (by simp)
  have hl:=rv.length
  exact wpAny_pyNext_list_end (I.ok.hd hc) st p.isList (by simp;omega) λh' eb=>⟨rfl,I.turned (t':=s.toks) (λb o hb e=>eb b o hb e) f0 f1 f3 f4 f5⟩
 self:=λ_ _ _ _ _ st h=>wpAny_pyIter_listiter st h
theorem QJ{P:Program}{w:World}{K:PySem.W.Frag}{tg:Expr}(a it:Addr):Turn P w K tg (Hh K a) [it] it (λi h=>h.IsTupleIter it a i) where
 mem:=by simp
 obj:=λi h st b hb=>by
  have e:b=it:=by simpa using hb
  subst e
  obtain⟨o,e,c,d⟩:=st
  exact⟨o,e,λv z=>by rw[d]at z;cases z⟩
 keep:=λi h h' st k=>st.at λo e=>k it (by simp) o e
 item:=by
  intro X hP hw hK hc i pins s σ H E I hf st hg
  subst hP hw hK
  obtain⟨xs,x,hq,hx⟩:=hg
  obtain⟨its,rv,p,hz⟩:=I.tuple hq
  obtain⟨u,hu,ru⟩:=rv.get hx
  obtain⟨f0,f1,f2,f3,f4,f5⟩:=hf it (by simp)
  refine wpAny_pyNext_tuple_item st (show s.heap.IsTuple a its.toArray from p) (x:=u) (by simpa using hu) λh' st' sb=>?_
  have I1:Inv X pins σ H {s with heap:=h'}:=I.turned (t':=s.toks) (λb o hb e=>(sb.2 b hb).trans e) f0 f1 f3 f4 f5
  obtain⟨o,e,c,d⟩:=id st'
  exact⟨u,rfl,yP (s:={s with heap:=h'}) e c d (by decide) ⟨x,H,I1,ru,⟨rfl,λys hy=>by rw[I.HZ hy hq];exact hx⟩,st',λb hb=>(hf b hb).1⟩⟩
 done:=by
  intro X hP hw hK hc i pins s σ H E I hf st hg
  subst hP hw hK
  obtain⟨xs,hq,hx⟩:=hg
  obtain⟨its,rv,p,hz⟩:=I.tuple hq
  obtain⟨f0,f1,f2,f3,f4,f5⟩:=hf it (by simp)
  have hl:=rv.length
  exact wpAny_pyNext_tuple_end (I.ok.hd hc) st (show s.heap.IsTuple a its.toArray from p) (by simp;omega) λh' eb=>⟨rfl,I.turned (t':=s.toks) (λb o hb e=>eb b o hb e) f0 f1 f3 f4 f5⟩
 self:=λ_ _ _ _ _ st h=>wpAny_pyIter_tupleiter st h
theorem QK{P:Program}{w:World}{K:PySem.W.Frag}{tg:Expr}(it:Addr) (lo:Int) (n:Nat):Turn P w K tg (wD lo n) [it] it (λi h=>IsRangeIter h it (lo+(i:Nat)*1) ((n:Int)-(i:Nat)) 1) where
 mem:=by simp
 obj:=λi h st b hb=>by
  have e:b=it:=by simpa using hb
  subst e
  exact⟨_,st,λv z=>by
   have z':Data.fields _=Data.cell v:=z
   cases z'⟩
 keep:=λi h h' st k=>k it (by simp) _ st
 item:=by
  intro X hP hw hK hc i pins s σ H E I hf st hg
  subst hP hw hK
  obtain⟨f0,f1,f2,f3,f4,f5⟩:=hf it (by simp)
  have W:=Walks.range (prog:=X.prog) (w:=X.w) (I.ok.hd hc) it lo 1 n
  refine W.item i s _ _ hg st λv h' tk hv st' kk=>?_
  obtain⟨t,rfl⟩:=hv
  have I1:Inv X pins σ H {s with heap:=h',toks:=tk}:=I.turned (λb o hb e=>kk b o (by simpa using hb) e) f0 f1 f3 f4 f5
  refine⟨_,rfl,yP (s:={s with heap:=h',toks:=tk}) (n:="range_iterator") st' rfl rfl (by decide) ⟨.int (lo+i),H,I1,⟨t,?_⟩,⟨rfl,rfl⟩,st',λb hb=>(hf b hb).1⟩⟩
  rw[Int.mul_one]
 done:=by
  intro X hP hw hK hc i pins s σ H E I hf st hg
  subst hP hw hK
  obtain⟨f0,f1,f2,f3,f4,f5⟩:=hf it (by simp)
  exact aoR (I.ok.hd hc) st (by have:n<=i:=hg;omega) λh' eb=>⟨rfl,I.turned (t':=s.toks) (λb o hb e=>eb b o hb e) f0 f1 f3 f4 f5⟩
 self:=λ_ _ _ _ _ st h=>aoS st h
section
variable {X:Cx}{tg:Expr}
def adf(K:PySem.W.Frag) (tl:TE):TI:=λσ H R=>tl σ H λx H1=>∃a,x=.ref a/\(∃xs,bH K H1 a xs)/\R (Hi K a) H1
def ac9(K:PySem.W.Frag) (tl:TE):TI:=λσ H R=>tl σ H λx H1=>∃a,x=.ref a/\(∃xs,cI K H1 a xs)/\R (Hh K a) H1
theorem Wx{l:Expr}{tl:TE}(hl:PE X l tl):PI X tg l (adf X.K tl):=by
 intro pins s σ H R I h
 refine bh (hl pins s σ H _ I h) λv s1 ⟨x,H1,I1,r1,q1⟩=>?_
 obtain⟨a,e,⟨xs,hq⟩,q⟩:=q1
 subst e
 cases r1
 obtain⟨its,rv,p,hz⟩:=I1.list hq
 refine am3 p.isList ?_
 refine⟨s1.heap.objs.size,[s1.heap.objs.size],_,_,H1,rfl,I1.kept (t':=s1.toks) λb o e=>akX _ e,QL a _,⟨_,alb _ rfl,rfl,rfl⟩,λb hb=>?_,q⟩
 have e:b=s1.heap.objs.size:=by simpa using hb
 subst e
 exact I1.vI (akV _) (I1.hok.fresh (akV _))
theorem Wt{l:Expr}{tl:TE}(hl:PE X l tl):PI X tg l (ac9 X.K tl):=by
 intro pins s σ H R I h
 refine bh (hl pins s σ H _ I h) λv s1 ⟨x,H1,I1,r1,q1⟩=>?_
 obtain⟨a,e,⟨xs,hq⟩,q⟩:=q1
 subst e
 cases r1
 obtain⟨its,rv,p,hz⟩:=I1.tuple hq
 refine anq (show s1.heap.IsTuple a its.toArray from p) ?_
 refine⟨s1.heap.objs.size,[s1.heap.objs.size],_,_,H1,rfl,I1.kept (t':=s1.toks) λb o e=>akX _ e,QJ a _,⟨_,alb _ rfl,rfl,rfl⟩,λb hb=>?_,q⟩
 have e:b=s1.heap.objs.size:=by simpa using hb
 subst e
 exact I1.vI (akV _) (I1.hok.fresh (akV _))
theorem Jm{pins:List (Addr×Obj)}{σ:St}{H:Hp}{s:Shared}{R:It->Hp->Prop}{E:Value->Shared->Prop}{lo hi:Int}{t u v:Tok}{tk:Nat}(I:Inv X pins σ H s) (h1:-(2^62)<=lo) (h2:lo<2^62) (h3:-(2^62)<=hi) (h4:hi<2^62)
  (q:R (wD lo (hi-lo).toNat) H):wpAny (model X.prog X.w) X.A (pyIter (.ref s.heap.objs.size)) (G6 X pins σ tg R) E {s with heap:=s.heap.push {cls:=.type "range",data:=.fields #[.int lo t,.int hi u,.int 1 v]},toks:=tk}:=by
 refine wpAny_pyIter_range (IsRange.new ..) (small_one h1 h2 h3 h4) ?_
 have I1:Inv X pins σ H {s with heap:=s.heap.push {cls:=.type "range",data:=.fields #[.int lo t,.int hi u,.int 1 v]},toks:=tk}:=I.kept λb o e=>akX _ e
 refine⟨(s.heap.push {cls:=.type "range",data:=.fields #[.int lo t,.int hi u,.int 1 v]}).objs.size,[(s.heap.push {cls:=.type "range",data:=.fields #[.int lo t,.int hi u,.int 1 v]}).objs.size],_,_,H,rfl,
  I1.kept (t':=tk) λb o e=>akX _ e,QK _ lo (hi-lo).toNat,?_,λb hb=>?_,q⟩
 ·have e1:lo+((0:Nat):Int)*1=lo:=by simp
  have e2:(((hi-lo).toNat:Nat):Int)-((0:Nat):Int)=Builtin.Range.rangeSize lo hi 1:=by rw[rangeSize_one];split<;>omega
  show IsRangeIter _ _ (lo+((0:Nat):Int)*1) ((((hi-lo).toNat:Nat):Int)-((0:Nat):Int)) 1
  rw[e1,e2]
  exact alb _ rfl
 ·have e:b=(s.heap.push {cls:=.type "range",data:=.fields #[.int lo t,.int hi u,.int 1 v]}).objs.size:=by simpa using hb
  subst e
  exact I1.vI (akV _) (I1.hok.fresh (akV _))
def ade(ta:TA):TI:=λσ H R=>ta σ H λvs H1=>∃j:Int,vs=[.int j]/\-(2^62)<=j/\j<2^62/\R (wD 0 j.toNat) H1
def adb(ta:TA):TI:=λσ H R=>ta σ H λvs H1=>∃i j:Int,vs=[.int i,.int j]/\(-(2^62)<=i/\i<2^62/\-(2^62)<=j/\j<2^62)/\R (wD i (j-i).toNat) H1
theorem Ww{a:Expr}{ta:TA}{p pos:Pos}(hg:Gl X "range") (hm:X.mg "range"=none) (ha:PA X [a] ta) (hs:starEach [a] X.env=[(false,eval a X.env)]:=by rfl):PI X tg (.Call (.Name "range" p) [a] [] pos) (ade ta):=by
 intro pins s σ H R I h
 refine Call_ (kT I hg hm boot_range (amu (bh (ha pos pins s σ H _ I h) λus s1 ⟨vs,H1,I1,r1,q1⟩=>?_) hs rfl))
 obtain⟨j,e,q1,q2,q⟩:=q1
 subst e
 cases r1 with
 |cons r rr =>
  cases rr
  obtain⟨t,rfl⟩:=r
  exact call_range_1 (Jm I1 (by omega) (by omega) q1 q2 (by simpa using q))
theorem Wv{a b:Expr}{ta:TA}{p pos:Pos}(hg:Gl X "range") (hm:X.mg "range"=none) (ha:PA X [a,b] ta) (hs:starEach [a,b] X.env=[(false,eval a X.env),(false,eval b X.env)]:=by rfl) (hs2:starEach [b] X.env=[(false,eval b X.env)]:=by rfl) :
  PI X tg (.Call (.Name "range" p) [a,b] [] pos) (adb ta):=by
 intro pins s σ H R I h
 refine Call_ (kT I hg hm boot_range (amu (bh (ha pos pins s σ H _ I h) λus s1 ⟨vs,H1,I1,r1,q1⟩=>?_) (by rw[hs,hs2]) (by rw[hs2];rfl)))
 obtain⟨i,j,e,⟨q1,q2,q3,q4⟩,q⟩:=q1
 subst e
 cases r1 with
 |cons r rr =>
  cases rr with
  |cons r' rr =>
   cases rr
   obtain⟨t,rfl⟩:=r
   obtain⟨t',rfl⟩:=r'
   exact call_range_2 (Jm I1 q1 q2 q3 q4 q)
def Rr(wi:TI) (g:TG) (tb:TS):TS:=λD σ H=>wi σ H λJ H1=>∃W:Nat->Nat->St->Hp->Prop,(∃m,W 0 m σ H1)/\∀i m σ H,W i m σ H ->
 (J.stop i H/\D.nx σ H)\/(J.go i H/\∃N:St->Hp->Prop,(∀σ' H',N σ' H'->∃m',m'<m/\W (i+1) m' σ' H')/\∀x H',J.t7 i H x H'->g x σ H' λσ2 H2=>tb {D with nx:=N,ct:=N,bk:=D.nx} σ2 H2)
def uD(fp:List Addr) (h:Heap):List (Addr×Obj):=fp.filterMap λb=>(h.get? b).map λo=>(b,o)
theorem yp{fp:List Addr}{h:Heap}{b:Addr}{o:Obj}(hb:b∈fp) (e:h.get? b=some o):(b,o)∈uD fp h:=amv.mpr ⟨b,hb,by rw[e];rfl⟩
theorem Yx{fp:List Addr}{h:Heap}{p:Addr×Obj}(hp:p∈uD fp h):p.1∈fp/\h.get? p.1=some p.2:=by
 obtain⟨b,hb,e⟩:=amv.mp hp
 cases q:h.get? b with
 |none=>rw[q]at e;cases e
 |some o =>
  rw[q]at e
  have e':(b,o)=p:=alh e
  subst e'
  exact⟨hb,q⟩
theorem Inv.pinned{pins:List (Addr×Obj)}{σ:St}{H:Hp}{s:Shared}{fp:List Addr}(I:Inv X pins σ H s) (hf:∀b∈fp,gi X pins H b) (ho:∀b∈fp,∃o,s.heap.get? b=some o/\∀v,o.data≠.cell v):Inv X (pins++uD fp s.heap) σ H s :=
 I.xP λp hp=>(alz.mp hp).elim (λz=>I.pin p (alQ _ z)) λz=>by
  obtain⟨hb,e⟩:=Yx z
  obtain⟨f0,f1,f2,_⟩:=hf p.1 hb
  obtain⟨o,e',d⟩:=ho p.1 hb
  rw[e]at e';cases e'
  exact⟨e,f0,f1,f2,d⟩
theorem Inv.uc{pins pl:List (Addr×Obj)}{σ:St}{H:Hp}{s:Shared}(I:Inv X (pins++pl) σ H s):Inv X pins σ H s:=I.xP λp hp=>I.pin p (alQ _ (aoP _ hp))
theorem Vf{iter:Expr}{body:List Stmt}{wi:TI}{g:TG}{tb:TS}{pos:Pos}(hp:PassesOwn (model X.prog X.w) X.A X.env X.xe) (hc:X.calm=true) (hi:PI X tg iter wi) (hg:PG X tg g) (hb:fY X body tb)
  (hs:∀x,foldedSetIterable iter X.env x=pure x:=by intro _;rfl):PS X (.For tg iter body [] pos) (Rr wi g tb):=by
 intro pins s σ H D I h
 refine wpAny_For (bh (hi pins s σ H _ I h) λv s1 h1=>bh h1 λitv s2 h2=>?_) hs
 obtain⟨it,fp,tn,J,H2,e,I2,T,st2,f2,W,⟨m0,w0⟩,turn⟩:=h2
 subst e
 have oF:∀{H':Hp},(∀b∈fp,H' b=none)->∀b∈fp,gi X pins H' b:=λhn b hb=>⟨hn b hb,(f2 b hb).2⟩
 refine codeAny_forLoop_any (λn s'=>∃i σ' H',Inv X pins σ' H' s'/\tn i s'.heap/\(∀b∈fp,H' b=none)/\W i n σ' H') ?_ m0 ⟨0,σ,H2,I2,st2,λb hb=>(f2 b hb).1,w0⟩
 rintro n s3 ⟨i,σ3,H3,I3,st3,Mh,w3⟩
 rcases turn i n σ3 H3 w3 with⟨stop,qn⟩|⟨go,N,hN,step⟩
 ·refine amt hp (bh (T.done X rfl rfl rfl hc i pins s3 σ3 H3 X.xe I3 (oF Mh) st3 stop) λr s4 ⟨hr,I4⟩=>?_)
  subst hr
  exact anp ⟨σ3,H3,I4,qn⟩
 ·refine amt hp (bh (T.item X rfl rfl rfl hc i pins s3 σ3 H3 X.xe I3 (oF Mh) st3 go) λr s4 ⟨u,hr,h4⟩=>?_)
  subst hr
  refine amt hp (bh h4 λ_ s5 ⟨x,H5,I5,r5,y5,jj,yR⟩=>?_)
  have I5':=I5.pinned (oF yR) (T.obj _ _ jj)
  refine amt hp (bh (hg _ s5 σ3 H5 x u _ I5' r5 (step x H5 y5)) λ_ s6 ⟨Ph,H6,I6,q6⟩=>?_)
  refine amt hp (bh (hb _ s6 Ph H6 _ I6 q6) λf s7 q7=>?_)
  have again:∀{jh:St}{H7:Hp},Inv X (pins++uD fp s5.heap) jh H7 s7->N jh H7->∃m,m<n/\∃i σ' H',Inv X pins σ' H' s7/\tn i s7.heap/\(∀b∈fp,H' b=none)/\W i m σ' H':=fun{jh H7} I7 n7=>by
   obtain⟨m',hm,w7⟩:=hN jh H7 n7
   refine⟨m',hm,i+1,jh,H7,I7.uc,T.keep _ _ _ jj λb hb o e=>(I7.pin (b,o) (alQ _ (alQ _ (yp hb e)))).1,λb hb=>?_,w7⟩
   obtain⟨o,e,d⟩:=T.obj _ _ jj b hb
   exact(I7.pin (b,o) (alQ _ (alQ _ (yp hb e)))).2.1
  cases f with
  |next=>obtain⟨jh,H7,I7,n7⟩:=q7;exact again I7 n7
  |cont=>obtain⟨jh,H7,I7,n7⟩:=q7;exact again I7 n7
  |brk=>obtain⟨jh,H7,I7,q7⟩:=q7;exact⟨jh,H7,I7.uc,q7⟩
  |ret v=>obtain⟨x7,jh,H7,I7,r7,q7⟩:=q7;exact⟨x7,jh,H7,I7.uc,r7,q7⟩
end
abbrev R2:=V->V->Hp->VK->Prop
def bQ(X:Cx) (f:Value->Value->Sem Value) (r:R2):Prop :=
 ∀(pins:List (Addr×Obj)) (s:Shared) (σ:St) (H:Hp) (x y:V) (v u:Value) (Q:VK),Inv X pins σ H s->RelV x v->RelV y u->r x y H Q ->
  wpAny (model X.prog X.w) X.A (f v u) (EP X pins σ Q) X.xe s
def dW(X:Cx) (f:Value) (r:List V->Hp->VK->Prop):Prop :=
 ∀(pins:List (Addr×Obj)) (s:Shared) (σ:St) (H:Hp) (xs:List V) (us:List Value) (Q:VK),Inv X pins σ H s->Vals xs us->r xs H Q ->
  wpAny (model X.prog X.w) X.A (call f us) (EP X pins σ Q) X.xe s
def wY(r:R2) (ta tb:TE):TE:=λσ H Q=>ta σ H λx H1=>tb σ H1 λy H2=>r x y H2 Q
def rI(C:Int->Int->Prop) (g:Int->Int->V):R2:=λx y H Q=>∃i j,x=.int i/\y=.int j/\C i j/\Q (g i j) H
def jJ(g:Int->Int->V):R2:=λx y H Q=>∃i j,x=.int i/\y=.int j/\Q (g i j) H
section
variable {X:Cx}{a b c:Expr}{ta tb tc:TE}{pos:Pos}
theorem GU(ha:PE X a ta) (hb:PE X b tb) {pins:List (Addr×Obj)}{s:Shared}{σ:St}{H:Hp}{R:V->V->Hp->Prop}(I:Inv X pins σ H s)
  (h:ta σ H λx H1=>tb σ H1 λy H2=>R x y H2) {Q:Value->Shared->Prop}{f:Value->Value->Sem Value}
  (hf:∀v u s2 x y H2,Inv X pins σ H2 s2->RelV x v->RelV y u->R x y H2->wpAny (model X.prog X.w) X.A (f v u) Q X.xe s2) :
  wpAny (model X.prog X.w) X.A (eval a X.env) (λv s₁=>wpAny (model X.prog X.w) X.A (eval b X.env) (λu s₂=>wpAny (model X.prog X.w) X.A (f v u) Q X.xe s₂) X.xe s₁) X.xe s:=by
 refine bh (ha pins s σ H _ I h) λv s1 ⟨x,H1,I1,r1,q1⟩=>?_
 refine bh (hb pins s1 σ H1 _ I1 q1) λu s2 ⟨y,H2,I2,r2,q2⟩=>?_
 exact hf v u s2 x y H2 I2 r1 r2 q2
theorem WK{op:Operator}{r:R2}(ho:bQ X (binaryOp op) r) (ha:PE X a ta) (hb:PE X b tb):PE X (.BinOp a op b pos) (wY r ta tb):=by
 intro pins s σ H Q I h
 exact wpAny_BinOp (GU ha hb I h λv u s2 x y H2 I2 rx ry q=>ho pins s2 σ H2 x y v u Q I2 rx ry q)
theorem xY{f:Value->Value->Sem Value}{C:Int->Int->Prop}{g:Int->Int->Int}
  (rule:∀(i j:Int) (t u:Tok) (s:Shared) (Q:Value->Shared->Prop) (E:Value->Shared->Prop),C i j->Q (.int (g i j) s.toks) {s with toks:=s.toks+1}->wpAny (model X.prog X.w) X.A (f (.int i t) (.int j u)) Q E s) :
  bQ X f (rI C λi j=>.int (g i j)):=by
 intro pins s σ H x y v u Q I rx ry h
 obtain⟨i,j,rfl,rfl,hc,q⟩:=h
 obtain⟨t,rfl⟩:=rx
 obtain⟨t',rfl⟩:=ry
 exact rule i j t t' s _ _ hc ⟨.int (g i j),H,I.tok _,⟨_,rfl⟩,q⟩
theorem BD{f:Value->Value->Sem Value}{g:Int->Int->Int}
  (rule:∀(i j:Int) (t u:Tok) (s:Shared) (Q:Value->Shared->Prop) (E:Value->Shared->Prop),Q (.int (g i j) s.toks) {s with toks:=s.toks+1}->wpAny (model X.prog X.w) X.A (f (.int i t) (.int j u)) Q E s) :
  bQ X f (jJ λi j=>.int (g i j)):=by
 intro pins s σ H x y v u Q I rx ry h
 obtain⟨i,j,rfl,rfl,q⟩:=h
 obtain⟨t,rfl⟩:=rx
 obtain⟨t',rfl⟩:=ry
 exact rule i j t t' s _ _ ⟨.int (g i j),H,I.tok _,⟨_,rfl⟩,q⟩
theorem xZ{f:Value->Value->Sem Value}{g:Int->Int->Bool}
  (rule:∀(i j:Int) (t u:Tok) (s:Shared) (Q:Value->Shared->Prop) (E:Value->Shared->Prop),Q (.bool (g i j)) s->wpAny (model X.prog X.w) X.A (f (.int i t) (.int j u)) Q E s) :
  bQ X f (jJ λi j=>.bl (g i j)):=by
 intro pins s σ H x y v u Q I rx ry h
 obtain⟨i,j,rfl,rfl,q⟩:=h
 obtain⟨t,rfl⟩:=rx
 obtain⟨t',rfl⟩:=ry
 exact rule i j t t' s _ _ ⟨.bl (g i j),H,I,rfl,q⟩
def ajc(i j:Int):Prop:=0<j/\j<1073741824
def ajb(i j:Int):Prop:=0<=j/\j<=1000000/\i.natAbs<2^64
def Hr(i j:Int):Prop:=(-(2^64)<i/\i<2^64)\/(-(2^64)<j/\j<2^64)
theorem Hr.ok{i j:Int}(h:Hr i j):IntMulOk i j:=by
 rcases h with⟨h1,h2⟩|⟨h1,h2⟩
 ·exact .of_left (intBits_le_64 h1 h2)
 ·exact .of_right (intBits_le_64 h1 h2)
theorem XQ:bQ X (binaryOp .Add) (jJ λi j=>.int (i+j)):=BD λ_ _ _ _ _ _ _ q=>add_int q
theorem Xu:bQ X (binaryOp .Sub) (jJ λi j=>.int (i-j)):=BD λ_ _ _ _ _ _ _ q=>sub_int q
theorem Xz:bQ X (binaryOp .Mult) (rI Hr λi j=>.int (i*j)):=xY λ_ _ _ _ _ _ _ hc q=>mul_int q hc.ok
theorem XH:bQ X (binaryOp .FloorDiv) (rI ajc λi j=>.int (i/j)):=xY λi j _ _ _ _ _ hc q=>by
 have h1:(0:Int)<j:=hc.1
 have h2:j<1073741824:=hc.2
 exact floordiv_int (by omega) (by rw[Int.fdiv_eq_ediv_of_nonneg i (by omega)];exact q) (.inl (aoT (by omega)))
theorem XA:bQ X (binaryOp .Mod) (rI (λ_ j=>0<j) λi j=>.int (i % j)):=xY λi j _ _ _ _ _ hc q=>by
 have h1:(0:Int)<j:=hc
 exact mod_int' (by omega) (by rw[Int.fmod_eq_emod_of_nonneg i (by omega)];exact q)
theorem Xx:bQ X (binaryOp .Pow) (rI ajb λi j=>.int (i^j.toNat)):=xY λ_ _ _ _ _ _ _ hc q=>pow_int_small hc.1 hc.2.1 hc.2.2 q
theorem Xs:bQ X (binaryOp .BitXor) (jJ λi j=>.int (Builtin.bitXor i j)):=BD λ_ _ _ _ _ _ _ q=>xor_int q
end
def A7:V->V->Bool
 |.aO,.aO=>true|.aO,.int _=>true|.int _,.aO=>true|.aO,.bl _=>true|.bl _,.aO=>true|.aO,.str _=>true|.str _,.aO=>true
 |.int _,.int _=>true|.bl _,.bl _=>true|.str _,.str _=>true|.jB _,.jB _=>true
 |.int _,.str _=>true|.str _,.int _=>true|.bl _,.str _=>true|.str _,.bl _=>true
 |_,_=>false
def UP:R2:=λx y H Q=>A7 x y=true/\Q (.bl (decide (x=y))) H
def UI:R2:=λx y H Q=>A7 x y=true/\Q (.bl (!decide (x=y))) H
theorem MG{i j:Int}:decide (V.int i=V.int j)=(i==j):=by
 rw[amD]
 simp
theorem MI{i j:Bool}:decide (V.bl i=V.bl j)=(i==j):=by
 rw[amD]
 simp
theorem MF{i j:Str}:decide (V.str i=V.str j)=(i==j):=by
 rw[amD]
 simp
theorem MH{i j:Array UInt8}:decide (V.jB i=V.jB j)=(i.toList==j.toList):=by
 rw[amD]
 cases i
 cases j
 simp
section
variable {X:Cx}{a b c:Expr}{ta tb tc:TE}{pos:Pos}
theorem dj{pins:List (Addr×Obj)}{σ:St}{H:Hp}{s:Shared}{Q:VK}{k k':Bool}(I:Inv X pins σ H s) (q:Q (.bl k) H) (e:k=k'):EP X pins σ Q (.bool k') s:=by
 subst e
 exact⟨.bl k,H,I,rfl,q⟩
theorem XI:bQ X (compareOp .Eq) UP:=by
 intro pins s σ H x y v u Q I rx ry h
 obtain⟨hs,q⟩:=h
 cases x with
 |aO =>
  cases rx
  cases y with
  |aO=>cases ry;exact PySem.EqNone.eq_none_none (dj I q (by simp))
  |bl j=>cases ry;exact PySem.EqNone.eq_none_bool (dj I q (by simp))
  |int j=>obtain⟨t',rfl⟩:=ry;exact PySem.EqNone.eq_none_int (dj I q (by simp))
  |str j=>obtain⟨t',rfl⟩:=ry;exact PySem.EqNone.eq_none_str (dj I q (by simp))
  |_=>exact absurd (show false=true from hs) ali
 |bl i =>
  cases rx
  cases y with
  |aO=>cases ry;exact PySem.EqNone.eq_bool_none (dj I q (by simp))
  |bl j=>cases ry;exact eq_bool (dj I q MI)
  |str j=>obtain⟨t',rfl⟩:=ry;exact PySem.EqMixed.eq_bool_str (dj I q (by simp))
  |_=>exact absurd (show false=true from hs) ali
 |int i =>
  obtain⟨t,rfl⟩:=rx
  cases y with
  |aO=>cases ry;exact PySem.EqNone.eq_int_none (dj I q (by simp))
  |int j=>obtain⟨t',rfl⟩:=ry;exact eq_int (dj I q MG)
  |str j=>obtain⟨t',rfl⟩:=ry;exact PySem.EqMixed.eq_int_str (dj I q (by simp))
  |_=>exact absurd (show false=true from hs) ali
 |str i =>
  obtain⟨t,rfl⟩:=rx
  cases y with
  |aO=>cases ry;exact PySem.EqNone.eq_str_none (dj I q (by simp))
  |bl j=>cases ry;exact PySem.EqMixed.eq_str_bool (dj I q (by simp))
  |int j=>obtain⟨t',rfl⟩:=ry;exact PySem.EqMixed.eq_str_int (dj I q (by simp))
  |str j=>obtain⟨t',rfl⟩:=ry;exact eq_str (dj I q MF)
  |_=>exact absurd (show false=true from hs) ali
 |jB i =>
  obtain⟨t,rfl⟩:=rx
  cases y with
  |jB j=>obtain⟨t',rfl⟩:=ry;exact PySem.W.eq_bytes (dj I q MH)
  |_=>exact absurd (show false=true from hs) ali
 |_=>cases y<;>exact absurd (show false=true from hs) ali
theorem Xy:bQ X (compareOp .NotEq) UI:=by
 intro pins s σ H x y v u Q I rx ry h
 obtain⟨hs,q⟩:=h
 cases x with
 |aO =>
  cases rx
  cases y with
  |aO=>cases ry;exact PySem.EqNone.ne_none_none (dj I q (by simp))
  |bl j=>cases ry;exact PySem.EqNone.ne_none_bool (dj I q (by simp))
  |int j=>obtain⟨t',rfl⟩:=ry;exact PySem.EqNone.ne_none_int (dj I q (by simp))
  |str j=>obtain⟨t',rfl⟩:=ry;exact PySem.EqNone.ne_none_str (dj I q (by simp))
  |_=>exact absurd (show false=true from hs) ali
 |bl i =>
  cases rx
  cases y with
  |aO=>cases ry;exact PySem.EqNone.ne_bool_none (dj I q (by simp))
  |bl j=>cases ry;exact ne_bool (dj I q (congrArg not MI))
  |str j=>obtain⟨t',rfl⟩:=ry;exact PySem.EqMixed.ne_bool_str (dj I q (by simp))
  |_=>exact absurd (show false=true from hs) ali
 |int i =>
  obtain⟨t,rfl⟩:=rx
  cases y with
  |aO=>cases ry;exact PySem.EqNone.ne_int_none (dj I q (by simp))
  |int j=>obtain⟨t',rfl⟩:=ry;exact ne_int (dj I q (congrArg not MG))
  |str j=>obtain⟨t',rfl⟩:=ry;exact PySem.EqMixed.ne_int_str (dj I q (by simp))
  |_=>exact absurd (show false=true from hs) ali
 |str i =>
  obtain⟨t,rfl⟩:=rx
  cases y with
  |aO=>cases ry;exact PySem.EqNone.ne_str_none (dj I q (by simp))
  |bl j=>cases ry;exact PySem.EqMixed.ne_str_bool (dj I q (by simp))
  |int j=>obtain⟨t',rfl⟩:=ry;exact PySem.EqMixed.ne_str_int (dj I q (by simp))
  |str j=>obtain⟨t',rfl⟩:=ry;exact ne_str (dj I q (congrArg not MF))
  |_=>exact absurd (show false=true from hs) ali
 |jB i =>
  obtain⟨t,rfl⟩:=rx
  cases y with
  |jB j=>obtain⟨t',rfl⟩:=ry;exact PySem.W.ne_bytes (dj I q (congrArg not MH))
  |_=>exact absurd (show false=true from hs) ali
 |_=>cases y<;>exact absurd (show false=true from hs) ali
theorem XC:bQ X (compareOp .Lt) (jJ λi j=>.bl (decide (i<j))):=xZ λ_ _ _ _ _ _ _ q=>lt_int q
theorem XD:bQ X (compareOp .LtE) (jJ λi j=>.bl (decide (i<=j))):=xZ λ_ _ _ _ _ _ _ q=>le_int q
theorem XF:bQ X (compareOp .Gt) (jJ λi j=>.bl (decide (j<i))):=xZ λ_ _ _ _ _ _ _ q=>gt_int q
theorem XG:bQ X (compareOp .GtE) (jJ λi j=>.bl (decide (j<=i))):=xZ λ_ _ _ _ _ _ _ q=>ge_int q
theorem XE:bQ X (compareOp .Is) (λx y H Q=>y=.aO/\Q (.bl (decide (x=.aO))) H):=by
 intro pins s σ H x y v u Q I rx ry h
 obtain⟨rfl,q⟩:=h
 cases ry
 refine is_none_gen (dj I q ?_)
 cases x<;>first
  |(cases rx;rfl)
  |(obtain⟨t,rfl⟩:=rx;rfl)
theorem Kc(b:Expr) {op:CmpOp}(h:op≠.In:=by decide) (h2:op≠.NotIn:=by decide):behindInMarks op b=false:=by
 have e1:(op==CmpOp.In)=false:=by cases op<;>first|rfl|exact absurd rfl h
 have e2:(op==CmpOp.NotIn)=false:=by cases op<;>first|rfl|exact absurd rfl h2
 cases b<;>simp[behindInMarks,e1,e2]
theorem WW{op:CmpOp}{r:R2}(ho:bQ X (compareOp op) r) (ha:PE X a ta) (hb:PE X b tb) (hm:behindInMarks op b=false):PE X (.Compare a [op] [b] pos) (wY r ta tb):=by
 intro pins s σ H Q I h
 exact wpAny_Compare1 (GU ha hb I h λv u s2 x y H2 I2 rx ry q=>ho pins s2 σ H2 x y v u Q I2 rx ry q) hm
def Im(t:TE):TT:=λσ H Q=>t σ H λx H'=>∃k,x=.bl k/\Q k H'
theorem U5{op:CmpOp}{r:R2}(ho:bQ X (compareOp op) r) (ha:PE X a ta) (hb:PE X b tb) (hm:behindInMarks op b=false):PT X (.Compare a [op] [b] pos) (Im (wY r ta tb)):=by
 intro pins s σ H Q I h
 refine wpAny_isTrue_Compare1 (bh (ha pins s σ H _ I h) λv s1 ⟨x,H1,I1,r1,q1⟩=>bh (hb pins s1 σ H1 _ I1 q1) λu s2 ⟨y,H2,I2,r2,q2⟩ =>
  bh (ho pins s2 σ H2 x y v u _ I2 r1 r2 q2) λc s3 ⟨z,H3,I3,r3,k,e,q3⟩=>?_) hm
 subst e
 cases r3
 exact amh ⟨H3,I3,q3⟩
def Iq(r r':R2) (ta tb tc:TE):TE:=λσ H Q=>ta σ H λx H1=>tb σ H1 λy H2=>r x y H2 λz H3=>∃k,z=.bl k /\
 (if k=true then tc σ H3 λw' H4=>r' y w' H4 Q else Q (.bl false) H3)
theorem WX{op op':CmpOp}{r r':R2}(ho:bQ X (compareOp op) r) (ho':bQ X (compareOp op') r') (ha:PE X a ta) (hb:PE X b tb) (hc:PE X c tc)
  (hm:lastMarks [op,op'] [b,c]=false:=by with_unfolding_all rfl):PE X (.Compare a [op,op'] [b,c] pos) (Iq r r' ta tb tc):=by
 intro pins s σ H Q I h
 refine Compare_chain (bh (ha pins s σ H _ I h) λv s1 ⟨x,H1,I1,r1,q1⟩=>chain_link (bh (hb pins s1 σ H1 _ I1 q1) λu s2 ⟨y,H2,I2,r2,q2⟩ =>
  bh (ho pins s2 σ H2 x y v u _ I2 r1 r2 q2) λd s3 ⟨z,H3,I3,r3,k,e,q3⟩=>?_)) hm
 subst e
 cases r3
 refine amh ?_
 cases k with
 |false=>exact ite_ff ⟨.bl false,H3,I3,rfl,q3⟩
 |true=>exact ite_tt (chain_last (bh (hc pins s3 σ H3 _ I3 q3) λw' s4 ⟨z',H4,I4,r4,q4⟩=>ho' pins s4 σ H4 y z' u w' Q I4 r2 r4 q4))
theorem U6{op op':CmpOp}{r r':R2}(ho:bQ X (compareOp op) r) (ho':bQ X (compareOp op') r') (ha:PE X a ta) (hb:PE X b tb) (hc:PE X c tc)
  (hm:lastMarks [op,op'] [b,c]=false:=by with_unfolding_all rfl):PT X (.Compare a [op,op'] [b,c] pos) (Im (Iq r r' ta tb tc)):=by
 intro pins s σ H Q I h
 refine isTrue_chain (bh (ha pins s σ H _ I h) λv s1 ⟨x,H1,I1,r1,q1⟩=>test_link (bh (hb pins s1 σ H1 _ I1 q1) λu s2 ⟨y,H2,I2,r2,q2⟩ =>
  bh (ho pins s2 σ H2 x y v u _ I2 r1 r2 q2) λd s3 ⟨z,H3,I3,r3,k,e,q3⟩=>?_)) hm
 subst e
 cases r3
 refine amh ?_
 cases k with
 |false =>
  obtain⟨k',e',q'⟩:=q3
  cases e'
  exact ite_ff ⟨H3,I3,q'⟩
 |true =>
  refine ite_tt (test_last (bh (hc pins s3 σ H3 _ I3 q3) λw' s4 ⟨z',H4,I4,r4,q4⟩=>bh (ho' pins s4 σ H4 y z' u w' _ I4 r2 r4 q4) λd' s5 ⟨z2,H5,I5,r5,k2,e2,q5⟩=>?_))
  subst e2
  cases r5
  exact amh ⟨H5,I5,q5⟩
theorem vc:(sizeLine:Nat)<2^63:=by rw[am4];decide
theorem XO:bQ X (binaryOp .Add) (λx y H Q=>∃i j,x=.str i/\y=.str j/\i.length+j.length<=sizeLine/\Q (.str (i++j)) H):=by
 intro pins s σ H x y v u Q I rx ry h
 obtain⟨i,j,rfl,rfl,hz,q⟩:=h
 obtain⟨t,rfl⟩:=rx
 obtain⟨t',rfl⟩:=ry
 exact add_str (λt' tk=>⟨.str (i++j),H,I.tok _,⟨_,rfl⟩,q⟩) hz
theorem alK{x:V}{us:List Value}(r:Vals [x] us):∃u,us=[u]/\RelV x u:=by
 cases r with
 |cons r1 r2=>cases r2;exact⟨_,rfl,r1⟩
theorem vals2{x y:V}{us:List Value}(r:Vals [x,y] us):∃u w',us=[u,w']/\RelV x u/\RelV y w':=by
 cases r with
 |cons r1 r2 =>
  cases r2 with
  |cons r3 r4=>cases r4;exact⟨_,_,rfl,r1,r3⟩
theorem aht(hc:X.calm=true):dW X (.builtin "max") (λxs H Q=>∃i j,xs=[.int i,.int j]/\Q (.int (if j>i then j else i)) H):=by
 intro pins s σ H xs us Q I r h
 obtain⟨i,j,rfl,q⟩:=h
 obtain⟨u,w',rfl,⟨t,rfl⟩,⟨t',rfl⟩⟩:=vals2 r
 refine max_two_ints (I.ok.hd hc) λh' tk k=>⟨_,H,I.kept k,?_,q⟩
 by_cases hj:j>i
 ·rw[if_pos hj,if_pos hj];exact⟨_,rfl⟩
 ·rw[if_neg hj,if_neg hj];exact⟨_,rfl⟩
end
structure G7 (h:Heap) (x dx C:Addr) (mA:Str->Option Value):Prop where
 obj:h.get? x=some (PySem.W.instObj C dx)
 ns:h.Ns1 dx mA
 ne:dx≠x
theorem abr{h:Heap}{dx:Addr}{mA:Str->Option Value}(n:h.Ns1 dx mA):∃od,h.get? dx=some od/\∀name,PySem.W.lookIn name od=some (mA name):=by
 obtain⟨o,es,ep,ho,hd,hk,_,hm⟩:=n
 refine⟨o,ho,λname=>?_⟩
 have e:=hm name
 unfold nsFind findBy at e
 rw[<-Array.find?_toList]at e
 unfold PySem.W.lookIn
 rw[hd]
 dsimp only
 split
 ·rename_i y q
  rw[q]at e
  exact congrArg some e
 ·rename_i q
  rw[q]at e
  have a:es.toList.any (·.refKey)=false:=by
   rw[List.any_eq_false]
   intro y hy
   obtain⟨z,t,hkey⟩:=hk y (an3.mp hy)
   simp[DictEntry.refKey,hkey]
  have a':¬es.toList.any (·.refKey)=true:=by rw[a];exact ali
  rw[if_neg a']
  exact congrArg some e
theorem G7.look{h:Heap}{x dx C:Addr}{mA:Str->Option Value}(I:G7 h x dx C mA):∃od,PySem.W.InstAt h x (PySem.W.instObj C dx) C (some od)/\∀name,PySem.W.lookIn name od=some (mA name) :=
 let⟨od,ho,hl⟩:=abr I.ns
 ⟨od,⟨I.obj,rfl,rfl,ho⟩,hl⟩
section
variable {P:Program}{w:World}{H H':Hp}{h h':Heap}{a C dx:Addr}{fs fs':List (Str×V)}
theorem ac4(hok:c7 P w H h) (e:H a=some (.ins C dx fs)):∃mA,G7 h a dx C mA/\(∀f,G5 (fs.lookup f) (mA f))/\PySem.Within mA (fs.map (·.1))/\fs.length<=1000/\H dx=some (.own a):=by
 obtain⟨d,z,ne,ob,mA,n,r,q⟩:=(show fj P w H h a (.ins C dx fs)from hok a _ e)
 exact⟨mA,⟨ob,n,ne⟩,r,q,z,d⟩
end
structure Hq (K:PySem.W.Frag) (C:Addr):Prop where
 pg:PySem.W.plainGet K C Str.empty=true
 hd:PySem.W.hasDictIn K C=true
 po:PySem.W.plainOver K C=true
 sa:PySem.W.findIn K (.ref C) "__setattr__"=some (some (.builtin "object.__setattr__"))
theorem Hq.get{K:PySem.W.Frag}{C:Addr}(c:Hq K C) (f:Str):PySem.W.plainGet K C f=true:=c.pg
section
variable {X:Cx}{pins:List (Addr×Obj)}{σ:St}{H:Hp}{s:Shared}{A:Around}{E:Value->Shared->Prop}{Q:Value->Shared->Prop}{c:Value}{b:Bool}
inductive iJ (K:PySem.W.Frag) (H:Hp):V->Value->Prop where
 |aO:iJ K H .aO (.type "NoneType")
 |bl (x:Bool):iJ K H (.bl x) (.type "bool")
 |int (i:Int):iJ K H (.int i) (.type "int")
 |str (x:Str):iJ K H (.str x) (.type "str")
 |sM (x:UInt64):iJ K H (.sM x) (.type "float")
 |lst {a:Addr}{xs:List V}(e:H a=some (.lst xs)):iJ K H (.ref a) (.type "list")
 |cH {a:Addr}{o:Obj}{xs:List V}(e:H a=some (.cH o (.lst xs))):iJ K H (.ref a) (.type "list")
 |tup {a:Addr}{xs:List V}(e:H a=some (.tup xs)):iJ K H (.ref a) (.type "tuple")
 |dK {a:Addr}{kvs:List (Key×V)}(e:H a=some (.dK kvs)):iJ K H (.ref a) (.type "dict")
 |dT {a:Addr}{kvs:List (List Key×V)}(e:H a=some (.dT kvs)):iJ K H (.ref a) (.type "dict")
 |ins {a C dx:Addr}{fs:List (Str×V)}(e:H a=some (.ins C dx fs)) (cl:Hq K C) (ha:PySem.W.findIn K (.ref C) "__class__"=some (some (.builtin "object.__class__")))
   (hn:PySem.W.specialIn K (.builtin "object.__class__") "__get__"=some (some (.builtin "getset_descriptor.__get__"))) (htk:PySem.W.takesIn K (.builtin "object.__class__")=some true)
   (hm:PySem.W.mroIn K C (.type "object")=some true):iJ K H (.ref a) (.ref C)
theorem acV{x:V}{u t:Value}(I:Inv X pins σ H s) (rx:RelV x u) (ty:iJ X.K H x t) (e:PySem.W.kitOne X.K t c=some b) (h:∀tk,Q (.bool b) {s with toks:=tk}) :
  wpAny (model X.prog X.w) A (call (.builtin "isinstance") [u,c]) Q E s:=by
 cases ty with
 |aO=>cases(show u=Value.none from rx);exact alU PySem.W.kitx_none I.fB True.intro e (λz=>nomatch z) h
 |bl y=>cases(show u=Value.bool y from rx);exact alU PySem.W.kitx_bool I.fB True.intro e (λz=>nomatch z) h
 |int i=>obtain⟨t,q⟩:=(show ∃t,u=Value.int i t from rx);cases q;exact alU PySem.W.kitx_int I.fB True.intro e (λz=>nomatch z) h
 |str y=>obtain⟨t,q⟩:=(show ∃t,u=Value.str y t from rx);cases q;exact alU PySem.W.kitx_str I.fB True.intro e (λz=>nomatch z) h
 |sM y=>obtain⟨t,q⟩:=(show ∃t,u=Value.float y t from rx);cases q;exact alU PySem.W.kitx_float I.fB True.intro e (λz=>nomatch z) h
 | @lst a xs ea =>
  cases(show u=Value.ref a from rx)
  obtain⟨_,_,n,_,h1⟩:=(show fj X.prog X.w H s.heap a (.lst xs)from I.hok a _ ea)
  exact alU aoU I.fB ⟨_,h1,rfl⟩ e (λz=>nomatch z) h
 | @cH a ob xs ea =>
  cases(show u=Value.ref a from rx)
  obtain⟨_,_,_,n,_,h1⟩:=(show fj X.prog X.w H s.heap a (.cH ob (.lst xs))from I.hok a _ ea)
  exact alU aoU I.fB ⟨_,h1,rfl⟩ e (λz=>nomatch z) h
 | @tup a xs ea =>
  cases(show u=Value.ref a from rx)
  obtain⟨_,_,_,p⟩:=(show fj X.prog X.w H s.heap a (.tup xs)from I.hok a _ ea)
  obtain⟨o,h1,h2,_⟩:=p
  exact alU PySem.W.kitx_tuple I.fB ⟨o,h1,h2⟩ e (λz=>nomatch z) h
 | @dK a kvs ea =>
  cases(show u=Value.ref a from rx)
  obtain⟨_,_,vs,_,p⟩:=(show fj X.prog X.w H s.heap a (.dK kvs)from I.hok a _ ea)
  obtain⟨o,es,ep,h1,h2,_⟩:=p
  exact alU an4 I.fB ⟨o,h1,h2.1⟩ e (λz=>nomatch z) h
 | @dT a kvs ea =>
  cases(show u=Value.ref a from rx)
  obtain⟨_,_,xs,_,o,es,ep,h1,h2,_⟩:=(show fj X.prog X.w H s.heap a (.dT kvs)from I.hok a _ ea)
  exact alU an4 I.fB ⟨o,h1,h2.1⟩ e (λz=>nomatch z) h
 | @ins a C dx fs ea cl ha hn htk hm =>
  cases(show u=Value.ref a from rx)
  obtain⟨mA,O,_⟩:=ac4 I.hok ea
  obtain⟨od,J,_⟩:=O.look
  exact alU (PySem.W.kitx_own (cl.get _) cl.hd ha hn htk hm) I.fB J e (λz=>nomatch z) h
end
structure cR (k:Nat) (A:Around):Prop where
 hd:A.handled=none
 dp:A.depth+3*k+5<recursionLimit
 un:A.units+16*k+200<cLine
theorem cR.mono{j k:Nat}{A:Around}(r:cR k A) (h:j<=k):cR j A:=⟨r.hd,by have:=r.dp;omega,by have:=r.un;omega⟩
theorem cR.deeper{k:Nat}{A:Around}(r:cR (k+1) A) (env:Env):cR k (A.deeper env) :=
 ⟨r.hd,by have:=r.dp;show A.depth+1+3*k+5<_;omega,by have:=r.un;show A.units+3+16*k+200<_;omega⟩
theorem cR.depth{k:Nat}{A:Around}(r:cR k A):A.depth<recursionLimit:=by have:=r.dp;omega
theorem cR.units{k:Nat}{A:Around}(r:cR k A):A.units+64<cLine:=by have:=r.un;omega
def Rh:TA:=λ_ H Q=>Q [] H
def Rv(ta:TE) (tr:TA):TA:=λσ H Q=>ta σ H λx H1=>tr σ H1 λxs H2=>Q (x::xs) H2
section
variable {X:Cx}{e:Expr}{es:List Expr}{te:TE}{t:TA}{pos:Pos}
theorem jP:PA X [] Rh:=λ_ _ _ _ H Q I h=>Calls.spliced_nil ⟨[],H,I,.nil,h⟩
theorem jl(ha:PE X e te) (hr:PA X es t) (hs:starEach (e::es) X.env=(false,eval e X.env)::starEach es X.env:=by rfl):PA X (e::es) (Rv te t):=by
 intro pos pins s σ H Q I h
 rw[hs]
 show wpAny _ _ (spliced ((false,eval e X.env)::backTo pos (starEach es X.env))) _ _ s
 refine Calls.spliced_cons (bh (ha pins s σ H _ I h) λu s1 ⟨x,H1,I1,r1,q1⟩=>?_)
 exact bh (hr pos pins s1 σ H1 _ I1 q1) λus s2 ⟨xs,H2,I2,r2,q2⟩=>⟨x::xs,H2,I2,.cons r1 r2,q2⟩
def Q5(t:TA):TE:=λσ H Q=>t σ H λxs H1=>xs.length<=sizeLine/\∀p,H1 p=none->Q (.ref p) (upd H1 p (.tup xs))
def Rj(t:TA):TE:=λσ H Q=>t σ H λxs H1=>xs.length<=sizeLine/\∀p,H1 p=none->Q (.ref p) (upd H1 p (.lst xs))
theorem WH{x1}(h:PA X es t):PE X (.Tuple es x1 pos) (Q5 t):=by
 intro pins s σ H Q I hq
 refine wpAny_Tuple_spliced (bh (h pos pins s σ H _ I hq) λus s1 ⟨xs,H1,I1,r,z,q⟩=>⟨by rw[<-r.length];exact z,?_⟩)
 have hf:H1 s1.heap.objs.size=none:=I1.hok.fresh (akV _)
 refine⟨.ref s1.heap.objs.size,upd H1 s1.heap.objs.size (.tup xs),I1.laid (t':=s1.toks) (λb u e=>akX _ e) (akV _) ?_,rfl,q _ hf⟩
 exact⟨z,us,r,⟨_,alb _ rfl,rfl,⟨_,rfl⟩,rfl⟩⟩
theorem JB(h:PA X es t):PE X (.List es pos) (Rj t):=by
 intro pins s σ H Q I hq
 refine wpAny_List_spliced (bh (h pos pins s σ H _ I hq) λus s1 ⟨xs,H1,I1,r,z,q⟩=>⟨by rw[<-r.length];exact z,?_⟩)
 have hf:H1 s1.heap.objs.size=none:=I1.hok.fresh (akV _)
 refine⟨.ref s1.heap.objs.size,upd H1 s1.heap.objs.size (.lst xs),I1.laid (t':=s1.toks) (λb u e=>akX _ e) (akV _) ?_,rfl,q _ hf⟩
 exact⟨z,us,0,r,alb _ rfl⟩
end
abbrev Sp:=List V->Hp->VK->XK->Prop
abbrev oj:=List Env->Hp->Shared->XK->Value->Shared->Prop
structure qk (P:Program) (w:World) (K:PySem.W.Frag) (mg:Str->Option Value) (base:Heap) (A:Around) (outer:List Env) (s:Shared) (H:Hp):Prop where
 frames:A.frames=some outer
 mod:Mod K mg base
 bs:∀b o,base.get? b=some o->s.heap.get? b=some o/\H b=none
 g8:base.objs.size<=s.heap.objs.size
 gK:s.heap.FunFrames base outer
 j3:∀b∈frs outer,H b=none
 hok:c7 P w H s.heap
 bare:AllBare s.gens
def CE(outer:List Env) (P:Program) (w:World) (H:Hp) (s:Shared) (Q:VK) (u:Value) (s':Shared):Prop :=
 ∃v H',s'.os=s.os/\AllBare s'.gens/\Un (frs outer) [] H H' s.heap s'.heap/\c7 P w H' s'.heap/\RelV v u/\Q v H'
def CR(CX:oj) (outer:List Env) (P:Program) (w:World) (H:Hp) (s:Shared) (Q:VK) (E:XK) (r:Result) (s':Shared):Prop :=
 match r with
 |.ok (.ret u)=>CE outer P w H s Q u s'
 |.ok _=>False
 |.error e=>CX outer H s E e s'
structure bI (P:Program) (w:World) (K:PySem.W.Frag) (mg:Str->Option Value) (base:Heap) (CX:oj) (k:Nat) (f:Addr) (fd:FuncData) (ps:List Str) (sp:Sp):Prop where
 len:∀vs H Q E,sp vs H Q E->vs.length=ps.length
 run:∀(A:Around) (outer:List Env) (s:Shared) (H:Hp) (args:Args) (us:List Value) (vs:List V) (Q:VK) (E:XK),cR k A->qk P w K mg base A outer s H->BindsTo s fd args (ps.zip us)->Vals vs us->sp vs H Q E ->
  codeAny (model P w) A (.call (.ref f) args) (CR CX outer P w H s Q E) s
section
variable {X:Cx}{pins:List (Addr×Obj)}{σ:St}{H:Hp}{s s':Shared}
theorem Inv.Fb(I:Inv X pins σ H s):qk X.prog X.w X.K X.mg X.base X.A X.stack s H :=
 ⟨I.ok.frames,I.ok.mod,I.bs,alk I.ok.g8 I.sz,I.stack,I.AZ,I.hok,I.bare⟩
theorem Inv.after{Q:VK}{u:Value}(I:Inv X pins σ H s) (h:CE X.stack X.prog X.w H s Q u s'):EP X pins σ Q u s':=by
 obtain⟨v,H',os,bare,un,hok,r,q⟩:=h
 obtain⟨hh,g,d,t,os'⟩:=s'
 obtain rfl:os'=s.os:=os
 exact⟨v,H',I.call (h':=hh) (g':=g) (d':=d) (t':=t) (ch:=[]) un hok bare (λb z=>absurd z (by simp)),r,q⟩
end
def Ir(sp:Sp) (nM:List V) (E:XK) (t:TA):TE:=λσ H Q=>t σ H λvs H1=>sp (vs++nM) H1 Q E
def Binds(K:PySem.W.Frag) (fd:FuncData) (ps:List Str) (ds:List Value):Prop :=
 ∀(s:Shared) (us:List Value),K.In s.heap->(us++ds).length=ps.length->BindsTo s fd ⟨us,[]⟩ (ps.zip (us++ds))
theorem Binds.all{K:PySem.W.Frag}{fd:FuncData}{ps:List Str}(h:∀us:List Value,us.length=ps.length->bindArgs fd ⟨us,[]⟩=pure (ps.zip us)):Binds K fd ps []:=λs us _ hl=>by
 rw[al3]at hl ⊢
 exact .of_eq (h us hl)
def Passes(CX:oj) (X:Cx) (E:XK):Prop:=∀(pins:List (Addr×Obj)) (σ:St) (H:Hp) (s:Shared) (e:Value) (s':Shared),Inv X pins σ H s->CX X.stack H s E e s'->X.xe e s'
section
variable {X:Cx}{CX:oj}{k:Nat}{f C:Addr}{fd:FuncData}{ps:List Str}{sp:Sp}{nM:List V}{ds:List Value}{E:XK}{x m:Str}{p pos apos:Pos}{e o:Expr}{es:List Expr}{ta:TE}{t:TA}
theorem Ue{pins:List (Addr×Obj)}{σ:St}{H:Hp}{s:Shared}{Q:VK}{us:List Value}{vs:List V}(F:bI X.prog X.w X.K X.mg X.base CX k f fd ps sp) (hr:cR k X.A) (hb:Binds X.K fd ps ds) (hd:Vals nM ds) (hx:Passes CX X E)
  (I:Inv X pins σ H s) (r:Vals vs us) (h:sp (vs++nM) H Q E):wpAny (model X.prog X.w) X.A (call (.ref f) us) (EP X pins σ Q) X.xe s:=by
 have r2:Vals (vs++nM) (us++ds):=r.append hd
 have hl:(us++ds).length=ps.length:=by rw[<-r2.length];exact F.len _ _ _ _ h
 refine amE (al0 (F.run X.A X.stack s H ⟨us,[]⟩ (us++ds) (vs++nM) Q E hr I.Fb (hb s us I.fB hl) r2 h) λr s' hq=>?_)
 cases r with
 |error e=>exact hx pins σ H s e s' I hq
 |ok fl =>
  cases fl with
  |ret u=>exact I.after hq
  |next=>exact False.elim hq
  |brk=>exact False.elim hq
  |cont=>exact False.elim hq
theorem WZ(F:bI X.prog X.w X.K X.mg X.base CX k f fd ps sp) (hr:cR k X.A) (hg:Gl X x) (hm:X.mg x=some (.ref f)) (hk:PySem.W.keepIn X.K (.ref f)=true) (hb:Binds X.K fd ps ds) (hd:Vals nM ds) (hx:Passes CX X E)
  (ha:PA X (e::es) t) (hdb:(x==("__debug__":Str))=false:=by decide) (he:starEach (e::es) X.env=(false,eval e X.env)::starEach es X.env:=by rfl) (hpl:(backTo pos (starEach es X.env)).any (·.1)=false:=by rfl) :
  PE X (.Call (.Name x p) (e::es) [] pos) (Ir sp nM E t):=by
 intro pins s σ H Q I h
 refine am5 (Cf I hg hm ?_ hdb)
 refine aoV (h₀:=X.base) I.ok.mod.kU hk (bh (ha pos pins s σ H _ I h) λus s1 ⟨vs,H1,I1,r,q⟩=>⟨I1.fB,?_⟩) he hpl
 exact Ue F hr hb hd hx I1 r q
end
structure b9 (N P:List Str) (sc:Scope):Prop where
 kind:sc.kind=.function
 co:sc.isCoroutine=false
 gen:sc.isGenerator=false
 nd:N.Nodup
 pre:N.take P.length=P
 par:∀x∈P,sc.names.lookup x=some .local\/sc.names.lookup x=some .cell
 Z8:∀y∈sc.names,y.2≠.free
theorem N1{kindOf:Str->Option NameKind}{x:Str}:∀{binds:List (Str×Value)}{m:Str->Option Value},(∀v,(x,v)∉binds)->bindL kindOf binds m x=m x
 |[],_,_=>rfl
 |(n,v)::r,m,h=>by
  unfold bindL
  rw[N1 λw hw=>h w (alD _ hw)]
  split
  ·have:x≠n:=by rintro rfl;exact h v alN
   simp[this]
  ·rfl
theorem N3{kindOf:Str->Option NameKind}{x:Str}:∀{binds:List (Str×Value)}{m:Str->Option Value},(∀v,(x,v)∉binds)->bindC kindOf binds m x=m x
 |[],_,_=>rfl
 |(n,v)::r,m,h=>by
  unfold bindC
  rw[N3 λw hw=>h w (alD _ hw)]
  split
  ·rfl
  ·have:x≠n:=by rintro rfl;exact h v alN
   simp[this]
theorem N2{kindOf:Str->Option NameKind}{x:Str}{v:Value}:∀{P:List Str}{vs:List Value}{i:Nat}{m:Str->Option Value},P.Nodup->P[i]? = some x->vs[i]? = some v->kindOf x=some .local ->
  bindL kindOf (P.zip vs) m x=some v
 |[],_,_,_,_,h,_,_=>by simp at h
 |_::_,[],_,_,_,_,h,_=>by simp at h
 |p::P,w::vs,0,m,nd,h1,h2,hk=>by
  simp at h1 h2;subst h1;subst h2
  show bindL kindOf ((p,w)::P.zip vs) m p=_
  unfold bindL
  rw[N1 λv hv=>(al8.mp nd).1 (am6 hv).1,if_pos hk]
  simp
 |p::P,w::vs,i+1,m,nd,h1,h2,hk=>by
  show bindL kindOf ((p,w)::P.zip vs) m x=_
  unfold bindL
  exact N2 (i:=i) (al8.mp nd).2 (by simpa using h1) (by simpa using h2) hk
theorem N4{kindOf:Str->Option NameKind}{x:Str}{v:Value}:∀{P:List Str}{vs:List Value}{i:Nat}{m:Str->Option Value},P.Nodup->P[i]? = some x->vs[i]? = some v->kindOf x≠some .local ->
  bindC kindOf (P.zip vs) m x=some v
 |[],_,_,_,_,h,_,_=>by simp at h
 |_::_,[],_,_,_,_,h,_=>by simp at h
 |p::P,w::vs,0,m,nd,h1,h2,hk=>by
  simp at h1 h2;subst h1;subst h2
  show bindC kindOf ((p,w)::P.zip vs) m p=_
  unfold bindC
  rw[N3 λv hv=>(al8.mp nd).1 (am6 hv).1,if_neg hk]
  simp
 |p::P,w::vs,i+1,m,nd,h1,h2,hk=>by
  show bindC kindOf ((p,w)::P.zip vs) m x=_
  unfold bindC
  exact N4 (i:=i) (al8.mp nd).2 (by simpa using h1) (by simpa using h2) hk
def start(N:List Str) (vs:List V):St:=vs.map some++List.replicate (N.length-vs.length) none
def j5(CX:oj) (P:Program) (w:World) (K:PySem.W.Frag) (mg:Str->Option Value) (base:Heap) (N:List Str) (qual:Str) (scope:Scope) (f:Addr) (cd:Value) (A:Around) (outer:List Env) (s:Shared) (H:Hp) (E:XK):Cx where
 prog:=P
 w:=w
 K:=K
 mg:=mg
 base:=base
 A:=A.deeper (envOfC qual scope s.heap.objs.size f cd)
 N:=N
 s₀:=s
 H₀:=H
 env:=envOfC qual scope s.heap.objs.size f cd
 outer:=outer
 stack:=envOfC qual scope s.heap.objs.size f cd::outer
 ex:=[]
 calm:=true
 fn:=λ_=>true
 pn:=[]
 xe:=λe s'=>wpAny (model P w) (A.deeper (envOfC qual scope s.heap.objs.size f cd)) (leaving (envOfC qual scope s.heap.objs.size f cd) e) (λ_ s''=>CX outer H s E e s'') (λe' s''=>CX outer H s E e' s'') s'
theorem M8{sc:Scope}{n:Nat}{x:Str}(h:sc.names.lookup x=some .cell):∃c,(cellsFrom n sc.names []).lookup x=some c:=by
 have q:=anr sc.names n [] (.inl h)
 exact ans.mp q
theorem ac2{CX:oj}{P:Program}{w:World}{K:PySem.W.Frag}{mg:Str->Option Value}{base:Heap}{N ps:List Str}{qual:Str}{scope:Scope}{f:Addr}{cd:Value}{A:Around}{outer:List Env}{s s1:Shared}{H:Hp}{E:XK}{us:List Value}{vs:List V}
  (S:b9 N ps scope) (hd:A.handled=none) (e0:qk P w K mg base A outer s H) (hl:vs.length=ps.length) (r:Vals vs us)
  (x:InCallC s s.heap.objs.size (bindL (envOfC qual scope s.heap.objs.size f cd).kindOf (ps.zip us) λ_=>none) (cellsFrom (s.heap.objs.size+1) scope.names []) (bindC (envOfC qual scope s.heap.objs.size f cd).kindOf (ps.zip us) λ_=>none) s1) :
  Inv (j5 CX P w K mg base N qual scope f cd A outer s H E) [] (start N vs) H s1:=by
 have hpl:ps.length<=N.length:=by have:=congrArg List.length S.pre;rw[ami]at this;omega
 obtain⟨h1,tk,rfl,hk⟩:=x.done
 have kM:∀b:Addr,b∉(j5 CX P w K mg base N qual scope f cd A outer s H E).ex:=λb z=>absurd (show b∈([]:List Addr)from z) (by simp)
 refine⟨⟨e0.mod,S.kind,rfl,rfl,akV _,λy z c h1 h2=>?_,λy hy=>?_,λy c _ h=>?_,λ_=>hd,Around.frames_deeper e0.frames,.inr ⟨rfl,rfl⟩,λb z=>absurd z (kM b),e0.bs,e0.g8,λb _ _=>kM b,λb z=>absurd z (kM b),e0.gK,e0.j3⟩,
  rfl,e0.bare,Un.kept hk,⟨_,x.toInCall.ns,λi y v h1 h2 h3=>?_⟩,λy c h=>⟨_,x.cell y c h⟩,e0.hok.fresh (akV _),λy c h=>?_,λp hp=>absurd (show p∈([]:List (Addr×Obj))from hp) (by simp),e0.hok.kept hk,?_⟩
 ·exact name_of_addr x.apart (al1 h1) (al1 h2)
 ·have hy:scope.names.lookup y=some .cell\/scope.names.lookup y=some .free:=hy
  rcases hy with hy|hy
  ·exact M8 hy
  ·exact absurd rfl (S.Z8 _ (al1 hy))
 ·exact amg (x.above y c (al1 h))
 ·have hi:i<vs.length:=by
   unfold start at h2
   by_cases hi:i<vs.length
   ·exact hi
   ·rw[alL (by simpa using hi)]at h2
    rw[aoW]at h2
    split at h2<;>cases h2
  have ha:vs[i]? = some v:=by
   unfold start at h2
   rw[alA (by simpa using hi),ale]at h2
   cases e:vs[i]? with
   |none=>rw[e]at h2;cases h2
   |some a=>rw[e]at h2;cases h2;rfl
  obtain⟨u,hu,rv⟩:=r.get ha
  have hp:ps[i]? = some y:=by
   rw[<-S.pre,ant (by omega)];exact h1
  have Kr:ps.Nodup:=by rw[<-S.pre];exact S.nd.sublist (an5 _ _)
  refine⟨u,rv,?_⟩
  rcases S.par y (alo hp)with k|k
  ·exact .inl ⟨k,N2 Kr hp hu k⟩
  ·obtain⟨c,e⟩:=M8 (n:=s.heap.objs.size+1) k
   refine .inr ⟨.inl k,c,e,?_⟩
   have q:=x.cell y c e
   rw[N4 Kr hp hu (by show scope.names.lookup y≠_;rw[k];decide)]at q
   exact q
 ·exact e0.hok.fresh (amg (x.above y c (al1 h)))
 ·unfold start
  show _=N.length
  rw[als,ak4,anu]
  omega
theorem Mn{CX:oj}{P:Program}{w:World}{K:PySem.W.Frag}{mg:Str->Option Value}{base:Heap}{k:Nat}{f:Addr}{name qual:Str}{params:Arguments}{body:List Stmt}{scope:Scope}{dV kV doc pm cdv ct oc:Value}{an od:Option Addr}
  {osl:Array (Option Value)}{N ps:List Str}{sp:Sp}(lk:K.lookup f=some ⟨oc,od,.func (PySem.W.fnOf name qual params body scope dV kV doc pm an cdv ct),osl⟩) (hcd:PySem.W.codeIn K cdv qual=true) (S:b9 N ps scope)
  (len:∀vs H Q E,sp vs H Q E->vs.length=ps.length)
  (hbody:∀(A:Around) (outer:List Env) (s:Shared) (H:Hp) (vs:List V) (Q:VK) (E:XK),cR k (A.deeper (envOfC qual scope s.heap.objs.size f cdv))->sp vs H Q E ->
   ∃t,fY (j5 CX P w K mg base N qual scope f cdv A outer s H E) body t/\t {nx:=λ_ H'=>Q .aO H',rt:=Q} (start N vs) H) :
  bI P w K mg base CX (k+1) f (PySem.W.fnOf name qual params body scope dV kV doc pm an cdv ct) ps sp:=by
 refine⟨len,λA outer s H args us vs Q E hr e0 hb r jY=>?_⟩
 have hl:=len _ _ _ _ jY
 have KX:K.In s.heap:=e0.mod.kU.keeps λb o e=>(e0.bs b o e).1
 have lim:s.heap.NoLimit:=e0.mod.nolimit.keeps λb o e=>(e0.bs b o e).1
 have hkind:∀y∈ps.zip us,scope.names.lookup y.1=some .local\/(scope.names.lookup y.1=some .cell/\((cellsFrom (s.heap.objs.size+1) scope.names []).lookup y.1).isSome=true):=fun⟨n,v⟩ hy=>by
  rcases S.par n (am6 hy).1 with q|q
  ·exact .inl q
  ·exact .inr ⟨q,anr _ _ _ (.inl q)⟩
 refine codeAny_call_function hr.depth (KX _ _ lk) rfl S.co S.gen rfl (PySem.W.codeRec_of KX hcd) (hb _ _ _ _ ?_)
 refine wpAny_newFunctionEnv_cells S.kind hkind λenv he s1 x=>?_
 subst he
 refine⟨lim.keeps x.toInCall.keep,codeAny_func ?_⟩
 obtain⟨t,ht,hq⟩:=hbody A outer s H vs Q E (hr.deeper _) jY
 have I:Inv (j5 CX P w K mg base N qual scope f cdv A outer s H E) [] (start N vs) H s1:=ac2 S hr.hd e0 hl r x
 refine alE (ht [] s1 (start N vs) H _ I hq) (λfl s' hs=>?_) λe s' hs=>hs
 have fin:∀{σ':St}{H':Hp}{v:V}{u:Value},Inv (j5 CX P w K mg base N qual scope f cdv A outer s H E) [] σ' H' s'->RelV v u->Q v H'->CE outer P w H s Q u s' :=
  fun{σ' H' v u} J rv q=>⟨v,H',J.os,J.bare,J.base,J.hok,rv,q⟩
 cases fl with
 |ret u =>
  obtain⟨v,σ',H',J,rv,q⟩:=hs
  exact fin J rv q
 |next =>
  obtain⟨σ',H',J,q⟩:=hs
  exact fin (v:=V.aO) (u:=Value.none) J rfl q
 |brk =>
  obtain⟨_,_,_,q⟩:=hs
  exact False.elim q
 |cont =>
  obtain⟨_,_,_,q⟩:=hs
  exact False.elim q
section
variable {X:Cx}{x:Str}{p pos:Pos}{e:Expr}{es:List Expr}{t:TA}{id T:String}{r:List V->Hp->VK->Prop}
def Iu(r:List V->Hp->VK->Prop) (t:TA):TE:=λσ H Q=>t σ H λvs H1=>r vs H1 Q
theorem xR(hc:dW X (.builtin id) r) (hg:Gl X x) (hm:X.mg x=none) (hv:bootBuiltins x=some (.builtin id)) (ha:PA X (e::es) t) (hn:x≠"__name__":=by decide) (hdb:(x==("__debug__":Str))=false:=by decide)
  (he:starEach (e::es) X.env=(false,eval e X.env)::starEach es X.env:=by rfl) (hpl:(backTo pos (starEach es X.env)).any (·.1)=false:=by rfl):PE X (.Call (.Name x p) (e::es) [] pos) (Iu r t):=by
 intro pins s σ H Q I h
 refine am5 (kT I hg hm hv ?_ hn hdb)
 exact PyProof.Rows.callWith_builtin1 (bh (ha pos pins s σ H _ I h) λus s1 ⟨vs,H1,I1,r1,q1⟩=>hc pins s1 σ H1 vs us Q I1 r1 q1) he hpl
theorem nc(hc:dW X (.type T) r) (hg:Gl X x) (hm:X.mg x=none) (hv:bootBuiltins x=some (.type T)) (ha:PA X (e::es) t) (hn:x≠"__name__":=by decide) (hdb:(x==("__debug__":Str))=false:=by decide)
  (he:starEach (e::es) X.env=(false,eval e X.env)::starEach es X.env:=by rfl) (hpl:(backTo pos (starEach es X.env)).any (·.1)=false:=by rfl):PE X (.Call (.Name x p) (e::es) [] pos) (Iu r t):=by
 intro pins s σ H Q I h
 refine am5 (kT I hg hm hv ?_ hn hdb)
 exact amu (bh (ha pos pins s σ H _ I h) λus s1 ⟨vs,H1,I1,r1,q1⟩=>hc pins s1 σ H1 vs us Q I1 r1 q1) he hpl
end
end L2
namespace HT
open PySem PyProof.Rows
section
variable {prog:Program}{w:World}{A:Around}{E:Value->Shared->Prop}{s:Shared}
theorem ahp{t b:Addr}{vs ws:List Value}{Q:Value->Shared->Prop}(ht:IsTup s.heap t vs.toArray) (hb:IsTup s.heap b ws.toArray) (hv:vs≠[])
  (h1:ws=[]->Q (.ref t) s) (h2:ws≠[]->Q (.ref s.heap.objs.size) {s with heap:=s.heap.push {cls:=.type "tuple",data:=.seq (vs++ws).toArray} })
  (hsz:vs.length+ws.length<=sizeLine):wpAny (model prog w) A (binaryOp .Add (.ref t) (.ref b)) Q E s:=by
 obtain⟨⟨cls,dd,data,sl⟩,ho,hc,n,hd⟩:=id ht
 obtain⟨⟨cls2,dd2,data2,sl2⟩,ho2,hc2,n2,hd2⟩:=id hb
 simp only at hc hd hc2 hd2
 subst hc hd hc2 hd2
 have e:vs.toArray++ws.toArray=(vs++ws).toArray:=by simp
 by_cases hw:ws=[]
 ·exact concat_meets ⟨_,ho,rfl⟩ ⟨_,ho2,rfl⟩ noFill_tuple_add seq_tuple_add aoX aoY (aoZ _ _)
   (tuple_addW1 t b vs.toArray ws.toArray n n2 dd dd2 sl sl2 (by simpa using hv) (by simp[hw])) ⟨ho,ho2,h1 hw⟩
 ·refine concat_meets ⟨_,ho,rfl⟩ ⟨_,ho2,rfl⟩ noFill_tuple_add seq_tuple_add aoX aoY (aoZ _ _)
   (tuple_addW2 t b vs.toArray ws.toArray n n2 dd dd2 sl sl2 (by simpa using hv) (by simpa using hw) (by rw[ak8,ak8];exact hsz)) ⟨ho,ho2,?_⟩
  rw[e]
  exact h2 hw
def fq(n d:Nat):Option Int->Nat
 |none=>d
 |some v=>if v<0 then(v+(n:Int)).toNat else min v.toNat n
theorem T6(n d k:Nat):fq n d (some (k:Int))=min k n:=by
 show(if(k:Int)<0 then((k:Int)+(n:Int)).toNat else min (k:Int).toNat n)=min k n
 rw[if_neg (by omega),am7]
end
end HT
namespace L2
open PySem PySem.Spec PyProof.Rows
abbrev TO:=St->Hp->(Option Int->Hp->Prop)->Prop
def PO(X:Cx) (e:Option Expr) (t:TO):Prop :=
 ∀(pins:List (Addr×Obj)) (s:Shared) (σ:St) (H:Hp) (Q:Option Int->Hp->Prop),Inv X pins σ H s->t σ H Q ->
  wpAny (model X.prog X.w) X.A (evalPart e X.env) (λu s'=>∃o H',Inv X pins σ H' s'/\IsPart u o/\Q o H') X.xe s
def Rg:TO:=λ_ H Q=>Q none H
def Ra(t:TE):TO:=λσ H Q=>t σ H λx H1=>∃i,x=.int i/\Q (some i) H1
section
variable {X:Cx}{e:Expr}{te:TE}{lo hi:Option Expr}{tl th:TO}{pos p2:Pos}
theorem VC:PO X none Rg:=by
 intro pins s σ H Q I h
 rw[evalPart_none]
 exact akU ⟨none,H,I,.none,h⟩
theorem VB(h:PE X e te):PO X (some e) (Ra te):=by
 intro pins s σ H Q I hw
 rw[evalPart_some]
 refine bh (h pins s σ H _ I hw) λu s1 ⟨x,H1,I1,r1,q1⟩=>?_
 obtain⟨i,rfl,q⟩:=q1
 obtain⟨t,rfl⟩:=r1
 exact⟨some i,H1,I1,.int i t,q⟩
def Oj(X:Cx) (r:V->Option Int->Option Int->Hp->VK->Prop):Prop :=
 ∀(pins:List (Addr×Obj)) (s:Shared) (σ:St) (H:Hp) (x:V) (v vl vu:Value) (lo hi:Option Int) (sl:Addr) (Q:VK),Inv X pins σ H s->RelV x v->s.heap.IsSliceOf sl vl vu .none->IsPart vl lo->IsPart vu hi->r x lo hi H Q ->
  ∃T id,typeLookup (.type T) "__getitem__"=pure (some (.builtin id))/\s.TypeIs v T/\wpAny (model X.prog X.w) X.A (getItem v (.ref sl)) (EP X pins σ Q) X.xe s
def Q6(r:V->Option Int->Option Int->Hp->VK->Prop) (te:TE) (tl th:TO):TE:=λσ H Q=>te σ H λx H1=>tl σ H1 λl H2=>th σ H2 λu H3=>r x l u H3 Q
theorem WJ{r:V->Option Int->Option Int->Hp->VK->Prop}(hr:Oj X r) (he:PE X e te) (hl:PO X lo tl) (hu:PO X hi th):PE X (.Subscript e (.Slice lo hi none p2) pos) (Q6 r te tl th):=by
 intro pins s σ H Q I h
 refine Subscript_ (bh (he pins s σ H _ I h) λv s1 ⟨x,H1,I1,r1,q1⟩=>?_)
 refine wpAny_Slice (bh (hl pins s1 σ H1 _ I1 q1) λvl s2 ⟨l,H2,I2,pl,q2⟩=>bh (hu pins s2 σ H2 _ I2 q2) λvu s3 ⟨u,H3,I3,pu,q3⟩=>?_)
 rw[evalPart_none]
 refine akU ?_
 have I4:Inv X pins σ H3 {s3 with heap:=s3.heap.push {cls:=.type "slice",data:=.fields #[vl,vu,.none]} }:=I3.kept (t':=s3.toks) λb ob q=>akX _ q
 obtain⟨T,id,hT,ht,hg⟩:=hr pins {s3 with heap:=s3.heap.push {cls:=.type "slice",data:=.fields #[vl,vu,.none]} } σ H3 x v vl vu l u s3.heap.objs.size Q I4 r1 (Heap.IsSliceOf.new ..) pl pu q3
 show wpAny (model X.prog X.w) X.A (subscriptTail e (.Slice lo hi none p2) v (.ref s3.heap.objs.size)) (EP X pins σ Q) X.xe {s3 with heap:=s3.heap.push {cls:=.type "slice",data:=.fields #[vl,vu,.none]} }
 exact tail_any (ops:=[.ref s3.heap.objs.size,v]) ht hT hg (by with_unfolding_all rfl)
def sV(xs:List V) (lo hi:Option Int):List V:=(xs.drop (HT.fq xs.length 0 lo)).take (HT.fq xs.length xs.length hi-HT.fq xs.length 0 lo)
theorem agb(xs:List V) (lo hi:Option Int):(sV xs lo hi).length<=xs.length:=by
 unfold sV
 rw[ami,List.length_drop]
 omega
def UQ(K:PySem.W.Frag):R2:=λx y H Q=>∃a b xs ys,x=.ref a/\y=.ref b/\cI K H a xs/\cI K H b ys/\xs≠[]/\xs.length+ys.length<=sizeLine /\
 (ys=[]->Q (.ref a) H)/\(ys≠[]->∀p,H p=none->Q (.ref p) (upd H p (.tup (xs++ys))))
theorem Vals.BK{xs:List V}{us:List Value}(r:Vals xs us):us=[]↔xs=[]:=by
 cases r with
 |nil=>simp
 |cons _ _=>simp
theorem XJ:bQ X (binaryOp .Add) (UQ X.K):=by
 intro pins s σ H x y v u Q I rx ry h
 obtain⟨a,b,xs,ys,rfl,rfl,ha,hb,hx,hz,q1,q2⟩:=h
 cases rx
 cases ry
 obtain⟨its,r1,p1,_⟩:=I.tuple ha
 obtain⟨its2,r2,p2,_⟩:=I.tuple hb
 refine HT.ahp p1 p2 (λz=>hx (r1.BK.mp z)) (λz=>⟨.ref a,H,I,rfl,q1 (r2.BK.mp z)⟩) (λz=>?_) (by rw[<-r1.length,<-r2.length];exact hz)
 refine⟨.ref s.heap.objs.size,_,I.laid (t':=s.toks) (o:=.tup (xs++ys)) (λb ob q=>akX _ q) (akV _) ?_,rfl,q2 (λw=>z (r2.BK.mpr w)) _ (I.hok.fresh (akV _))⟩
 exact⟨by rw[als];exact hz,_,r1.append r2,kh.new _ _⟩
end
def fV(n:Nat) (i:Int):Option Nat:=if 0<=i then(if i<n then some i.toNat else none)else if -(n:Int)<=i then some (i+n).toNat else none
def cT{α:Type}(xs:List α) (i:Int):Option α:=(fV xs.length i).bind λj=>xs[j]?
theorem Lb{n:Nat}{i:Int}{j:Nat}(h:fV n i=some j):seqIndex? i n=some j/\j<n/\-(n:Int)<=i/\i<n:=by
 unfold fV at h
 by_cases h0:0<=i
 ·rw[if_pos h0]at h
  by_cases h1:i<n
  ·rw[if_pos h1]at h
   have e:i.toNat=j:=alh h
   exact⟨by rw[seqIndex_of h0 h1,e],by omega,by omega,h1⟩
  ·rw[if_neg h1]at h;cases h
 ·rw[if_neg h0]at h
  by_cases h1:-(n:Int)<=i
  ·rw[if_pos h1]at h
   have e:(i+n).toNat=j:=alh h
   exact⟨by rw[seqIndex_neg (by omega) h1,e],by omega,h1,by omega⟩
  ·rw[if_neg h1]at h;cases h
theorem N8{α:Type}{xs:List α}{i:Int}{v:α}(h:cT xs i=some v):∃j,seqIndex? i xs.length=some j/\xs[j]? = some v/\j<xs.length/\-(xs.length:Int)<=i/\i<xs.length:=by
 unfold cT at h
 cases e:fV xs.length i with
 |none=>rw[e]at h;cases h
 |some j =>
  rw[e]at h
  obtain⟨h1,h2,h3,h4⟩:=Lb e
  exact⟨j,h1,h,h2,h3,h4⟩
theorem gO{α:Type}{xs:List α}{j:Nat}{v:α}(h:xs[j]? = some v):cT xs (j:Int)=some v:=by
 have hj:j<xs.length:=(ala.mp h).1
 have e:fV xs.length (j:Int)=some j:=by
  unfold fV
  rw[if_pos (by omega),if_pos (by omega)];simp
 unfold cT;rw[e];exact h
def Ol(b:Expr):Prop:=∀o i,subscripted b false o i=operate [o,i] (getItem o i)
def wC(X:Cx) (r:R2):Prop :=
 ∀(value slice:Expr) (pins:List (Addr×Obj)) (s:Shared) (σ:St) (H:Hp) (x y:V) (v u:Value) (Q:VK),Inv X pins σ H s->RelV x v->RelV y u->r x y H Q ->
  subscripted slice false v u=operate [v,u] (getItem v u)->wpAny (model X.prog X.w) X.A (subscriptTail value slice v u) (EP X pins σ Q) X.xe s
def MtR(X:Cx) (id:String) (r:V->List V->Hp->VK->Prop):Prop :=
 ∀(pins:List (Addr×Obj)) (s:Shared) (σ:St) (H:Hp) (x:V) (xs:List V) (v:Value) (us:List Value) (Q:VK),Inv X pins σ H s->RelV x v->Vals xs us->r x xs H Q ->
  wpAny (model X.prog X.w) X.A (call (.builtin id) (v::us)) (EP X pins σ Q) X.xe s
section
variable {X:Cx}{a b:Expr}{ta tb:TE}{pos:Pos}
theorem WQ{r:R2}(hr:wC X r) (ha:PE X a ta) (hb:PE X b tb) (hs:Ol b):PE X (.Subscript a b pos) (wY r ta tb):=by
 intro pins s σ H Q I h
 exact Subscript_ (GU ha hb I h λv u s2 x y H2 I2 rx ry q=>hr a b pins s2 σ H2 x y v u Q I2 rx ry q (hs _ _))
def UN(K:PySem.W.Frag):R2:=λx y H Q=>∃p xs i v,x=.ref p/\y=.int i/\bH K H p xs/\cT xs i=some v/\Q v H
def UM(K:PySem.W.Frag):R2:=λx y H Q=>∃p xs i v,x=.ref p/\y=.int i/\cI K H p xs/\cT xs i=some v/\Q v H
theorem acP:wC X (UN X.K):=by
 intro value slice pins s σ H x y v u Q I rx ry h hs
 obtain⟨p,xs,i,z,rfl,rfl,hq,he,q⟩:=h
 cases rx
 obtain⟨t,rfl⟩:=ry
 obtain⟨its,r,pl,hz⟩:=I.list hq
 obtain⟨j,h1,h2,h3,h4,h5⟩:=N8 he
 obtain⟨w,ew,rw'⟩:=r.get h2
 have hl:=r.length
 have hn:=vc
 have fin:EP X pins σ Q w s:=⟨z,H,I,rw',q⟩
 by_cases h0:0<=i
 ·have hj:i.toNat=j:=by
   rw[seqIndex_of h0 h5]at h1
   exact alh h1
  exact item_listR pl.isList h0 (by omega) (by rw[hj];simpa using ew) fin hs
 ·have hj:(i+(its.toArray.size:Int)).toNat=j:=by
   rw[seqIndex_neg (by omega) h4]at h1
   rw[ak8,<-hl]
   exact alh h1
  exact subscriptTail_builtinR (x:=w) pl.isList.typeIs slot_list_getitem.lookup
   (wpAny_getItem_list_neg (Q:=λr s'=>r=w/\EP X pins σ Q r s') pl.isList (by omega) (by rw[ak8]<;>omega) (by omega) (by rw[hj];simpa using ew) ⟨rfl,fin⟩) hs
theorem acO:wC X (UM X.K):=by
 intro value slice pins s σ H x y v u Q I rx ry h hs
 obtain⟨p,xs,i,z,rfl,rfl,hq,he,q⟩:=h
 cases rx
 obtain⟨t,rfl⟩:=ry
 obtain⟨its,r,pl,hz⟩:=I.tuple hq
 obtain⟨j,h1,h2,h3,h4,h5⟩:=N8 he
 obtain⟨w,ew,rw'⟩:=r.get h2
 have hl:=r.length
 have hn:=vc
 have fin:EP X pins σ Q w s:=⟨z,H,I,rw',q⟩
 exact subscriptTail_builtinR (x:=w) pl.typeIs slot_tuple_getitem.lookup
  (getItem_tuple (j:=j) (Q:=λr s'=>r=w/\EP X pins σ Q r s') pl (by omega) (by omega) (by rw[ak8,<-hl];exact h1) (by simpa using ew) ⟨rfl,fin⟩) hs
theorem abi(its:List Value) (n j:Nat) (u:Value):Obj.mapSeq (·.setIfInBounds j u) {cls:=.type "list",data:=.seq its.toArray n}={cls:=.type "list",data:=.seq (its.set j u).toArray n}:=by
 simp[Obj.mapSeq]
theorem Inv.lst{pins:List (Addr×Obj)}{σ:St}{H:Hp}{s:Shared}{p:Addr}{xs:List V}(I:Inv X pins σ H s) (h:H p=some (.lst xs)) :
  ∃(its:List Value) (n:Nat),Vals xs its/\s.heap.get? p=some {cls:=.type "list",data:=.seq its.toArray n}/\xs.length<=sizeLine:=by
 obtain⟨z,its,n,r,e⟩:=I.hok p _ h
 exact⟨its,n,r,e,z⟩
theorem Inv.abl{pins:List (Addr×Obj)}{σ:St}{H:Hp}{s:Shared}{p:Addr}{xs ys:List V}{its its':List Value}{n n':Nat}{f:Obj->Obj}(I:Inv X pins σ H s) (h:H p=some (.lst xs))
  (ho:s.heap.get? p=some {cls:=.type "list",data:=.seq its.toArray n}) (hf:f {cls:=.type "list",data:=.seq its.toArray n}={cls:=.type "list",data:=.seq its'.toArray n'}) (r:Vals ys its') (hz:ys.length<=sizeLine) (t:Nat) :
  Inv X pins σ (upd H p (.lst ys)) {s with heap:=s.heap.update p f,toks:=t}:=by
 have e:(s.heap.update p f).get? p=some {cls:=.type "list",data:=.seq its'.toArray n'}:=by
  rw[am8 f ho (by rw[hf]<;>rfl),hf]
 refine I.write (x:=p) (e:=p) (by rw[h];trivial) (.inl rfl) (λb u hb q=>(amF _ _ (alF hb)).trans q) ⟨_,e⟩ ?_
 exact⟨hz,its',n',r,e⟩
def UC:V->V->V->Hp->(Hp->Prop)->Prop:=λo i v H Q=>∃p xs k j,o=.ref p/\i=.int k/\H p=some (.lst xs)/\fV xs.length k=some j/\Q (upd H p (.lst (xs.set j v)))
theorem set_list:Om X UC:=by
 intro pins s σ H o i v ov iv u Q I ro ri rv h
 obtain⟨p,xs,k,j,rfl,rfl,hp,hj,q⟩:=h
 cases ro
 obtain⟨t,rfl⟩:=ri
 obtain⟨its,n,r,ho,hz⟩:=I.lst hp
 obtain⟨h1,h2,h3,h4⟩:=Lb hj
 have hl:=r.length
 have hn:=vc
 have I':Inv X pins σ (upd H p (.lst (xs.set j v))) {s with heap:=s.heap.update p (Obj.mapSeq (·.setIfInBounds j u))} :=
  I.abl hp ho (abi its n j u) (r.set rv j) (by rw[an6];exact hz) s.toks
 by_cases h0:0<=k
 ·have hk:k.toNat=j:=by
   rw[seqIndex_of h0 h4]at h1
   exact alh h1
  exact PySem.W.ki_setAt ho h0 (by omega) (by rw[ak8,<-hl];exact h4) (by rw[hk];exact⟨_,I',q⟩)
 ·have hk:(k+(its.toArray.size:Int)).toNat=j:=by
   rw[seqIndex_neg (by omega) h3]at h1
   rw[ak8,<-hl]
   exact alh h1
  exact PySem.W.ki_setBack ho (by omega) (by rw[ak8,<-hl];exact h3) (by omega) (by rw[hk];exact⟨_,I',q⟩)
theorem Sb(lo hi:Option Int) (n:Nat):(sliceBounds lo hi none n).1=((HT.fq n 0 lo:Nat):Int)/\(sliceBounds lo hi none n).2.1=((HT.fq n n hi:Nat):Int)/\(sliceBounds lo hi none n).2.2=1:=by
 refine⟨?_,?_,rfl⟩
 ·cases lo with
  |none=>simp[sliceBounds,HT.fq]
  |some i =>
   simp only[sliceBounds,HT.fq,ao0,show(1:Int)>0 by decide,if_true]
   by_cases h:i<0
   ·simp only[h,if_true]<;>omega
   ·simp only[h,if_false]<;>omega
 ·cases hi with
  |none=>simp[sliceBounds,HT.fq]
  |some i =>
   simp only[sliceBounds,HT.fq,ao0,show(1:Int)>0 by decide,if_true]
   by_cases h:i<0
   ·simp only[h,if_true]<;>omega
   ·simp only[h,if_false]<;>omega
theorem Sd(its:List Value) (lo hi:Option Int):slicePick its.toArray lo hi none=((its.drop (HT.fq its.length 0 lo)).take (HT.fq its.length its.length hi-HT.fq its.length 0 lo)).toArray:=by
 obtain⟨h1,h2,h3⟩:=Sb lo hi its.toArray.size
 unfold slicePick
 rw[h1,h2,h3]
 simp only[sliceRange_one,pick_run,ak8]<;>rfl
def Uz(K:PySem.W.Frag):V->Option Int->Option Int->Hp->VK->Prop:=λx lo hi H Q=>∃a xs,x=.ref a/\bH K H a xs/\∀p,H p=none->Q (.ref p) (upd H p (.lst (sV xs lo hi)))
theorem Sk:Oj X (Uz X.K):=by
 intro pins s σ H x v vl vu lo hi sl Q I rx hs pl pu h
 obtain⟨a,xs,rfl,hx,q⟩:=h
 cases rx
 obtain⟨its,r,ht,hz⟩:=I.list hx
 have hlen:=r.length
 refine⟨"list",_,slot_list_getitem.lookup,ht.isList.typeIs,?_⟩
 refine wpAny_getItem_list_slice ht.isList hs pl pu .none (by simp) ?_ (by rw[ak8]<;>omega)
 rw[Sd,<-hlen]
 refine⟨.ref s.heap.objs.size,_,I.laid (t':=s.toks) (o:=.lst (sV xs lo hi)) (λb ob q=>akX _ q) (akV _) ?_,rfl,q _ (I.hok.fresh (akV _))⟩
 exact⟨alk (agb xs lo hi) hz,_,0,(r.drop (HT.fq xs.length 0 lo)).take (HT.fq xs.length xs.length hi-HT.fq xs.length 0 lo),alb _ rfl⟩
theorem ahw:dW X (.builtin "len") (λxs H Q=>∃p ys,xs=[.ref p]/\(bH X.K H p ys\/cI X.K H p ys)/\Q (.int ys.length) H):=by
 intro pins s σ H xs us Q I r h
 obtain⟨p,ys,rfl,hq,q⟩:=h
 obtain⟨u,rfl,rx⟩:=alK r
 cases rx
 have hn:=vc
 rcases hq with hq|hq
 ·obtain⟨its,r',pl,hz⟩:=I.list hq
  have hlen:=r'.length
  exact Calls.call_len_list pl.isList (by simp only[ak8]<;>omega) ⟨.int ys.length,H,I.tok _,⟨s.toks+1,by rw[ak8,hlen]⟩,q⟩
 ·obtain⟨its,r',pl,hz⟩:=I.tuple hq
  have hlen:=r'.length
  exact len_tuple pl (by simp only[ak8]<;>omega) ⟨.int ys.length,H,I.tok _,⟨s.toks+1,by rw[ak8,hlen]⟩,q⟩
theorem ahv:dW X (.builtin "len") (λxs H Q=>∃z,xs=[.str z]/\z.length<=sizeLine/\Q (.int z.length) H):=by
 intro pins s σ H xs us Q I r h
 obtain⟨z,rfl,hz,q⟩:=h
 obtain⟨u,rfl,t,rfl⟩:=alK r
 have hn:=vc
 exact len_str (by omega) ⟨.int z.length,H,I.tok _,⟨_,rfl⟩,q⟩
theorem ahu:dW X (.type "list") (λxs H Q=>∃p ys,xs=[.ref p]/\(bH X.K H p ys\/cI X.K H p ys)/\∀l,H l=none->Q (.ref l) (upd H l (.lst ys))):=by
 intro pins s σ H xs us Q I r h
 obtain⟨p,ys,rfl,hq,q⟩:=h
 obtain⟨u,rfl,rx⟩:=alK r
 cases rx
 have fin:∀(its:List Value),Vals ys its->ys.length<=sizeLine->∀(h':Heap) (c':Nat),(∀b o',s.heap.get? b=some o'->h'.get? b=some o') ->
   h'.get? s.heap.objs.size=some {cls:=.type "list",dict:=none,data:=.seq its.toArray c',slots:=#[]}->EP X pins σ Q (.ref s.heap.objs.size) {s with heap:=h'}:=λits r' hz h' c' kp e =>
  ⟨.ref s.heap.objs.size,_,I.laid (t':=s.toks) kp (akV _) (show fj X.prog X.w _ h' _ (.lst ys)from⟨hz,its,c',r',e⟩),rfl,q _ (I.hok.fresh (akV _))⟩
 rcases hq with hq|hq
 ·obtain⟨its,r',pl,hz⟩:=I.list hq
  have hlen:=r'.length
  obtain⟨o,ho,hc,n,hd⟩:=pl.isList
  exact call_list_seq p (.inl rfl) ho hc hd (λh' c' kp e=>fin its r' hz h' c' kp e) (by simp only[ak8]<;>omega)
 ·obtain⟨its,r',pl,hz⟩:=I.tuple hq
  have hlen:=r'.length
  obtain⟨o,ho,hc,n,hd⟩:=pl
  exact call_list_seq p (.inr rfl) ho hc hd (λh' c' kp e=>fin its r' hz h' c' kp e) (by simp only[ak8]<;>omega)
theorem ahr:dW X (.type "tuple") (λxs H Q=>∃p ys,xs=[.ref p]/\((bH X.K H p ys/\∀l,H l=none->Q (.ref l) (upd H l (.tup ys)))\/(cI X.K H p ys/\Q (.ref p) H))):=by
 intro pins s σ H xs us Q I r h
 obtain⟨p,ys,rfl,h⟩:=h
 obtain⟨u,rfl,rx⟩:=alK r
 cases rx
 rcases h with⟨hq,q⟩|⟨hq,q⟩
 ·obtain⟨its,r',pl,hz⟩:=I.list hq
  have hlen:=r'.length
  refine call_tuple_list pl.isList (λh' kp=>?_) (by simp only[ak8]<;>omega)
  have I1:Inv X pins σ H {s with heap:=h'}:=I.kept (t':=s.toks) kp
  have I2:Inv X pins σ (upd H h'.objs.size (.tup ys)) {s with heap:=h'.push {cls:=.type "tuple",data:=.seq its.toArray} } :=
   I1.laid (t':=s.toks) (λb o e=>akX _ e) (akV _) (show fj X.prog X.w _ _ _ (.tup ys)from⟨hz,its,r',kh.new _ _⟩)
  exact⟨.ref h'.objs.size,_,I2,rfl,q _ (I1.hok.fresh (akV _))⟩
 ·obtain⟨its,r',pl,hz⟩:=I.tuple hq
  exact call_tuple_same pl ⟨.ref p,H,I,rfl,q⟩
def HU(K:PySem.W.Frag) (T:String) (x:V) (H:Hp):Prop:=match x with
 |.str _=>T="str"
 |.int _=>T="int"
 |.ref p=>(T="list"/\∃xs,bH K H p xs)\/(T="tuple"/\((∃xs,H p=some (.tup xs))\/∃o,K.lookup p=some o/\o.cls=.type "tuple"/\o.dict=none)) \/
   (T="dict"/\((∃kvs,H p=some (.dK kvs))\/∃kvs,H p=some (.dT kvs)))\/(T="set"/\∃S n,H p=some (.set S n))
 |_=>False
theorem QF{pins:List (Addr×Obj)}{σ:St}{H:Hp}{s:Shared}{T:String}{x:V}{v:Value}(I:Inv X pins σ H s) (r:RelV x v) (ty:HU X.K T x H) :
  s.TypeIs v T/\∀a,v=.ref a->∃ob,s.heap.get? a=some ob/\ob.dict=none:=by
 cases x with
 |str z =>
  obtain⟨t,rfl⟩:=r
  cases(show T="str" from ty)
  exact⟨typeIs_str s z t,λ_ e=>nomatch e⟩
 |int i =>
  obtain⟨t,rfl⟩:=r
  cases(show T="int" from ty)
  exact⟨typeIs_int s i t,λ_ e=>nomatch e⟩
 |ref p =>
  cases r
  rcases ty with⟨rfl,xs,hq⟩|⟨rfl,⟨xs,hk⟩|⟨o,hk,hc,hd⟩⟩|⟨rfl,hk⟩|⟨rfl,S,n,hk⟩
  ·obtain⟨its,_,pl,_⟩:=I.list hq
   refine⟨pl.isList.typeIs,λa e=>?_⟩
   cases e
   obtain⟨o,n,e,c,hd,_⟩:=pl
   exact⟨o,e,hd⟩
  ·obtain⟨_,its,_,o,e,c,_,hd⟩:=(show fj X.prog X.w H s.heap p (.tup xs)from I.hok p _ hk)
   refine⟨⟨o,e,c⟩,λa e2=>?_⟩
   cases e2
   exact⟨o,e,hd⟩
  ·refine⟨⟨o,I.fB p o hk,hc⟩,λa e=>?_⟩
   cases e
   exact⟨o,I.fB _ o hk,hd⟩
  ·have z:∃o,s.heap.get? p=some o/\o.ExactDict:=by
    rcases hk with⟨kvs,hk⟩|⟨kvs,hk⟩
    ·obtain⟨_,_,_,_,o,_,_,e,ex,_⟩:=I.hok p _ hk
     exact⟨o,e,ex⟩
    ·obtain⟨_,_,_,_,o,_,_,e,ex,_⟩:=I.hok p _ hk
     exact⟨o,e,ex⟩
   obtain⟨o,e,ex⟩:=z
   refine⟨⟨o,e,ex.1⟩,λa e2=>?_⟩
   cases e2
   exact⟨o,e,ex.2.1⟩
  ·obtain⟨o,_,_,_,e,ex,_⟩:=I.hok p _ hk
   refine⟨⟨o,e,ex.1⟩,λa e2=>?_⟩
   cases e2
   exact⟨o,e,ex.2.1⟩
 |_=>exact False.elim ty
def Rx(K:PySem.W.Frag) (T:String) (r:V->List V->Hp->VK->Prop) (to:TE) (t:TA):TE:=λσ H Q=>to σ H λx H1=>HU K T x H1/\t σ H1 λxs H2=>r x xs H2 Q
variable {o e:Expr}{es:List Expr}{to:TE}{t:TA}{name:Str}{apos cpos:Pos}{T id:String}{r:V->List V->Hp->VK->Prop}
theorem Bv(pa:PlainAttrs T) (slot:Slot T name id) (hty:typeOf (.builtin id)=pure (.type "method_descriptor")) (hm:MtR X id r) (ho:PE X o to) (ha:PA X (e::es) t)
  (hbase:attributeBase o name X.env (eval o X.env)=eval o X.env:=by rfl)
  (hfew:((backTo cpos (starEach (e::es) X.env)).all (λx=>!x.1)&&(backToKw cpos (keywordEach [] X.env)).all (λx=>x.1.isSome)
   && decide ((e::es).length+([]:List Keyword).length+(if([]:List Keyword).isEmpty then 0 else 1)<30))=true:=by rfl)
  (hline:(apos.endLine==cpos.line)=true:=by rfl) (hs:starEach (e::es) X.env=(false,eval e X.env)::starEach es X.env:=by rfl) (hplain:(backTo cpos (starEach es X.env)).any (·.1)=false:=by rfl) :
  PE X (.Call (.Attribute o name apos) (e::es) [] cpos) (Rx X.K T r to t):=by
 intro pins s σ H Q I h
 refine wpAny_Call_method_late hbase hfew hline rfl (bh (ho pins s σ H _ I h) λv s1 ⟨x,H1,I1,r1,ty,q1⟩=>?_)
 obtain⟨h1,h2⟩:=QF I1 r1 ty
 refine⟨T,id,pa,slot,hty,h1,h2,?_⟩
 have hA:=ha cpos pins s1 σ H1 _ I1 q1
 rw[hs]at hA ⊢
 refine Calls.callWith_builtin (by show(false||(backTo cpos (starEach es X.env)).any (·.1))=false;rw[hplain]<;>rfl) (Calls.evalArgs_plain ?_)
 exact bh hA λus s2 ⟨vs,H2,I2,r2,q2⟩=>hm pins s2 σ H2 x vs v us Q I2 r1 r2 q2
end
def G8(X:Cx) (id:String) (r:V->List V->Hp->VK->Prop):Prop :=
 ∀(pins:List (Addr×Obj)) (s:Shared) (σ:St) (H:Hp) (x:V) (xs:List V) (v:Value) (us:List Value) (Q:VK),Inv X pins σ H s->RelV x v->Vals xs us->r x xs H Q ->
  wpAny (model X.prog X.w) X.A (call (.builtin id) (v::us)) (EP X pins σ Q) X.xe s
theorem Vals.one:∀{x:V}{us:List Value},Vals [x] us->∃u,us=[u]/\RelV x u
 |_,_,.cons r .nil=>⟨_,rfl,r⟩
theorem Vals.two:∀{x y:V}{us:List Value},Vals [x,y] us->∃u v,us=[u,v]/\RelV x u/\RelV y v
 |_,_,_,.cons r (.cons q .nil)=>⟨_,_,rfl,r,q⟩
theorem Vals.eraseIdx:∀{xs:List V}{us:List Value}(i:Nat),Vals xs us->Vals (xs.eraseIdx i) (us.eraseIdx i)
 |_,_,_,.nil=>.nil
 |_,_,0,.cons _ t=>t
 |_,_,i+1,.cons r t=>.cons r (Vals.eraseIdx i t)
theorem Vals.rep{xs:List V}{us:List Value}(h:Vals xs us):∀k:Nat,Vals (List.replicate k xs).flatten (List.replicate k us).flatten
 |0=>.nil
 |k+1=>by
  rw[al9,al9,amj,amj]
  exact Vals.append h (Vals.rep h k)
theorem KS{α:Type}:∀(l:List α) (i:Nat),(l.eraseIdx i).length<=l.length
 |[],_=>akV _
 |_::_,0=>amG _
 |_::r,i+1=>Nat.succ_le_succ (KS r i)
theorem foldl_rep(its:List Value):∀(k:Nat) (acc:List Value),
  List.foldl (λx1 x2=>x1++x2) acc.toArray (List.replicate k its.toArray)=(acc++(List.replicate k its).flatten).toArray
 |0,acc=>by simp
 |k+1,acc=>by
  have e:acc.toArray++its.toArray=(acc++its).toArray:=by simp
  have e2:(acc++its)++(List.replicate k its).flatten=acc++(List.replicate (k+1) its).flatten:=by
   rw[al9,amj,alu]
  rw[<-e2,<-foldl_rep its k (acc++its),<-e,al9,amw]
section
variable {X:Cx}{pins:List (Addr×Obj)}{σ:St}{H:Hp}{s:Shared}{l b:Addr}{xs ys zs:List V}
theorem Inv.B9{its its':List Value}{n:Nat}{f:Array Value->Array Value}{t':Nat}(I:Inv X pins σ H s) (hH:H l=some (.lst xs))
  (e:s.heap.get? l=some {cls:=.type "list",data:=.seq its.toArray n}) (hf:f its.toArray=its'.toArray) (hv:Vals ys its') (hz:ys.length<=sizeLine) :
  Inv X pins σ (upd H l (.lst ys)) {s with heap:=s.heap.update l (Obj.mapSeq f),toks:=t'}:=by
 have q:=ao1 e f
 rw[hf]at q
 refine I.write (x:=l) (e:=l) (by rw[hH];exact trivial) (.inl rfl) (λb' u hb hu=>(amF s.heap (Obj.mapSeq f) (alF hb)).trans hu) ⟨_,q⟩ ?_
 exact⟨hz,its',_,hv,q⟩
theorem Inv.KO{its:List Value}{t':Nat}(I:Inv X pins σ H s) (hv:Vals ys its) (hz:ys.length<=sizeLine) :
  Inv X pins σ (upd H s.heap.objs.size (.lst ys)) {s with heap:=s.heap.push {cls:=.type "list",data:=.seq its.toArray},toks:=t'} :=
 I.laid (λ_ _ q=>akX _ q) (akV _) ⟨hz,its,0,hv,alb _ rfl⟩
theorem Inv.fresh(I:Inv X pins σ H s):H s.heap.objs.size=none:=I.hok.fresh (akV _)
theorem Inv.pA(I:Inv X pins σ H s) (hH:H l=some (.lst xs)):xs.length<=sizeLine/\∃(its:List Value) (n:Nat),Vals xs its/\xs.length=its.length/\s.heap.get? l=some {cls:=.type "list",data:=.seq its.toArray n}:=by
 obtain⟨z,its,n,r,e⟩:=I.hok l _ hH
 exact⟨z,its,n,r,r.length,e⟩
theorem Ka{n:Nat}(h:n<=sizeLine):Builtin.List.listTooLong n=false:=by
 unfold Builtin.List.listTooLong
 exact decide_eq_false (by omega)
end
section
variable {X:Cx}
def US:V->List V->Hp->VK->Prop:=λx vs H Q=>∃l xs y,x=.ref l/\vs=[y]/\H l=some (.lst xs)/\xs.length<sizeLine/\Q .aO (upd H l (.lst (xs++[y])))
theorem abc:G8 X "list.append" US:=by
 intro pins s σ H x vs v us Q I rx rv h
 obtain⟨l,xs,y,rfl,rfl,hH,hz,q⟩:=h
 cases rx
 obtain⟨u,rfl,ru⟩:=rv.one
 obtain⟨z,its,n,r,hl,e⟩:=I.pA hH
 refine amH F.slot_list_append ⟨_,e,rfl⟩ F.entry_list_append (F.args_list_append_2 _ _) (ao2 l its.toArray n u (by rw[ak8];omega)) ⟨e,?_⟩
 refine⟨.aO,_,I.B9 (its':=its++[u]) hH e (by simp) (r.append (.cons ru .nil)) ?_,rfl,q⟩
 rw[als,List.length_singleton]
 omega
def UO:V->List V->Hp->VK->Prop:=λx vs H Q=>∃l b xs zs,x=.ref l/\vs=[.ref b]/\H l=some (.lst xs)/\H b=some (.lst zs)/\xs.length+zs.length<=sizeLine/\Q .aO (upd H l (.lst (xs++zs)))
theorem abb:G8 X "list.extend" UO:=by
 intro pins s σ H x vs v us Q I rx rv h
 obtain⟨l,b,xs,zs,rfl,rfl,hH,hB,hz,q⟩:=h
 cases rx
 obtain⟨u,rfl,ru⟩:=rv.one
 cases ru
 obtain⟨z,its,n,r,hl,e⟩:=I.pA hH
 obtain⟨z2,its2,n2,r2,hl2,e2⟩:=I.pA hB
 have hsz:its.toArray.size+its2.toArray.size<=sizeLine:=by rw[ak8,ak8];omega
 have D0:¬(!its.toArray.isEmpty&&Builtin.List.listTooLong (its.toArray.size+its2.toArray.size))=true:=by
  rw[Ka hsz,an7]
  exact ali
 refine amH F.slot_list_extend ⟨_,e,rfl⟩ F.entry_list_extend (F.args_list_extend_2 _ _)
  (AutoSeq1.list_extend_list_list_0 l its.toArray n b its2.toArray n2 D0 (by rw[ak8];omega) (by omega)) ⟨e,e2,?_⟩
 refine⟨.aO,_,I.B9 (its':=its++its2) hH e (by simp) (r.append r2) ?_,rfl,q⟩
 rw[als]
 omega
def UH:V->List V->Hp->VK->Prop:=λx vs H Q=>∃l xs i k y,x=.ref l/\vs=[.int i]/\H l=some (.lst xs)/\-(2^63)<=i/\i<2^63/\seqIndex? i xs.length=some k/\xs[k]? = some y/\Q y (upd H l (.lst (xs.eraseIdx k)))
theorem aba:G8 X "list.pop" UH:=by
 intro pins s σ H x vs v us Q I rx rv h
 obtain⟨l,xs,i,k,y,rfl,rfl,hH,h1,h2,hk,hy,q⟩:=h
 cases rx
 obtain⟨u,rfl,ru⟩:=rv.one
 obtain⟨t,rfl⟩:=ru
 obtain⟨z,its,n,r,hl,e⟩:=I.pA hH
 obtain⟨w,hw,rw'⟩:=r.get hy
 refine amH F.slot_list_pop ⟨_,e,rfl⟩ F.entry_list_pop (F.args_list_pop_2 _ _)
  (MeetsSeq.list_pop_at l its.toArray n i t k w (fitsIndex_both h1 h2) (by rw[ak8,<-hl];exact hk) (by rw[<-alw];exact hw) (by rw[ak8];omega)) ⟨e,?_⟩
 refine⟨y,_,I.B9 (its':=its.eraseIdx k) hH e ?_ (r.eraseIdx k) ?_,rw',q⟩
 ·show its.toArray.eraseIdxIfInBounds k=(its.eraseIdx k).toArray
  rw[List.eraseIdxIfInBounds_toArray]
 ·have:=KS xs k
  omega
def UR:R2:=λx y H Q=>∃l b xs zs,x=.ref l/\y=.ref b/\H l=some (.lst xs)/\H b=some (.lst zs)/\xs.length+zs.length<=sizeLine/\∀p,H p=none->Q (.ref p) (upd H p (.lst (xs++zs)))
theorem XM:bQ X (binaryOp .Add) UR:=by
 intro pins s σ H x y v u Q I rx ry h
 obtain⟨l,b,xs,zs,rfl,rfl,hH,hB,hz,q⟩:=h
 cases rx
 cases ry
 obtain⟨z,its,n,r,hl,e⟩:=I.pA hH
 obtain⟨z2,its2,n2,r2,hl2,e2⟩:=I.pA hB
 refine PySem.P.add_list e e2 ?_ (by rw[ak8,ak8];omega)
 have ea:its.toArray++its2.toArray=(its++its2).toArray:=by simp
 rw[ea]
 exact⟨.ref _,_,I.KO (t':=s.toks) (r.append r2) (by rw[als];omega),rfl,q _ I.fresh⟩
def UG:R2:=λx y H Q=>∃l k xs,x=.ref l/\y=.int k/\H l=some (.lst xs)/\-(2^63)<=k/\k<2^63/\xs.length*k.toNat<=sizeLine /\
 ∀p,H p=none->Q (.ref p) (upd H p (.lst (List.replicate k.toNat xs).flatten))
theorem len_rep{α:Type}(xs:List α) (k:Nat):(List.replicate k xs).flatten.length=k*xs.length:=by
 induction k with
 |zero=>simp
 |succ k ih=>rw[al9,amj,als,ih,amk,anv]
theorem Xw:bQ X (binaryOp .Mult) UG:=by
 intro pins s σ H x y v u Q I rx ry h
 obtain⟨l,k,xs,rfl,rfl,hH,h1,h2,hz,q⟩:=h
 cases rx
 obtain⟨t,rfl⟩:=ry
 obtain⟨z,its,n,r,hl,e⟩:=I.pA hH
 have hlen:its.toArray.size*k.toNat<=sizeLine:=by rw[ak8,<-hl];exact hz
 have hcap:¬its.toArray.size*k.toNat>(2^63-1)/8:=by
  have:(sizeLine:Nat)<=(2^63-1)/8:=by decide
  omega
 have hfit:¬(!Builtin.List.listFitsIndex k)=true:=by
  rw[fitsIndex_both h1 h2]
  exact ali
 have D0:¬Builtin.List.listTooLong (its.toArray.size*k.toNat)=true:=by
  rw[Ka hlen]
  exact ali
 have hnew:List.foldl (λx1 x2=>x1++x2) #[] (List.replicate (if its.toArray.isEmpty=true then 0 else k.toNat) its.toArray)=(List.replicate k.toNat its).flatten.toArray:=by
  have f0:∀m:Nat,List.foldl (λx1 x2=>x1++x2) #[] (List.replicate m its.toArray)=(List.replicate m its).flatten.toArray:=λm=>by
   have:=foldl_rep its m []
   rw[alg]at this
   exact this
  rw[f0]
  cases its with
  |nil=>simp
  |cons a r'=>rw[if_neg (by simp)]
 refine wpAny_binaryOp_repeat_ref (T:="list") (U:="int") (by decide) ⟨_,e,rfl⟩ (λs'=>typeIs_int s' k t) noFill_list_mul F.fills_int_mul F.slot_int_rmul repeat_list F.slot_int_index.lookup
  (amH F.slot_int_rmul (typeIs_int s k t) F.entry_int_rmul (F.args_int_rmul_2 _ _) (int___rmul___int_list k t l its.toArray n)
   ⟨e,rfl,⟨_,e,rfl⟩,amH F.slot_list_mul ⟨_,e,rfl⟩ F.entry_list_mul (F.args_list_mul_2 _ _) (AutoListH.list___mul___list_int_3 l its.toArray n k t hfit hcap D0) ⟨e,?_⟩⟩)
 rw[hnew]
 exact⟨.ref _,_,I.KO (t':=s.toks) (r.rep k.toNat) (by rw[len_rep,an8];exact hz),rfl,q _ I.fresh⟩
end
section
variable {prog:Program}{w:World}{A:Around}{E:Value->Shared->Prop}{s:Shared}
set_option maxRecDepth 100000 in
end
end L2
namespace Pg
open PySem PySem.W PySem.Calls PyProof.Rows
theorem ac3{P:Params}{h:Heap}:∀(ns:List Int) (vs:List Value),WellAll P h vs (ns.map WData.int)->IntsAre vs ns:=by
 intro ns
 induction ns with
 |nil =>
  intro vs w
  rw[List.map_nil]at w
  cases w
  exact .nil
 |cons n ns ih =>
  intro vs w
  rw[ak6]at w
  cases w with
  |cons a b =>
   cases a
   exact .cons _ _ (ih _ b)
theorem Tv{l:OpenLaw}{n:Nat}(hn:l.most=some n) {P:Params}{h:Heap}{args:List WData}{vals:List Value}
  (hpre:l.row.toRowW.claim.pre args=true) (hwl:WellAll P h vals args) :
  ∃a vs ns,vals=[Value.ref a]/\args=[WData.list (ns.map WData.int)]/\h.get? a=some {cls:=.type "list",data:=.seq vs.toArray}/\IntsAre vs ns/\ns.length<=n:=by
 have hsh:WShape.hasAll [] args [.list .int]=true:=(pre_splitW hpre).1
 have hc:l.pre.holds [] {args:=args}=true:=(pre_splitW hpre).2
 obtain⟨d,r,rfl,h1,h2⟩:=hasAllW_cons hsh
 obtain rfl:=hasAllW_nil h2
 obtain⟨xs,rfl,h3⟩:=hasW_list h1
 obtain⟨ns,rfl⟩:=items_int h3
 have hlen:ns.length<=n:=by
  unfold OpenLaw.pre at hc
  have h4:(WTm.not (.lt (.lit (.int (n:Int))) (.len (.arg 0)))).holds [] {args:=[.list (ns.map .int)]}=true:=by
   have h4:=(holds_andW hc).1
   rw[hn]at h4
   exact h4
  have h5:=condW_of h4 (w_not (w_lt w_lit (w_len_list (w_arg rfl))))
  rw[ak4]at h5
  refine ao3 λq=>?_
  have q':(n:Int)<((ns.length:Nat):Int):=by omega
  first
   |(rw[decide_eq_true q']at h5;exact absurd h5 (by decide))
   |(simp at h5;omega)
 cases hwl with
 |cons w1 w2 =>
  cases w2
  cases w1 with
  |list ho hall=>exact⟨_,_,ns,rfl,rfl,ho,ac3 ns _ hall,hlen⟩
theorem Vz(l:OpenLaw) (args:List WData):l.row.toRowW.claim.post args (.bool true) args=true :=
 postW_of (r:=l.row.toRowW) (X:=(true==true))
  (show WShape.has [] (.bool true) .bool=true by first|rfl|decide|simp[WShape.has,WShape.arms,WShape.armsAll])
  (show(WTm.eq .res (.lit (.bool true))).value [] {args:=args,res:=some (.bool true),after:=args}=some (.bool (true==true))from w_eq_bool (w_res rfl) w_lit) rfl
theorem ahR{l:OpenLaw}{n:Nat}{q:Program}{loose:List Str}{XP:(Str->Option Value)->Heap->Prop}{YP:World->Heap->Prop}{d:DefRec}
  (hn:l.most=some n) (hdf:d.params.defaults=[])
  (call:∀(w:World) (s₀ s₁:Shared) (mg mb:Str->Option Value) (fa:Addr) (o:Obj) (pm cd doc:Value) (a:Addr) (vs:List Value) (ns:List Int),
   Ground q loose [] XP w s₀ mg mb s₁.heap->YP w s₁.heap ->
   s₁.heap.get? fa=some o->o.data=.func (docDef d.name d.params d.body d.scope pm cd doc)->s₁.heap.CodeRec cd d.name->mg d.name=some (.ref fa) ->
   s₁.heap.get? a=some {cls:=.type "list",data:=.seq vs.toArray}->IntsAre vs ns->ns.length<=n->s₁.gens=#[] ->
   codeAny (model l.prog w) callerA (.call (.ref fa) ⟨[.ref a],[]⟩) (λr s'=>r=.ok (.ret (.bool true))/\OldK s₁.heap s'.heap/\s'.os=s₁.os/\AllBare s'.gens) s₁) :
  WalkO q loose XP YP l.row.toRowW d [] (λf vs=>PySem.call f vs):=by
 intro w s₀ s₁ mg mb G Y fa o pm cd doc dV kV ho hd hcd hD hmg hg args vals as hpre hlay hrd hwl hlo
 obtain rfl:dV=.none:=Dflts.none hD hdf
 obtain rfl:kV=.none:=Dflts.noKw hD
 obtain⟨a,vs,ns,rfl,rfl,hobj,hints,hlen⟩:=Tv hn hpre hwl
 refine enter_call (al0 (call w s₀ s₁ mg mb fa o pm cd doc a vs ns G Y ho (fd_plain hd) hcd hmg hobj hints hlen hg) λr s' hq=>?_)
 obtain⟨rfl,h2,h3,h4⟩:=hq
 exact⟨.inl ⟨.bool true,.bool true,[],rfl,λ_=>rfl,.bool true,Vz l _,λ_=>⟨List.Pairwise.nil,λ_ hm=>(nomatch hm)⟩⟩,h2,h3,h4⟩
end Pg
namespace L2
open PySem PySem.Spec PyProof.Rows
theorem HN:∀{vs:List Value}{ns:List Int},IntsAre vs ns->Vals (ns.map V.int) vs
 |_,_,.nil=>.nil
 |_,_,.cons n t h=>.cons ⟨t,rfl⟩ (HN h)
def cj(s:Stmt):Arguments:=match s with
 |.FunctionDef _ a _ _ _ _ _ _ _ _=>a
 |_=>{posonlyargs:=[],args:=[],vararg:=none,kwonlyargs:=[],kw_defaults:=[],kwarg:=none,defaults:=[]}
def bX(s:Stmt):List Stmt:=match s with
 |.FunctionDef _ _ b _ _ _ _ _ _ _=>b
 |_=>[]
def aQ(s:Stmt):Scope:=match s with
 |.FunctionDef _ _ _ _ _ _ sc _ _ _=>sc
 |_=>{kind:=.function,names:=[],isGenerator:=false,isCoroutine:=false}
abbrev bB:oj:=λ_ _ _ _ _ _=>False
abbrev E0:XK:=λ_ _ _=>False
theorem Xm{X:Cx}:Passes bB X E0:=λ_ _ _ _ _ _ _ h=>h.elim
structure mJ (K:PySem.W.Frag) (x qual:Str) (st:Stmt) (f:Addr) (fd:FuncData):Prop where
 ex:∃(oc:Value) (od:Option Addr) (kV doc pm:Value) (an:Option Addr) (cdv ct:Value) (osl:Array (Option Value)),
  fd=PySem.W.fnOf x qual (cj st) (bX st) (aQ st) .none kV doc pm an cdv ct/\K.lookup f=some ⟨oc,od,.func fd,osl⟩/\PySem.W.codeIn K cdv qual=true
 kp:PySem.W.keepIn K (.ref f)=true
section
variable {P:Program}{w:World}{K:PySem.W.Frag}{mg:Str->Option Value}{base:Heap}
theorem mJ.ok{x qual:Str}{st:Stmt}{f:Addr}{fd:FuncData}{N ps:List Str}{k:Nat}{sp:Sp}(F:mJ K x qual st f fd) (S:b9 N ps (aQ st)) (len:∀vs H Q E,sp vs H Q E->vs.length=ps.length)
  (hbody:∀(cdv:Value) (A:Around) (outer:List Env) (s:Shared) (H:Hp) (vs:List V) (Q:VK) (E:XK),cR k (A.deeper (envOfC qual (aQ st) s.heap.objs.size f cdv))->sp vs H Q E ->
   ∃t,fY (j5 bB P w K mg base N qual (aQ st) f cdv A outer s H E).kK (bX st) t/\t {nx:=λ_ H'=>Q .aO H',rt:=Q} (start N vs) H):bI P w K mg base bB (k+1) f fd ps sp:=by
 obtain⟨oc,od,kV,doc,pm,an,cdv,ct,osl,rfl,lk,hcd⟩:=F.ex
 refine Mn lk hcd S len λA outer s H vs Q E hr jY=>?_
 obtain⟨t,h,q⟩:=hbody cdv A outer s H vs Q E hr jY
 exact⟨t,h.kK,q⟩
theorem mJ.binds{x qual:Str}{st:Stmt}{f:Addr}{fd:FuncData}{ps:List Str}(F:mJ K x qual st f fd)
  (h:∀(kV doc pm:Value) (an:Option Addr) (cdv ct:Value) (us:List Value),us.length=ps.length->bindArgs (PySem.W.fnOf x qual (cj st) (bX st) (aQ st) .none kV doc pm an cdv ct) ⟨us,[]⟩=pure (ps.zip us)):Binds K fd ps []:=by
 obtain⟨oc,od,kV,doc,pm,an,cdv,ct,osl,rfl,lk,hcd⟩:=F.ex
 exact .all (h kV doc pm an cdv ct)
theorem cA{x qual:Str}{st:Stmt}{f:Addr}{oc:Value}{od an:Option Addr}{osl:Array (Option Value)}{kV doc pm cdv ct:Value}(l:K.lookup f=some ⟨oc,od,.func (PySem.W.fnOf x qual (cj st) (bX st) (aQ st) .none kV doc pm an cdv ct),osl⟩)
  (c:PySem.W.codeIn K cdv qual=true) (k:PySem.W.keepIn K (.ref f)=true):mJ K x qual st f (PySem.W.fnOf x qual (cj st) (bX st) (aQ st) .none kV doc pm an cdv ct):=⟨⟨oc,od,kV,doc,pm,an,cdv,ct,osl,rfl,l,c⟩,k⟩
end
theorem ado{A:Around}{k:Nat}(hr:cR k A):A.units+1<cLine:=al4 (Nat.add_le_add_left (by decide:1<=64) _) hr.units
theorem kY{A B:Prop}(h:B):if false=true then A else B:=by
 rw[if_neg ali]
 exact h
theorem kX{A B:Prop}(h:A):if true=true then A else B:=by
 rw[if_pos rfl]
 exact h
def fL(X:Cx) (N':List Str) (scope:Scope) (cl:List (Str×Addr)) (C:Addr) (s₀:Shared) (H₀:Hp) (ex:List Addr) (pn:List (Addr×Obj)):Cx where
 prog:=X.prog
 w:=X.w
 K:=X.K
 mg:=X.mg
 base:=X.base
 A:=X.A
 N:=N'
 s₀:=s₀
 H₀:=H₀
 env:=compEnvC scope cl C X.env
 outer:=X.stack
 stack:=X.stack
 ex:=ex
 fn:=λx=>scope.names.lookup x==some NameKind.cell
 calm:=X.calm
 pn:=pn
 xe:=λ_ _=>False
structure bZ (X:Cx) (N':List Str) (pick:List (Option Nat)) (scope:Scope):Prop where
 kind:scope.kind=.function
 nd:N'.Nodup
 names:∀x∈scope.names,x.2=.local->scope.names.lookup x.1=some .local
 uniq:(scope.names.map (·.1)).Nodup
 len:pick.length=N'.length
 got:∀(i j:Nat) (x:Str),pick[i]? = some (some j)->N'[i]? = some x->scope.names.lookup x=some .free/\X.N[j]? = some x
 free:∀x∈scope.names,x.2=.free->X.env.kindOf x.1=some .cell\/X.env.kindOf x.1=some .free
def kC(pick:List (Option Nat)) (σ:St):St:=pick.map λo=>o.bind λj=>(σ[j]?).bind id
def qi(X:Cx) (ifs:List Expr) (t:TT):Prop :=
 ∀(pins:List (Addr×Obj)) (s:Shared) (σ:St) (H:Hp) (Q:Bool->Hp->Prop),Inv X pins σ H s->t σ H Q ->
  wpAny (model X.prog X.w) X.A (forIn ifs true λc r=>if r=true then do let ok <-isTrue c X.env (eval c X.env);pure (ForInStep.yield ok)else pure (ForInStep.yield r)) (TP X pins σ Q) X.xe s
def Q2:TT:=λ_ H Q=>Q true H
theorem Wq{X:Cx}:qi X [] Q2:=λpins s σ H Q I h=>wpAny_tests_nil ⟨H,I,h⟩
theorem Wo{X:Cx}{c:Expr}{t:TT}(h:PT X c t):qi X [c] t:=λpins s σ H Q I q=>wpAny_tests_one (h pins s σ H Q I q)
def Pe(J:It) (g:TG) (tt:TT) (te:TE) (Q:VK) (σ:St) (H:Hp):Prop:=∃W:Nat->Nat->St->List V->Hp->Prop,(∃m,W 0 m σ [] H) /\
  ∀i m σ' ys H,W i m σ' ys H->ys.length<sizeLine /\
    ((J.stop i H/\∀p,H p=none->Q (.ref p) (upd H p (.lst ys))) \/
     (J.go i H/\∃N:St->List V->Hp->Prop,(∀σ2 zs H2,N σ2 zs H2->∃m',m'<m/\W (i+1) m' σ2 zs H2)/\∀x H',J.t7 i H x H'->g x σ' H' λσ2 H2=>tt σ2 H2 λb H3 =>
        if b=true then te σ2 H3 λy H4=>N σ2 (ys++[y]) H4 else N σ2 ys H3))
def AY(wi:TI) (pick:List (Option Nat)) (g:TG) (tt:TT) (te:TE):TE:=λσ H Q=>wi σ H λJ H1=>Pe J g tt te Q (kC pick σ) H1
def fN(env:Env):List (Str×NameKind)->List (Str×Addr)->List (Str×Addr)
 |[],acc=>acc
 |(n,k)::r,acc=>fN env r (if(k==NameKind.free)=true then(n,(env.cells.lookup n).getD 0)::acc else acc)
theorem Ag{env:Env}:∀(names:List (Str×NameKind)) (acc:List (Str×Addr)),(∀x∈names,x.2=.free->∃c,env.cells.lookup x.1=some c) ->
  (forIn names acc fun(x:Str×NameKind) cs=>(if(x.2==NameKind.free)=true then do let a <-cellOf env x.1;pure (ForInStep.yield ((x.1,a)::cs))else pure (ForInStep.yield cs):Sem (ForInStep (List (Str×Addr)))))=pure (fN env names acc)
 |[],acc,_=>rfl
 |(n,k)::r,acc,h=>by
  rw[amI]
  by_cases hk:(k==NameKind.free)=true
  ·obtain⟨c,hc⟩:=h (n,k) alN (by simpa using hk)
   have e1:cellOf env n=pure c:=by unfold cellOf;rw[show env.cells.lookup n=some c from hc]
   simp only[hk,if_true,e1,pure_bind]
   rw[Ag r _ λx hx=>h x (alD _ hx)]
   show _=pure (fN env r (if(k==NameKind.free)=true then _ else _))
   rw[if_pos hk,show env.cells.lookup n=some c from hc]
   rfl
  ·simp only[hk,alB,if_false,pure_bind]
   rw[Ag r _ λx hx=>h x (alD _ hx)]
   show _=pure (fN env r (if(k==NameKind.free)=true then _ else _))
   rw[if_neg hk]
theorem G2{env:Env}{x:Str}{c:Addr}:∀(names:List (Str×NameKind)) (acc:List (Str×Addr)),(fN env names acc).lookup x=some c ->
  ((x,NameKind.free)∈names/\c=(env.cells.lookup x).getD 0)\/acc.lookup x=some c
 |[],acc,h=>.inr h
 |(n,k)::r,acc,h=>by
  unfold fN at h
  rcases G2 r _ h with⟨a,b⟩|q
  ·exact .inl ⟨alD _ a,b⟩
  ·by_cases hk:(k==NameKind.free)=true
   ·rw[if_pos hk,alC]at q
    cases hx:x==n with
    |true =>
     rw[hx]at q
     have e1:x=n:=by simpa using hx
     have e2:k=.free:=by simpa using hk
     subst e1;subst e2
     exact .inl ⟨alN,(alh q).symm⟩
    |false=>rw[hx]at q;exact .inr q
   ·rw[if_neg hk]at q;exact .inr q
theorem G3{env:Env}{x:Str}:∀(names:List (Str×NameKind)) (acc:List (Str×Addr)),(acc.lookup x).isSome=true\/(x,NameKind.free)∈names->((fN env names acc).lookup x).isSome=true
 |[],acc,h=>h.elim id λz=>by cases z
 |(n,k)::r,acc,h=>by
  unfold fN
  refine G3 r _ ?_
  by_cases hk:(k==NameKind.free)=true
  ·rw[if_pos hk,alC]
   cases hx:x==n with
   |true=>exact .inl rfl
   |false =>
    refine h.imp id λz=>?_
    rcases akY.mp z with e|z
    ·exact absurd (show(x==n)=true by cases e;simp) (by rw[hx];simp)
    ·exact z
  ·rw[if_neg hk]
   refine h.imp id λz=>?_
   rcases akY.mp z with e|z
   ·exact absurd (show(k==NameKind.free)=true by cases e;rfl) hk
   ·exact z
theorem F0{x:Str}{c:Addr}:∀(names:List (Str×NameKind)) (n:Nat) (acc:List (Str×Addr)),(cellsFrom n names acc).lookup x=some c->(n<=c/\(x,NameKind.cell)∈names)\/acc.lookup x=some c
 |[],_,_,h=>.inr h
 |(y,k)::r,n,acc,h=>by
  unfold cellsFrom at h
  by_cases hk:(k==NameKind.cell)=true
  ·rw[if_pos hk]at h
   rcases F0 r _ _ h with⟨a,b⟩|q
   ·exact .inl ⟨alk (amG _) a,alD _ b⟩
   ·rw[alC]at q
    cases hx:x==y with
    |true =>
     rw[hx]at q
     have e1:x=y:=by simpa using hx
     have e2:k=.cell:=by simpa using hk
     subst e1;subst e2
     exact .inl ⟨aml (alh q),alN⟩
    |false=>rw[hx]at q;exact .inr q
  ·rw[if_neg hk]at h
   rcases F0 r _ _ h with⟨a,b⟩|q
   ·exact .inl ⟨a,alD _ b⟩
   ·exact .inr q
theorem FZ:∀(names:List (Str×NameKind)) (n:Nat) (acc:List (Str×Addr)),(∀x y c,acc.lookup x=some c->acc.lookup y=some c->x=y)->(∀x c,acc.lookup x=some c->c<n) ->
  ∀x y c,(cellsFrom n names acc).lookup x=some c->(cellsFrom n names acc).lookup y=some c->x=y
 |[],_,_,hi,_,x,y,c,h1,h2=>hi x y c h1 h2
 |(z,k)::r,n,acc,hi,hl,x,y,c,h1,h2=>by
  unfold cellsFrom at h1 h2
  by_cases hk:(k==NameKind.cell)=true
  ·rw[if_pos hk]at h1 h2
   refine FZ r (n+1) ((z,n)::acc) (λx y c e1 e2=>?_) (λx c e=>?_) x y c h1 h2
   ·rw[alC]at e1 e2
    cases hx:x==z with
    |true =>
     rw[hx]at e1
     cases hy:y==z with
     |true=>exact(by simpa using hx:x=z).trans (by simpa using hy:y=z).symm
     |false =>
      rw[hy]at e2
      have e3:n=c:=alh e1
      exact absurd (e3▸hl y c e2) (alJ _)
    |false =>
     rw[hx]at e1
     cases hy:y==z with
     |true =>
      rw[hy]at e2
      have e3:n=c:=alh e2
      exact absurd (e3▸hl x c e1) (alJ _)
     |false=>rw[hy]at e2;exact hi x y c e1 e2
   ·rw[alC]at e
    cases hx:x==z with
    |true=>rw[hx]at e;have e3:n=c:=alh e;exact e3▸al2 n
    |false=>rw[hx]at e;exact al5 (hl x c e)
  ·rw[if_neg hk]at h1 h2
   exact FZ r n acc hi hl x y c h1 h2
theorem F1{x:Str}{c:Addr}:∀(names:List (Str×NameKind)) (h:Heap) (acc:List (Str×Addr)),(cellsFrom h.objs.size names acc).lookup x=some c->acc.lookup x=some c\/(h.objs.size<=c/\(pushCells h names).IsCell c none)
 |[],_,_,e=>.inl e
 |(y,k)::r,h,acc,e=>by
  unfold cellsFrom at e
  unfold pushCells
  by_cases hk:(k==NameKind.cell)=true
  ·rw[if_pos hk]at e ⊢
   have e':=e
   rw[show h.objs.size+1=(h.push {cls:=.type "cell",data:=.cell none}).objs.size from(alv ..).symm]at e'
   rcases F1 r _ _ e' with q|⟨a,q⟩
   ·rw[alC]at q
    cases hx:x==y with
    |true =>
     rw[hx]at q
     have e3:h.objs.size=c:=alh q
     subst e3
     exact .inr ⟨akV _,_,an9 _ _ _ _ (alb _ rfl),rfl⟩
    |false=>rw[hx]at q;exact .inl q
   ·refine .inr ⟨?_,q⟩
    rw[alv]at a
    omega
  ·rw[if_neg hk]at e ⊢
   exact F1 r h acc e
theorem Qc{M:Model}{A:Around}{E:Value->Shared->Prop}{s:Shared}{scope:Scope}{globals:Addr}{cl:List (Str×Addr)}{qual:Str}{env:Env}{Q:Env->Shared->Prop}
  (hQ:∀h',(∀b o,s.heap.get? b=some o->h'.get? b=some o)->h'.Ns s.heap.objs.size (λ_=>none) ->
   (∀x c,(cellsFrom (s.heap.objs.size+1) scope.names cl).lookup x=some c->cl.lookup x=some c\/(s.heap.objs.size<c/\h'.IsCell c none)) ->
   Q {scope,locals:=s.heap.objs.size,globals,cells:=cellsFrom (s.heap.objs.size+1) scope.names cl,qual,func:=none,code:=env.code,frame:=env.frame,builtins:=env.builtins} {s with heap:=h'}) :
  wpAny M A (newFunctionEnv scope globals cl [] qual none .none (some env)) Q E s:=by
 simp only[newFunctionEnv,Option.isSome_some,if_true]
 refine akT (wpAny_alloc ?_)
 refine akT (wpAny_layCells _ (λname kind cells=>by cases hkc:kind==NameKind.cell<;>simp[hkc]) _ _ _ _ ?_)
 rw[show({s with heap:=s.heap.push {cls:=.type "dict",data:=.dict #[]} }:Shared).heap.objs.size=s.heap.objs.size+1 from alv ..]
 refine akT (akU (akU ?_))
 refine hQ _ (λb o e=>an9 _ _ b o (akX _ e)) ((Heap.Ns.new s.heap (.type "dict")).keeps (an9 _ _)) λx c e=>?_
 have e':=e
 rw[show s.heap.objs.size+1=(s.heap.push {cls:=.type "dict",data:=.dict #[]}).objs.size from(alv ..).symm]at e'
 rcases F1 scope.names (s.heap.push {cls:=.type "dict",data:=.dict #[]}) cl e' with q|⟨a,q⟩
 ·exact .inl q
 ·refine .inr ⟨?_,q⟩
  rw[alv]at a
  omega
theorem xE{env:Env}{x:Str}{k':NameKind}:∀{names:List (Str×NameKind)},(names.map fun(n,k)=>if(k==NameKind.free&&env.scope.kind == .function&&env.kindOf n==some .cell)then(n,NameKind.cell)else(n,k)).lookup x=some k' ->
  ∃k,names.lookup x=some k/\(k'=k\/(k=.free/\k'=.cell))
 |[],h=>by cases h
 |(n,k)::r,h=>by
  rw[ak6]at h
  by_cases hc:(k==NameKind.free&&env.scope.kind == .function&&env.kindOf n==some .cell)=true
  ·have e:(match((n,k):Str×NameKind)with|(n,k)=>if(k==NameKind.free&&env.scope.kind == .function&&env.kindOf n==some .cell)then(n,NameKind.cell)else(n,k))=(n,NameKind.cell):=if_pos hc
   rw[e,alC]at h
   rw[alC]
   cases hx:x==n with
   |true =>
    rw[hx]at h
    have hk:k=.free:=by
     simp only[ald]at hc
     simpa using hc.1.1
    exact⟨k,rfl,.inr ⟨hk,(alh h).symm⟩⟩
   |false=>rw[hx]at h;exact xE h
  ·have e:(match((n,k):Str×NameKind)with|(n,k)=>if(k==NameKind.free&&env.scope.kind == .function&&env.kindOf n==some .cell)then(n,NameKind.cell)else(n,k))=(n,k):=if_neg hc
   rw[e,alC]at h
   rw[alC]
   cases hx:x==n with
   |true=>rw[hx]at h;exact⟨k,rfl,.inl (alh h).symm⟩
   |false=>rw[hx]at h;exact xE h
theorem Bh{env:Env}{x:Str}{k:NameKind}:∀{names:List (Str×NameKind)},names.lookup x=some k ->
  ∃k',(names.map fun(n,k)=>if(k==NameKind.free&&env.scope.kind == .function&&env.kindOf n==some .cell)then(n,NameKind.cell)else(n,k)).lookup x=some k'/\(k'=k\/(k=.free/\k'=.cell))
 |[],h=>by cases h
 |(n,j)::r,h=>by
  rw[ak6]
  rw[alC]at h
  by_cases hc:(j==NameKind.free&&env.scope.kind == .function&&env.kindOf n==some .cell)=true
  ·have e:(match((n,j):Str×NameKind)with|(n,k)=>if(k==NameKind.free&&env.scope.kind == .function&&env.kindOf n==some .cell)then(n,NameKind.cell)else(n,k))=(n,NameKind.cell):=if_pos hc
   rw[e,alC]
   cases hx:x==n with
   |true =>
    rw[hx]at h
    have hk:j=.free:=by
     simp only[ald]at hc
     simpa using hc.1.1
    exact⟨.cell,rfl,.inr ⟨(alh h).symm.trans hk,rfl⟩⟩
   |false=>rw[hx]at h;exact Bh h
  ·have e:(match((n,j):Str×NameKind)with|(n,k)=>if(k==NameKind.free&&env.scope.kind == .function&&env.kindOf n==some .cell)then(n,NameKind.cell)else(n,k))=(n,j):=if_neg hc
   rw[e,alC]
   cases hx:x==n with
   |true=>rw[hx]at h;exact⟨j,rfl,.inl (alh h)⟩
   |false=>rw[hx]at h;exact Bh h
theorem Ca{x:Str}{k:NameKind}:∀{names:List (Str×NameKind)},(names.map (·.1)).Nodup->(x,k)∈names->names.lookup x=some k
 |[],_,h=>by cases h
 |(n,j)::r,nd,h=>by
  have nd:(n::r.map (·.1)).Nodup:=nd
  obtain⟨n1,n2⟩:=al8.mp nd
  rw[alC]
  rcases akY.mp h with e|h2
  ·cases e;simp
  ·have hx:(x==n)=false:=by
    have:x≠n:=by
     intro e
     exact n1 (akW.mpr ⟨(x,k),h2,e⟩)
    simpa using this
   rw[hx];exact Ca n2 h2
theorem ag8{prog:Program}{w:World}{A:Around}{R:Result->Shared->Prop}{s:Shared}{elt target iter:Expr}{ifs:List Expr}{scope:Scope}{pos:Pos}{it acc:Value}{env:Env}(I:Nat->Shared->Prop)
  (turn:∀n s,I n s->wpAny (model prog w) A (pyNext it) (λr s₁=>match r with
   |none=>R (.ok .next) s₁
   |some v=>wpAny (model prog w) A (letOwnedTupleGo target it v) (λ_ s₁'=>wpAny (model prog w) A (assign target env v) (λ_ s₂ =>
     wpAny (model prog w) A (forIn ifs true λc r=>if r=true then do let ok <-isTrue c env (eval c env);pure (ForInStep.yield ok)else pure (ForInStep.yield r)) (λok s₃ =>
      if ok=true then wpAny (model prog w) A (eval elt env) (λx s₄ =>
       wpAny (model prog w) A (call (.builtin "list.append") [acc,x]) (λ_ s₅=>∃m,m<n/\I m s₅) (λ_ _=>False) s₄) (λ_ _=>False) s₃
      else ∃m,m<n/\I m s₃) (λ_ _=>False) s₂) (λ_ _=>False) s₁') (λ_ _=>False) s₁) (λ_ _=>False) s)
  (n:Nat) (h:I n s) :
  codeAny (model prog w) A (.compLoop (.ListComp elt [⟨target,iter,ifs,0⟩] scope pos) 0 it acc env) R s:=by
 refine codeAny_loop rfl I (λn s hI=>?_) n h
 show wpAny _ A ((compTurn (.ListComp elt [⟨target,iter,ifs,0⟩] scope pos) 0 it acc env).onRaise (λx=>do noteFrame x env;theTreesLotGoes x)) _ _ s
 refine wpAny_noted ?_
 rw[compTurn_list]
 refine akT (an1 (akT (alE (turn n s hI) (λr s₁ h₁=>?_) λ_ _ h'=>h'.elim)))
 cases r with
 |none=>exact akU h₁
 |some v =>
  refine akT (alE h₁ (λ_ s₁' h₁'=>?_) λ_ _ h'=>h'.elim)
  refine akT (alE h₁' (λ_ s₂ h₂=>akT (alE h₂ (λok s₃ h₃=>?_) λ_ _ h'=>h'.elim)) λ_ _ h'=>h'.elim)
  cases ok with
  |false=>exact akU ⟨rfl,h₃⟩
  |true =>
   exact akT (akT (alE h₃ (λx s₄ h₄=>akT (alE h₄ (λ_ s₅ h₅=>akU (akU ⟨rfl,h₅⟩)) λ_ _ h'=>h'.elim)) λ_ _ h'=>h'.elim))
section
variable {X:Cx}{N':List Str}{pick:List (Option Nat)}{scope:Scope}{pins:List (Addr×Obj)}{σ:St}{H₂:Hp}{s₂:Shared}{tg:Expr}{J:It}{fp:List Addr}{it:Addr}{tn:Nat->Heap->Prop}
theorem M3(S:bZ X N' pick scope) (I:Inv X pins σ H₂ s₂):closureFor scope X.env=pure (fN X.env scope.names []):=by
 have e:=Ag (env:=X.env) scope.names [] λx hx hk=>I.ok.has x.1 (S.free x hx hk)
 show((forIn scope.names ([]:List (Str×Addr)) fun(x:Str×NameKind) cs=>(if(x.2==NameKind.free)=true then do let a <-cellOf X.env x.1;pure (ForInStep.yield ((x.1,a)::cs))else pure (ForInStep.yield cs):Sem (ForInStep (List (Str×Addr))))) >>= λcs=>pure cs)=_
 rw[e,pure_bind]
theorem vW(S:bZ X N' pick scope) (I:Inv X pins σ H₂ s₂) {x:Str}{c:Addr}(h:(fN X.env scope.names []).lookup x=some c):(x,NameKind.free)∈scope.names/\X.env.cells.lookup x=some c:=by
 rcases G2 _ _ h with⟨a,b⟩|q
 ·refine⟨a,?_⟩
  obtain⟨c',hc⟩:=I.ok.has x (S.free _ a rfl)
  rw[hc]at b ⊢
  rw[b];rfl
 ·cases q
theorem vU(S:bZ X N' pick scope) (I:Inv X pins σ H₂ s₂) {n:Nat}{x:Str}{c:Addr}(h:(cellsFrom n scope.names (fN X.env scope.names [])).lookup x=some c) :
  (n<=c/\scope.names.lookup x=some .cell)\/(scope.names.lookup x=some .free/\X.env.cells.lookup x=some c):=by
 rcases F0 _ _ _ h with⟨a,b⟩|q
 ·exact .inl ⟨a,Ca S.uniq b⟩
 ·obtain⟨a,b⟩:=vW S I q
  exact .inr ⟨Ca S.uniq a,b⟩
theorem M7(S:bZ X N' pick scope) (I:Inv X pins σ H₂ s₂) {n:Nat}{x:Str}{c:Addr}(hx:scope.names.lookup x=some .free) (hc:X.env.cells.lookup x=some c) :
  (cellsFrom n scope.names (fN X.env scope.names [])).lookup x=some c:=by
 have h1:((fN X.env scope.names []).lookup x).isSome=true:=G3 _ _ (.inr (al1 hx))
 obtain⟨c',h2⟩:=ans.mp (anr scope.names n _ (.inr h1))
 rcases vU S I h2 with⟨_,z⟩|⟨_,z⟩
 ·rw[hx]at z;cases z
 ·rw[hc]at z;cases z;exact h2
theorem aey(I:Inv X pins σ H₂ s₂) {b:Addr}(hb:b∈frs X.stack):b<s₂.heap.objs.size:=by
 rcases akY.mp (I.oE b hb)with e|hb
 ·rw[e];exact I.lt
 ·by_cases q:b<s₂.heap.objs.size
  ·exact q
  ·exact absurd hb (I.BH (Nat.not_lt.mp q))
theorem ag4(S:bZ X N' pick scope) (I:Inv X pins σ H₂ s₂) (hf:∀b∈fp,gi X pins H₂ b) (hfo:∀b∈fp,b<s₂.heap.objs.size) {n:Nat}{C:Addr}{s₄:Shared}(hn:s₂.heap.objs.size<=n) (hC:s₂.heap.objs.size<=C) (hCn:C<n)
  (hos:s₄.os=s₂.os) (hge:s₄.gens=s₂.gens) (kp:∀b o,s₂.heap.get? b=some o->s₄.heap.get? b=some o) (ns:s₄.heap.Ns C λ_=>none)
  (ce:∀x c,(cellsFrom n scope.names (fN X.env scope.names [])).lookup x=some c->(fN X.env scope.names []).lookup x=some c\/(n<=c/\s₄.heap.IsCell c none)) :
  Inv (fL X N' scope (cellsFrom n scope.names (fN X.env scope.names [])) C s₂ H₂ fp (X.pn++pins)) [] (kC pick σ) H₂ s₄:=by
 have fr:∀{a:Addr},s₂.heap.objs.size<=a->H₂ a=none:=λh=>I.hok.fresh h
 have old:∀{x:Str}{c:Addr},X.env.cells.lookup x=some c->c<s₂.heap.objs.size:=fun{x c} e=>let⟨v,z⟩:=I.cell x c e;z.lt
 have VA:∀p∈X.pn++pins,p.1<s₂.heap.objs.size:=λp hp=>ak0 (I.pin p hp).1
 refine⟨⟨I.ok.mod,S.kind,I.ok.glob,I.ok.blt,hC,?inj,?has,?nS,I.ok.hd,I.ok.frames,.inl rfl,?vL,I.bs,alk I.ok.g8 I.sz,?kL,?sN,I.stack,I.AZ⟩,
  hos,by rw[hge];exact I.bare,Un.kept kp,⟨_,ns,?loc⟩,?cell,fr hC,?iH,?pin,I.hok.kept kp,?len⟩
 case inj =>
  refine FZ _ _ _ (λx y c h1 h2=>?_) λx c h=>?_
  ·exact I.ok.inj x y c (vW S I h1).2 (vW S I h2).2
  ·exact ak7 (old (vW S I h).2) hn
 case has =>
  intro x hx
  have hx:(relabel scope X.env).names.lookup x=some .cell\/(relabel scope X.env).names.lookup x=some .free:=hx
  have go:∀k,scope.names.lookup x=some k->k=.cell\/k=.free->∃c,(cellsFrom n scope.names (fN X.env scope.names [])).lookup x=some c:=λk hk hq=>by
   rcases hq with rfl|rfl
   ·exact ans.mp (anr _ _ _ (.inl hk))
   ·obtain⟨c,hc⟩:=I.ok.has x (S.free _ (al1 hk) rfl)
    exact⟨c,M7 S I hk hc⟩
  rcases hx with hx|hx
  ·obtain⟨k,hk,e|⟨e,_⟩⟩:=xE hx
   ·exact go k hk (.inl e.symm)
   ·exact go k hk (.inr e)
  ·obtain⟨k,hk,e|⟨_,e⟩⟩:=xE hx
   ·exact go k hk (.inr e.symm)
   ·cases e
 case nS =>
  intro x c hx hc
  have hx:scope.names.lookup x=some .cell:=by simpa[fL]using hx
  rcases vU S I hc with⟨a,_⟩|⟨a,_⟩
  ·exact alk hn a
  ·rw[hx]at a;cases a
 case vL =>
  intro b hb
  refine⟨ak1 (ak7 (hfo b hb) hC),λx c hc=>?_⟩
  rcases vU S I hc with⟨a,_⟩|⟨_,a⟩
  ·exact alO (ak7 (hfo b hb) (alk hn a))
  ·exact(hf b hb).2.2.2.2.1 x c a
 case kL =>
  intro b o e hb
  rcases(hf b hb).2.2.2.1 with z|z
  ·exact I.ok.kL b o e z
  ·exact absurd (ak7 (ak0 e) (alk I.ok.g8 z)) (alJ _)
 case sN =>
  intro b hb hs
  rcases akY.mp (I.oE b hs)with e|e
  ·exact(hf b hb).2.1 e
  ·exact(hf b hb).2.2.1 e
 case loc =>
  intro i x v h1 h2 h3
  have h1:N'[i]? = some x:=h1
  have hp:∃j,pick[i]? = some (some j)/\σ[j]? = some (some v):=by
   unfold kC at h2
   rw[ale]at h2
   cases e:pick[i]? with
   |none=>rw[e]at h2;cases h2
   |some o =>
    rw[e]at h2
    cases o with
    |none=>cases h2
    |some j =>
     refine⟨j,rfl,?_⟩
     have h2':(σ[j]?).bind id=some v:=alh h2
     cases e2:σ[j]? with
     |none=>rw[e2]at h2';cases h2'
     |some q=>rw[e2]at h2';exact congrArg some h2'
  obtain⟨j,hj,hv⟩:=hp
  obtain⟨hfr,hN⟩:=S.got i j x hj h1
  have hk:=S.free _ (al1 hfr) rfl
  obtain⟨m,hm,hl⟩:=I.loc
  obtain⟨u,ru,lk⟩:=hl j x v hN hv (.inr hk)
  refine⟨u,ru,?_⟩
  rcases lk with⟨z,_⟩|⟨_,c,hc,hcell⟩
  ·rcases hk with q|q<;>(rw[show X.env.kindOf x=_ from z]at q;cases q)
  ·refine .inr ⟨?_,c,M7 S I hfr hc,hcell.keeps kp⟩
   show(relabel scope X.env).names.lookup x=some .cell\/(relabel scope X.env).names.lookup x=some .free
   obtain⟨k',hk',e|⟨_,e⟩⟩:=Bh (env:=X.env) hfr
   ·exact .inr (by rw[<-e];exact hk')
   ·exact .inl (by rw[<-e];exact hk')
 case cell =>
  intro x c hc
  rcases ce x c hc with z|⟨_,z⟩
  ·obtain⟨v,q⟩:=I.cell x c (vW S I z).2
   exact⟨v,q.keeps kp⟩
  ·exact⟨none,z⟩
 case iH =>
  intro x c hc
  rcases vU S I hc with⟨a,_⟩|⟨_,a⟩
  ·exact fr (alk hn a)
  ·exact I.iH x c a
 case pin =>
  intro p hp
  have hp:p∈X.pn++pins:=by simpa[fL]using hp
  obtain⟨e,n0,ne,nf,d⟩:=I.pin p hp
  refine⟨kp _ _ e,n0,ak1 (ak7 (VA p hp) hC),λz=>?_,d⟩
  rcases akY.mp (I.oE _ z)with e|e
  ·exact ne e
  ·exact nf e
 case len =>
  unfold kC
  rw[ak4]
  exact S.len
end
section
variable {X:Cx}{N':List Str}{pick:List (Option Nat)}{scope:Scope}{pins:List (Addr×Obj)}{σ:St}{H₂:Hp}{s₂:Shared}{tg:Expr}{J:It}{fp:List Addr}{it:Addr}{tn:Nat->Heap->Prop}
 {elt iter:Expr}{ifs:List Expr}{pos:Pos}{g:TG}{tt:TT}{te:TE}
theorem MW{E:Value->Shared->Prop}{RR:Value->Addr->Result->Shared->Prop}{Qv:V->Hp->Prop}(S:bZ X N' pick scope) (hc:X.calm=true) (iM:Inv X pins σ H₂ s₂) (T:Turn X.prog X.w X.K tg J fp it tn) (st:tn 0 s₂.heap) (hf:∀b∈fp,gi X pins H₂ b)
    (hg:∀cl C s₀ H₀ ex pn,PG (fL X N' scope cl C s₀ H₀ ex pn) tg g) (hi:∀cl C s₀ H₀ ex pn,qi (fL X N' scope cl C s₀ H₀ ex pn) ifs tt) (he:∀cl C s₀ H₀ ex pn,PE (fL X N' scope cl C s₀ H₀ ex pn) elt te)
    {W:Nat->Nat->St->List V->Hp->Prop}{m0:Nat}(h0:W 0 m0 (kC pick σ) [] H₂)
    (turn:∀i m σ' ys H,W i m σ' ys H->ys.length<sizeLine /\
      ((J.stop i H/\∀p,H p=none->Qv (.ref p) (upd H p (.lst ys))) \/
       (J.go i H/\∃N:St->List V->Hp->Prop,(∀σ2 zs H2,N σ2 zs H2->∃m',m'<m/\W (i+1) m' σ2 zs H2)/\∀x H',J.t7 i H x H'->g x σ' H' λσ2 H2=>tt σ2 H2 λb H3 =>
          if b=true then te σ2 H3 λy H4=>N σ2 (ys++[y]) H4 else N σ2 ys H3)))
    (fin:∀(D C:Addr) (H':Hp) (s':Shared) (m:Str->Option Value),Inv X pins σ H' s'->gi X pins H' C->s'.heap.Ns C m->Qv (.ref D) H'->RR (.ref D) C (.ok .next) s') :
    wpAny (model X.prog X.w) X.A (newList []) (λacc s₃=>wpAny (model X.prog X.w) X.A (newFunctionEnv scope X.env.globals (fN X.env scope.names []) [] X.env.qual none .none (some X.env)) (λcenv s₄ =>
      codeAny (model X.prog X.w) X.A (.compStart (.ListComp elt [⟨tg,iter,ifs,0⟩] scope pos) 0 (.ref it) acc {cenv with scope:=relabel scope X.env}) (RR acc cenv.locals) s₄) E s₃) E s₂:=by
  have hfo:∀b∈fp,b<s₂.heap.objs.size:=λb hb=>let⟨o,e,_⟩:=T.obj 0 _ st b hb;ak0 e
  refine amJ (Qc λh₄ kp ns ce=>?_)
  generalize Ec:s₂.heap.push {cls:=.type "list",dict:=none,data:=.seq ([]:List Value).toArray}=H3 at kp ns ce ⊢
  have hC:H3.objs.size=s₂.heap.objs.size+1:=by rw[<-Ec,alv]
  have vh:∀b o,s₂.heap.get? b=some o->h₄.get? b=some o:=λb o e=>kp b o (Ec▸akX _ e)
  have hD:h₄.get? s₂.heap.objs.size=some {cls:=.type "list",data:=.seq ([]:List Value).toArray}:=kp _ _ (Ec▸alb _ rfl)
  have nH:s₂.heap.objs.size<=H3.objs.size:=by rw[hC];exact amG _
  have hDC:s₂.heap.objs.size≠H3.objs.size:=by rw[hC];exact ak1 (al2 _)
  generalize hcl:cellsFrom (H3.objs.size+1) scope.names (fN X.env scope.names [])=cl at ce
  have Hg:Inv (fL X N' scope cl H3.objs.size s₂ H₂ fp (X.pn++pins)) [] (kC pick σ) H₂ {s₂ with heap:=h₄}:=by
    subst hcl
    exact ag4 S iM hf hfo (n:=H3.objs.size+1) (alk nH (amG _)) nH (al2 _) rfl rfl vh ns λx c e=>ce x c e
  have D5:∀x c,cl.lookup x=some c->c≠s₂.heap.objs.size:=λx c e=>by
    subst hcl
    rcases vU S iM e with⟨a,_⟩|⟨_,a⟩
    · refine alO (ak7 ?_ a)
      rw[hC]
      exact al5 (al2 _)
    · obtain⟨v,z⟩:=iM.cell x c a
      exact ak1 z.lt
  have ad1:∀x c,X.env.cells.lookup x=some c->c≠H3.objs.size:=λx c e=>by
    obtain⟨v,z⟩:=iM.cell x c e
    exact ak1 (ak7 z.lt nH)
  generalize gg:fL X N' scope cl H3.objs.size s₂ H₂ fp (X.pn++pins)=X' at Hg
  have wM:X'.prog=X.prog:=by subst gg;rfl
  have xw:X'.w=X.w:=by subst gg;rfl
  have xK:X'.K=X.K:=by subst gg;rfl
  have xA:X'.A=X.A:=by subst gg;rfl
  have Hy:X'.calm=true:=by subst gg;exact hc
  have wN:X'.env.locals=H3.objs.size:=by subst gg;rfl
  have Pz:X'.env.cells=cl:=by subst gg;rfl
  have Py:X'.env=compEnvC scope cl H3.objs.size X.env:=by subst gg;rfl
  have AO:X'.fs=frs X.stack:=by subst gg;rfl
  have AQ:X'.ex=fp:=by subst gg;rfl
  have AN:X'.s₀=s₂:=by subst gg;rfl
  have Hx:X'.pn=X.pn++pins:=by subst gg;rfl
  have Pw:X'.xe=λ_ _=>False:=by subst gg;rfl
  have P9:X'.H₀=H₂:=by subst gg;rfl
  have hg':PG X' tg g:=by subst gg;exact hg _ _ _ _ _ _
  have hi':qi X' ifs tt:=by subst gg;exact hi _ _ _ _ _ _
  have he':PE X' elt te:=by subst gg;exact he _ _ _ _ _ _
  have oF:∀{H':Hp}{pl:List (Addr×Obj)},(∀b∈fp,H' b=none)->(∀p∈pl,s₂.heap.objs.size<=p.1)->∀b∈fp,gi X' pl H' b:=fun{H' pl} hn hp b hb=>by
    have hlt:=hfo b hb
    obtain⟨_,f1,f2,f3,f4,f5⟩:=hf b hb
    refine⟨hn b hb,by rw[wN];exact ak1 (ak7 hlt nH),?_,.inl (by rw[AQ];exact hb),λx c e=>?_,λp eU=>?_⟩
    · rw[AO]
      intro z
      rcases akY.mp (iM.oE b z)with e|e
      · exact f1 e
      · exact f2 e
    · have:=Hg.ok.vL b (by rw[AQ];exact hb)
      exact this.2 x c e
    · rcases alz.mp eU with z|z
      · rw[Hx]at z;exact f5 p z
      · exact alO (ak7 hlt (hp p z))
  have Jx:∀{H':Hp}{s':Shared}{σ':St}{o:Obj},Inv X' [] σ' H' s'->s'.heap.get? s₂.heap.objs.size=some o->H' s₂.heap.objs.size=none->(∀v,o.data≠.cell v)->Inv X' [(s₂.heap.objs.size,o)] σ' H' s':=fun{H' s' σ' o} I e hn hnc =>
    I.xP λp hp=>by
      obtain rfl:p=(s₂.heap.objs.size,o):=by simpa using hp
      refine⟨e,hn,by rw[wN];exact hDC,?_,hnc⟩
      rw[AO]
      intro z
      exact absurd (aey iM z) (alJ _)
  have Aq:H₂ s₂.heap.objs.size=none:=iM.hok.fresh (akV _)
  let Iv:Nat->Shared->Prop:=λn s'=>∃(i:Nat) (σ':St) (ys:List V) (H':Hp) (its:List Value) (k:Nat),Inv X' [(s₂.heap.objs.size,{cls:=.type "list",data:=.seq its.toArray k})] σ' H' s'/\Vals ys its/\tn i s'.heap/\(∀b∈fp,H' b=none)/\W i n σ' ys H'
  have loop:codeAny (model X.prog X.w) X.A (.compLoop (.ListComp elt [⟨tg,iter,ifs,0⟩] scope pos) 0 (.ref it) (.ref s₂.heap.objs.size) X'.env) (RR (.ref s₂.heap.objs.size) H3.objs.size) {s₂ with heap:=h₄}:=by
    refine ag8 Iv ?_ m0 ⟨0,_,[],H₂,[],_,Jx Hg hD Aq (λv q=>nomatch q),.nil,T.keep _ _ _ st λb _ o e=>vh b o e,λb hb=>(hf b hb).1,h0⟩
    rintro n s5 ⟨i,wH,ys,H5,its,k,I5,rv,jj,yR,w5⟩
    obtain⟨hlen,tr⟩:=turn i n wH ys H5 w5
    have p5:∀{o:Obj},∀p∈[(s₂.heap.objs.size,o)],s₂.heap.objs.size<=p.1:=fun{o} p hp=>by
      obtain rfl:p=(s₂.heap.objs.size,o):=by simpa using hp
      exact akV _
    rw[<-xA]
    rcases tr with⟨stop,qf⟩|⟨go,N,hN,step⟩
    · have dn:=T.done X' wM xw xK Hy i _ s5 wH H5 (λ_ _=>False) I5 (oF yR p5) jj stop
      rw[xA]at dn ⊢
      refine alE dn (λr s6 h6=>?_) λ_ _ z=>z
      obtain⟨rfl,I6⟩:=h6
      show RR (.ref s₂.heap.objs.size) H3.objs.size (.ok .next) s6
      obtain⟨eD,nD,_⟩:=I6.pin _ (alQ _ alN)
      have oA:Un (frs X.stack) fp H₂ H5 s₂.heap s6.heap:=by
        have:=I6.base
        rw[AO,AQ,AN,P9]at this
        exact this
      have lt:∀{b:Addr}{o:Obj},s₂.heap.get? b=some o->b≠s₂.heap.objs.size:=λe=>ak1 (ak0 e)
      have QE:Un (frs X.stack) fp H₂ (upd H5 s₂.heap.objs.size (.lst ys)) s₂.heap s6.heap :=
        ⟨oA.keep,oA.slot,λb o e n hx=>by rw[bL (lt e)];exact oA.free b o e n hx,oA.there,λb xs e=>by rw[bL (c9 e Aq)];exact oA.tups b xs e,
          λb o u e=>by rw[bL (c9 e Aq)];exact oA.iG b o u e,λb ps e=>by rw[bL (c9 e Aq)];exact oA.iR b ps e⟩
      have adE:c7 X.prog X.w (upd H5 s₂.heap.objs.size (.lst ys)) s6.heap:=λb u e=>by
        by_cases hb:b=s₂.heap.objs.size
        · subst hb
          rw[fD]at e;cases e
          exact⟨amg hlen,its,k,rv,eD⟩
        · rw[bL hb]at e
          have:=I6.hok b u e
          rw[wM,xw]at this
          exact this.stay (λ_ _ _ q=>q) (λc q=>by rw[bL (c9 q nD)];exact q) λc xs q=>by rw[bL (c9 q nD)];exact q
      have I7:Inv X pins σ (upd H5 s₂.heap.objs.size (.lst ys)) s6:=by
        refine iM.F4 (ch:=fp) ?_ QE adE I6.bare λb hb=>?_
        · have:=I6.os;rw[AN]at this;exact this
        · obtain⟨_,f1,f2,f3,f4,f5⟩:=hf b hb
          exact⟨f3,f1,f4,f5⟩
      obtain⟨m6,n6,_⟩:=I6.loc
      rw[wN]at n6
      have hC6:H5 H3.objs.size=none:=by have:=I6.free;rw[wN]at this;exact this
      refine fin _ _ _ s6 m6 I7 ⟨by rw[bL (alF hDC)];exact hC6,?_,?_,.inr (alk iM.sz nH),ad1,λp hp=>?_⟩ n6 (qf _ nD)
      · exact alO (ak7 iM.lt nH)
      · intro z
        exact absurd z (iM.BH nH)
      · exact ak1 (ak7 (ak0 (iM.pin p hp).1) nH)
    · have itm:=T.item X' wM xw xK Hy i _ s5 wH H5 (λ_ _=>False) I5 (oF yR p5) jj go
      refine alE itm (λr s6 h6=>?_) λ_ _ z=>z
      obtain⟨u,rfl,h6⟩:=h6
      refine alE h6 (λ_ s7 h7=>?_) λ_ _ z=>z
      obtain⟨x,H7,I7,rx,y7,oG,fr7⟩:=h7
      have I7':=I7.pinned (oF fr7 p5) (T.obj _ _ oG)
      have mp:∀{α:Type}{t:Sem α}{Q:α->Shared->Prop}{s:Shared},wpAny (model X'.prog X'.w) X'.A t Q X'.xe s->wpAny (model X.prog X.w) X'.A t Q (λ_ _=>False) s:=fun{α t Q s} h=>by
        rw[wM,xw,Pw]at h;exact h
      refine alE (mp (hg' _ s7 wH H7 x u _ I7' rx (step x H7 y7))) (λ_ s8 h8=>?_) λ_ _ z=>z
      obtain⟨t6,H8,I8,q8⟩:=h8
      refine alE (mp (hi' _ s8 t6 H8 _ I8 q8)) (λok s9 h9=>?_) λ_ _ z=>z
      obtain⟨H9,I9,q9⟩:=h9
      have K6:∀{σ':St}{H':Hp}{s':Shared},Inv X' ([(s₂.heap.objs.size,{cls:=.type "list",data:=.seq its.toArray k})]++uD fp s7.heap) σ' H' s'->tn (i+1) s'.heap/\∀b∈fp,H' b=none:=fun{σ' H' s'} I=>by
        refine⟨T.keep _ _ _ oG λb hb o e=>(I.pin (b,o) (alQ _ (alQ _ (yp hb e)))).1,λb hb=>?_⟩
        obtain⟨o,e,d⟩:=T.obj _ _ oG b hb
        exact(I.pin (b,o) (alQ _ (alQ _ (yp hb e)))).2.1
      cases ok with
      | false =>
        rw[if_neg ali]at q9 ⊢
        obtain⟨m',hm,w9⟩:=hN _ _ _ q9
        obtain⟨t9,f9⟩:=K6 I9
        exact⟨m',hm,i+1,t6,ys,H9,its,k,I9.uc,rv,t9,f9,w9⟩
      | true =>
        rw[if_pos rfl]at q9 ⊢
        refine alE (mp (he' _ s9 t6 H9 _ I9 q9)) (λv uy h10=>?_) λ_ _ z=>z
        obtain⟨y,Ow,Ov,ry,r8⟩:=h10
        obtain⟨m',hm,mO⟩:=hN _ _ _ r8
        obtain⟨RC,f10⟩:=K6 Ov
        have Ou:=Ov.uc
        obtain⟨eD,nD,gG,nfD,dD⟩:=Ou.pin _ (alQ _ alN)
        have hl:=rv.length
        refine amH F.slot_list_append ⟨_,eD,rfl⟩ F.entry_list_append (F.args_list_append_2 _ _) (ao2 s₂.heap.objs.size its.toArray k v (by rw[ak8];omega)) ⟨eD,?_⟩
        have q:=ao1 eD (·.push v)
        have I11:Inv X' [] t6 Ow {uy with heap:=uy.heap.update s₂.heap.objs.size (Obj.mapSeq (·.push v))}:=by
          refine(Ou.xP (Bt:=[]) λp hp=>by cases hp).turned (t':=uy.toks) (it:=s₂.heap.objs.size) (λb o hb e=>(amF uy.heap (Obj.mapSeq (·.push v)) (alF hb)).trans e) nD gG (.inr (by rw[AN];exact akV _)) (λx c hc=>D5 x c (by rw[<-Pz];exact hc)) λp hp=>?_
          have hp:p∈X.pn++pins:=by rw[al3,Hx]at hp;exact hp
          exact ak1 (ak0 (iM.pin p hp).1)
        rw[show its.toArray.push v=(its++[v]).toArray by simp]at q
        refine⟨m',hm,i+1,t6,ys++[y],Ow,its++[v],_,Jx I11 q nD (λv q=>nomatch q),rv.append (.cons ry .nil),?_,f10,mO⟩
        refine T.keep _ _ _ RC λb hb o e=>(amF uy.heap (Obj.mapSeq (·.push v)) ?_).trans e
        exact alO (hfo b hb)
  have e4:({scope:=relabel scope X.env,locals:=H3.objs.size,globals:=X.env.globals,cells:=cl,qual:=X.env.qual,func:=none,code:=X.env.code,frame:=X.env.frame,builtins:=X.env.builtins}:Env)=X'.env:=by rw[Py];rfl
  have uo:tn 0 h₄:=T.keep _ _ _ st λb _ o e=>vh b o e
  have goal:codeAny (model X.prog X.w) X.A (.compStart (.ListComp elt [⟨tg,iter,ifs,0⟩] scope pos) 0 (.ref it) (.ref s₂.heap.objs.size) X'.env) (RR (.ref s₂.heap.objs.size) H3.objs.size) {s₂ with heap:=h₄} :=
    codeAny_compStart_list loop (T.self _ 0 _ _ _ uo loop)
  rw[<-e4]at goal
  exact goal
theorem Inv.gone{H':Hp}{s':Shared}{h':Heap}{C:Addr}(I:Inv X pins σ H' s') (f:gi X pins H' C) (hs:Heap.SameBut C s'.heap h'):Inv X pins σ H' {s' with heap:=h'}:=by
 obtain⟨f0,f1,f2,f3,f4,f5⟩:=f
 exact I.turned (t':=s'.toks) (λb o hb e=>(hs.2 b hb).trans e) f0 f1 f3 f4 f5
theorem WV{wi:TI}(S:bZ X N' pick scope) (hc:X.calm=true) (hit:PI X tg iter wi)
  (hg:∀cl C s₀ H₀ ex pn,PG (fL X N' scope cl C s₀ H₀ ex pn) tg g) (hi:∀cl C s₀ H₀ ex pn,qi (fL X N' scope cl C s₀ H₀ ex pn) ifs tt) (he:∀cl C s₀ H₀ ex pn,PE (fL X N' scope cl C s₀ H₀ ex pn) elt te)
  (hs:∀x,foldedSetIterable iter X.env x=pure x:=by intro _;rfl) :
  PE X (.ListComp elt [⟨tg,iter,ifs,0⟩] scope pos) (AY wi pick g tt te):=by
 intro pins s σ H Q I h
 rw[eval_ListComp]
 refine ao4 (use:=none) rfl hs (M3 S I) S.kind S.names (bh (hit pins s σ H _ I h) λv s1 h1=>bh h1 λitv s2 h2=>?_)
 obtain⟨it,fp,tn,J,H2,rfl,I2,T,st2,f2,W,⟨m0,w0⟩,turn⟩:=h2
 refine MW (RR:=λacc C=>compPost (model X.prog X.w) X.A X.xe none (EP X pins σ Q) acc C) (Qv:=Q) S hc I2 T st2 f2 hg hi he w0 turn ?_
 intro D C H' s' m I' f' n' q'
 exact⟨m,n',λh' hs'=>⟨.ref D,H',I'.gone f' hs',rfl,q'⟩⟩
def Q7(i:Nat) (t:TE):TS:=λD σ H=>t σ H λv H1=>D.nx (σ.set i (some v)) H1
theorem Vb{wi:TI}{i:Nat}{y:Str}{py spos:Pos}(hsw:swapsWith (.ListComp elt [⟨tg,iter,ifs,0⟩] scope pos) (some (.Name y py)) spos.line X.env=pure true) (hN:X.N.Nodup) (hy:X.N[i]? = some y) (hl:X.env.scope.names.lookup y=some .local)
  (S:bZ X N' pick scope) (hc:X.calm=true) (hit:PI X tg iter wi)
  (hg:∀cl C s₀ H₀ ex pn,PG (fL X N' scope cl C s₀ H₀ ex pn) tg g) (hi:∀cl C s₀ H₀ ex pn,qi (fL X N' scope cl C s₀ H₀ ex pn) ifs tt) (he:∀cl C s₀ H₀ ex pn,PE (fL X N' scope cl C s₀ H₀ ex pn) elt te)
  (hs:∀x,foldedSetIterable iter X.env x=pure x:=by intro _;rfl) :
  PS X (.Assign [.Name y py] (.ListComp elt [⟨tg,iter,ifs,0⟩] scope pos) spos) (Q7 i (AY wi pick g tt te)):=by
 intro pins s σ H D I h
 rw[exec_Assign_Name_used _ _ _ _ hsw]
 refine akT (an1 (akT ?_))
 show wpAny _ X.A (do let _ <-comprehension (.ListComp elt [⟨tg,iter,ifs,0⟩] scope pos) scope X.env _ (newList []) false (eval iter X.env) (some (assign (.Name y py) X.env))) _ _ s
 refine akT (alE (ao4 (use:=some (assign (.Name y py) X.env)) (Q:=λ_ s'=>SP X pins D .next s') rfl hs (M3 S I) S.kind S.names
  (bh (hit pins s σ H _ I h) λv s1 h1=>bh h1 λitv s2 h2=>?_)) (λ_ s' hq=>akU (akU hq)) λ_ _ e=>e)
 obtain⟨it,fp,tn,J,H2,rfl,I2,T,st2,f2,W,⟨m0,w0⟩,turn⟩:=h2
 refine MW (RR:=λacc C=>compPost (model X.prog X.w) X.A X.xe (some (assign (.Name y py) X.env)) (λ_ s'=>SP X pins D .next s') acc C) (Qv:=λv H1=>D.nx (σ.set i (some v)) H1) S hc I2 T st2 f2 hg hi he w0 turn ?_
 intro Da C H' s' m I' f' n' q'
 show wpAny _ X.A (assign (.Name y py) X.env (.ref Da)) _ _ _
 refine wpAny_assign_Name (IE I' hN hy (.inl hl) (v:=.ref Da) rfl (λs'' wF ⟨a,sb,ha⟩=>?_) (.inr hl))
 have hCa:C≠a:=by
  rcases ha with e|e
  ·rw[e];exact f'.2.1
  ·exact alF (f'.2.2.2.2.1 _ _ e)
 exact⟨m,n'.sameBut sb hCa,λh' hs'=>⟨_,H',wF.gone f' hs',q'⟩⟩
end
def MY(XN:List Str) (xn:List (Str×NameKind)) (N':List Str) (pick:List (Option Nat)) (names:List (Str×NameKind)):Bool :=
 decide N'.Nodup&&names.all (λx=>decide (names.lookup x.1=some x.2))&&decide ((names.map (·.1)).Nodup)&&(pick.length==N'.length) &&
 (pick.zip N').all (λq=>match q.1 with|none=>true|some j=>decide (names.lookup q.2=some NameKind.free)&&decide (XN[j]? = some q.2)) &&
 names.all (λx=>decide (x.2≠NameKind.free)||(decide (xn.lookup x.1=some NameKind.cell)||decide (xn.lookup x.1=some NameKind.free)))
theorem bZ.of{X:Cx}{N':List Str}{pick:List (Option Nat)}{scope:Scope}(hk:scope.kind=.function) (h:MY X.N X.env.scope.names N' pick scope.names=true):bZ X N' pick scope:=by
 unfold MY at h
 simp only[ald,ak2,decide_eq_true_eq,beq_iff_eq,amx]at h
 obtain⟨⟨⟨⟨⟨h1,h2⟩,h3⟩,h4⟩,h5⟩,h6⟩:=h
 refine⟨hk,h1,λx hx e=>by rw[<-e];exact h2 x hx,h3,h4,λi j x hp hN=>?_,λx hx e=>?_⟩
 ·have hm:(some j,x)∈pick.zip N':=by
   have:(pick.zip N')[i]? = some (some j,x):=by rw[aoa];exact⟨hp,hN⟩
   exact alo this
  exact h5 _ hm |> λz=>by simpa using z
 ·rcases h6 x hx with z|z|z
  ·exact absurd e z
  ·exact .inl z
  ·exact .inr z
end L2
namespace PySem
open Sem (wp)
section
variable {prog:Program}{w:World}{A:Around}{E:Value->Shared->Prop}{s:Shared}
theorem aah{it l:Addr}{i:Nat}{items:Array Value}{x:Value}{Q:Value->Shared->Prop}(hit:s.heap.IsTupleIter it l i)
  (hl:s.heap.IsTuple l items) (hx:items[i]? = some x)
  (hQ:∀h',h'.IsTupleIter it l (i+1)->Heap.SameBut it s.heap h'->Q x {s with heap:=h'}) :
  wpAny (model prog w) A (Builtin.SmallTypes.nextOf (.ref it)) Q E s:=by
 obtain⟨o,ho,hc,hd⟩:=id hit
 obtain⟨ol,iF,_,nl,hdl⟩:=hl
 unfold Builtin.SmallTypes.nextOf
 refine akT (amK (name:=Str.ofString "__next__") hit.typeIs anw
  (ama anw hit.typeIs ao5 ?_ (ao6 _)))
 show wpAny _ _ (field (.ref it) 0 >>= _) _ _ s
 refine akT (alV ho hd (x:=.ref l) rfl ?_)
 show wpAny _ _ (if(Value.ref l==Value.none)=true then _ else _) _ _ s
 rw[if_neg (show ¬((Value.ref l==Value.none)=true)from ali)]
 show wpAny _ _ (field (.ref it) 1 >>= _) _ _ s
 refine akT (alV ho hd (x:=.int i 0) rfl ?_)
 show wpAny _ _ (seqItems? (.ref l) >>= _) _ _ s
 refine akT (al6 iF hdl ?_)
 simp only[am7,hx]
 refine akT (am9 ho hd (by simp) (akU ⟨x,rfl,akU (hQ _ ?_ (amb ..))⟩))
 exact⟨_,am8 _ ho (aob (amL hd _)),(aoc ..).trans hc,by
  rw[amL hd];simp[rawInt]⟩
theorem aai{it l:Addr}{i:Nat}{items:Array Value}{Q:Value->Shared->Prop}(hh:A.handled=none)
  (hit:s.heap.IsTupleIter it l i) (hl:s.heap.IsTuple l items) (hx:items[i]? = none)
  (hE:∀h' e,Heap.ExtBut it s.heap h'->(∃o,h'.get? e=some o/\o.cls=.type "StopIteration")->E (.ref e) {s with heap:=h'}) :
  wpAny (model prog w) A (Builtin.SmallTypes.nextOf (.ref it)) Q E s:=by
 obtain⟨o,ho,hc,hd⟩:=id hit
 obtain⟨ol,iF,_,nl,hdl⟩:=hl
 unfold Builtin.SmallTypes.nextOf
 refine akT (amK (name:=Str.ofString "__next__") hit.typeIs anw
  (ama anw hit.typeIs ao5 ?_ (ao6 _)))
 show wpAny _ _ (field (.ref it) 0 >>= _) _ _ s
 refine akT (alV ho hd (x:=.ref l) rfl ?_)
 show wpAny _ _ (if(Value.ref l==Value.none)=true then _ else _) _ _ s
 rw[if_neg (show ¬((Value.ref l==Value.none)=true)from ali)]
 show wpAny _ _ (field (.ref it) 1 >>= _) _ _ s
 refine akT (alV ho hd (x:=.int i 0) rfl ?_)
 show wpAny _ _ (seqItems? (.ref l) >>= _) _ _ s
 refine akT (al6 iF hdl ?_)
 simp only[am7,hx]
 refine akT (anx (akT (am9 ho hd (by simp) ?_)))
 show wpAny _ _ (newExc (.type "StopIteration") [] >>= _) _ _ _
 refine akT ?_
 simp only[newExc,newTuple]
 refine akT (amJ ?_ (by size_fits))
 refine akT (m:=firstArgMember _ _) (ana (a:=Value.none) (by first|rfl|(simp only[firstArgMember];rfl)) ?_)
 refine amJ ?_ (by size_fits)
 simp only[raiseNew]
 refine akT (wpAny_handled ?_)
 first|rw[show A.in1.handled=none from hh]|rw[hh]
 refine akT (akU (wpAny_throw ?_))
 exact hE _ _ (((amb ..).extBut.push _).push _) ⟨_,alb _ rfl,rfl⟩
theorem Draws.tuple{prog:Program}{w:World}{A:Around}(hh:A.handled=none) (it l:Addr) (hne:l≠it) (items:Array Value) :
  Draws prog w A it [it,l] items.size (λi v=>items[i]? = some v) (λi h=>h.IsTupleIter it l i/\h.IsTuple l items) where
 live:=λ_ _ st=>let⟨o,ho,_⟩:=st.1;⟨o,ho⟩
 frame:=λ_ _ _ st hk=>⟨st.1.at λo e=>hk it (by simp) o e,let⟨o,e,r⟩:=st.2;⟨o,hk l (by simp) o e,r⟩⟩
 item:=λi s Q E hi st hQ=>by
  refine aah st.1 st.2 (x:=items[i]) (by simp[hi]) λh' vz hs'=>?_
  exact hQ _ h' s.toks (by simp[hi]) ⟨vz,let⟨o,e,r⟩:=st.2;⟨o,hs'.extBut _ _ hne e,r⟩⟩ hs'
 done:=λs Q E st hE=>aai hh st.1 st.2 (by simp) hE
structure ZA (z TI TO i1 i2:Addr) (f1 f2:List Addr):Prop where
 TIz:TI≠z
 TOz:TO≠z
 TITO:TI≠TO
 TIi1:TI≠i1
 TIi2:TI≠i2
 m1:i1∈f1
 m2:i2∈f2
 z1:z∉f1
 z2:z∉f2
 o1:TO∉f1
 o2:TO∉f2
 x1:i1∉f2
 x2:i2∉f1
theorem Pr{z TI TO i1 i2:Addr}{f1 f2:List Addr}{n1 n2 k:Nat}{P1 P2:Nat->Value->Prop}{S1 S2:Nat->Heap->Prop}{a b:Value}{Q:Value->Shared->Prop}(D:ZA z TI TO i1 i2 f1 f2) (D1:Draws prog w A i1 f1 n1 P1 S1) (D2:Draws prog w A i2 f2 n2 P2 S2)
  (hz:IsZip s.heap z TI TO .none) (hTI:IsPair s.heap TI (.ref i1) (.ref i2)) (hTO:IsPair s.heap TO a b)
  (h1:S1 k s.heap) (h2:S2 k s.heap) (hx:k<n1) (hy:k<n2)
  (hQ:∀x y h' tk,P1 k x->P2 k y->IsZip h' z TI TO (rawInt s.heap.objs.size)->IsPair h' TO x y->S1 (k+1) h'->S2 (k+1) h'->IsPair h' s.heap.objs.size x y ->
   (∀c o,c≠z->c≠TO->c≠i1->c≠i2->s.heap.get? c=some o->h'.get? c=some o)->Q (.ref s.heap.objs.size) {s with heap:=h',toks:=tk}) :
  wpAny (model prog w) A (Builtin.«zip.__next__» ⟨[.ref z],[]⟩) (λfin s'=>∃v,fin=.done (.ret v)/\Q v s') E s:=by
 have yc:i1≠z:=λe=>D.z1 (e▸D.m1)
 have BG:i2≠z:=λe=>D.z2 (e▸D.m2)
 have BJ:TO≠i1:=λe=>D.o1 (e▸D.m1)
 have Kn:TO≠i2:=λe=>D.o2 (e▸D.m2)
 have n12:i1≠i2:=λe=>D.x1 (e▸D.m2)
 show wpAny _ _ (field (.ref z) 2 >>= _) _ _ _
 refine akT (alV hz rfl (x:=.bool false) rfl ?_)
 show wpAny _ _ (field (.ref z) 3 >>= _) _ _ _
 refine akT (alV hz rfl (x:=.ref TI) rfl ?_)
 refine akT (al6 hTI rfl ?_)
 show wpAny _ _ (Builtin.SmallTypes.ownedTupleIsFree (.ref z) >>= _) _ _ _
 refine akT ?_
 unfold Builtin.SmallTypes.ownedTupleIsFree
 refine akT (alV hz rfl (x:=.none) rfl (akU ?_))
 simp only[if_true]
 refine akT (anx ?_)
 refine akT (alV hz rfl (x:=.ref TO) rfl ?_)
 refine akT (amM hz (by simp) λh₁ nA hs₁=>?_)
 replace nA:IsZip h₁ z TI TO .ellipsis:=nA
 refine akT ?_
 simp only[ao7,ao8,amI,anz]
 refine akT (akT (anA ?_))
 show wpAny _ _ (Builtin.SmallTypes.nextOf (.ref i1) >>= _) _ _ _
 refine akT (D1.item k _ _ _ hx (D1.frame _ _ _ h1 λc hc o e=>hs₁.extBut _ _ (λq=>D.z1 (q▸hc)) e) λx h₂ tk₂ px L0 hs₂=>akU ?_)
 have vD:IsPair h₂ TO a b:=hs₂.extBut _ _ BJ (hs₁.extBut _ _ D.TOz hTO)
 refine akT (al6 vD rfl ?_)
 refine akT (aod vD λh₃ yM i6=>?_)
 replace yM:IsPair h₃ TO x b:=yM
 refine akT (wpAny_letGo (akU ?_))
 refine akT (akT (anA ?_))
 show wpAny _ _ (Builtin.SmallTypes.nextOf (.ref i2) >>= _) _ _ _
 refine akT (D2.item k _ _ _ hy (D2.frame _ _ _ h2 λc hc o e=>i6.extBut _ _ (λq=>D.o2 (q▸hc)) (hs₂.extBut _ _ (λq=>D.x1 (q▸hc)) (hs₁.extBut _ _ (λq=>D.z2 (q▸hc)) e))) λy h₄ tk₄ py ael nE=>akU ?_)
 have LS:IsPair h₄ TO x b:=nE.extBut _ _ Kn yM
 refine akT (al6 LS rfl ?_)
 refine akT (aod LS λh₅ yL nC=>?_)
 replace yL:IsPair h₅ TO x y:=yL
 refine akT (wpAny_letGo (akU (akU ?_)))
 refine akT (al6 yL rfl ?_)
 refine akT (wpAny_newTuple ?_)
 have hsz:h₅.objs.size=s.heap.objs.size:=by rw[nC.1,nE.1,i6.1,hs₂.1,hs₁.1]
 have Ln:IsZip h₅ z TI TO .ellipsis:=nC.extBut _ _ D.TOz.symm (nE.extBut _ _ BG.symm (i6.extBut _ _ D.TOz.symm (hs₂.extBut _ _ yc.symm nA)))
 have adL:∀c o,c≠z->c≠TO->c≠i1->c≠i2->s.heap.get? c=some o->h₅.get? c=some o:=λc o c1 c2 c3 c4 e =>
  nC.extBut _ _ c2 (nE.extBut _ _ c4 (i6.extBut _ _ c2 (hs₂.extBut _ _ c3 (hs₁.extBut _ _ c1 e))))
 have aem:S1 (k+1) h₅:=D1.frame _ _ _ L0 λc hc o e=>nC.extBut _ _ (λq=>D.o1 (q▸hc)) (nE.extBut _ _ (λq=>D.x2 (q▸hc)) (i6.extBut _ _ (λq=>D.o1 (q▸hc)) e))
 have aek:S2 (k+1) h₅:=D2.frame _ _ _ ael λc hc o e=>nC.extBut _ _ (λq=>D.o2 (q▸hc)) e
 have Lq:z<h₅.objs.size:=ak0 Ln
 show wpAny _ _ (Builtin.SmallTypes.ownedTupleHandOut (.ref z) (.ref h₅.objs.size) >>= _) _ _ _
 refine akT ?_
 unfold Builtin.SmallTypes.ownedTupleHandOut
 have adi:IsZip (h₅.push {cls:=.type "tuple",data:=.seq #[x,y]}) z TI TO .ellipsis:=akX _ Ln
 refine akT (amM adi (by simp) λadh DT Lv=>?_)
 replace DT:IsZip adh z TI TO (rawInt h₅.objs.size):=DT
 refine amM DT (by simp) λyF yG Lu=>?_
 replace yG:IsZip yF z TI TO (rawInt h₅.objs.size):=yG
 have up:∀c o,c≠z->h₅.get? c=some o->yF.get? c=some o:=λc o c1 e=>Lu.extBut _ _ c1 (Lv.extBut _ _ c1 (akX _ e))
 have LR:IsPair yF h₅.objs.size x y:=Lu.extBut _ _ (alO Lq) (Lv.extBut _ _ (alO Lq) (alb _ rfl))
 rw[hsz]at yG LR
 refine akU ⟨_,rfl,?_⟩
 show Q (.ref h₅.objs.size) _
 rw[hsz]
 exact hQ x y yF _ px py yG (up _ _ D.TOz yL) (D1.frame _ _ _ aem λc hc o e=>up c o (λq=>D.z1 (q▸hc)) e) (D2.frame _ _ _ aek λc hc o e=>up c o (λq=>D.z2 (q▸hc)) e) LR λc o c1 c2 c3 c4 e=>up c o c1 (adL c o c1 c2 c3 c4 e)
theorem Pu{z TI TO i1 i2:Addr}{f1 f2:List Addr}{n1 n2 k:Nat}{P1 P2:Nat->Value->Prop}{S1 S2:Nat->Heap->Prop}{a b:Value}{Q:Fin->Shared->Prop}(D:ZA z TI TO i1 i2 f1 f2) (D1:Draws prog w A i1 f1 n1 P1 S1) (D2:Draws prog w A i2 f2 n2 P2 S2)
  (hz:IsZip s.heap z TI TO .none) (hTI:IsPair s.heap TI (.ref i1) (.ref i2)) (hTO:IsPair s.heap TO a b)
  (h1:S1 k s.heap) (h2:S2 k s.heap) (hend:k=n1\/(k<n1/\k=n2))
  (hE:∀h' tk e,(∀c o,c≠z->c≠TO->c≠i1->c≠i2->s.heap.get? c=some o->h'.get? c=some o)->(∃o,h'.get? e=some o/\o.cls=.type "StopIteration")->E (.ref e) {s with heap:=h',toks:=tk}) :
  wpAny (model prog w) A (Builtin.«zip.__next__» ⟨[.ref z],[]⟩) Q E s:=by
 have yc:i1≠z:=λe=>D.z1 (e▸D.m1)
 have BG:i2≠z:=λe=>D.z2 (e▸D.m2)
 have BJ:TO≠i1:=λe=>D.o1 (e▸D.m1)
 have Kn:TO≠i2:=λe=>D.o2 (e▸D.m2)
 show wpAny _ _ (field (.ref z) 2 >>= _) _ _ _
 refine akT (alV hz rfl (x:=.bool false) rfl ?_)
 show wpAny _ _ (field (.ref z) 3 >>= _) _ _ _
 refine akT (alV hz rfl (x:=.ref TI) rfl ?_)
 refine akT (al6 hTI rfl ?_)
 show wpAny _ _ (Builtin.SmallTypes.ownedTupleIsFree (.ref z) >>= _) _ _ _
 refine akT ?_
 unfold Builtin.SmallTypes.ownedTupleIsFree
 refine akT (alV hz rfl (x:=.none) rfl (akU ?_))
 simp only[if_true]
 refine akT (anx ?_)
 refine akT (alV hz rfl (x:=.ref TO) rfl ?_)
 refine akT (amM hz (by simp) λh₁ nA hs₁=>?_)
 replace nA:IsZip h₁ z TI TO .ellipsis:=nA
 refine akT ?_
 simp only[ao7,ao8,amI,anz]
 refine akT (akT (anA ?_))
 show wpAny _ _ (Builtin.SmallTypes.nextOf (.ref i1) >>= _) _ _ _
 have L3:S1 k h₁:=D1.frame _ _ _ h1 λc hc o e=>hs₁.extBut _ _ (λq=>D.z1 (q▸hc)) e
 rcases hend with rfl|⟨hlt,rfl⟩
 ·refine akT (D1.done _ _ _ L3 λh₂ e hs₂ he=>?_)
  obtain⟨oe,pG,hce⟩:=he
  have Lp:IsZip h₂ z TI TO .ellipsis:=hs₂ _ _ yc.symm nA
  have D3:e≠z:=λx=>by subst x;rw[Lp]at pG;cases pG;simp at hce
  refine amM Lp (by simp) λh₃ _ i6=>hE h₃ _ e (λc o c1 _ c3 _ x=>i6.extBut _ _ c1 (hs₂ _ _ c3 (hs₁.extBut _ _ c1 x))) ⟨oe,i6.extBut _ _ D3 pG,hce⟩
 ·refine akT (D1.item k _ _ _ hlt L3 λx h₂ tk₂ px L0 hs₂=>akU ?_)
  have vD:IsPair h₂ TO a b:=hs₂.extBut _ _ BJ (hs₁.extBut _ _ D.TOz hTO)
  refine akT (al6 vD rfl ?_)
  refine akT (aod vD λh₃ yM i6=>?_)
  refine akT (wpAny_letGo (akU ?_))
  refine akT (akT (anA ?_))
  show wpAny _ _ (Builtin.SmallTypes.nextOf (.ref i2) >>= _) _ _ _
  refine akT (D2.done _ _ _ (D2.frame _ _ _ h2 λc hc o e=>i6.extBut _ _ (λq=>D.o2 (q▸hc)) (hs₂.extBut _ _ (λq=>D.x1 (q▸hc)) (hs₁.extBut _ _ (λq=>D.z2 (q▸hc)) e))) λh₄ e nE he=>?_)
  obtain⟨oe,pG,hce⟩:=he
  have Lo:IsZip h₄ z TI TO .ellipsis:=nE _ _ BG.symm (i6.extBut _ _ D.TOz.symm (hs₂.extBut _ _ yc.symm nA))
  have D3:e≠z:=λx=>by subst x;rw[Lo]at pG;cases pG;simp at hce
  refine amM Lo (by simp) λh₅ _ nC=>hE h₅ _ e (λc o c1 c2 c3 c4 x=>nC.extBut _ _ c1 (nE _ _ c4 (i6.extBut _ _ c2 (hs₂.extBut _ _ c3 (hs₁.extBut _ _ c1 x))))) ⟨oe,nC.extBut _ _ D3 pG,hce⟩
theorem UT{z TI TO i1 i2:Addr}{f1 f2:List Addr}{n1 n2 k:Nat}{P1 P2:Nat->Value->Prop}{S1 S2:Nat->Heap->Prop}{a b:Value}{Q:Option Value->Shared->Prop}(D:ZA z TI TO i1 i2 f1 f2) (D1:Draws prog w A.in1 i1 f1 n1 P1 S1) (D2:Draws prog w A.in1 i2 f2 n2 P2 S2)
  (hz:IsZip s.heap z TI TO .none) (hTI:IsPair s.heap TI (.ref i1) (.ref i2)) (hTO:IsPair s.heap TO a b)
  (h1:S1 k s.heap) (h2:S2 k s.heap) (hx:k<n1) (hy:k<n2)
  (hQ:∀x y h' tk,P1 k x->P2 k y->IsZip h' z TI TO (rawInt s.heap.objs.size)->IsPair h' TO x y->S1 (k+1) h'->S2 (k+1) h'->IsPair h' s.heap.objs.size x y ->
   (∀c o,c≠z->c≠TO->c≠i1->c≠i2->s.heap.get? c=some o->h'.get? c=some o)->Q (some (.ref s.heap.objs.size)) {s with heap:=h',toks:=tk}) :
  wpAny (model prog w) A (pyNext (.ref z)) Q E s:=by
 have hT:s.TypeIs (.ref z) "zip":=⟨_,hz,rfl⟩
 unfold pyNext
 exact akT (anB (amK (name:=Str.ofString "__next__") hT anC
  (ama anC hT F.entry_zip_next
   (Pr D D1 D2 hz hTI hTO h1 h2 hx hy λx y h' tk a0 b0 a1 a2 a3 a4 a5 a7=>akU (hQ x y h' tk a0 b0 a1 a2 a3 a4 a5 a7)) (F.args_zip_next_1 _))))
theorem UU{z TI TO i1 i2:Addr}{f1 f2:List Addr}{n1 n2 k:Nat}{P1 P2:Nat->Value->Prop}{S1 S2:Nat->Heap->Prop}{a b:Value}{Q:Option Value->Shared->Prop}(D:ZA z TI TO i1 i2 f1 f2) (D1:Draws prog w A.in1 i1 f1 n1 P1 S1) (D2:Draws prog w A.in1 i2 f2 n2 P2 S2)
  (hz:IsZip s.heap z TI TO .none) (hTI:IsPair s.heap TI (.ref i1) (.ref i2)) (hTO:IsPair s.heap TO a b)
  (h1:S1 k s.heap) (h2:S2 k s.heap) (hend:k=n1\/(k<n1/\k=n2))
  (hQ:∀h' tk,(∀c o,c≠z->c≠TO->c≠i1->c≠i2->s.heap.get? c=some o->h'.get? c=some o)->Q none {s with heap:=h',toks:=tk}):wpAny (model prog w) A (pyNext (.ref z)) Q E s:=by
 have hT:s.TypeIs (.ref z) "zip":=⟨_,hz,rfl⟩
 unfold pyNext
 refine akT (anB (amK (name:=Str.ofString "__next__") hT anC
  (ama anC hT F.entry_zip_next (Pu D D1 D2 hz hTI hTO h1 h2 hend λh' tk e hk he=>?_) (F.args_zip_next_1 _))))
 obtain⟨o,ho,hc⟩:=he
 refine akT (aoe (T:="StopIteration") (b:=true) ⟨o,ho,hc⟩ isSubtype_stop ?_)
 exact akU (hQ _ _ hk)
abbrev wL(h:Heap) (l1:Addr):Heap:=h.push {cls:=.type "tuple_iterator",data:=.fields #[.ref l1,.int 0 0]}
abbrev wK(h:Heap) (l1 l2:Addr):Heap:=(wL h l1).push {cls:=.type "tuple_iterator",data:=.fields #[.ref l2,.int 0 0]}
abbrev wJ(h:Heap) (l1 l2:Addr):Heap:=(wK h l1 l2).push {cls:=.type "tuple",data:=.seq #[.ref h.objs.size,.ref (wL h l1).objs.size]}
abbrev wI(h:Heap) (l1 l2:Addr):Heap:=(wJ h l1 l2).push {cls:=.type "tuple",data:=.seq #[.none,.none]}
abbrev ql(h:Heap) (l1 l2:Addr):Heap:=(wI h l1 l2).push {cls:=.type "zip",data:=.fields #[.none,.bool false,.bool false,.ref (wK h l1 l2).objs.size,.ref (wJ h l1 l2).objs.size]}
theorem ai6{h:Heap}{a:Addr}{xs:Array Value}(x:h.IsTuple a xs) (o:Obj):(h.push o).IsTuple a xs:=let⟨q,e,r⟩:=x;⟨q,akX _ e,r⟩
theorem abg(l1 l2:Addr) (xs ys:Array Value) :
  Meets (Builtin.«zip.__new__» ⟨[.type "zip",.ref l1,.ref l2],[]⟩) (λ_ R s=>s.heap.IsTuple l1 xs/\s.heap.IsTuple l2 ys /\
   R (.ok (.ret (.ref (wI s.heap l1 l2).objs.size))) {s with heap:=ql s.heap l1 l2}) :=
 .of_wp λprog w A R s h=>by
  obtain⟨hp,g,d,tk,os⟩:=s;obtain⟨hl1,hl2,h⟩:=h
  have hsub:=sub_zip
  have sG:Heap.IsTuple (Shared.heap ⟨hp,g,d,tk,os⟩) l1 xs:=hl1
  have sE:Heap.IsTuple (Shared.heap ⟨hp.push {cls:=.type "tuple_iterator",data:=.fields #[.ref l1,.int 0 0]},g,d,tk,os⟩) l2 ys:=ai6 hl2 _
  wp_walk using anq sG,anq sE
  exact⟨_,rfl,h⟩
theorem ahq{l1 l2:Addr}{xs ys:Array Value}{Q:Value->Shared->Prop}(hl1:s.heap.IsTuple l1 xs) (hl2:s.heap.IsTuple l2 ys)
  (h:∀h',IsZip h' (s.heap.objs.size+4) (s.heap.objs.size+2) (s.heap.objs.size+3) .none->IsPair h' (s.heap.objs.size+2) (.ref s.heap.objs.size) (.ref (s.heap.objs.size+1)) ->
   IsPair h' (s.heap.objs.size+3) .none .none->h'.IsTupleIter s.heap.objs.size l1 0->h'.IsTupleIter (s.heap.objs.size+1) l2 0 ->
   (∀c o,s.heap.get? c=some o->h'.get? c=some o)->Q (.ref (s.heap.objs.size+4)) {s with heap:=h'}) :
  wpAny (model prog w) A (call (.type "zip") [.ref l1,.ref l2]) Q E s:=by
 refine callType_new F.called_zip (by decide) (F.typeCall_zip_2 _ _) (F.newCall_zip_2 _ _) (λobj=>F.args_object_init_3 obj _ _) F.entry_zip_new
  (abg l1 l2 xs ys) ⟨hl1,hl2,?_⟩
 have z1:(wL s.heap l1).objs.size=s.heap.objs.size+1:=alv ..
 have z2:(wK s.heap l1 l2).objs.size=s.heap.objs.size+2:=by rw[alv,z1]
 have z3:(wJ s.heap l1 l2).objs.size=s.heap.objs.size+3:=by rw[alv,z2]
 have z4:(wI s.heap l1 l2).objs.size=s.heap.objs.size+4:=by rw[alv,z3]
 have g5:(ql s.heap l1 l2).get? (wI s.heap l1 l2).objs.size=some _:=alb _ rfl
 have g4:(ql s.heap l1 l2).get? (wJ s.heap l1 l2).objs.size=some _:=akX _ (alb _ rfl)
 have g3:(ql s.heap l1 l2).get? (wK s.heap l1 l2).objs.size=some _:=akX _ (akX _ (alb _ rfl))
 have g2:(ql s.heap l1 l2).get? (wL s.heap l1).objs.size=some _:=akX _ (akX _ (akX _ (alb _ rfl)))
 have g1:(ql s.heap l1 l2).get? s.heap.objs.size=some _:=akX _ (akX _ (akX _ (akX _ (alb _ rfl))))
 show _/\_
 rw[z2,z3,z4]at g5
 rw[z1,z2]at g3
 rw[z3]at g4
 rw[z1]at g2
 rw[z4]
 exact⟨⟨_,g5,rfl⟩,h _ g5 g3 g4 ⟨_,g1,rfl,rfl⟩ ⟨_,g2,rfl,rfl⟩ λc o x =>
  akX _ (akX _ (akX _ (akX _ (akX _ x))))⟩
open AutoSeq1 (wpAny_loadPart')
end
end PySem
namespace L2
open PySem PySem.Spec PyProof.Rows
section
variable {X:Cx}{pins:List (Addr×Obj)}{σ:St}{H:Hp}{s:Shared}{K:PySem.W.Frag}
theorem aeE{a b:Addr}{xs:List V}(I:Inv X pins σ H s) (f:gi X pins H b) (q:cI X.K H a xs):a≠b:=by
 rintro rfl
 rcases q with(q|⟨o,q⟩)|⟨o,its,n,q,_⟩
 ·rw[f.1]at q;cases q
 ·rw[f.1]at q;cases q
 ·have e:=I.ok.mod.kU a o q
  rcases f.2.2.2.1 with z|z
  ·exact I.ok.kL _ _ e z
  ·exact absurd (ak7 (ak0 e) (alk I.ok.g8 z)) (alJ _)
theorem aeF{a b:Addr}{xs:List V}(I:Inv X pins σ H s) (f:gi X pins H b) (q:bH X.K H a xs):a≠b:=by
 rintro rfl
 rcases q with(q|⟨o,q⟩)|⟨o,its,n,q,_⟩
 ·rw[f.1]at q;cases q
 ·rw[f.1]at q;cases q
 ·have e:=I.ok.mod.kU a o q
  rcases f.2.2.2.1 with z|z
  ·exact I.ok.kL _ _ e z
  ·exact absurd (ak7 (ak0 e) (alk I.ok.g8 z)) (alJ _)
theorem Inv.HW{h':Heap}{t':Nat}{ch:List Addr}{T:Addr}{vs:List V}{us:List Value}(I:Inv X pins σ H s) (hf:∀b∈ch,gi X pins H b) (k:∀b o,b∉ch->s.heap.get? b=some o->h'.get? b=some o)
  (hT:s.heap.objs.size<=T) (th:∀b∈ch,∃o,h'.get? b=some o) (rv:Vals vs us) (hz:vs.length<=sizeLine) (tup:kh h' T us.toArray):Inv X pins σ (upd H T (.tup vs)) {s with heap:=h',toks:=t'}:=by
 have hn:H T=none:=I.hok.fresh hT
 have jq:∀b u,H b=some u->b∉ch:=λb u e z=>by rw[(hf b z).1]at e;cases e
 refine I.step (g':=s.gens) (d':=s.drawn) (ch:=ch) (λb hb=>?_) (λb o _ _ hc e _=>k b o hc e) (λb o _ _ hc e _=>⟨o.slots,k b o hc e⟩) (λb o _ e n=>?_)
  (λb o hc e=>⟨o,k b o hc e⟩) (λb xs e=>by rw[bL (c9 e hn)];exact e) (λb o u e=>by rw[bL (c9 e hn)];exact e) (λb ps e=>⟨#[],by rw[bL (c9 e hn),e];simp⟩) (λm hm=>?_) (λb u e=>?_) I.bare
 ·obtain⟨f0,f1,f2,f3,f4,f5⟩:=hf b hb
  exact⟨f3,f1,f4,f5⟩
 ·rw[bL (ak1 (ak7 (ak0 e) hT))];exact n
 ·obtain⟨o,es,ep,ho,r⟩:=hm
  exact⟨o,es,ep,k _ o (λz=>(hf _ z).2.1 rfl) ho,r⟩
 ·by_cases hb:b=T
  ·subst hb
   rw[fD]at e;cases e
   exact⟨hz,us,rv,tup⟩
  ·rw[bL hb]at e
   refine(I.hok b u e).stay (λc v hc q=>k c v ?_ q) (λc q=>by rw[bL (c9 q hn)];exact q) λc xs q=>by rw[bL (c9 q hn)];exact q
   rcases hc with z|z
   ·rw[z];exact jq b u e
   ·exact jq c _ z
theorem Inv.HX{h':Heap}{t':Nat}{ch:List Addr}(I:Inv X pins σ H s) (hf:∀b∈ch,gi X pins H b) (k:∀b o,b∉ch->s.heap.get? b=some o->h'.get? b=some o):Inv X pins σ H {s with heap:=h',toks:=t'}:=by
 have jq:∀b u,H b=some u->b∉ch:=λb u e z=>by rw[(hf b z).1]at e;cases e
 refine I.step (g':=s.gens) (d':=s.drawn) (ch:=ch) (λb hb=>?_) (λb o _ _ hc e _=>k b o hc e) (λb o _ _ hc e _=>⟨o.slots,k b o hc e⟩) (λb o _ e n=>n)
  (λb o hc e=>⟨o,k b o hc e⟩) (λb xs e=>e) (λb o u e=>e) (λb ps e=>⟨#[],by rw[e];simp⟩) (λm hm=>?_) (λb u e=>?_) I.bare
 ·obtain⟨f0,f1,f2,f3,f4,f5⟩:=hf b hb
  exact⟨f3,f1,f4,f5⟩
 ·obtain⟨o,es,ep,ho,r⟩:=hm
  exact⟨o,es,ep,k _ o (λz=>(hf _ z).2.1 rfl) ho,r⟩
 ·refine(I.hok b u e).stay (λc v hc q=>k c v ?_ q) (λc q=>q) λc xs q=>q
  rcases hc with z|z
  ·rw[z];exact jq b u e
  ·exact jq c _ z
end
structure Ai (P:Program) (w:World) (K:PySem.W.Frag) (Sq:Hp->Addr->List V->Prop) (jE:Heap->Addr->Addr->Nat->Prop) (tZ:Heap->Addr->Array Value->Prop):Prop where
 get:∀{X:Cx}{pins:List (Addr×Obj)}{σ:St}{H:Hp}{s:Shared}{a:Addr}{xs:List V},X.K=K->Inv X pins σ H s->Sq H a xs->∃its:List Value,Vals xs its/\tZ s.heap a its.toArray/\xs.length<=sizeLine
 inj:∀{X:Cx}{pins:List (Addr×Obj)}{σ:St}{H:Hp}{s:Shared}{a:Addr}{xs ys:List V},X.K=K->Inv X pins σ H s->Sq H a xs->Sq H a ys->xs=ys
 ne:∀{X:Cx}{pins:List (Addr×Obj)}{σ:St}{H:Hp}{s:Shared}{a b:Addr}{xs:List V},X.K=K->Inv X pins σ H s->gi X pins H b->Sq H a xs->a≠b
 lq:∀(A:Around) (it l:Addr) (items:Array Value),A.handled=none->l≠it->Draws P w A it [it,l] items.size (λi v=>items[i]? = some v) (λi h=>jE h it l i/\tZ h l items)
 obj:∀{h:Heap}{it l:Addr}{i:Nat},jE h it l i->∃o,h.get? it=some o/\∀v,o.data≠.cell v
 at':∀{h h':Heap}{it l:Addr}{i:Nat},jE h it l i->(∀o,h.get? it=some o->h'.get? it=some o)->jE h' it l i
theorem Tq{P:Program}{w:World}{K:PySem.W.Frag}:Ai P w K (cI K) (λh it l i=>h.IsTupleIter it l i) (λh a xs=>h.IsTuple a xs) where
 get:=λe I q=>by subst e;obtain⟨its,r,p,z⟩:=I.tuple q;exact⟨its,r,p,z⟩
 inj:=λe I q q'=>by subst e;exact I.HZ q q'
 ne:=λe I f q=>by subst e;exact aeE I f q
 lq:=λA it l items hh hne=>Draws.tuple hh it l hne items
 obj:=λst=>by obtain⟨o,e,c,d⟩:=st;exact⟨o,e,λv z=>by rw[d]at z;cases z⟩
 at':=λst k=>st.at k
theorem IV{P:Program}{w:World}{K:PySem.W.Frag}:Ai P w K (bH K) (λh it l i=>h.IsListIter it l i) (λh a xs=>h.IsList a xs) where
 get:=λe I q=>by subst e;obtain⟨its,r,p,z⟩:=I.list q;exact⟨its,r,p.isList,z⟩
 inj:=λe I q q'=>by subst e;exact I.KQ q q'
 ne:=λe I f q=>by subst e;exact aeF I f q
 lq:=λA it l items hh hne=>Draws.list hh it l hne items
 obj:=λst=>by obtain⟨o,e,c,d⟩:=st;exact⟨o,e,λv z=>by rw[d]at z;cases z⟩
 at':=λst k=>st.at k
def An(Sq:Hp->Addr->List V->Prop) (a1 a2:Addr):It :=
  ⟨λi H=>∃xs ys x y,Sq H a1 xs/\Sq H a2 ys/\xs[i]? = some x/\ys[i]? = some y,
   λi H v H'=>∃t x y,v=.ref t/\H t=none/\H'=upd H t (.tup [x,y])/\∀xs ys,Sq H a1 xs->Sq H a2 ys->xs[i]? = some x/\ys[i]? = some y,
   λi H=>∃xs ys,Sq H a1 xs/\Sq H a2 ys/\(i=xs.length\/(i<xs.length/\i=ys.length))⟩
def Hj(Sq:Hp->Addr->List V->Prop) (a:Addr):It :=
  ⟨λi H=>∃xs x,Sq H a xs/\xs[i]? = some x,
   λi H v H'=>∃t x,v=.ref t/\H t=none/\H'=upd H t (.tup [.int i,x])/\∀xs,Sq H a xs->xs[i]? = some x,
   λi H=>∃xs,Sq H a xs/\i=xs.length⟩
theorem wU{xs:List V}{us:List Value}{i:Nat}{u:Value}(r:Vals xs us) (h:us.toArray[i]? = some u):∃x,xs[i]? = some x/\RelV x u:=by
 have h':us[i]? = some u:=by simpa using h
 have hi:i<xs.length:=by rw[r.length];exact(ala.mp h').1
 obtain⟨u',e,q⟩:=r.get (i:=i) (x:=xs[i]) (ak3 hi)
 rw[h']at e;cases e
 exact⟨xs[i],ak3 hi,q⟩
theorem HY{P:Program}{w:World}{K:PySem.W.Frag}{Sq:Hp->Addr->List V->Prop}{jE:Heap->Addr->Addr->Nat->Prop}{tZ:Heap->Addr->Array Value->Prop}(S:Ai P w K Sq jE tZ) {es:List Expr}{k:Nat}{pt:Pos}(a1 a2 z TI TO i1 i2:Addr)
  (n1:TI≠z) (n2:TO≠z) (n3:TI≠TO) (n4:TI≠i1) (n5:TI≠i2) (n6:TO≠i1) (n7:TO≠i2) (n8:i1≠z) (n9:i2≠z) (r8:i1≠i2) :
  Turn P w K (.Tuple es k pt) (An Sq a1 a2) [z,TI,TO,i1,i2] z (λi h=>IsZip h z TI TO .none/\IsPair h TI (.ref i1) (.ref i2)/\(∃a b,IsPair h TO a b)/\jE h i1 a1 i/\jE h i2 a2 i) where
 mem:=by simp
 obj:=λi h st b hb=>by
  obtain⟨hz,hTI,⟨a,b',hTO⟩,h1,h2⟩:=st
  simp only[akY,ak9,or_false]at hb
  rcases hb with rfl|rfl|rfl|rfl|rfl
  ·exact⟨_,hz,λv q=>nomatch q⟩
  ·exact⟨_,hTI,λv q=>nomatch q⟩
  ·exact⟨_,hTO,λv q=>nomatch q⟩
  ·exact S.obj h1
  ·exact S.obj h2
 keep:=λi h h' st kp=>by
  obtain⟨hz,hTI,⟨a,b,hTO⟩,h1,h2⟩:=st
  exact⟨kp _ (by simp) _ hz,kp _ (by simp) _ hTI,⟨a,b,kp _ (by simp) _ hTO⟩,S.at' h1 λo e=>kp _ (by simp) o e,S.at' h2 λo e=>kp _ (by simp) o e⟩
 item:=by
  intro X hP hw hK hc i pins s σ H E I hf st hg
  subst hP hw
  obtain⟨xs,ys,x,y,q1,q2,hx,hy⟩:=hg
  obtain⟨hz,hTI,⟨a,b,hTO⟩,h1,h2⟩:=st
  obtain⟨us,r1,p1,l1⟩:=S.get hK I q1
  obtain⟨vs,r2,p2,l2⟩:=S.get hK I q2
  have ne1:∀{b:Addr},b∈[z,TI,TO,i1,i2]->a1≠b:=λhb=>S.ne hK I (hf _ hb) q1
  have ne2:∀{b:Addr},b∈[z,TI,TO,i1,i2]->a2≠b:=λhb=>S.ne hK I (hf _ hb) q2
  have hx':i<us.toArray.size:=by have:=(ala.mp hx).1;have:=r1.length;simp;omega
  have hy':i<vs.toArray.size:=by have:=(ala.mp hy).1;have:=r2.length;simp;omega
  have D:ZA z TI TO i1 i2 [i1,a1] [i2,a2]:=⟨n1,n2,n3,n4,n5,by simp,by simp,by simp only[akY,ak9,or_false,not_or];exact⟨n8.symm,(ne1 (by simp)).symm⟩,by simp only[akY,ak9,or_false,not_or];exact⟨n9.symm,(ne2 (by simp)).symm⟩,
   by simp only[akY,ak9,or_false,not_or];exact⟨n6,(ne1 (by simp)).symm⟩,by simp only[akY,ak9,or_false,not_or];exact⟨n7,(ne2 (by simp)).symm⟩,
   by simp only[akY,ak9,or_false,not_or];exact⟨r8,(ne2 (by simp)).symm⟩,by simp only[akY,ak9,or_false,not_or];exact⟨r8.symm,(ne1 (by simp)).symm⟩⟩
  refine UT D (S.lq X.A.in1 i1 a1 us.toArray (I.ok.hd hc) (ne1 (by simp))) (S.lq X.A.in1 i2 a2 vs.toArray (I.ok.hd hc) (ne2 (by simp))) hz hTI hTO ⟨h1,p1⟩ ⟨h2,p2⟩ hx' hy' λu v h' tk pu pv hz' LU s1 s2 hT kp=>?_
  refine⟨_,rfl,?_⟩
  refine wpAny_letOwnedTupleGo_zip (s:={s with heap:=h',toks:=tk}) hz' λh'' Lr kZ=>?_
  obtain⟨x',ex,rx⟩:=wU r1 pu
  obtain⟨y',ey,ry⟩:=wU r2 pv
  have lt:∀{c:Addr}{o:Obj},s.heap.get? c=some o->c≠s.heap.objs.size:=λe=>ak1 (ak0 e)
  have vh:∀c o,c∉[z,TO,i1,i2]->s.heap.get? c=some o->h''.get? c=some o:=λc o hcn e=>by
   simp only[akY,ak9,or_false,not_or]at hcn
   exact kZ.extBut _ _ hcn.1 (kp c o hcn.1 hcn.2.1 hcn.2.2.1 hcn.2.2.2 e)
  have hT2:kh h'' s.heap.objs.size [u,v].toArray:=⟨_,kZ.extBut _ _ (lt hz).symm hT,rfl,⟨_,rfl⟩,rfl⟩
  have I2:Inv X pins σ (upd H s.heap.objs.size (.tup [x',y'])) {s with heap:=h'',toks:=tk}:=by
   refine I.HW (ch:=[z,TO,i1,i2]) (us:=[u,v]) (λb hb=>hf b ?_) vh (akV _) (λb hb=>?_) (.cons rx (.cons ry .nil)) (by show 2<=sizeLine;decide) hT2
   ·simp only[akY,ak9,or_false]at hb ⊢
    rcases hb with rfl|rfl|rfl|rfl<;>simp
   ·simp only[akY,ak9,or_false]at hb
    rcases hb with rfl|rfl|rfl|rfl
    ·exact⟨_,Lr⟩
    ·exact⟨_,kZ.extBut _ _ n2 LU⟩
    ·obtain⟨o,e,_⟩:=S.obj s1.1;exact⟨_,kZ.extBut _ _ n8 e⟩
    ·obtain⟨o,e,_⟩:=S.obj s2.1;exact⟨_,kZ.extBut _ _ n9 e⟩
  refine⟨.ref s.heap.objs.size,_,I2,rfl,⟨_,x',y',rfl,I.hok.fresh (akV _),rfl,λxs' ys' w1 w2=>?_⟩,⟨Lr,?_,⟨_,_,kZ.extBut _ _ n2 LU⟩,S.at' s1.1 λo e=>kZ.extBut _ _ n8 e,S.at' s2.1 λo e=>kZ.extBut _ _ n9 e⟩,λb hb=>?_⟩
  ·rw[S.inj hK I w1 q1,S.inj hK I w2 q2];exact⟨ex,ey⟩
  ·exact kZ.extBut _ _ n1 (kp _ _ n1 n3 n4 n5 hTI)
  ·have hb':b≠s.heap.objs.size:=by
    simp only[akY,ak9,or_false]at hb
    rcases hb with rfl|rfl|rfl|rfl|rfl
    ·exact lt hz
    ·exact lt hTI
    ·exact lt hTO
    ·obtain⟨o,e,_⟩:=S.obj h1;exact lt e
    ·obtain⟨o,e,_⟩:=S.obj h2;exact lt e
   rw[bL hb'];exact(hf b hb).1
 done:=by
  intro X hP hw hK hc i pins s σ H E I hf st hg
  subst hP hw
  obtain⟨xs,ys,q1,q2,hend⟩:=hg
  obtain⟨hz,hTI,⟨a,b,hTO⟩,h1,h2⟩:=st
  obtain⟨us,r1,p1,l1⟩:=S.get hK I q1
  obtain⟨vs,r2,p2,l2⟩:=S.get hK I q2
  have ne1:∀{b:Addr},b∈[z,TI,TO,i1,i2]->a1≠b:=λhb=>S.ne hK I (hf _ hb) q1
  have ne2:∀{b:Addr},b∈[z,TI,TO,i1,i2]->a2≠b:=λhb=>S.ne hK I (hf _ hb) q2
  have D:ZA z TI TO i1 i2 [i1,a1] [i2,a2]:=⟨n1,n2,n3,n4,n5,by simp,by simp,by simp only[akY,ak9,or_false,not_or];exact⟨n8.symm,(ne1 (by simp)).symm⟩,by simp only[akY,ak9,or_false,not_or];exact⟨n9.symm,(ne2 (by simp)).symm⟩,
   by simp only[akY,ak9,or_false,not_or];exact⟨n6,(ne1 (by simp)).symm⟩,by simp only[akY,ak9,or_false,not_or];exact⟨n7,(ne2 (by simp)).symm⟩,
   by simp only[akY,ak9,or_false,not_or];exact⟨r8,(ne2 (by simp)).symm⟩,by simp only[akY,ak9,or_false,not_or];exact⟨r8.symm,(ne1 (by simp)).symm⟩⟩
  have e1:=r1.length
  have e2:=r2.length
  refine UU D (S.lq X.A.in1 i1 a1 us.toArray (I.ok.hd hc) (ne1 (by simp))) (S.lq X.A.in1 i2 a2 vs.toArray (I.ok.hd hc) (ne2 (by simp))) hz hTI hTO (k:=i) ⟨h1,p1⟩ ⟨h2,p2⟩ (by simp only[ak8];omega) λh' tk kp=>?_
  refine⟨rfl,I.HX (ch:=[z,TO,i1,i2]) (λb hb=>hf b ?_) λc o hcn e=>?_⟩
  ·simp only[akY,ak9,or_false]at hb ⊢
   rcases hb with rfl|rfl|rfl|rfl<;>simp
  ·simp only[akY,ak9,or_false,not_or]at hcn
   exact kp c o hcn.1 hcn.2.1 hcn.2.2.1 hcn.2.2.2 e
 self:=λA i s Q E st h=>aof st.1 h
theorem QM{P:Program}{w:World}{K:PySem.W.Frag}{Sq:Hp->Addr->List V->Prop}{jE:Heap->Addr->Addr->Nat->Prop}{tZ:Heap->Addr->Array Value->Prop}(S:Ai P w K Sq jE tZ) {es:List Expr}{k:Nat}{pt:Pos}(a e it:Addr) (n1:e≠it) :
  Turn P w K (.Tuple es k pt) (Hj Sq a) [e,it] e (λi h=>(∃old,IsEnum h e it i old)/\jE h it a i) where
 mem:=by simp
 obj:=λi h st b hb=>by
  obtain⟨⟨old,hz⟩,h1⟩:=st
  simp only[akY,ak9,or_false]at hb
  rcases hb with rfl|rfl
  ·exact⟨_,hz,λv q=>nomatch q⟩
  ·exact S.obj h1
 keep:=λi h h' st kp=>by
  obtain⟨⟨old,hz⟩,h1⟩:=st
  exact⟨⟨old,kp _ (by simp) _ hz⟩,S.at' h1 λo e=>kp _ (by simp) o e⟩
 item:=by
  intro X hP hw hK hc i pins s σ H E I hf st hg
  subst hP hw
  obtain⟨xs,x,q1,hx⟩:=hg
  obtain⟨⟨old,hz⟩,h1⟩:=st
  obtain⟨us,r1,p1,l1⟩:=S.get hK I q1
  have ne1:∀{b:Addr},b∈[e,it]->a≠b:=λhb=>S.ne hK I (hf _ hb) q1
  have hx':i<us.toArray.size:=by have:=(ala.mp hx).1;have:=r1.length;simp;omega
  have W:=WalksT.enumerateD (A:=X.A) (S.lq X.A.in1 it a us.toArray (I.ok.hd hc) (ne1 (by simp))) e n1 (by simp only[akY,ak9,or_false,not_or];exact⟨n1,(ne1 (by simp)).symm⟩) (by simp)
  refine wpAny_pyNext_enum_itemD (S.lq X.A.in1 it a us.toArray (I.ok.hd hc) (ne1 (by simp))) hz ⟨h1,p1⟩ hx' n1 (by simp only[akY,ak9,or_false,not_or];exact⟨n1,(ne1 (by simp)).symm⟩) λu0 h' tk0 U1 ho0 hs0 hT0 hsz0 hk0=>?_
  have hilt:it<s.heap.objs.size:=by obtain⟨o,e3,_⟩:=S.obj h1;exact ak0 e3
  have hT:s.heap.objs.size<=s.heap.objs.size:=akV _
  have mid:(∃x,IsEnumOut h' e it ((i:Int)+1) x s.heap.objs.size)/\_/\s.heap.objs.size≠e/\s.heap.objs.size≠it:=⟨⟨_,ho0⟩,hs0,alO (ak0 hz),alO hilt⟩
  have kp:∀b o,b∉[e,it]->s.heap.get? b=some o->h'.get? b=some o:=λb o hb y=>hk0 b o (λe'=>hb (by simp[e'])) (λe'=>hb (by simp[e'])) y
  refine⟨_,rfl,?_⟩
  refine W.go es k pt i s.heap.objs.size {s with heap:=h',toks:=tk0+1} _ _ mid λh'' st'' K2=>?_
  obtain⟨x',ex,rx⟩:=wU r1 U1
  have lt:∀{c:Addr}{o:Obj},s.heap.get? c=some o->c≠s.heap.objs.size:=λq=>ak1 (ak0 q)
  have hT2:kh h'' s.heap.objs.size [.int i tk0,u0].toArray:=⟨_,K2 _ _ (W.apart _ _ _ mid) hT0,rfl,⟨_,rfl⟩,rfl⟩
  have I2:Inv X pins σ (upd H s.heap.objs.size (.tup [.int i,x'])) {s with heap:=h'',toks:=tk0+1}:=by
   refine I.HW (ch:=[e,it]) (us:=[.int i tk0,u0]) hf (λc o hcn e1=>K2 _ _ hcn (kp c o hcn e1)) hT (λb hb=>?_) (.cons ⟨tk0,rfl⟩ (.cons rx .nil)) (by show 2<=sizeLine;decide) hT2
   simp only[akY,ak9,or_false]at hb
   rcases hb with rfl|rfl
   ·obtain⟨⟨o2,e2⟩,_⟩:=st'';exact⟨_,e2⟩
   ·obtain⟨_,e2,_⟩:=st''
    obtain⟨o,e3,_⟩:=S.obj e2
    exact⟨o,e3⟩
  refine⟨.ref s.heap.objs.size,_,I2,rfl,⟨_,x',rfl,I.hok.fresh hT,rfl,λxs' w1=>?_⟩,⟨?_,st''.2.1⟩,λb hb=>?_⟩
  ·rw[S.inj hK I w1 q1];exact ex
  ·obtain⟨⟨o2,e2⟩,_⟩:=st''
   exact⟨o2,by simpa using e2⟩
  ·have hb':b≠s.heap.objs.size:=by
    simp only[akY,ak9,or_false]at hb
    rcases hb with rfl|rfl
    ·exact lt hz
    ·obtain⟨o,e3,_⟩:=S.obj h1;exact lt e3
   rw[bL hb'];exact(hf b hb).1
 done:=by
  intro X hP hw hK hc i pins s σ H E I hf st hg
  subst hP hw
  obtain⟨xs,q1,hend⟩:=hg
  obtain⟨⟨old,hz⟩,h1⟩:=st
  obtain⟨us,r1,p1,l1⟩:=S.get hK I q1
  have ne1:∀{b:Addr},b∈[e,it]->a≠b:=λhb=>S.ne hK I (hf _ hb) q1
  have W:=WalksT.enumerateD (A:=X.A) (S.lq X.A.in1 it a us.toArray (I.ok.hd hc) (ne1 (by simp))) e n1 (by simp only[akY,ak9,or_false,not_or];exact⟨n1,(ne1 (by simp)).symm⟩) (by simp)
  have ei:i=us.toArray.size:=by rw[ak8,<-r1.length];exact hend
  subst ei
  refine W.done s _ _ ⟨⟨old,hz⟩,h1,p1⟩ λh' tk kp=>⟨rfl,I.HX (ch:=[e,it]) hf kp⟩
 self:=λA i s Q E st h=>by
  obtain⟨⟨old,hz⟩,h1⟩:=st
  exact wpAny_pyIter_enum hz h
section
variable {X:Cx}{es':List Expr}{kt:Nat}{pt:Pos}
def Lm(Sq:Hp->Addr->List V->Prop) (ta:TA):TI:=λσ H R=>ta σ H λvs H1=>∃a b,vs=[.ref a,.ref b]/\(∃xs ys,Sq H1 a xs/\Sq H1 b ys)/\R (An Sq a b) H1
def adg(Sq:Hp->Addr->List V->Prop) (ta:TA):TI:=λσ H R=>ta σ H λvs H1=>∃a,vs=[.ref a]/\(∃xs,Sq H1 a xs)/\R (Hj Sq a) H1
theorem Au{pins:List (Addr×Obj)}{σ:St}{H:Hp}{s:Shared}{n:Nat}(I:Inv X pins σ H s) (hn:s.heap.objs.size=n):∀b∈[n+4,n+2,n+3,n,n+1],gi X pins H b:=λb hb=>by
 have:s.heap.objs.size<=b:=by
  simp only[akY,ak9,or_false]at hb
  rcases hb with rfl|rfl|rfl|rfl|rfl<;>rw[hn]
  ·exact amm _ _
  ·exact amm _ _
  ·exact amm _ _
  ·exact akV _
  ·exact amm _ _
 exact I.vI this (I.hok.fresh this)
theorem Wr{a b:Expr}{ta:TA}{p pos:Pos}(hg:Gl X "zip") (hm:X.mg "zip"=none) (ha:PA X [a,b] ta) (hs:starEach [a,b] X.env=[(false,eval a X.env),(false,eval b X.env)]:=by rfl) (hs2:starEach [b] X.env=[(false,eval b X.env)]:=by rfl) :
  PI X (.Tuple es' kt pt) (.Call (.Name "zip" p) [a,b] [] pos) (Lm (cI X.K) ta):=by
 intro pins s σ H R I h
 refine Call_ (kT I hg hm boot_zip (amu (bh (ha pos pins s σ H _ I h) λus s1 ⟨vs,H1,I1,r1,q1⟩=>?_) (by rw[hs,hs2]) (by rw[hs2];rfl)))
 obtain⟨a1,a2,e,⟨xs,ys,q1,q2⟩,q⟩:=q1
 subst e
 cases r1 with
 |cons r rr =>
  cases rr with
  |cons r' rr =>
   cases rr
   cases r
   cases r'
   obtain⟨us,ru,pu,lu⟩:=I1.tuple q1
   obtain⟨vs,rv,pv,lv⟩:=I1.tuple q2
   refine ahq pu pv λh' hz hTI hTO t1 t2 kp=>aof hz ?_
   generalize hn:s1.heap.objs.size=n at hz hTI hTO t1 t2
   have ne:∀{i j:Nat},i≠j->n+i≠n+j:=λh e=>h (anD e)
   have kN:∀{i:Nat},i≠0->n+i≠n:=λh e=>h (anD (e.trans (amN n).symm))
   refine⟨n+4,_,_,_,H1,rfl,I1.kept (t':=s1.toks) kp,HY Tq a1 a2 (n+4) (n+2) (n+3) n (n+1) (ne (by decide)) (ne (by decide)) (ne (by decide)) (kN (by decide)) (ne (by decide)) (kN (by decide)) (ne (by decide)) (kN (by decide)).symm (ne (by decide)) (kN (by decide)).symm,⟨hz,hTI,⟨_,_,hTO⟩,t1,t2⟩,Au I1 hn,q⟩
theorem Ws{a b:Expr}{ta:TA}{p pos:Pos}(hg:Gl X "zip") (hm:X.mg "zip"=none) (ha:PA X [a,b] ta) (hs:starEach [a,b] X.env=[(false,eval a X.env),(false,eval b X.env)]:=by rfl) (hs2:starEach [b] X.env=[(false,eval b X.env)]:=by rfl) :
  PI X (.Tuple es' kt pt) (.Call (.Name "zip" p) [a,b] [] pos) (Lm (bH X.K) ta):=by
 intro pins s σ H R I h
 refine Call_ (kT I hg hm boot_zip (amu (bh (ha pos pins s σ H _ I h) λus s1 ⟨vs,H1,I1,r1,q1⟩=>?_) (by rw[hs,hs2]) (by rw[hs2];rfl)))
 obtain⟨a1,a2,e,⟨xs,ys,q1,q2⟩,q⟩:=q1
 subst e
 cases r1 with
 |cons r rr =>
  cases rr with
  |cons r' rr =>
   cases rr
   cases r
   cases r'
   obtain⟨us,ru,pu,lu⟩:=I1.list q1
   obtain⟨vs,rv,pv,lv⟩:=I1.list q2
   refine call_zip_2 pu.isList pv.isList λh' hz hTI hTO t1 t2 _ kp=>aof hz ?_
   generalize hn:s1.heap.objs.size=n at hz hTI hTO t1 t2
   have ne:∀{i j:Nat},i≠j->n+i≠n+j:=λh e=>h (anD e)
   have kN:∀{i:Nat},i≠0->n+i≠n:=λh e=>h (anD (e.trans (amN n).symm))
   refine⟨n+4,_,_,_,H1,rfl,I1.kept (t':=s1.toks) kp,HY IV a1 a2 (n+4) (n+2) (n+3) n (n+1) (ne (by decide)) (ne (by decide)) (ne (by decide)) (kN (by decide)) (ne (by decide)) (kN (by decide)) (ne (by decide)) (kN (by decide)).symm (ne (by decide)) (kN (by decide)).symm,⟨hz,hTI,⟨_,_,hTO⟩,t1,t2⟩,Au I1 hn,q⟩
end
section
variable {X:Cx}
theorem Ib{A:Around}{bs:List Bool}{its:List Value}(r:Vals (bs.map V.bl) its):TruthOf X.prog X.w A (λi v=>its.toArray[i]? = some v) (λi=>bs.getD i false):=by
 intro i v s Q E hP hQ
 obtain⟨x,ex,rx⟩:=wU r hP
 rw[ale]at ex
 cases e:bs[i]? with
 |none=>rw[e]at ex;cases ex
 |some b =>
  rw[e]at ex
  cases ex
  cases rx
  refine amh ?_
  have:bs.getD i false=b:=by rw[alf,e];rfl
  have hQ:Q (bs.getD i false) s:=hQ
  rw[this]at hQ
  exact hQ
theorem range_all(bs:List Bool):((List.range bs.length).all λi=>bs.getD i false)=bs.all id:=by
 rw[amD,ak2,ak2]
 constructor
 ·intro h b hb
  obtain⟨i,hi,e⟩:=amn.mp hb
  have:=h i (akZ.mpr hi)
  rw[alf,ak3 hi]at this
  rw[<-e];exact this
 ·intro h i hi
  have hi:=akZ.mp hi
  rw[alf,ak3 hi]
  exact h _ (alq hi)
theorem range_any(bs:List Bool):((List.range bs.length).any λi=>bs.getD i false)=bs.any id:=by
 rw[amD,aog,aog]
 constructor
 ·rintro ⟨i,hi,h⟩
  have hi:=akZ.mp hi
  rw[alf,ak3 hi]at h
  exact⟨_,alq hi,h⟩
 ·rintro ⟨b,hb,h⟩
  obtain⟨i,hi,e⟩:=amn.mp hb
  refine⟨i,akZ.mpr hi,?_⟩
  rw[alf,ak3 hi,e];exact h
theorem Og{pins:List (Addr×Obj)}{σ:St}{H:Hp}{s:Shared}{h':Heap}{tk:Nat}{o:Obj}(I:Inv X pins σ H s) (kp:∀b q,b∉[s.heap.objs.size]->(s.heap.push o).get? b=some q->h'.get? b=some q):Inv X pins σ H {s with heap:=h',toks:=tk} :=
 I.kept λb q e=>kp b q (by simp only[akY,ak9,or_false];exact ak1 (ak0 e)) (akX _ e)
theorem ahA(hc:X.calm=true):dW X (.builtin "all") (λxs H Q=>∃(p:Addr) (bs:List Bool),xs=[.ref p]/\bH X.K H p (bs.map V.bl)/\Q (.bl (bs.all id)) H):=by
 intro pins s σ H xs us Q I r h
 obtain⟨p,bs,rfl,hp,q⟩:=h
 obtain⟨u,rfl,ru⟩:=alK r
 cases ru
 obtain⟨its,rv,pl,hz⟩:=I.list hp
 have hL:=pl.isList
 have DX:p≠s.heap.objs.size:=by obtain⟨o,e,_⟩:=hL;exact ak1 (ak0 e)
 refine call_all_walk (am3 hL ⟨s.heap.objs.size,_,_,its.toArray.size,_,_,λi=>bs.getD i false,rfl,anE (A:=X.A.in1) (I.ok.hd hc) s.heap.objs.size p DX its.toArray,⟨⟨_,alb _ rfl,rfl,rfl⟩,hL.push _⟩,Ib rv,λh' tk kp=>?_⟩)
 have hl:=rv.length
 rw[ak4]at hl
 have I1:Inv X pins σ H {s with heap:=h',toks:=tk}:=Og I kp
 refine⟨.bl (bs.all id),H,I1,?_,q⟩
 show Value.bool _=Value.bool _
 rw[ak8,<-hl,range_all]
theorem ahz(hc:X.calm=true):dW X (.builtin "any") (λxs H Q=>∃(p:Addr) (bs:List Bool),xs=[.ref p]/\bH X.K H p (bs.map V.bl)/\Q (.bl (bs.any id)) H):=by
 intro pins s σ H xs us Q I r h
 obtain⟨p,bs,rfl,hp,q⟩:=h
 obtain⟨u,rfl,ru⟩:=alK r
 cases ru
 obtain⟨its,rv,pl,hz⟩:=I.list hp
 have hL:=pl.isList
 have DX:p≠s.heap.objs.size:=by obtain⟨o,e,_⟩:=hL;exact ak1 (ak0 e)
 refine call_any_walk (am3 hL ⟨s.heap.objs.size,_,_,its.toArray.size,_,_,λi=>bs.getD i false,rfl,anE (A:=X.A.in1) (I.ok.hd hc) s.heap.objs.size p DX its.toArray,⟨⟨_,alb _ rfl,rfl,rfl⟩,hL.push _⟩,Ib rv,λh' tk kp=>?_⟩)
 have hl:=rv.length
 rw[ak4]at hl
 have I1:Inv X pins σ H {s with heap:=h',toks:=tk}:=Og I kp
 refine⟨.bl (bs.any id),H,I1,?_,q⟩
 show Value.bool _=Value.bool _
 rw[ak8,<-hl,range_any]
def tyName(H:Hp):V->String->Prop
 |.aO,n=>n="NoneType"
 |.bl _,n=>n="bool"
 |.int _,n=>n="int"
 |.str _,n=>n="str"
 |.ref a,n=>(n="list"/\((∃xs,H a=some (.lst xs))\/∃o xs,H a=some (.cH o (.lst xs))))\/(n="tuple"/\∃xs,H a=some (.tup xs))\/(n="dict"/\((∃k,H a=some (.dK k))\/∃k,H a=some (.dT k)))
 |_,_=>False
theorem QG{K:PySem.W.Frag}{H:Hp}{x:V}{n:String}(h:tyName H x n):iJ K H x (.type n):=by
 cases x with
 |aO=>cases(show n="NoneType" from h);exact .aO
 |bl b=>cases(show n="bool" from h);exact .bl b
 |int b=>cases(show n="int" from h);exact .int b
 |str b=>cases(show n="str" from h);exact .str b
 |ref a =>
  rcases h with⟨rfl,⟨xs,e⟩|⟨o,xs,e⟩⟩|⟨rfl,xs,e⟩|⟨rfl,⟨k,e⟩|⟨k,e⟩⟩
  ·exact .lst e
  ·exact .cH e
  ·exact .tup e
  ·exact .dK e
  ·exact .dT e
 |_=>exact False.elim h
def um(n T:String):Bool:=n==T||(n=="bool"&&T=="int")
def abR(n T:String):Option Bool:=if(Value.type n==Value.type T)=true then some true else if PySem.W.kitMeta T=true then(fastBuiltinMro n).map (·.contains (Value.type T))else none
theorem K3{K:PySem.W.Frag}{n T:String}(hn:n∈["NoneType","bool","int","str","list","tuple","dict"]) (hT:T∈["bool","int","str","list","tuple","dict"]):PySem.W.kitOne K (.type n) (.type T)=some (um n T):=by
 show abR n T=some (um n T)
 simp only[akY,ak9,or_false]at hn hT
 rcases hn with rfl|rfl|rfl|rfl|rfl|rfl|rfl<;>rcases hT with rfl|rfl|rfl|rfl|rfl|rfl<;>decide +kernel
theorem QH{H:Hp}{x:V}{n:String}(h:tyName H x n):n∈["NoneType","bool","int","str","list","tuple","dict"]:=by
 cases x with
 |aO=>cases(show n="NoneType" from h);simp
 |bl b=>cases(show n="bool" from h);simp
 |int b=>cases(show n="int" from h);simp
 |str b=>cases(show n="str" from h);simp
 |ref a=>rcases h with⟨rfl,_⟩|⟨rfl,_⟩|⟨rfl,_⟩<;>simp
 |_=>exact False.elim h
theorem ahx:dW X (.builtin "isinstance") (λxs H Q=>∃x n T,xs=[x,.ty T]/\tyName H x n/\T∈["bool","int","str","list","tuple","dict"]/\Q (.bl (um n T)) H):=by
 intro pins s σ H xs us Q I r h
 obtain⟨x,n,T,rfl,hx,hT,q⟩:=h
 obtain⟨u,v,rfl,ru,rv⟩:=Vals.two r
 cases(show v=Value.type T from rv)
 exact acV I ru (QG hx) (K3 (QH hx) hT) λtk=>⟨.bl _,H,I.tok tk,rfl,q⟩
end
def ae2(ea C:Addr):Heap->Prop:=λh=>∃o,h.get? ea=some o/\o.cls=.ref C
def afb(a:Addr):Heap->Prop:=PySem.W.KitAt a "dict"
structure Def (K:PySem.W.Frag) (mg:Str->Option Value) (x:Str) (st:Stmt) (ps:List Str) (f:Addr) (fd:FuncData):Prop where
 fn:mJ K x x st f fd
 at':mg x=some (.ref f)
 bd:Binds K fd ps []
section
variable {X:Cx}
theorem WU{x:Str}{st:Stmt}{ps:List Str}{f:Addr}{fd:FuncData}{k:Nat}{sp:Sp}{e:Expr}{es:List Expr}{t:TA}{p pos:Pos}(D:Def X.K X.mg x st ps f fd) (G:bI X.prog X.w X.K X.mg X.base bB k f fd ps sp) (hr:cR k X.A) (ha:PA X (e::es) t) (hg:Gl X x:=by rfl)
  (hdb:(x==("__debug__":Str))=false:=by decide) (he:starEach (e::es) X.env=(false,eval e X.env)::starEach es X.env:=by rfl) (hpl:(backTo pos (starEach es X.env)).any (·.1)=false:=by rfl) :
  PE X (.Call (.Name x p) (e::es) [] pos) (Ir sp [] E0 t):=WZ G hr hg D.at' D.fn.kp D.bd .nil Xm ha hdb he hpl
theorem WG{x:Str}{n:String}{pos:Pos}(hg:Gl X x) (hm:X.mg x=none) (hv:bootBuiltins x=some (.type n)) (hn:x≠"__name__":=by decide) (hd:(x==("__debug__":Str))=false:=by decide):PE X (.Name x pos) (tC (.ty n)):=W0 hg hm hv rfl hn hd
end
def isStar:Expr->Bool
 |.Starred _ _=>true
 |_=>false
theorem cJ{a:Expr}{es:List Expr}{env:Env}(h:isStar a=false):starEach (a::es) env=(false,eval a env)::starEach es env:=by
 cases a<;>first|(cases h;done)|(simp only[starEach];done)
def noStar(es:List Expr):Bool:=es.all λa=>!isStar a
theorem fE{es:List Expr}{env:Env}{pos:Pos}(h:noStar es=true):(backTo pos (starEach es env)).any (·.1)=false:=by
 induction es with
 |nil=>simp only[starEach];rfl
 |cons a es ih =>
  have h:(!isStar a&&noStar es)=true:=h
  rw[ald]at h
  rw[cJ (by simpa using h.1)]
  have:=ih h.2
  simpa[backTo]using this
theorem qv{a:Expr}{env:Env}(h:isStar a=false):starEach [a] env=[(false,eval a env)]:=by
 rw[cJ h];simp only[starEach]
theorem IG{a b:Expr}{env:Env}(h:isStar a=false) (g:isStar b=false):starEach [a,b] env=[(false,eval a env),(false,eval b env)]:=by
 rw[cJ h,qv g]
theorem A0{a:Expr}{env:Env}{pos:Pos}(h:isStar a=false):((backTo pos (starEach [a] env)).all (λx=>!x.1)&&(backToKw pos (keywordEach [] env)).all (λx=>x.1.isSome)
   && decide ([a].length+([]:List Keyword).length+(if([]:List Keyword).isEmpty then 0 else 1)<30))=true:=by
 rw[qv h];simp[backTo,backToKw,keywordEach]
inductive D where
 |aO|bl (b:Bool)|int (i:Int)|str (x:Str)|ty (n:String)|tup (l:List D)|lst (l:List D)|ref (k:Nat)|cF (l:List Int)|fn (x:Str) (n:Nat)|exc (x:Str)|gZ|dct (ks:List (Int×Int))|lam (k:Nat) (e:Expr) (ns:List Str) (l:List D)
inductive Cell where
 |lst (l:List D)
mutual
def noRef:D->Bool
 |.tup l=>bE l
 |.lst l=>bE l
 |.ref _=>false
 |.aO=>true
 |.bl _=>true
 |.int _=>true
 |.str _=>true
 |.ty _=>true
 |.cF _=>true
 |.fn _ _=>true
 |.exc _=>true
 |.gZ=>true
 |.dct _=>true
 |.lam _ _ _ _=>false
def bE:List D->Bool
 |[]=>true
 |d::l=>noRef d&&bE l
end
mutual
def fy:D->Bool
 |.tup l=>eS l
 |.lst l=>eS l
 |.lam _ _ _ _=>false
 |.ref _=>true
 |.aO=>true
 |.bl _=>true
 |.int _=>true
 |.str _=>true
 |.ty _=>true
 |.cF _=>true
 |.fn _ _=>true
 |.exc _=>true
 |.gZ=>true
 |.dct _=>true
def eS:List D->Bool
 |[]=>true
 |d::l=>fy d&&eS l
end
mutual
theorem Kl:∀d:D,noRef d=true->fy d=true
 |.tup l,h=>by unfold noRef at h;unfold fy;exact yf l h
 |.lst l,h=>by unfold noRef at h;unfold fy;exact yf l h
 |.lam _ _ _ _,h=>by unfold noRef at h;cases h
 |.ref _,h=>by unfold noRef at h;cases h
 |.aO,_=>by unfold fy;rfl
 |.bl _,_=>by unfold fy;rfl
 |.int _,_=>by unfold fy;rfl
 |.str _,_=>by unfold fy;rfl
 |.ty _,_=>by unfold fy;rfl
 |.cF _,_=>by unfold fy;rfl
 |.fn _ _,_=>by unfold fy;rfl
 |.exc _,_=>by unfold fy;rfl
 |.gZ,_=>by unfold fy;rfl
 |.dct _,_=>by unfold fy;rfl
theorem yf:∀l:List D,bE l=true->eS l=true
 |[],_=>by unfold eS;rfl
 |d::l,h=>by
  unfold bE at h
  rw[ald]at h
  unfold eS
  rw[Kl d h.1,yf l h.2]
  rfl
end
theorem uN:∀{l m:List D},bE (l++m)=(bE l&&bE m)
 |[],m=>by simp[bE]
 |d::l,m=>by simp[bE,uN (l:=l),Bool.and_assoc]
theorem Kg:∀{l:List D}{i:Nat}{d:D},bE l=true->noRef d=true->bE (l.set i d)=true
 |[],i,d,h,g=>h
 |b::l,0,d,h,g=>by simp_all[bE]
 |b::l,i+1,d,h,g=>by
  simp only[bE,ald]at h
  simp only[amc,bE,ald]
  exact⟨h.1,Kg h.2 g⟩
theorem gV:∀{l:List D},bE l=true↔∀d∈l,noRef d=true
 |[]=>by simp[bE]
 |d::l=>by simp[bE,gV (l:=l)]
theorem ye{l:List Int}:bE (l.map D.int)=true:=gV.mpr λd h=>by
 obtain⟨i,_,rfl⟩:=akW.mp h
 rfl
inductive R (α:Type) where
 |ok (a:α) (c:List Cell)
 |bad
def R.bind{α β:Type}(r:R α) (f:α->List Cell->R β):R β:=match r with
 |.ok a c=>f a c
 |.bad=>.bad
@[simp] theorem R.aA{α β:Type}{a:α}{c:List Cell}{f:α->List Cell->R β}:(R.ok a c).bind f=f a c:=rfl
@[simp] theorem R.akP{α β:Type}{f:α->List Cell->R β}:(R.bad:R α).bind f=.bad:=rfl
def pD:List Str:=["greatest_among","web_of","other_web","turned_at","pairs_web","field_web","net_web"]
def yw(x:Str):Str:=x++".<locals>."++"<lambda>"
def pO(c:Addr) (q:Str):Heap->Prop:=λh=>h.CodeRec (.ref c) q
def pC(a:Addr) (o:Obj):Heap->Prop:=λh=>h.get? a=some o
def wA(e:Expr) (o:Obj) (q:Str) (c:Addr) (cl:List (Str×Addr)):Prop:=match e with
 |.Lambda params body scope _=>∃pm ctv,o=PySem.W.kla_obj "<lambda>" q params body scope cl pm c ctv
 |_=>False
def vj:HO->Bool
 |.cE _=>true
 |_=>false
def ic(H:Hp) (cl:List (Str×Addr)):List Str->List V->Prop
 |[],xs=>xs=[]
 |x::ns,xs=>∃v r c oc u,xs=v::r/\cl.lookup x=some c/\H c=some (.cH oc (.own 0))/\oc.data=.cell (some u)/\RelV v u/\ic H cl ns r
def wG(cl:List (Str×Addr)) (ns:List Str):Prop:=(∀x y c,cl.lookup x=some c->cl.lookup y=some c->x=y)/\∀x c,cl.lookup x=some c->x∈ns
def TabAt(H:Hp) (P:Addr) (q:Str):Prop:=∃ps,H P=some (.cE ps)/\TriplesOk ps.toList/\∀pos cv,codeAmong pos ps.toList=some cv->∃c,cv=.ref c/\H c=some (.ext (pO c q))
def qh(K:PySem.W.Frag) (H:Hp):Prop:=∀x∈pD,∀c P,PySem.W.tabIn K x=some (c,P)->TabAt H P (yw x)
theorem ic.mono{H H':Hp}{cl:List (Str×Addr)}:∀{ns:List Str}{xs:List V},(∀c o,H c=some (.cH o (.own 0))->H' c=some (.cH o (.own 0)))->ic H cl ns xs->ic H' cl ns xs
 |[],_,_,h=>h
 |x::ns,xs,k,h=>by
  obtain⟨v,r,c,oc,u,e,h0,h1,h2,h3,h4⟩:=h
  exact⟨v,r,c,oc,u,e,h0,k _ _ h1,h2,h3,ic.mono k h4⟩
theorem ic.get{H:Hp}{cl:List (Str×Addr)}:∀{ns:List Str}{xs:List V}{i:Nat}{x:Str},ic H cl ns xs->ns[i]? = some x->∃v c oc u,xs[i]? = some v/\cl.lookup x=some c/\H c=some (.cH oc (.own 0))/\oc.data=.cell (some u)/\RelV v u
 |[],_,_,_,_,e=>by cases e
 |_::ns,xs,0,_,h,e=>by
  obtain⟨v,r,c,oc,u,rfl,h0,h1,h2,h3,h4⟩:=h
  cases e
  exact⟨v,c,oc,u,rfl,h0,h1,h2,h3⟩
 |_::ns,xs,i+1,x,h,e=>by
  obtain⟨v,r,c,oc,u,rfl,h0,h1,h2,h3,h4⟩:=h
  exact ic.get (i:=i) h4 e
theorem ic.length{H:Hp}{cl:List (Str×Addr)}:∀{ns:List Str}{xs:List V},ic H cl ns xs->xs.length=ns.length
 |[],xs,h=>by cases(show xs=[]from h);rfl
 |_::ns,xs,h=>by
  obtain⟨v,r,c,oc,u,rfl,h0,h1,h2,h3,h4⟩:=h
  simp[ic.length h4]
theorem TabAt.mono{H H':Hp}{P:Addr}{q:Str}(h:TabAt H P q) (k1:∀ps,H P=some (.cE ps)->H' P=some (.cE ps)) (k2:∀c φ,H c=some (.ext φ)->H' c=some (.ext φ)):TabAt H' P q:=by
 obtain⟨ps,h1,h2,h3⟩:=h
 exact⟨ps,k1 ps h1,h2,λpos cv e=>let⟨c,e1,e2⟩:=h3 pos cv e;⟨c,e1,k2 _ _ e2⟩⟩
theorem qh.mono{K:PySem.W.Frag}{H H':Hp}(h:qh K H) (k1:∀P ps,H P=some (.cE ps)->H' P=some (.cE ps)) (k2:∀c φ,H c=some (.ext φ)->H' c=some (.ext φ)):qh K H':=λx hx c P e=>(h x hx c P e).mono (k1 P) k2
def wm(K:PySem.W.Frag) (ρ:List Addr) (H:Hp) (a:Addr) (xs:List V):Prop:=(Rd H a (.lst xs)/\a∉ρ)\/bH K (λ_=>none) a xs
mutual
def Rel(K:PySem.W.Frag) (ρ:List Addr) (H:Hp):D->V->Prop
 |.aO,v=>v=.aO
 |.bl b,v=>v=.bl b
 |.int i,v=>v=.int i
 |.str x,v=>v=.str x
 |.ty n,v=>v=.ty n
 |.tup l,v=>∃a xs,v=.ref a/\H a=some (.tup xs)/\aJ K ρ H l xs
 |.lst l,v=>∃a xs,v=.ref a/\(H a=some (.lst xs)/\a∉ρ)/\aJ K ρ H l xs
 |.ref k,v=>∃a,v=.ref a/\ρ[k]? = some a
 |.cF l,v=>∃a,v=.ref a/\wm K ρ H a (l.map V.int)
 |.fn x n,v=>∃a,v=.ref a/\PySem.W.nsIn K mainGlobals x=some (some (.ref a))
 |.gZ,v=>∃a,v=.ref a/\H a=some (.ext (afb a))
 |.dct ks,v=>∃a kvs,v=.ref a/\H a=some (.dT kvs)/\∀p:Int×Int,((kvs.any λkv=>decide (kv.1=[Sum.inl p.1,Sum.inl p.2]))=decide (p∈ks))
 |.exc x,v=>∃a C,v=.ref a/\PySem.W.nsIn K mainGlobals x=some (some (.ref C))/\H a=some (.ext (ae2 a C))
 |.lam _ e ns l,v=>∃a o q c cl xs,v=.ref a/\H a=some (.ext (pC a o))/\wA e o q c cl/\H c=some (.ext (pO c q))/\wG cl ns/\ic H cl ns xs/\aJ K ρ H l xs
def aJ(K:PySem.W.Frag) (ρ:List Addr) (H:Hp):List D->List V->Prop
 |[],xs=>xs=[]
 |d::l,xs=>∃x r,xs=x::r/\Rel K ρ H d x/\aJ K ρ H l r
end
theorem wm.sql{K:PySem.W.Frag}{ρ:List Addr}{H:Hp}{a:Addr}{xs:List V}(h:wm K ρ H a xs):bH K H a xs:=by
 rcases h with⟨h,_⟩|(h|h)
 ·exact .inl h
 ·rcases h with h|⟨o,h⟩<;>cases h
 ·exact .inr h
def aja(K:PySem.W.Frag) (ρ:List Addr) (H:Hp) (a:Addr):Cell->Prop
 |.lst l=>bE l=true/\∃xs,H a=some (.lst xs)/\aJ K ρ H l xs
structure Wd (K:PySem.W.Frag) (ρ:List Addr) (H:Hp) (c:List Cell):Prop where
 nd:ρ.Nodup
 len:ρ.length=c.length
 fM:∀(k:Nat) (a:Addr) (cl:Cell),ρ[k]? = some a->c[k]? = some cl->aja K ρ H a cl
 tab:qh K H
structure Ext (ρ:List Addr) (H:Hp) (ρ':List Addr) (H':Hp):Prop where
 pre:∀(k:Nat) (a:Addr),ρ[k]? = some a->ρ'[k]? = some a
 keep:∀a o,H a=some o->a∉ρ->vj o=false->H' a=some o/\a∉ρ'
theorem Ext.refl{ρ:List Addr}{H:Hp}:Ext ρ H ρ H:=⟨λ_ _ h=>h,λ_ _ h n _=>⟨h,n⟩⟩
theorem Ext.trans{ρ aK cX:List Addr}{H H1 H2:Hp}(x:Ext ρ H aK H1) (y:Ext aK H1 cX H2):Ext ρ H cX H2 :=
 ⟨λk a h=>y.pre k a (x.pre k a h),λa o h n t=>let⟨h1,n1⟩:=x.keep a o h n t;y.keep a o h1 n1 t⟩
section
variable {K:PySem.W.Frag}{ρ ρ':List Addr}{H H':Hp}{c c':List Cell}
theorem Wd.at'(W:Wd K ρ H c) {a:Addr}(h:a∈ρ):∃xs,H a=some (.lst xs):=by
 obtain⟨k,hk,e⟩:=amn.mp h
 have hc:k<c.length:=by rw[<-W.len];exact hk
 have q:=W.fM k a c[k] (by rw[ak3 hk,e]) (ak3 hc)
 cases hcl:c[k]with
 |lst l=>rw[hcl]at q;obtain⟨_,xs,h,_⟩:=q;exact⟨xs,h⟩
theorem Wd.noT(W:Wd K ρ H c) {a:Addr}{xs:List V}(h:H a=some (.tup xs)):a∉ρ:=λm=>by
 obtain⟨ys,e⟩:=W.at' m
 rw[e]at h;cases h
theorem Wd.nil(W:Wd K ρ H c) {a:Addr}(h:H a=none):a∉ρ:=λm=>by
 obtain⟨ys,e⟩:=W.at' m
 rw[e]at h;cases h
theorem wV(W:Wd K ρ H c) (x:Ext ρ H ρ' H') {a:Addr}{xs:List V}(h:H a=some (.tup xs)):H' a=some (.tup xs):=(x.keep a _ h (W.noT h) rfl).1
theorem B8(x:Ext ρ H ρ' H') {a:Addr}{xs:List V}(h:H a=some (.lst xs)/\a∉ρ):H' a=some (.lst xs)/\a∉ρ':=x.keep a _ h.1 h.2 rfl
theorem IJ(x:Ext ρ H ρ' H') {a:Addr}{xs:List V}(h:wm K ρ H a xs):wm K ρ' H' a xs:=by
 rcases h with⟨h,n⟩|h
 ·rcases h with h|⟨o,h⟩
  ·exact .inl ⟨.inl (x.keep a _ h n rfl).1,(x.keep a _ h n rfl).2⟩
  ·exact .inl ⟨.inr ⟨o,(x.keep a _ h n rfl).1⟩,(x.keep a _ h n rfl).2⟩
 ·exact .inr h
mutual
theorem Rel.mono(W:Wd K ρ H c) (x:Ext ρ H ρ' H'):∀(d:D) (v:V),Rel K ρ H d v->Rel K ρ' H' d v
 |.aO,v,h=>h
 |.bl b,v,h=>h
 |.int i,v,h=>h
 |.str y,v,h=>h
 |.ty n,v,h=>h
 |.tup l,v,h=>by
  obtain⟨a,xs,e,s,r⟩:=h
  exact⟨a,xs,e,wV W x s,aJ.mono W x l xs r⟩
 |.lst l,v,h=>by
  obtain⟨a,xs,e,s,r⟩:=h
  exact⟨a,xs,e,B8 x s,aJ.mono W x l xs r⟩
 |.ref k,v,h=>by
  obtain⟨a,e,s⟩:=h
  exact⟨a,e,x.pre k a s⟩
 |.cF l,v,h=>by
  obtain⟨a,e,s⟩:=h
  exact⟨a,e,IJ x s⟩
 |.fn a n,v,h=>h
 |.gZ,v,h=>by
  obtain⟨a,e,q⟩:=h
  exact⟨a,e,(x.keep a _ q (λm=>by obtain⟨ys,z⟩:=W.at' m;rw[z]at q;cases q) rfl).1⟩
 |.dct ks,v,h=>by
  obtain⟨a,kvs,e,q,z⟩:=h
  exact⟨a,kvs,e,(x.keep a _ q (λm=>by obtain⟨ys,z⟩:=W.at' m;rw[z]at q;cases q) rfl).1,z⟩
 |.exc y,v,h=>by
  obtain⟨a,C,e,n,q⟩:=h
  exact⟨a,C,e,n,(x.keep a _ q (λm=>by obtain⟨ys,z⟩:=W.at' m;rw[z]at q;cases q) rfl).1⟩
 |.lam _ y ns l,v,h=>by
  obtain⟨a,o,q,c,cl,xs,e,h1,h2,h3,h4,h5,h6⟩:=h
  have nr:∀(b:Addr) (u:HO),H b=some u->(∀ys,u≠.lst ys)->b∉ρ:=λb u q n m=>by obtain⟨ys,z⟩:=W.at' m;rw[z]at q;exact n ys (alh q).symm
  exact⟨a,o,q,c,cl,xs,e,(x.keep a _ h1 (nr a _ h1 λ_ z=>nomatch z) rfl).1,h2,(x.keep c _ h3 (nr c _ h3 λ_ z=>nomatch z) rfl).1,h4,h5.mono (λb o z=>(x.keep b _ z (nr b _ z λ_ z=>nomatch z) rfl).1),aJ.mono W x l xs h6⟩
theorem aJ.mono(W:Wd K ρ H c) (x:Ext ρ H ρ' H'):∀(l:List D) (xs:List V),aJ K ρ H l xs->aJ K ρ' H' l xs
 |[],xs,h=>h
 |d::l,xs,h=>by
  obtain⟨y,r,e,h1,h2⟩:=h
  exact⟨y,r,e,Rel.mono W x d y h1,aJ.mono W x l r h2⟩
end
theorem aJ.length:∀{l:List D}{xs:List V},aJ K ρ H l xs->xs.length=l.length
 |[],xs,h=>by cases(show xs=[]from h);rfl
 |d::l,xs,h=>by
  obtain⟨y,r,rfl,h1,h2⟩:=h
  simp only[alc,aJ.length h2]
theorem aJ.get:∀{l:List D}{xs:List V}{i:Nat}{d:D},aJ K ρ H l xs->l[i]? = some d->∃x,xs[i]? = some x/\Rel K ρ H d x
 |[],_,_,_,_,e=>by cases e
 |_::l,_,0,_,h,e=>by
  obtain⟨y,r,rfl,h1,h2⟩:=h
  cases e
  exact⟨y,rfl,h1⟩
 |_::l,_,i+1,_,h,e=>by
  obtain⟨y,r,rfl,h1,h2⟩:=h
  exact aJ.get (i:=i) h2 e
theorem aJ.append:∀{l m:List D}{xs ys:List V},aJ K ρ H l xs->aJ K ρ H m ys->aJ K ρ H (l++m) (xs++ys)
 |[],m,xs,ys,h,g=>by cases(show xs=[]from h);exact g
 |d::l,m,xs,ys,h,g=>by
  obtain⟨y,r,rfl,h1,h2⟩:=h
  exact⟨y,r++ys,rfl,h1,aJ.append h2 g⟩
theorem aJ.set:∀{l:List D}{xs:List V}{d:D}{x:V}(i:Nat),aJ K ρ H l xs->Rel K ρ H d x->aJ K ρ H (l.set i d) (xs.set i x)
 |[],xs,d,x,i,h,g=>by cases(show xs=[]from h);exact rfl
 |b::l,xs,d,x,0,h,g=>by
  obtain⟨y,r,rfl,h1,h2⟩:=h
  exact⟨x,r,rfl,g,h2⟩
 |b::l,xs,d,x,i+1,h,g=>by
  obtain⟨y,r,rfl,h1,h2⟩:=h
  exact⟨y,r.set i x,rfl,h1,aJ.set i h2 g⟩
theorem aJ.take:∀{l:List D}{xs:List V}(n:Nat),aJ K ρ H l xs->aJ K ρ H (l.take n) (xs.take n)
 |l,xs,0,h=>by simp only[anF];exact rfl
 |[],xs,n+1,h=>by cases(show xs=[]from h);exact rfl
 |d::l,xs,n+1,h=>by
  obtain⟨y,r,rfl,h1,h2⟩:=h
  exact⟨y,r.take n,rfl,h1,aJ.take n h2⟩
theorem aJ.drop:∀{l:List D}{xs:List V}(n:Nat),aJ K ρ H l xs->aJ K ρ H (l.drop n) (xs.drop n)
 |l,xs,0,h=>h
 |[],xs,n+1,h=>by cases(show xs=[]from h);exact rfl
 |d::l,xs,n+1,h=>by
  obtain⟨y,r,rfl,h1,h2⟩:=h
  exact aJ.drop n h2
theorem aJ.ints{l:List Int}:aJ K ρ H (l.map D.int) (l.map V.int):=by
 induction l with
 |nil=>exact rfl
 |cons a l ih=>exact⟨_,_,rfl,rfl,ih⟩
theorem aJ.Lh:∀{l:List Int}{xs:List V},aJ K ρ H (l.map D.int) xs->xs=l.map V.int
 |[],xs,h=>h
 |a::l,xs,h=>by
  obtain⟨y,r,rfl,h1,h2⟩:=h
  cases(show y=V.int a from h1)
  rw[aJ.Lh h2];rfl
theorem aJ.GQ:∀{l:List Bool}{xs:List V},aJ K ρ H (l.map D.bl) xs->xs=l.map V.bl
 |[],xs,h=>h
 |a::l,xs,h=>by
  obtain⟨y,r,rfl,h1,h2⟩:=h
  cases(show y=V.bl a from h1)
  rw[aJ.GQ h2];rfl
theorem Ext.fresh{p:Addr}{o:HO}(W:Wd K ρ H c) (h:H p=none):Ext ρ H ρ (upd H p o) :=
 ⟨λ_ _ e=>e,λa u e n _=>⟨by rw[bL (c9 e h)];exact e,n⟩⟩
theorem Wd.fresh{p:Addr}{o:HO}(W:Wd K ρ H c) (h:H p=none):Wd K ρ (upd H p o) c :=
 ⟨W.nd,W.len,λk a cl e1 e2=>by
  have q:=W.fM k a cl e1 e2
  cases cl with
  |lst l =>
   obtain⟨nr,xs,e,r⟩:=q
   exact⟨nr,xs,by rw[bL (c9 e h)];exact e,aJ.mono W (Ext.fresh W h) l xs r⟩,
  W.tab.mono (λP ps e=>by rw[bL (c9 e h)];exact e) (λb φ e=>by rw[bL (c9 e h)];exact e)⟩
theorem Ext.cell{p:Addr}{o:HO}(W:Wd K ρ H c) (h:H p=none):Ext ρ H (ρ++[p]) (upd H p o) :=
 ⟨λk a e=>by rw[alA (ala.mp e).1];exact e,λa u e n _=>⟨by rw[bL (c9 e h)];exact e,by
  rw[alz]
  rintro (z|z)
  ·exact n z
  ·exact c9 e h (by simpa using z)⟩⟩
theorem Wd.cell{p:Addr}{l:List D}{xs:List V}(W:Wd K ρ H c) (h:H p=none) (nr:bE l=true) (r:aJ K ρ H l xs):Wd K (ρ++[p]) (upd H p (.lst xs)) (c++[.lst l]):=by
 have X:=Ext.cell (o:=.lst xs) W h
 refine⟨?_,by simp[W.len],λk a cl e1 e2=>?_,W.tab.mono (λP ps e=>by rw[bL (c9 e h)];exact e) (λb φ e=>by rw[bL (c9 e h)];exact e)⟩
 ·rw[amO]
  refine⟨W.nd,by simp,?_⟩
  intro a ha b hb
  rw[alP]at hb
  subst hb
  exact λz=>W.nil h (z▸ha)
 ·by_cases hk:k<c.length
  ·rw[alA hk]at e2
   rw[alA (by rw[W.len];exact hk)]at e1
   have q:=W.fM k a cl e1 e2
   cases cl with
   |lst l' =>
    obtain⟨rY,ys,e,r'⟩:=q
    exact⟨rY,ys,by rw[bL (c9 e h)];exact e,aJ.mono W X l' ys r'⟩
  ·have hk':k=c.length:=by
    have:=(ala.mp e2).1
    simp at this
    omega
   subst hk'
   rw[alL (akV _),amo]at e2
   rw[alL (by rw[W.len];exact akV _),W.len,amo]at e1
   cases e1;cases e2
   exact⟨nr,xs,fD,aJ.mono W X l xs r⟩
theorem Ext.write{k:Nat}{p:Addr}{o:HO}(h:ρ[k]? = some p):Ext ρ H ρ (upd H p o) :=
 ⟨λ_ _ e=>e,λa u e n _=>⟨by rw[bL (λz=>n (by rw[z];exact alo h))];exact e,n⟩⟩
theorem Wd.write{k:Nat}{p:Addr}{l:List D}{xs:List V}(W:Wd K ρ H c) (h:ρ[k]? = some p) (nr:bE l=true) (r:aJ K ρ H l xs):Wd K ρ (upd H p (.lst xs)) (c.set k (.lst l)):=by
 have X:=Ext.write (H:=H) (o:=.lst xs) h
 obtain⟨ys,hy⟩:=W.at' (alo h)
 refine⟨W.nd,by simp[W.len],λj a cl e1 e2=>?_,W.tab.mono (λP ps e=>by rw[bL (Kp e hy λz=>nomatch z)];exact e) (λb φ e=>by rw[bL (Kp e hy λz=>nomatch z)];exact e)⟩
 by_cases hj:j=k
 ·subst hj
  rw[h]at e1;cases e1
  have hl:j<c.length:=by rw[<-W.len];exact(ala.mp h).1
  rw[alT hl]at e2
  cases e2
  exact⟨nr,xs,fD,aJ.mono W X l xs r⟩
 ·rw[alG (alF hj)]at e2
  have q:=W.fM j a cl e1 e2
  have hap:a≠p:=by
   intro e
   subst e
   have h1:=(ala.mp h)
   have h2:=(ala.mp e1)
   exact hj ((ano W.nd (h₀:=h2.1) (h₁:=h1.1)).mp (h2.2.trans h1.2.symm))
  cases cl with
  |lst l' =>
   obtain⟨rY,ys,e,r'⟩:=q
   exact⟨rY,ys,by rw[bL hap];exact e,aJ.mono W X l' ys r'⟩
mutual
theorem Rel.low(h:∀a,a∈ρ'->a∈ρ):∀(d:D) (v:V),noRef d=true->Rel K ρ H d v->Rel K ρ' H d v
 |.aO,v,_,r=>r
 |.bl b,v,_,r=>r
 |.int i,v,_,r=>r
 |.str y,v,_,r=>r
 |.ty n,v,_,r=>r
 |.tup l,v,n,r=>by
  obtain⟨a,xs,e,s,r⟩:=r
  exact⟨a,xs,e,s,aJ.low h l xs n r⟩
 |.lst l,v,n,r=>by
  obtain⟨a,xs,e,s,r⟩:=r
  exact⟨a,xs,e,⟨s.1,λq=>s.2 (h a q)⟩,aJ.low h l xs n r⟩
 |.ref k,v,n,r=>by cases n
 |.cF l,v,n,r=>by
  obtain⟨a,e,s⟩:=r
  refine⟨a,e,?_⟩
  rcases s with⟨s,z⟩|s
  ·exact .inl ⟨s,λq=>z (h a q)⟩
  ·exact .inr s
 |.fn a m,v,n,r=>r
 |.exc y,v,n,r=>r
 |.gZ,v,n,r=>r
 |.dct _,v,n,r=>r
 |.lam _ _ _ _,v,n,r=>by cases n
theorem aJ.low(h:∀a,a∈ρ'->a∈ρ):∀(l:List D) (xs:List V),bE l=true->aJ K ρ H l xs->aJ K ρ' H l xs
 |[],xs,_,r=>r
 |d::l,xs,n,r=>by
  obtain⟨y,ys,e,h1,h2⟩:=r
  have n:(noRef d&&bE l)=true:=n
  rw[ald]at n
  exact⟨y,ys,e,Rel.low h d y n.1 h1,aJ.low h l ys n.2 h2⟩
end
theorem Wd.cut{n:Nat}(W:Wd K ρ H c) (hn:n<=c.length):Wd K (ρ.take n) H (c.take n):=by
 have sub:∀a,a∈ρ.take n->a∈ρ:=λa h=>alx h
 refine⟨W.nd.sublist (an5 _ _),by simp[W.len],λk a cl e1 e2=>?_,W.tab⟩
 rw[anb]at e1 e2
 split at e1
 ·rename_i hk
  rw[if_pos hk]at e2
  have q:=W.fM k a cl e1 e2
  cases cl with
  |lst l =>
   obtain⟨nr,xs,e,r⟩:=q
   exact⟨nr,xs,e,aJ.low sub l xs nr r⟩
 ·cases e1
theorem Ext.cut{n:Nat}(x:Ext ρ H ρ' H') (hn:ρ.length<=n):Ext ρ H (ρ'.take n) H' :=
 ⟨λk a e=>by rw[anb,if_pos (ak7 (ala.mp e).1 hn)];exact x.pre k a e,λa o e z t=>let⟨h1,h2⟩:=x.keep a o e z t;⟨h1,λq=>h2 (alx q)⟩⟩
theorem Ext.len(W:Wd K ρ H c) (W':Wd K ρ' H' c') (x:Ext ρ H ρ' H'):c.length<=c'.length:=by
 rw[<-W.len,<-W'.len]
 by_cases h:ρ.length<=ρ'.length
 ·exact h
 ·exfalso
  have h':ρ'.length<ρ.length:=Nat.lt_of_not_le h
  have e:=x.pre ρ'.length ρ[ρ'.length] (ak3 h')
  rw[amy (akV _)]at e
  cases e
end
abbrev Ev:=List (Option D)
def post{α β:Type}(K:PySem.W.Frag) (Rl:List Addr->Hp->α->β->Prop) (r:R α) (ρ:List Addr) (H:Hp) (Q:β->Hp->Prop):Prop:=match r with
 |.ok a c=>∀ρ' H' b,Wd K ρ' H' c->Ext ρ H ρ' H'->Rl ρ' H' a b->Q b H'
 |.bad=>False
structure dz (K:PySem.W.Frag) (ρ:List Addr) (H:Hp) (e:Ev) (σ:St):Prop where
 get:∀(i:Nat) (d:D),e[i]? = some (some d)->∃v,σ[i]? = some (some v)/\Rel K ρ H d v
 len:e.length=σ.length
def tD{α β:Type}(K:PySem.W.Frag) (Rl:List Addr->Hp->α->β->Prop) (d:Ev->List Cell->R α):St->Hp->(β->Hp->Prop)->Prop :=
 λσ H Q=>∃ρ e c,Wd K ρ H c/\dz K ρ H e σ/\post K Rl (d e c) ρ H Q
section
variable {α β γ δ:Type}{K:PySem.W.Frag}{ρ ρ':List Addr}{H H':Hp}{c:List Cell}{e:Ev}{σ:St}{Rl:List Addr->Hp->α->β->Prop}{Rm:List Addr->Hp->γ->δ->Prop}
theorem dz.mono(V:dz K ρ H e σ) (W:Wd K ρ H c) (x:Ext ρ H ρ' H'):dz K ρ' H' e σ :=
 ⟨λi d h=>let⟨v,h1,h2⟩:=V.get i d h;⟨v,h1,Rel.mono W x d v h2⟩,V.len⟩
theorem dz.set(V:dz K ρ H e σ) {d:D}{v:L2.V}(r:Rel K ρ H d v) (i:Nat):dz K ρ H (e.set i (some d)) (σ.set i (some v)):=by
 refine⟨λj b h=>?_,by simp[V.len]⟩
 by_cases hj:j=i
 ·subst hj
  have hl:j<e.length:=by
   have:=(ala.mp h).1
   simpa using this
  rw[alT hl]at h
  cases h
  exact⟨v,by rw[alT (by rw[<-V.len];exact hl)],r⟩
 ·rw[alG (alF hj)]at h ⊢
  exact V.get j b h
theorem post.ext{r:R α}{Q:β->Hp->Prop}(p:post K Rl r ρ H Q) (x:Ext ρ H ρ' H'):post K Rl r ρ' H' Q:=by
 cases r with
 |ok a c=>exact λcX H2 b W y r=>p cX H2 b W (x.trans y) r
 |bad=>exact p
theorem post.bind{r:R α}{f:α->List Cell->R γ}{Q:δ->Hp->Prop}{S:β->Hp->Prop}(p:post K Rm (r.bind f) ρ H Q)
  (h:∀a c1 ρ' H' b,r=.ok a c1->Wd K ρ' H' c1->Ext ρ H ρ' H'->Rl ρ' H' a b->post K Rm (f a c1) ρ' H' Q->S b H'):post K Rl r ρ H S:=by
 cases r with
 |ok a c1=>exact λρ' H' b W x r=>h a c1 ρ' H' b rfl W x r (post.ext (r:=f a c1) p x)
 |bad=>exact p
theorem post.here{a:α}{b:β}{Q:β->Hp->Prop}(p:post K Rl (.ok a c) ρ H Q) (W:Wd K ρ H c) (r:Rl ρ H a b):Q b H:=p ρ H b W Ext.refl r
end
abbrev bf(X:Cx) (e:Expr) (d:Ev->List Cell->R D):Prop:=PE X e (tD X.K (Rel X.K) d)
abbrev iL(X:Cx) (e:Expr) (d:Ev->List Cell->R Bool):Prop:=PT X e (tD X.K (λ_ _ a b=>a=b) d)
abbrev tX(X:Cx) (e:Expr) (d:Ev->List Cell->R Bool):Prop:=PW X e (tD X.K (λ_ _ a b=>a=b) d)
abbrev fh(X:Cx) (es:List Expr) (d:Ev->List Cell->R (List D)):Prop:=PA X es (tD X.K (aJ X.K) d)
section
variable {X:Cx}{e:Expr}{es:List Expr}{st:Stmt}{sts:List Stmt}
theorem PE.imp{t t':TE}(h:PE X e t) (i:∀σ H Q,t' σ H Q->t σ H Q):PE X e t':=λpins s σ H Q I q=>h pins s σ H Q I (i _ _ _ q)
theorem PT.imp{t t':TT}(h:PT X e t) (i:∀σ H Q,t' σ H Q->t σ H Q):PT X e t':=λpins s σ H Q I q=>h pins s σ H Q I (i _ _ _ q)
theorem PW.imp{t t':TT}(h:PW X e t) (i:∀σ H Q,t' σ H Q->t σ H Q):PW X e t':=λwh pins s σ H Q I q=>h wh pins s σ H Q I (i _ _ _ q)
theorem PA.imp{t t':TA}(h:PA X es t) (i:∀σ H Q,t' σ H Q->t σ H Q):PA X es t':=λpos pins s σ H Q I q=>h pos pins s σ H Q I (i _ _ _ q)
theorem PS.imp{t t':TS}(h:PS X st t) (i:∀D σ H,t' D σ H->t D σ H):PS X st t':=λpins s σ H D I q=>h pins s σ H D I (i _ _ _ q)
theorem fY.imp{t t':TS}(h:fY X sts t) (i:∀D σ H,t' D σ H->t D σ H):fY X sts t':=λpins s σ H D I q=>h pins s σ H D I (i _ _ _ q)
end
def ak(i:Nat):Ev->List Cell->R D:=λe c=>match e[i]? with
 |some (some d)=>.ok d c
 |_=>.bad
def dC(d:D):Ev->List Cell->R D:=λ_ c=>.ok d c
section
variable {X:Cx}
theorem av(i:Nat) {x:Str}{pos:Pos}(hN:X.N[i]? = some x:=by rfl) (hv:Ah X.env.scope x:=by first|exact Or.inl rfl|exact Or.inr (Or.inl rfl)|exact Or.inr (Or.inr rfl)) (hd:(x==("__debug__":Str))=false:=by decide)
  (hcd:(x==("__classdict__":Str))=false:=by decide):bf X (.Name x pos) (ak i):=(JA hN hv hd hcd).imp λσ H Q h=>by
 obtain⟨ρ,e,c,W,V,p⟩:=h
 unfold ak at p
 cases q:e[i]? with
 |none=>rw[q]at p;exact p.elim
 |some o =>
  rw[q]at p
  cases o with
  |none=>exact p.elim
  |some d =>
   obtain⟨v,hv,r⟩:=V.get i d q
   exact⟨v,hv,p.here W r⟩
theorem uH{e:Expr}{v:V}{d:D}(h:PE X e (tC v)) (r:∀ρ H,Rel X.K ρ H d v):bf X e (dC d):=h.imp λσ H Q h=>by
 obtain⟨ρ,e,c,W,V,p⟩:=h
 exact post.here (r:=r ρ H) p W
theorem aX{i j pos}:bf X (.Constant (.int i) j pos) (dC (.int i)):=uH WR λ_ _=>rfl
theorem jN{b j pos}:bf X (.Constant (.bool b) j pos) (dC (.bl b)):=uH W7 λ_ _=>rfl
theorem xS{j pos}:bf X (.Constant .none j pos) (dC .aO):=uH WN λ_ _=>rfl
theorem gr{x:Str}{n:String}{pos:Pos}(hg:Gl X x) (hm:X.mg x=none) (hv:bootBuiltins x=some (.type n)) (hn:x≠"__name__":=by decide) (hd:(x==("__debug__":Str))=false:=by decide):bf X (.Name x pos) (dC (.ty n)):=uH (WG hg hm hv hn hd) λ_ _=>rfl
theorem Bx{x:Str}{i:Int}{t:Tok}{pos:Pos}(hg:Gl X x) (hm:X.mg x=some (.int i t)) (hd:(x==("__debug__":Str))=false:=by decide):bf X (.Name x pos) (dC (.int i)):=uH (WT (v:=.int i) hg hm ⟨t,rfl⟩ hd) λ_ _=>rfl
end
end L2
namespace L2
open PySem PySem.Spec PyProof.Rows
def au(f:D->D->List Cell->R D) (a b:Ev->List Cell->R D):Ev->List Cell->R D:=λe c=>(a e c).bind λx c=>(b e c).bind λy c=>f x y c
def r2(K:PySem.W.Frag) (f:D->D->List Cell->R D):R2:=λv u H Q=>∃ρ x y c,Wd K ρ H c/\Rel K ρ H x v/\Rel K ρ H y u/\post K (Rel K) (f x y c) ρ H Q
def r1(K:PySem.W.Frag) (f:D->List Cell->R D):V->Hp->VK->Prop:=λv H Q=>∃ρ x c,Wd K ρ H c/\Rel K ρ H x v/\post K (Rel K) (f x c) ρ H Q
def rN(K:PySem.W.Frag) (f:List D->List Cell->R D):List V->Hp->VK->Prop:=λvs H Q=>∃ρ xs c,Wd K ρ H c/\aJ K ρ H xs vs/\post K (Rel K) (f xs c) ρ H Q
def aG(f:List D->List Cell->R D) (a:Ev->List Cell->R (List D)):Ev->List Cell->R D:=λe c=>(a e c).bind λxs c=>f xs c
section
variable {X:Cx}{a b:Expr}{da db dd:Ev->List Cell->R D}{pos:Pos}{K:PySem.W.Frag}{σ:St}{H:Hp}{Q:VK}{f:D->D->List Cell->R D}
theorem wX(h:tD K (Rel K) (au f da db) σ H Q):tD K (Rel K) da σ H λv H1=>tD K (Rel K) db σ H1 λu H2=>r2 K f v u H2 Q:=by
 obtain⟨ρ,e,c,W,V,p⟩:=h
 refine⟨ρ,e,c,W,V,post.bind p λx c1 aK H1 v _ W1 X1 r1 p1=>⟨aK,e,c1,W1,V.mono W X1,post.bind p1 λy c2 cX H2 u _ W2 X2 r2 p2=>⟨cX,x,y,c2,W2,Rel.mono W1 X2 _ _ r1,r2,p2⟩⟩⟩
theorem Il{g:List D->List Cell->R D}{ds:Ev->List Cell->R (List D)}(h:tD K (Rel K) (aG g ds) σ H Q):tD K (aJ K) ds σ H λvs H1=>rN K g vs H1 Q:=by
 obtain⟨ρ,e,c,W,V,p⟩:=h
 exact⟨ρ,e,c,W,V,post.bind p λx c1 aK H1 v _ W1 X1 r1 p1=>⟨aK,x,c1,W1,r1,p1⟩⟩
theorem aM{op:Operator}(ho:bQ X (binaryOp op) (r2 X.K f)) (ha:bf X a da) (hb:bf X b db):bf X (.BinOp a op b pos) (au f da db):=(WK ho ha hb).imp λσ H Q h=>wX h
theorem jM{op:CmpOp}(ho:bQ X (compareOp op) (r2 X.K f)) (ha:bf X a da) (hb:bf X b db) (hm:behindInMarks op b=false:=by first|exact Kc _|rfl):bf X (.Compare a [op] [b] pos) (au f da db):=(WW ho ha hb hm).imp λσ H Q h=>wX h
theorem cL(hr:wC X (r2 X.K f)) (ha:bf X a da) (hb:bf X b db) (hs:Ol b:=by exact λ_ _=>rfl):bf X (.Subscript a b pos) (au f da db):=(WQ hr ha hb hs).imp λσ H Q h=>wX h
def pM(f g:D->D->List Cell->R D) (a b d:Ev->List Cell->R D):Ev->List Cell->R D:=λe c=>(a e c).bind λx c=>(b e c).bind λy c=>(f x y c).bind λz c=>match z with
 |.bl true=>(d e c).bind λu c=>g y u c
 |.bl false=>.ok (.bl false) c
 |_=>.bad
end
def aq:Ev->List Cell->R (List D):=λ_ c=>.ok [] c
def ao(a:Ev->List Cell->R D) (r:Ev->List Cell->R (List D)):Ev->List Cell->R (List D):=λe c=>(a e c).bind λx c=>(r e c).bind λxs c=>.ok (x::xs) c
def fC(a:Ev->List Cell->R (List D)):Ev->List Cell->R D:=λe c=>(a e c).bind λxs c=>if xs.length<=sizeLine then .ok (.tup xs) c else .bad
def bU(a:Ev->List Cell->R (List D)):Ev->List Cell->R D:=λe c=>(a e c).bind λxs c=>if xs.length<=sizeLine then .ok (.lst xs) c else .bad
def cW(a:Ev->List Cell->R (List D)):Ev->List Cell->R D:=λe c=>(a e c).bind λxs c=>if xs.length<=sizeLine/\bE xs=true then .ok (.ref c.length) (c++[.lst xs])else .bad
section
variable {X:Cx}{a:Expr}{es:List Expr}{da:Ev->List Cell->R D}{ds:Ev->List Cell->R (List D)}{pos:Pos}{K:PySem.W.Frag}{ρ:List Addr}{H:Hp}{c:List Cell}{Q:VK}{xs:List D}{vs:List V}
theorem aB:fh X [] aq:=jP.imp λσ H Q h=>by
 obtain⟨ρ,e,c,W,V,p⟩:=h
 exact post.here (b:=[]) p W rfl
theorem ay(ha:bf X a da) (hr:fh X es ds) (hs:starEach (a::es) X.env=(false,eval a X.env)::starEach es X.env:=by exact cJ rfl):fh X (a::es) (ao da ds):=(jl ha hr hs).imp λσ H Q h=>by
 obtain⟨ρ,e,c,W,V,p⟩:=h
 refine⟨ρ,e,c,W,V,post.bind p λx c1 aK H1 v _ W1 X1 r1 p1=>⟨aK,e,c1,W1,V.mono W X1,post.bind p1 λy c2 cX H2 u _ W2 X2 r2 p2=>?_⟩⟩
 exact p2.here W2 ⟨v,u,rfl,Rel.mono W1 X2 _ _ r1,r2⟩
theorem BL(W:Wd K ρ H c) (r:aJ K ρ H xs vs) (p:post K (Rel K) (.ok (.tup xs) c) ρ H Q):∀q,H q=none->Q (.ref q) (upd H q (.tup vs)):=λq hq =>
 p ρ _ _ (W.fresh hq) (Ext.fresh W hq) ⟨q,vs,rfl,fD,aJ.mono W (Ext.fresh W hq) _ _ r⟩
theorem oO(W:Wd K ρ H c) (r:aJ K ρ H xs vs) (p:post K (Rel K) (.ok (.lst xs) c) ρ H Q):∀q,H q=none->Q (.ref q) (upd H q (.lst vs)):=λq hq =>
 p ρ _ _ (W.fresh hq) (Ext.fresh W hq) ⟨q,vs,rfl,⟨fD,W.nil hq⟩,aJ.mono W (Ext.fresh W hq) _ _ r⟩
theorem BN(W:Wd K ρ H c) (nr:bE xs=true) (r:aJ K ρ H xs vs) (p:post K (Rel K) (.ok (.ref c.length) (c++[.lst xs])) ρ H Q):∀q,H q=none->Q (.ref q) (upd H q (.lst vs)):=λq hq =>
 p (ρ++[q]) _ _ (W.cell hq nr r) (Ext.cell W hq) ⟨q,rfl,by rw[alL (by rw[W.len];exact akV _),W.len,amo];rfl⟩
theorem rU{x1}(h:fh X es ds):bf X (.Tuple es x1 pos) (fC ds):=(WH h).imp λσ H Q h=>by
 obtain⟨ρ,e,c,W,V,p⟩:=h
 refine⟨ρ,e,c,W,V,post.bind p λx c1 aK H1 v _ W1 X1 r1 p1=>?_⟩
 split at p1
 ·rename_i hl
  exact⟨by rw[r1.length];exact hl,BL W1 r1 p1⟩
 ·exact p1.elim
theorem fF(h:fh X es ds):bf X (.List es pos) (bU ds):=(JB h).imp λσ H Q h=>by
 obtain⟨ρ,e,c,W,V,p⟩:=h
 refine⟨ρ,e,c,W,V,post.bind p λx c1 aK H1 v _ W1 X1 r1 p1=>?_⟩
 split at p1
 ·rename_i hl
  exact⟨by rw[r1.length];exact hl,oO W1 r1 p1⟩
 ·exact p1.elim
theorem iV(h:fh X es ds):bf X (.List es pos) (cW ds):=(JB h).imp λσ H Q h=>by
 obtain⟨ρ,e,c,W,V,p⟩:=h
 refine⟨ρ,e,c,W,V,post.bind p λx c1 aK H1 v _ W1 X1 r1 p1=>?_⟩
 split at p1
 ·rename_i hl
  exact⟨by rw[r1.length];exact hl.1,BN W1 hl.2 r1 p1⟩
 ·exact p1.elim
end
def aZ:D->D->List Cell->R D:=λx y c=>match x,y with
 |.int i,.int j=>.ok (.int (i+j)) c
 |.str a,.str b=>if a.length+b.length<=sizeLine then .ok (.str (a++b)) c else .bad
 |.tup l,.tup m=>if l.length≠0/\l.length+m.length<=sizeLine then .ok (.tup (l++m)) c else .bad
 |_,_=>.bad
def br:D->D->List Cell->R D:=λx y c=>match x,y with
 |.int i,.int j=>.ok (.int (i-j)) c
 |_,_=>.bad
def aU:D->D->List Cell->R D:=λx y c=>match x,y with
 |.int i,.int j=>if(-(2^64)<i/\i<2^64)\/(-(2^64)<j/\j<2^64)then .ok (.int (i*j)) c else .bad
 |_,_=>.bad
def eG:D->D->List Cell->R D:=λx y c=>match x,y with
 |.int i,.int j=>if 0<j/\j<1073741824 then .ok (.int (i/j)) c else .bad
 |_,_=>.bad
def bN:D->D->List Cell->R D:=λx y c=>match x,y with
 |.int i,.int j=>if 0<j then .ok (.int (i % j)) c else .bad
 |_,_=>.bad
def rT:D->D->List Cell->R D:=λx y c=>match x,y with
 |.int i,.int j=>if 0<=j/\j<=1000000/\i.natAbs<2^64 then .ok (.int (i^j.toNat)) c else .bad
 |_,_=>.bad
def pP(p:Int->Int->Bool):D->D->List Cell->R D:=λx y c=>match x,y with
 |.int i,.int j=>.ok (.bl (p i j)) c
 |_,_=>.bad
section
variable {X:Cx}
theorem c8:bQ X (binaryOp .Add) (r2 X.K aZ):=by
 intro pins s σ H v u vv uu Q I rv ru h
 obtain⟨ρ,x,y,c,W,rx,ry,p⟩:=h
 unfold aZ at p
 split at p
 ·cases rx;cases ry
  exact XQ pins s σ H _ _ vv uu Q I rv ru ⟨_,_,rfl,rfl,p.here W rfl⟩
 ·split at p
  ·rename_i hl
   cases rx;cases ry
   exact XO pins s σ H _ _ vv uu Q I rv ru ⟨_,_,rfl,rfl,hl,p.here W rfl⟩
  ·exact p.elim
 ·split at p
  ·rename_i hl
   obtain⟨a,xs,rfl,sa,ra⟩:=rx
   obtain⟨b,ys,rfl,sb,rb⟩:=ry
   refine XJ pins s σ H _ _ vv uu Q I rv ru ⟨a,b,xs,ys,rfl,rfl,cI.of sa,cI.of sb,λz=>hl.1 ?_,by rw[ra.length,rb.length];exact hl.2,λz=>?_,λ_=>BL W (ra.append rb) p⟩
   ·rw[<-ra.length,z];rfl
   ·refine p.here W ⟨a,xs++ys,rfl,by rw[z,al3];exact sa,ra.append rb⟩
  ·exact p.elim
 ·exact p.elim
theorem d9:bQ X (binaryOp .Sub) (r2 X.K br):=by
 intro pins s σ H v u vv uu Q I rv ru h
 obtain⟨ρ,x,y,c,W,rx,ry,p⟩:=h
 unfold br at p
 split at p
 ·cases rx;cases ry
  exact Xu pins s σ H _ _ vv uu Q I rv ru ⟨_,_,rfl,rfl,p.here W rfl⟩
 ·exact p.elim
theorem dY:bQ X (binaryOp .Mult) (r2 X.K aU):=by
 intro pins s σ H v u vv uu Q I rv ru h
 obtain⟨ρ,x,y,c,W,rx,ry,p⟩:=h
 unfold aU at p
 split at p
 ·split at p
  ·rename_i hl
   cases rx;cases ry
   exact Xz pins s σ H _ _ vv uu Q I rv ru ⟨_,_,rfl,rfl,hl,p.here W rfl⟩
  ·exact p.elim
 ·exact p.elim
theorem oN:bQ X (binaryOp .FloorDiv) (r2 X.K eG):=by
 intro pins s σ H v u vv uu Q I rv ru h
 obtain⟨ρ,x,y,c,W,rx,ry,p⟩:=h
 unfold eG at p
 split at p
 ·split at p
  ·rename_i hl
   cases rx;cases ry
   exact XH pins s σ H _ _ vv uu Q I rv ru ⟨_,_,rfl,rfl,hl,p.here W rfl⟩
  ·exact p.elim
 ·exact p.elim
theorem gE:bQ X (binaryOp .Mod) (r2 X.K bN):=by
 intro pins s σ H v u vv uu Q I rv ru h
 obtain⟨ρ,x,y,c,W,rx,ry,p⟩:=h
 unfold bN at p
 split at p
 ·split at p
  ·rename_i hl
   cases rx;cases ry
   exact XA pins s σ H _ _ vv uu Q I rv ru ⟨_,_,rfl,rfl,hl,p.here W rfl⟩
  ·exact p.elim
 ·exact p.elim
theorem JX:bQ X (binaryOp .Pow) (r2 X.K rT):=by
 intro pins s σ H v u vv uu Q I rv ru h
 obtain⟨ρ,x,y,c,W,rx,ry,p⟩:=h
 unfold rT at p
 split at p
 ·split at p
  ·rename_i hl
   cases rx;cases ry
   exact Xx pins s σ H _ _ vv uu Q I rv ru ⟨_,_,rfl,rfl,hl,p.here W rfl⟩
  ·exact p.elim
 ·exact p.elim
theorem yb{f:Value->Value->Sem Value}{q:Int->Int->Bool}(h:bQ X f (jJ λi j=>.bl (q i j))):bQ X f (r2 X.K (pP q)):=by
 intro pins s σ H v u vv uu Q I rv ru hh
 obtain⟨ρ,x,y,c,W,rx,ry,p⟩:=hh
 unfold pP at p
 split at p
 ·cases rx;cases ry
  exact h pins s σ H _ _ vv uu Q I rv ru ⟨_,_,rfl,rfl,p.here W rfl⟩
 ·exact p.elim
abbrev KD:=pP λi j=>decide (i<j)
abbrev kR:=pP λi j=>decide (i<=j)
abbrev sH:=pP λi j=>decide (j<i)
abbrev L5:=pP λi j=>decide (j<=i)
theorem YG:bQ X (compareOp .Lt) (r2 X.K KD):=yb XC
theorem ya:bQ X (compareOp .LtE) (r2 X.K kR):=yb XD
theorem J0:bQ X (compareOp .Gt) (r2 X.K sH):=yb XF
theorem Zg:bQ X (compareOp .GtE) (r2 X.K L5):=yb XG
end
def E8:D->D->Option Bool
 |.aO,.aO=>some true|.aO,.int _=>some false|.int _,.aO=>some false|.aO,.bl _=>some false|.bl _,.aO=>some false|.aO,.str _=>some false|.str _,.aO=>some false
 |.int i,.int j=>some (decide (i=j))|.bl a,.bl b=>some (decide (a=b))|.str x,.str y=>some (decide (x=y))
 |.int _,.str _=>some false|.str _,.int _=>some false|.bl _,.str _=>some false|.str _,.bl _=>some false
 |_,_=>none
def bS:D->D->List Cell->R D:=λx y c=>match E8 x y with
 |some b=>.ok (.bl b) c
 |none=>.bad
def gG:D->D->List Cell->R D:=λx y c=>match E8 x y with
 |some b=>.ok (.bl (!b)) c
 |none=>.bad
def iE:D->Bool
 |.aO=>true
 |_=>false
def vn:D->D->List Cell->R D:=λx y c=>match y with
 |.aO=>.ok (.bl (iE x)) c
 |_=>.bad
section
variable {X:Cx}{K:PySem.W.Frag}{ρ:List Addr}{H:Hp}{c:List Cell}
theorem MA{x y:D}{v u:V}{b:Bool}(rx:Rel K ρ H x v) (ry:Rel K ρ H y u) (h:E8 x y=some b):A7 v u=true/\decide (v=u)=b:=by
 cases x<;>cases y<;>first
  |(cases rx;cases ry;cases h;refine⟨rfl,?_⟩;simp;done)
  |(cases h;done)
theorem fT:bQ X (compareOp .Eq) (r2 X.K bS):=by
 intro pins s σ H v u vv uu Q I rv ru h
 obtain⟨ρ,x,y,c,W,rx,ry,p⟩:=h
 unfold bS at p
 split at p
 ·rename_i b hb
  obtain⟨h1,h2⟩:=MA rx ry hb
  exact XI pins s σ H _ _ vv uu Q I rv ru ⟨h1,by rw[h2];exact p.here W rfl⟩
 ·exact p.elim
theorem x9:bQ X (compareOp .NotEq) (r2 X.K gG):=by
 intro pins s σ H v u vv uu Q I rv ru h
 obtain⟨ρ,x,y,c,W,rx,ry,p⟩:=h
 unfold gG at p
 split at p
 ·rename_i b hb
  obtain⟨h1,h2⟩:=MA rx ry hb
  exact Xy pins s σ H _ _ vv uu Q I rv ru ⟨h1,by rw[h2];exact p.here W rfl⟩
 ·exact p.elim
theorem acX{x:D}{v:V}(rx:Rel K ρ H x v):decide (v=.aO)=iE x:=by
 cases x<;>first
  |(cases rx;rfl;done)
  |(cases rx;simp[iE];done)
  |(obtain⟨a,xs,rfl,_⟩:=rx;simp[iE];done)
  |(obtain⟨a,rfl,_⟩:=rx;simp[iE];done)
  |(obtain⟨a,o,q,c,cl,xs,rfl,_⟩:=rx;simp[iE];done)
theorem JZ:bQ X (compareOp .Is) (r2 X.K vn):=by
 intro pins s σ H v u vv uu Q I rv ru h
 obtain⟨ρ,x,y,c,W,rx,ry,p⟩:=h
 unfold vn at p
 split at p
 ·cases ry
  exact XE pins s σ H _ _ vv uu Q I rv ru ⟨rfl,by rw[acX rx];exact p.here W rfl⟩
 ·exact p.elim
theorem Xh{a b d:Expr}{da db dd:Ev->List Cell->R D}{pos:Pos}{op op':CmpOp}{f g:D->D->List Cell->R D}(ho:bQ X (compareOp op) (r2 X.K f)) (ho':bQ X (compareOp op') (r2 X.K g)) (ha:bf X a da) (hb:bf X b db) (hd:bf X d dd)
  (h1:lastMarks [op,op'] [b,d]=false:=by with_unfolding_all rfl) :
  bf X (.Compare a [op,op'] [b,d] pos) (pM f g da db dd):=(WX ho ho' ha hb hd h1).imp λσ H Q h=>by
 obtain⟨ρ,e,c,W,V,p⟩:=h
 refine⟨ρ,e,c,W,V,post.bind p λx c1 aK H1 v _ W1 X1 r1 p1=>⟨aK,e,c1,W1,V.mono W X1,post.bind p1 λy c2 cX H2 u _ W2 X2 r2 p2=>⟨cX,x,y,c2,W2,Rel.mono W1 X2 _ _ r1,r2,post.bind p2 λz c3 oq H3 w _ W3 X3 r3 p3=>?_⟩⟩⟩
 have V3:=(V.mono W X1).mono W1 (X2.trans X3)
 cases z with
 |bl k =>
  cases r3
  refine⟨k,rfl,?_⟩
  cases k with
  |true =>
   refine kX ⟨oq,e,c3,W3,V3,post.bind p3 λt c4 om H4 w4 _ W4 X4 r4 p4=>⟨om,y,t,c4,W4,Rel.mono W2 (X3.trans X4) _ _ r2,r4,p4⟩⟩
  |false=>exact kY (p3.here W3 rfl)
 |_=>exact p3.elim
end
def fP(c:List Cell):D->Option (List D)
 |.tup l=>some l
 |.lst l=>some l
 |.cF l=>some (l.map D.int)
 |.ref k=>match c[k]? with
  |some (.lst l)=>some l
  |none=>none
 |_=>none
def aE:D->D->List Cell->R D:=λx y c=>match y with
 |.int i=>match fP c x with
  |some l=>match cT l i with
   |some d=>.ok d c
   |none=>.bad
  |none=>.bad
 |_=>.bad
section
variable {X:Cx}{K:PySem.W.Frag}{ρ:List Addr}{H:Hp}{c:List Cell}
theorem xq{x:D}{v:V}{l:List D}(W:Wd K ρ H c) (rx:Rel K ρ H x v) (h:fP c x=some l):∃a xs,v=.ref a/\(bH K H a xs\/cI K H a xs)/\aJ K ρ H l xs:=by
 cases x with
 |tup m =>
  cases h
  obtain⟨a,xs,e,s,r⟩:=rx
  exact⟨a,xs,e,.inr (cI.of s),r⟩
 |lst m =>
  cases h
  obtain⟨a,xs,e,s,r⟩:=rx
  exact⟨a,xs,e,.inl (bH.of s.1),r⟩
 |cF m =>
  cases h
  obtain⟨a,e,s⟩:=rx
  exact⟨a,_,e,.inl s.sql,aJ.ints⟩
 |ref k =>
  obtain⟨a,e,s⟩:=rx
  unfold fP at h
  dsimp only at h
  cases hc:c[k]? with
  |none=>rw[hc]at h;cases h
  |some cl =>
   cases cl with
   |lst m =>
    rw[hc]at h;cases h
    obtain⟨_,xs,hx,r⟩:=W.fM k a _ s hc
    exact⟨a,xs,e,.inl (bH.of hx),r⟩
 |_=>cases h
theorem ahS{l:List D}{xs:List V}{i:Int}{d:D}(r:aJ K ρ H l xs) (h:cT l i=some d):∃v,cT xs i=some v/\Rel K ρ H d v:=by
 unfold cT at h ⊢
 rw[r.length]
 cases e:fV l.length i with
 |none=>rw[e]at h;cases h
 |some j =>
  rw[e]at h
  exact r.get (i:=j) h
theorem cM:wC X (r2 X.K aE):=by
 intro value slice pins s σ H v u vv uu Q I rv ru h hs
 obtain⟨ρ,x,y,c,W,rx,ry,p⟩:=h
 unfold aE at p
 split at p
 ·split at p
  ·rename_i l hl
   split at p
   ·rename_i d hd
    cases ry
    obtain⟨a,xs,rfl,sq,r⟩:=xq W rx hl
    obtain⟨w,hw,rw'⟩:=ahS r hd
    rcases sq with sq|sq
    ·exact acP value slice pins s σ H _ _ vv uu Q I rv ru ⟨a,xs,_,w,rfl,rfl,sq,hw,p.here W rw'⟩ hs
    ·exact acO value slice pins s σ H _ _ vv uu Q I rv ru ⟨a,xs,_,w,rfl,rfl,sq,hw,p.here W rw'⟩ hs
   ·exact p.elim
  ·exact p.elim
 ·exact p.elim
end
def aW(a:Ev->List Cell->R D):Ev->List Cell->R Bool:=λe c=>(a e c).bind λx c=>match x with
 |.bl b=>.ok b c
 |_=>.bad
def iI(a b:Ev->List Cell->R Bool):Ev->List Cell->R Bool:=λe c=>(a e c).bind λx c=>if x=true then b e c else .ok false c
def gw(a b:Ev->List Cell->R Bool):Ev->List Cell->R Bool:=λe c=>(a e c).bind λx c=>if x=true then .ok true c else b e c
def d7(a:Ev->List Cell->R Bool):Ev->List Cell->R Bool:=λe c=>(a e c).bind λx c=>.ok (!x) c
def fW(a b:Ev->List Cell->R D):Ev->List Cell->R D:=λe c=>(a e c).bind λx c=>match x with
 |.bl k=>if k=true then b e c else .ok (.bl false) c
 |_=>.bad
def z5(a:Ev->List Cell->R D):Ev->List Cell->R D:=λe c=>(a e c).bind λx c=>match x with
 |.bl k=>.ok (.bl (!k)) c
 |_=>.bad
def vQ(t:Ev->List Cell->R Bool) (a b:Ev->List Cell->R D):Ev->List Cell->R D:=λe c=>(t e c).bind λx c=>if x=true then a e c else b e c
section
variable {X:Cx}{a b c':Expr}{da db:Ev->List Cell->R D}{ta tb:Ev->List Cell->R Bool}{pos:Pos}{rest:List Expr}
theorem GS(h:tD X.K (λ_ _ a b=>a=b) (aW da) σ H Q):tD X.K (Rel X.K) da σ H λx H'=>∃k,x=.bl k/\Q k H':=by
 obtain⟨ρ,e,c,W,V,p⟩:=h
 refine⟨ρ,e,c,W,V,post.bind p λx c1 aK H1 v _ W1 X1 r1 p1=>?_⟩
 cases x with
 |bl k=>cases r1;exact⟨k,rfl,p1.here W1 rfl⟩
 |_=>exact p1.elim
theorem gU(ha:bf X a da) (he:∀whole,isTrue a X.env whole=(do let v <-whole;standAt a.pos;holding [v] (truthy v)):=by intro _;rfl):iL X a (aW da):=(U3 ha he).imp λσ H Q h=>GS h
theorem fu{op:CmpOp}{f:D->D->List Cell->R D}(ho:bQ X (compareOp op) (r2 X.K f)) (ha:bf X a da) (hb:bf X b db) (hm:behindInMarks op b=false:=by first|exact Kc _|rfl):iL X (.Compare a [op] [b] pos) (aW (au f da db)) :=
 (U5 ho ha hb hm).imp λσ H Q h=>wX (Q:=λx H'=>∃k,x=.bl k/\Q k H') (GS h)
theorem Xg{d:Expr}{dd:Ev->List Cell->R D}{op op':CmpOp}{f g:D->D->List Cell->R D}(ho:bQ X (compareOp op) (r2 X.K f)) (ho':bQ X (compareOp op') (r2 X.K g)) (ha:bf X a da) (hb:bf X b db) (hd:bf X d dd)
  (h1:lastMarks [op,op'] [b,d]=false:=by with_unfolding_all rfl):iL X (.Compare a [op,op'] [b,d] pos) (aW (pM f g da db dd)):=(U6 ho ho' ha hb hd h1).imp λσ H Q h=>by
 obtain⟨ρ,e,c,W,V,p⟩:=GS h
 refine⟨ρ,e,c,W,V,post.bind p λx c1 aK H1 v _ W1 X1 r1 p1=>⟨aK,e,c1,W1,V.mono W X1,post.bind p1 λy c2 cX H2 u _ W2 X2 r2 p2=>⟨cX,x,y,c2,W2,Rel.mono W1 X2 _ _ r1,r2,post.bind p2 λz c3 oq H3 w _ W3 X3 r3 p3=>?_⟩⟩⟩
 have V3:=(V.mono W X1).mono W1 (X2.trans X3)
 cases z with
 |bl k =>
  cases r3
  refine⟨k,rfl,?_⟩
  cases k with
  |true =>
   refine kX ⟨oq,e,c3,W3,V3,post.bind p3 λt c4 om H4 w4 _ W4 X4 r4 p4=>⟨om,y,t,c4,W4,Rel.mono W2 (X3.trans X4) _ _ r2,r4,p4⟩⟩
  |false=>exact kY (p3.here W3 rfl)
 |_=>exact p3.elim
theorem BA(ha:iL X a ta):tX X (.BoolOp .And [a] pos) ta:=UY ha
theorem uG(ha:iL X a ta):tX X (.BoolOp .Or [a] pos) ta:=UW ha
theorem By(ha:iL X a ta) (hb:tX X (.BoolOp .And (b::rest) pos) tb):tX X (.BoolOp .And (a::b::rest) pos) (iI ta tb):=(UZ ha hb).imp λσ H Q h=>by
 obtain⟨ρ,e,c,W,V,p⟩:=h
 refine⟨ρ,e,c,W,V,post.bind p λx c1 aK H1 v _ W1 X1 r1 p1=>?_⟩
 cases r1
 cases x with
 |true=>exact kX ⟨aK,e,c1,W1,V.mono W X1,p1⟩
 |false=>exact kY (post.here (a:=false) p1 W1 rfl)
theorem rV(ha:iL X a ta) (hb:tX X (.BoolOp .Or (b::rest) pos) tb):tX X (.BoolOp .Or (a::b::rest) pos) (gw ta tb):=(UX ha hb).imp λσ H Q h=>by
 obtain⟨ρ,e,c,W,V,p⟩:=h
 refine⟨ρ,e,c,W,V,post.bind p λx c1 aK H1 v _ W1 X1 r1 p1=>?_⟩
 cases r1
 cases x with
 |true=>exact kX (post.here (a:=true) p1 W1 rfl)
 |false=>exact kY ⟨aK,e,c1,W1,V.mono W X1,p1⟩
theorem jL(ha:iL X a ta):iL X (.UnaryOp .Not a pos) (d7 ta):=(U4 ha).imp λσ H Q h=>by
 obtain⟨ρ,e,c,W,V,p⟩:=h
 refine⟨ρ,e,c,W,V,post.bind p λx c1 aK H1 v _ W1 X1 r1 p1=>?_⟩
 cases r1
 exact p1.here W1 rfl
theorem jK{op}(h:bf X a da):bf X (.BoolOp op [a] pos) da:=WL h
theorem jO(ha:bf X a da) (hb:bf X (.BoolOp .And (b::rest) pos) db):bf X (.BoolOp .And (a::b::rest) pos) (fW da db):=(W8 ha hb).imp λσ H Q h=>by
 obtain⟨ρ,e,c,W,V,p⟩:=h
 refine⟨ρ,e,c,W,V,post.bind p λx c1 aK H1 v _ W1 X1 r1 p1=>?_⟩
 cases x with
 |bl k =>
  cases r1
  refine⟨k,rfl,?_⟩
  cases k with
  |true=>exact kX ⟨aK,e,c1,W1,V.mono W X1,p1⟩
  |false=>exact kY (post.here (a:=D.bl false) p1 W1 rfl)
 |_=>exact p1.elim
theorem JE(ha:bf X a da):bf X (.UnaryOp .Not a pos) (z5 da):=(WM ha).imp λσ H Q h=>by
 obtain⟨ρ,e,c,W,V,p⟩:=h
 refine⟨ρ,e,c,W,V,post.bind p λx c1 aK H1 v _ W1 X1 r1 p1=>?_⟩
 cases x with
 |bl k=>cases r1;exact⟨k,rfl,p1.here W1 rfl⟩
 |_=>exact p1.elim
theorem Xe(ht:iL X c' ta) (ha:bf X a da) (hb:bf X b db):bf X (.IfExp c' a b pos) (vQ ta da db):=(WS ht ha hb).imp λσ H Q h=>by
 obtain⟨ρ,e,c,W,V,p⟩:=h
 refine⟨ρ,e,c,W,V,post.bind p λx c1 aK H1 v _ W1 X1 r1 p1=>?_⟩
 cases r1
 cases x with
 |true=>exact kX ⟨aK,e,c1,W1,V.mono W X1,p1⟩
 |false=>exact kY ⟨aK,e,c1,W1,V.mono W X1,p1⟩
end
inductive Fl where
 |nx (e:Ev)|rt (d:D)|bk (e:Ev)|ct (e:Ev)
abbrev aa:=List Cell
abbrev af:=Ev->List Cell->R D
abbrev ah:=Ev->List Cell->R Fl
abbrev ai:=Ev->List Cell->R Bool
abbrev aj:=Ev->List Cell->R (List D)
inductive FV where
 |nx (σ:St)|rt (v:V)|bk (σ:St)|ct (σ:St)
def iK(K:PySem.W.Frag) (ρ:List Addr) (H:Hp):Fl->FV->Prop
 |.nx e,f=>∃σ,f=.nx σ/\dz K ρ H e σ
 |.rt d,f=>∃v,f=.rt v/\Rel K ρ H d v
 |.bk e,f=>∃σ,f=.bk σ/\dz K ρ H e σ
 |.ct e,f=>∃σ,f=.ct σ/\dz K ρ H e σ
def En(Z:Ends):FV->Hp->Prop
 |.nx σ,H=>Z.nx σ H
 |.rt v,H=>Z.rt v H
 |.bk σ,H=>Z.bk σ H
 |.ct σ,H=>Z.ct σ H
def Io(K:PySem.W.Frag) (d:ah):TS:=λZ σ H=>tD K (iK K) d σ H (En Z)
abbrev jD(X:Cx) (st:Stmt) (d:ah):Prop:=PS X st (Io X.K d)
abbrev bV(X:Cx) (st:List Stmt) (d:ah):Prop:=fY X st (Io X.K d)
def cg:ah:=λe c=>.ok (.nx e) c
def aD(a b:ah):ah:=λe c=>(a e c).bind λf c=>match f with
 |.nx e=>b e c
 |f=>.ok f c
def aL(a:af):ah:=λe c=>(a e c).bind λx c=>.ok (.rt x) c
def cY(a:af):ah:=λe c=>(a e c).bind λ_ c=>.ok (.nx e) c
def b8(t:ai) (a b:ah):ah:=λe c=>(t e c).bind λx c=>if x=true then a e c else b e c
def aF(i:Nat) (a:af):ah:=λe c=>(a e c).bind λx c=>.ok (.nx (e.set i (some x))) c
def Bc:ah:=λ_ _=>.bad
section
variable {X:Cx}{st:Stmt}{rest:List Stmt}{t u:ah}{e:Expr}{da:af}{pos:Pos}
theorem fm:bV X [] cg:=U8.imp λZ σ H h=>by
 obtain⟨ρ,e,c,W,V,p⟩:=h
 exact p.here W ⟨σ,rfl,V⟩
theorem aS(h1:jD X st t) (h2:bV X rest u):bV X (st::rest) (aD t u):=(U9 h1 h2).imp λZ σ H h=>by
 obtain⟨ρ,e,c,W,V,p⟩:=h
 refine⟨ρ,e,c,W,V,post.bind p λf c1 aK H1 b _ W1 X1 r1 p1=>?_⟩
 cases f with
 |nx e1=>obtain⟨σ1,rfl,V1⟩:=r1;exact⟨aK,e1,c1,W1,V1,p1⟩
 |rt d=>obtain⟨v,rfl,V1⟩:=r1;exact post.here (Q:=En Z) (show post X.K (iK X.K) (.ok (Fl.rt d) c1) aK H1 (En Z)from p1) W1 ⟨_,rfl,V1⟩
 |bk e1=>obtain⟨σ1,rfl,V1⟩:=r1;exact post.here (Q:=En Z) (show post X.K (iK X.K) (.ok (Fl.bk e1) c1) aK H1 (En Z)from p1) W1 ⟨_,rfl,V1⟩
 |ct e1=>obtain⟨σ1,rfl,V1⟩:=r1;exact post.here (Q:=En Z) (show post X.K (iK X.K) (.ok (Fl.ct e1) c1) aK H1 (En Z)from p1) W1 ⟨_,rfl,V1⟩
theorem aV(h1:jD X st t):bV X [st] t:=U7 h1
theorem Tu:jD X st Bc:=λ_ _ _ _ _ _ h=>by
 obtain⟨ρ,e,c,W,V,p⟩:=h
 exact p.elim
theorem bJ(he:bf X e da):jD X (.Return (some e) pos) (aL da):=(Vd he).imp λZ σ H h=>by
 obtain⟨ρ,e,c,W,V,p⟩:=h
 refine⟨ρ,e,c,W,V,post.bind p λx c1 aK H1 v _ W1 X1 r1 p1=>p1.here W1 ⟨v,rfl,r1⟩⟩
theorem iw(he:bf X e da) (hs:swapsWith e none pos.line X.env=pure false:=by rfl):jD X (.Expr e pos) (cY da):=(Vg he hs).imp λZ σ H h=>by
 obtain⟨ρ,e,c,W,V,p⟩:=h
 refine⟨ρ,e,c,W,V,post.bind p λx c1 aK H1 v _ W1 X1 r1 p1=>p1.here W1 ⟨σ,rfl,V.mono W X1⟩⟩
theorem eZ{c':Expr}{a b:List Stmt}{tc:ai}(hc:iL X c' tc) (ha:bV X a t) (hb:bV X b u):jD X (.If c' a b pos) (b8 tc t u):=(Ve hc ha hb).imp λZ σ H h=>by
 obtain⟨ρ,e,c,W,V,p⟩:=h
 refine⟨ρ,e,c,W,V,post.bind p λx c1 aK H1 v _ W1 X1 r1 p1=>?_⟩
 cases r1
 cases x with
 |true=>exact kX ⟨aK,e,c1,W1,V.mono W X1,p1⟩
 |false=>exact kY ⟨aK,e,c1,W1,V.mono W X1,p1⟩
theorem bD{i:Nat}{x:Str}{pos':Pos}(he:bf X e da) (hN:X.N.Nodup:=by decide +kernel) (hi:X.N[i]? = some x:=by rfl) (hx:Loc X.env.scope x:=by first|exact Or.inl rfl|exact Or.inr rfl) (hs:swapsWith e (some (.Name x pos')) pos.line X.env=pure false:=by rfl)
  (hf:X.fn x=true\/X.env.scope.names.lookup x=some .local:=by first|exact .inl rfl|exact .inr rfl):jD X (.Assign [.Name x pos'] e pos) (aF i da):=(Vc hN hi hx he hs).imp λZ σ H h=>by
 obtain⟨ρ,e,c,W,V,p⟩:=h
 refine⟨ρ,e,c,W,V,post.bind p λx c1 aK H1 v _ W1 X1 r1 p1=>p1.here W1 ⟨_,rfl,(V.mono W X1).set r1 i⟩⟩
end
abbrev Gd:=D->Ev->aa->R Ev
def wZ(K:PySem.W.Frag) (g:Gd):TG:=λv σ H Q=>∃ρ x e c,Wd K ρ H c/\dz K ρ H e σ/\Rel K ρ H x v/\post K (λρ H e σ=>dz K ρ H e σ) (g x e c) ρ H Q
def Rq(K:PySem.W.Frag) (g:List D->Ev->aa->R Ev):mG:=λvs σ H Q=>∃ρ xs e c,Wd K ρ H c/\dz K ρ H e σ/\aJ K ρ H xs vs/\post K (λρ H e σ=>dz K ρ H e σ) (g xs e c) ρ H Q
abbrev oh(X:Cx) (e:Expr) (g:Gd):Prop:=PG X e (wZ X.K g)
abbrev Al(X:Cx) (es:List Expr) (g:List D->Ev->aa->R Ev):Prop:=nZ X es (Rq X.K g)
def az(i:Nat):Gd:=λx e c=>.ok (e.set i (some x)) c
def e9:List D->Ev->aa->R Ev:=λxs e c=>match xs with
 |[]=>.ok e c
 |_=>.bad
def cu(g:Gd) (r:List D->Ev->aa->R Ev):List D->Ev->aa->R Ev:=λxs e c=>match xs with
 |x::xs=>(g x e c).bind λe c=>r xs e c
 |_=>.bad
def eW(n:Nat) (g:List D->Ev->aa->R Ev):Gd:=λx e c=>match x with
 |.tup l=>if l.length=n then g l e c else .bad
 |_=>.bad
theorem PG.imp{X:Cx}{e:Expr}{t t':TG}(h:PG X e t) (i:∀v σ H Q,t' v σ H Q->t v σ H Q):PG X e t':=λpins s σ H x u Q I r q=>h pins s σ H x u Q I r (i _ _ _ _ q)
theorem nZ.imp{X:Cx}{es:List Expr}{t t':mG}(h:nZ X es t) (i:∀v σ H Q,t' v σ H Q->t v σ H Q):nZ X es t':=λpins s σ H x u Q I r q=>h pins s σ H x u Q I r (i _ _ _ _ q)
section
variable {X:Cx}{pos:Pos}
theorem bw{i:Nat}{x:Str}(hN:X.N.Nodup:=by decide +kernel) (hi:X.N[i]? = some x:=by rfl) (hx:Loc X.env.scope x:=by first|exact Or.inl rfl|exact Or.inr rfl) (hf:X.fn x=true\/X.env.scope.names.lookup x=some .local:=by first|exact .inl rfl|exact .inr rfl):oh X (.Name x pos) (az i) :=
 (WD hN hi hx hf).imp λv σ H Q h=>by
  obtain⟨ρ,x,e,c,W,V,r,p⟩:=h
  exact p.here W (V.set r i)
theorem sI:Al X [] e9:=Wz.imp λv σ H Q h=>by
 obtain⟨ρ,xs,e,c,W,V,r,p⟩:=h
 cases xs with
 |nil=>exact⟨r,p.here W V⟩
 |cons x xs=>exact p.elim
theorem i8{e:Expr}{es:List Expr}{g:Gd}{u:List D->Ev->aa->R Ev}(h1:oh X e g) (h2:Al X es u) (hs:(assignEach (e::es) X.env).map (·.2)=assign e X.env::(assignEach es X.env).map (·.2):=by rfl):Al X (e::es) (cu g u) :=
 (WA h1 h2 hs).imp λv σ H Q h=>by
  obtain⟨ρ,xs,e,c,W,V,r,p⟩:=h
  cases xs with
  |nil=>exact p.elim
  |cons x xs =>
   obtain⟨y,ys,rfl,rx,rs⟩:=r
   exact⟨y,ys,rfl,ρ,x,e,c,W,V,rx,post.bind p λe1 c1 aK H1 σ1 _ W1 X1 V1 p1=>⟨aK,xs,e1,c1,W1,V1,aJ.mono W X1 _ _ rs,p1⟩⟩
theorem sJ{es:List Expr}{k:Nat}{g:List D->Ev->aa->R Ev}{n:Nat}(h:Al X es g) (hc:X.calm=true:=by rfl) (hn:(assignEach es X.env).length=n:=by rfl) (hst:(assignEach es X.env).findIdx? (·.1)=none:=by rfl):oh X (.Tuple es k pos) (eW n g) :=
 (WB hc h hn hst).imp λv σ H Q h=>by
  obtain⟨ρ,x,e,c,W,V,r,p⟩:=h
  cases x with
  |tup l =>
   obtain⟨a,xs,rfl,s,rs⟩:=r
   unfold eW at p
   dsimp only at p
   split at p
   ·rename_i hl
    exact⟨a,xs,rfl,cI.of s,rs.length.trans hl,ρ,l,e,c,W,V,rs,p⟩
   ·exact p.elim
  |_=>exact p.elim
def iy(a:af) (g:Gd):ah:=λe c=>(a e c).bind λx c=>(g x e c).bind λe c=>.ok (.nx e) c
theorem uw{tg e:Expr}{da:af}{g:Gd}(he:bf X e da) (hg:oh X tg g) (hs:swapsWithSole [tg] e pos.line X.env=pure false:=by rfl) (hw:swappedStores [tg] e X.env=pure none:=by rfl)
  (h1:(assignEach [tg] X.env).map (·.2)=[assign tg X.env]:=by rfl):jD X (.Assign [tg] e pos) (iy da g):=(Vh he hg hs hw h1).imp λZ σ H h=>by
 obtain⟨ρ,e,c,W,V,p⟩:=h
 refine⟨ρ,e,c,W,V,post.bind p λx c1 aK H1 v _ W1 X1 r1 p1=>⟨aK,x,e,c1,W1,V.mono W X1,r1,post.bind p1 λe2 c2 cX H2 σ2 _ W2 X2 V2 p2=>p2.here W2 ⟨σ2,rfl,V2⟩⟩⟩
def kE:D->D->D->aa->R Unit:=λo i v c=>match o,i with
 |.ref k,.int i=>match c[k]? with
  |some (.lst l)=>match fV l.length i with
   |some j=>if noRef v=true then .ok () (c.set k (.lst (l.set j v)))else .bad
   |none=>.bad
  |none=>.bad
 |_,_=>.bad
def k8(o i:af):Gd:=λx e c=>(o e c).bind λo c=>(i e c).bind λi c=>(kE o i x c).bind λ_ c=>.ok e c
theorem yQ{o i:Expr}{dO di:af}(ho:bf X o dO) (hi:bf X i di)
  (ha:∀v,assign (.Subscript o i pos) X.env v=(do
   let ov <-holding [v] (eval o X.env)
   let iv <-holding [v,ov] (eval i X.env)
   standAt pos
   holding [v,ov,iv] (setItem ov iv v)
   release [v,ov,iv] []):=by intro _;rfl):oh X (.Subscript o i pos) (k8 dO di):=(WC ho hi set_list ha).imp λv σ H Q h=>by
 obtain⟨ρ,x,e,c,W,V,rx,p⟩:=h
 refine⟨ρ,e,c,W,V,post.bind p λo c1 aK H1 ov _ W1 X1 r1 p1=>⟨aK,e,c1,W1,V.mono W X1,post.bind p1 λi c2 cX H2 iv _ W2 X2 r2 p2=>?_⟩⟩
 have V2:=(V.mono W X1).mono W1 X2
 have T8:=Rel.mono W (X1.trans X2) _ _ rx
 have ro:=Rel.mono W1 X2 _ _ r1
 unfold kE at p2
 split at p2
 ·rename_i k i _ _
  split at p2
  ·rename_i l hl
   split at p2
   ·rename_i j hj
    split at p2
    ·rename_i hv
     obtain⟨a,rfl,ha⟩:=ro
     cases r2
     obtain⟨nr,ys,hy,rl⟩:=W2.fM k a _ ha hl
     refine⟨a,ys,i,j,rfl,rfl,hy,by rw[rl.length];exact hj,?_⟩
     exact p2 cX _ σ (W2.write ha (Kg nr hv) (rl.set j T8)) (Ext.write ha) (V2.mono W2 (Ext.write ha))
    ·exact p2.elim
   ·exact p2.elim
  ·exact p2.elim
 ·exact p2.elim
end
structure Src where
 items:List D
 stays:aa->Prop
def JS(K:PySem.W.Frag) (ρ:List Addr) (H:Hp) (s:Src) (J:It):Prop :=
 ∀ρ' H' c',Wd K ρ' H' c'->Ext ρ H ρ' H'->s.stays c'->∀i:Nat,
  (∀d,s.items[i]? = some d->J.go i H'/\∀x H2,J.t7 i H' x H2->Wd K ρ' H2 c'/\Ext ρ' H' ρ' H2/\Rel K ρ' H2 d x)/\(i=s.items.length->J.stop i H')
def Ip(K:PySem.W.Frag) (d:Ev->aa->R Src):TI:=tD K (JS K) d
abbrev PId(X:Cx) (tg iter:Expr) (d:Ev->aa->R Src):Prop:=PI X tg iter (Ip X.K d)
theorem PI.imp{X:Cx}{tg iter:Expr}{t t':TI}(h:PI X tg iter t) (i:∀σ H Q,t' σ H Q->t σ H Q):PI X tg iter t':=λpins s σ H Q I q=>h pins s σ H Q I (i _ _ _ q)
def cD(a:af):Ev->aa->R Src:=λe c=>(a e c).bind λx c=>match x with
 |.lst l=>.ok ⟨l,λ_=>True⟩ c
 |.cF l=>.ok ⟨l.map D.int,λ_=>True⟩ c
 |.ref k=>match c[k]? with
  |some (.lst l)=>.ok ⟨l,λc=>c[k]? = some (.lst l)⟩ c
  |none=>.bad
 |_=>.bad
def dS(a:af):Ev->aa->R Src:=λe c=>(a e c).bind λx c=>match x with
 |.tup l=>.ok ⟨l,λ_=>True⟩ c
 |_=>.bad
def aT(lo hi:Int):List D:=(List.range (hi-lo).toNat).map fun(i:Nat)=>D.int (lo+(i:Int))
def aY(a:aj):Ev->aa->R Src:=λe c=>(a e c).bind λxs c=>match xs with
 |[.int j]=>if -(2^62)<=j/\j<2^62 then .ok ⟨aT 0 j,λ_=>True⟩ c else .bad
 |_=>.bad
def je(a:aj):Ev->aa->R Src:=λe c=>(a e c).bind λxs c=>match xs with
 |[.int i,.int j]=>if -(2^62)<=i/\i<2^62/\-(2^62)<=j/\j<2^62 then .ok ⟨aT i j,λ_=>True⟩ c else .bad
 |_=>.bad
section
variable {X:Cx}{tg:Expr}{K:PySem.W.Frag}{ρ:List Addr}{H:Hp}
theorem DM{l:List D}{a:Addr}{st:aa->Prop}(h:∀ρ' H' c',Wd K ρ' H' c'->Ext ρ H ρ' H'->st c'->∃xs,bH K H' a xs/\aJ K ρ' H' l xs):JS K ρ H ⟨l,st⟩ (Hi K a):=by
 intro ρ' H' c' W E s i
 obtain⟨xs,q,r⟩:=h ρ' H' c' W E s
 refine⟨λd hd=>?_,λe=>⟨xs,q,by rw[r.length];exact aml e.symm⟩⟩
 obtain⟨x,hx,rx⟩:=r.get hd
 refine⟨⟨xs,x,q,hx⟩,λy H2 hy=>?_⟩
 obtain⟨rfl,hy⟩:=hy
 have:=hy xs q
 rw[hx]at this;cases this
 exact⟨W,Ext.refl,rx⟩
theorem acL{l:List D}{a:Addr}{st:aa->Prop}(h:∀ρ' H' c',Wd K ρ' H' c'->Ext ρ H ρ' H'->st c'->∃xs,cI K H' a xs/\aJ K ρ' H' l xs):JS K ρ H ⟨l,st⟩ (Hh K a):=by
 intro ρ' H' c' W E s i
 obtain⟨xs,q,r⟩:=h ρ' H' c' W E s
 refine⟨λd hd=>?_,λe=>⟨xs,q,by rw[r.length];exact aml e.symm⟩⟩
 obtain⟨x,hx,rx⟩:=r.get hd
 refine⟨⟨xs,x,q,hx⟩,λy H2 hy=>?_⟩
 obtain⟨rfl,hy⟩:=hy
 have:=hy xs q
 rw[hx]at this;cases this
 exact⟨W,Ext.refl,rx⟩
theorem xD{lo hi:Int}{i:Nat}{d:D}(h:(aT lo hi)[i]? = some d):i<(hi-lo).toNat/\d=.int (lo+i):=by
 unfold aT at h
 rw[ale]at h
 cases q:(List.range (hi-lo).toNat)[i]? with
 |none=>rw[q]at h;cases h
 |some j =>
  rw[q]at h
  have h1:=(ala.mp q)
  obtain⟨h2,h3⟩:=h1
  rw[anc]at h3
  subst h3
  cases h
  exact⟨by simpa using h2,rfl⟩
theorem K9{lo hi:Int}{st:aa->Prop}:JS K ρ H ⟨aT lo hi,st⟩ (wD lo (hi-lo).toNat):=by
 intro ρ' H' c' W E s i
 refine⟨λd hd=>?_,λe=>?_⟩
 ·obtain⟨h1,rfl⟩:=xD hd
  refine⟨h1,λx H2 hy=>?_⟩
  obtain⟨rfl,rfl⟩:=hy
  exact⟨W,Ext.refl,rfl⟩
 ·have:(aT lo hi).length=(hi-lo).toNat:=by simp[aT]
  show(hi-lo).toNat<=i
  rw[e]
  exact aml this.symm
theorem iZ{l:Expr}{dl:af}(hl:bf X l dl):PId X tg l (cD dl):=(Wx hl).imp λσ H Q h=>by
 obtain⟨ρ,e,c,W,V,p⟩:=h
 refine⟨ρ,e,c,W,V,post.bind p λx c1 aK H1 v _ W1 X1 r1 p1=>?_⟩
 cases x with
 |lst l =>
  obtain⟨a,xs,rfl,s,rs⟩:=r1
  exact⟨a,rfl,⟨xs,bH.of s.1⟩,p1.here W1 (DM λρ' H' c' W' E _=>⟨xs,bH.of (B8 E s).1,aJ.mono W1 E _ _ rs⟩)⟩
 |cF l =>
  obtain⟨a,rfl,s⟩:=r1
  exact⟨a,rfl,⟨_,s.sql⟩,p1.here W1 (DM λρ' H' c' W' E _=>⟨_,(IJ E s).sql,aJ.ints⟩)⟩
 |ref k =>
  obtain⟨a,rfl,ha⟩:=r1
  dsimp only at p1
  split at p1
  ·rename_i l hl
   obtain⟨_,xs,hx,rs⟩:=W1.fM k a _ ha hl
   refine⟨a,rfl,⟨xs,bH.of hx⟩,p1.here W1 (DM λρ' H' c' W' E st=>?_)⟩
   obtain⟨_,ys,hy,rs'⟩:=W'.fM k a _ (E.pre k a ha) st
   exact⟨ys,bH.of hy,rs'⟩
  ·exact p1.elim
 |_=>exact p1.elim
theorem sA{l:Expr}{dl:af}(hl:bf X l dl):PId X tg l (dS dl):=(Wt hl).imp λσ H Q h=>by
 obtain⟨ρ,e,c,W,V,p⟩:=h
 refine⟨ρ,e,c,W,V,post.bind p λx c1 aK H1 v _ W1 X1 r1 p1=>?_⟩
 cases x with
 |tup l =>
  obtain⟨a,xs,rfl,s,rs⟩:=r1
  exact⟨a,rfl,⟨xs,cI.of s⟩,p1.here W1 (acL λρ' H' c' W' E _=>⟨xs,cI.of (wV W1 E s),aJ.mono W1 E _ _ rs⟩)⟩
 |_=>exact p1.elim
theorem cZ{a:Expr}{da:aj}{p pos:Pos}(ha:fh X [a] da) (hm:X.mg "range"=none) (hg:Gl X "range":=by rfl) (hs:starEach [a] X.env=[(false,eval a X.env)]:=by exact qv rfl):PId X tg (.Call (.Name "range" p) [a] [] pos) (aY da) :=
 (Ww hg hm ha hs).imp λσ H Q h=>by
  obtain⟨ρ,e,c,W,V,p⟩:=h
  refine⟨ρ,e,c,W,V,post.bind p λx c1 aK H1 v _ W1 X1 r1 p1=>?_⟩
  split at p1
  ·rename_i j _
   split at p1
   ·rename_i hj
    obtain⟨y,ys,rfl,ry,rs⟩:=r1
    cases ry;cases rs
    refine⟨j,rfl,hj.1,hj.2,p1.here W1 ?_⟩
    have:=K9 (K:=X.K) (ρ:=aK) (H:=H1) (lo:=0) (hi:=j) (st:=λ_=>True)
    rw[Int.sub_zero]at this
    exact this
   ·exact p1.elim
  ·exact p1.elim
theorem DS{a b:Expr}{da:aj}{p pos:Pos}(ha:fh X [a,b] da) (hm:X.mg "range"=none) (hg:Gl X "range":=by rfl) (hs:starEach [a,b] X.env=[(false,eval a X.env),(false,eval b X.env)]:=by exact IG rfl rfl) (hs2:starEach [b] X.env=[(false,eval b X.env)]:=by exact qv rfl):PId X tg (.Call (.Name "range" p) [a,b] [] pos) (je da) :=
 (Wv hg hm ha hs hs2).imp λσ H Q h=>by
  obtain⟨ρ,e,c,W,V,p⟩:=h
  refine⟨ρ,e,c,W,V,post.bind p λx c1 aK H1 v _ W1 X1 r1 p1=>?_⟩
  split at p1
  ·rename_i i j _
   split at p1
   ·rename_i hj
    obtain⟨y,ys,rfl,ry,z,zs,rfl,rz,rs⟩:=r1
    cases ry;cases rz;cases rs
    exact⟨i,j,rfl,hj,p1.here W1 K9⟩
   ·exact p1.elim
  ·exact p1.elim
theorem acK{l m:List D}{a b:Addr}{st:aa->Prop}(h:∀ρ' H' c',Wd K ρ' H' c'->Ext ρ H ρ' H'->st c'->∃xs ys,cI K H' a xs/\cI K H' b ys/\aJ K ρ' H' l xs/\aJ K ρ' H' m ys):JS K ρ H ⟨List.zipWith (λx y=>.tup [x,y]) l m,st⟩ (An (cI K) a b):=by
 intro ρ' H' c' W E s i
 obtain⟨xs,ys,q1,q2,r1,r2⟩:=h ρ' H' c' W E s
 refine⟨λd hd=>?_,λe=>⟨xs,ys,q1,q2,?_⟩⟩
 ·have hd:(List.zipWith (λx y=>D.tup [x,y]) l m)[i]? = some d:=hd
  rw[ao9]at hd
  cases e1:l[i]? with
  |none=>rw[e1]at hd;cases hd
  |some x =>
   cases e2:m[i]? with
   |none=>rw[e1,e2]at hd;cases hd
   |some y =>
    rw[e1,e2]at hd
    cases hd
    obtain⟨v,hv,rv⟩:=r1.get e1
    obtain⟨u,hu,ru⟩:=r2.get e2
    refine⟨⟨xs,ys,v,u,q1,q2,hv,hu⟩,λz H2 hz=>?_⟩
    obtain⟨t,v',u',rfl,ht,rfl,hz⟩:=hz
    obtain⟨z1,z2⟩:=hz xs ys q1 q2
    rw[hv]at z1;rw[hu]at z2
    cases z1;cases z2
    exact⟨W.fresh ht,Ext.fresh W ht,t,[v,u],rfl,fD,v,[u],rfl,Rel.mono W (Ext.fresh W ht) _ _ rv,u,[],rfl,Rel.mono W (Ext.fresh W ht) _ _ ru,rfl⟩
 ·have e:i=(List.zipWith (λx y=>D.tup [x,y]) l m).length:=e
  rw[apa]at e
  rw[r1.length,r2.length]
  omega
open Classical in
def dg(st:aa->Prop) (g:Gd) (b:ah):List D->ah
 |[],e,c=>if st c then .ok (.nx e) c else .bad
 |x::xs,e,c=>if st c then(g x e c).bind λe c=>(b e c).bind λf c=>match f with
   |.nx e=>dg st g b xs e c
   |.ct e=>dg st g b xs e c
   |.bk e=>.ok (.nx e) c
   |.rt d=>.ok (.rt d) c
  else .bad
def bY(s:Ev->aa->R Src) (g:Gd) (b:ah):ah:=λe c=>(s e c).bind λs c=>dg s.stays g b s.items e c
theorem e7{iter:Expr}{body:List Stmt}{ds:Ev->aa->R Src}{g:Gd}{db:ah}{pos:Pos}(hi:PId X tg iter ds) (hg:oh X tg g) (hb:bV X body db) (hp:PassesOwn (model X.prog X.w) X.A X.env X.xe:=by exact PassesOwn.never) (hc:X.calm=true:=by rfl)
  (hs:∀x,foldedSetIterable iter X.env x=pure x:=by intro _;rfl):jD X (.For tg iter body [] pos) (bY ds g db):=(Vf hp hc hi hg hb hs).imp λZ σ H h=>by
 obtain⟨ρ,e,c,W,V,p⟩:=h
 refine⟨ρ,e,c,W,V,post.bind p λs c1 aK H1 J _ W1 X1 j1 p1=>?_⟩
 refine⟨λi m σ H=>∃ρ e c,Wd X.K ρ H c/\Ext aK H1 ρ H/\dz X.K ρ H e σ/\i<=s.items.length/\m=s.items.length-i/\post X.K (iK X.K) (dg s.stays g db (s.items.drop i) e c) ρ H (En Z),
  ⟨_,aK,e,c1,W1,Ext.refl,V.mono W X1,alW _,rfl,p1⟩,?_⟩
 rintro i m σ2 H2 ⟨cX,e2,c2,W2,X2,V2,hi2,rfl,p2⟩
 by_cases hl:i<s.items.length
 ·rw[anG hl]at p2
  unfold dg at p2
  split at p2
  ·rename_i hst
   obtain⟨go,yl⟩:=(j1 cX H2 c2 W2 X2 hst i).1 _ (ak3 hl)
   refine .inr ⟨go,λσ' H'=>∃ρ e c,Wd X.K ρ H' c/\Ext aK H1 ρ H'/\dz X.K ρ H' e σ'/\i+1<=s.items.length/\post X.K (iK X.K) (dg s.stays g db (s.items.drop (i+1)) e c) ρ H' (En Z),?_,λx H3 hy=>?_⟩
   ·rintro σ' H' ⟨ρ,e,c,w,x,v,l,q⟩
    exact⟨s.items.length-(i+1),by omega,ρ,e,c,w,x,v,l,rfl,q⟩
   ·obtain⟨W3,X3,r3⟩:=yl x H3 hy
    refine⟨cX,_,e2,c2,W3,V2.mono W2 X3,r3,post.bind (post.ext p2 X3) λe4 c4 om H4 Pj _ W4 X4 V4 p4=>?_⟩
    refine⟨om,e4,c4,W4,V4,post.bind p4 λf c5 iN H5 b _ W5 X5 r5 p5=>?_⟩
    have wk:=((X2.trans X3).trans X4).trans X5
    cases f with
    |nx e1=>obtain⟨σ1,rfl,V1⟩:=r5;exact⟨iN,e1,c5,W5,wk,V1,hl,p5⟩
    |ct e1=>obtain⟨σ1,rfl,V1⟩:=r5;exact⟨iN,e1,c5,W5,wk,V1,hl,p5⟩
    |bk e1=>obtain⟨σ1,rfl,V1⟩:=r5;exact post.here (Q:=En Z) (show post X.K (iK X.K) (.ok (Fl.nx e1) c5) iN H5 (En Z)from p5) W5 ⟨_,rfl,V1⟩
    |rt d=>obtain⟨v,rfl,V1⟩:=r5;exact post.here (Q:=En Z) (show post X.K (iK X.K) (.ok (Fl.rt d) c5) iN H5 (En Z)from p5) W5 ⟨_,rfl,V1⟩
  ·exact p2.elim
 ·obtain rfl:i=s.items.length:=by omega
  rw[apb (akV _)]at p2
  unfold dg at p2
  split at p2
  ·rename_i hst
   exact .inl ⟨(j1 cX H2 c2 W2 X2 hst _).2 rfl,post.here (Q:=En Z) p2 W2 ⟨σ2,rfl,V2⟩⟩
  ·exact p2.elim
def gk(t:ai) (b:ah):Nat->ah
 |0,_,_=>.bad
 |n+1,e,c=>(t e c).bind λk c=>if k=true then(b e c).bind λf c=>match f with
   |.nx e=>gk t b n e c
   |.ct e=>gk t b n e c
   |.bk e=>.ok (.nx e) c
   |.rt d=>.ok (.rt d) c
  else .ok (.nx e) c
theorem IW{n:Nat}{c':Expr}{body:List Stmt}{dt:ai}{db:ah}{pos:Pos}(ht:iL X c' dt) (hb:bV X body db) (hp:PassesOwn (model X.prog X.w) X.A X.env X.xe:=by exact PassesOwn.never):jD X (.While c' body [] pos) (gk dt db n):=(Va hp ht hb).imp λZ σ H h=>by
 obtain⟨ρ,e,c,W,V,p⟩:=h
 refine⟨λm σ H=>∃ρ e c,Wd X.K ρ H c/\dz X.K ρ H e σ/\post X.K (iK X.K) (gk dt db m e c) ρ H (En Z),⟨n,ρ,e,c,W,V,p⟩,?_⟩
 rintro m σ2 H2 ⟨cX,e2,c2,W2,V2,p2⟩
 cases m with
 |zero=>exact p2.elim
 |succ m =>
  unfold gk at p2
  refine⟨cX,e2,c2,W2,V2,post.bind p2 λk c3 oq H3 b _ W3 X3 r3 p3=>?_⟩
  cases r3
  cases k with
  |true =>
   refine kX ⟨λσ H=>∃ρ e c,Wd X.K ρ H c/\dz X.K ρ H e σ/\post X.K (iK X.K) (gk dt db m e c) ρ H (En Z),λσ' H' q=>⟨m,al2 _,q⟩,?_⟩
   refine⟨oq,e2,c3,W3,V2.mono W2 X3,post.bind p3 λf c5 iN H5 b _ W5 X5 r5 p5=>?_⟩
   cases f with
   |nx e1=>obtain⟨σ1,rfl,V1⟩:=r5;exact⟨iN,e1,c5,W5,V1,p5⟩
   |ct e1=>obtain⟨σ1,rfl,V1⟩:=r5;exact⟨iN,e1,c5,W5,V1,p5⟩
   |bk e1=>obtain⟨σ1,rfl,V1⟩:=r5;exact post.here (Q:=En Z) (show post X.K (iK X.K) (.ok (Fl.nx e1) c5) iN H5 (En Z)from p5) W5 ⟨_,rfl,V1⟩
   |rt d=>obtain⟨v,rfl,V1⟩:=r5;exact post.here (Q:=En Z) (show post X.K (iK X.K) (.ok (Fl.rt d) c5) iN H5 (En Z)from p5) W5 ⟨_,rfl,V1⟩
  |false=>exact kY (post.here (Q:=En Z) (show post X.K (iK X.K) (.ok (Fl.nx e2) c3) oq H3 (En Z)from p3) W3 ⟨_,rfl,V2.mono W2 X3⟩)
end
def cK(pick:List (Option Nat)) (e:Ev):Ev:=pick.map λo=>o.bind λj=>(e[j]?).bind id
open Classical in
def bA(st:aa->Prop) (g:Gd) (t:ai) (el:af):List D->Ev->List D->aa->R (List D)
 |[],e,acc,c=>if st c then .ok acc c else .bad
 |x::xs,e,acc,c=>if st c then(g x e c).bind λe c=>(t e c).bind λk c=>if k=true then(el e c).bind λy c=>bA st g t el xs e (acc++[y]) c else bA st g t el xs e acc c else .bad
def aR(s:Ev->aa->R Src) (pick:List (Option Nat)) (g:Gd) (t:ai) (el:af):af:=λe c=>(s e c).bind λs c =>
 if s.items.length<sizeLine then(bA s.stays g t el s.items (cK pick e) [] c).bind λl c=>.ok (.lst l) c else .bad
def aH:ai:=λ_ c=>.ok true c
abbrev Ak(X:Cx) (ifs:List Expr) (t:ai):Prop:=qi X ifs (tD X.K (λ_ _ a b=>a=b) t)
section
variable {X:Cx}{N':List Str}{pick:List (Option Nat)}{scope:Scope}{tg elt iter:Expr}{ifs:List Expr}{pos:Pos}{ds:Ev->aa->R Src}{g:Gd}{dt:ai}{de:af}
theorem cS:Ak X [] aH:=λpins s σ H Q I h=>by
 obtain⟨ρ,e,c,W,V,p⟩:=h
 exact Wq pins s σ H Q I (post.here (b:=true) p W rfl)
theorem Jy{c':Expr}(h:iL X c' dt):Ak X [c'] dt:=Wo h
theorem dz.picked{K:PySem.W.Frag}{ρ:List Addr}{H:Hp}{e:Ev}{σ:St}(V:dz K ρ H e σ):dz K ρ H (cK pick e) (kC pick σ):=by
 refine⟨λi d h=>?_,by simp[cK,kC]⟩
 unfold cK at h
 unfold kC
 rw[ale]at h ⊢
 cases q:pick[i]? with
 |none=>rw[q]at h;cases h
 |some o =>
  rw[q]at h
  cases o with
  |none=>cases h
  |some j =>
   have h':(e[j]?).bind id=some d:=alh h
   cases q2:e[j]? with
   |none=>rw[q2]at h';cases h'
   |some z =>
    rw[q2]at h'
    have h'':z=some d:=h'
    subst h''
    obtain⟨v,hv,r⟩:=V.get j d q2
    exact⟨v,by simp[hv],r⟩
theorem ag7{K:PySem.W.Frag}{aK:List Addr}{H1:Hp}{c1:aa}{e:Ev}{σ:St}{s:Src}{J:It}{Q:VK}(W1:Wd K aK H1 c1) (V1:dz K aK H1 e σ) (j1:JS K aK H1 s J) (hn:s.items.length<sizeLine)
  (p1:post K (Rel K) ((bA s.stays g dt de s.items e [] c1).bind λl c=>.ok (.lst l) c) aK H1 Q):Pe J (wZ K g) (tD K (λ_ _ a b=>a=b) dt) (tD K (Rel K) de) Q σ H1:=by
 refine⟨λi m σ ys H=>∃ρ e acc c,Wd K ρ H c/\Ext aK H1 ρ H/\dz K ρ H e σ/\aJ K ρ H acc ys/\acc.length<=i/\i<=s.items.length/\m=s.items.length-i/\post K (Rel K) ((bA s.stays g dt de (s.items.drop i) e acc c).bind λl c=>.ok (.lst l) c) ρ H Q,
  ⟨_,aK,e,[],c1,W1,Ext.refl,V1,rfl,akV _,alW _,rfl,p1⟩,?_⟩
 rintro i m σ2 ys H2 ⟨cX,e2,acc,c2,W2,X2,V2,r2,ha,hi2,rfl,p2⟩
 refine⟨by rw[r2.length];omega,?_⟩
 by_cases hl:i<s.items.length
 ·rw[anG hl]at p2
  unfold bA at p2
  split at p2
  ·rename_i hst
   obtain⟨go,yl⟩:=(j1 cX H2 c2 W2 X2 hst i).1 _ (ak3 hl)
   refine .inr ⟨go,λσ' ys' H'=>∃ρ e acc c,Wd K ρ H' c/\Ext aK H1 ρ H'/\dz K ρ H' e σ'/\aJ K ρ H' acc ys'/\acc.length<=i+1/\i+1<=s.items.length/\post K (Rel K) ((bA s.stays g dt de (s.items.drop (i+1)) e acc c).bind λl c=>.ok (.lst l) c) ρ H' Q,?_,λx H3 hy=>?_⟩
   ·rintro σ' ys' H' ⟨ρ,e,acc,c,w,x,v,r,a,l,q⟩
    exact⟨s.items.length-(i+1),by omega,ρ,e,acc,c,w,x,v,r,a,l,rfl,q⟩
   ·obtain⟨W3,X3,r3⟩:=yl x H3 hy
    have assoc:∀{α β γ:Type}(r:R α) (f:α->aa->R β) (g:β->aa->R γ),(r.bind f).bind g=r.bind λa c=>(f a c).bind g:=λr f g=>by cases r<;>rfl
    rw[assoc]at p2
    refine⟨cX,_,e2,c2,W3,V2.mono W2 X3,r3,post.bind (post.ext p2 X3) λe4 c4 om H4 Pj _ W4 X4 V4 p4=>?_⟩
    rw[assoc]at p4
    refine⟨om,e4,c4,W4,V4,post.bind p4 λk c5 iN H5 b _ W5 X5 r5 p5=>?_⟩
    cases r5
    have wk:=((X2.trans X3).trans X4).trans X5
    have Jq:=aJ.mono W2 ((X3.trans X4).trans X5) _ _ r2
    cases k with
    |true =>
     refine kX ?_
     rw[if_pos rfl,assoc]at p5
     refine⟨iN,e4,c5,W5,V4.mono W4 X5,post.bind p5 λy c6 Pk H6 v _ W6 X6 r6 p6=>?_⟩
     refine⟨Pk,e4,acc++[y],c6,W6,wk.trans X6,(V4.mono W4 X5).mono W5 X6,(aJ.mono W5 X6 _ _ Jq).append ⟨v,[],rfl,r6,rfl⟩,by simp;exact ha,hl,p6⟩
    |false =>
     refine kY ?_
     rw[if_neg ali]at p5
     exact⟨iN,e4,acc,c5,W5,wk,V4.mono W4 X5,Jq,Nat.le_succ_of_le ha,hl,p5⟩
  ·exact p2.elim
 ·obtain rfl:i=s.items.length:=by omega
  rw[apb (akV _)]at p2
  unfold bA at p2
  split at p2
  ·rename_i hst
   exact .inl ⟨(j1 cX H2 c2 W2 X2 hst _).2 rfl,oO W2 r2 p2⟩
  ·exact p2.elim
theorem MX{σ:St}{H:Hp}{Q:VK}{K:PySem.W.Frag}(h:tD K (Rel K) (aR ds pick g dt de) σ H Q):AY (Ip K ds) pick (wZ K g) (tD K (λ_ _ a b=>a=b) dt) (tD K (Rel K) de) σ H Q:=by
 obtain⟨ρ,e,c,W,V,p⟩:=h
 refine⟨ρ,e,c,W,V,post.bind p λs c1 aK H1 J _ W1 X1 j1 p1=>?_⟩
 split at p1
 ·rename_i hn
  exact ag7 W1 (V.mono W X1).picked j1 hn p1
 ·exact p1.elim
theorem cP(S:bZ X N' pick scope) (hit:PId X tg iter ds)
  (hg:∀cl C s₀ H₀ ex pn,oh (fL X N' scope cl C s₀ H₀ ex pn) tg g) (hi:∀cl C s₀ H₀ ex pn,Ak (fL X N' scope cl C s₀ H₀ ex pn) ifs dt) (he:∀cl C s₀ H₀ ex pn,bf (fL X N' scope cl C s₀ H₀ ex pn) elt de)
  (hc:X.calm=true:=by rfl) (hs:∀x,foldedSetIterable iter X.env x=pure x:=by intro _;rfl) :
  bf X (.ListComp elt [⟨tg,iter,ifs,0⟩] scope pos) (aR ds pick g dt de):=(WV S hc hit hg hi he hs).imp λσ H Q h=>MX h
theorem Tt{i:Nat}{y:Str}{py spos:Pos}(S:bZ X N' pick scope) (hit:PId X tg iter ds)
  (hg:∀cl C s₀ H₀ ex pn,oh (fL X N' scope cl C s₀ H₀ ex pn) tg g) (hi:∀cl C s₀ H₀ ex pn,Ak (fL X N' scope cl C s₀ H₀ ex pn) ifs dt) (he:∀cl C s₀ H₀ ex pn,bf (fL X N' scope cl C s₀ H₀ ex pn) elt de)
  (hsw:swapsWith (.ListComp elt [⟨tg,iter,ifs,0⟩] scope pos) (some (.Name y py)) spos.line X.env=pure true:=by rfl) (hN:X.N.Nodup:=by decide +kernel) (hy:X.N[i]? = some y:=by rfl) (hl:X.env.scope.names.lookup y=some .local:=by rfl)
  (hc:X.calm=true:=by rfl) (hs:∀x,foldedSetIterable iter X.env x=pure x:=by intro _;rfl) :
  jD X (.Assign [.Name y py] (.ListComp elt [⟨tg,iter,ifs,0⟩] scope pos) spos) (aF i (aR ds pick g dt de)):=(Vb (g:=wZ X.K g) (tt:=tD X.K (λ_ _ a b=>a=b) dt) (te:=tD X.K (Rel X.K) de) hsw hN hy hl S hc hit hg hi he hs).imp λZ σ H h=>by
 refine MX (g:=g) (dt:=dt) (de:=de) ?_
 obtain⟨ρ,e,c,W,V,p⟩:=h
 refine⟨ρ,e,c,W,V,post.bind p λx c1 aK H1 v _ W1 X1 r1 p1=>p1.here W1 ⟨_,rfl,(V.mono W X1).set r1 i⟩⟩
end
def bM(K:PySem.W.Frag) (n:Nat) (m:List D->aa->R D):Sp:=λvs H Q _=>∃ρ xs c,Wd K ρ H c/\aJ K ρ H xs vs/\xs.length=n/\post K (Rel K) (m xs c) ρ H Q
def aC(n:Nat) (m:List D->aa->R D) (a:aj):af:=λe c=>(a e c).bind λxs c=>if xs.length=n then m xs c else .bad
def cO(n:Nat) (xs:List D):Ev:=xs.map some++List.replicate (n-xs.length) none
def dM(own:Bool) (n:Nat) (v:D) (c:aa):R D:=match v with
 |.ref k=>match c[k]? with
  |some (.lst l)=>if n<=k then(if own=true then .ok (.ref n) (c.take n++[.lst l])else .ok (.lst l) (c.take n))else .bad
  |none=>.bad
 |v=>if noRef v=true then .ok v (c.take n)else .bad
def bG(n:Nat) (own:Bool) (d:ah):List D->aa->R D:=λxs c=>(d (cO n xs) c).bind λf c'=>match f with
 |.rt v=>dM own c.length v c'
 |.nx _=>dM own c.length .aO c'
 |_=>.bad
section
variable {P:Program}{w:World}{K:PySem.W.Frag}{mg:Str->Option Value}{base:Heap}
theorem zQ{own:Bool}{ρ aK:List Addr}{H H1:Hp}{c c1:aa}{v:D}{x:V}{Q:VK}(W:Wd K ρ H c) (W1:Wd K aK H1 c1) (X1:Ext ρ H aK H1) (r:Rel K aK H1 v x) (p:post K (Rel K) (dM own c.length v c1) ρ H Q):Q x H1:=by
 have hn:=Ext.len W W1 X1
 have Wc:=W1.cut hn
 have Xc:=X1.cut (n:=c.length) (aml W.len)
 unfold dM at p
 split at p
 ·rename_i k
  split at p
  ·rename_i l hl
   split at p
   ·rename_i hk
    obtain⟨a,rfl,ha⟩:=r
    obtain⟨nr,xs,hx,rl⟩:=W1.fM k a _ ha hl
    have na:a∉aK.take c.length:=by
     intro h
     obtain⟨j,hj,e⟩:=amn.mp h
     have hj2:j<c.length:=by simp at hj;omega
     rw[anH]at e
     have hk1:=ala.mp ha
     have hjl:j<aK.length:=by simp at hj;omega
     have:=(ano W1.nd (h₀:=hjl) (h₁:=hk1.1)).mp (e.trans hk1.2.symm)
     omega
    have sub:∀b,b∈aK.take c.length->b∈aK:=λb h=>alx h
    split at p
    ·have lr:(aK.take c.length).length=c.length:=by simp[W1.len];omega
     refine p (aK.take c.length++[a]) H1 (.ref a) ?_ ?_ ⟨a,rfl,?_⟩
     ·refine⟨?_,by simp[W1.len],λj b cl e1 e2=>?_,W1.tab⟩
      ·rw[amO]
       refine⟨Wc.nd,by simp,?_⟩
       intro y hy z hz
       rw[alP]at hz
       subst hz
       exact λq=>na (q▸hy)
      ·by_cases hj:j<c.length
       ·rw[alA (by rw[lr];exact hj)]at e1
        rw[alA (by simp;omega)]at e2
        have q:=Wc.fM j b cl e1 e2
        cases cl with
        |lst l' =>
         obtain⟨rY,ys,hy,r'⟩:=q
         refine⟨rY,ys,hy,aJ.low (ρ:=aK) (λz hz=>?_) l' ys rY ?_⟩
         ·rcases alz.mp hz with hz|hz
          ·exact sub z hz
          ·rw[alP]at hz;subst hz;exact alo ha
         ·have Fc:aK[j]? = some b:=by rw[anb,if_pos hj]at e1;exact e1
          have e2':c1[j]? = some (.lst l'):=by rw[anb,if_pos hj]at e2;exact e2
          obtain⟨_,zs,hz,rz⟩:=W1.fM j b _ Fc e2'
          rw[hy]at hz;cases hz
          exact rz
       ·have hj':j=c.length:=by
         have:=(ala.mp e1).1
         rw[als,lr]at this
         simp at this
         omega
        subst hj'
        rw[alL (by rw[lr];exact akV _),lr,amo]at e1
        rw[alL (by simp;omega),show c.length-(List.take c.length c1).length=0 by simp;omega]at e2
        cases e1;cases e2
        refine⟨nr,xs,hx,aJ.low (ρ:=aK) (λz hz=>?_) l xs nr rl⟩
        rcases alz.mp hz with hz|hz
        ·exact sub z hz
        ·rw[alP]at hz;subst hz;exact alo ha
     ·refine⟨λj b e=>?_,λb o e z t=>?_⟩
      ·have q:=Xc.pre j b e
       rw[alA (ala.mp q).1];exact q
      ·obtain⟨h1,h2⟩:=X1.keep b o e z t
       refine⟨h1,λq=>h2 ?_⟩
       rcases alz.mp q with q|q
       ·exact sub b q
       ·rw[alP]at q;subst q;exact alo ha
     ·rw[alL (by rw[lr];exact akV _),lr,amo];rfl
    ·exact p (aK.take c.length) H1 (.ref a) Wc Xc ⟨a,xs,rfl,⟨hx,na⟩,aJ.low sub l xs nr rl⟩
   ·exact p.elim
  ·exact p.elim
 ·split at p
  ·rename_i hv
   exact p _ H1 x Wc Xc (Rel.low (λb h=>alx h) _ _ hv r)
  ·exact p.elim
theorem dz.start{ρ:List Addr}{H:Hp}{xs:List D}{vs:List V}{N:List Str}(r:aJ K ρ H xs vs):dz K ρ H (cO N.length xs) (start N vs):=by
 have hl:=r.length
 refine⟨λi d h=>?_,by simp[cO,L2.start,hl]⟩
 unfold cO at h
 unfold L2.start
 by_cases hi:i<xs.length
 ·rw[alA (by simpa using hi),ale]at h
  cases q:xs[i]? with
  |none=>rw[q]at h;cases h
  |some x =>
   rw[q]at h
   cases h
   obtain⟨v,hv,rv⟩:=r.get q
   exact⟨v,by rw[alA (by simp[hl];exact hi),ale,hv];rfl,rv⟩
 ·rw[alL (by simpa using ao3 hi)]at h
  have:=alo h
  rw[List.mem_replicate]at this
  cases this.2
theorem cC{x qual:Str}{st:Stmt}{f:Addr}{fd:FuncData}{N ps:List Str}{k n m:Nat}{own:Bool}{d:ah}(F:mJ K x qual st f fd) (S:b9 N ps (aQ st)) (hN:N.length=n) (hm:ps.length=m)
  (hb:∀(cdv:Value) (A:Around) (outer:List Env) (s:Shared) (H:Hp) (E:XK),cR k (A.deeper (envOfC qual (aQ st) s.heap.objs.size f cdv))->bV (j5 bB P w K mg base N qual (aQ st) f cdv A outer s H E).kK (bX st) d) :
  bI P w K mg base bB (k+1) f fd ps (bM K m (bG n own d)):=by
 subst hN;subst hm
 refine F.ok S (λvs H Q E h=>?_) (λcdv A outer s H vs Q E hr h=>⟨_,hb cdv A outer s H E hr,?_⟩)
 ·obtain⟨ρ,xs,c,W,r,hl,p⟩:=h
  exact r.length.trans hl
 ·obtain⟨ρ,xs,c,W,r,hl,p⟩:=h
  refine⟨ρ,cO N.length xs,c,W,dz.start r,post.bind p λfl c1 aK H1 b _ W1 X1 r1 p1=>?_⟩
  cases fl with
  |nx e1 =>
   obtain⟨σ1,rfl,V1⟩:=r1
   exact zQ (v:=.aO) (x:=.aO) (H1:=H1) W W1 X1 rfl (by
    unfold bG at p;exact id (α:=post K (Rel K) (dM own c.length .aO c1) ρ H Q) (by
     rename_i he;rw[he]at p;exact p))
  |rt d =>
   obtain⟨v,rfl,V1⟩:=r1
   exact zQ (v:=d) (x:=v) (H1:=H1) W W1 X1 V1 (by
    unfold bG at p;rename_i he;rw[he]at p;exact p)
  |bk e1=>exact p1.elim
  |ct e1=>exact p1.elim
end
section
variable {X:Cx}
theorem bu{x:Str}{st:Stmt}{ps:List Str}{f:Addr}{fd:FuncData}{k n:Nat}{m:List D->aa->R D}{e:Expr}{es:List Expr}{da:aj}{p pos:Pos}(D:Def X.K X.mg x st ps f fd) (G:bI X.prog X.w X.K X.mg X.base bB k f fd ps (bM X.K n m)) (hr:cR k X.A) (ha:fh X (e::es) da) (hg:Gl X x:=by rfl)
  (hdb:(x==("__debug__":Str))=false:=by decide) (he:starEach (e::es) X.env=(false,eval e X.env)::starEach es X.env:=by exact cJ rfl) (hpl:(backTo pos (starEach es X.env)).any (·.1)=false:=by exact fE rfl) :
  bf X (.Call (.Name x p) (e::es) [] pos) (aC n m da):=(WU D G hr ha hg hdb he hpl).imp λσ H Q h=>by
 obtain⟨ρ,e,c,W,V,q⟩:=h
 refine⟨ρ,e,c,W,V,post.bind q λxs c1 aK H1 vs _ W1 X1 r1 p1=>?_⟩
 split at p1
 ·rename_i hl
  exact⟨aK,xs,c1,W1,by rw[al3];exact r1,hl,p1⟩
 ·exact p1.elim
theorem bT{id:String}{x:Str}{p pos:Pos}{e:Expr}{es:List Expr}{da:aj}{f:List D->aa->R D}(hc:dW X (.builtin id) (rN X.K f)) (hm:X.mg x=none) (hv:bootBuiltins x=some (.builtin id)) (ha:fh X (e::es) da) (hg:Gl X x:=by rfl) (hn:x≠"__name__":=by decide) (hdb:(x==("__debug__":Str))=false:=by decide)
  (he:starEach (e::es) X.env=(false,eval e X.env)::starEach es X.env:=by exact cJ rfl) (hpl:(backTo pos (starEach es X.env)).any (·.1)=false:=by exact fE rfl):bf X (.Call (.Name x p) (e::es) [] pos) (aG f da):=(xR hc hg hm hv ha hn hdb he hpl).imp λσ H Q h=>Il h
theorem iB{T:String}{x:Str}{p pos:Pos}{e:Expr}{es:List Expr}{da:aj}{f:List D->aa->R D}(hc:dW X (.type T) (rN X.K f)) (hm:X.mg x=none) (hv:bootBuiltins x=some (.type T)) (ha:fh X (e::es) da) (hg:Gl X x:=by rfl) (hn:x≠"__name__":=by decide) (hdb:(x==("__debug__":Str))=false:=by decide)
  (he:starEach (e::es) X.env=(false,eval e X.env)::starEach es X.env:=by exact cJ rfl) (hpl:(backTo pos (starEach es X.env)).any (·.1)=false:=by exact fE rfl):bf X (.Call (.Name x p) (e::es) [] pos) (aG f da):=(nc hc hg hm hv ha hn hdb he hpl).imp λσ H Q h=>Il h
end
def bg:List D->aa->R D:=λxs c=>match xs with
 |[x]=>match fP c x with
  |some l=>.ok (.int l.length) c
  |none=>match x with
   |.str z=>if z.length<=sizeLine then .ok (.int z.length) c else .bad
   |_=>.bad
 |_=>.bad
def HV:D->Option String
 |.aO=>some "NoneType"
 |.bl _=>some "bool"
 |.int _=>some "int"
 |.str _=>some "str"
 |.tup _=>some "tuple"
 |.lst _=>some "list"
 |.ref _=>some "list"
 |_=>none
def bO:List D->aa->R D:=λxs c=>match xs with
 |[.gZ,.ty T]=>if T∈["bool","int","str","list","tuple","dict"]then .ok (.bl (um "dict" T)) c else .bad
 |[x,.ty T]=>match HV x with
  |some n=>if T∈["bool","int","str","list","tuple","dict"]then .ok (.bl (um n T)) c else .bad
  |none=>.bad
 |_=>.bad
def nT:List D->Option (List Bool)
 |[]=>some []
 |.bl b::l=>(nT l).map (b :: ·)
 |_=>none
def nv:List D->Option (List Int)
 |[]=>some []
 |.int i::l=>(nv l).map (i :: ·)
 |_=>none
theorem Ad(l:List Bool):nT (l.map D.bl)=some l:=by
 induction l with
 |nil=>rfl
 |cons a l ih=>simp[nT,ih]
theorem DP(l:List Int):nv (l.map D.int)=some l:=by
 induction l with
 |nil=>rfl
 |cons a l ih=>simp[nv,ih]
theorem GR:∀{l:List D}{bs:List Bool},nT l=some bs->l=bs.map D.bl
 |[],bs,h=>by cases h;rfl
 |d::l,bs,h=>by
  cases d with
  |bl b =>
   unfold nT at h
   cases q:nT l with
   |none=>rw[q]at h;cases h
   |some r=>rw[q]at h;cases h;rw[GR q];rfl
  |_=>cases h
theorem Li:∀{l:List D}{bs:List Int},nv l=some bs->l=bs.map D.int
 |[],bs,h=>by cases h;rfl
 |d::l,bs,h=>by
  cases d with
  |int b =>
   unfold nv at h
   cases q:nv l with
   |none=>rw[q]at h;cases h
   |some r=>rw[q]at h;cases h;rw[Li q];rfl
  |_=>cases h
def m7(f:List Bool->Bool):List D->aa->R D:=λxs c=>match xs with
 |[.lst l]=>match nT l with
  |some bs=>.ok (.bl (f bs)) c
  |none=>.bad
 |_=>.bad
def eX:=m7 λbs=>bs.all id
def qe:=m7 λbs=>bs.any id
def sd:List D->aa->R D:=λxs c=>match xs with
 |[.int i,.int j]=>.ok (.int (if j>i then j else i)) c
 |_=>.bad
def b7:List D->aa->R D:=λxs c=>match xs with
 |[x]=>match fP c x with
  |some l=>.ok (.tup l) c
  |none=>.bad
 |_=>.bad
def yu:List D->aa->R D:=λxs c=>match xs with
 |[x]=>match fP c x with
  |some l=>.ok (.lst l) c
  |none=>.bad
 |_=>.bad
section
variable {X:Cx}{K:PySem.W.Frag}{ρ:List Addr}{H:Hp}{c:aa}
theorem dP:dW X (.builtin "len") (rN X.K bg):=by
 intro pins s σ H vs us Q I rv h
 obtain⟨ρ,xs,c,W,rx,p⟩:=h
 unfold bg at p
 split at p
 ·rename_i x
  obtain⟨v,r,rfl,hx,hr⟩:=rx
  cases hr
  split at p
  ·rename_i l hl
   obtain⟨a,ys,rfl,sq,r⟩:=xq W hx hl
   exact ahw pins s σ H _ us Q I rv ⟨a,ys,rfl,sq,by rw[r.length];exact p.here W rfl⟩
  ·split at p
   ·split at p
    ·rename_i hz
     cases hx
     exact ahv pins s σ H _ us Q I rv ⟨_,rfl,hz,p.here W rfl⟩
    ·exact p.elim
   ·exact p.elim
 ·exact p.elim
theorem QI{x:D}{v:V}{n:String}(W:Wd K ρ H c) (rx:Rel K ρ H x v) (h:HV x=some n):tyName H v n:=by
 cases x with
 |aO=>cases rx;cases h;exact rfl
 |bl b=>cases rx;cases h;exact rfl
 |int b=>cases rx;cases h;exact rfl
 |str b=>cases rx;cases h;exact rfl
 |tup l=>obtain⟨a,xs,rfl,s,r⟩:=rx;cases h;exact .inr (.inl ⟨rfl,xs,s⟩)
 |lst l=>obtain⟨a,xs,rfl,s,r⟩:=rx;cases h;exact .inl ⟨rfl,.inl ⟨xs,s.1⟩⟩
 |ref k =>
  obtain⟨a,rfl,s⟩:=rx
  cases h
  obtain⟨xs,e⟩:=W.at' (alo s)
  exact .inl ⟨rfl,.inl ⟨xs,e⟩⟩
 |_=>cases h
theorem gx:dW X (.builtin "isinstance") (rN X.K bO):=by
 intro pins s σ H vs us Q I rv h
 obtain⟨ρ,xs,c,W,rx,p⟩:=h
 unfold bO at p
 split at p
 ·split at p
  ·rename_i hT
   obtain⟨v,r,rfl,⟨a,rfl,hH⟩,u,r',rfl,hu,hr⟩:=rx
   cases hr
   cases hu
   obtain⟨u1,u2,rfl,r1,r2⟩:=Vals.two rv
   cases r1;cases r2
   obtain⟨hp,_,_⟩:=I.hok a _ hH
   exact alU an4 I.fB hp (K3 (n:="dict") (by simp) hT) (λz=>nomatch z) λtk=>⟨.bl _,H,I.tok _,rfl,p.here W rfl⟩
  ·exact p.elim
 ·split at p
  ·rename_i n hn
   split at p
   ·rename_i hT
    obtain⟨v,r,rfl,hx,u,r',rfl,hu,hr⟩:=rx
    cases hr
    cases hu
    exact ahx pins s σ H _ us Q I rv ⟨v,n,_,rfl,QI W hx hn,hT,p.here W rfl⟩
   ·exact p.elim
  ·exact p.elim
 ·exact p.elim
theorem sW(hc:X.calm=true:=by rfl):dW X (.builtin "all") (rN X.K eX):=by
 intro pins s σ H vs us Q I rv h
 obtain⟨ρ,xs,c,W,rx,p⟩:=h
 unfold eX m7 at p
 split at p
 ·split at p
  ·rename_i bs hb
   obtain⟨v,r,rfl,⟨a,ys,rfl,s1,r1⟩,hr⟩:=rx
   cases hr
   rw[GR hb]at r1
   cases r1.GQ
   exact ahA hc pins s σ H _ us Q I rv ⟨a,bs,rfl,bH.of s1.1,p.here W rfl⟩
  ·exact p.elim
 ·exact p.elim
theorem NU(hc:X.calm=true:=by rfl):dW X (.builtin "any") (rN X.K qe):=by
 intro pins s σ H vs us Q I rv h
 obtain⟨ρ,xs,c,W,rx,p⟩:=h
 unfold qe m7 at p
 split at p
 ·split at p
  ·rename_i bs hb
   obtain⟨v,r,rfl,⟨a,ys,rfl,s1,r1⟩,hr⟩:=rx
   cases hr
   rw[GR hb]at r1
   cases r1.GQ
   exact ahz hc pins s σ H _ us Q I rv ⟨a,bs,rfl,bH.of s1.1,p.here W rfl⟩
  ·exact p.elim
 ·exact p.elim
theorem ahf(hc:X.calm=true:=by rfl):dW X (.builtin "max") (rN X.K sd):=by
 intro pins s σ H vs us Q I rv h
 obtain⟨ρ,xs,c,W,rx,p⟩:=h
 unfold sd at p
 split at p
 ·obtain⟨v,r,rfl,hx,u,r',rfl,hu,hr⟩:=rx
  cases hr;cases hx;cases hu
  exact aht hc pins s σ H _ us Q I rv ⟨_,_,rfl,p.here W rfl⟩
 ·exact p.elim
theorem jg:dW X (.type "tuple") (rN X.K b7):=by
 intro pins s σ H vs us Q I rv h
 obtain⟨ρ,xs,c,W,rx,p⟩:=h
 unfold b7 at p
 split at p
 ·rename_i x
  obtain⟨v,r,rfl,hx,hr⟩:=rx
  cases hr
  split at p
  ·rename_i l hl
   obtain⟨a,ys,rfl,sq,r⟩:=xq W hx hl
   refine ahr pins s σ H _ us Q I rv ⟨a,ys,rfl,?_⟩
   rcases sq with sq|sq
   ·exact .inl ⟨sq,BL W r p⟩
   ·refine .inr ⟨sq,?_⟩
    cases x with
    |tup m=>cases hl;exact p.here W hx
    |lst m =>
     obtain⟨b,zs,e,s1,_⟩:=hx
     cases e
     exfalso
     rcases sq with sq|⟨o,its,n,hk,hcl,_⟩
     ·rcases sq with sq|⟨o,sq⟩<;>(rw[s1.1]at sq;cases sq)
     ·have:=I.bs a o (I.ok.mod.kU a o hk)
      rw[s1.1]at this
      cases this.2
    |cF m =>
     exfalso
     obtain⟨b,e,s1⟩:=hx
     cases e
     obtain⟨i1,_,pl,_⟩:=I.list s1.sql
     obtain⟨i2,_,pt,_⟩:=I.tuple sq
     obtain⟨o1,e1,c1,_⟩:=pl.isList
     obtain⟨o2,e2,c2,_⟩:=pt
     rw[e1]at e2;cases e2
     rw[c1]at c2
     exact absurd c2 (by decide)
    |ref k =>
     exfalso
     obtain⟨b,e,s1⟩:=hx
     cases e
     obtain⟨zs,hz⟩:=W.at' (alo s1)
     rcases sq with sq|⟨o,its,n,hk,hcl,_⟩
     ·rcases sq with sq|⟨o,sq⟩<;>(rw[hz]at sq;cases sq)
     ·have:=I.bs a o (I.ok.mod.kU a o hk)
      rw[hz]at this
      cases this.2
    |_=>cases hl
  ·exact p.elim
 ·exact p.elim
theorem ahg:dW X (.type "list") (rN X.K yu):=by
 intro pins s σ H vs us Q I rv h
 obtain⟨ρ,xs,c,W,rx,p⟩:=h
 unfold yu at p
 split at p
 ·rename_i x
  obtain⟨v,r,rfl,hx,hr⟩:=rx
  cases hr
  split at p
  ·rename_i l hl
   obtain⟨a,ys,rfl,sq,r⟩:=xq W hx hl
   exact ahu pins s σ H _ us Q I rv ⟨a,ys,rfl,sq,oO W r p⟩
  ·exact p.elim
 ·exact p.elim
end
def dw(o a:af):af:=λe c=>(o e c).bind λx c=>match x with
 |.ref k=>(a e c).bind λy c=>match c[k]? with
  |some (.lst l)=>if l.length<sizeLine/\noRef y=true then .ok .aO (c.set k (.lst (l++[y])))else .bad
  |none=>.bad
 |_=>.bad
theorem kJ{X:Cx}{o e:Expr}{dO da:af}{apos cpos:Pos}(ho:bf X o dO) (ha:bf X e da)
  (hbase:attributeBase o "append" X.env (eval o X.env)=eval o X.env:=by rfl)
  (hfew:((backTo cpos (starEach [e] X.env)).all (λx=>!x.1)&&(backToKw cpos (keywordEach [] X.env)).all (λx=>x.1.isSome)
   && decide ([e].length+([]:List Keyword).length+(if([]:List Keyword).isEmpty then 0 else 1)<30))=true:=by exact A0 rfl)
  (hline:(apos.endLine==cpos.line)=true:=by rfl) (hs:starEach [e] X.env=(false,eval e X.env)::starEach [] X.env:=by exact cJ rfl) (hplain:(backTo cpos (starEach [] X.env)).any (·.1)=false:=by exact fE rfl) :
  bf X (.Call (.Attribute o "append" apos) [e] [] cpos) (dw dO da) :=
 (Bv aoh PySem.F.slot_list_append PySem.F.type_list_append abc ho (jl ha jP hs) hbase hfew hline hs hplain).imp λσ H Q h=>by
  obtain⟨ρ,e,c,W,V,p⟩:=h
  refine⟨ρ,e,c,W,V,post.bind p λx c1 aK H1 v _ W1 X1 r1 p1=>?_⟩
  cases x with
  |ref k =>
   obtain⟨a,rfl,ha⟩:=r1
   obtain⟨xs,hx⟩:=W1.at' (alo ha)
   refine⟨.inl ⟨rfl,xs,bH.of hx⟩,aK,e,c1,W1,V.mono W X1,post.bind p1 λy c2 cX H2 u _ W2 X2 r2 p2=>?_⟩
   split at p2
   ·rename_i l hl
    split at p2
    ·rename_i hh
     obtain⟨nr,ys,hy,rl⟩:=W2.fM k a _ (X2.pre k a ha) hl
     refine⟨a,ys,u,rfl,rfl,hy,by rw[rl.length];exact hh.1,?_⟩
     refine p2 cX _ .aO (W2.write (X2.pre k a ha) (by rw[uN,nr];simp[bE,hh.2]) (rl.append ⟨u,[],rfl,r2,rfl⟩)) (Ext.write (X2.pre k a ha)) rfl
    ·exact p2.elim
   ·exact p2.elim
  |_=>exact p1.elim
section
variable (e:Ev) (c:aa) (a b d:af) (ta tb:ai) (s t:ah) (l:aj) (g:Gd) (gs:List D->Ev->aa->R Ev)
@[simp] theorem bK(i:Nat):ak i e c=match e[i]? with|some (some d)=>.ok d c|_=>.bad:=rfl
@[simp] theorem oz(d:D):dC d e c=.ok d c:=rfl
@[simp] theorem fO(f:D->D->aa->R D):au f a b e c=(a e c).bind λx c=>(b e c).bind λy c=>f x y c:=rfl
@[simp] theorem eN(f:List D->aa->R D):aG f l e c=(l e c).bind λxs c=>f xs c:=rfl
@[simp] theorem ajz(f g:D->D->aa->R D):pM f g a b d e c=(a e c).bind λx c=>(b e c).bind λy c=>(f x y c).bind λz c=>match z with
 |.bl true=>(d e c).bind λu c=>g y u c
 |.bl false=>.ok (.bl false) c
 |_=>.bad:=rfl
@[simp] theorem bC:aq e c=.ok [] c:=rfl
@[simp] theorem bz:ao a l e c=(a e c).bind λx c=>(l e c).bind λxs c=>.ok (x::xs) c:=rfl
@[simp] theorem PC:fC l e c=(l e c).bind λxs c=>if xs.length<=sizeLine then .ok (.tup xs) c else .bad:=rfl
@[simp] theorem HC:bU l e c=(l e c).bind λxs c=>if xs.length<=sizeLine then .ok (.lst xs) c else .bad:=rfl
@[simp] theorem PX:cW l e c=(l e c).bind λxs c=>if xs.length<=sizeLine/\bE xs=true then .ok (.ref c.length) (c++[.lst xs])else .bad:=rfl
@[simp] theorem wR:aW a e c=(a e c).bind λx c=>match x with|.bl b=>.ok b c|_=>.bad:=rfl
@[simp] theorem ajB:iI ta tb e c=(ta e c).bind λx c=>if x=true then tb e c else .ok false c:=rfl
@[simp] theorem ajh:gw ta tb e c=(ta e c).bind λx c=>if x=true then .ok true c else tb e c:=rfl
@[simp] theorem HA:d7 ta e c=(ta e c).bind λx c=>.ok (!x) c:=rfl
@[simp] theorem HH:fW a b e c=(a e c).bind λx c=>match x with|.bl k=>if k=true then b e c else .ok (.bl false) c|_=>.bad:=rfl
@[simp] theorem aji:z5 a e c=(a e c).bind λx c=>match x with|.bl k=>.ok (.bl (!k)) c|_=>.bad:=rfl
@[simp] theorem ajr:vQ ta a b e c=(ta e c).bind λx c=>if x=true then a e c else b e c:=rfl
@[simp] theorem x_call(n:Nat) (m:List D->aa->R D):aC n m l e c=(l e c).bind λxs c=>if xs.length=n then m xs c else .bad:=rfl
@[simp] theorem ajj:cg e c=.ok (.nx e) c:=rfl
@[simp] theorem ajA:Bc e c=.bad:=rfl
@[simp] theorem jF:aD s t e c=(s e c).bind λf c=>match f with|.nx e=>t e c|f=>.ok f c:=rfl
@[simp] theorem iO:aL a e c=(a e c).bind λx c=>.ok (.rt x) c:=rfl
@[simp] theorem ig:cY a e c=(a e c).bind λ_ c=>.ok (.nx e) c:=rfl
@[simp] theorem kr:b8 ta s t e c=(ta e c).bind λx c=>if x=true then s e c else t e c:=rfl
@[simp] theorem f6(i:Nat):aF i a e c=(a e c).bind λx c=>.ok (.nx (e.set i (some x))) c:=rfl
@[simp] theorem HG:iy a g e c=(a e c).bind λx c=>(g x e c).bind λe c=>.ok (.nx e) c:=rfl
@[simp] theorem P5(i:Nat) (x:D):az i x e c=.ok (e.set i (some x)) c:=rfl
@[simp] theorem ajt:e9 [] e c=.ok e c:=rfl
@[simp] theorem aju(x:D) (xs:List D):cu g gs (x::xs) e c=(g x e c).bind λe c=>gs xs e c:=rfl
@[simp] theorem ajs(n:Nat) (xs:List D):eW n gs (.tup xs) e c=if xs.length=n then gs xs e c else .bad:=rfl
@[simp] theorem HF(x:D):k8 a b x e c=(a e c).bind λo c=>(b e c).bind λi c=>(kE o i x c).bind λ_ c=>.ok e c:=rfl
@[simp] theorem gB(sr:Ev->aa->R Src):bY sr g s e c=(sr e c).bind λq c=>dg q.stays g s q.items e c:=rfl
@[simp] theorem fk(n:Nat) (own:Bool) (xs:List D):bG n own s xs c=(s (cO n xs) c).bind λf c'=>match f with
 |.rt v=>dM own c.length v c'
 |.nx _=>dM own c.length .aO c'
 |_=>.bad:=rfl
@[simp] theorem PD(n:Nat) (xs:List D):cO n xs=xs.map some++List.replicate (n-xs.length) none:=rfl
@[simp] theorem dB(sr:Ev->aa->R Src) (pick:List (Option Nat)):aR sr pick g ta a e c=(sr e c).bind λq c =>
 if q.items.length<sizeLine then(bA q.stays g ta a q.items (cK pick e) [] c).bind λl c=>.ok (.lst l) c else .bad:=rfl
@[simp] theorem kq:aH e c=.ok true c:=rfl
@[simp] theorem kB(i j:Int):aZ (.int i) (.int j) c=.ok (.int (i+j)) c:=rfl
@[simp] theorem ajC(x y:List D):aZ (.tup x) (.tup y) c=if x.length≠0/\x.length+y.length<=sizeLine then .ok (.tup (x++y)) c else .bad:=rfl
@[simp] theorem wO(i j:Int):br (.int i) (.int j) c=.ok (.int (i-j)) c:=rfl
theorem HB(i j:Int):aU (.int i) (.int j) c=if(-(2^64)<i/\i<2^64)\/(-(2^64)<j/\j<2^64)then .ok (.int (i*j)) c else .bad:=rfl
theorem P7(i j:Int):eG (.int i) (.int j) c=if 0<j/\j<1073741824 then .ok (.int (i/j)) c else .bad:=rfl
theorem PU(i j:Int):bN (.int i) (.int j) c=if 0<j then .ok (.int (i % j)) c else .bad:=rfl
theorem PL(i j:Int):rT (.int i) (.int j) c=if 0<=j/\j<=1000000/\i.natAbs<2^64 then .ok (.int (i^j.toNat)) c else .bad:=rfl
@[simp] theorem ajy(p:Int->Int->Bool) (i j:Int):pP p (.int i) (.int j) c=.ok (.bl (p i j)) c:=rfl
@[simp] theorem P6(i j:Int):bS (.int i) (.int j) c=.ok (.bl (decide (i=j))) c:=rfl
@[simp] theorem ajl(i j:Int):gG (.int i) (.int j) c=.ok (.bl (!decide (i=j))) c:=rfl
@[simp] theorem ajx(i j:Bool):bS (.bl i) (.bl j) c=.ok (.bl (decide (i=j))) c:=rfl
@[simp] theorem ajm(i j:Bool):gG (.bl i) (.bl j) c=.ok (.bl (!decide (i=j))) c:=rfl
@[simp] theorem ajw(i j:Str):bS (.str i) (.str j) c=.ok (.bl (decide (i=j))) c:=rfl
@[simp] theorem ajk(i j:Str):gG (.str i) (.str j) c=.ok (.bl (!decide (i=j))) c:=rfl
@[simp] theorem x_is(x:D):vn x .aO c=.ok (.bl (iE x)) c:=rfl
@[simp] theorem aj0:iE .aO=true:=rfl
@[simp] theorem n_bl(b:Bool):iE (.bl b)=false:=rfl
@[simp] theorem aj2(b:Int):iE (.int b)=false:=rfl
@[simp] theorem ajZ(b:Str):iE (.str b)=false:=rfl
@[simp] theorem ajY(b:List D):iE (.tup b)=false:=rfl
@[simp] theorem aj1(b:List D):iE (.lst b)=false:=rfl
@[simp] theorem HE(xs:List D) (i:Int):aE (.tup xs) (.int i) c=match cT xs i with|some d=>.ok d c|none=>.bad:=rfl
@[simp] theorem ou(xs:List D) (i:Int):aE (.lst xs) (.int i) c=match cT xs i with|some d=>.ok d c|none=>.bad:=rfl
@[simp] theorem PZ(xs:List D):bg [.tup xs] c=.ok (.int xs.length) c:=rfl
@[simp] theorem HD(xs:List D):bg [.lst xs] c=.ok (.int xs.length) c:=rfl
@[simp] theorem ajp(xs:List Int):bg [.cF xs] c=.ok (.int xs.length) c:=by
 show R.ok (D.int ((xs.map D.int).length:Nat)) c=_
 rw[ak4]
@[simp] theorem PV(i j:Int):sd [.int i,.int j] c=.ok (.int (if j>i then j else i)) c:=rfl
@[simp] theorem ajM:noRef .aO=true:=rfl
@[simp] theorem r_bl(b:Bool):noRef (.bl b)=true:=rfl
@[simp] theorem ajO(b:Int):noRef (.int b)=true:=rfl
@[simp] theorem ajL(b:Str):noRef (.str b)=true:=rfl
@[simp] theorem Jo(b:List D):noRef (.tup b)=bE b:=by simp[noRef]
@[simp] theorem Jp(b:List D):noRef (.lst b)=bE b:=by simp[noRef]
@[simp] theorem ajN:bE []=true:=by simp[bE]
@[simp] theorem ajP(d:D) (b:List D):bE (d::b)=(noRef d&&bE b):=by simp[bE]
@[simp] theorem q_bl(own:Bool) (n:Nat) (b:Bool):dM own n (.bl b) c=.ok (.bl b) (c.take n):=rfl
@[simp] theorem ajT(own:Bool) (n:Nat):dM own n .aO c=.ok .aO (c.take n):=rfl
@[simp] theorem ajV(own:Bool) (n:Nat) (b:Int):dM own n (.int b) c=.ok (.int b) (c.take n):=rfl
@[simp] theorem ajS(own:Bool) (n:Nat) (b:Str):dM own n (.str b) c=.ok (.str b) (c.take n):=rfl
@[simp] theorem rP(own:Bool) (n:Nat) (b:List D):dM own n (.tup b) c=if bE b=true then .ok (.tup b) (c.take n)else .bad:=by
 show(if noRef (.tup b)=true then R.ok (D.tup b) (c.take n)else R.bad)=_
 rw[Jo]
@[simp] theorem ajU(own:Bool) (n:Nat) (b:List D):dM own n (.lst b) c=if bE b=true then .ok (.lst b) (c.take n)else .bad:=by
 show(if noRef (.lst b)=true then R.ok (D.lst b) (c.take n)else R.bad)=_
 rw[Jp]
@[simp] theorem gj:aY l e c=(l e c).bind λxs c=>match xs with
 |[.int j]=>if -(2^62)<=j/\j<2^62 then .ok ⟨aT 0 j,λ_=>True⟩ c else .bad
 |_=>.bad:=rfl
@[simp] theorem ajg:je l e c=(l e c).bind λxs c=>match xs with
 |[.int i,.int j]=>if -(2^62)<=i/\i<2^62/\-(2^62)<=j/\j<2^62 then .ok ⟨aT i j,λ_=>True⟩ c else .bad
 |_=>.bad:=rfl
@[simp] theorem wQ:cD a e c=(a e c).bind λx c=>match x with
 |.lst l=>.ok ⟨l,λ_=>True⟩ c
 |.cF l=>.ok ⟨l.map D.int,λ_=>True⟩ c
 |.ref k=>match c[k]? with
  |some (.lst l)=>.ok ⟨l,λc=>c[k]? = some (.lst l)⟩ c
  |none=>.bad
 |_=>.bad:=rfl
@[simp] theorem Hz:dS a e c=(a e c).bind λx c=>match x with
 |.tup l=>.ok ⟨l,λ_=>True⟩ c
 |_=>.bad:=rfl
end
section
variable (g:Gd) (s:ah) (t:ai) (a:af) (e:Ev) (c:aa)
@[simp] theorem akF:dg (λ_=>True) g s [] e c=.ok (.nx e) c:=by simp[dg]
@[simp] theorem yS(x:D) (xs:List D):dg (λ_=>True) g s (x::xs) e c=(g x e c).bind λe c=>(s e c).bind λf c=>match f with
   |.nx e=>dg (λ_=>True) g s xs e c
   |.ct e=>dg (λ_=>True) g s xs e c
   |.bk e=>.ok (.nx e) c
   |.rt d=>.ok (.rt d) c:=by
 conv=>lhs;unfold dg
 exact if_pos trivial
@[simp] theorem akL(acc:List D):bA (λ_=>True) g t a [] e acc c=.ok acc c:=by simp[bA]
@[simp] theorem jf(x:D) (xs acc:List D):bA (λ_=>True) g t a (x::xs) e acc c=(g x e c).bind λe c=>(t e c).bind λk c=>if k=true then(a e c).bind λy c=>bA (λ_=>True) g t a xs e (acc++[y]) c else bA (λ_=>True) g t a xs e acc c:=by
 conv=>lhs;unfold bA
 exact if_pos trivial
end
@[simp] theorem gz{α:Type}(a:α) (l:List α):(a::l)[0]? = some a:=rfl
@[simp] theorem gs{α:Type}(a:α) (l:List α) (n:Nat):(a::l)[n+1]? = l[n]?:=rfl
@[simp] theorem qd{α:Type}(a:α) (l:List α):cT (a::l) 0=some a:=by simp[cT,fV]
@[simp] theorem at1{α:Type}(a b:α) (l:List α):cT (a::b::l) 1=some b:=by
 unfold cT fV
 rw[if_pos (by decide),if_pos (by simp;omega)]
 rfl
@[simp] theorem at2{α:Type}(a b d:α) (l:List α):cT (a::b::d::l) 2=some d:=by
 unfold cT fV
 rw[if_pos (by decide),if_pos (by simp;omega)]
 rfl
@[simp] theorem at3{α:Type}(a b d f:α) (l:List α):cT (a::b::d::f::l) 3=some f:=by
 unfold cT fV
 rw[if_pos (by decide),if_pos (by simp;omega)]
 rfl
@[simp] theorem at4{α:Type}(a b d f h:α) (l:List α):cT (a::b::d::f::h::l) 4=some h:=by
 unfold cT fV
 rw[if_pos (by decide),if_pos (by simp;omega)]
 rfl
theorem eO{n:Nat}(h:n<=1000):n<=sizeLine:=alk h (by decide)
@[simp] theorem sl0:(0:Nat)<=sizeLine:=alW _
@[simp] theorem sl1:(1:Nat)<=sizeLine:=by decide
@[simp] theorem sl2:(2:Nat)<=sizeLine:=by decide
@[simp] theorem sl3:(3:Nat)<=sizeLine:=by decide
@[simp] theorem sl4:(4:Nat)<=sizeLine:=by decide
@[simp] theorem sl5:(5:Nat)<=sizeLine:=by decide
@[simp] theorem sl6:(6:Nat)<=sizeLine:=by decide
@[simp] theorem xj:(0:Nat)<sizeLine:=by decide
@[simp] theorem st1:(1:Nat)<sizeLine:=by decide
@[simp] theorem st2:(2:Nat)<sizeLine:=by decide
@[simp] theorem st3:(3:Nat)<sizeLine:=by decide
@[simp] theorem uo:(4:Nat)<sizeLine:=by decide
@[simp] theorem jj:(5:Nat)<sizeLine:=by decide
@[simp] theorem aku(i:Int) (c:aa):bO [.int i,.ty "int"] c=.ok (.bl true) c:=rfl
@[simp] theorem akv(i:Int) (c:aa):bO [.int i,.ty "bool"] c=.ok (.bl false) c:=rfl
@[simp] theorem aks(i:Int) (c:aa):bO [.int i,.ty "str"] c=.ok (.bl false) c:=rfl
@[simp] theorem akr(i:Int) (c:aa):bO [.int i,.ty "tuple"] c=.ok (.bl false) c:=rfl
@[simp] theorem akt(i:Int) (c:aa):bO [.int i,.ty "list"] c=.ok (.bl false) c:=rfl
@[simp] theorem akz(i:Bool) (c:aa):bO [.bl i,.ty "int"] c=.ok (.bl true) c:=rfl
@[simp] theorem akA(i:Bool) (c:aa):bO [.bl i,.ty "bool"] c=.ok (.bl true) c:=rfl
@[simp] theorem akx(i:Bool) (c:aa):bO [.bl i,.ty "str"] c=.ok (.bl false) c:=rfl
@[simp] theorem akw(i:Bool) (c:aa):bO [.bl i,.ty "tuple"] c=.ok (.bl false) c:=rfl
@[simp] theorem aky(i:Bool) (c:aa):bO [.bl i,.ty "list"] c=.ok (.bl false) c:=rfl
@[simp] theorem akf(i:Str) (c:aa):bO [.str i,.ty "int"] c=.ok (.bl false) c:=rfl
@[simp] theorem akg(i:Str) (c:aa):bO [.str i,.ty "bool"] c=.ok (.bl false) c:=rfl
@[simp] theorem akd(i:Str) (c:aa):bO [.str i,.ty "str"] c=.ok (.bl true) c:=rfl
@[simp] theorem akc(i:Str) (c:aa):bO [.str i,.ty "tuple"] c=.ok (.bl false) c:=rfl
@[simp] theorem ake(i:Str) (c:aa):bO [.str i,.ty "list"] c=.ok (.bl false) c:=rfl
@[simp] theorem akk(c:aa):bO [.aO,.ty "int"] c=.ok (.bl false) c:=rfl
@[simp] theorem akl(c:aa):bO [.aO,.ty "bool"] c=.ok (.bl false) c:=rfl
@[simp] theorem aki(c:aa):bO [.aO,.ty "str"] c=.ok (.bl false) c:=rfl
@[simp] theorem akh(c:aa):bO [.aO,.ty "tuple"] c=.ok (.bl false) c:=rfl
@[simp] theorem akj(c:aa):bO [.aO,.ty "list"] c=.ok (.bl false) c:=rfl
@[simp] theorem aka(i:List D) (c:aa):bO [.tup i,.ty "int"] c=.ok (.bl false) c:=rfl
@[simp] theorem akb(i:List D) (c:aa):bO [.tup i,.ty "bool"] c=.ok (.bl false) c:=rfl
@[simp] theorem aj8(i:List D) (c:aa):bO [.tup i,.ty "str"] c=.ok (.bl false) c:=rfl
@[simp] theorem aj7(i:List D) (c:aa):bO [.tup i,.ty "tuple"] c=.ok (.bl true) c:=rfl
@[simp] theorem aj9(i:List D) (c:aa):bO [.tup i,.ty "list"] c=.ok (.bl false) c:=rfl
@[simp] theorem akp(i:List D) (c:aa):bO [.lst i,.ty "int"] c=.ok (.bl false) c:=rfl
@[simp] theorem akq(i:List D) (c:aa):bO [.lst i,.ty "bool"] c=.ok (.bl false) c:=rfl
@[simp] theorem akn(i:List D) (c:aa):bO [.lst i,.ty "str"] c=.ok (.bl false) c:=rfl
@[simp] theorem akm(i:List D) (c:aa):bO [.lst i,.ty "tuple"] c=.ok (.bl false) c:=rfl
@[simp] theorem ako(i:List D) (c:aa):bO [.lst i,.ty "list"] c=.ok (.bl true) c:=rfl
section
variable (c:aa) {i j:Int}
theorem yo(h1:-18446744073709551616<i) (h2:i<18446744073709551616):aU (.int i) (.int j) c=.ok (.int (i*j)) c:=by
 rw[HB,if_pos];exact .inl ⟨by omega,by omega⟩
theorem mul_r(h1:-18446744073709551616<j) (h2:j<18446744073709551616):aU (.int i) (.int j) c=.ok (.int (i*j)) c:=by
 rw[HB,if_pos];exact .inr ⟨by omega,by omega⟩
theorem nN(h1:0<j) (h2:j<1073741824):eG (.int i) (.int j) c=.ok (.int (i/j)) c:=by
 rw[P7,if_pos ⟨h1,h2⟩]
theorem iY(h1:0<j):bN (.int i) (.int j) c=.ok (.int (i % j)) c:=by
 rw[PU,if_pos h1]
theorem Jv(h1:0<=j) (h2:j<=1000000) (h3:i.natAbs<18446744073709551616):rT (.int i) (.int j) c=.ok (.int (i^j.toNat)) c:=by
 rw[PL,if_pos ⟨h1,h2,h3⟩]
end
section
variable {g:Gd}{s:ah}{t:ai}{a:af}
theorem j6{c:aa}(inv:Ev->Prop) (F:D->Bool) (G:D->D):∀(items:List D) (e:Ev) (acc:List D),inv e ->
  (∀x∈items,∀e,inv e->∃e',g x e c=.ok e' c/\inv e'/\t e' c=.ok (F x) c/\(F x=true->a e' c=.ok (G x) c)) ->
  bA (λ_=>True) g t a items e acc c=.ok (acc++(items.filter F).map G) c
 |[],e,acc,_,_=>by simp
 |x::xs,e,acc,hi,h=>by
  obtain⟨e',h1,h2,h3,h4⟩:=h x alN e hi
  rw[jf,h1,R.aA,h3,R.aA]
  cases hF:F x with
  |true =>
   rw[if_pos rfl,h4 hF,R.aA,j6 inv F G xs e' _ h2 λy hy=>h y (alD _ hy)]
   simp[hF]
  |false =>
   rw[if_neg ali,j6 inv F G xs e' _ h2 λy hy=>h y (alD _ hy)]
   simp[hF]
theorem Mi(inv:Ev->Prop):∀(items:List D) (e:Ev) (c:aa),inv e ->
  (∀x∈items,∀e c,inv e->∃e' e'' c' c'',g x e c=.ok e' c'/\s e' c'=.ok (.nx e'') c''/\inv e'') ->
  ∃e' c',inv e'/\dg (λ_=>True) g s items e c=.ok (.nx e') c'
 |[],e,c,hi,_=>⟨e,c,hi,by simp⟩
 |x::xs,e,c,hi,h=>by
  obtain⟨e',e'',c',c'',h1,h2,h3⟩:=h x alN e c hi
  obtain⟨e3,c3,i3,h4⟩:=Mi inv xs e'' c'' h3 λy hy=>h y (alD _ hy)
  exact⟨e3,c3,i3,by rw[yS,h1,R.aA,h2];exact h4⟩
theorem Ei(inv:Ev->aa->Prop):∀(items:List D) (e:Ev) (c:aa),inv e c ->
  (∀x∈items,∀e c,inv e c->∃e' e'' c' c'',g x e c=.ok e' c'/\s e' c'=.ok (.nx e'') c''/\inv e'' c'') ->
  ∃e' c',inv e' c'/\dg (λ_=>True) g s items e c=.ok (.nx e') c'
 |[],e,c,hi,_=>⟨e,c,hi,by simp⟩
 |x::xs,e,c,hi,h=>by
  obtain⟨e',e'',c',c'',h1,h2,h3⟩:=h x alN e c hi
  obtain⟨e3,c3,i3,h4⟩:=Ei inv xs e'' c'' h3 λy hy=>h y (alD _ hy)
  exact⟨e3,c3,i3,by rw[yS,h1,R.aA,h2];exact h4⟩
end
theorem uR{lo hi:Int}{d:D}(h:d∈aT lo hi):∃i:Int,d=.int i/\lo<=i/\i<hi:=by
 unfold aT at h
 obtain⟨k,hk,rfl⟩:=akW.mp h
 have:=akZ.mp hk
 exact⟨lo+k,rfl,by omega,by omega⟩
theorem e8{lo hi:Int}:(aT lo hi).length=(hi-lo).toNat:=by simp[aT]
def dG(c:aa):D->Option (List D)
 |.lst l=>some l
 |.ref k=>match c[k]? with
  |some (.lst l)=>some l
  |none=>none
 |_=>none
def ir(c:aa):D->aa->Prop
 |.ref k=>λc'=>c'[k]? = c[k]?
 |_=>λ_=>True
def dU:D->D->aa->R D:=λx y c=>match dG c x,dG c y with
 |some l,some m=>if l.length+m.length<=sizeLine then .ok (.lst (l++m)) c else .bad
 |_,_=>.bad
def cutD(xs:List D) (lo hi:Option Int):List D:=(xs.drop (HT.fq xs.length 0 lo)).take (HT.fq xs.length xs.length hi-HT.fq xs.length 0 lo)
def jx(a:af) (lo hi:Ev->aa->R (Option Int)):af:=λe c=>(a e c).bind λx c=>(lo e c).bind λl c=>(hi e c).bind λu c=>match dG c x with
 |some xs=>.ok (.lst (cutD xs l u)) c
 |none=>.bad
def jA:Ev->aa->R (Option Int):=λ_ c=>.ok none c
def jz(a:af):Ev->aa->R (Option Int):=λe c=>(a e c).bind λx c=>match x with
 |.int i=>.ok (some i) c
 |_=>.bad
def jc(a:aj):Ev->aa->R Src:=λe c=>(a e c).bind λxs c=>match xs with
 |[.tup l,.tup m]=>.ok ⟨List.zipWith (λx y=>.tup [x,y]) l m,λ_=>True⟩ c
 |[x,y]=>match dG c x,dG c y with
  |some l,some m=>.ok ⟨List.zipWith (λx y=>.tup [x,y]) l m,λc'=>ir c x c'/\ir c y c'⟩ c
  |_,_=>.bad
 |_=>.bad
section
variable {X:Cx}{K:PySem.W.Frag}{ρ ρ':List Addr}{H H':Hp}{c c':aa}
theorem kQ{x:D}{v:V}{l:List D}(W:Wd K ρ H c) (rx:Rel K ρ H x v) (h:dG c x=some l):∃a xs,v=.ref a/\H a=some (.lst xs)/\aJ K ρ H l xs:=by
 cases x with
 |lst m =>
  cases h
  obtain⟨a,xs,e,s,r⟩:=rx
  exact⟨a,xs,e,s.1,r⟩
 |ref k =>
  obtain⟨a,e,s⟩:=rx
  unfold dG at h
  dsimp only at h
  cases hc:c[k]? with
  |none=>rw[hc]at h;cases h
  |some cl =>
   cases cl with
   |lst m =>
    rw[hc]at h;cases h
    obtain⟨_,xs,hx,r⟩:=W.fM k a _ s hc
    exact⟨a,xs,e,hx,r⟩
 |_=>cases h
theorem KG{x:D}{v:V}{l:List D}(W:Wd K ρ H c) (W':Wd K ρ' H' c') (E:Ext ρ H ρ' H') (rx:Rel K ρ H x v) (h:dG c x=some l) (st:ir c x c') {a:Addr}(e:v=.ref a):∃xs,bH K H' a xs/\aJ K ρ' H' l xs:=by
 have T9:=Rel.mono W E x v rx
 have h':dG c' x=some l:=by
  cases x with
  |lst m=>exact h
  |ref k =>
   have st:c'[k]? = c[k]?:=st
   unfold dG at h ⊢
   dsimp only at h ⊢
   rw[st];exact h
  |_=>cases h
 obtain⟨b,xs,e2,hx,r⟩:=kQ W' T9 h'
 rw[e]at e2;cases e2
 exact⟨xs,bH.of hx,r⟩
theorem rX:bQ X (binaryOp .Add) (r2 X.K dU):=by
 intro pins s σ H v u vv uu Q I rv ru h
 obtain⟨ρ,x,y,c,W,rx,ry,p⟩:=h
 unfold dU at p
 split at p
 ·rename_i l m hl hm
  split at p
  ·rename_i hz
   obtain⟨a,xs,rfl,ha,ra⟩:=kQ W rx hl
   obtain⟨b,ys,rfl,hb,rb⟩:=kQ W ry hm
   exact XM pins s σ H _ _ vv uu Q I rv ru ⟨a,b,xs,ys,rfl,rfl,ha,hb,by rw[ra.length,rb.length];exact hz,oO W (ra.append rb) p⟩
  ·exact p.elim
 ·exact p.elim
abbrev Aj(X:Cx) (e:Option Expr) (d:Ev->aa->R (Option Int)):Prop:=PO X e (tD X.K (λ_ _ a b=>a=b) d)
theorem PO.imp{e:Option Expr}{t t':TO}(h:PO X e t) (i:∀σ H Q,t' σ H Q->t σ H Q):PO X e t':=λpins s σ H Q I q=>h pins s σ H Q I (i _ _ _ q)
theorem Bs:Aj X none jA:=VC.imp λσ H Q h=>by
 obtain⟨ρ,e,c,W,Vv,p⟩:=h
 exact p.here W rfl
theorem Br{e:Expr}{d:af}(h:bf X e d):Aj X (some e) (jz d):=(VB h).imp λσ H Q h=>by
 obtain⟨ρ,e,c,W,Vv,p⟩:=h
 refine⟨ρ,e,c,W,Vv,post.bind p λx c1 aK H1 v _ W1 X1 r1 p1=>?_⟩
 cases x with
 |int i=>cases r1;exact⟨i,rfl,p1.here W1 rfl⟩
 |_=>exact p1.elim
theorem aga{l:List D}{xs:List V}{lo hi:Option Int}(r:aJ K ρ H l xs):aJ K ρ H (cutD l lo hi) (sV xs lo hi):=by
 unfold cutD sV
 rw[r.length]
 exact(r.drop _).take _
theorem Bw{e:Expr}{lo hi:Option Expr}{p2 pos:Pos}{da:af}{dl dh:Ev->aa->R (Option Int)}(he:bf X e da) (hl:Aj X lo dl) (hh:Aj X hi dh):bf X (.Subscript e (.Slice lo hi none p2) pos) (jx da dl dh) :=
 (WJ Sk he hl hh).imp λσ H Q h=>by
  obtain⟨ρ,e,c,W,Vv,p⟩:=h
  refine⟨ρ,e,c,W,Vv,post.bind p λx c1 aK H1 v _ W1 X1 r1 p1=>⟨aK,e,c1,W1,Vv.mono W X1,post.bind p1 λl c2 cX H2 l' _ W2 X2 r2 p2=>⟨cX,e,c2,W2,(Vv.mono W X1).mono W1 X2,post.bind p2 λu c3 oq H3 u' _ W3 X3 r3 p3=>?_⟩⟩⟩
  cases r2;cases r3
  have rx:=Rel.mono W1 (X2.trans X3) _ _ r1
  split at p3
  ·rename_i xs hs
   obtain⟨a,ys,rfl,ha,r⟩:=kQ W3 rx hs
   exact⟨a,ys,rfl,bH.of ha,oO W3 (aga r) p3⟩
  ·exact p3.elim
theorem PI.or{tg iter:Expr}{t t':TI}(h:PI X tg iter t) (h':PI X tg iter t'):PI X tg iter (λσ H R=>t σ H R\/t' σ H R):=λpins s σ H R I q=>q.elim (h pins s σ H R I) (h' pins s σ H R I)
theorem acJ{l m:List D}{a b:Addr}{st:aa->Prop}(h:∀ρ' H' c',Wd K ρ' H' c'->Ext ρ H ρ' H'->st c'->∃xs ys,bH K H' a xs/\bH K H' b ys/\aJ K ρ' H' l xs/\aJ K ρ' H' m ys):JS K ρ H ⟨List.zipWith (λx y=>.tup [x,y]) l m,st⟩ (An (bH K) a b):=by
 intro ρ' H' c' W E s i
 obtain⟨xs,ys,q1,q2,r1,r2⟩:=h ρ' H' c' W E s
 refine⟨λd hd=>?_,λe=>⟨xs,ys,q1,q2,?_⟩⟩
 ·have hd:(List.zipWith (λx y=>D.tup [x,y]) l m)[i]? = some d:=hd
  rw[ao9]at hd
  cases e1:l[i]? with
  |none=>rw[e1]at hd;cases hd
  |some x =>
   cases e2:m[i]? with
   |none=>rw[e1,e2]at hd;cases hd
   |some y =>
    rw[e1,e2]at hd
    cases hd
    obtain⟨v,hv,rv⟩:=r1.get e1
    obtain⟨u,hu,ru⟩:=r2.get e2
    refine⟨⟨xs,ys,v,u,q1,q2,hv,hu⟩,λz H2 hz=>?_⟩
    obtain⟨t,v',u',rfl,ht,rfl,hz⟩:=hz
    obtain⟨z1,z2⟩:=hz xs ys q1 q2
    rw[hv]at z1;rw[hu]at z2
    cases z1;cases z2
    exact⟨W.fresh ht,Ext.fresh W ht,t,[v,u],rfl,fD,v,[u],rfl,Rel.mono W (Ext.fresh W ht) _ _ rv,u,[],rfl,Rel.mono W (Ext.fresh W ht) _ _ ru,rfl⟩
 ·have e:i=(List.zipWith (λx y=>D.tup [x,y]) l m).length:=e
  rw[apa]at e
  rw[r1.length,r2.length]
  omega
theorem DR{es:List Expr}{k:Nat}{pt:Pos}{a b:Expr}{da:aj}{p pos:Pos}(ha:fh X [a,b] da) (hm:X.mg "zip"=none) (hg:Gl X "zip":=by rfl) (hs:starEach [a,b] X.env=[(false,eval a X.env),(false,eval b X.env)]:=by exact IG rfl rfl) (hs2:starEach [b] X.env=[(false,eval b X.env)]:=by exact qv rfl) :
  PId X (.Tuple es k pt) (.Call (.Name "zip" p) [a,b] [] pos) (jc da):=((Wr hg hm ha hs hs2).or (Ws hg hm ha hs hs2)).imp λσ H Q h=>by
 obtain⟨ρ,e,c,W,Vv,p⟩:=h
 cases hd:da e c with
 |bad=>unfold jc at p;rw[hd]at p;exact p.elim
 |ok xs c1 =>
  have p0:=p
  unfold jc at p0
  rw[hd,R.aA]at p0
  split at p0
  ·left
   refine⟨ρ,e,c,W,Vv,?_⟩
   rw[hd]
   intro aK H1 vs W1 X1 r1
   obtain⟨y,ys,rfl,ry,z,zs,rfl,rz,rs⟩:=r1
   cases rs
   obtain⟨a1,xs,rfl,s1,t1⟩:=ry
   obtain⟨a2,ys,rfl,s2,t2⟩:=rz
   exact⟨a1,a2,rfl,⟨xs,ys,cI.of s1,cI.of s2⟩,post.here (post.ext p0 X1) W1 (acK λρ' H' c' W' E _=>⟨xs,ys,cI.of (wV W1 E s1),cI.of (wV W1 E s2),aJ.mono W1 E _ _ t1,aJ.mono W1 E _ _ t2⟩)⟩
  ·rename_i x y _
   split at p0
   ·rename_i l m hl hm'
    right
    refine⟨ρ,e,c,W,Vv,?_⟩
    rw[hd]
    intro aK H1 vs W1 X1 r1
    obtain⟨v,ys,rfl,ry,u,zs,rfl,rz,rs⟩:=r1
    cases rs
    obtain⟨a1,xs,rfl,s1,t1⟩:=kQ W1 ry hl
    obtain⟨a2,ys,rfl,s2,t2⟩:=kQ W1 rz hm'
    refine⟨a1,a2,rfl,⟨xs,ys,bH.of s1,bH.of s2⟩,post.here (post.ext p0 X1) W1 (acJ λρ' H' c' W' E st=>?_)⟩
    obtain⟨xs',q1,q2⟩:=KG W1 W' E ry hl st.1 rfl
    obtain⟨ys',q3,q4⟩:=KG W1 W' E rz hm' st.2 rfl
    exact⟨xs',ys',q1,q3,q2,q4⟩
   ·exact p0.elim
  ·exact p0.elim
end
section
variable (e:Ev) (c:aa) (a:af) (lo hi:Ev->aa->R (Option Int)) (l:aj)
@[simp] theorem PJ:jx a lo hi e c=(a e c).bind λx c=>(lo e c).bind λl c=>(hi e c).bind λu c=>match dG c x with
 |some xs=>.ok (.lst (cutD xs l u)) c
 |none=>.bad:=rfl
@[simp] theorem PN:jA e c=.ok none c:=rfl
@[simp] theorem PM:jz a e c=(a e c).bind λx c=>match x with
 |.int i=>.ok (some i) c
 |_=>.bad:=rfl
@[simp] theorem aje:jc l e c=(l e c).bind λxs c=>match xs with
 |[.tup l,.tup m]=>.ok ⟨List.zipWith (λx y=>.tup [x,y]) l m,λ_=>True⟩ c
 |[x,y]=>match dG c x,dG c y with
  |some l,some m=>.ok ⟨List.zipWith (λx y=>.tup [x,y]) l m,λc'=>ir c x c'/\ir c y c'⟩ c
  |_,_=>.bad
 |_=>.bad:=rfl
@[simp] theorem aj6(x:List D):dG c (.lst x)=some x:=rfl
end
section
variable {g:Gd}{s:ah}{t:ai}{a:af}
theorem FY{c:aa}(st:aa->Prop) (hst:st c) (inv:Ev->Prop) (F:D->Bool) (G:D->D):∀(items:List D) (e:Ev) (acc:List D),inv e ->
  (∀x∈items,∀e,inv e->∃e',g x e c=.ok e' c/\inv e'/\t e' c=.ok (F x) c/\(F x=true->a e' c=.ok (G x) c)) ->
  bA st g t a items e acc c=.ok (acc++(items.filter F).map G) c
 |[],e,acc,_,_=>by
  unfold bA
  rw[if_pos hst];simp
 |x::xs,e,acc,hi,h=>by
  obtain⟨e',h1,h2,h3,h4⟩:=h x alN e hi
  unfold bA
  rw[if_pos hst,h1,R.aA,h3,R.aA]
  cases hF:F x with
  |true =>
   rw[if_pos rfl,h4 hF,R.aA,FY st hst inv F G xs e' _ h2 λy hy=>h y (alD _ hy)]
   simp[hF]
  |false =>
   rw[if_neg ali,FY st hst inv F G xs e' _ h2 λy hy=>h y (alD _ hy)]
   simp[hF]
theorem wg{dO da:af}{e:Ev}{c:aa}{acc:List D}{y:D}(ho:dO e (c++[.lst acc])=.ok (.ref c.length) (c++[.lst acc])) (ha:da e (c++[.lst acc])=.ok y (c++[.lst acc])) (hy:noRef y=true) (hl:acc.length+1<=1000000) :
  dw dO da e (c++[.lst acc])=.ok .aO (c++[.lst (acc++[y])]):=by
 have h1:acc.length<sizeLine:=ak7 (by omega:acc.length<1000000) (by decide)
 unfold dw
 rw[ho,R.aA]
 dsimp only
 rw[ha,R.aA]
 have e1:(c++[Cell.lst acc])[c.length]? = some (.lst acc):=by simp
 have e2:(c++[Cell.lst acc]).set c.length (.lst (acc++[y]))=c++[.lst (acc++[y])]:=by simp
 rw[e1]
 dsimp only
 rw[if_pos ⟨h1,hy⟩,e2]
end
mutual
def dN:D->Option PyData
 |.aO=>some .none
 |.bl b=>some (.bool b)
 |.int i=>some (.int i)
 |.str x=>if PyData.strOk x=true then some (.str x)else none
 |.tup l=>match eu l with
  |some r=>some (.tuple r)
  |none=>none
 |.lst l=>match eu l with
  |some r=>some (.list r)
  |none=>none
 |.ty _=>none
 |.ref _=>none
 |.cF _=>none
 |.fn _ _=>none
 |.exc _=>none
 |.gZ=>none
 |.dct _=>none
 |.lam _ _ _ _=>none
def eu:List D->Option (List PyData)
 |[]=>some []
 |d::l=>match dN d,eu l with
  |some a,some r=>some (a::r)
  |_,_=>none
end
def gM(c:aa):D->Option PyData
 |.ref k=>match c[k]? with
  |some (.lst l)=>match eu l with
   |some r=>some (.list r)
   |none=>none
  |none=>none
 |d=>dN d
def My:D->D->aa->R D:=λx y c=>match gM c x,gM c y with
 |some p,some q=>if p.depth<=64/\q.depth<=64 then .ok (.bl (p.eqv q)) c else .bad
 |_,_=>.bad
def gW:D->D->aa->R D:=λx y c=>match gM c x,gM c y with
 |some p,some q=>if p.depth<=64/\q.depth<=64 then .ok (.bl (!p.eqv q)) c else .bad
 |_,_=>.bad
def inD:D->D->aa->R D:=λx y c=>match gM c x,gM c y with
 |some p,some (.list ys)=>if p.depth<=62 then .ok (.bl (ys.any λz=>z.eqv p)) c else .bad
 |some p,some (.tuple ys)=>if p.depth<=62 then .ok (.bl (ys.any λz=>z.eqv p)) c else .bad
 |_,_=>.bad
section
variable {X:Cx}{pins:List (Addr×Obj)}{σ:St}{ρ:List Addr}{H:Hp}{s:Shared}{c:aa}
mutual
theorem gS(I:Inv X pins σ H s):∀(d:D) (v:V) (u:Value) (p:PyData),Rel X.K ρ H d v->RelV v u->dN d=some p->(∃as,Reads s.heap u p as)/\p.canLay0=true
 |.aO,v,u,p,r,ru,e=>by
  cases r;cases ru;cases e
  exact⟨⟨_,.none⟩,by simp[PyData.canLay0]⟩
 |.bl b,v,u,p,r,ru,e=>by
  cases r;cases ru;cases e
  exact⟨⟨_,.bool b⟩,by simp[PyData.canLay0]⟩
 |.int i,v,u,p,r,ru,e=>by
  cases r;obtain⟨t,rfl⟩:=ru;cases e
  exact⟨⟨_,.int i t⟩,by simp[PyData.canLay0]⟩
 |.str x,v,u,p,r,ru,e=>by
  cases r;obtain⟨t,rfl⟩:=ru
  unfold dN at e
  split at e
  ·rename_i hx
   cases e
   exact⟨⟨_,.str x t⟩,by simpa[PyData.canLay0]using hx⟩
  ·cases e
 |.tup l,v,u,p,r,ru,e=>by
  obtain⟨a,xs,rfl,ha,rs⟩:=r
  cases ru
  unfold dN at e
  split at e
  ·rename_i q hq
   cases e
   obtain⟨its,vs,⟨o,h1,h2,n,h3⟩,_⟩:=I.tuple (cI.of ha)
   obtain⟨⟨as,ra⟩,hc⟩:=xF I l xs its q rs vs hq
   exact⟨⟨_,.tuple h1 h2 h3 (by simpa using ra)⟩,by simpa[PyData.canLay0]using hc⟩
  ·cases e
 |.lst l,v,u,p,r,ru,e=>by
  obtain⟨a,xs,rfl,ha,rs⟩:=r
  cases ru
  unfold dN at e
  split at e
  ·rename_i q hq
   cases e
   obtain⟨its,vs,pl,_⟩:=I.list (bH.of ha.1)
   obtain⟨o,h1,h2,n,h3⟩:=pl.isList
   obtain⟨⟨as,ra⟩,hc⟩:=xF I l xs its q rs vs hq
   exact⟨⟨_,.list h1 h2 h3 (by simpa using ra)⟩,by simpa[PyData.canLay0]using hc⟩
  ·cases e
 |.ty _,v,u,p,r,ru,e=>by simp[dN]at e
 |.ref _,v,u,p,r,ru,e=>by simp[dN]at e
 |.cF _,v,u,p,r,ru,e=>by simp[dN]at e
 |.fn _ _,v,u,p,r,ru,e=>by simp[dN]at e
 |.exc _,v,u,p,r,ru,e=>by simp[dN]at e
 |.gZ,v,u,p,r,ru,e=>by simp[dN]at e
 |.dct _,v,u,p,r,ru,e=>by simp[dN]at e
 |.lam _ _ _ _,v,u,p,r,ru,e=>by simp[dN]at e
theorem xF(I:Inv X pins σ H s):∀(l:List D) (vs:List V) (us:List Value) (ps:List PyData),aJ X.K ρ H l vs->Vals vs us->eu l=some ps->(∃as,ReadsAll s.heap us ps as)/\PyData.canLayAll0 ps=true
 |[],vs,us,ps,r,ru,e=>by
  cases r;cases ru;cases e
  exact⟨⟨_,.nil⟩,by simp[PyData.canLayAll0]⟩
 |d::l,vs,us,ps,r,ru,e=>by
  obtain⟨x,xs,rfl,r1,r2⟩:=r
  cases ru with
  |cons q1 q2 =>
   unfold eu at e
   split at e
   ·rename_i a r e1 e2
    cases e
    obtain⟨⟨as,ra⟩,ca⟩:=gS I d x _ a r1 q1 e1
    obtain⟨⟨bs,rb⟩,cb⟩:=xF I l xs _ r r2 q2 e2
    exact⟨⟨_,.cons ra rb⟩,by simp[PyData.canLayAll0,ca,cb]⟩
   ·cases e
end
theorem rO(I:Inv X pins σ H s) (W:Wd X.K ρ H c) {d:D}{v:V}{u:Value}{p:PyData}(r:Rel X.K ρ H d v) (ru:RelV v u) (e:gM c d=some p):(∃as,Reads s.heap u p as)/\p.canLay0=true:=by
 cases d with
 |ref k =>
  unfold gM at e
  dsimp only at e
  cases hc:c[k]? with
  |none=>rw[hc]at e;cases e
  |some cl =>
   cases cl with
   |lst l =>
    rw[hc]at e
    dsimp only at e
    split at e
    ·rename_i q hq
     cases e
     obtain⟨a,rfl,s1⟩:=r
     cases ru
     obtain⟨_,xs,hx,rs⟩:=W.fM k a _ s1 hc
     obtain⟨its,vs,pl,_⟩:=I.list (bH.of hx)
     obtain⟨o,h1,h2,n,h3⟩:=pl.isList
     obtain⟨⟨as,ra⟩,hc⟩:=xF I l xs its q rs vs hq
     exact⟨⟨_,.list h1 h2 h3 (by simpa using ra)⟩,by simpa[PyData.canLay0]using hc⟩
    ·cases e
 |aO=>exact gS I _ v u p r ru e
 |bl b=>exact gS I _ v u p r ru e
 |int b=>exact gS I _ v u p r ru e
 |str b=>exact gS I _ v u p r ru e
 |tup b=>exact gS I _ v u p r ru e
 |lst b=>exact gS I _ v u p r ru e
 |ty b=>exact gS I _ v u p r ru e
 |cF b=>exact gS I _ v u p r ru e
 |fn b n=>exact gS I _ v u p r ru e
 |exc b=>exact gS I _ v u p r ru e
 |dct b=>exact gS I _ v u p r ru e
 |gZ=>exact gS I _ v u p r ru e
 |lam k y ns l=>exact gS I _ v u p r ru e
theorem JY(hu:X.A.units+64<cLine):bQ X (compareOp .NotEq) (r2 X.K gW):=by
 intro pins s σ H v u vv uu Q I rv ru h
 obtain⟨ρ,x,y,c,W,rx,ry,p⟩:=h
 unfold gW at p
 split at p
 ·rename_i a b ha hb
  split at p
  ·rename_i hd
   obtain⟨⟨as,ra⟩,ca⟩:=rO I W rx rv ha
   obtain⟨⟨bs,rb⟩,cb⟩:=rO I W ry ru hb
   exact PySem.SeqAt.compareNe_shaped ra rb (by simp[PySem.SeqAt.shaped,ca,hd.1]) (by simp[PySem.SeqAt.shaped,cb,hd.2]) hu ⟨.bl _,H,I,rfl,p.here W rfl⟩
  ·exact p.elim
 ·exact p.elim
theorem Lk{A:Around}{p:PyData}{ys:List PyData}(hu:A.units+64<cLine) (hd:p.depth<=62):A.units+1+min (PyData.depthAll ys) p.depth<cLine:=by
 have:=Nat.min_le_right (PyData.depthAll ys) p.depth
 omega
theorem Ze(hu:X.A.units+64<cLine):bQ X (compareOp .In) (r2 X.K inD):=by
 intro pins s σ H v u vv uu Q I rv ru h
 obtain⟨ρ,x,y,c,W,rx,ry,p⟩:=h
 unfold inD at p
 split at p
 ·rename_i a ys ha hb
  split at p
  ·rename_i hd
   obtain⟨⟨as,ra⟩,ca⟩:=rO I W rx rv ha
   obtain⟨⟨bs,rb⟩,cb⟩:=rO I W ry ru hb
   exact PySem.SeqAt.in_list_reads rb ra (by simpa[PyData.canLay0]using cb) ca (Lk hu hd) ⟨.bl _,H,I,rfl,p.here W rfl⟩
  ·exact p.elim
 ·rename_i a ys ha hb
  split at p
  ·rename_i hd
   obtain⟨⟨as,ra⟩,ca⟩:=rO I W rx rv ha
   obtain⟨⟨bs,rb⟩,cb⟩:=rO I W ry ru hb
   exact PySem.SeqAt.in_tuple_reads rb ra (by simpa[PyData.canLay0]using cb) ca (Lk hu hd) ⟨.bl _,H,I,rfl,p.here W rfl⟩
  ·exact p.elim
 ·exact p.elim
end
theorem yH{A:Around}{k:Nat}(hr:cR k A):A.units+64<cLine:=by have:=hr.un;omega
section
variable (c:aa)
@[simp] theorem akI:dN .aO=some .none:=by simp only[dN]
@[simp] theorem akK(b:Bool):dN (.bl b)=some (.bool b):=by simp only[dN]
@[simp] theorem akJ(i:Int):dN (.int i)=some (.int i):=by simp only[dN]
@[simp] theorem akH:eu []=some []:=by simp only[eu]
theorem MJ(l:List Int):eu (l.map D.int)=some (l.map PyData.int):=by
 induction l with
 |nil=>simp
 |cons a l ih=>simp[eu,ih]
end
end L2
namespace L2
open PySem PySem.Spec PyProof.Rows
theorem vals3{a b c:V}{us:List Value}(h:Vals [a,b,c] us):∃u v w,us=[u,v,w]/\RelV a u/\RelV b v/\RelV c w:=by
 cases h with
 |cons h1 h =>
  cases h with
  |cons h2 h =>
   cases h with
   |cons h3 h=>cases h;exact⟨_,_,_,rfl,h1,h2,h3⟩
theorem Uv{K:PySem.W.Frag}{ρ:List Addr}{H:Hp}{a b c:D}{vs:List V}(h:aJ K ρ H [a,b,c] vs):∃u v w,vs=[u,v,w]/\Rel K ρ H a u/\Rel K ρ H b v/\Rel K ρ H c w:=by
 obtain⟨u,r,rfl,h1,v,r',rfl,h2,w,r'',rfl,h3,h4⟩:=h
 cases h4
 exact⟨u,v,w,rfl,h1,h2,h3⟩
def Ao(hi:Int) (n:Nat):It:=⟨λi _=>i<n,λi H x H'=>H'=H/\x=.int (hi-i),λi _=>n<=i⟩
theorem QN{P:Program}{w:World}{K:PySem.W.Frag}{tg:Expr}(it:Addr) (hi:Int) (n:Nat):Turn P w K tg (Ao hi n) [it] it (λi h=>IsRangeIter h it (hi+(i:Nat)*(-1)) ((n:Int)-(i:Nat)) (-1)) where
 mem:=by simp
 obj:=λi h st b hb=>by
  have e:b=it:=by simpa using hb
  subst e
  exact⟨_,st,λv z=>by
   have z':Data.fields _=Data.cell v:=z
   cases z'⟩
 keep:=λi h h' st k=>k it (by simp) _ st
 item:=by
  intro X hP hw hK hc i pins s σ H E I hf st hg
  subst hP hw hK
  obtain⟨f0,f1,f2,f3,f4,f5⟩:=hf it (by simp)
  have W:=Walks.range (prog:=X.prog) (w:=X.w) (I.ok.hd hc) it hi (-1) n
  refine W.item i s _ _ hg st λv h' tk hv st' kk=>?_
  obtain⟨t,rfl⟩:=hv
  have I1:Inv X pins σ H {s with heap:=h',toks:=tk}:=I.turned (λb o hb e=>kk b o (by simpa using hb) e) f0 f1 f3 f4 f5
  refine⟨_,rfl,yP (s:={s with heap:=h',toks:=tk}) (n:="range_iterator") st' rfl rfl (by decide) ⟨.int (hi-i),H,I1,⟨t,?_⟩,⟨rfl,rfl⟩,st',λb hb=>(hf b hb).1⟩⟩
  congr 1
  omega
 done:=by
  intro X hP hw hK hc i pins s σ H E I hf st hg
  subst hP hw hK
  obtain⟨f0,f1,f2,f3,f4,f5⟩:=hf it (by simp)
  exact aoR (I.ok.hd hc) st (by have:n<=i:=hg;omega) λh' eb=>⟨rfl,I.turned (t':=s.toks) (λb o hb e=>eb b o hb e) f0 f1 f3 f4 f5⟩
 self:=λ_ _ _ _ _ st h=>aoS st h
theorem aoi(a b:Int):Builtin.Range.rangeSize a b (-1)=if b<a then a-b else 0:=by
 unfold Builtin.Range.rangeSize
 rw[if_neg (by decide)]
 simp only[show(-(-1):Int)=1 by decide,Int.ediv_one]
 split<;>omega
theorem small_down{hi lo:Int}(h1:-(2^62)<=lo) (h2:lo<2^62) (h3:-(2^62)<=hi) (h4:hi<2^62):Builtin.Range.small hi lo (-1)=true:=by
 unfold Builtin.Range.small
 rw[aoi]
 simp only[Builtin.Range.rangeFitsLong,ald,amx,decide_eq_true_eq,beq_iff_eq,show ¬((-1:Int)>0) by decide,if_false]
 split<;>omega
def ja(hi lo:Int):List D:=(List.range (hi-lo).toNat).map fun(i:Nat)=>D.int (hi-(i:Int))
def sR(a:aj):Ev->aa->R Src:=λe c=>(a e c).bind λxs c=>match xs with
 |[.int i,.int j,.int s]=>if s = -1/\-(2^62)<=i/\i<2^62/\-(2^62)<=j/\j<2^62 then .ok ⟨ja i j,λ_=>True⟩ c else .bad
 |_=>.bad
section
variable {X:Cx}{tg:Expr}{K:PySem.W.Frag}{ρ:List Addr}{H:Hp}
theorem afa{pins:List (Addr×Obj)}{σ:St}{H:Hp}{s:Shared}{R:It->Hp->Prop}{E:Value->Shared->Prop}{lo hi:Int}{t u v:Tok}{tk:Nat}(I:Inv X pins σ H s) (h1:-(2^62)<=lo) (h2:lo<2^62) (h3:-(2^62)<=hi) (h4:hi<2^62)
  (q:R (Ao hi (hi-lo).toNat) H):wpAny (model X.prog X.w) X.A (pyIter (.ref s.heap.objs.size)) (G6 X pins σ tg R) E {s with heap:=s.heap.push {cls:=.type "range",data:=.fields #[.int hi t,.int lo u,.int (-1) v]},toks:=tk}:=by
 refine wpAny_pyIter_range (IsRange.new ..) (small_down h1 h2 h3 h4) ?_
 have I1:Inv X pins σ H {s with heap:=s.heap.push {cls:=.type "range",data:=.fields #[.int hi t,.int lo u,.int (-1) v]},toks:=tk}:=I.kept λb o e=>akX _ e
 refine⟨(s.heap.push {cls:=.type "range",data:=.fields #[.int hi t,.int lo u,.int (-1) v]}).objs.size,[(s.heap.push {cls:=.type "range",data:=.fields #[.int hi t,.int lo u,.int (-1) v]}).objs.size],_,_,H,rfl,
  I1.kept (t':=tk) λb o e=>akX _ e,QN _ hi (hi-lo).toNat,?_,λb hb=>?_,q⟩
 ·have e1:hi+((0:Nat):Int)*(-1)=hi:=by simp
  have e2:(((hi-lo).toNat:Nat):Int)-((0:Nat):Int)=Builtin.Range.rangeSize hi lo (-1):=by rw[aoi];split<;>omega
  show IsRangeIter _ _ (hi+((0:Nat):Int)*(-1)) ((((hi-lo).toNat:Nat):Int)-((0:Nat):Int)) (-1)
  rw[e1,e2]
  exact alb _ rfl
 ·have e:b=(s.heap.push {cls:=.type "range",data:=.fields #[.int hi t,.int lo u,.int (-1) v]}).objs.size:=by simpa using hb
  subst e
  exact I1.vI (akV _) (I1.hok.fresh (akV _))
theorem acN{lo hi:Int}{st:aa->Prop}:JS K ρ H ⟨ja hi lo,st⟩ (Ao hi (hi-lo).toNat):=by
 intro ρ' H' c' W E s i
 refine⟨λd hd=>?_,λe=>?_⟩
 ·have hd:(ja hi lo)[i]? = some d:=hd
  unfold ja at hd
  rw[ale,Option.map_eq_some_iff]at hd
  obtain⟨k,hk,rfl⟩:=hd
  obtain⟨h1,h2⟩:=ala.mp hk
  rw[anc]at h2
  subst h2
  have h1:i<(hi-lo).toNat:=by simpa using h1
  refine⟨h1,λx H2 hy=>?_⟩
  obtain⟨rfl,rfl⟩:=hy
  exact⟨W,Ext.refl,rfl⟩
 ·have:(ja hi lo).length=(hi-lo).toNat:=by simp[ja]
  show(hi-lo).toNat<=i
  rw[e]
  exact aml this.symm
def ada(ta:TA):TI:=λσ H R=>ta σ H λvs H1=>∃i j:Int,vs=[.int i,.int j,.int (-1)]/\(-(2^62)<=i/\i<2^62/\-(2^62)<=j/\j<2^62)/\R (Ao i (i-j).toNat) H1
theorem Wu{a b c:Expr}{ta:TA}{p pos:Pos}(hg:Gl X "range") (hm:X.mg "range"=none) (ha:PA X [a,b,c] ta) (hs:starEach [a,b,c] X.env=(false,eval a X.env)::starEach [b,c] X.env:=by exact cJ rfl) (hs2:(backTo pos (starEach [b,c] X.env)).any (·.1)=false:=by exact fE rfl) :
  PI X tg (.Call (.Name "range" p) [a,b,c] [] pos) (ada ta):=by
 intro pins s σ H R I h
 refine Call_ (kT I hg hm boot_range (amu (bh (ha pos pins s σ H _ I h) λus s1 ⟨vs,H1,I1,r1,q1⟩=>?_) hs hs2))
 obtain⟨i,j,e,⟨q1,q2,q3,q4⟩,q⟩:=q1
 subst e
 obtain⟨u,v,w,rfl,⟨t1,rfl⟩,⟨t2,rfl⟩,⟨t3,rfl⟩⟩:=vals3 r1
 exact call_range_3 (by decide) (afa I1 q3 q4 q1 q2 q) (.inl (aoT (by decide)))
theorem ac6{a b c:Expr}{da:aj}{p pos:Pos}(ha:fh X [a,b,c] da) (hm:X.mg "range"=none) (hg:Gl X "range":=by rfl) (hs:starEach [a,b,c] X.env=(false,eval a X.env)::starEach [b,c] X.env:=by exact cJ rfl) (hs2:(backTo pos (starEach [b,c] X.env)).any (·.1)=false:=by exact fE rfl):PId X tg (.Call (.Name "range" p) [a,b,c] [] pos) (sR da) :=
 (Wu hg hm ha hs hs2).imp λσ H Q h=>by
  obtain⟨ρ,e,c,W,V,p⟩:=h
  refine⟨ρ,e,c,W,V,post.bind p λx c1 aK H1 v _ W1 X1 r1 p1=>?_⟩
  split at p1
  ·rename_i i j s _
   split at p1
   ·rename_i hj
    obtain⟨rfl,hj⟩:=hj
    obtain⟨u,v,w,rfl,ru,rv,rw'⟩:=Uv r1
    cases ru;cases rv;cases rw'
    exact⟨i,j,rfl,hj,p1.here W1 acN⟩
   ·exact p1.elim
  ·exact p1.elim
end
section
variable (e:Ev) (c:aa) (l:aj)
@[simp] theorem ajf:sR l e c=(l e c).bind λxs c=>match xs with
 |[.int i,.int j,.int s]=>if s = -1/\-(2^62)<=i/\i<2^62/\-(2^62)<=j/\j<2^62 then .ok ⟨ja i j,λ_=>True⟩ c else .bad
 |_=>.bad:=rfl
end
theorem aJ.rep{K:PySem.W.Frag}{ρ:List Addr}{H:Hp}{l:List D}{xs:List V}(r:aJ K ρ H l xs):∀n:Nat,aJ K ρ H (List.replicate n l).flatten (List.replicate n xs).flatten
 |0=>rfl
 |n+1=>by
  rw[al9,al9,amj,amj]
  exact aJ.append r (aJ.rep r n)
def jI:D->D->aa->R D:=λx y c=>match x,y with
 |.lst l,.int k=>if -(2^63)<=k/\k<2^63/\l.length*k.toNat<=sizeLine/\bE l=true then .ok (.ref c.length) (c++[.lst (List.replicate k.toNat l).flatten])else .bad
 |_,_=>.bad
theorem Kh{l:List D}(h:bE l=true):∀n:Nat,bE (List.replicate n l).flatten=true
 |0=>by simp
 |n+1=>by rw[al9,amj,uN,h,Kh h n];rfl
theorem JW{X:Cx}:bQ X (binaryOp .Mult) (r2 X.K jI):=by
 intro pins s σ H v u vv uu Q I rv ru h
 obtain⟨ρ,x,y,c,W,rx,ry,p⟩:=h
 unfold jI at p
 split at p
 ·split at p
  ·rename_i hl
   obtain⟨a,xs,rfl,sa,ra⟩:=rx
   cases ry
   exact Xw pins s σ H _ _ vv uu Q I rv ru ⟨a,_,xs,rfl,rfl,sa.1,hl.1,hl.2.1,by rw[ra.length];exact hl.2.2.1,BN W (Kh hl.2.2.2 _) (aJ.rep ra _) p⟩
  ·exact p.elim
 ·exact p.elim
def lz(o a:af):af:=λe c=>(o e c).bind λx c=>match x with
 |.ref k=>(a e c).bind λy c=>match y with
  |.lst m=>match c[k]? with
   |some (.lst l)=>if l.length+m.length<=sizeLine/\bE m=true then .ok .aO (c.set k (.lst (l++m)))else .bad
   |none=>.bad
  |_=>.bad
 |_=>.bad
theorem JF{X:Cx}{o e:Expr}{dO da:af}{apos cpos:Pos}(ho:bf X o dO) (ha:bf X e da)
  (hbase:attributeBase o "extend" X.env (eval o X.env)=eval o X.env:=by rfl)
  (hfew:((backTo cpos (starEach [e] X.env)).all (λx=>!x.1)&&(backToKw cpos (keywordEach [] X.env)).all (λx=>x.1.isSome)
   && decide ([e].length+([]:List Keyword).length+(if([]:List Keyword).isEmpty then 0 else 1)<30))=true:=by exact A0 rfl)
  (hline:(apos.endLine==cpos.line)=true:=by rfl) (hs:starEach [e] X.env=(false,eval e X.env)::starEach [] X.env:=by exact cJ rfl) (hplain:(backTo cpos (starEach [] X.env)).any (·.1)=false:=by exact fE rfl) :
  bf X (.Call (.Attribute o "extend" apos) [e] [] cpos) (lz dO da) :=
 (Bv aoh PySem.F.slot_list_extend PySem.F.type_list_extend abb ho (jl ha jP hs) hbase hfew hline hs hplain).imp λσ H Q h=>by
  obtain⟨ρ,e,c,W,V,p⟩:=h
  refine⟨ρ,e,c,W,V,post.bind p λx c1 aK H1 v _ W1 X1 r1 p1=>?_⟩
  cases x with
  |ref k =>
   obtain⟨a,rfl,ha⟩:=r1
   obtain⟨xs,hx⟩:=W1.at' (alo ha)
   refine⟨.inl ⟨rfl,xs,bH.of hx⟩,aK,e,c1,W1,V.mono W X1,post.bind p1 λy c2 cX H2 u _ W2 X2 r2 p2=>?_⟩
   cases y with
   |lst m =>
    obtain⟨b,zs,rfl,sb,rb⟩:=r2
    dsimp only at p2
    split at p2
    ·rename_i l hl
     split at p2
     ·rename_i hh
      obtain⟨nr,ys,hy,rl⟩:=W2.fM k a _ (X2.pre k a ha) hl
      refine⟨a,b,ys,zs,rfl,rfl,hy,sb.1,by rw[rl.length,rb.length];exact hh.1,?_⟩
      refine p2 cX _ .aO (W2.write (X2.pre k a ha) (by rw[uN,nr,hh.2];rfl) (rl.append rb)) (Ext.write (X2.pre k a ha)) rfl
     ·exact p2.elim
    ·exact p2.elim
   |_=>exact p2.elim
  |_=>exact p1.elim
section
variable (e:Ev) (c:aa) (o a:af)
@[simp] theorem PK(m:List D) (k:Int):jI (.lst m) (.int k) c=if -(2^63)<=k/\k<2^63/\m.length*k.toNat<=sizeLine/\bE m=true then .ok (.ref c.length) (c++[.lst (List.replicate k.toNat m).flatten])else .bad:=rfl
end
theorem k9{α:Type}{st:aa->Prop}{g:Gd}{s:ah}(C:Nat->aa) (E:Nat->α->Ev):∀(items:List D) (k:Nat) (v:α),(∀i,i<=items.length->st (C (k+i))) ->
  (∀i x,items[i]? = some x->∀v,∃e',g x (E (k+i) v) (C (k+i))=.ok e' (C (k+i))/\∃v',s e' (C (k+i))=.ok (.nx (E (k+i+1) v')) (C (k+i+1))) ->
  ∃v',dg st g s items (E k v) (C k)=.ok (.nx (E (k+items.length) v')) (C (k+items.length))
 |[],k,v,hst,_=>⟨v,by
   have:=hst 0 (akV _)
   rw[amN]at this
   unfold dg
   rw[if_pos this];rfl⟩
 |x::xs,k,v,hst,h=>by
  obtain⟨e',h1,v',h2⟩:=h 0 x rfl v
  obtain⟨v2,h3⟩:=k9 C E xs (k+1) v' (λi hi=>by
   have:=hst (i+1) (by simp only[alc];omega)
   rwa[show k+(i+1)=k+1+i by omega]at this) (λi y hy v=>by
   have:=h (i+1) y (by simpa using hy) v
   rwa[show k+(i+1)=k+1+i by omega]at this)
  refine⟨v2,?_⟩
  unfold dg
  rw[if_pos (by have:=hst 0 (alW _);exact this)]
  rw[amN]at h1 h2
  rw[h1,R.aA,h2]
  simp only[R.aA]
  rw[h3,alc,show k+(xs.length+1)=k+1+xs.length by omega]
theorem nK{α:Type}{g:Gd}{s:ah}(C:Nat->aa) (E:Nat->α->Ev) {N:Int}{n:Nat}(hN:N=n) (v:α)
  (h:∀i,i<n->∀v,∃e',g (.int (i:Nat)) (E i v) (C i)=.ok e' (C i)/\∃v',s e' (C i)=.ok (.nx (E (i+1) v')) (C (i+1))) :
  ∃v',dg (λ_=>True) g s (aT 0 N) (E 0 v) (C 0)=.ok (.nx (E n v')) (C n):=by
 have hl:(aT 0 N).length=n:=by rw[e8];omega
 have:=k9 (st:=λ_=>True) C E (aT 0 N) 0 v (λ_ _=>trivial) (λi x hx v=>by
  obtain⟨h1,rfl⟩:=xD hx
  rw[alr,Int.zero_add]
  exact h i (by omega) v)
 rwa[hl,alr]at this
theorem DN{c:aa}{l:List D}{i:Int}{j:Nat}{d:D}(hi:i=j) (h:l[j]? = some d):aE (.ref c.length) (.int i) (c++[.lst l])=.ok d (c++[.lst l]):=by
 subst hi
 unfold aE fP
 simp only[aoj]
 have:=gO (xs:=l) (j:=j) (v:=d) h
 rw[this]
theorem IU{c:aa}{l:List D}{i:Int}{j:Nat}{d:D}(hi:i=j) (h:j<l.length) (hd:noRef d=true):kE (.ref c.length) (.int i) d (c++[.lst l])=.ok () (c++[.lst (l.set j d)]):=by
 subst hi
 unfold kE
 simp[fV,h,hd]
def allInts:List Expr->Option (List Int)
 |[]=>some []
 |e::r=>match e with
  |.Constant (.int i) _ _=>(allInts r).map (i :: ·)
  |_=>none
def ff(l:List Int):aj:=λ_ c=>.ok (l.map D.int) c
theorem ng{X:Cx}:∀{es:List Expr}{l:List Int},allInts es=some l->fh X es (ff l)
 |[],l,h=>by cases h;exact aB
 |e::es,l,h=>by
  unfold allInts at h
  split at h
  ·rename_i i j pos
   cases q:allInts es with
   |none=>rw[q]at h;cases h
   |some r =>
    rw[q]at h
    cases h
    exact ay aX (ng q) (cJ rfl)
  ·cases h
@[simp] theorem x_ints(l:List Int) (e:Ev) (c:aa):ff l e c=.ok (l.map D.int) c:=rfl
abbrev Up(l:List Nat):Prop:=l.Pairwise (· < ·)
theorem getD_list(xs:Array Nat) (i d:Nat):xs.getD i d=xs.toList.getD i d:=by
 simp[apc,alf]
theorem ua{l:List Nat}(h:Up l) {i k:Nat}(hik:i<k) (hk:k<l.length):l.getD i 0<l.getD k 0:=by
 have:=ane.mp h i k (by omega) hk hik
 simpa[alf,ak3 hk,ak3 (show i<l.length by omega)]using this
def Parts(l:List Nat) (j p:Nat):Prop:=p<=l.length/\(∀i,i<p->l.getD i 0<j)/\∀i,p<=i->i<l.length->j<=l.getD i 0
theorem GW{xs:Array Nat}{j:Nat}(h:Up xs.toList):∀fuel lo hi,lo<=hi->hi<=xs.toList.length->hi-lo<=fuel->(∀i,i<lo->xs.toList.getD i 0<j)->(∀i,hi<=i->i<xs.toList.length->j<=xs.toList.getD i 0) ->
  Parts xs.toList j (SetTable.below.go xs j fuel lo hi)
 |0,lo,hi,h1,h2,h3,h4,h5=>⟨by unfold SetTable.below.go;omega,λi hi'=>h4 i (by unfold SetTable.below.go at hi';exact hi'),λi hi'=>h5 i (by unfold SetTable.below.go at hi';omega)⟩
 |fuel+1,lo,hi,h1,h2,h3,h4,h5=>by
  unfold SetTable.below.go
  by_cases hl:lo<hi
  ·rw[if_pos hl]
   dsimp only
   have hm:(lo+hi)/2<xs.toList.length:=by omega
   have he:xs.getD ((lo+hi)/2) j=xs.toList.getD ((lo+hi)/2) 0:=by
    rw[getD_list];simp[alf,ak3 hm]
   rw[he]
   by_cases hc:xs.toList.getD ((lo+hi)/2) 0<j
   ·rw[if_pos hc]
    refine GW h fuel _ _ (by omega) h2 (by omega) (λi hi'=>?_) h5
    by_cases hq:i=(lo+hi)/2
    ·rw[hq];exact hc
    ·exact aok (ua h (show i<(lo+hi)/2 by omega) hm) hc
   ·rw[if_neg hc]
    refine GW h fuel _ _ (by omega) (by omega) (by omega) h4 (λi hi' hl'=>?_)
    by_cases hq:i=(lo+hi)/2
    ·rw[hq];omega
    ·exact alk (by omega) (amg (ua h (show(lo+hi)/2<i by omega) hl'))
  ·rw[if_neg hl]
   exact⟨by omega,h4,λi hi'=>h5 i (by omega)⟩
theorem Af{xs:Array Nat}(h:Up xs.toList) (j:Nat):Parts xs.toList j (SetTable.below xs j):=by
 unfold SetTable.below
 exact GW h _ _ _ (alW _) (by simp) (by simp) (λi hi=>absurd hi (anI _)) (λi h1 h2=>by simp at h2;omega)
theorem ahL{xs:Array Nat}(h:Up xs.toList):SetTable.below xs 0=0:=by
 obtain⟨_,h2,_⟩:=Af h 0
 rcases aol (SetTable.below xs 0)with e|e
 ·exact e
 ·exact absurd (h2 0 e) (anI _)
theorem ahM{xs:Array Nat}(h:Up xs.toList) {i:Nat}(hi:i<xs.toList.length):SetTable.below xs (xs.toList.getD i 0+1)=i+1:=by
 obtain⟨h1,h2,h3⟩:=Af h (xs.toList.getD i 0+1)
 rcases anJ (SetTable.below xs (xs.toList.getD i 0+1)) (i+1)with e|e|e
 ·have:=h3 i (by omega) hi;omega
 ·exact e
 ·have a:=h2 (i+1) e
  have b:=ua h (show i<i+1 by omega) (show i+1<xs.toList.length by omega)
  omega
theorem GV{xs:Array Nat}(h:Up xs.toList) {j:Nat}(hj:j∈xs.toList):xs[SetTable.below xs j]? = some j:=by
 obtain⟨i,hi,e⟩:=amz hj
 obtain⟨h1,h2,h3⟩:=Af h j
 have e':xs.toList.getD i 0=j:=by rw[alf,ak3 hi];exact e
 have hp:SetTable.below xs j=i:=by
  rcases anJ (SetTable.below xs j) i with q|q|q
  ·have a:=h3 (SetTable.below xs j) (akV _) (by omega)
   have b:=ua h q hi
   omega
  ·exact q
  ·have a:=h2 i q;omega
 rw[hp,<-alw,ak3 hi,e]
theorem HP{xs:Array Nat}(h:Up xs.toList) {j:Nat}(hj:j∉xs.toList):Up (SetTable.insertAt xs (SetTable.below xs j) j).toList:=by
 rw[anK]
 obtain⟨h1,h2,h3⟩:=Af h j
 generalize SetTable.below xs j=p at h1 h2 h3
 have ht:∀a∈xs.toList.take p,a<j:=by
  intro a ha
  obtain⟨i,hi,e⟩:=amz ha
  have hi':i<p/\i<xs.toList.length:=by simp at hi ⊢;omega
  have:=h2 i hi'.1
  rw[anH]at e
  rw[alf,ak3 hi'.2]at this
  simpa[<-e]using this
 have hd:∀a∈xs.toList.drop p,j<a:=by
  intro a ha
  have hm:a∈xs.toList:=anL ha
  obtain⟨i,hi,e⟩:=amz ha
  have hi':p+i<xs.toList.length:=by simp at hi ⊢;omega
  have:=h3 (p+i) (by omega) hi'
  rw[List.getElem_drop]at e
  rw[alf,ak3 hi']at this
  have hle:j<=a:=by simpa[<-e]using this
  exact Nat.lt_of_le_of_ne hle λq=>hj (q▸hm)
 refine List.pairwise_append.mpr ⟨h.sublist (an5 _ _),amP.mpr ⟨hd,h.sublist (List.drop_sublist _ _)⟩,λa ha b hb=>?_⟩
 rcases akY.mp hb with rfl|hb
 ·exact ht a ha
 ·exact aok (ht a ha) (hd b hb)
theorem Bu:∀(n:Nat) (l:List Nat),(∀j,j<n->j∈l)->n<=l.length
 |0,_,_=>alW _
 |n+1,l,h=>by
  have hn:=h n (al2 _)
  have:=Bu n (l.erase n) λj hj=>(aom (by omega)).mpr (h j (by omega))
  rw[aon hn]at this
  have:=apd hn
  omega
def fX(mask:Nat):Nat->Nat->Nat->Nat->Nat->Nat->Bool
 |0,_,_,_,_,_=>false
 |n+1,j,more,i,q,acc =>
  if acc |||(1 <<< j)=2^(mask+1)-1 then true
  else if more>0 then fX mask n (j+1) (more-1) i q (acc |||(1 <<< j))
  else fX mask n ((i*5+1+q/32) % (mask+1)) (SetTable.runEnd mask ((i*5+1+q/32) % (mask+1))-(i*5+1+q/32) % (mask+1)) ((i*5+1+q/32) % (mask+1)) (q/32) (acc |||(1 <<< j))
def Aa(mask:Nat):Bool:=(List.range 128).all λh=>fX mask (10*(mask+15)) (h % (mask+1)) (SetTable.runEnd mask (h % (mask+1))-h % (mask+1)) (h % (mask+1)) h 0
def nP(mask:Nat):Nat->Nat->Nat->Nat->Bool
 |0,_,_,_=>false
 |n+1,i,q,acc =>
  if acc |||((2^(SetTable.runEnd mask i+1-i)-1) <<< i)=2^(mask+1)-1 then true
  else nP mask n ((i*5+1+q/32) % (mask+1)) (q/32) (acc |||((2^(SetTable.runEnd mask i+1-i)-1) <<< i))
def FW(mask:Nat):Bool:=(List.range 128).all λh=>nP mask (mask+15) (h % (mask+1)) h 0
theorem ag0:Aa 7=true:=by decide +kernel
theorem ag1:Aa 31=true:=by decide +kernel
theorem ag2:Aa 127=true:=by decide +kernel
theorem agY:FW 31=true:=by decide +kernel
theorem agZ:FW 127=true:=by decide +kernel
theorem Ae(acc j k:Nat):(acc |||(1 <<< j)).testBit k=(acc.testBit k||decide (k=j)):=by
 rw[Nat.testBit_or,Nat.one_shiftLeft,Nat.testBit_two_pow]
 by_cases h:j=k
 ·subst h;simp
 ·simp[h,alF h]
theorem z9{mask:Nat}:∀n j more i q acc,fX mask n j more i q acc=true->∀k,acc.testBit k=true->k<=mask
 |0,_,_,_,_,_,h,_,_=>by cases h
 |n+1,j,more,i,q,acc,h,k,hk=>by
  have hk':(acc |||(1 <<< j)).testBit k=true:=by rw[Ae,hk];rfl
  unfold fX at h
  split at h
  ·rename_i e
   rw[e,amQ]at hk'
   have:=of_decide_eq_true hk';omega
  ·split at h
   ·exact z9 _ _ _ _ _ _ h k hk'
   ·exact z9 _ _ _ _ _ _ h k hk'
theorem A1{t:SetTable}(hd:t.dummies=#[]) (j:Nat):t.slot j=.empty\/∃i,t.slot j=.live i:=by
 unfold SetTable.slot
 dsimp only
 split
 ·exact .inr ⟨_,rfl⟩
 ·rw[hd]
  exact .inl rfl
theorem Ef{t:SetTable}{h:Int}(hd:t.dummies=#[]):∀n (p:SetTable.Probe) acc fuel,fX t.mask n p.j p.more p.i p.perturb acc=true->p.dummy=none->n<=fuel ->
  (∀k,acc.testBit k=true->t.slot k≠.empty)->(∃j,j<=t.mask/\t.slot j=.empty) ->
  ∃j,SetTable.probe.go t (λ_=>h+1) h fuel p=some (.empty j none)/\t.slot j=.empty/\j<=t.mask
 |0,_,_,_,h,_,_,_,_=>by simp[fX]at h
 |n+1,p,acc,0,_,_,h,_,_=>by omega
 |n+1,p,acc,fuel+1,hc,hn,hf,ha,hj=>by
  have hle:p.j<=t.mask:=by
   have hk':(acc |||(1 <<< p.j)).testBit p.j=true:=by rw[Ae];simp
   unfold fX at hc
   split at hc
   ·rename_i e
    rw[e,amQ]at hk'
    have:=of_decide_eq_true hk';omega
   ·split at hc
    ·exact z9 _ _ _ _ _ _ hc _ hk'
    ·exact z9 _ _ _ _ _ _ hc _ hk'
  unfold SetTable.probe.go
  rcases A1 hd p.j with e|⟨i,e⟩
  ·rw[e]
   dsimp only
   exact⟨p.j,by rw[hn],e,hle⟩
  ·rw[e]
   dsimp only
   have hne:(h+1==h)=false:=by simp;omega
   rw[hne]
   simp only[alB,if_false]
   have ha':∀k,(acc |||(1 <<< p.j)).testBit k=true->t.slot k≠.empty:=by
    intro k hk
    rw[Ae,amx,decide_eq_true_eq]at hk
    rcases hk with hk|rfl
    ·exact ha k hk
    ·rw[e];intro q;cases q
   unfold fX at hc
   split at hc
   ·rename_i ef
    obtain⟨j0,h0,e0⟩:=hj
    exact absurd e0 (ha' j0 (by rw[ef,amQ];exact decide_eq_true (by omega)))
   ·split at hc
    ·rename_i hm
     have pK:t.advance p={p with j:=p.j+1,more:=p.more-1}:=by unfold SetTable.advance;rw[if_pos hm]
     rw[pK]
     exact Ef hd n _ _ fuel hc hn (by omega) ha' hj
    ·rename_i hm
     have pK:t.advance p={p with j:=(p.i*5+1+p.perturb/32) % (t.mask+1),more:=SetTable.runEnd t.mask ((p.i*5+1+p.perturb/32) % (t.mask+1))-(p.i*5+1+p.perturb/32) % (t.mask+1),i:=(p.i*5+1+p.perturb/32) % (t.mask+1),perturb:=p.perturb/32}:=by
      unfold SetTable.advance;rw[if_neg hm];rfl
     rw[pK]
     exact Ef hd n _ _ fuel hc hn (by omega) ha' hj
theorem NZ{n:Nat}(h:n<128):SetTable.bits (n:Int)=n:=by
 unfold SetTable.bits
 have:((n:Int) % (2^64:Int))=n:=ape (by omega) (by omega)
 rw[this];rfl
def oM(m:Nat):Prop:=m=7\/m=31\/m=127
theorem agW{m:Nat}(h:oM m) {n:Nat}(hn:n<128):fX m (10*(m+15)) (n % (m+1)) (SetTable.runEnd m (n % (m+1))-n % (m+1)) (n % (m+1)) n 0=true:=by
 have:Aa m=true:=h.elim (λe=>e▸ag0) λh=>h.elim (λe=>e▸ag1) λe=>e▸ag2
 exact ak2.mp this n (akZ.mpr hn)
theorem aez{t:SetTable}{n:Nat}(hd:t.dummies=#[]) (hm:oM t.mask) (hn:n<128) (hs:t.place.toList.length<=t.mask) (hu:Up t.place.toList) :
  ∃j,t.freeSlot (n:Int)=some (j,false)/\j∉t.place.toList/\j<=t.mask:=by
 have hmem:∀j,t.slot j=.empty->j∉t.place.toList:=by
  intro j e hj
  unfold SetTable.slot at e
  dsimp only at e
  rw[GV hu hj]at e
  simp at e
 have adW:∀j,j∉t.place.toList->t.slot j=.empty:=by
  intro j hj
  rcases A1 hd j with e|⟨i,e⟩
  ·exact e
  ·unfold SetTable.slot at e
   dsimp only at e
   split at e
   ·rename_i q
    have:=eq_of_beq q
    rw[<-alw]at this
    exact absurd (alo this) hj
   ·split at e<;>cases e
 have hex:∃j,j<=t.mask/\t.slot j=.empty:=by
  by_cases q:∃j,j<=t.mask/\j∉t.place.toList
  ·obtain⟨j,a,b⟩:=q;exact⟨j,a,adW j b⟩
  ·have:=Bu (t.mask+1) t.place.toList λj hj=>anM λx=>q ⟨j,by omega,x⟩
   omega
 have hb:=NZ hn
 obtain⟨j,e,e1,e2⟩:=Ef (t:=t) (h:=(n:Int)) hd (10*(t.mask+15)) (t.probeStart n) 0 (10*SetTable.turns t.mask)
  (by show fX _ _ (SetTable.bits n % _) (SetTable.runEnd t.mask (SetTable.bits n % (t.mask+1))-SetTable.bits n % (t.mask+1)) (SetTable.bits n % _) (SetTable.bits n) _=true;rw[hb];exact agW hm hn) rfl (akV _) (λk hk=>by simp at hk) hex
 refine⟨j,?_,hmem j e1,e2⟩
 unfold SetTable.freeSlot SetTable.probe
 rw[e]
 rfl
theorem Ug(c i k:Nat):((2^c-1) <<< i).testBit k=decide (i<=k/\k<i+c):=by
 rw[Nat.testBit_shiftLeft,amQ]
 by_cases h:i<=k
 ·simp only[ge_iff_le,h,decide_true,aoo,true_and]
  exact decide_eq_decide.mpr (by omega)
 ·simp[h]
theorem Cg{mask:Nat}{owner:Array (Option Nat)}:∀n i q acc fuel,nP mask n i q acc=true->n<=fuel->(∀k,k<=mask->acc.testBit k=true->owner.getD k (some 0)≠none) ->
  (∃j,j<=mask/\owner.getD j (some 0)=none)->∃j,SetTable.layClean.free mask owner fuel i q=some j/\owner.getD j (some 0)=none
 |0,_,_,_,_,h,_,_,_=>by simp[nP]at h
 |n+1,i,q,acc,0,_,h,_,_=>by omega
 |n+1,i,q,acc,fuel+1,hc,hf,ha,hj=>by
  unfold SetTable.layClean.free
  cases hr:(List.range (SetTable.runEnd mask i+1-i)).find? (λk=>(owner.getD (i+k) (some 0)).isNone)with
  |some k =>
   dsimp only
   have:=List.find?_some hr
   exact⟨i+k,rfl,by simpa using this⟩
  |none =>
   dsimp only
   have hno:=apf.mp hr
   have ha':∀k,k<=mask->(acc |||((2^(SetTable.runEnd mask i+1-i)-1) <<< i)).testBit k=true->owner.getD k (some 0)≠none:=by
    intro k hk hb
    rw[Nat.testBit_or,Ug,amx,decide_eq_true_eq]at hb
    rcases hb with hb|hb
    ·exact ha k hk hb
    ·intro e
     have:=hno (k-i) (akZ.mpr (by omega))
     rw[show i+(k-i)=k by omega,e]at this
     exact this rfl
   unfold nP at hc
   split at hc
   ·rename_i ef
    obtain⟨j0,h0,e0⟩:=hj
    exact absurd e0 (ha' j0 h0 (by rw[ef,amQ];exact decide_eq_true (by omega)))
   ·exact Cg n _ _ _ fuel hc (by omega) ha' hj
def iX(m:Nat):Prop:=m=31\/m=127
theorem agX{m:Nat}(h:iX m) {n:Nat}(hn:n<128):nP m (m+15) (n % (m+1)) n 0=true:=by
 have:FW m=true:=h.elim (λe=>e▸agY) λe=>e▸agZ
 exact ak2.mp this n (akZ.mpr hn)
theorem Ej:∀(l:List (Option Nat)) (j k:Nat),j<l.length->l.getD j (some 0)=none->((l.set j (some k)).filterMap id).Perm (k::l.filterMap id)
 |[],_,_,h,_=>absurd h (anI _)
 |x::l,0,k,_,e=>by
  have:x=none:=by simpa using e
  subst this
  simp
 |x::l,j+1,k,h,e=>by
  have ih:=Ej l j k (by simpa using h) (by simpa using e)
  rw[amc]
  cases x with
  |none=>simpa using ih
  |some a =>
   simp only[am2,id]
   exact(ih.cons a).trans (List.Perm.swap _ _ _)
theorem Ek:∀(l:List (Option Nat)),(∀j,j<l.length->l.getD j (some 0)≠none)->(l.filterMap id).length=l.length
 |[],_=>rfl
 |x::l,h=>by
  cases x with
  |none=>exact absurd rfl (h 0 (by simp))
  |some a =>
   have:=Ek l λj hj=>by simpa using h (j+1) (by simpa using hj)
   simp[this]
def qj(mask:Nat) (owner:Array (Option Nat)) (k:Nat):Prop:=owner.toList.length=mask+1/\(owner.toList.filterMap id).Perm (List.range k)
theorem i7(xs:Array (Option Nat)) (i:Nat) (d:Option Nat):xs.getD i d=xs.toList.getD i d:=by
 simp[apc,alf]
theorem abB{mask:Nat}{owner:Array (Option Nat)}{k n:Nat}(hm:iX mask) (hn:n<128) (I:qj mask owner k) (hk:k<=mask) :
  ∃j,SetTable.layClean.free mask owner (SetTable.turns mask) (SetTable.bits n % (mask+1)) (SetTable.bits n)=some j/\qj mask (owner.setIfInBounds j (some k)) (k+1):=by
 obtain⟨h1,h2⟩:=I
 have hex:∃j,j<=mask/\owner.getD j (some 0)=none:=by
  by_cases q:∃j,j<=mask/\owner.getD j (some 0)=none
  ·exact q
  ·have:=Ek owner.toList λj hj e=>q ⟨j,by omega,by rw[i7];exact e⟩
   have h3:=h2.length_eq
   rw[alR]at h3
   omega
 obtain⟨j,e,e1⟩:=Cg (mask+15) _ _ 0 (SetTable.turns mask) (agX hm hn) (akV _) (λk _ hb=>by simp at hb) hex
 refine⟨j,by rw[NZ hn];exact e,by simpa using h1,?_⟩
 rw[i7]at e1
 have hj:j<owner.toList.length:=by
  rcases anN j owner.toList.length with q|q
  ·exact q
  ·rw[alf,amy q]at e1;cases e1
 rw[anO]
 refine(Ej _ j k hj e1).trans ?_
 rw[amd]
 exact(h2.cons k).trans (anP k _).symm
theorem KW{mask:Nat}(hm:iX mask):∀(hs:List Int) (owner:Array (Option Nat)) (k:Nat),(∀h∈hs,∃n:Nat,h=n/\n<128)->qj mask owner k->k+hs.length<=mask ->
  ∃ow,hs.foldl (λacc h=>(do
   let(owner,k) <-acc
   let j <-SetTable.layClean.free mask owner (SetTable.turns mask) (SetTable.bits h % (mask+1)) (SetTable.bits h)
   pure (owner.setIfInBounds j (some k),k+1):Option (Array (Option Nat)×Nat))) (some (owner,k))=some (ow,k+hs.length)/\qj mask ow (k+hs.length)
 |[],owner,k,_,I,_=>⟨owner,rfl,I⟩
 |h::hs,owner,k,hh,I,hl=>by
  obtain⟨n,e,hn⟩:=hh h (.head _)
  subst e
  simp only[alc]at hl
  obtain⟨j,e,I'⟩:=abB hm hn I (by omega)
  obtain⟨ow,e',wF⟩:=KW hm hs _ (k+1) (λh x=>hh h (.tail _ x)) I' (by omega)
  refine⟨ow,?_,by rw[alc,show k+(hs.length+1)=k+1+hs.length by omega];exact wF⟩
  rw[amw,alc,show k+(hs.length+1)=k+1+hs.length by omega,<-e']
  congr 1
  show(do let j <-SetTable.layClean.free mask owner (SetTable.turns mask) (SetTable.bits n % (mask+1)) (SetTable.bits n);pure (owner.setIfInBounds j (some k),k+1):Option (Array (Option Nat)×Nat))=_
  rw[e]
  rfl
theorem abD{mask:Nat}(hm:iX mask) (hs:Array Int) (hh:∀h∈hs.toList,∃n:Nat,h=n/\n<128) (hl:hs.toList.length<=mask) :
  ∃ow,SetTable.layClean mask hs=some ow/\qj mask ow hs.toList.length:=by
 obtain⟨ow,e,I⟩:=KW hm hs.toList (Array.replicate (mask+1) none) 0 hh ⟨by simp,by simp⟩ (by omega)
 rw[alr]at e I
 refine⟨ow,?_,I⟩
 unfold SetTable.layClean
 rw[<-apg]
 exact congrArg (Option.map (λx:Array (Option Nat)×Nat=>x.1)) e
theorem Bl(l:List (Option Nat)):(List.range l.length).filterMap (λj=>l.getD j none)=l.filterMap id:=by
 have:l=(List.range l.length).map (λj=>l.getD j none):=by
  apply anQ
  ·simp
  ·intro i h1 h2
   simp[alf,ak3 h1]
 conv=>rhs;rw[this]
 rw[List.filterMap_map]
 rfl
theorem abQ{mask:Nat}(hm:iX mask) (f mv:Nat) (led plain:Bool) (hs:Array Int) (hh:∀h∈hs.toList,∃n:Nat,h=n/\n<128) (hl:hs.toList.length<=mask) :
  ∃place order,SetTable.laid mask f mv led plain hs=some ({mask:=mask,place:=place,dummies:=#[],finger:=f,led:=led,moves:=mv,plain:=plain},order)/\Up place.toList/\(∀j∈place.toList,j<=mask)/\place.size=hs.size/\order.toList.Perm (List.range hs.size):=by
 obtain⟨ow,e,h1,h2⟩:=abD hm hs hh hl
 refine⟨(((List.range (mask+1)).filterMap λj=>(ow.getD j none).map (j,·)).map (·.1)).toArray,(((List.range (mask+1)).filterMap λj=>(ow.getD j none).map (j,·)).map (·.2)).toArray,?_,?_,?_,?_,?_⟩
 ·unfold SetTable.laid
  rw[e]
  rfl
 ·show Up ((((List.range (mask+1)).filterMap λj=>(ow.getD j none).map (j,·)).map (·.1)).toArray).toList
  show List.Pairwise _ _
  rw[amR]
  refine aph _ (λa a' hlt b hb b' hb'=>?_) anR
  cases ha:ow.getD a none<;>rw[ha]at hb<;>simp at hb
  cases ha':ow.getD a' none<;>rw[ha']at hb'<;>simp at hb'
  rw[<-hb,<-hb']
  exact hlt
 ·intro j hj
  simp only[akW,amv,akZ]at hj
  obtain⟨⟨a,b⟩,⟨c,hc,hq⟩,rfl⟩:=hj
  cases ha:ow.getD c none<;>rw[ha]at hq<;>simp at hq
  obtain⟨rfl,_⟩:=hq
  omega
 ·have:((List.range (mask+1)).filterMap λj=>(ow.getD j none).map (j,·)).length=(ow.toList.filterMap id).length:=by
   rw[<-Bl,h1,<-ak4 (f:=Prod.snd),aop]
   congr 1
   congr 1
   funext j
   rw[i7]
   cases ow.toList.getD j none<;>rfl
  rw[ak8,ak4,this,h2.length_eq,alR]
  simp
 ·show(((List.range (mask+1)).filterMap λj=>(ow.getD j none).map (j,·)).map (·.2)).Perm _
  have:(((List.range (mask+1)).filterMap λj=>(ow.getD j none).map (j,·)).map (·.2))=ow.toList.filterMap id:=by
   rw[<-Bl,h1,aop]
   congr 1
   funext j
   rw[i7]
   cases ow.toList.getD j none<;>rfl
  rw[this]
  simpa using h2
structure nY (t:SetTable) (n:Nat):Prop where
 size:t.place.size=n
 up:Up t.place.toList
 le:∀j∈t.place.toList,j<=t.mask
 dm:t.dummies=#[]
 mask:(t.mask=7/\n<=4)\/(t.mask=31/\n<=18)\/(t.mask=127/\n<=76)
 plain:t.plain=true
theorem nY.fits{t:SetTable}{n:Nat}(h:nY t n):t.fits n=true:=by
 have:=h.mask
 simp only[SetTable.fits,SetTable.fill,h.size,h.dm,ald,beq_self_eq_true,true_and,decide_eq_true_eq]
 simp only[ak8,aly]
 omega
theorem QS(led:Bool):nY (.fresh 0 0 led) 0:=⟨rfl,.nil,λj h=>by simp[SetTable.fresh]at h,rfl,.inl ⟨rfl,by omega⟩,rfl⟩
def HS(es:List (Int×Value)):Prop:=∀e∈es,∃n:Nat,e.1=n/\n<128
theorem abC{t:SetTable}{es:Array (Int×Value)}{x:Value}{m:Nat}(I:nY t es.size) (hm:m<128) (hn:es.size<64) :
  ∃es1 t1,layNew t es (m:Int) x=(es1,t1,false,false)/\es1.size=es.size+1/\t1.led=t.led/\t1.plain=true/\t1.place.size=es1.size/\Up t1.place.toList/\(∀j∈t1.place.toList,j<=t1.mask)/\t1.dummies=#[]/\t1.mask=t.mask/\t1.fits es1.size=true:=by
 have hk:=I.mask
 have hok:oM t.mask:=by unfold oM;omega
 have hsz:=I.size
 obtain⟨j,e,h1,h2⟩:=aez (t:=t) I.dm hok hm (by simp[hsz];omega) I.up
 have hnd:(if SetTable.has t.dummies j then SetTable.eraseAt t.dummies (SetTable.below t.dummies j)else t.dummies)=#[]:=by
  rw[I.dm];rfl
 have hs1:(SetTable.insertAt es (SetTable.below t.place j) ((m:Int),x)).size=es.size+1:=by
  rw[<-alm,(amS ..).length_eq];simp
 have hs2:(SetTable.insertAt t.place (SetTable.below t.place j) j).size=es.size+1:=by
  rw[<-alm,(amS ..).length_eq];simp[hsz]
 have hfit:(t.put j).1.fits (es.size+1)=true:=by
  simp only[SetTable.put,SetTable.fits,SetTable.fill,hnd,hs2,ald,beq_self_eq_true,true_and,decide_eq_true_eq]
  simp only[ak8,aly]
  omega
 refine⟨SetTable.insertAt es (SetTable.below t.place j) ((m:Int),x),(t.put j).1,?_,hs1,rfl,I.plain,?_,?_,?_,hnd,rfl,?_⟩
 ·unfold layNew
  rw[e]
  dsimp only
  have hp:(t.put j).2=SetTable.below t.place j:=rfl
  rw[hp,hs1]
  unfold SetTable.orStandIn
  rw[hfit]
  rfl
 ·rw[hs1];exact hs2
 ·exact HP I.up h1
 ·intro k hk'
  have:k∈(t.place.push j).toList:=(amS t.place (SetTable.below t.place j) j).mem_iff.mp hk'
  rw[anS,alz,alP]at this
  rcases this with q|rfl
  ·exact I.le k q
  ·exact h2
 ·rw[hs1];exact hfit
theorem Uw{t:SetTable}{es:Array (Int×Value)}(hp:t.plain=true) (hh:HS es.toList) (hm:(t.mask=7/\es.size=5)\/(t.mask=31/\es.size=19)) :
  ∃jw t2,relayAll t es (SetTable.grown es.size)=(jw,t2,false)/\jw.size=es.size/\nY t2 jw.size/\t2.led=t.led:=by
 have hw:∃m,SetTable.sizeAbove (SetTable.grown es.size)-1=m/\((m=31/\es.size=5)\/(m=127/\es.size=19)):=by
  rcases hm with⟨_,e⟩|⟨_,e⟩
  ·rw[e];exact⟨31,by decide,.inl ⟨rfl,rfl⟩⟩
  ·rw[e];exact⟨127,by decide,.inr ⟨rfl,rfl⟩⟩
 obtain⟨m,ew,hq⟩:=hw
 have hs:(es.map (·.1)).toList=es.toList.map (·.1):=by simp
 obtain⟨place,order,e,u1,u2,u3,u4⟩:=abQ (mask:=m) (by unfold iX;omega) t.finger (t.movedTo m) t.led t.plain (es.map (·.1)) (λh hx=>by
  rw[hs,akW]at hx
  obtain⟨y,hy,rfl⟩:=hx
  exact hh y hy) (by rw[hs,ak4,alm];omega)
 rw[Array.size_map]at u3 u4
 have hes:(order.filterMap (es[·]?)).size=es.size:=by
  rw[<-alm,aoq]
  exact((u4.filterMap _).trans (by rw[api])).length_eq
 have hfit:SetTable.fits {mask:=m,place:=place,dummies:=#[],finger:=t.finger,led:=t.led,moves:=t.movedTo m,plain:=t.plain} es.size=true:=by
  simp only[SetTable.fits,SetTable.fill,u3,ald,beq_self_eq_true,true_and,decide_eq_true_eq]
  simp only[ak8,aly]
  omega
 refine⟨order.filterMap (es[·]?),{mask:=m,place:=place,dummies:=#[],finger:=t.finger,led:=t.led,moves:=t.movedTo m,plain:=t.plain},?_,hes,?_,?_⟩
 rotate_left
 ·rw[hes]
  exact⟨u3,u1,u2,rfl,.inr (by show(m=31/\_)\/(m=127/\_);omega),hp⟩
 ·rfl
 ·unfold relayAll SetTable.relaid
  rw[ew,e]
  dsimp only
  rw[hes,hfit]
  have hc:coversAll order es.size=true:=by unfold coversAll;exact List.isPerm_iff.mpr u4
  rw[hc]
  rfl
theorem aev{t t1:SetTable}{n:Nat}(I:nY t n) (hm:t1.mask=t.mask) (hs:t1.place.size=n+1) (hd:t1.dummies=#[]) (hn:n<64) :
  (t1.tooFull=true->(t1.mask=7/\n+1=5)\/(t1.mask=31/\n+1=19))/\(t1.tooFull=false->((t1.mask=7/\n+1<=4)\/(t1.mask=31/\n+1<=18)\/(t1.mask=127/\n+1<=76))):=by
 have hk:=I.mask
 have hz:(#[]:Array Nat).size=0:=rfl
 simp only[SetTable.tooFull,SetTable.fill,hs,hd,hm,hz,decide_eq_true_eq,decide_eq_false_iff_not]
 omega
theorem LP{n:Nat}(h:n<128):hashInt (n:Int)=n:=by
 have:((List.range 128).all λn=>hashInt (n:Int)==(n:Int))=true:=by decide +kernel
 exact eq_of_beq (ak2.mp this n (akZ.mpr h))
def gh(w:World):Bool:=w.params.followText "set-order"
def f7(ns:List Nat) (x:Nat):List Nat:=if x∈ns then ns else ns++[x]
def gA(l:List (Int×Value)) (ns:List Nat):Prop:=(l.map (·.1)).Perm (ns.map λn:Nat=>(n:Int))/\∀e∈l,∃(n:Nat) (tk:Tok),e=((n:Int),.int n tk)/\n<128
def gP(w:World) (h:Heap) (a:Addr) (ns:List Nat):Prop:=∃o es ep t,h.get? a=some o/\o.ExactSet/\o.data=.set es ep t/\nY t es.size/\t.led = !gh w/\gA es.toList ns
theorem gA.hs{l:List (Int×Value)}{ns:List Nat}(h:gA l ns):HS l:=λe he=>by
 obtain⟨n,tk,rfl,hn⟩:=h.2 e he
 exact⟨n,rfl,hn⟩
theorem gA.len{l:List (Int×Value)}{ns:List Nat}(h:gA l ns):l.length=ns.length:=by
 have:=h.1.length_eq;simpa using this
theorem gA.mem{l:List (Int×Value)}{ns:List Nat}(h:gA l ns) (n:Nat):n∈ns↔∃e∈l,e.1=(n:Int):=by
 constructor
 ·intro hn
  have:(n:Int)∈l.map (·.1):=h.1.mem_iff.mpr (akW.mpr ⟨n,hn,rfl⟩)
  obtain⟨e,he,q⟩:=akW.mp this
  exact⟨e,he,q⟩
 ·rintro ⟨e,he,q⟩
  have:(n:Int)∈ns.map (λn:Nat=>(n:Int)):=h.1.mem_iff.mp (akW.mpr ⟨e,he,q⟩)
  obtain⟨m,hm,r⟩:=akW.mp this
  have:m=n:=by omega
  exact this▸hm
theorem gA.perm{l l':List (Int×Value)}{ns:List Nat}(h:gA l ns) (p:l'.Perm l):gA l' ns:=⟨(p.map _).trans h.1,λe he=>h.2 e (p.mem_iff.mp he)⟩
theorem gA.push{l:List (Int×Value)}{ns:List Nat}(h:gA l ns) {m:Nat}(hm:m<128) (tk:Tok):gA (l++[((m:Int),.int m tk)]) (ns++[m]):=by
 refine⟨?_,λe he=>?_⟩
 ·rw[alX,alX]
  exact h.1.append_right _
 ·rcases alz.mp he with he|he
  ·exact h.2 e he
  ·rw[alP]at he
   exact⟨m,tk,he,hm⟩
section
variable {prog:Program}{w:World}{A:Around}{E:Value->Shared->Prop}{s:Shared}
theorem gA.els{l:List (Int×Value)}{ns:List Nat}(h:gA l ns):ElemsOf (intKind prog w) l:=λe he=>by
 obtain⟨n,tk,rfl,hn⟩:=h.2 e he
 exact⟨⟨n,by simp[intKind,Value.isInt],(LP hn).symm⟩,rfl⟩
theorem xM{h:Heap}{a:Addr}{o:Obj}{es es':Array (Int×Value)}{ep:Nat}{t t':SetTable}(ho:h.get? a=some o) (hd:o.data=.set es ep t) :
  (h.update a (Obj.putSet es' t')).get? a=some {o with data:=.set es' (ep+1) t'}:=by
 have:=am8 (Obj.putSet es' t') ho (by rw[putSet_of es' t' hd];rfl)
 rwa[putSet_of es' t' hd]at this
theorem Tp{a:Addr}{ns:List Nat}{m:Nat}{tk:Tok}{Q:Bool->Shared->Prop}(hm:m<128) (hS:gP w s.heap a ns) (hn:ns.length<64)
  (h:∀b h',Heap.SameBut a s.heap h'->gP w h' a (f7 ns m)->Q b {s with heap:=h'}):wpAny (model prog w) A (setAddHashed a (.int m tk) (hashInt m)) Q E s:=by
 obtain⟨o,es,ep,t,ho,hex,hd,hI,hl,hs⟩:=hS
 have hsz:es.size=ns.length:=by rw[<-alm];exact hs.len
 have hel:ElemsOf (intKind prog w) es.toList:=hs.els
 have hkey:(intKind prog w).is (m:Int) (.int m tk)=true:=by simp[intKind,Value.isInt]
 unfold setAddHashed setAddHashedIn
 refine alZ (akT (ame ho hd hI.fits ?_))
 dsimp only
 rw[byScan_of (knd:=intKind prog w) rfl (by unfold scanBound;omega) hel]
 simp only[↓reduceIte]
 unfold setAddByScan
 refine akT (akT (anx (akT (wpAny_setScan_of (knd:=intKind prog w) hkey ho hd hI.fits hel ?_))))
 have hfind:∀e∈es.toList,(intKind prog w).is (m:Int) e.2=true->e.1=(m:Int):=λe he q=>by
  obtain⟨n,tk',rfl,_⟩:=hs.2 e he
  obtain⟨t',q⟩:=anm (show Value.isInt (m:Int) (.int (n:Int) tk')=true from q)
  injection q
 cases hr:es.toList.findIdx? (λe=>(intKind prog w).is (m:Int) e.2)with
 |some j =>
  dsimp only
  obtain⟨hj,hpj,_⟩:=List.findIdx?_eq_some_iff_getElem.mp hr
  have hmem:m∈ns:=(hs.mem m).mpr ⟨_,alq hj,hfind _ (alq hj) hpj⟩
  refine akU (akU ?_)
  exact h false s.heap (Heap.SameBut.refl a s.heap) (by unfold f7;rw[if_pos hmem];exact⟨o,es,ep,t,ho,hex,hd,hI,hl,hs⟩)
 |none =>
  dsimp only
  have hmem:m∉ns:=λhq=>by
   obtain⟨e,he,q⟩:=(hs.mem m).mp hq
   have:=List.findIdx?_eq_none_iff.mp hr e he
   obtain⟨n,tk',rfl,_⟩:=hs.2 e he
   have e:n=m:=by dsimp only at q;omega
   subst e
   simp[intKind,Value.isInt]at this
  have hst:f7 ns m=ns++[m]:=by unfold f7;rw[if_neg hmem]
  rw[hst]at h
  rw[LP hm]
  have jZ:=layNew_perm t es (m:Int) (.int m tk)
  obtain⟨es1,t1,e1,q1,q2,q3,q4,q5,q6,q7,q8,q9⟩:=abC (x:=.int m tk) hI hm (by omega)
  rw[e1]at jZ ⊢
  dsimp only at jZ ⊢
  rw[anS]at jZ
  have hs1:gA es1.toList (ns++[m]):=(hs.push hm tk).perm jZ
  refine akT (akU ?_)
  rw[q3]
  simp only[↓reduceIte]
  refine akT ?_
  rw[aor 8 (x:=.int m tk) rfl]
  refine akU ?_
  dsimp only[plainKind]
  simp only[↓reduceIte]
  refine akT (anT ho hd ?_ (fits_of_scanBound (by unfold scanBound;omega)))
  have nG:=xM (es':=es1) (t':=t1) ho hd
  have gv:=amb s.heap a (Obj.putSet es1 t1)
  have hcs:=aev hI q8 (q4.trans q1) q7 (by omega)
  cases hf:t1.tooFull with
  |false =>
   simp only[anf,an7,alB,↓reduceIte]
   refine akU (akU (h true _ gv ⟨_,es1,ep+1,t1,nG,hex,rfl,⟨q4,q5,q6,q7,?_,q3⟩,q2.trans hl,hs1⟩))
   rw[q1];exact hcs.2 hf
  |true =>
   simp only[anf,ang,↓reduceIte]
   have hp2:=relayAll_perm t1 es1 (SetTable.grown es1.size)
   obtain⟨jw,t2,e2,r1,r2,r3⟩:=Uw q3 hs1.hs (by rw[q1];exact hcs.1 hf)
   rw[e2]at hp2 ⊢
   dsimp only at hp2 ⊢
   refine akT (akU ?_)
   refine akT (anT nG rfl ?_ (fits_of_scanBound (by unfold scanBound;omega)))
   exact akU (akU (h true _ (gv.trans (amb _ a _)) ⟨_,jw,ep+1+1,t2,xM nG rfl,hex,rfl,r2,r3.trans (q2.trans hl),hs1.perm hp2⟩))
end
def dI(xs:List Nat):List Nat:=xs.foldl f7 []
theorem aeK{xs:List Nat}{i:Nat}(h:i<xs.length):dI (xs.take (i+1))=f7 (dI (xs.take i)) xs[i]:=by
 unfold dI
 rw[anh h,ani]
 rfl
theorem Mj:∀(xs ns:List Nat),ns.length<=(xs.foldl f7 ns).length
 |[],ns=>akV _
 |x::xs,ns=>by
  have:=Mj xs (f7 ns x)
  have h:ns.length<=(f7 ns x).length:=by unfold f7;split<;>simp
  rw[amw];omega
theorem aeL(xs:List Nat) (i:Nat):(dI (xs.take i)).length<=(dI xs).length:=by
 have:dI xs=(xs.drop i).foldl f7 (dI (xs.take i)):=by
  unfold dI
  rw[<-ani,amA]
 rw[this]
 exact Mj _ _
theorem gP.at{w:World}{h h':Heap}{a:Addr}{ns:List Nat}(x:gP w h a ns) (k:∀o,h.get? a=some o->h'.get? a=some o):gP w h' a ns :=
 let⟨o,es,ep,t,ho,r⟩:=x;⟨o,es,ep,t,k o ho,r⟩
section
variable {prog:Program}{w:World}{A:Around}{s:Shared}{E:Value->Shared->Prop}
theorem IS{R:Result->Shared->Prop}{I:Addr}{fp wr:List Addr}{G:Array GenState->Array GenState->Prop}{P:Nat->Value->Prop}{St:Nat->Shared->Prop}{xs:List Nat}
  (W:WalksS prog w A.in1 I fp wr G xs.length P St) (S:Addr) (hSf:S∉fp) (hval:∀(i:Nat) v,(hi:i<xs.length)->P i v->∃t,v=Value.int (xs[i]:Nat) t) (hx:∀x∈xs,x<128) (h64:(dI xs).length<64) :
  ∀(k i:Nat) (s:Shared),xs.length-i=k->i<=xs.length->St i s->gP w s.heap S (dI (xs.take i)) ->
   (∀s',Moved (S::wr) G s s'->gP w s'.heap S (dI xs)->R (.ok (.ret .none)) s') ->
   codeAny (model prog w) A (.builtin "set.update.loop" ⟨[.ref S,.ref I],[]⟩) R s:=by
 have yN:S∉wr:=λh=>hSf (W.sub _ h)
 have hup:∀b∈wr,b∈S::wr:=λb hb=>.tail _ hb
 intro k
 induction k with
 |zero =>
  intro i s hk hi st hS hR
  cases(show i=xs.length by omega)
  refine amq anU ?_
  rw[anj amT _]
  show wpAny _ A.in1 (pyNext (.ref I) >>= _) _ _ s
  refine akT (W.done s _ _ st λs' hm=>?_)
  rw[amf]at hS
  exact akU (hR s' (hm.mono hup) (hS.at λo e=>hm.heap S _ yN e))
 |succ k ih =>
  intro i s hk hi st hS hR
  have hlt:i<xs.length:=by omega
  refine amq anU ?_
  rw[anj amT _]
  show wpAny _ A.in1 (pyNext (.ref I) >>= _) _ _ s
  refine akT (W.item i s _ _ hlt st λv s' hP st' hm=>?_)
  obtain⟨t,rfl⟩:=hval i v hlt hP
  have hS':gP w s'.heap S (dI (xs.take i)):=hS.at λo e=>hm.heap S _ yN e
  show wpAny _ A.in1 (holding [Value.int (xs[i]:Nat) t] (setAdd S (.int (xs[i]:Nat) t)) >>= _) _ _ s'
  refine akT (alZ ?_)
  unfold setAdd
  refine alZ (akT ((intKind prog w).pyHash (k:=(xs[i]:Nat)) (by simp[intKind,Value.isInt]) ?_))
  have hl:(dI (xs.take i)).length<64:=al4 (aeL xs i) h64
  refine Tp (s:={s' with toks:=s'.toks+1}) (hx _ (alq hlt)) hS' hl λb h' gv k7=>?_
  rw[<-aeK hlt]at k7
  refine akU ⟨aos amT _,ih (i+1) _ (by omega) hlt (W.frame _ s' _ _ st' (amG _) λb hb o e=>?_) k7 λs'' DY D8=>?_⟩
  ·rw[gv.2 b (λq:b=S=>hSf (q▸hb))];exact e
  ·refine hR s'' (Moved.trans W.gtrans ((hm.mono hup).then_heap (amG _) λb o hb e=>?_) DY) D8
   rw[gv.2 b (λq:b=S=>hb (q▸.head _))];exact e
def cV(w:World):Obj:={cls:=.type "set",dict:=none,data:=.set #[] 0 (.fresh 0 0 (!gh w))}
theorem MB(w:World) {h:Heap}{a:Addr}(e:h.get? a=some (cV w)):gP w h a [] :=
 ⟨_,#[],0,_,e,⟨rfl,rfl,rfl⟩,rfl,QS _,rfl,.refl _,λe he=>by cases he⟩
theorem A4(a:Value) {Q₁:Value->Shared->Prop}(h:Q₁ (.ref s.heap.objs.size) {s with heap:=s.heap.push (cV w)}) :
  codeAny (model prog w) A (.call (.builtin "set.__new__") ⟨[.type "set",a],[]⟩) (wants Q₁ E) s:=by
 refine anV (show wpAny _ A.in1 (do checkBuiltinCall "set.__new__" ⟨[.type "set",a],[]⟩;again (.builtin "set.__new__" ⟨[.type "set",a],[]⟩)) _ _ s from ?_)
 refine akT (ana (PySem.F.newCall_set_1 a) (akU ⟨aos apj _,amq PySem.F.entry_set_new ?_⟩))
 rw[anj apj _]
 unfold Builtin.«set.__new__» Builtin.Frozenset.newClass
 have hsub:=sub_set_self
 obtain⟨hp,g,d,tk,os⟩:=s
 dsimp only;wp_walk
 refine ank (akU ?_)
 dsimp only;simp only[newObj]
 exact akT (wpAny_alloc (akU (akU h)))
set_option maxHeartbeats 3200000 in
theorem Ti{l:Addr}{items:Array Value}{xs:List Nat}{Q:Value->Shared->Prop}(hh:A.handled=none) (hl:s.heap.IsList l items) (hi:IntsAre items.toList (xs.map λn:Nat=>(n:Int))) (hx:∀x∈xs,x<128) (h64:(dI xs).length<64)
  (h:∀(h':Heap) (tk:Nat),gP w h' s.heap.objs.size (dI xs)->(∀b o,b<s.heap.objs.size->s.heap.get? b=some o->h'.get? b=some o)->Q (.ref s.heap.objs.size) {s with heap:=h',toks:=tk}) :
  wpAny (model prog w) A (call (.type "set") [.ref l]) Q E s:=by
 obtain⟨c,tl,LG⟩:=alp.mro
 have hmade:=alp.made
 have hsub:=alp.sub
 refine amE (anV (show wpAny _ _ (callAny (.type "set") _) _ _ _ from ?_))
 refine akU ⟨aot _ (by decide +kernel),amq aou ?_⟩
 rw[aov (aow "set" [.ref l] []) rfl]
 have h1:=alp.notType
 have h2:=alp.canCreate
 have hct:=aox (.ref l)
 repeat any_goals (first|assumption|wp_step)
 refine al0 (A4 (.ref l) (E:=E) (Q₁:=λobj s₁=>obj=.ref s.heap.objs.size/\s₁={s with heap:=s.heap.push (cV w)}) ⟨rfl,rfl⟩) λr s₁ hr=>?_
 cases r with
 |error e=>exact hr
 |ok fl =>
  cases fl with
  |ret obj =>
   obtain⟨rfl,rfl⟩:=hr
   have hS:(s.heap.push (cV w)).get? s.heap.objs.size=some (cV w):=alb _ rfl
   have hT:Shared.TypeIs {s with heap:=s.heap.push (cV w)} (.ref s.heap.objs.size) "set":=⟨_,hS,rfl⟩
   have hli:=alp.init.lookup
   have hbi:=alp.init.bind (.ref s.heap.objs.size)
   repeat any_goals (first|assumption|wp_step)
   refine al0 (aoy (R:=wants (λr s₂=>r=.none/\∃h' tk,s₂={s with heap:=h',toks:=tk}/\gP w h' s.heap.objs.size (dI xs) /\
     (∀b o,b<s.heap.objs.size->s.heap.get? b=some o->h'.get? b=some o)) E) alp.init.plain aoz (aoA hT ?_)) λr₂ s₂ jt=>?_
   ·obtain⟨ol,iF,hcl,nl,hdl⟩:=hl
    obtain⟨J1,uL,JV,uJ⟩:=ol
    simp only at hcl hdl
    subst hcl;subst hdl
    have nF:(s.heap.push (cV w)).get? l=some {cls:=.type "list",dict:=uL,data:=.seq items nl,slots:=uJ}:=akX _ iF
    have Lw:=apk
    have Lx:=apl
    have hne:(Value.type "list"==Value.type "dict")=false:=by decide
    have hl1:(s.heap.push (cV w)).IsList l items:=⟨_,nF,rfl,nl,rfl⟩
    unfold cV at hS hT nF ⊢
    unfold Builtin.«set.__init__» noKeywords Builtin.Frozenset.updateFrom
    generalize vF:pyIter=PI
    wp_walk
    subst vF
    refine am3 hl1 (akT (aoB ?_))
    have hlS:l<s.heap.objs.size:=ak0 iF
    have hlen:items.size=xs.length:=by have:=hi.length;simpa using this
    have vt:l≠(s.heap.push (cV w)).objs.size:=by rw[alv];exact ak1 (al5 hlS)
    have hSf:s.heap.objs.size∉[(s.heap.push (cV w)).objs.size,l]:=by
     rw[alv];simp only[akY,ak9,or_false,not_or];exact⟨ak1 (al2 _),alO hlS⟩
    have W:=(anE (prog:=prog) (w:=w) (A:=A.in1.in1.in1) (by simp[hh]) (s.heap.push (cV w)).objs.size l vt items).toS
    rw[hlen]at W
    refine IS (xs:=xs) W s.heap.objs.size hSf (λi v hi' hv=>?_) hx h64 xs.length 0 _ (by omega) (alW _) ⟨⟨_,alb _ rfl,rfl,rfl⟩,hl1.push _⟩ (MB w (akX _ hS)) λs' hm hS'=>?_
    ·obtain⟨t,e⟩:=IntsAre.int_at hi i v (by rw[alw];exact hv)
     exact⟨t,by rw[e];simp[alf,ak3 hi']⟩
    ·obtain⟨h',g',d',tk',os'⟩:=s'
     cases(show g'=s.gens from hm.gens)
     cases(show d'=s.drawn from hm.drawn)
     cases(show os'=s.os from hm.os)
     refine akU (akU ⟨rfl,h',tk',rfl,hS',λb o hb e=>?_⟩)
     exact hm.heap b o (by rw[alv];simp only[akY,ak9,or_false,not_or];exact⟨ak1 hb,ak1 (al5 hb)⟩) (akX _ (akX _ e))
   ·cases r₂ with
    |error e=>exact jt
    |ok vK =>
     cases vK with
     |ret r =>
      obtain⟨rfl,h',tk,rfl,hS',hk'⟩:=jt
      repeat any_goals (first|assumption|wp_step)
      exact h _ _ hS' hk'
     |_=>exact jt.elim
  |_=>exact hr.elim
end
theorem qu:Slot "set_iterator" "__next__" "set_iterator.__next__" :=
 .of (owner:="set_iterator") (n:="__next__") (by rw[typeLookup_type,apm];kernel_rfl) (by decide +kernel) (by decide +kernel)
  (by decide +kernel) (by first|exact .inl (by decide +kernel)|exact .inr (by decide +kernel)) (by rw[anW];kernel_rfl)
theorem Iz:Slot "set_iterator" "__iter__" "set_iterator.__iter__" :=
 .of (owner:="set_iterator") (n:="__iter__") (by rw[typeLookup_type,apm];kernel_rfl) (by decide +kernel) (by decide +kernel)
  (by decide +kernel) (by first|exact .inl (by decide +kernel)|exact .inr (by decide +kernel)) (by rw[anW];kernel_rfl)
theorem IB:entryFor table "set_iterator.__next__"=some Builtin.«set_iterator.__next__»:=entryFor_of_tree (by kernel_rfl)
theorem RK:entryFor table "set_iterator.__iter__"=some Builtin.«dict_keyiterator.__iter__» :=
 entryFor_alias (id':="dict_keyiterator.__iter__") (by kernel_rfl) rfl (by decide +kernel) (by kernel_rfl)
theorem RJ:entryFor table "set.__iter__"=some Builtin.«frozenset.__iter__» :=
 entryFor_alias (id':="frozenset.__iter__") (by kernel_rfl) rfl (by decide +kernel) (by kernel_rfl)
theorem IA:Manifest.owners.lookup (String.ofList ['r','o','t','a','r','e','t','i','_','t','e','s'].reverse)=some Manifest.sig_set_iterator:=by kernel_rfl
theorem IC(a:Value):argsOk "set_iterator.__next__" ⟨[a],[]⟩:=by
 unfold argsOk
 rw[signature?_of (id:="set_iterator.__next__") (n:=['_','_','t','x','e','n','_','_']) (o:=['r','o','t','a','r','e','t','i','_','t','e','s']) (by kernel_rfl) IA];kernel_rfl
theorem RL(a:Value):argsOk "set_iterator.__iter__" ⟨[a],[]⟩:=by
 unfold argsOk
 rw[signature?_of (id:="set_iterator.__iter__") (n:=['_','_','r','e','t','i','_','_']) (o:=['r','o','t','a','r','e','t','i','_','t','e','s']) (by kernel_rfl) IA];kernel_rfl
theorem zR{α:Type}{l:List α}{i:Nat}(h:i<l.length):([l[i]]++l.eraseIdx i).Perm l:=by
 rw[amB]
 have e:l=l.take i++l[i]::l.drop (i+1):=by rw[<-anG h,amA]
 conv=>rhs;rw[e]
 exact(aoC (a:=l[i]) (l₁:=l.take i) (l₂:=l.drop (i+1))).symm
theorem Jz{α:Type}(next:Nat->Nat):∀(fuel k:Nat) (left:List α) (out:Array α),fuel=left.length->(pickOrder.go next fuel k left out).toList.Perm (out.toList++left)
 |0,k,left,out,h=>by
  have:left=[]:=aoD.mp h.symm
  subst this
  unfold pickOrder.go;simp
 |fuel+1,k,left,out,h=>by
  unfold pickOrder.go
  have hlt:next k % left.length<left.length:=al7 _ (by omega)
  rw[ak3 hlt]
  dsimp only
  refine(Jz next fuel _ _ _ (by rw[apn hlt];omega)).trans ?_
  rw[anS,alu]
  exact(zR hlt).append_left _
def iW(w:World) (a:Addr) (ep:Nat) (es:Array (Int×Value)):Array (Int×Value):=if gh w then pickOrder (w.params.setOrder a ep) es else es
theorem xX(w:World) (a:Addr) (ep:Nat) (es:Array (Int×Value)):(iW w a ep es).toList.Perm es.toList:=by
 unfold iW
 split
 ·unfold pickOrder
  simpa using Jz (w.params.setOrder a ep) es.size 0 es.toList #[] (by simp)
 ·exact .rfl
def iu(b:Bool) (place:Array Nat):Nat->Nat
 |0=>0
 |i+1=>if b then 0 else place.toList.getD i 0+1
def ko(h:Heap) (it a:Addr) (sl i n ep:Nat):Prop:=∃o,h.get? it=some o/\o.cls=.type "set_iterator"/\o.data=.fields #[.int sl 0,.int i 0,.ref a,.int n 0,.int ep 0]
theorem ko.typeIs{s:Shared}{it a:Addr}{sl i n ep:Nat}(h:ko s.heap it a sl i n ep):s.TypeIs (.ref it) "set_iterator":=let⟨o,ho,hc,_⟩:=h;⟨o,ho,hc⟩
theorem ko.at{h h':Heap}{it a:Addr}{sl i n ep:Nat}(x:ko h it a sl i n ep) (k:∀o,h.get? it=some o->h'.get? it=some o):ko h' it a sl i n ep:=let⟨o,ho,r⟩:=x;⟨o,k o ho,r⟩
def g9(w:World) (h:Heap) (a:Addr) (es:Array (Int×Value)) (ep:Nat) (t:SetTable):Prop:=∃o,h.get? a=some o/\o.ExactSet/\o.data=.set es ep t/\nY t es.size/\t.led = !gh w
theorem g9.at{w:World}{h h':Heap}{a:Addr}{es:Array (Int×Value)}{ep:Nat}{t:SetTable}(x:g9 w h a es ep t) (k:∀o,h.get? a=some o->h'.get? a=some o):g9 w h' a es ep t:=let⟨o,ho,r⟩:=x;⟨o,k o ho,r⟩
section
variable {prog:Program}{w:World}{A:Around}{E:Value->Shared->Prop}{s:Shared}
theorem IQ{a:Addr}{es:Array (Int×Value)}{ep i:Nat}{t:SetTable}{Q:Option (Value×Nat)->Shared->Prop}(hS:g9 w s.heap a es ep t) (hi:i<=es.size)
  (h:Q ((iW w a ep es)[i]?.map λe=>(e.2,iu (gh w) t.place (i+1))) s):wpAny (model prog w) A (setNext a (iu (gh w) t.place i) i ep) Q E s:=by
 obtain⟨o,ho,hex,hd,hI,hl⟩:=hS
 unfold setNext
 refine akT (ame ho hd hI.fits ?_)
 dsimp only
 refine akT ?_
 unfold setsByText
 refine akT (ank (akU ?_))
 show wpAny _ _ (if gh w=true then _ else _) _ _ _
 unfold iW at h
 cases hb:gh w with
 |true =>
  rw[hb]at h
  simp only[if_true,bne_self_eq_false,alB,if_false]at h ⊢
  refine akT ?_
  unfold setWalk
  refine akT (ame ho hd hI.fits ?_)
  dsimp only
  refine akT ?_
  unfold setsByText
  refine akT (ank (akU ?_))
  show wpAny _ _ (if gh w=true then _ else _) _ _ _
  rw[hb]
  simp only[if_true]
  refine akT (ank (akU (akU ?_)))
  have e:iu true t.place (i+1)=iu true t.place i:=by cases i<;>rfl
  rw[e]at h
  exact h
 |false =>
  rw[hb]at h hl
  simp only[alB,if_false]at h ⊢
  show wpAny _ _ (if(!t.plain&&decide (es.size>1))=true then _ else _) _ _ _
  rw[hI.plain]
  simp only[amU,an2,alB,if_false]
  refine akT (ana (a:=()) ?_ ?_)
  ·show(if(!t.led && !es.isEmpty)=true then _ else _)=_
   rw[hl];rfl
  have hbl:SetTable.below t.place (iu false t.place i)=i:=by
   cases i with
   |zero=>exact ahL hI.up
   |succ i=>exact ahM hI.up (by rw[alm,hI.size];omega)
  rw[hbl]
  refine akU ?_
  rcases anN i es.size with hlt|hge
  ·have hp:i<t.place.size:=by rw[hI.size];exact hlt
   rw[anl hlt]at h ⊢
   rw[anl hp]
   have e:iu false t.place (i+1)=t.place[i]+1:=by
    simp[iu,alf,ak3 (show i<t.place.toList.length by simpa using hp)]
   rw[e]at h
   exact h
  ·rw[apo hge]at h ⊢
   exact h
end
section
variable {prog:Program}{w:World}{A:Around}{E:Value->Shared->Prop}{s:Shared}
theorem acT{it a:Addr}{es:Array (Int×Value)}{ep i:Nat}{t:SetTable}{v:Int×Value}{Q:Option Value->Shared->Prop}(hit:ko s.heap it a (iu (gh w) t.place i) i es.size ep) (hS:g9 w s.heap a es ep t) (hi:i<es.size)
  (hv:(iW w a ep es)[i]? = some v) (hQ:∀h',ko h' it a (iu (gh w) t.place (i+1)) (i+1) es.size ep->Heap.SameBut it s.heap h'->Q (some v.2) {s with heap:=h'}) :
  wpAny (model prog w) A (pyNext (.ref it)) Q E s:=by
 obtain⟨o,ho,hc,hd⟩:=id hit
 obtain⟨oS,hoS,LK,hdS,hI,hl⟩:=id hS
 unfold pyNext
 refine akT (anB (amK (name:=Str.ofString "__next__") hit.typeIs qu (ama qu hit.typeIs IB ?_ (IC _))))
 unfold Builtin.«set_iterator.__next__»
 refine akT (akU ?_)
 refine akT (wpAny_fieldsOf ho hd ?_)
 dsimp only
 refine akT (aoE hoS hdS hI.fits ?_)
 rw[if_neg (by simp)]
 refine akT (IQ (ep:=ep) (i:=i) hS (amg hi) ?_)
 rw[hv]
 dsimp only[Option.map]
 refine akT (am9 ho hd (by simp) ?_)
 have g1:=am8 (Obj.mapFields (·.setIfInBounds 0 (rawInt ((iu (gh w) t.place (i+1):Nat):Int)))) ho (aob (amL hd _))
 have d1:=amL hd (·.setIfInBounds 0 (rawInt ((iu (gh w) t.place (i+1):Nat):Int)))
 refine akT (am9 g1 d1 (by simp) ?_)
 have g2:=am8 (Obj.mapFields (·.setIfInBounds 1 (rawInt ((i:Int)+1)))) g1 (aob (amL d1 _))
 have d2:=amL d1 (·.setIfInBounds 1 (rawInt ((i:Int)+1)))
 refine akU ⟨_,rfl,akU (hQ _ ⟨_,g2,?_,?_⟩ ((amb ..).trans (amb ..)))⟩
 ·exact(aoc ..).trans ((aoc ..).trans hc)
 ·rw[d2];simp[rawInt]
theorem acU{it a:Addr}{es:Array (Int×Value)}{ep:Nat}{t:SetTable}{Q:Option Value->Shared->Prop}(hh:A.handled=none) (hit:ko s.heap it a (iu (gh w) t.place es.size) es.size es.size ep) (hS:g9 w s.heap a es ep t)
  (hQ:∀h',Heap.ExtBut it s.heap h'->Q none {s with heap:=h'}):wpAny (model prog w) A (pyNext (.ref it)) Q E s:=by
 obtain⟨o,ho,hc,hd⟩:=id hit
 obtain⟨oS,hoS,LK,hdS,hI,hl⟩:=id hS
 unfold pyNext
 refine akT (anB (amK (name:=Str.ofString "__next__") hit.typeIs qu (ama qu hit.typeIs IB ?_ (IC _))))
 unfold Builtin.«set_iterator.__next__»
 refine akT (akU ?_)
 refine akT (wpAny_fieldsOf ho hd ?_)
 dsimp only
 refine akT (aoE hoS hdS hI.fits ?_)
 rw[if_neg (by simp)]
 refine akT (IQ (ep:=ep) (i:=es.size) hS (akV _) ?_)
 have hv:(iW w a ep es)[es.size]? = none:=by
  have:=(xX w a ep es).length_eq
  rw[alm,alm]at this
  exact apo (by omega)
 rw[hv]
 dsimp only[Option.map]
 refine akT (am9 ho hd (by simp) ?_)
 show wpAny _ _ (newExc (.type "StopIteration") [] >>= _) _ _ _
 refine akT ?_
 simp only[newExc,newTuple]
 refine akT (amJ ?_ (by size_fits))
 refine akT (m:=firstArgMember _ _) (ana (a:=Value.none) (by first|rfl|(simp only[firstArgMember];rfl)) (amJ ?_ (by size_fits)))
 simp only[raiseNew]
 refine akT (wpAny_handled ?_)
 rw[show A.in1.handled=none from hh]
 refine akT (akU (wpAny_throw ?_))
 refine akT (aoe (b:=true) (T:="StopIteration") ⟨_,alb _ rfl,rfl⟩ isSubtype_stop ?_)
 exact akU (hQ _ (((amb ..).extBut.push _).push _))
theorem acR{it a:Addr}{sl i n ep:Nat}{Q:Value->Shared->Prop}(hit:ko s.heap it a sl i n ep) (h:Q (.ref it) s):wpAny (model prog w) A (pyIter (.ref it)) Q E s:=by
 refine wpAny_pyIter_slot hit.typeIs Iz (ama Iz hit.typeIs RK (show wpAny _ _ (ret (.ref it)) _ _ s from ?_) (RL _))
 exact akU ⟨_,rfl,"set_iterator",_,hit.typeIs,qu.lookup,h⟩
theorem Tf(hh:A.handled=none) (I a:Addr) (hne:a≠I) (es:Array (Int×Value)) (ep:Nat) (t:SetTable) :
  Walks prog w A I [I,a] [I] es.size (λi v=>(iW w a ep es)[i]?.map (·.2)=some v) (λi h=>ko h I a (iu (gh w) t.place i) i es.size ep/\g9 w h a es ep t) where
 sub:=λb hb=>by simp at hb;simp[hb]
 frame:=λ_ _ _ st hk=>⟨st.1.at λo e=>hk I (by simp) o e,st.2.at λo e=>hk a (by simp) o e⟩
 item:=λi s Q E hi st hQ=>by
  have hl:=(xX w a ep es).length_eq
  rw[alm,alm]at hl
  have hv:(iW w a ep es)[i]? = some (iW w a ep es)[i]:=anl (by omega)
  refine acT st.1 st.2 hi hv λh' vz hs'=>hQ _ h' s.toks (by rw[hv];rfl) ⟨vz,st.2.at λo e=>?_⟩ λb o hb e=>hs'.extBut b o (λh=>hb (by simp[h])) e
  exact hs'.extBut a o hne e
 done:=λs Q E st hQ=>acU hh st.1 st.2 λh' he'=>hQ h' s.toks λb o hb e=>he' b o (λh=>hb (by simp[h])) e
 self:=λ_ _ _ _ st hQ=>acR st.1 hQ
theorem g9.typeIs{a:Addr}{es:Array (Int×Value)}{ep:Nat}{t:SetTable}(h:g9 w s.heap a es ep t):s.TypeIs (.ref a) "set":=let⟨o,ho,hx,_⟩:=h;⟨o,ho,hx.1⟩
theorem Tn{a:Addr}{es:Array (Int×Value)}{ep:Nat}{t:SetTable}{Q:Value->Shared->Prop}(hS:g9 w s.heap a es ep t)
  (hQ:Q (.ref s.heap.objs.size) {s with heap:=s.heap.push {cls:=.type "set_iterator",data:=.fields #[.int 0 0,.int 0 0,.ref a,.int es.size 0,.int ep 0]} }):wpAny (model prog w) A (pyIter (.ref a)) Q E s:=by
 obtain⟨oS,hoS,LK,hdS,hI,hl⟩:=id hS
 refine wpAny_pyIter_slot hS.typeIs apq (ama apq hS.typeIs RJ ?_ (PySem.F.args_set_iter_1 _))
 unfold Builtin.«frozenset.__iter__» Builtin.Frozenset.slot0
 refine akT (akT (akU (akU ?_)))
 unfold Builtin.Frozenset.sizeOf
 refine akT (akT (aoE hoS hdS hI.fits (akU ?_)))
 refine akT ?_
 unfold setDrawn
 refine akT (ame hoS hdS hI.fits ?_)
 dsimp only
 refine akT ?_
 unfold setsByText
 refine akT (ank (akU (akU ?_)))
 have e:(!gh w&&(!t.plain&&decide (es.size>1)))=false:=by rw[hI.plain];simp
 show wpAny _ _ (if(!gh w&&(!t.plain&&decide (es.size>1)))=true then _ else _) _ _ _
 rw[e]
 simp only[alB,if_false]
 refine akT (akU ?_)
 refine akT (wpAny_setEpoch_of hoS hdS hI.fits ?_)
 refine akT ?_
 refine amJ (akU ⟨_,rfl,"set_iterator",_,⟨_,alb _ rfl,rfl⟩,qu.lookup,?_⟩)
 exact hQ
end
open PySem.W
def ny(x:Nat):List Nat->List Nat
 |[]=>[x]
 |y::l=>if x<y then x::y::l else if x=y then y::l else y::ny x l
def ck:List Nat->List Nat
 |[]=>[]
 |x::l=>ny x (ck l)
theorem B3{x y:Nat}:∀{l:List Nat},y∈ny x l↔y=x\/y∈l
 |[]=>by simp[ny]
 |z::l=>by
  unfold ny
  split
  ·simp
  ·split
   ·rename_i h;subst h;simp
   ·simp only[akY,B3 (l:=l)]
    constructor
    ·rintro (h|h|h)<;>simp[h]
    ·rintro (h|h|h)<;>simp[h]
theorem HQ{x:Nat}:∀{l:List Nat},Up l->Up (ny x l)
 |[],_=>by simp[ny]
 |z::l,h=>by
  obtain⟨h1,h2⟩:=amP.mp h
  unfold ny
  split
  ·rename_i hx
   exact amP.mpr ⟨λb hb=>by
    rcases akY.mp hb with rfl|hb
    ·exact hx
    ·exact aok hx (h1 b hb),h⟩
  ·split
   ·exact h
   ·refine amP.mpr ⟨λb hb=>?_,HQ h2⟩
    rcases B3.mp hb with rfl|hb
    ·omega
    ·exact h1 b hb
theorem mP:∀l:List Nat,Up (ck l)
 |[]=>.nil
 |x::l=>HQ (mP l)
theorem jT{y:Nat}:∀{l:List Nat},y∈ck l↔y∈l
 |[]=>by simp[ck]
 |x::l=>by simp[ck,B3,jT (l:=l)]
theorem up_eq:∀{l m:List Nat},Up l->Up m->(∀x,x∈l↔x∈m)->l=m
 |[],[],_,_,_=>rfl
 |[],y::m,_,_,h=>absurd ((h y).mpr (.head _)) (by simp)
 |x::l,[],_,_,h=>absurd ((h x).mp (.head _)) (by simp)
 |x::l,y::m,h1,h2,h=>by
  obtain⟨a1,a2⟩:=amP.mp h1
  obtain⟨b1,b2⟩:=amP.mp h2
  have e:x=y:=by
   rcases akY.mp ((h x).mp (.head _))with e|hx
   ·exact e
   ·rcases akY.mp ((h y).mpr (.head _))with e|hy
    ·exact e.symm
    ·have:=a1 y hy;have:=b1 x hx;omega
  subst e
  rw[up_eq a2 b2 λz=>?_]
  constructor
  ·intro hz
   rcases akY.mp ((h z).mp (.tail _ hz))with e|q
   ·subst e;exact absurd (a1 z hz) (alJ _)
   ·exact q
  ·intro hz
   rcases akY.mp ((h z).mpr (.tail _ hz))with e|q
   ·subst e;exact absurd (b1 z hz) (alJ _)
   ·exact q
theorem abd{ns:List Nat}{x y:Nat}:y∈f7 ns x↔y∈ns\/y=x:=by
 unfold f7
 split
 ·rename_i h
  exact⟨.inl,λq=>q.elim id λe=>e▸h⟩
 ·simp
theorem aao{ns:List Nat}{x:Nat}(h:ns.Nodup):(f7 ns x).Nodup:=by
 unfold f7
 split
 ·exact h
 ·rename_i hx
  refine amO.mpr ⟨h,by simp,λa ha b hb=>?_⟩
  rw[alP]at hb
  subst hb
  exact λe=>hx (e▸ha)
theorem B4:∀{xs ns:List Nat}{y:Nat},y∈xs.foldl f7 ns↔y∈ns\/y∈xs
 |[],ns,y=>by simp
 |x::xs,ns,y=>by
  rw[amw,B4,abd,akY,or_assoc]
theorem BP:∀{xs ns:List Nat},ns.Nodup->(xs.foldl f7 ns).Nodup
 |[],_,h=>h
 |x::xs,_,h=>BP (xs:=xs) (aao h)
theorem R1{xs:List Nat}{zs:List Int}(h1:zs.Perm ((dI xs).map λn:Nat=>(n:Int))) (h2:zs.Pairwise (·<=·)):zs=(ck xs).map λn:Nat=>(n:Int):=by
 have hz:∀z∈zs,∃n:Nat,z=n:=λz hz=>by
  obtain⟨n,_,e⟩:=akW.mp (h1.mem_iff.mp hz)
  exact⟨n,e.symm⟩
 have e:zs=(zs.map Int.toNat).map λn:Nat=>(n:Int):=by
  rw[aln]
  conv=>lhs;rw[<-anY zs]
  refine alY λz hq=>?_
  obtain⟨n,rfl⟩:=hz z hq
  simp
 have hp:(zs.map Int.toNat).Perm (dI xs):=by
  have:=h1.map Int.toNat
  rw[aln]at this
  refine this.trans (apr ?_)
  conv=>rhs;rw[<-anY (dI xs)]
  exact alY λn _=>by simp
 have hnd:(zs.map Int.toNat).Nodup:=hp.nodup_iff.mpr (BP .nil)
 have hup:Up (zs.map Int.toNat):=by
  have hle:(zs.map Int.toNat).Pairwise (·<=·):=by
   rw[amR]
   exact h2.imp fun{a b} h=>by omega
  refine(hle.and hnd).imp fun{a b} h=>?_
  have h2:a≠b:=h.2
  omega
 rw[e,up_eq hup (mP xs) λx=>by
  rw[hp.mem_iff,jT]
  unfold dI
  rw[B4]
  simp]
theorem yi:∀{l:List Nat},Up l->l.Nodup:=fun{l} h=>h.imp fun{a b} h=>ak1 h
theorem xm(xs:List Nat):(ck xs).length=(dI xs).length:=by
 have hp:(ck xs).Perm (dI xs):=by
  refine(aps (yi (mP xs)) (BP .nil)).mpr λx=>?_
  rw[jT,B4]
  simp
 exact hp.length_eq
theorem HR{l:List Nat}(h:Up l):∀i,i<l.length->i<=l.getD i 0
 |0,_=>alW _
 |i+1,hi=>by
  have a:=HR h i (by omega)
  have b:=ua h (show i<i+1 by omega) hi
  omega
theorem Qz{l:List Nat}(h:Up l) {m:Nat}(hm:∀x∈l,x<m):l.length<=m:=by
 rcases aol l.length with e|e
 ·omega
 ·have a:=HR h (l.length-1) (by omega)
  have hi:l.length-1<l.length:=by omega
  have b:l.getD (l.length-1) 0<m:=hm _ (by rw[alf,ak3 hi];exact alq hi)
  omega
theorem Lg:∀{l:List (Int×Value)},(∀e∈l,∃(n:Nat) (tk:Tok),e=((n:Int),.int n tk)/\n<128)->IntsAre (l.map (·.2)) (l.map (·.1))
 |[],_=>.nil
 |e::l,h=>by
  obtain⟨n,tk,rfl,_⟩:=h e (.head _)
  exact .cons _ _ (Lg λe he=>h e (.tail _ he))
section
variable {prog:Program}{w:World}{A:Around}{E:Value->Shared->Prop}{s:Shared}
theorem adQ{r:Addr}{Q:Bool->Shared->Prop}(hT:s.TypeIs (.ref r) "set") (h:Q false s):wpAny (model prog w) A (Builtin.List.listLengthHint (.ref r)) Q E s:=by
 unfold Builtin.List.listLengthHint
 refine akT (wpAny_specialOf hT PySem.F.slot_set_len.lookup ?_)
 generalize hid:("set.__len__":String)=id0
 wp_delta
 rw[show splitId id0=some ("set","__len__")from by subst hid;decide +kernel]
 subst hid
 refine akT (aoe (T:="set") (b:=true) hT sub_set_self ?_)
 refine wpAny_ite_split (λq=>absurd q (by decide)) λ_=>wpAny_ite_split (λ_=>?_) λq=>absurd (by decide +kernel) q
 exact akT (wpAny_typeOf hT (akU h))
theorem g9.lt{h:Heap}{a:Addr}{es:Array (Int×Value)}{ep:Nat}{t:SetTable}(x:g9 w h a es ep t):a<h.objs.size:=let⟨_,ho,_⟩:=x;ak0 ho
theorem RS{a:Addr}{es:Array (Int×Value)}{ep:Nat}{t:SetTable}:KdlSrc prog w "set" a a es.size (λi v=>(iW w a ep es)[i]?.map (·.2)=some v) (λh=>g9 w h a es ep t) where
 type:=λ_ h=>h.typeIs
 there:=λ_ h=>⟨h.lt,h.lt⟩
 keep:=λ_ _ h k=>h.at λo e=>k a (.inl rfl) o e
 notList:=by decide
 notTuple:=by decide
 hint:=λ_ _ _ _ h q=>adQ h.typeIs q
 iter:=λ_ s hh h=>⟨_,_,(λ_ _ q=>Tn h q),Tf hh _ a (ak1 h.lt) es ep t,⟨⟨_,alb _ rfl,rfl,rfl⟩,h.at λo e=>akX _ e⟩⟩
theorem R0{a:Addr}{xs:List Nat}{Q:Value->Shared->Prop}(hh:A.handled=none) (hS:gP w s.heap a (dI xs)) (hn:(dI xs).length<64)
  (h:∀(h1 h':Heap) (tk c:Nat) (out:Array Value),(∀b o,s.heap.get? b=some o->h1.get? b=some o)->(∀b o,h1.get? b=some o->h'.get? b=some o)->h'.get? h1.objs.size=some (seqObj "list" out c) ->
   IntsAre out.toList ((ck xs).map λn:Nat=>(n:Int))->Q (.ref h1.objs.size) {s with heap:=h',toks:=tk}) :
  wpAny (model prog w) A (call (.builtin "sorted") [.ref a]) Q E s:=by
 obtain⟨o,es,ep,t,ho,hex,hd,hI,hl,hs⟩:=hS
 have hlen:es.size<64:=by
  have h1:=hs.len
  rw[alm]at h1
  omega
 have hok:g9 w s.heap a es ep t:=⟨o,ho,hex,hd,hI,hl⟩
 refine Calls.call_function_entry kind_sorted plain_sorted entry_sorted (args_sorted1 _) ?_
 unfold Builtin.«sorted»
 refine akT (m:=checkCount "sorted" 1 1 _) (akU ?_)
 refine akT (kdu_collect (A:=A.in1) (RS (prog:=prog)) hh hok (by rw[am4];omega) λh1 tk acc hk hacc=>?_)
 have ae6:acc.toList=(iW w a ep es).toList.map (·.2):=by
  have hlo:=(xX w a ep es).length_eq
  rw[alm,alm]at hlo
  apply apt
  intro i
  rcases anN i acc.size with q|q
  ·have h3:=hacc.2 i acc[i] (anl q)
   rw[ale,alw,alw,h3,anl q]
  ·have h4:=hacc.1
   rw[amy (by simpa using q),amy (by simp;omega)]
 have hp:=xX w a ep es
 have hI2:IntsAre acc.toList ((iW w a ep es).toList.map (·.1)):=by
  rw[ae6]
  exact Lg λe he=>hs.2 e (hp.mem_iff.mp he)
 have hal:acc.toList.length<64:=by rw[alm,hacc.1];exact hlen
 refine akT (wpAny_newList ?_ (by rw[am4];omega))
 have vq:(h1.push (seqObj "list" acc.toList.toArray 0)).get? h1.objs.size=some (seqObj "list" acc.toList.toArray 0):=alb _ rfl
 refine akT (alZ (ama slot_list_sort ⟨_,vq,rfl⟩ entry_list_sort (list_sort_tree (s:={s with heap:=h1.push (seqObj "list" acc.toList.toArray 0),toks:=tk}) vq hI2 hal λout zs a1 a2 a3=>⟨_,rfl,?_⟩) (args_list_sort _)))
 refine akU ⟨_,rfl,?_⟩
 have hz:=R1 (a2.trans ((hp.map _).trans hs.1)) a3
 rw[hz]at a1
 have hne:∀b o,h1.get? b=some o->b≠h1.objs.size:=λb o e=>ak1 (ak0 e)
 have g1:=get?_update_seq vq (λ_=>#[])
 have g2:=get?_update_seq (akX (seqObj "list" #[] 0) (akX (seqObj "tuple" acc.toList.toArray 0) g1)) λ_=>out
 refine h h1 _ tk _ out hk (λb o e=>?_) g2 a1
 have q:=alF (hne b o e)
 exact(amF _ _ q).trans (akX _ (akX _ ((amF _ _ q).trans (akX _ e))))
end
abbrev nV(ns:List Nat):List V:=ns.map λn:Nat=>V.int n
abbrev nD(ns:List Nat):List D:=ns.map λn:Nat=>D.int n
def mT(w:World) (a:Addr) (ns:List Nat):Heap->Prop:=λh=>gP w h a (dI ns)
theorem AS:∀{ns:List Nat}{us:List Value},Vals (nV ns) us->IntsAre us (ns.map λn:Nat=>(n:Int))
 |[],_,.nil=>.nil
 |n::ns,_,.cons ⟨t,e⟩ r=>by subst e;exact .cons _ _ (AS r)
theorem Ot:∀{ns:List Nat}{us:List Value},IntsAre us (ns.map λn:Nat=>(n:Int))->Vals (nV ns) us
 |[],_,.nil=>.nil
 |n::ns,_,.cons _ t r=>.cons ⟨t,rfl⟩ (Ot r)
section
variable {X:Cx}
def UB(X:Cx):List V->Hp->VK->Prop:=λxs H Q=>∃a ns,xs=[.ref a]/\bH X.K H a (nV ns)/\(ck ns).length<64/\(∀x∈ns,x<128)/\∀p,H p=none->Q (.ref p) (upd H p (.ext (mT X.w p ns)))
theorem MS(hc:X.calm=true:=by rfl):dW X (.type "set") (UB X):=by
 intro pins s σ H xs us Q I rv h
 obtain⟨a,ns,rfl,sq,hb,hx,q⟩:=h
 obtain⟨u,rfl,ru⟩:=alK rv
 cases ru
 obtain⟨its,ri,pl,hz⟩:=I.list sq
 refine Ti (xs:=ns) (I.ok.hd hc) pl.isList (by simpa using AS ri) hx (by rw[<-xm];exact hb) λh' tk hS kp=>?_
 have hf:H s.heap.objs.size=none:=I.hok.fresh (akV _)
 have k7:=hS
 obtain⟨o,es,ep,t,ho,_⟩:=k7
 refine⟨.ref s.heap.objs.size,upd H s.heap.objs.size (.ext (mT X.w s.heap.objs.size ns)),I.laid (t':=tk) (λb u e=>kp b u (ak0 e) e) (akV _) ?_,rfl,q _ hf⟩
 exact⟨hS,⟨o,ho⟩,λh1 h2 x k=>x.at k⟩
def Uy(X:Cx):List V->Hp->VK->Prop:=λxs H Q=>∃a ns,xs=[.ref a]/\H a=some (.ext (mT X.w a ns))/\(ck ns).length<64/\∀p,H p=none->Q (.ref p) (upd H p (.lst (nV (ck ns))))
theorem agR(hc:X.calm=true:=by rfl):dW X (.builtin "sorted") (Uy X):=by
 intro pins s σ H xs us Q I rv h
 obtain⟨a,ns,rfl,hH,hn,q⟩:=h
 obtain⟨u,rfl,ru⟩:=alK rv
 cases ru
 obtain⟨hS,_,_⟩:=I.hok a _ hH
 refine R0 (I.ok.hd hc) hS (by rw[<-xm];exact hn) λh1 h' tk c out k1 k2 hp hI=>?_
 have I1:Inv X pins σ H {s with heap:=h1,toks:=tk}:=I.kept k1
 have hf:H h1.objs.size=none:=I1.hok.fresh (akV _)
 refine⟨.ref h1.objs.size,upd H h1.objs.size (.lst (nV (ck ns))),I1.laid (t':=tk) k2 (akV _) ⟨?_,out.toList,c,Ot hI,by simpa using hp⟩,rfl,q _ hf⟩
 simp only[ak4]
 rw[am4];omega
def jr(l:List D):Option (List Nat):=match nv l with
 |some ns=>if ns.all (λn=>decide (0<=n/\n<128))=true/\(ck (ns.map Int.toNat)).length<64 then some (ns.map Int.toNat)else none
 |none=>none
theorem BU{l:List D}{ns:List Nat}(h:jr l=some ns):l=nD ns/\(ck ns).length<64/\∀x∈ns,x<128:=by
 unfold jr at h
 split at h
 ·rename_i zs hz
  split at h
  ·rename_i hc
   cases h
   refine⟨?_,hc.2,λx hx=>?_⟩
   ·rw[Li hz]
    unfold nD
    rw[aln]
    refine alY λz hq=>?_
    have:=of_decide_eq_true (ak2.mp hc.1 z hq)
    show D.int z=D.int (z.toNat:Int)
    congr 1;omega
   ·obtain⟨z,hq,rfl⟩:=akW.mp hx
    have:=of_decide_eq_true (ak2.mp hc.1 z hq)
    omega
  ·cases h
 ·cases h
theorem BV{ns:List Nat}(h:(ck ns).length<64) (hx:∀x∈ns,x<128):jr (nD ns)=some ns:=by
 unfold jr
 have e:nD ns=(ns.map λn:Nat=>(n:Int)).map D.int:=by simp[nD]
 rw[e,DP]
 dsimp only
 have e:(ns.map λn:Nat=>(n:Int)).map Int.toNat=ns:=by
  rw[aln]
  have:(Int.toNat ∘ λn:Nat=>(n:Int))=id:=by funext n;simp
  rw[this,anY]
 rw[e,if_pos ⟨ak2.mpr λz hz=>by
  obtain⟨n,hn,rfl⟩:=akW.mp hz
  have:=hx n hn
  exact decide_eq_true (by omega),h⟩]
theorem Bj{K:PySem.W.Frag}{ρ:List Addr}{H:Hp}{ns:List Nat}{xs:List V}(h:aJ K ρ H (nD ns) xs):xs=nV ns:=by
 have e:nD ns=(ns.map λn:Nat=>(n:Int)).map D.int:=by simp[nD]
 rw[e]at h
 rw[aJ.Lh h]
 simp[nV]
theorem Uu{K:PySem.W.Frag}{ρ:List Addr}{H:Hp}(ns:List Nat):aJ K ρ H (nD ns) (nV ns):=by
 have e:nD ns=(ns.map λn:Nat=>(n:Int)).map D.int:=by simp[nD]
 have e':nV ns=(ns.map λn:Nat=>(n:Int)).map V.int:=by simp[nV]
 rw[e,e']
 exact aJ.ints
theorem uM(ns:List Nat):bE (nD ns)=true:=by
 have e:nD ns=(ns.map λn:Nat=>(n:Int)).map D.int:=by simp[nD]
 rw[e];exact ye
def jd(a:aj):af:=λe c=>(a e c).bind λxs c=>match xs with
 |[x]=>match dG c x with
  |some l=>match jr l with
   |some ns=>.ok (.lst (nD (ck ns))) c
   |none=>.bad
  |none=>.bad
 |_=>.bad
theorem WI{e:Expr}{da:aj}{p1 p2 q1 q2:Pos}{f:List D->aa->R D}(ha:fh X [e] da) (hm:X.mg "sorted"=none) (hm2:X.mg "set"=none) (hg:Gl X "sorted") (ju:Gl X "set") (hc:X.calm=true)
  (he:starEach [e] X.env=(false,eval e X.env)::starEach [] X.env)
  (hf:∀xs c ρ H (Q:VK) vs,Wd X.K ρ H c->aJ X.K ρ H xs vs->post X.K (Rel X.K) (f xs c) ρ H Q->∃a ns,vs=[.ref a]/\bH X.K H a (nV ns)/\(ck ns).length<64/\(∀x∈ns,x<128) /\
   ∀p,H p=none->∀q,upd H p (.ext (mT X.w p ns)) q=none->Q (.ref q) (upd (upd H p (.ext (mT X.w p ns))) q (.lst (nV (ck ns))))) :
  bf X (.Call (.Name "sorted" p1) [.Call (.Name "set" p2) [e] [] q2] [] q1) (aG f da):=by
 have vo:PE X (.Call (.Name "set" p2) [e] [] q2) _:=nc (MS hc) ju hm2 (by decide +kernel) ha (by decide) (by decide) he (by exact fE rfl)
 refine(xR (agR hc) hg hm (by decide +kernel) (jl vo jP (cJ rfl)) (by decide) (by decide) (by exact cJ rfl) (by exact fE rfl)).imp λσ H Q h=>?_
 obtain⟨ρ,e,c,W,V,p⟩:=h
 refine⟨ρ,e,c,W,V,post.bind p λxs c1 aK H1 vs ex W1 X1 r1 p1=>?_⟩
 obtain⟨a,ns,rfl,sq,h64,hx,q⟩:=hf xs c1 aK H1 Q vs W1 r1 p1
 exact⟨a,ns,rfl,sq,h64,hx,λp hp=>⟨p,ns,rfl,fD,h64,λq' hq=>q p hp q' hq⟩⟩
def IM:List D->aa->R D:=λxs c=>match xs with
 |[x]=>match dG c x with
  |some l=>match jr l with
   |some ns=>.ok (.lst (nD (ck ns))) c
   |none=>.bad
  |none=>.bad
 |_=>.bad
theorem JC{e:Expr}{da:aj}{p1 p2 q1 q2:Pos}(ha:fh X [e] da) (hm:X.mg "sorted"=none) (hm2:X.mg "set"=none) (hg:Gl X "sorted":=by rfl) (ju:Gl X "set":=by rfl) (hc:X.calm=true:=by rfl)
  (he:starEach [e] X.env=(false,eval e X.env)::starEach [] X.env:=by exact cJ rfl):bf X (.Call (.Name "sorted" p1) [.Call (.Name "set" p2) [e] [] q2] [] q1) (jd da) :=
 WI (f:=IM) ha hm hm2 hg ju hc he λxs c ρ H Q vs W r p=>by
  unfold IM at p
  split at p
  ·rename_i x
   obtain⟨v,rr,rfl,hx,hr⟩:=r
   cases hr
   split at p
   ·rename_i l hl
    split at p
    ·rename_i ns hn
     obtain⟨rfl,h64,hx'⟩:=BU hn
     obtain⟨a,ys,rfl,ha',rl⟩:=kQ W hx hl
     cases Bj rl
     refine⟨a,ns,rfl,bH.of ha',h64,hx',λq hq q' hq'=>?_⟩
     exact oO (W.fresh hq) (Uu _) (post.ext p (Ext.fresh W hq)) q' hq'
    ·exact p.elim
   ·exact p.elim
  ·exact p.elim
end
section
variable (a:aj) (e:Ev) (c:aa)
@[simp] theorem PF:jd a e c=(a e c).bind λxs c=>match xs with
 |[x]=>match dG c x with
  |some l=>match jr l with
   |some ns=>.ok (.lst (nD (ck ns))) c
   |none=>.bad
  |none=>.bad
 |_=>.bad:=rfl
end
section
variable {prog:Program}{w:World}{A:Around}{E:Value->Shared->Prop}{s:Shared}
theorem BO:∀{l m:List Nat},l.Nodup->(∀x∈l,x∈m)->l.length<=m.length
 |[],m,_,_=>alW _
 |x::l,m,h,hs=>by
  obtain⟨h1,h2⟩:=al8.mp h
  have hx:=hs x (.head _)
  have:=BO (m:=m.erase x) h2 λy hy=>(aom (λe:y=x=>h1 (by rw[<-e];exact hy))).mpr (hs y (.tail _ hy))
  rw[aon hx]at this
  have:=apd hx
  rw[alc];omega
end
theorem sub_tuple_set:isSubtype (.type "tuple") (.type "set")=pure false:=by rw[anW];kernel_rfl
theorem sub_tuple_frozenset:isSubtype (.type "tuple") (.type "frozenset")=pure false:=by rw[anW];kernel_rfl
section
variable {prog:Program}{w:World}{A:Around}{s:Shared}{E:Value->Shared->Prop}
set_option maxHeartbeats 3200000 in
theorem Tg{l:Addr}{items:Array Value}{xs:List Nat}{Q:Value->Shared->Prop}(hh:A.handled=none) (hl:s.heap.IsTuple l items) (hi:IntsAre items.toList (xs.map λn:Nat=>(n:Int))) (hx:∀x∈xs,x<128) (h64:(dI xs).length<64)
  (h:∀(h':Heap) (tk:Nat),gP w h' s.heap.objs.size (dI xs)->(∀b o,b<s.heap.objs.size->s.heap.get? b=some o->h'.get? b=some o)->Q (.ref s.heap.objs.size) {s with heap:=h',toks:=tk}) :
  wpAny (model prog w) A (call (.type "set") [.ref l]) Q E s:=by
 obtain⟨c,tl,LG⟩:=alp.mro
 have hmade:=alp.made
 have hsub:=alp.sub
 refine amE (anV (show wpAny _ _ (callAny (.type "set") _) _ _ _ from ?_))
 refine akU ⟨aot _ (by decide +kernel),amq aou ?_⟩
 rw[aov (aow "set" [.ref l] []) rfl]
 have h1:=alp.notType
 have h2:=alp.canCreate
 have hct:=aox (.ref l)
 repeat any_goals (first|assumption|wp_step)
 refine al0 (A4 (.ref l) (E:=E) (Q₁:=λobj s₁=>obj=.ref s.heap.objs.size/\s₁={s with heap:=s.heap.push (cV w)}) ⟨rfl,rfl⟩) λr s₁ hr=>?_
 cases r with
 |error e=>exact hr
 |ok fl =>
  cases fl with
  |ret obj =>
   obtain⟨rfl,rfl⟩:=hr
   have hS:(s.heap.push (cV w)).get? s.heap.objs.size=some (cV w):=alb _ rfl
   have hT:Shared.TypeIs {s with heap:=s.heap.push (cV w)} (.ref s.heap.objs.size) "set":=⟨_,hS,rfl⟩
   have hli:=alp.init.lookup
   have hbi:=alp.init.bind (.ref s.heap.objs.size)
   repeat any_goals (first|assumption|wp_step)
   refine al0 (aoy (R:=wants (λr s₂=>r=.none/\∃h' tk,s₂={s with heap:=h',toks:=tk}/\gP w h' s.heap.objs.size (dI xs) /\
     (∀b o,b<s.heap.objs.size->s.heap.get? b=some o->h'.get? b=some o)) E) alp.init.plain aoz (aoA hT ?_)) λr₂ s₂ jt=>?_
   ·obtain⟨ol,iF,hcl,nl,hdl⟩:=hl
    obtain⟨J1,uL,JV,uJ⟩:=ol
    simp only at hcl hdl
    subst hcl;subst hdl
    have nF:(s.heap.push (cV w)).get? l=some {cls:=.type "tuple",dict:=uL,data:=.seq items nl,slots:=uJ}:=akX _ iF
    have Lw:=sub_tuple_set
    have Lx:=sub_tuple_frozenset
    have hne:(Value.type "tuple"==Value.type "dict")=false:=by decide
    have hl1:(s.heap.push (cV w)).IsTuple l items:=⟨_,nF,rfl,nl,rfl⟩
    unfold cV at hS hT nF ⊢
    unfold Builtin.«set.__init__» noKeywords Builtin.Frozenset.updateFrom
    generalize vF:pyIter=PI
    wp_walk
    subst vF
    refine anq hl1 (akT (aoB ?_))
    have hlS:l<s.heap.objs.size:=ak0 iF
    have hlen:items.size=xs.length:=by have:=hi.length;simpa using this
    have vt:l≠(s.heap.push (cV w)).objs.size:=by rw[alv];exact ak1 (al5 hlS)
    have hSf:s.heap.objs.size∉[(s.heap.push (cV w)).objs.size,l]:=by
     rw[alv];simp only[akY,ak9,or_false,not_or];exact⟨ak1 (al2 _),alO hlS⟩
    have W:=(Walks.tuple (prog:=prog) (w:=w) (A:=A.in1.in1.in1) (by simp[hh]) (s.heap.push (cV w)).objs.size l vt items).toS
    rw[hlen]at W
    refine IS (xs:=xs) W s.heap.objs.size hSf (λi v hi' hv=>?_) hx h64 xs.length 0 _ (by omega) (alW _) ⟨⟨_,alb _ rfl,rfl,rfl⟩,hl1.at λo e=>akX _ e⟩ (MB w (akX _ hS)) λs' hm hS'=>?_
    ·obtain⟨t,e⟩:=IntsAre.int_at hi i v (by rw[alw];exact hv)
     exact⟨t,by rw[e];simp[alf,ak3 hi']⟩
    ·obtain⟨h',g',d',tk',os'⟩:=s'
     cases(show g'=s.gens from hm.gens)
     cases(show d'=s.drawn from hm.drawn)
     cases(show os'=s.os from hm.os)
     refine akU (akU ⟨rfl,h',tk',rfl,hS',λb o hb e=>?_⟩)
     exact hm.heap b o (by rw[alv];simp only[akY,ak9,or_false,not_or];exact⟨ak1 hb,ak1 (al5 hb)⟩) (akX _ (akX _ e))
   ·cases r₂ with
    |error e=>exact jt
    |ok vK =>
     cases vK with
     |ret r =>
      obtain⟨rfl,h',tk,rfl,hS',hk'⟩:=jt
      repeat any_goals (first|assumption|wp_step)
      exact h _ _ hS' hk'
     |_=>exact jt.elim
  |_=>exact hr.elim
end
section
variable {X:Cx}
def UD(X:Cx):List V->Hp->VK->Prop:=λxs H Q=>∃a ns,xs=[.ref a]/\(bH X.K H a (nV ns)\/cI X.K H a (nV ns))/\(ck ns).length<64/\(∀x∈ns,x<128)/\∀p,H p=none->Q (.ref p) (upd H p (.ext (mT X.w p ns)))
theorem agT(hc:X.calm=true:=by rfl):dW X (.type "set") (UD X):=by
 intro pins s σ H xs us Q I rv h
 obtain⟨a,ns,rfl,sq,hb,hx,q⟩:=h
 rcases sq with sq|sq
 ·exact MS hc pins s σ H _ us Q I rv ⟨a,ns,rfl,sq,hb,hx,q⟩
 ·obtain⟨u,rfl,ru⟩:=alK rv
  cases ru
  obtain⟨its,ri,pl,hz⟩:=I.tuple sq
  refine Tg (xs:=ns) (I.ok.hd hc) (show s.heap.IsTuple a its.toArray from pl) (by simpa using AS ri) hx (by rw[<-xm];exact hb) λh' tk hS kp=>?_
  have hf:H s.heap.objs.size=none:=I.hok.fresh (akV _)
  have k7:=hS
  obtain⟨o,es,ep,t,ho,_⟩:=k7
  refine⟨.ref s.heap.objs.size,upd H s.heap.objs.size (.ext (mT X.w s.heap.objs.size ns)),I.laid (t':=tk) (λb u e=>kp b u (ak0 e) e) (akV _) ?_,rfl,q _ hf⟩
  exact⟨hS,⟨o,ho⟩,λh1 h2 x k=>x.at k⟩
def uQ(c:aa):D->Option (List Nat)
 |.tup l=>jr l
 |x=>match dG c x with
  |some l=>jr l
  |none=>none
theorem aar{K:PySem.W.Frag}{ρ:List Addr}{H:Hp}{c:aa}{x:D}{v:V}{ns:List Nat}(W:Wd K ρ H c) (r:Rel K ρ H x v) (h:uQ c x=some ns):∃a,v=.ref a/\(bH K H a (nV ns)\/cI K H a (nV ns))/\(ck ns).length<64/\∀x∈ns,x<128:=by
 unfold uQ at h
 split at h
 ·obtain⟨rfl,h64,hx⟩:=BU h
  obtain⟨a,xs,rfl,ha,rl⟩:=r
  cases Bj rl
  exact⟨a,rfl,.inr (cI.of ha),h64,hx⟩
 ·split at h
  ·rename_i l hl
   obtain⟨rfl,h64,hx⟩:=BU h
   obtain⟨a,ys,rfl,ha,rl⟩:=kQ W r hl
   cases Bj rl
   exact⟨a,rfl,.inl (bH.of ha),h64,hx⟩
  ·cases h
end
section
variable {X:Cx}
theorem aac{l:List D}(h:bE l=true) (n:Nat):bE (l.take n)=true:=gV.mpr λd hd=>gV.mp h d (alx hd)
theorem aad{l:List D}(h:bE l=true) (n:Nat):bE (l.drop n)=true:=gV.mpr λd hd=>gV.mp h d (anL hd)
end
mutual
def dX(c:aa) (n:Nat):D->Option D
 |.ref k=>match c[k]? with
  |some (.lst l)=>if n<=k then some (.lst l)else none
  |none=>none
 |.lst l=>match gm c n l with
  |some m=>some (.lst m)
  |none=>none
 |.tup l=>match gm c n l with
  |some m=>some (.tup m)
  |none=>none
 |.aO=>some .aO
 |.bl b=>some (.bl b)
 |.int i=>some (.int i)
 |.str x=>some (.str x)
 |.ty x=>some (.ty x)
 |.cF x=>some (.cF x)
 |.fn x m=>some (.fn x m)
 |.exc x=>some (.exc x)
 |.gZ=>some .gZ
 |.dct ks=>some (.dct ks)
 |.lam _ _ _ _=>none
def gm(c:aa) (n:Nat):List D->Option (List D)
 |[]=>some []
 |d::l=>match dX c n d,gm c n l with
  |some a,some m=>some (a::m)
  |_,_=>none
end
section
variable {K:PySem.W.Frag}{aK:List Addr}{H1:Hp}{c1:aa}{n:Nat}
mutual
theorem Ih(W1:Wd K aK H1 c1):∀(d:D) (v:V) (d':D),Rel K aK H1 d v->dX c1 n d=some d'->Rel K (aK.take n) H1 d' v
 |.ref k,v,d',r,h=>by
  unfold dX at h
  split at h
  ·rename_i l hl
   split at h
   ·rename_i hk
    cases h
    obtain⟨a,rfl,ha⟩:=r
    obtain⟨nr,xs,hx,rl⟩:=W1.fM k a _ ha hl
    refine⟨a,xs,rfl,⟨hx,λq=>?_⟩,aJ.low (λb h=>alx h) l xs nr rl⟩
    obtain⟨j,hj,e⟩:=amn.mp q
    rw[anH]at e
    have hk1:=ala.mp ha
    have hjl:j<aK.length:=by simp at hj;omega
    have:=(ano W1.nd (h₀:=hjl) (h₁:=hk1.1)).mp (e.trans hk1.2.symm)
    simp at hj
    omega
   ·cases h
  ·cases h
 |.lst l,v,d',r,h=>by
  unfold dX at h
  split at h
  ·rename_i m hm
   cases h
   obtain⟨a,xs,rfl,s,rl⟩:=r
   exact⟨a,xs,rfl,⟨s.1,λq=>s.2 (alx q)⟩,AV W1 l xs m rl hm⟩
  ·cases h
 |.tup l,v,d',r,h=>by
  unfold dX at h
  split at h
  ·rename_i m hm
   cases h
   obtain⟨a,xs,rfl,s,rl⟩:=r
   exact⟨a,xs,rfl,s,AV W1 l xs m rl hm⟩
  ·cases h
 |.aO,v,d',r,h=>by unfold dX at h;cases h;exact Rel.low (λb h=>alx h) _ _ rfl r
 |.bl b,v,d',r,h=>by unfold dX at h;cases h;exact Rel.low (λb h=>alx h) _ _ rfl r
 |.int i,v,d',r,h=>by unfold dX at h;cases h;exact Rel.low (λb h=>alx h) _ _ rfl r
 |.str x,v,d',r,h=>by unfold dX at h;cases h;exact Rel.low (λb h=>alx h) _ _ rfl r
 |.ty x,v,d',r,h=>by unfold dX at h;cases h;exact Rel.low (λb h=>alx h) _ _ rfl r
 |.cF x,v,d',r,h=>by unfold dX at h;cases h;exact Rel.low (λb h=>alx h) _ _ rfl r
 |.fn x m,v,d',r,h=>by unfold dX at h;cases h;exact Rel.low (λb h=>alx h) _ _ rfl r
 |.exc x,v,d',r,h=>by unfold dX at h;cases h;exact Rel.low (λb h=>alx h) _ _ rfl r
 |.gZ,v,d',r,h=>by unfold dX at h;cases h;exact Rel.low (λb h=>alx h) _ _ rfl r
 |.dct ks,v,d',r,h=>by unfold dX at h;cases h;exact Rel.low (λb h=>alx h) _ _ rfl r
 |.lam _ _ _ _,v,d',r,h=>by unfold dX at h;cases h
theorem AV(W1:Wd K aK H1 c1):∀(l:List D) (xs:List V) (m:List D),aJ K aK H1 l xs->gm c1 n l=some m->aJ K (aK.take n) H1 m xs
 |[],xs,m,r,h=>by unfold gm at h;cases h;exact r
 |d::l,xs,m,r,h=>by
  unfold gm at h
  split at h
  ·rename_i a m' ha hm
   cases h
   obtain⟨y,ys,rfl,r1,r2⟩:=r
   exact⟨y,ys,rfl,Ih W1 d y a r1 ha,AV W1 l ys m' r2 hm⟩
  ·cases h
end
end
def nL(n:Nat) (v:D) (c:aa):R D:=match dX c n v with
 |some d=>.ok d (c.take n)
 |none=>.bad
def lg(n:Nat) (d:ah):List D->aa->R D:=λxs c=>(d (cO n xs) c).bind λf c'=>match f with
 |.rt v=>nL c.length v c'
 |.nx _=>nL c.length .aO c'
 |_=>.bad
theorem Mw{K:PySem.W.Frag}{ρ aK:List Addr}{H H1:Hp}{c c1:aa}{v:D}{x:V}{Q:VK}(W:Wd K ρ H c) (W1:Wd K aK H1 c1) (X1:Ext ρ H aK H1) (r:Rel K aK H1 v x) (p:post K (Rel K) (nL c.length v c1) ρ H Q):Q x H1:=by
 have hn:=Ext.len W W1 X1
 have Wc:=W1.cut hn
 have Xc:=X1.cut (n:=c.length) (aml W.len)
 unfold nL at p
 split at p
 ·rename_i d hd
  exact p _ H1 x Wc Xc (Ih W1 v x d r hd)
 ·exact p.elim
section
variable {P:Program}{w:World}{K:PySem.W.Frag}{mg:Str->Option Value}{base:Heap}
theorem aeQ{x qual:Str}{st:Stmt}{f:Addr}{fd:FuncData}{N ps:List Str}{k n m:Nat}{d:ah}(F:mJ K x qual st f fd) (S:b9 N ps (aQ st)) (hN:N.length=n) (hm:ps.length=m)
  (hb:∀(cdv:Value) (A:Around) (outer:List Env) (s:Shared) (H:Hp) (E:XK),cR k (A.deeper (envOfC qual (aQ st) s.heap.objs.size f cdv))->bV (j5 bB P w K mg base N qual (aQ st) f cdv A outer s H E).kK (bX st) d) :
  bI P w K mg base bB (k+1) f fd ps (bM K m (lg n d)):=by
 subst hN;subst hm
 refine F.ok S (λvs H Q E h=>?_) (λcdv A outer s H vs Q E hr h=>⟨_,hb cdv A outer s H E hr,?_⟩)
 ·obtain⟨ρ,xs,c,W,r,hl,p⟩:=h
  exact r.length.trans hl
 ·obtain⟨ρ,xs,c,W,r,hl,p⟩:=h
  refine⟨ρ,cO N.length xs,c,W,dz.start r,post.bind p λfl c1 aK H1 b _ W1 X1 r1 p1=>?_⟩
  cases fl with
  |nx e1 =>
   obtain⟨σ1,rfl,V1⟩:=r1
   exact Mw (v:=.aO) (x:=.aO) (H1:=H1) W W1 X1 rfl (by unfold lg at p;rename_i he;rw[he]at p;exact p)
  |rt d =>
   obtain⟨v,rfl,V1⟩:=r1
   exact Mw (v:=d) (x:=v) (H1:=H1) W W1 X1 V1 (by unfold lg at p;rename_i he;rw[he]at p;exact p)
  |bk e1=>exact p1.elim
  |ct e1=>exact p1.elim
end
@[simp] theorem ajv(n:Nat) (d:ah) (xs:List D) (c:aa):lg n d xs c=(d (cO n xs) c).bind λf c'=>match f with
 |.rt v=>nL c.length v c'
 |.nx _=>nL c.length .aO c'
 |_=>.bad:=rfl
end L2
namespace L2
open PySem PySem.Spec PyProof.Rows
section
variable {X:Cx}{e sx:Expr}{te:TE}{lo hi:Option Expr}{tl th ts:TO}{pos p2:Pos}
def gp(i j:Int):List Int:=(List.range (j-i).toNat).map λk:Nat=>i+(k:Int)
theorem Qy{f:Nat->Int}{acc:Array Value}{n:Nat}(h:ItemsOf (λk v=>∃t,v=.int (f k) t) acc n):Vals (((List.range n).map f).map V.int) acc.toList:=by
 have hl:acc.toList.length=n:=by rw[alm];exact h.1
 have key:∀(us:List Value) (o:Nat),(∀(k:Nat) (u:Value),us[k]? = some u->∃t,u=.int (f (o+k)) t)->Vals (((List.range' o us.length).map f).map V.int) us:=by
  intro us
  induction us with
  |nil=>intro o _;exact .nil
  |cons u us ih =>
   intro o hu
   rw[alc,List.range'_succ]
   obtain⟨t,e⟩:=hu 0 u rfl
   refine .cons ⟨t,e⟩ (ih (o+1) λk v hv=>?_)
   have:=hu (k+1) v (by simpa using hv)
   rwa[show o+(k+1)=o+1+k by omega]at this
 have:=key acc.toList 0 λk u hu=>by
  have:=h.2 k u (by rw[<-alw];exact hu)
  rwa[alr]
 rwa[hl,<-List.range_eq_range']at this
def UL(X:Cx):List V->Hp->VK->Prop:=λxs H Q=>∃p i j,xs=[.ref p]/\H p=some (.rM i j)/\(0<=i/\i<j/\j<1000)/\∀l,H l=none->Q (.ref l) (upd H l (.lst ((gp i j).map V.int)))
theorem MU(hc:X.calm=true:=by rfl):dW X (.type "list") (UL X):=by
 intro pins s σ H xs us Q I rv h
 obtain⟨p,i,j,rfl,hH,hb,q⟩:=h
 obtain⟨u,rfl,ru⟩:=alK rv
 cases ru
 obtain⟨t,u,v,hr⟩:=I.hok p _ hH
 have hn:Builtin.Range.rangeSize i j 1=((j-i).toNat:Nat):=by
  unfold Builtin.Range.rangeSize
  rw[if_pos (by decide),if_pos hb.2.1,Int.ediv_one]
  omega
 have hsm:Builtin.Range.small i j 1=true:=small_one (by omega) (by omega) (by omega) (by omega)
 refine call_list_range (I.ok.hd hc) hr hsm hn (by omega) λh' tk acc c' kp hg hit=>?_
 have vz:ItemsOf (λk v=>∃t,v=Value.int ((λk:Nat=>i+(k:Int)) k) t) acc (j-i).toNat:=⟨hit.1,λk v hv=>by
  have:=hit.2 k v hv
  simpa using this⟩
 refine⟨.ref s.heap.objs.size,upd H s.heap.objs.size (.lst ((gp i j).map V.int)),I.laid (t':=tk) kp (akV _) ⟨?_,acc.toList,c',Qy vz,by rw[Array.toArray_toList];exact hg⟩,rfl,q _ (I.hok.fresh (akV _))⟩
 simp only[gp,ak4,alR]
 rw[am4];omega
end
open PySem.SeqAt
open AutoSeq1 (wpAny_loadPart')
section
variable {X:Cx}
def UE:List V->Hp->VK->Prop:=λxs H Q=>∃j,xs=[.int j]/\∀p,H p=none->Q (.ref p) (upd H p (.rM 0 j))
theorem MT:dW X (.type "range") UE:=by
 intro pins s σ H xs us Q I rv h
 obtain⟨j,rfl,q⟩:=h
 obtain⟨u,rfl,ru⟩:=alK rv
 obtain⟨t,rfl⟩:=ru
 refine call_range_1 ⟨.ref s.heap.objs.size,upd H s.heap.objs.size (.rM 0 j),I.laid (t':=s.toks+1+1) (λb o e=>akX _ e) (akV _) ?_,rfl,q _ (I.hok.fresh (akV _))⟩
 exact⟨_,_,_,alb _ rfl⟩
def pL(a:aj):af:=λe c=>(a e c).bind λxs c=>match xs with
 |[.int j]=>if 0<j/\j<1000 then .ok (.lst ((gp 0 j).map D.int)) c else .bad
 |_=>.bad
theorem Xa{a:Expr}{da:aj}{p1 p2 q1 q2:Pos}(ha:fh X [a] da) (hm:X.mg "list"=none) (hm2:X.mg "range"=none) (hg:Gl X "list":=by rfl) (ju:Gl X "range":=by rfl) (hc:X.calm=true:=by rfl)
  (he:starEach [a] X.env=(false,eval a X.env)::starEach [] X.env:=by exact cJ rfl) (hb:(backTo q2 (starEach [] X.env)).any (·.1)=false:=by exact fE rfl):bf X (.Call (.Name "list" p1) [.Call (.Name "range" p2) [a] [] q2] [] q1) (pL da):=by
 have hr:PE X (.Call (.Name "range" p2) [a] [] q2) _:=nc MT ju hm2 (by decide +kernel) ha (by decide) (by decide) he hb
 refine(nc (MU hc) hg hm (by decide +kernel) (jl hr jP (cJ rfl)) (by decide) (by decide) (by exact cJ rfl) (by exact fE rfl)).imp λσ H Q h=>?_
 obtain⟨ρ,e,c,W,V,p⟩:=h
 refine⟨ρ,e,c,W,V,post.bind p λxs c1 aK H1 vs ex W1 X1 r1 p1=>?_⟩
 clear ex
 split at p1
 ·rename_i j
  obtain⟨v,r,rfl,hx,hr2⟩:=r1
  cases hr2;cases hx
  split at p1
  ·rename_i hb
   refine⟨j,rfl,λp hp=>⟨p,0,j,rfl,fD,⟨aoF _,hb.1,hb.2⟩,λl hl=>?_⟩⟩
   exact oO (W1.fresh hp) aJ.ints (post.ext p1 (Ext.fresh W1 hp)) l hl
  ·exact p1.elim
 ·exact p1.elim
def UK(X:Cx):List V->Hp->VK->Prop:=λxs H Q=>∃a ns,xs=[.ref a]/\H a=some (.ext (mT X.w a ns))/\(ck ns).length<64/\Q (.int ((ck ns).length:Nat)) H
theorem agV:dW X (.builtin "len") (UK X):=by
 intro pins s σ H xs us Q I rv h
 obtain⟨a,ns,rfl,hH,hn,q⟩:=h
 obtain⟨u,rfl,ru⟩:=alK rv
 cases ru
 obtain⟨hS,_,_⟩:=I.hok a _ hH
 obtain⟨o,es,ep,t,ho,hex,hd,hI,hl,hs⟩:=hS
 have he:es.size=(ck ns).length:=by rw[<-alm,xm];exact hs.len
 refine call_len_set ho hex hd hI.fits (by rw[he];omega) ⟨.int ((ck ns).length:Nat),H,I.tok _,⟨_,by rw[he]⟩,q⟩
def sU(a:aj):af:=λe c=>(a e c).bind λxs c=>match xs with
 |[x]=>match uQ c x with
  |some ns=>.ok (.int ((ck ns).length:Nat)) c
  |none=>.bad
 |_=>.bad
theorem Xd{a:Expr}{da:aj}{p0 p1 q0 q1:Pos}(ha:fh X [a] da) (hm:X.mg "len"=none) (hm2:X.mg "set"=none) (hg:Gl X "len":=by rfl) (ju:Gl X "set":=by rfl) (hc:X.calm=true:=by rfl)
  (he:starEach [a] X.env=(false,eval a X.env)::starEach [] X.env:=by exact cJ rfl) :
  bf X (.Call (.Name "len" p0) [.Call (.Name "set" p1) [a] [] q1] [] q0) (sU da):=by
 have h1:PE X (.Call (.Name "set" p1) [a] [] q1) _:=nc (agT hc) ju hm2 (by decide +kernel) ha (by decide) (by decide) he (by exact fE rfl)
 refine(xR agV hg hm (by decide +kernel) (jl h1 jP (cJ rfl)) (by decide) (by decide) (by exact cJ rfl) (by exact fE rfl)).imp λσ H Q h=>?_
 obtain⟨ρ,e,c,W,V,p⟩:=h
 refine⟨ρ,e,c,W,V,post.bind p λxs c1 aK H1 vs ex W1 X1 r1 p1=>?_⟩
 clear ex
 split at p1
 ·rename_i x
  obtain⟨v,r,rfl,hx,hr⟩:=r1
  cases hr
  split at p1
  ·rename_i ns hn
   obtain⟨ad,rfl,sq,h64,hx'⟩:=aar W1 hx hn
   refine⟨ad,ns,rfl,sq,h64,hx',λpa hpa=>⟨pa,ns,rfl,fD,h64,?_⟩⟩
   exact(post.ext p1 (Ext.fresh W1 hpa)).here (W1.fresh hpa) rfl
  ·exact p1.elim
 ·exact p1.elim
end
section
variable (o a:af) (b:aj) (e:Ev) (c:aa)
@[simp] theorem ajn:pL b e c=(b e c).bind λxs c=>match xs with
 |[.int j]=>if 0<j/\j<1000 then .ok (.lst ((gp 0 j).map D.int)) c else .bad
 |_=>.bad:=rfl
end
def mL:D->D->aa->R D:=λx y c=>match x,y with
 |.int i,.int j=>.ok (.int (Builtin.bitXor i j)) c
 |_,_=>.bad
def jy(o a:af):af:=λe c=>(o e c).bind λx c=>match x with
 |.ref k=>(a e c).bind λi c=>match i,c[k]? with
  |.int i,some (.lst l)=>if 0<=i/\i<l.length/\l.length<1000 then(match l[i.toNat]? with|some d=>.ok d (c.set k (.lst (l.eraseIdx i.toNat)))|none=>.bad)else .bad
  |_,_=>.bad
 |_=>.bad
def vP(a:aj):af:=λe c=>(a e c).bind λxs c=>match xs with
 |[.int j]=>if 0<j/\j<1000 then .ok (.ref c.length) (c++[.lst ((gp 0 j).map D.int)])else .bad
 |_=>.bad
section
variable {X:Cx}
theorem Yz:bQ X (binaryOp .BitXor) (r2 X.K mL):=by
 intro pins s σ H v u vv uu Q I rv ru h
 obtain⟨ρ,x,y,c,W,rx,ry,p⟩:=h
 unfold mL at p
 split at p
 ·cases rx;cases ry
  exact Xs pins s σ H _ _ vv uu Q I rv ru ⟨_,_,rfl,rfl,p.here W rfl⟩
 ·exact p.elim
theorem JD{o a:Expr}{dO da:af}{apos cpos:Pos}(ho:bf X o dO) (ha:bf X a da)
  (hbase:attributeBase o "pop" X.env (eval o X.env)=eval o X.env:=by rfl)
  (hfew:((backTo cpos (starEach [a] X.env)).all (λx=>!x.1)&&(backToKw cpos (keywordEach [] X.env)).all (λx=>x.1.isSome)
   && decide ([a].length+([]:List Keyword).length+(if([]:List Keyword).isEmpty then 0 else 1)<30))=true:=by exact A0 rfl)
  (hline:(apos.endLine==cpos.line)=true:=by rfl) (hs:starEach [a] X.env=(false,eval a X.env)::starEach [] X.env:=by exact cJ rfl) (hplain:(backTo cpos (starEach [] X.env)).any (·.1)=false:=by exact fE rfl) :
  bf X (.Call (.Attribute o "pop" apos) [a] [] cpos) (jy dO da) :=
 (Bv aoh PySem.F.slot_list_pop PySem.F.type_list_pop aba ho (jl ha jP hs) hbase hfew hline hs hplain).imp λσ H Q h=>by
  obtain⟨ρ,e,c,W,V,p⟩:=h
  refine⟨ρ,e,c,W,V,post.bind p λx c1 aK H1 v _ W1 X1 r1 p1=>?_⟩
  cases x with
  |ref k =>
   obtain⟨ad,rfl,hk⟩:=r1
   obtain⟨xs,hx⟩:=W1.at' (alo hk)
   refine⟨.inl ⟨rfl,xs,bH.of hx⟩,aK,e,c1,W1,V.mono W X1,post.bind p1 λi c2 cX H2 ui _ W2 X2 r2 p2=>?_⟩
   split at p2
   ·rename_i i' l hl _
    split at p2
    ·rename_i hh
     cases r2
     have hk2:=X2.pre k ad hk
     obtain⟨nr,ys,hy,rl⟩:=W2.fM k ad _ hk2 hl
     split at p2
     ·rename_i d hd
      obtain⟨y,hy1,ry⟩:=rl.get hd
      have hlen:=rl.length
      refine⟨ad,ys,i',i'.toNat,y,rfl,rfl,hy,by omega,by omega,?_,hy1,?_⟩
      ·have e0:(if i'<0 then i'+(ys.length:Int)else i')=i':=if_neg (by omega)
       unfold seqIndex?
       simp only[e0]
       rw[if_pos (by simp only[ald,decide_eq_true_eq];omega)]
      ·rw[amB]at p2 ⊢
       refine p2 cX _ y (W2.write hk2 ?_ ((rl.take _).append (rl.drop _))) (Ext.write hk2) (Rel.mono W2 (Ext.write hk2) _ _ ry)
       rw[uN,aac nr,aad nr]
       rfl
     ·exact p2.elim
    ·exact p2.elim
   ·exact p2.elim
  |_=>exact p1.elim
theorem W9{a:Expr}{da:aj}{p1 p2 q1 q2:Pos}(ha:fh X [a] da) (hm:X.mg "list"=none) (hm2:X.mg "range"=none) (hg:Gl X "list":=by rfl) (ju:Gl X "range":=by rfl) (hc:X.calm=true:=by rfl)
  (he:starEach [a] X.env=(false,eval a X.env)::starEach [] X.env:=by exact cJ rfl) (hb:(backTo q2 (starEach [] X.env)).any (·.1)=false:=by exact fE rfl):bf X (.Call (.Name "list" p1) [.Call (.Name "range" p2) [a] [] q2] [] q1) (vP da):=by
 have hr:PE X (.Call (.Name "range" p2) [a] [] q2) _:=nc MT ju hm2 (by decide +kernel) ha (by decide) (by decide) he hb
 refine(nc (MU hc) hg hm (by decide +kernel) (jl hr jP (cJ rfl)) (by decide) (by decide) (by exact cJ rfl) (by exact fE rfl)).imp λσ H Q h=>?_
 obtain⟨ρ,e,c,W,V,p⟩:=h
 refine⟨ρ,e,c,W,V,post.bind p λxs c1 aK H1 vs ex W1 X1 r1 p1=>?_⟩
 clear ex
 split at p1
 ·rename_i j
  obtain⟨v,r,rfl,hx,hr2⟩:=r1
  cases hr2;cases hx
  split at p1
  ·rename_i hb
   refine⟨j,rfl,λp hp=>⟨p,0,j,rfl,fD,⟨aoF _,hb.1,hb.2⟩,λl hl=>?_⟩⟩
   have nr:bE ((gp 0 j).map D.int)=true:=gV.mpr λd hd=>by
    obtain⟨i,_,rfl⟩:=akW.mp hd
    rfl
   exact BN (W1.fresh hp) nr aJ.ints (post.ext p1 (Ext.fresh W1 hp)) l hl
  ·exact p1.elim
 ·exact p1.elim
end
section
variable (o a:af) (b:aj) (e:Ev) (c:aa)
@[simp] theorem PB(i j:Int):mL (.int i) (.int j) c=.ok (.int (Builtin.bitXor i j)) c:=rfl
@[simp] theorem PY:vP b e c=(b e c).bind λxs c=>match xs with
 |[.int j]=>if 0<j/\j<1000 then .ok (.ref c.length) (c++[.lst ((gp 0 j).map D.int)])else .bad
 |_=>.bad:=rfl
end
theorem Ic{l c:Int}{t u:Tok}{v:Value}:∀(xs:List Value),TriplesOk xs->TriplesOk (xs++[.int l t,.int c u,v])
 |[],_=>trivial
 |.int _ _ :: .int _ _::_::rest,h=>Ic (l:=l) (c:=c) (t:=t) (u:=u) (v:=v) rest h
theorem Oa{pos p:Pos}{v cv:Value}:∀(xs:List Value),TriplesOk xs->codeAmong p (xs++[rawInt pos.line,rawInt pos.col,v])=some cv->codeAmong p xs=some cv\/cv=v
 |[],_,h=>by
  simp only[alg,rawInt,codeAmong]at h
  split at h
  ·exact .inr (alh h).symm
  ·cases h
 |.int a _ :: .int b _::x::rest,ht,h=>by
  simp only[anZ,codeAmong]at h ⊢
  split at h
  ·rename_i hc;rw[if_pos hc];exact .inl h
  ·rename_i hc;rw[if_neg hc];exact Oa rest ht h
structure ai5 (H H':Hp) (n:Nat) (P:Addr) (q:Str) (e:Expr) (cl:List (Str×Addr)) (a:Addr):Prop where
 at':∃o c,H' a=some (.ext (pC a o))/\wA e o q c cl/\H' c=some (.ext (pO c q))
 keep:∀b u,H b=some u->vj u=false->H' b=some u
 new:∀b,b<n->H b=none->H' b=none
 tabs:∀b ps,b≠P->H b=some (.cE ps)->H' b=some (.cE ps)
 tab:TabAt H' P q
section
variable {X:Cx}{pins:List (Addr×Obj)}{σ:St}{H:Hp}{s:Shared}
theorem M0{h1 h2:Heap}{c:Addr}{q:Str}(x:h1.CodeRec (.ref c) q) (k:∀o,h1.get? c=some o->h2.get? c=some o):h2.CodeRec (.ref c) q:=by
 obtain⟨c',oc,vs,t,e,h,r⟩:=x
 cases e
 exact⟨_,oc,vs,t,rfl,k _ h,r⟩
theorem abN{c P:Addr}{q:Str}{params:Arguments}{body:Expr}{scope:Scope}{pos:Pos}{clos:List (Str×Addr)}{Q:Value->Shared->Prop}
  (I:Inv X pins σ H s) (hcode:X.env.code=.ref c) (hq:X.env.qual++"<lambda>"=q) (hC:PySem.W.codeHdIn X.K c P=true) (hT:TabAt H P q) (hcl:closureFor scope X.env=pure clos) (hdef:defaultsOf params X.env=([],[]))
  (h:∀a H' s',Inv X pins σ H' s'->s.heap.objs.size<=a->ai5 H H' s.heap.objs.size P q (.Lambda params body scope pos) clos a->Q (.ref a) s') :
  wpAny (model X.prog X.w) X.A (eval (.Lambda params body scope pos) X.env) Q X.xe s:=by
 obtain⟨ps,hP,ht,hcs⟩:=hT
 have vE:s.heap.get? P=some (PySem.W.tabObj ps):=I.hok P _ hP
 have hns:s.heap.Ns mainGlobals X.mg:=I.mod.glob.keeps I.bk
 obtain⟨bm,ob,b1,b2,b3,b4,b5,b6⟩:=I.mod.bmod
 have we:=I.bk _ _ b3
 have hgP:mainGlobals≠P:=λz=>by
  obtain⟨o,es,ep,e,hd,_⟩:=hns
  rw[z,vE]at e;cases e;cases hd
 have hbP:bm≠P:=λz=>by rw[z,vE]at we;cases we;cases b4
 have hbG:bm≠mainGlobals:=λz=>by
  obtain⟨o,es,ep,e,hd,_⟩:=hns
  rw[z,e]at we;cases we;rw[hd]at b6;cases b6
 have hB:s.heap.BuiltinsAt X.mg P:=⟨bm,ob,b1,b2,hbG,hbP,we,b4,b5,b6⟩
 have C:PySem.W.CodeHd s.heap c P:=apu I.fB hC
 refine PySem.W.kla_eval hdef ?_
 rw[hq]
 have LV:P<s.heap.objs.size:=ak0 vE
 cases hf:codeAmong pos ps.toList with
 |some cv =>
  obtain⟨c',rfl,hc'⟩:=hcs pos cv hf
  refine PySem.W.kla_makeFunctionHit hcl I.ok.glob hns hcode C vE ht hf hB λctv h' tk hk hsz=>?_
  generalize ho:({cls:=.type "function",data:=.func (PySem.W.kla_fn "<lambda>" q params body scope clos ((X.mg "__name__").getD .none) (.ref c') ctv)}:Obj)=o
  have hof:o.isFreed=false:=by rw[<-ho];rfl
  have hn:H h'.objs.size=none:=I.hok.fresh hsz
  have nb:∀b u,H b=some u->b≠h'.objs.size:=λb u e=>c9 e hn
  refine h h'.objs.size (upd H h'.objs.size (.ext (pC h'.objs.size o))) _ (I.laid (t':=tk) (λb u e=>akX _ (hk b u e)) hsz ?_) hsz ⟨⟨o,c',fD,⟨_,ctv,ho.symm⟩,by rw[bL (nb _ _ hc')];exact hc'⟩,λb u e _=>by rw[bL (nb b u e)];exact e,λb hb e=>by rw[bL (ak1 (ak7 hb hsz))];exact e,λb ps' _ e=>by rw[bL (nb b _ e)];exact e,⟨ps,by rw[bL (nb _ _ hP)];exact hP,ht,λp v e=>let⟨d,e1,e2⟩:=hcs p v e;⟨d,e1,by rw[bL (nb _ _ e2)];exact e2⟩⟩⟩
  exact⟨alb _ hof,⟨_,alb _ hof⟩,λh1 h2 e k=>k _ e⟩
 |none =>
  refine PySem.W.kla_makeFunction hcl I.ok.glob hns hcode C vE ht hf hgP hB λc' ctv h' tk hx hge hlt hrec htb=>?_
  generalize ho:PySem.W.kla_obj "<lambda>" q params body scope clos ((X.mg "__name__").getD .none) c' ctv=o
  have hsz:s.heap.objs.size<=h'.objs.size:=alk hge (amg hlt)
  have hof:o.isFreed=false:=by rw[<-ho];rfl
  have hnc:H c'=none:=I.hok.fresh hge
  have hna:H h'.objs.size=none:=I.hok.fresh hsz
  have hca:c'≠h'.objs.size:=ak1 hlt
  have hPc:P≠c':=ak1 (ak7 LV hge)
  have hPa:P≠h'.objs.size:=ak1 (ak7 LV hsz)
  generalize hps:ps ++ #[rawInt pos.line,rawInt pos.col,.ref c']=ps' at htb
  let H':Hp:=upd (upd (upd H P (.cE ps')) c' (.ext (pO c' q))) h'.objs.size (.ext (pC h'.objs.size o))
  have qd:∀b,b≠P->b≠c'->b≠h'.objs.size->H' b=H b:=λb n1 n2 n3=>by
   show upd (upd (upd H P (.cE ps')) c' _) h'.objs.size _ b=_
   rw[bL n3,bL n2,bL n1]
  have gy:H' P=some (.cE ps'):=by
   show upd (upd (upd H P (.cE ps')) c' _) h'.objs.size _ P=_
   rw[bL hPa,bL hPc,fD]
  have GZ:H' c'=some (.ext (pO c' q)):=by
   show upd (upd (upd H P (.cE ps')) c' _) h'.objs.size _ c'=_
   rw[bL hca,fD]
  have N6:H' h'.objs.size=some (.ext (pC h'.objs.size o)):=fD
  have old:∀b u,H b=some u->vj u=false->H' b=some u:=λb u e t=>by
   rw[qd b (λz=>by rw[z,hP]at e;cases e;cases t) (c9 e hnc) (c9 e hna)];exact e
  have kp:∀b ob,b≠P->s.heap.get? b=some ob->(h'.push o).get? b=some ob:=λb ob n e=>akX _ (hx b ob n e)
  have adC:c7 X.prog X.w H' (h'.push o):=λb u e=>by
   by_cases h1:b=h'.objs.size
   ·subst h1
    rw[N6]at e;cases e
    exact⟨alb _ hof,⟨_,alb _ hof⟩,λh1 h2 e k=>k _ e⟩
   ·by_cases h2:b=c'
    ·subst h2
     rw[GZ]at e;cases e
     obtain⟨d,oc,vs,t,e0,e1,e2⟩:=id hrec
     cases e0
     refine⟨M0 hrec λo e=>akX _ e,⟨oc,akX _ e1⟩,λh1 h2 x k=>M0 x k⟩
    ·by_cases h3:b=P
     ·subst h3
      rw[gy]at e;cases e
      exact akX _ htb
     ·rw[qd b h3 h2 h1]at e
      refine(I.hok b u e).stay (λd w hd z=>kp d w ?_ z) (λd z=>?_) λd xs z=>?_
      ·rcases hd with hd|hd
       ·rw[hd];exact h3
       ·intro z2;rw[z2,hP]at hd;cases hd
      ·exact old d _ z rfl
      ·exact old d _ z rfl
  have I':Inv X pins σ H' {s with heap:=h'.push o,toks:=tk}:=by
   refine I.step (g':=s.gens) (d':=s.drawn) (ch:=[]) (λ_ z=>nomatch z) (λb ob _ _ _ e n=>kp b ob (λz=>by rw[z,hP]at n;cases n) e) (λb ob _ _ _ e n=>⟨ob.slots,kp b ob (λz=>by rw[z,hP]at n;cases n) e⟩) (λb ob _ e n=>?_) (λb ob _ e=>?_) (λb xs e=>old b _ e rfl) (λb o' u e=>old b _ e rfl) (λb ps2 e=>?_) (λm hm=>?_) adC I.bare
   ·have hb:=ak0 e
    rw[qd b (λz=>by rw[z,hP]at n;cases n) (ak1 (ak7 hb hge)) (ak1 (ak7 hb hsz))]
    exact n
   ·by_cases hb:b=P
    ·subst hb;exact⟨_,akX _ htb⟩
    ·exact⟨ob,kp b ob hb e⟩
   ·by_cases hb:b=P
    ·subst hb
     rw[hP]at e;cases e
     exact⟨#[rawInt pos.line,rawInt pos.col,.ref c'],by rw[gy,hps]⟩
    ·refine⟨#[],?_⟩
     rw[qd b hb (c9 e hnc) (c9 e hna),e]
     simp
   ·have hLP:X.env.locals≠P:=λz=>by have:=I.free;rw[z,hP]at this;cases this
    obtain⟨ol,es,ep,e,r⟩:=hm
    exact⟨ol,es,ep,kp _ _ hLP e,r⟩
  refine h h'.objs.size H' _ I' hsz ⟨⟨o,c',N6,⟨_,ctv,ho.symm⟩,GZ⟩,old,λb hb e=>?_,λb ps2 nb e=>?_,⟨ps',gy,?_,λp v e=>?_⟩⟩
  ·rw[qd b (λz=>by rw[z,hP]at e;cases e) (ak1 (ak7 hb hge)) (ak1 (ak7 hb hsz))];exact e
  ·rw[qd b nb (c9 e hnc) (c9 e hna)];exact e
  ·rw[<-hps,apv]
   exact Ic _ ht
  ·rw[<-hps,apv]at e
   rcases Oa ps.toList ht e with e|e
   ·obtain⟨d,e1,e2⟩:=hcs p v e
    exact⟨d,e1,old d _ e2 rfl⟩
   ·exact⟨c',e,GZ⟩
end
def fK(H:Hp) (F:Addr->Option Obj):Hp:=λb=>match F b with
 |some o=>some (.cH o (.own 0))
 |none=>H b
def cN(H:Hp) (F:Addr->Option Obj):Hp:=λb=>match F b with
 |some _=>none
 |none=>H b
section
variable {H H':Hp}{F:Addr->Option Obj}{b:Addr}{o:Obj}{u:HO}
theorem nJ(h:F b=some o):fK H F b=some (.cH o (.own 0)):=by unfold fK;rw[h]
theorem i9(h:F b=none):fK H F b=H b:=by unfold fK;rw[h]
theorem qp(h:F b=some o):cN H F b=none:=by unfold cN;rw[h]
theorem iQ(h:F b=none):cN H F b=H b:=by unfold cN;rw[h]
theorem Ho(hF:∀b o,F b=some o->H b=none) (h:H b=some u):F b=none:=by
 cases e:F b with
 |none=>rfl
 |some o=>rw[hF b o e]at h;cases h
theorem jv(hF:∀b o,F b=some o->H b=none) (h:H b=some u):fK H F b=some u:=by rw[i9 (Ho hF h)];exact h
end
section
variable {X:Cx}{pins:List (Addr×Obj)}{σ:St}{H H':Hp}{s s':Shared}{F:Addr->Option Obj}
structure Hl (X:Cx) (H:Hp) (s:Shared) (F:Addr->Option Obj):Prop where
 heap:∀b o,F b=some o->s.heap.get? b=some o
 free:∀b o,F b=some o->H b=none
 high:∀b o,F b=some o->X.s₀.heap.objs.size<=b
 loc:∀b o,F b=some o->b≠X.env.locals
theorem Mc{P:Program}{w:World}{h:Heap}(hok:c7 P w H h) (hF:∀b o,F b=some o->H b=none) (hh:∀b o,F b=some o->h.get? b=some o):c7 P w (fK H F) h:=λb u e=>by
 cases hb:F b with
 |some o =>
  rw[nJ hb]at e;cases e
  exact⟨hh b o hb,o,hh b o hb⟩
 |none =>
  rw[i9 hb]at e
  exact(hok b u e).stay (λ_ _ _ z=>z) (λc z=>jv hF z) λc xs z=>jv hF z
theorem Me(I:Inv X pins σ H s) (Z:Hl X H s F):qk X.prog X.w X.K X.mg X.base X.A X.stack s (fK H F):=by
 have e:=I.Fb
 have sz:X.base.objs.size<=X.s₀.heap.objs.size:=I.ok.g8
 refine⟨e.frames,e.mod,λb o h=>?_,e.g8,e.gK,λb hb=>?_,Mc I.hok Z.free Z.heap,e.bare⟩
 ·obtain⟨h1,h2⟩:=e.bs b o h
  refine⟨h1,?_⟩
  cases hb:F b with
  |none=>rw[i9 hb];exact h2
  |some ob=>exact absurd (ak7 (ak0 h) (alk sz (Z.high b ob hb))) (alJ _)
 ·cases hF:F b with
  |none=>rw[i9 hF];exact e.j3 b hb
  |some ob =>
   exfalso
   rcases akY.mp (I.oE b hb)with z|z
   ·exact Z.loc b ob hF z
   ·obtain⟨_,o2,ho,_⟩:=I.ok.gK.mem z
    exact absurd (ak7 (ak0 ho) (Z.high b ob hF)) (alJ _)
theorem QC{fs:List Addr}{h h':Heap}{P:Program}{w:World}(hF:∀b o,F b=some o->H b=none) (hh:∀b o,F b=some o->h.get? b=some o) (hfs:∀b o,F b=some o->b∉fs) (un:Un fs [] (fK H F) H' h h') (hok:c7 P w H' h'):Un fs [] H (cN H' F) h h'/\c7 P w (cN H' F) h':=by
 have fz:∀b o,F b=some o->H' b=some (.cH o (.own 0)):=λb o e=>un.iG b o _ (nJ e)
 have nn:∀{b:Addr}{u:HO},H b=some u->F b=none:=λe=>Ho hF e
 refine⟨⟨λb o e n hb hx=>?_,λb o e n hb hx=>?_,λb o e n hx=>?_,un.there,λb xs e=>?_,λb o u e=>?_,λb ps e=>?_⟩,λb u e=>?_⟩
 ·cases hb':F b with
  |none=>exact un.keep b o e (by rw[i9 hb'];exact n) hb hx
  |some ob =>
   have e1:=hh b ob hb'
   rw[e]at e1;cases e1
   exact(hok b _ (fz b o hb')).1
 ·cases hb':F b with
  |none=>exact un.slot b o e (by rw[i9 hb'];exact n) hb hx
  |some ob=>exact absurd hb (hfs b ob hb')
 ·cases hb':F b with
  |none=>rw[iQ hb'];exact un.free b o e (by rw[i9 hb'];exact n) hx
  |some ob=>exact qp hb'
 ·rw[iQ (nn e)];exact un.tups b xs (jv hF e)
 ·rw[iQ (nn e)];exact un.iG b o u (jv hF e)
 ·obtain⟨more,z⟩:=un.iR b ps (jv hF e)
  exact⟨more,by rw[iQ (nn e)];exact z⟩
 ·cases hb:F b with
  |some ob=>rw[qp hb]at e;cases e
  |none =>
   rw[iQ hb]at e
   have st:∀{c:Addr}{v:HO},H' c=some v->(∀o,v≠.cH o (.own 0))->cN H' F c=some v:=fun{c v} z n=>by
    cases hc:F c with
    |none=>rw[iQ hc];exact z
    |some oc=>rw[fz c oc hc]at z;exact absurd (alh z).symm (n oc)
   exact(hok b u e).stay (λ_ _ _ z=>z) (λc z=>st z λ_ q=>nomatch q) λc xs z=>st z λ_ q=>nomatch q
theorem Ud{k:Nat}{f:Addr}{fd:FuncData}{ps:List Str}{sp:Sp}{us:List Value}{vs:List V}{Q:VK}(G:bI X.prog X.w X.K X.mg X.base bB k f fd ps sp) (hr:cR k X.A) (hb:Binds X.K fd ps []) (I:Inv X pins σ H s) (Z:Hl X H s F) (r:Vals vs us)
  (h:sp vs (fK H F) (λv H'=>Q v (cN H' F)) E0):wpAny (model X.prog X.w) X.A (call (.ref f) us) (EP X pins σ Q) X.xe s:=by
 have hl:us.length=ps.length:=by rw[<-r.length];exact G.len _ _ _ _ h
 have hb':=hb s us I.fB (by rw[al3];exact hl)
 rw[al3]at hb'
 refine amE (al0 (G.run X.A X.stack s (fK H F) ⟨us,[]⟩ us vs _ E0 hr (Me I Z) hb' r h) λr s' hq=>?_)
 cases r with
 |error e=>exact False.elim hq
 |ok fl =>
  cases fl with
  |ret u =>
   obtain⟨v,H',os,bare,un,hok,rv,q⟩:=hq
   obtain⟨AU,adD⟩:=QC Z.free Z.heap (λb o e hb=>by
    have:=(Me I Z).j3 b hb
    rw[nJ e]at this;cases this) un hok
   exact⟨v,cN H' F,I.F4 os AU adD bare λb z=>absurd z (by simp),rv,q⟩
  |next=>exact False.elim hq
  |brk=>exact False.elim hq
  |cont=>exact False.elim hq
end
section
variable {K:PySem.W.Frag}{ρ ρ':List Addr}{H H':Hp}{c c':aa}{F:Addr->Option Obj}
theorem HK(W:Wd K ρ H c) (k:∀b u,H b=some u->vj u=false->H' b=some u) (t:qh K H'):Ext ρ H ρ H'/\Wd K ρ H' c:=by
 have X:Ext ρ H ρ H':=⟨λ_ _ e=>e,λa o e n z=>⟨k a o e z,n⟩⟩
 refine⟨X,W.nd,W.len,λj a cl e1 e2=>?_,t⟩
 have q:=W.fM j a cl e1 e2
 cases cl with
 |lst l =>
  obtain⟨nr,xs,e,r⟩:=q
  exact⟨nr,xs,k _ _ e rfl,aJ.mono W X l xs r⟩
theorem HL(W:Wd K ρ H c) (hF:∀b o,F b=some o->H b=none):Ext ρ H ρ (fK H F)/\Wd K ρ (fK H F) c :=
 HK W (λb u e _=>jv hF e) (W.tab.mono (λ_ _ e=>jv hF e) λ_ _ e=>jv hF e)
theorem iP{b:Addr}{u:HO}(hF:∀b o,F b=some o->H b=some (.cH o (.own 0))) (e:H b=some u) (n:∀o,u≠.cH o (.own 0)):cN H F b=some u:=by
 cases hc:F b with
 |none=>rw[iQ hc];exact e
 |some oc=>rw[hF b oc hc]at e;exact absurd (alh e).symm (n oc)
mutual
theorem Rel.cN(hF:∀b o,F b=some o->H b=some (.cH o (.own 0))):∀(d:D) (v:V),fy d=true->Rel K ρ H d v->Rel K ρ (cN H F) d v
 |.aO,v,_,h=>h
 |.bl b,v,_,h=>h
 |.int i,v,_,h=>h
 |.str y,v,_,h=>h
 |.ty n,v,_,h=>h
 |.tup l,v,n,h=>by
  obtain⟨a,xs,e,s,r⟩:=h
  exact⟨a,xs,e,iP hF s (λ_ z=>nomatch z),aJ.cN hF l xs (by unfold fy at n;exact n) r⟩
 |.lst l,v,n,h=>by
  obtain⟨a,xs,e,s,r⟩:=h
  exact⟨a,xs,e,⟨iP hF s.1 (λ_ z=>nomatch z),s.2⟩,aJ.cN hF l xs (by unfold fy at n;exact n) r⟩
 |.ref k,v,_,h=>h
 |.cF l,v,_,h=>by
  obtain⟨a,e,s⟩:=h
  refine⟨a,e,?_⟩
  rcases s with⟨s,z⟩|s
  ·rcases s with s|⟨o,s⟩
   ·exact .inl ⟨.inl (iP hF s (λ_ z=>nomatch z)),z⟩
   ·exact .inl ⟨.inr ⟨o,iP hF s (λ_ z=>nomatch z)⟩,z⟩
  ·exact .inr s
 |.fn a n,v,_,h=>h
 |.gZ,v,_,h=>by
  obtain⟨a,e,q⟩:=h
  exact⟨a,e,iP hF q (λ_ z=>nomatch z)⟩
 |.dct ks,v,_,h=>by
  obtain⟨a,kvs,e,q,z⟩:=h
  exact⟨a,kvs,e,iP hF q (λ_ z=>nomatch z),z⟩
 |.exc y,v,_,h=>by
  obtain⟨a,C,e,n,q⟩:=h
  exact⟨a,C,e,n,iP hF q (λ_ z=>nomatch z)⟩
 |.lam _ _ _ _,v,n,h=>by unfold fy at n;cases n
theorem aJ.cN(hF:∀b o,F b=some o->H b=some (.cH o (.own 0))):∀(l:List D) (xs:List V),eS l=true->aJ K ρ H l xs->aJ K ρ (cN H F) l xs
 |[],xs,_,h=>h
 |d::l,xs,n,h=>by
  obtain⟨y,r,e,h1,h2⟩:=h
  unfold eS at n
  rw[ald]at n
  exact⟨y,r,e,Rel.cN hF d y n.1 h1,aJ.cN hF l r n.2 h2⟩
end
theorem HJ(W:Wd K ρ H c) (hF:∀b o,F b=some o->H b=some (.cH o (.own 0))):Wd K ρ (cN H F) c:=by
 refine⟨W.nd,W.len,λj a cl e1 e2=>?_,W.tab.mono (λ_ _ e=>iP hF e (λ_ z=>nomatch z)) λ_ _ e=>iP hF e (λ_ z=>nomatch z)⟩
 have q:=W.fM j a cl e1 e2
 cases cl with
 |lst l =>
  obtain⟨nr,xs,e,r⟩:=q
  exact⟨nr,xs,iP hF e (λ_ z=>nomatch z),aJ.cN hF l xs (yf l nr) r⟩
theorem ae0(x:Ext ρ (fK H F) ρ' H') (hF:∀b o,F b=some o->H b=none):Ext ρ H ρ' (cN H' F) :=
 ⟨x.pre,λa o e n t=>by
  obtain⟨h1,h2⟩:=x.keep a o (jv hF e) n t
  exact⟨by rw[iQ (Ho hF e)];exact h1,h2⟩⟩
theorem ae1(x:Ext ρ (cN H F) ρ' H') (W':Wd K ρ' H' c') (hF:∀b o,F b=some o->H b=some (.cH o (.own 0))) (hn:∀b o,F b=some o->H' b=none):Ext ρ H ρ' (fK H' F) :=
 ⟨x.pre,λa o e n t=>by
  cases hc:F a with
  |some oc =>
   have:=hF a oc hc
   rw[e]at this;cases this
   exact⟨nJ hc,W'.nil (hn a oc hc)⟩
  |none =>
   obtain⟨h1,h2⟩:=x.keep a o (by rw[iQ hc];exact e) n t
   exact⟨by rw[i9 hc];exact h1,h2⟩⟩
end
end L2
namespace L2
open PySem PySem.Spec PyProof.Rows
structure fZ (X:Cx) (ns:List Str) (js:List Nat) (scope:Scope):Prop where
 names:∀x∈scope.names,x.2=.free->X.env.kindOf x.1=some .cell\/X.env.kindOf x.1=some .free
 got:∀(i j:Nat) (x:Str),js[i]? = some j->ns[i]? = some x->(x,NameKind.free)∈scope.names/\X.N[j]? = some x/\(X.env.kindOf x=some .cell\/X.env.kindOf x=some .free)
 all:∀x,(x,NameKind.free)∈scope.names->x∈ns
def K1(XN:List Str) (xn:List (Str×NameKind)) (ns:List Str) (js:List Nat) (names:List (Str×NameKind)):Bool :=
 names.all (λx=>decide (x.2≠NameKind.free)||((decide (xn.lookup x.1=some NameKind.cell)||decide (xn.lookup x.1=some NameKind.free))&&decide (x.1∈ns))) &&
 (js.zip ns).all (λq=>decide ((q.2,NameKind.free)∈names)&&decide (XN[q.1]? = some q.2)&&(decide (xn.lookup q.2=some NameKind.cell)||decide (xn.lookup q.2=some NameKind.free)))
theorem fZ.of{X:Cx}{ns:List Str}{js:List Nat}{scope:Scope}(h:K1 X.N X.env.scope.names ns js scope.names=true):fZ X ns js scope:=by
 unfold K1 at h
 simp only[ald,ak2,decide_eq_true_eq,amx]at h
 obtain⟨h1,h2⟩:=h
 refine⟨λx hx e=>?_,λi j x hj hx=>?_,λx hx=>?_⟩
 ·rcases h1 x hx with z|z
  ·exact absurd e z
  ·exact z.1
 ·have hm:(j,x)∈js.zip ns:=by
   have:(js.zip ns)[i]? = some (j,x):=by rw[aoa];exact⟨hj,hx⟩
   exact alo this
  obtain⟨⟨a,b⟩,d⟩:=h2 _ hm
  exact⟨a,b,d⟩
 ·rcases h1 _ hx with z|z
  ·exact absurd rfl z
  ·exact z.2
section
variable {X:Cx}{pins:List (Addr×Obj)}{σ:St}{H:Hp}{s:Shared}{ns:List Str}{js:List Nat}{scope:Scope}
abbrev lA(X:Cx) (scope:Scope):List (Str×Addr):=fN X.env scope.names []
theorem fZ.clos(S:fZ X ns js scope) (I:Inv X pins σ H s):closureFor scope X.env=pure (lA X scope):=by
 have e:=Ag (env:=X.env) scope.names [] λx hx hk=>I.ok.has x.1 (S.names x hx hk)
 show((forIn scope.names ([]:List (Str×Addr)) fun(x:Str×NameKind) cs=>(if(x.2==NameKind.free)=true then do let a <-cellOf X.env x.1;pure (ForInStep.yield ((x.1,a)::cs))else pure (ForInStep.yield cs):Sem (ForInStep (List (Str×Addr))))) >>= λcs=>pure cs)=_
 rw[e,pure_bind]
theorem fZ.cap(S:fZ X ns js scope) (I:Inv X pins σ H s) {x:Str}{c:Addr}(h:(lA X scope).lookup x=some c):(x,NameKind.free)∈scope.names/\X.env.cells.lookup x=some c:=by
 rcases G2 _ _ h with⟨a,b⟩|q
 ·refine⟨a,?_⟩
  obtain⟨c',hc⟩:=I.ok.has x (S.names _ a rfl)
  rw[hc]at b ⊢
  rw[b];rfl
 ·cases q
theorem fZ.has(S:fZ X ns js scope) (I:Inv X pins σ H s) {x:Str}(h:(x,NameKind.free)∈scope.names):∃c,(lA X scope).lookup x=some c:=ans.mp (G3 _ _ (.inr h))
theorem fZ.cl(S:fZ X ns js scope) (I:Inv X pins σ H s):wG (lA X scope) ns:=⟨λx y c h1 h2=>I.ok.inj x y c (S.cap I h1).2 (S.cap I h2).2,λx c h=>S.all x (S.cap I h).1⟩
open Classical in
def nI(cl:List (Str×Addr)) (h:Heap):Addr->Option Obj:=λb=>if ∃x,cl.lookup x=some b then h.get? b else none
theorem Eh{cl:List (Str×Addr)}{h:Heap}{b:Addr}{o:Obj}(e:nI cl h b=some o):(∃x,cl.lookup x=some b)/\h.get? b=some o:=by
 unfold nI at e
 split at e
 ·rename_i z;exact⟨z,e⟩
 ·cases e
theorem Mb{cl:List (Str×Addr)}{h:Heap}{b:Addr}{o:Obj}{x:Str}(e:cl.lookup x=some b) (g:h.get? b=some o):nI cl h b=some o:=by
 unfold nI
 rw[if_pos ⟨x,e⟩,g]
theorem fZ.fz(S:fZ X ns js scope) (I:Inv X pins σ H s) (hfn:∀x,X.fn x=true):Hl X H s (nI (lA X scope) s.heap):=by
 refine⟨λb o e=>(Eh e).2,λb o e=>?_,λb o e=>?_,λb o e=>?_⟩
 all_goals
  obtain⟨⟨x,hx⟩,_⟩:=Eh e
  have hc:=(S.cap I hx).2
 ·exact I.iH x b hc
 ·exact I.ok.nS x b (hfn x) hc
 ·exact I.nQ x b hc
theorem fZ.cells(S:fZ X ns js scope) (I:Inv X pins σ H s) (i j:Nat) (x:Str) (v:V) (hj:js[i]? = some j) (hx:ns[i]? = some x) (hv:σ[j]? = some (some v)):∃c oc u,(lA X scope).lookup x=some c/\nI (lA X scope) s.heap c=some oc/\oc.data=.cell (some u)/\RelV v u:=by
 obtain⟨h1,h2,h3⟩:=S.got i j x hj hx
 obtain⟨c,hc⟩:=S.has I h1
 have hce:=(S.cap I hc).2
 obtain⟨m,hm,hl⟩:=I.loc
 obtain⟨u,ru,lk⟩:=hl j x v h2 hv (h3.elim (λz=>.inr (.inl z)) λz=>.inr (.inr z))
 rcases lk with⟨k,_⟩|⟨_,c',hc',oc,ho,hd⟩
 ·rcases h3 with z|z<;>(rw[z]at k;cases k)
 ·rw[hce]at hc';cases hc'
  exact⟨c,oc,u,hc,Mb hc ho,hd,ru⟩
structure ai4 (H H':Hp) (P:Addr) (q:Str) (e:Expr) (cl:List (Str×Addr)) (a:Addr):Prop where
 at':∃o c,H' a=some (.ext (pC a o))/\wA e o q c cl/\H' c=some (.ext (pO c q))
 keep:∀b u,H b=some u->vj u=false->H' b=some u
 tabs:∀b ps,b≠P->H b=some (.cE ps)->H' b=some (.cE ps)
 tab:TabAt H' P q
def Rk(P:Addr) (q:Str) (e:Expr) (cl:List (Str×Addr)):TE:=λ_ H Q=>TabAt H P q/\∀a H',ai4 H H' P q e cl a->Q (.ref a) H'
theorem WO{c P:Addr}{q:Str}{params:Arguments}{body:Expr}{pos:Pos}(S:fZ X ns js scope) (hcode:X.env.code=.ref c) (hq:X.env.qual++"<lambda>"=q) (hC:PySem.W.codeHdIn X.K c P=true) (hdef:defaultsOf params X.env=([],[])) :
  PE X (.Lambda params body scope pos) (Rk P q (.Lambda params body scope pos) (lA X scope)):=λpins s σ H Q I h =>
 abN I hcode hq hC h.1 (S.clos I) hdef λa H' s' I' hge N=>⟨.ref a,H',I',rfl,h.2 a H' ⟨N.at',N.keep,N.tabs,N.tab⟩⟩
def Rw(cl:List (Str×Addr)) (ns:List Str) (js:List Nat) (sp:Sp) (t:TA):TE:=λσ H Q=>t σ H λvs H1=>wG cl ns->∀F:Addr->Option Obj,(∀b o,F b=some o->H1 b=none) ->
 (∀(i j:Nat) (x:Str) (v:V),js[i]? = some j->ns[i]? = some x->σ[j]? = some (some v)->∃c oc u,cl.lookup x=some c/\F c=some oc/\oc.data=.cell (some u)/\RelV v u)->sp vs (fK H1 F) (λv H'=>Q v (cN H' F)) E0
theorem WY{x:Str}{st:Stmt}{ps:List Str}{f:Addr}{fd:FuncData}{k:Nat}{sp:Sp}{e:Expr}{es:List Expr}{t:TA}{p pos:Pos}(D:Def X.K X.mg x st ps f fd) (G:bI X.prog X.w X.K X.mg X.base bB k f fd ps sp) (hr:cR k X.A) (S:fZ X ns js scope) (hfn:∀x,X.fn x=true) (ha:PA X (e::es) t) (hg:Gl X x:=by rfl)
  (hdb:(x==("__debug__":Str))=false:=by decide) (he:starEach (e::es) X.env=(false,eval e X.env)::starEach es X.env:=by rfl) (hpl:(backTo pos (starEach es X.env)).any (·.1)=false:=by rfl) :
  PE X (.Call (.Name x p) (e::es) [] pos) (Rw (lA X scope) ns js sp t):=by
 intro pins s σ H Q I h
 refine am5 (Cf I hg D.at' ?_ hdb)
 refine aoV (h₀:=X.base) I.ok.mod.kU D.fn.kp (bh (ha pos pins s σ H _ I h) λus s1 ⟨vs,H1,I1,r,q⟩=>⟨I1.fB,?_⟩) he hpl
 exact Ud G hr D.bd I1 (S.fz I1 hfn) r (q (S.cl I1) _ (λb o e=>(S.fz I1 hfn).free b o e) λi j x v h1 h2 h3=>S.cells I1 i j x v h1 h2 h3)
end
def getAll(e:Ev):List Nat->Option (List D)
 |[]=>some []
 |j::js=>match e[j]?,getAll e js with
  |some (some d),some l=>some (d::l)
  |_,_=>none
def z6(k:Nat) (m:List D->aa->R D) (d1:af) (E:Expr) (ns:List Str) (js:List Nat):af:=λe c=>(d1 e c).bind λx c=>match getAll e js with
 |some l=>(m [x,.lam k E ns l] c).bind λv c=>if noRef v=true then .ok v c else .bad
 |none=>.bad
section
variable {X:Cx}{K:PySem.W.Frag}{ρ:List Addr}{H Hf:Hp}{σ:St}
theorem NW{e:Ev}{cl:List (Str×Addr)}{F:Addr->Option Obj}(Vv:dz K ρ H e σ) (hV:∀d v,Rel K ρ H d v->Rel K ρ Hf d v) (hf:∀c o,F c=some o->Hf c=some (.cH o (.own 0))):∀(js:List Nat) (ns:List Str) (l:List D),js.length=ns.length->getAll e js=some l ->
  (∀(i j:Nat) (x:Str) (v:V),js[i]? = some j->ns[i]? = some x->σ[j]? = some (some v)->∃c oc u,cl.lookup x=some c/\F c=some oc/\oc.data=.cell (some u)/\RelV v u)->∃xs,ic Hf cl ns xs/\aJ K ρ Hf l xs
 |[],[],l,_,h,_=>by
  unfold getAll at h;cases h
  exact⟨[],rfl,rfl⟩
 |j::js,x::ns,l,hl,h,hc=>by
  unfold getAll at h
  split at h
  ·rename_i d r hd hr
   cases h
   obtain⟨v,hv,rv⟩:=Vv.get j d hd
   obtain⟨c,oc,u,h1,h2,h3,h4⟩:=hc 0 j x v rfl rfl hv
   obtain⟨xs,h5,h6⟩:=NW Vv hV hf js ns r (Nat.succ.inj hl) hr λi j x v a b d=>hc (i+1) j x v a b d
   exact⟨v::xs,⟨v,xs,c,oc,u,rfl,h1,hf c oc h2,h3,h4,h5⟩,v,xs,rfl,hV d v rv,h6⟩
  ·cases h
 |[],_::_,_,hl,_,_=>by cases hl
 |_::_,[],_,hl,_,_=>by cases hl
def Cj(K:PySem.W.Frag):List (Str×Addr):=pD.filterMap λx=>(PySem.W.tabIn K x).map λq=>(x,q.2)
def uh(K:PySem.W.Frag):Bool:=(Cj K).all λa=>(Cj K).all λb=>!(a.2==b.2)||(a.1==b.1)
theorem QY(h:uh K=true) {x y:Str}{c d P:Addr}(hx:x∈pD) (hy:y∈pD) (tx:PySem.W.tabIn K x=some (c,P)) (ty:PySem.W.tabIn K y=some (d,P)):x=y:=by
 unfold uh at h
 have m:∀{z:Str}{c:Addr},z∈pD->PySem.W.tabIn K z=some (c,P)->(z,P)∈Cj K:=fun{z c} hz tz=>amv.mpr ⟨z,hz,by rw[tz];rfl⟩
 have:=ak2.mp (ak2.mp h _ (m hx tx)) _ (m hy ty)
 simpa using this
theorem Wd.aag{c:aa}{a:Addr}{o:Obj}{u:HO}(W:Wd K ρ H c) (h:H a=some (.cH o u)):a∉ρ:=λm=>by
 obtain⟨ys,e⟩:=W.at' m
 rw[e]at h;cases h
theorem Xi{kk:Nat}{x y:Str}{st:Stmt}{ps:List Str}{f c P:Addr}{fd:FuncData}{k:Nat}{m:List D->aa->R D}{e1 body:Expr}{d1:af}{params:Arguments}{scope:Scope}{ns:List Str}{js:List Nat}{p pos pB:Pos}
  (D:Def X.K X.mg x st ps f fd) (G:bI X.prog X.w X.K X.mg X.base bB k f fd ps (bM X.K 2 m)) (hr:cR k X.A) (he1:bf X e1 d1) (S:fZ X ns js scope) (hjn:js.length=ns.length) (hfn:∀x,X.fn x=true) (hy:y∈pD) (ht:PySem.W.tabIn X.K y=some (c,P)) (hap:uh X.K=true) (hcode:X.env.code=.ref c) (hq:X.env.qual++"<lambda>"=yw y) (hC:PySem.W.codeHdIn X.K c P=true)
  (hdef:defaultsOf params X.env=([],[]):=by rfl) (hg:Gl X x:=by rfl)
  (hdb:(x==("__debug__":Str))=false:=by decide) (hs1:starEach [e1,.Lambda params body scope pB] X.env=(false,eval e1 X.env)::starEach [.Lambda params body scope pB] X.env:=by exact cJ rfl) (hs2:starEach [.Lambda params body scope pB] X.env=(false,eval (.Lambda params body scope pB) X.env)::starEach [] X.env:=by exact cJ rfl) (hpl:(backTo pos (starEach [.Lambda params body scope pB] X.env)).any (·.1)=false:=by exact fE rfl) :
  bf X (.Call (.Name x p) [e1,.Lambda params body scope pB] [] pos) (z6 kk m d1 (.Lambda params body scope pB) ns js) :=
 PE.imp (WY D G hr S hfn (jl he1 (jl (WO (c:=c) (P:=P) (q:=yw y) S hcode hq hC hdef) jP hs2) hs1) hg hdb hs1 hpl) λσ H Q h=>by
  obtain⟨ρ,e,c0,W,V,pp⟩:=h
  refine⟨ρ,e,c0,W,V,post.bind pp λx1 c1 aK H1 v _ W1 X1 r1 p1=>?_⟩
  have V1:=V.mono W X1
  refine⟨W1.tab y hy c P ht,λa H' N=>?_⟩
  have Q0:qh X.K H':=λz hz d P' tz=>by
   by_cases hP:P'=P
   ·subst hP
    rw[QY hap hz hy tz ht]
    exact N.tab
   ·exact(W1.tab z hz d P' tz).mono (λps e=>N.tabs P' ps hP e) λc φ e=>N.keep c _ e rfl
  obtain⟨X2,W2⟩:=HK W1 N.keep Q0
  intro hcl F hF D5
  obtain⟨X3,W3⟩:=HL W2 hF
  have Oi:=X2.trans X3
  split at p1
  ·rename_i l hl
   obtain⟨xs,hxs,hrs⟩:=NW (Hf:=fK H' F) V1 (λd v r=>Rel.mono W1 Oi d v r) (λc o e=>nJ e) js ns l hjn hl D5
   obtain⟨o,cc,ha,hobj,hcc⟩:=N.at'
   refine⟨aK,[x1,.lam kk _ ns l],c1,W3,⟨v,[.ref a],rfl,Rel.mono W1 Oi x1 v r1,.ref a,[],rfl,⟨a,o,yw y,cc,_,xs,rfl,jv hF ha,hobj,jv hF hcc,hcl,hxs,hrs⟩,rfl⟩,rfl,?_⟩
   cases hm:m [x1,.lam kk _ ns l] c1 with
   |bad=>rw[hm]at p1;exact p1.elim
   |ok d c2 =>
    rw[hm,R.aA]at p1
    split at p1
    ·rename_i hn
     intro ρ' H4 b W4 X4 r4
     have fz:∀b o,F b=some o->H4 b=some (.cH o (.own 0)):=λb o e=>(X4.keep b _ (nJ e) (W3.aag (nJ e)) rfl).1
     exact p1 ρ' (cN H4 F) b (HJ W4 fz) (X2.trans (ae0 X4 hF)) (Rel.cN fz d b (Kl d hn) r4)
    ·exact p1.elim
  ·exact p1.elim
end
def Pf(s:Shared) (H:Hp) (outer:List Env) (cl:List (Str×Addr)) (ns:List Str) (cs:List V):Prop :=
 cs.length=ns.length/\∀(i:Nat) (x:Str),ns[i]? = some x->∃v c u,cs[i]? = some v/\cl.lookup x=some c/\s.heap.IsCell c (some u)/\RelV v u/\H c=none/\c∉frs outer
def tY(P:Program) (w:World) (K:PySem.W.Frag) (mg:Str->Option Value) (base:Heap) (k:Nat) (E:Expr) (ns:List Str) (n:Nat) (sp:Sp):Prop :=
 ∀(A:Around) (outer:List Env) (s:Shared) (H:Hp) (a:Addr) (o:Obj) (q:Str) (cc:Addr) (cl:List (Str×Addr)) (us:List Value) (vs cs:List V) (Q:VK),cR k A->qk P w K mg base A outer s H->s.heap.get? a=some o->wA E o q cc cl->s.heap.CodeRec (.ref cc) q->wG cl ns ->
  Pf s H outer cl ns cs->Vals vs us->vs.length=n->sp (vs++cs) H Q E0->codeAny (model P w) A (.call (.ref a) ⟨us,[]⟩) (CR bB outer P w H s Q E0) s
def vg(P:Program) (w:World) (K:PySem.W.Frag) (mg:Str->Option Value) (base:Heap) (N:List Str) (qual:Str) (scope:Scope) (f:Addr) (cd:Value) (cl:List (Str×Addr)) (A:Around) (outer:List Env) (s:Shared) (H:Hp):Cx where
 prog:=P
 w:=w
 K:=K
 mg:=mg
 base:=base
 A:=A.deeper (PySem.W.envX qual scope s.heap.objs.size f cd cl)
 N:=N
 s₀:=s
 H₀:=H
 env:=PySem.W.envX qual scope s.heap.objs.size f cd cl
 outer:=outer
 stack:=PySem.W.envX qual scope s.heap.objs.size f cd cl::outer
 ex:=[]
 calm:=true
 fn:=λ_=>false
 pn:=[]
 xe:=λ_ _=>False
structure wB (ps ns:List Str) (scope:Scope):Prop where
 kind:scope.kind=.function
 co:scope.isCoroutine=false
 gen:scope.isGenerator=false
 nd:(ps++ns).Nodup
 par:∀x∈ps,scope.names.lookup x=some .local
 cap:∀x∈ns,scope.names.lookup x=some .free
 Ke:∀y∈scope.names,y.2≠.cell
 free:∀y∈scope.names,y.2=.free->y.1∈ns
theorem wB.of{ps ns:List Str}{scope:Scope}(h1:scope.kind=.function) (h2:scope.isCoroutine=false) (h3:scope.isGenerator=false)
  (h:(decide (ps++ns).Nodup&&ps.all (λx=>decide (scope.names.lookup x=some NameKind.local))&&ns.all (λx=>decide (scope.names.lookup x=some NameKind.free))&&scope.names.all (λy=>decide (y.2≠NameKind.cell)&&(decide (y.2≠NameKind.free)||decide (y.1∈ns))))=true):wB ps ns scope:=by
 simp only[ald,ak2,decide_eq_true_eq,amx]at h
 obtain⟨⟨⟨a,b⟩,c⟩,d⟩:=h
 exact⟨h1,h2,h3,a,b,c,λy hy=>(d y hy).1,λy hy e=>(d y hy).2.elim (λz=>absurd e z) id⟩
theorem Po{x:Str}:∀{ps:List Str}{us:List Value},x∉ps->(ps.zip us).reverse.lookup x=none:=fun{ps us} h=>by
 cases e:(ps.zip us).reverse.lookup x with
 |none=>rfl
 |some v=>exact absurd (am6 (List.mem_reverse.mp (al1 e))).1 h
theorem KL{x:Str}{v:Value}:∀{l m:List (Str×Value)},l.lookup x=none->(l++m).lookup x=m.lookup x
 |[],_,_=>rfl
 |(y,u)::l,m,h=>by
  rw[alC]at h
  rw[anZ,alC]
  cases hb:x==y with
  |true=>rw[hb]at h;cases h
  |false=>rw[hb]at h;exact KL (v:=v) h
theorem KJ{x:Str}{v:Value}:∀{l m:List (Str×Value)},l.lookup x=some v->(l++m).lookup x=some v
 |(y,u)::l,m,h=>by
  rw[alC]at h
  rw[anZ,alC]
  cases hb:x==y with
  |true=>rw[hb]at h;exact h
  |false=>rw[hb]at h;exact KJ h
theorem Hu{x:Str}{v:Value}:∀{ps:List Str}{us:List Value}{i:Nat},ps.Nodup->ps[i]? = some x->us[i]? = some v->(ps.zip us).reverse.lookup x=some v
 |p::ps,u::us,0,nd,h1,h2=>by
  cases h1;cases h2
  rw[amV,apw,KL (v:=v) (Po (al8.mp nd).1)]
  simp
 |p::ps,u::us,i+1,nd,h1,h2=>by
  rw[amV,apw]
  exact KJ (Hu (i:=i) (al8.mp nd).2 (by simpa using h1) (by simpa using h2))
 |[],_,_,_,h1,_=>by simp at h1
 |_::_,[],_,_,_,h2=>by simp at h2
theorem abM{P:Program}{w:World}{K:PySem.W.Frag}{mg:Str->Option Value}{base:Heap}{k:Nat}{params:Arguments}{body:Expr}{scope:Scope}{pos:Pos}{ps ns:List Str}{sp:Sp}(S:wB ps ns scope)
  (hbind:∀(q:Str) (cl:List (Str×Addr)) (pm cdv ct:Value) (us:List Value),us.length=ps.length->bindArgs (PySem.W.kla_fn "<lambda>" q params body scope cl pm cdv ct) ⟨us,[]⟩=pure (ps.zip us))
  (hb:∀(q:Str) (f:Addr) (cd:Value) (cl:List (Str×Addr)) (A:Around) (outer:List Env) (s:Shared) (H:Hp) (vs:List V) (Q:VK),cR k (A.deeper (PySem.W.envX q scope s.heap.objs.size f cd cl))->sp vs H Q E0->∃t,PE (vg P w K mg base (ps++ns) q scope f cd cl A outer s H) body t/\t (vs.map some) H Q) :
  tY P w K mg base (k+1) (.Lambda params body scope pos) ns ps.length sp:=by
 intro A outer s H a o q cc cl us vs cs Q hr e0 ho hobj hcd hcl hcap rv hlen jY
 obtain⟨pm,ctv,rfl⟩:=hobj
 have KX:K.In s.heap:=e0.mod.kU.keeps λb o e=>(e0.bs b o e).1
 have lim:s.heap.NoLimit:=e0.mod.nolimit.keeps λb o e=>(e0.bs b o e).1
 have hul:us.length=ps.length:=by rw[<-rv.length];exact hlen
 refine PySem.W.kla_callFunE hr.depth ho rfl S.co S.gen rfl hcd ?_
 rw[hbind q cl pm (.ref cc) ctv us hul]
 have ndp:ps.Nodup:=(amO.mp S.nd).1
 refine akU (wpAny_newFunctionEnv S.Ke (λy hy=>S.par y.1 (am6 hy).1) (λh₁ hns gv=>⟨lim.fresh _ gv,?_⟩) S.kind)
 show codeAny _ _ (.expr body (PySem.W.envX q scope s.heap.objs.size a (.ref cc) cl)) _ _
 have hk₁:∀b ob,s.heap.get? b=some ob->h₁.get? b=some ob:=λb ob e=>gv.extBut b ob (ak1 (ak0 e)) (akX _ e)
 obtain⟨t,ht,hq⟩:=hb q a (.ref cc) cl A outer s H (vs++cs) Q (hr.deeper _) jY
 have kM:∀b:Addr,b∉(vg P w K mg base (ps++ns) q scope a (.ref cc) cl A outer s H).ex:=λb z=>absurd (show b∈([]:List Addr)from z) (by simp)
 have L4:∀x c,cl.lookup x=some c->∃v u,s.heap.IsCell c (some u)/\RelV v u/\H c=none:=λx c e=>by
  obtain⟨i,hi,ei⟩:=amn.mp (hcl.2 x c e)
  obtain⟨v,c',u,_,h2,h3,h4,h5,_⟩:=hcap.2 i x (by rw[ak3 hi,ei])
  rw[e]at h2;cases h2
  exact⟨v,u,h3,h4,h5⟩
 have K7:∀{c:Addr}{u:Option Value},s.heap.IsCell c u->h₁.IsCell c u:=fun{c u} ⟨o,e,d⟩=>⟨o,hk₁ c o e,d⟩
 have I:Inv (vg P w K mg base (ps++ns) q scope a (.ref cc) cl A outer s H) [] ((vs++cs).map some) H {s with heap:=h₁,toks:=s.toks+(ps.zip us).length}:=by
  refine⟨⟨e0.mod,S.kind,rfl,rfl,akV _,hcl.1,λx hx=>?_,λx c h=>absurd h (by simp[vg]),λ_=>hr.hd,Around.frames_deeper e0.frames,.inr ⟨rfl,rfl⟩,λb z=>absurd z (kM b),e0.bs,e0.g8,λb _ _=>kM b,λb z=>absurd z (kM b),e0.gK,e0.j3⟩,
   rfl,e0.bare,Un.kept hk₁,⟨_,hns,λi x v h1 h2 h3=>?_⟩,λx c h=>?_,e0.hok.fresh (akV _),λx c h=>?_,λp hp=>absurd (show p∈([]:List (Addr×Obj))from hp) (by simp),e0.hok.kept hk₁,?_⟩
  ·have hx:scope.names.lookup x=some .cell\/scope.names.lookup x=some .free:=hx
   rcases hx with hx|hx
   ·exact absurd rfl (S.Ke _ (al1 hx))
   ·have hm:=S.free _ (al1 hx) rfl
    obtain⟨i,hi,ei⟩:=amn.mp hm
    obtain⟨v,c',u,_,h2,_⟩:=hcap.2 i x (by rw[ak3 hi,ei])
    exact⟨c',h2⟩
  ·have h1:(ps++ns)[i]? = some x:=h1
   have h2':(vs++cs)[i]? = some v:=by
    rw[ale]at h2
    cases e:(vs++cs)[i]? with
    |none=>rw[e]at h2;cases h2
    |some b=>rw[e]at h2;cases h2;rfl
   by_cases hi:i<ps.length
   ·rw[alA hi]at h1
    rw[alA (by omega)]at h2'
    obtain⟨u,hu,ru⟩:=rv.get h2'
    refine⟨u,ru,.inl ⟨S.par x (alo h1),?_⟩⟩
    exact Hu ndp h1 hu
   ·rw[alL (by omega)]at h1
    rw[alL (by omega),hlen]at h2'
    obtain⟨v',c,u,e1,e2,e3,e4,_⟩:=hcap.2 _ x h1
    rw[h2']at e1;cases e1
    exact⟨u,e4,.inr ⟨.inr (S.cap x (alo h1)),c,e2,K7 e3⟩⟩
  ·obtain⟨v,u,h3,_⟩:=L4 x c h
   exact⟨_,K7 h3⟩
  ·obtain⟨v,u,_,_,h5⟩:=L4 x c h
   exact h5
  ·show((vs++cs).map some).length=(ps++ns).length
   rw[ak4,als,als,hlen,hcap.1]
 refine PySem.W.kla_codeExpr (alE (ht [] _ _ H Q I hq) (λu s' hs=>?_) λe s' hs=>False.elim hs)
 obtain⟨v,H',J,ru,q⟩:=hs
 exact⟨v,H',J.os,J.bare,J.base,J.hok,ru,q⟩
section
variable {M:Model}{A:Around}{E:Value->Shared->Prop}{s:Shared}{env:Env}{pos:Pos}{Q:Value->Shared->Prop}
theorem ahB{a:Addr}{o:Obj}{fd:FuncData}{e:Expr}{rest:List Expr}(hd:o.data=.func fd) (h:wpAny M A (spliced (backTo pos (starEach (e::rest) env))) (λvs s₁=>s₁.heap.get? a=some o/\wpAny M A (call (.ref a) ([]++vs)) Q E s₁) E s)
  (he:starEach (e::rest) env=(false,eval e env)::starEach rest env) (hplain:(backTo pos (starEach rest env)).any (·.1)=false) :
  wpAny M A (callWith pos (.ref a) [] (backTo pos (starEach (e::rest) env)) []) Q E s:=by
 rw[he]at h ⊢
 refine PySem.W.callWith_of (P:=λh=>h.get? a=some o) (by show((false||(backTo pos (starEach rest env)).any (·.1))||false)=false;rw[hplain];rfl) (λh e=>⟨.frame,.inl rfl,?_⟩) (PySem.Calls.evalArgs_plain h)
 obtain⟨oc,od,dt,sl⟩:=o
 cases hd
 exact(PySem.W.Looks.ld (part:=none) e).andThen PySem.W.Looks.now
end
section
variable {X:Cx}{pins:List (Addr×Obj)}{σ:St}{H H':Hp}{s s':Shared}{F:Addr->Option Obj}
theorem QD{P:Program}{w:World}{h:Heap}(hok:c7 P w H h) (hF:∀b o,F b=some o->H b=some (.cH o (.own 0))):c7 P w (cN H F) h:=λb u e=>by
 cases hb:F b with
 |some o=>rw[qp hb]at e;cases e
 |none =>
  rw[iQ hb]at e
  exact(hok b u e).stay (λ_ _ _ z=>z) (λc z=>iP hF z λ_ q=>nomatch q) λc xs z=>iP hF z λ_ q=>nomatch q
theorem ud{b:Addr}(h:H b=none):cN H F b=none:=by
 unfold cN
 split<;>first|rfl|exact h
theorem Ub{k n:Nat}{Ex:Expr}{ns:List Str}{sp:Sp}{a cc:Addr}{o:Obj}{q:Str}{cl:List (Str×Addr)}{us:List Value}{vs cs:List V}{Q:VK}(G:tY X.prog X.w X.K X.mg X.base k Ex ns n sp) (hr:cR k X.A) (I:Inv X pins σ H s)
  (ha:H a=some (.ext (pC a o))) (hobj:wA Ex o q cc cl) (hcc:H cc=some (.ext (pO cc q))) (hcl:wG cl ns) (hcs:ic H cl ns cs) (r:Vals vs us) (hn:vs.length=n)
  (h:∀F:Addr->Option Obj,(∀b o,F b=some o->H b=some (.cH o (.own 0)))->sp (vs++cs) (cN H F) (λv H'=>(∀b o,F b=some o->H' b=none)->Q v (fK H' F)) E0) :
  wpAny (model X.prog X.w) X.A (call (.ref a) us) (EP X pins σ Q) X.xe s:=by
 have hF:∀b ob,nI cl s.heap b=some ob->H b=some (.cH ob (.own 0)):=λb ob e=>by
  obtain⟨⟨x,hx⟩,hg⟩:=Eh e
  obtain⟨i,hi,ei⟩:=amn.mp (hcl.2 x b hx)
  obtain⟨v,c,oc,u,_,h2,h3,_⟩:=hcs.get (i:=i) (x:=x) (by rw[ak3 hi,ei])
  rw[hx]at h2;cases h2
  have:=(I.hok b _ h3).1
  rw[hg]at this;cases this
  exact h3
 generalize hFd:nI cl s.heap=F at hF
 have e:=I.Fb
 have e0:qk X.prog X.w X.K X.mg X.base X.A X.stack s (cN H F):=⟨e.frames,e.mod,λb o h=>⟨(e.bs b o h).1,ud (e.bs b o h).2⟩,e.g8,e.gK,λb hb=>ud (e.j3 b hb),QD I.hok hF,e.bare⟩
 have nf:∀b ob,F b=some ob->b∉frs X.stack:=λb ob z hb=>by
  have:=I.AZ b hb
  rw[hF b ob z]at this;cases this
 have cap:Pf s (cN H F) X.stack cl ns cs:=by
  refine⟨hcs.length,λi x hx=>?_⟩
  obtain⟨v,c,oc,u,h1,h2,h3,h4,h5⟩:=hcs.get hx
  have hg:=(I.hok c _ h3).1
  have hf:F c=some oc:=by rw[<-hFd];exact Mb h2 hg
  exact⟨v,c,u,h1,h2,⟨oc,hg,h4⟩,h5,qp hf,nf c oc hf⟩
 refine amE (al0 (G X.A X.stack s (cN H F) a o q cc cl us vs cs _ hr e0 (I.hok a _ ha).1 hobj (I.hok cc _ hcc).1 hcl cap r hn (h F hF)) λrr s' hq=>?_)
 cases rr with
 |error e=>exact False.elim hq
 |ok fl =>
  cases fl with
  |next=>exact False.elim hq
  |brk=>exact False.elim hq
  |cont=>exact False.elim hq
  |ret u =>
   obtain⟨v,H',os,bare,un,hok,rv,q⟩:=hq
   have gF:∀b ob,F b=some ob->s.heap.get? b=some ob:=λb ob z=>(I.hok b _ (hF b ob z)).1
   have hn':∀b ob,F b=some ob->H' b=none:=λb ob z=>un.free b ob (gF b ob z) (qp z) (by simp)
   have hg':∀b ob,F b=some ob->s'.heap.get? b=some ob:=λb ob z=>un.keep b ob (gF b ob z) (qp z) (nf b ob z) (by simp)
   have Fn:∀{b:Addr},H b=none->F b=none:=fun{b} z=>by
    cases e:F b with
    |none=>rfl
    |some ob=>rw[hF b ob e]at z;cases z
   have old:∀{b:Addr}{u:HO},H b=some u->(∀o,u≠.cH o (.own 0))->F b=none/\cN H F b=some u:=fun{b u} z nq=>by
    cases e:F b with
    |none=>exact⟨rfl,by rw[iQ e];exact z⟩
    |some ob=>rw[hF b ob e]at z;exact absurd (alh z).symm (nq ob)
   have AU:Un (frs X.stack) [] H (fK H' F) s.heap s'.heap:=by
    refine⟨λb o e n hb hx=>un.keep b o e (ud n) hb hx,λb o e n hb hx=>un.slot b o e (ud n) hb hx,λb o e n hx=>?_,un.there,λb xs e=>?_,λb o u e=>?_,λb ps e=>?_⟩
    ·rw[i9 (Fn n)];exact un.free b o e (ud n) hx
    ·obtain⟨h1,h2⟩:=old e λ_ z=>nomatch z
     rw[i9 h1];exact un.tups b xs h2
    ·cases z:F b with
     |some ob =>
      have:=hF b ob z
      rw[e]at this;cases this
      exact nJ z
     |none=>rw[i9 z];exact un.iG b o u (by rw[iQ z];exact e)
    ·obtain⟨h1,h2⟩:=old e λ_ z=>nomatch z
     rw[i9 h1];exact un.iR b ps h2
   exact⟨v,fK H' F,I.F4 os AU (Mc hok hn' hg') bare λb z=>absurd z (by simp),rv,q hn'⟩
end
open Classical in
def pN(i n:Nat) (cE:List (Expr×List Str×(List D->aa->R D))) (a:aj):af:=λe c=>match e[i]? with
 |some (some (.lam k E ns l))=>match cE[k]? with
  |some t=>if E=t.1/\ns=t.2.1 then(a e c).bind λxs c=>if xs.length=n/\eS xs=true/\eS l=true then t.2.2 (xs++l) c else .bad else .bad
  |none=>.bad
 |_=>.bad
theorem Xj{X:Cx}(i:Nat) {n:Nat}{cE:List (Expr×List Str×(List D->aa->R D))}{x:Str}{e:Expr}{es:List Expr}{da:aj}{p pos:Pos}(hT:∀t∈cE,∃k,tY X.prog X.w X.K X.mg X.base k t.1 t.2.1 n (bM X.K (n+t.2.1.length) t.2.2)/\cR k X.A) (ha:fh X (e::es) da)
  (hN:X.N[i]? = some x:=by rfl) (hv:Ah X.env.scope x:=by first|exact Or.inl rfl|exact Or.inr (Or.inl rfl)|exact Or.inr (Or.inr rfl)) (hd:(x==("__debug__":Str))=false:=by decide)
  (hcd:(x==("__classdict__":Str))=false:=by decide) (he:starEach (e::es) X.env=(false,eval e X.env)::starEach es X.env:=by exact cJ rfl) (hpl:(backTo pos (starEach es X.env)).any (·.1)=false:=by exact fE rfl) :
  bf X (.Call (.Name x p) (e::es) [] pos) (pN i n cE da):=by
 intro pins s σ H Q I h
 obtain⟨ρ,ev,c,W,Vv,q⟩:=h
 unfold pN at q
 split at q
 ·rename_i kk Ex ns l hf
  obtain⟨v,hσ,rl⟩:=Vv.get i _ hf
  obtain⟨a,o,qn,cc,cl,cs,rfl,ha1,hobj,hcc,hcl,hcs,hrs⟩:=id rl
  split at q
  ·rename_i t ht
   split at q
   ·rename_i hzy
    obtain⟨rfl,rfl⟩:=hzy
    obtain⟨k,G,hr⟩:=hT _ (alo ht)
    refine am5 (bh (JA hN hv hd hcd pins s σ H (λv H1=>v=.ref a/\H1=H) I ⟨_,hσ,rfl,rfl⟩) λu s1 ⟨v,H1,I1,r1,q1⟩=>?_)
    obtain⟨rfl,rfl⟩:=q1
    cases r1
    have hdata:∃fd,o.data=.func fd:=by
     cases hE:t.1 with
     |Lambda params body scope lp =>
      rw[hE]at hobj
      obtain⟨pm,ctv,rfl⟩:=hobj
      exact⟨_,rfl⟩
     |_=>rw[hE]at hobj;exact hobj.elim
    obtain⟨fd,hdata⟩:=hdata
    refine ahB hdata (bh (ha pos pins s1 σ H1 (λvs H2=>∃aK xs c1,Wd X.K aK H2 c1/\Ext ρ H1 aK H2/\aJ X.K aK H2 xs vs/\xs.length=n/\eS xs=true/\eS l=true/\post X.K (Rel X.K) (t.2.2 (xs++l) c1) aK H2 Q) I1 ⟨ρ,ev,c,W,Vv,post.bind q λxs c1 aK H2 vs _ W1 X1 r1 p1=>?_⟩) λus s2 ⟨vs,H2,I2,r2,aK,xs,c1,W1,X1,rx,hl,n1,n2,p1⟩=>?_) he hpl
    ·split at p1
     ·rename_i hc
      exact⟨aK,xs,c1,W1,X1,r1,hc.1,hc.2.1,hc.2.2,p1⟩
     ·exact p1.elim
    ·obtain⟨a',o',qn',cc',cl',cs',ea,ha2,adG,ad2,ad0,LO,Lz⟩:=Rel.mono W X1 _ _ rl
     cases ea
     have eo:o=o':=by
      have e1:=(X1.keep a _ ha1 (λm=>by obtain⟨ys,z⟩:=W.at' m;rw[z]at ha1;cases ha1) rfl).1
      have g1:=(I2.hok a _ e1).1
      have g2:=(I2.hok a _ ha2).1
      have g1':s2.heap.get? a=some o:=g1
      have Ma:s2.heap.get? a=some o':=g2
      rw[g1']at Ma;exact alh Ma
     subst eo
     refine⟨(I2.hok a _ ha2).1,?_⟩
     refine Ub (cs:=cs') G hr I2 ha2 adG ad2 ad0 LO r2 (by rw[rx.length];exact hl) λF hF=>?_
     refine⟨aK,xs++l,c1,HJ W1 hF,aJ.append (aJ.cN hF xs vs n1 rx) (aJ.cN hF l cs' n2 Lz),by rw[als,hl,<-Lz.length,LO.length],?_⟩
     cases hm:t.2.2 (xs++l) c1 with
     |bad=>rw[hm]at p1;exact p1.elim
     |ok d c2 =>
      rw[hm]at p1
      intro ρ' H4 b W4 X4 r4 LC
      obtain⟨X5,W5⟩:=HL W4 LC
      exact p1 ρ' (fK H4 F) b W5 (ae1 X4 W4 hF LC) (Rel.mono W4 X5 d b r4)
   ·exact q.elim
  ·exact q.elim
 ·exact q.elim
@[simp] theorem P8(i n:Nat) (cE:List (Expr×List Str×(List D->aa->R D))) (a:aj) (e:Ev) (c:aa) {k:Nat}{Ex:Expr}{ns:List Str}{l:List D}{m:List D->aa->R D}(h:e[i]? = some (some (.lam k Ex ns l))) (ht:cE[k]? = some (Ex,ns,m)):pN i n cE a e c=(a e c).bind λxs c=>if xs.length=n/\eS xs=true/\eS l=true then m (xs++l) c else .bad:=by
 unfold pN
 rw[h]
 dsimp only
 rw[ht]
 dsimp only
 rw[if_pos ⟨rfl,rfl⟩]
def vf(d:af):List D->aa->R D:=λxs c=>d (xs.map some) c
theorem Ut{K:PySem.W.Frag}{ρ:List Addr}{H:Hp}{xs:List D}{vs:List V}(r:aJ K ρ H xs vs):dz K ρ H (xs.map some) (vs.map some):=by
 refine⟨λi d h=>?_,by rw[ak4,ak4,r.length]⟩
 rw[ale]at h
 cases e:xs[i]? with
 |none=>rw[e]at h;cases h
 |some y =>
  rw[e]at h;cases h
  obtain⟨v,hv,rv⟩:=r.get e
  exact⟨v,by rw[ale,hv];rfl,rv⟩
theorem abP{P:Program}{w:World}{K:PySem.W.Frag}{mg:Str->Option Value}{base:Heap}{k:Nat}{params:Arguments}{body:Expr}{scope:Scope}{pos:Pos}{ps ns:List Str}{d:af}(S:wB ps ns scope)
  (hbind:∀(q:Str) (cl:List (Str×Addr)) (pm cdv ct:Value) (us:List Value),us.length=ps.length->bindArgs (PySem.W.kla_fn "<lambda>" q params body scope cl pm cdv ct) ⟨us,[]⟩=pure (ps.zip us))
  (hb:∀(q:Str) (f:Addr) (cd:Value) (cl:List (Str×Addr)) (A:Around) (outer:List Env) (s:Shared) (H:Hp),cR k (A.deeper (PySem.W.envX q scope s.heap.objs.size f cd cl))->bf (vg P w K mg base (ps++ns) q scope f cd cl A outer s H) body d) :
  tY P w K mg base (k+1) (.Lambda params body scope pos) ns ps.length (bM K (ps.length+ns.length) (vf d)) :=
 abM S hbind λq f cd cl A outer s H vs Q hr h=>⟨_,hb q f cd cl A outer s H hr,by
  obtain⟨ρ,xs,c,W,r,hl,p⟩:=h
  exact⟨ρ,xs.map some,c,W,Ut r,p⟩⟩
section
variable {P:Program}{w:World}{K:PySem.W.Frag}{mg:Str->Option Value}{base:Heap}
theorem aeP{x:Str}{st:Stmt}{f:Addr}{fd:FuncData}{N ps:List Str}{k n m:Nat}{own:Bool}{d:ah}(F:mJ K x x st f fd) (hn:PySem.W.nsIn K mainGlobals x=some (some (.ref f))) (S:b9 N ps (aQ st)) (hN:N.length=n) (hm:ps.length=m)
  (hb:∀(cdv:Value) (A:Around) (outer:List Env) (s:Shared) (H:Hp) (E:XK),(∀c P,PySem.W.tabIn K x=some (c,P)->cdv=.ref c)->cR k (A.deeper (envOfC x (aQ st) s.heap.objs.size f cdv))->bV (j5 bB P w K mg base N x (aQ st) f cdv A outer s H E).kK (bX st) d) :
  bI P w K mg base bB (k+1) f fd ps (bM K m (bG n own d)):=by
 obtain⟨oc,od,kV,doc,pm,an,Ab,ct,osl,hfd,lk,hcd⟩:=F.ex
 have key:∀(cdv:Value),(∀(A:Around) (outer:List Env) (s:Shared) (H:Hp) (E:XK),cR k (A.deeper (envOfC x (aQ st) s.heap.objs.size f cdv))->bV (j5 bB P w K mg base N x (aQ st) f cdv A outer s H E).kK (bX st) d)->cdv=Ab->bI P w K mg base bB (k+1) f fd ps (bM K m (bG n own d)):=by
  intro cdv hb' e
  subst e
  subst hN;subst hm
  subst hfd
  refine Mn lk hcd S (λvs H Q E h=>?_) λA outer s H vs Q E hr h=>⟨_,fY.kK (hb' A outer s H E hr),?_⟩
  ·obtain⟨ρ,xs,c,W,r,hl,p⟩:=h
   exact r.length.trans hl
  ·obtain⟨ρ,xs,c,W,r,hl,p⟩:=h
   refine⟨ρ,cO N.length xs,c,W,dz.start r,post.bind p λfl c1 aK H1 b _ W1 X1 r1 p1=>?_⟩
   cases fl with
   |nx e1 =>
    obtain⟨σ1,rfl,V1⟩:=r1
    exact zQ (v:=.aO) (x:=.aO) (H1:=H1) W W1 X1 rfl (by
     unfold bG at p;exact id (α:=post K (Rel K) (dM own c.length .aO c1) ρ H Q) (by
      rename_i he;rw[he]at p;exact p))
   |rt d =>
    obtain⟨v,rfl,V1⟩:=r1
    exact zQ (v:=d) (x:=v) (H1:=H1) W W1 X1 V1 (by
     unfold bG at p;rename_i he;rw[he]at p;exact p)
   |bk e1=>exact p1.elim
   |ct e1=>exact p1.elim
 refine key Ab (λA outer s H E hr=>hb Ab A outer s H E (λc P' ht=>?_) hr) rfl
 unfold PySem.W.tabIn at ht
 rw[hn]at ht
 dsimp only at ht
 rw[lk,hfd]at ht
 dsimp only at ht
 cases Ab with
 |ref c' =>
  dsimp only at ht
  split at ht
  ·split at ht
   ·cases ht;rfl
   ·cases ht
  ·cases ht
 |_=>cases ht
end
def ai2(H:Hp) (ts:List Addr):Prop:=∀b,H b=none\/(∃o xs,H b=some (.cH o (.lst xs)))\/(b∈ts/\H b=some (.cE #[]))
theorem abJ{P:Program}{w:World}{K:PySem.W.Frag}{mg mb:Str->Option Value}{k:Nat}{fa a:Addr}{fd:FuncData}{x:Str}{sp:Sp}{s₁:Shared}{vs:List Value}{ns:List Int}{ts:List (Addr×Addr)}
  (KX:K.In s₁.heap) (hns:s₁.heap.Ns mainGlobals mg) (hb:s₁.heap.Ns builtinsNs mb) (hbb:∀x:Str,x≠"__name__"->mb x=bootBuiltins x) (hlim:s₁.heap.NoLimit)
  (hbm:∃bm ob,mg "__builtins__"=some (.ref bm)/\bm≠builtinsNs/\s₁.heap.get? bm=some ob/\ob.cls=.type "module"/\ob.dict=some builtinsNs/\ob.data=.plain) (hg:s₁.gens=#[])
  (ha:s₁.heap.get? a=some {cls:=.type "list",data:=.seq vs.toArray}) (hi:IntsAre vs ns) (hl:ns.length<=sizeLine) (hr:cR k callerA)
  (D7:∀q∈ts,PySem.W.codeHdIn K q.1 q.2=true/\s₁.heap.get? q.2=some (PySem.W.tabObj #[])) (hKt:PySem.W.noTabs K=true)
  (F:∀base:Heap,K.In base->base.Ns mainGlobals mg->bI P w K mg base bB k fa fd [x] sp) (hbind:∀(s:Shared) (u:Value),BindsTo s fd ⟨[u],[]⟩ [(x,u)])
  (jY:∀H:Hp,(∀q∈ts,H q.2=some (.cE #[]))->bH K H a (ns.map V.int)->sp [.ref a] H (λv _=>v=.bl true) λ_ _ _=>False) :
  codeAny (model P w) callerA (.call (.ref fa) ⟨[.ref a],[]⟩) (λr s'=>r=.ok (.ret (.bool true))/\OldK s₁.heap s'.heap/\s'.os=s₁.os/\AllBare s'.gens) s₁:=by
 have rv:=HN hi
 have abA:=hi.length
 have nB:∀b,b∈ts.map (·.2)->s₁.heap.get? b=some (PySem.W.tabObj #[]):=λb h=>by
  obtain⟨q,hq,rfl⟩:=akW.mp h
  exact(D7 q hq).2
 have nat:a∉ts.map (·.2):=λh=>by have:=nB a h;rw[ha]at this;cases this
 have core:∀H:Hp,ai2 H (ts.map (·.2))->(∀q∈ts,H q.2=some (.cE #[]))->bH K H a (ns.map V.int)->c7 P w H s₁.heap->(∀b,H b≠none->b=a\/b∈ts.map (·.2))->(H a≠none->K.lookup a=none) ->
   codeAny (model P w) callerA (.call (.ref fa) ⟨[.ref a],[]⟩) (λr s'=>r=.ok (.ret (.bool true))/\OldK s₁.heap s'.heap/\s'.os=s₁.os/\AllBare s'.gens) s₁:=by
  intro H hO hT hS hok hA hK
  have GX:∀{b:Addr}{o:Obj},s₁.heap.get? b=some o->H b=none->(k6 s₁.heap H).get? b=some o:=λe n=>adS e n
  have noB:∀{b:Addr}{o:Obj},s₁.heap.get? b=some o->o.cls≠.type "list"->o.cls≠.none->H b=none:=fun{b o} e d1 d2=>by
   cases q:H b with
   |none=>rfl
   |some u =>
    rcases hA b (by rw[q];simp)with e'|e'
    ·subst e'
     rw[ha]at e;cases e
     exact absurd rfl d1
    ·rw[nB b e']at e;cases e
     exact absurd rfl d2
  have kM:∀{b:Addr}{o:Obj}{es:Array DictEntry}{ep:Nat},s₁.heap.get? b=some o->o.data=.dict es ep->H b=none:=fun{b o es ep} e d=>by
   cases q:H b with
   |none=>rfl
   |some u =>
    rcases hA b (by rw[q];simp)with e'|e'
    ·subst e'
     rw[ha]at e;cases e
     have d':Data.seq vs.toArray _=Data.dict es ep:=d
     cases d'
    ·rw[nB b e']at e;cases e
     have d':Data.fields #[]=Data.dict es ep:=d
     cases d'
  have yd:∀{b:Addr}{m:Str->Option Value},s₁.heap.Ns b m->(k6 s₁.heap H).Ns b m:=fun{b m} ⟨o,es,ep,e,d,r⟩=>⟨o,es,ep,GX e (kM e d),d,r⟩
  have LW:K.In (k6 s₁.heap H):=λb o e=>GX (KX b o e) (by
   cases q:H b with
   |none=>rfl
   |some u =>
    rcases hA b (by rw[q];simp)with e'|e'
    ·subst e'
     rw[hK (by rw[q];simp)]at e;cases e
    ·have h1:=KX b o e
     rw[nB b e']at h1;cases h1
     have h2:=ak2.mp hKt (b,_) (PySem.W.mem_of_lookupK e)
     exact absurd (show false=true from h2) ali)
  have hM:Mod K mg (k6 s₁.heap H):=⟨LW,yd hns,⟨mb,yd hb,hbb⟩,let⟨mc,h1,h2⟩:=hlim;⟨mc,yd h1,h2⟩,let⟨bm,ob,b1,b2,b3,b4,b5⟩:=hbm;⟨bm,ob,b1,b2,GX b3 (noB b3 (by rw[b4];simp) (by rw[b4];simp)),b4,b5⟩⟩
  have e0:qk P w K mg (k6 s₁.heap H) callerA [] s₁ H:=⟨rfl,hM,λb o e=>Yy e,aml (adR _ _),trivial,λb hb=>absurd (show b∈([]:List Addr)from hb) (by simp),hok,.of_eq hg⟩
  refine al0 ((F _ LW (yd hns)).run callerA [] s₁ H ⟨[.ref a],[]⟩ [.ref a] [.ref a] _ _ hr e0 (hbind s₁ (.ref a)) (.cons rfl .nil) (jY H hT hS)) λr s' h=>?_
  cases r with
  |error e=>exact False.elim h
  |ok fl =>
   cases fl with
   |next=>exact False.elim h
   |brk=>exact False.elim h
   |cont=>exact False.elim h
   |ret u =>
    obtain⟨v,H',os,bare,un,LB,r',q⟩:=h
    have q':v=.bl true:=q
    subst q'
    obtain rfl:u=Value.bool true:=r'
    have main:∀b o,s₁.heap.get? b=some o->s'.heap.get? b=some o\/(b∈ts.map (·.2)/\o=PySem.W.tabObj #[]/\∃ps,s'.heap.get? b=some (PySem.W.tabObj ps)):=λb o e=>by
     rcases hO b with z|⟨ob,xs,z⟩|⟨hm,z⟩
     ·exact .inl (un.keep b o e z (by intro z;exact absurd (show b∈([]:List Addr)from z) (by simp)) (by simp))
     ·have z2:=un.iG b ob _ z
      obtain⟨e1,_⟩:=hok b _ z
      obtain⟨e2,_⟩:=LB b _ z2
      rw[e]at e1;cases e1
      exact .inl e2
     ·obtain⟨more,z2⟩:=un.iR b _ z
      have e2:s'.heap.get? b=some (PySem.W.tabObj (#[]++more)):=LB b _ z2
      have e1:=nB b hm
      rw[e]at e1;cases e1
      exact .inr ⟨hm,rfl,_,e2⟩
    refine⟨rfl,⟨λb o e=>?_,λb o e=>?_⟩,os,bare⟩
    ·rcases main b o e with z|⟨hm,rfl,ps,z⟩
     ·exact .inl z
     ·obtain⟨q,hq,rfl⟩:=akW.mp hm
      have hC:=apu KX (D7 q hq).1
      exact .inr (.inl ⟨(hC.tab (D7 q hq).2).isCodeTable,rfl,#[],ps,rfl,by rw[Array.empty_append];exact z⟩)
    ·rcases main b o e with z|⟨_,_,ps,z⟩
     ·exact⟨o,z⟩
     ·exact⟨_,z⟩
 have ajD:∀(H:Hp) b,H b=some (.cE #[])->b∈ts.map (·.2)->fj P w H s₁.heap b (.cE #[]):=λH b _ h=>nB b h
 cases hk:K.lookup a with
 |some o =>
  have e:=KX a o hk
  rw[ha]at e
  cases e
  let H:Hp:=λb=>if b∈ts.map (·.2)then some (.cE #[])else none
  refine core H (λb=>?_) (λq hq=>if_pos (apx hq)) (.inr ⟨_,vs.toArray,_,hk,rfl,rfl,rfl,by rw[ak8,abA];exact hl,by simpa using rv⟩) (λb u z=>?_) (λb z=>?_) λz=>absurd (if_neg nat) z
  ·by_cases hb:b∈ts.map (·.2)
   ·exact .inr (.inr ⟨hb,if_pos hb⟩)
   ·exact .inl (if_neg hb)
  ·by_cases hb:b∈ts.map (·.2)
   ·have z':=(if_pos hb).symm.trans z
    cases z'
    exact nB b hb
   ·have z':=(if_neg hb).symm.trans z
    cases z'
  ·by_cases hb:b∈ts.map (·.2)
   ·exact .inr hb
   ·exact absurd (if_neg hb) z
 |none =>
  let H:Hp:=λb=>if b∈ts.map (·.2)then some (.cE #[])else if b=a then some (.cH {cls:=.type "list",data:=.seq vs.toArray} (.lst (ns.map V.int)))else none
  have Ha:H a=some (.cH {cls:=.type "list",data:=.seq vs.toArray} (.lst (ns.map V.int))):=(if_neg nat).trans (if_pos rfl)
  refine core H (λb=>?_) (λq hq=>if_pos (apx hq)) (.inl (.inr ⟨_,Ha⟩)) (λb u z=>?_) (λb z=>?_) λ_=>hk
  ·by_cases hb:b∈ts.map (·.2)
   ·exact .inr (.inr ⟨hb,if_pos hb⟩)
   ·by_cases hb2:b=a
    ·exact .inr (.inl ⟨_,_,(if_neg hb).trans (if_pos hb2)⟩)
    ·exact .inl ((if_neg hb).trans (if_neg hb2))
  ·by_cases hb:b∈ts.map (·.2)
   ·have z':=(if_pos hb).symm.trans z
    cases z'
    exact nB b hb
   ·by_cases hb2:b=a
    ·have z':=((if_neg hb).trans (if_pos hb2)).symm.trans z
     cases z'
     subst hb2
     exact⟨ha,by rw[ak4];exact hl,vs,_,rv,ha⟩
    ·have z':=((if_neg hb).trans (if_neg hb2)).symm.trans z
     cases z'
  ·by_cases hb:b∈ts.map (·.2)
   ·exact .inr hb
   ·by_cases hb2:b=a
    ·exact .inl hb2
    ·exact absurd ((if_neg hb).trans (if_neg hb2)) z
def AX(K:PySem.W.Frag) (ts:List (Addr×Addr)):Bool:=pD.all λx=>match PySem.W.tabIn K x with
 |some q=>decide (q∈ts)
 |none=>true
theorem QZ{K:PySem.W.Frag}{H:Hp}{ts:List (Addr×Addr)}(h:AX K ts=true) (hT:∀q∈ts,H q.2=some (.cE #[])):qh K H:=λx hx c P e=>by
 have:=ak2.mp h x hx
 rw[e]at this
 exact⟨#[],hT (c,P) (of_decide_eq_true this),trivial,λpos cv z=>by cases z⟩
theorem Qt{l:PySem.W.OpenLaw}{n k:Nat}{q:Program}{loose:List Str}{XP:(Str->Option Value)->Heap->Prop}{YP:World->Heap->Prop}{d:DefRec}{K:Params->PySem.W.Frag}{x:Str}{m:List D->aa->R D}{ts:List (Addr×Addr)}
  (hn:l.most=some n) (hn2:n<=sizeLine) (hdf:d.params.defaults=[]) (hr:cR k callerA)
  (hY:∀(w:World) (h:Heap),YP w h->(K w.params).In h/\∀q∈ts,h.get? q.2=some (PySem.W.tabObj #[]))
  (hK:∀p,(ts.all λq=>PySem.W.codeHdIn (K p) q.1 q.2)=true/\PySem.W.noTabs (K p)=true/\AX (K p) ts=true)
  (F:∀(w:World) (mg:Str->Option Value) (fa:Addr) (h:Heap),(K w.params).In h->h.Ns mainGlobals mg->mg d.name=some (.ref fa) ->
   ∃fd:FuncData,(∀(s:Shared) (u:Value),BindsTo s fd ⟨[u],[]⟩ [(x,u)]) /\
    ∀base:Heap,(K w.params).In base->base.Ns mainGlobals mg->bI l.prog w (K w.params) mg base bB k fa fd [x] (bM (K w.params) 1 m))
  (hm:∀ns:List Int,ns.length<=n->∃c,m [.cF ns] []=.ok (.bl true) c) :
  PySem.W.WalkO q loose XP YP l.row.toRowW d [] (λf vs=>PySem.call f vs):=by
 refine Pg.ahR hn hdf λw s₀ s₁ mg mb fa o pm cd doc a vs ns G Y ho hd hcd hmg hobj hints hlen hg=>?_
 obtain⟨KX,hT⟩:=hY w _ Y
 obtain⟨fd,hb,hF⟩:=F w mg fa _ KX G.T.g hmg
 obtain⟨k1,k2,k3⟩:=hK w.params
 refine abJ (ts:=ts) KX G.T.g G.T.b G.T.builtins G.T.nolimit G.T.bmain hg hobj hints (alk hlen hn2) hr (λq hq=>⟨ak2.mp k1 q hq,hT q hq⟩) k2 hF hb λH h1 h2=>?_
 obtain⟨c,hc⟩:=hm ns hlen
 refine⟨[],[.cF ns],[],⟨.nil,rfl,λk a cl e=>(by cases e),QZ k3 h1⟩,⟨.ref a,[],rfl,⟨a,rfl,?_⟩,rfl⟩,rfl,?_⟩
 ·rcases h2 with hS|hS
  ·exact .inl ⟨hS,by simp⟩
  ·exact .inr (.inr hS)
 ·rw[hc]
  exact λρ' H' b _ _ r=>r
abbrev Pb:=SetTable.Probe
def eY(m:Nat) (p:Pb):Pb:=if p.more>0 then{p with j:=p.j+1,more:=p.more-1}else{p with j:=(p.i*5+1+p.perturb/32) % (m+1),more:=SetTable.runEnd m ((p.i*5+1+p.perturb/32) % (m+1))-(p.i*5+1+p.perturb/32) % (m+1),i:=(p.i*5+1+p.perturb/32) % (m+1),perturb:=p.perturb/32}
theorem aiQ(t:SetTable) (p:Pb):t.advance p=eY t.mask p:=by
 unfold SetTable.advance eY
 split<;>rfl
def eT(m:Nat):Nat->Pb->Pb
 |0,p=>p
 |n+1,p=>eT m n (eY m p)
theorem yz(m:Nat):∀(a b:Nat) (p:Pb),eT m (a+b) p=eT m b (eT m a p)
 |0,b,p=>by rw[alr];rfl
 |a+1,b,p=>by
  rw[show a+1+b=(a+b)+1 by omega]
  exact yz m a b (eY m p)
theorem aiR(m:Nat) (p:Pb):(eY m p).dummy=p.dummy:=by unfold eY;split<;>rfl
theorem Ld(m:Nat):∀(n:Nat) (p:Pb),(eT m n p).dummy=p.dummy
 |0,_=>rfl
 |n+1,p=>(Ld m n (eY m p)).trans (aiR m p)
def m8(m i q:Nat):Pb:=⟨i,SetTable.runEnd m i-i,i,q,none⟩
def gD(m:Nat) (h:Int):Pb:=m8 m (SetTable.bits h % (m+1)) (SetTable.bits h)
def gy(m:Nat) (h:Int) (n:Nat):Nat:=(eT m n (gD m h)).j
def Reach(m:Nat) (P:Nat->Prop) (h:Int) (j:Nat):Prop:=∃n,n<10*(m+15)/\gy m h n=j/\∀k,k<n->P (gy m h k)
theorem Reach.mono{m:Nat}{P Q:Nat->Prop}{h:Int}{j:Nat}(r:Reach m P h j) (i:∀k,P k->Q k):Reach m Q h j :=
 let⟨n,h1,h2,h3⟩:=r;⟨n,h1,h2,λk hk=>i _ (h3 k hk)⟩
theorem A2{t:SetTable}(hu:Up t.place.toList) {j:Nat}(hj:j∈t.place.toList):∃i,t.slot j=.live i/\t.place[i]? = some j:=by
 refine⟨SetTable.below t.place j,?_,GV hu hj⟩
 unfold SetTable.slot
 dsimp only
 rw[GV hu hj]
 simp
theorem Sa{t:SetTable}(hd:t.dummies=#[]) {j:Nat}(hj:j∉t.place.toList):t.slot j=.empty:=by
 rcases A1 hd j with e|⟨i,e⟩
 ·exact e
 ·unfold SetTable.slot at e
  dsimp only at e
  split at e
  ·rename_i q
   have:=eq_of_beq q
   rw[<-alw]at this
   exact absurd (alo this) hj
  ·split at e<;>cases e
theorem Ed{t:SetTable}{hashAt:Nat->Int}{h:Int}:∀(n fuel:Nat) (p:Pb),n<=fuel->(∀k,k<n->∃i,t.slot (eT t.mask k p).j=.live i/\(hashAt i==h)=false) ->
  SetTable.probe.go t hashAt h fuel p=SetTable.probe.go t hashAt h (fuel-n) (eT t.mask n p)
 |0,fuel,p,_,_=>rfl
 |n+1,0,p,hf,_=>absurd hf (by omega)
 |n+1,fuel+1,p,hf,hk=>by
  obtain⟨i,e,hne⟩:=hk 0 (by omega)
  have e:t.slot p.j=.live i:=e
  have ih:=Ed (t:=t) (hashAt:=hashAt) (h:=h) n fuel (eY t.mask p) (by omega) λk hk'=>hk (k+1) (by omega)
  rw[show fuel+1-(n+1)=fuel-n by omega]
  show SetTable.probe.go t hashAt h (fuel+1) p=SetTable.probe.go t hashAt h (fuel-n) (eT t.mask n (eY t.mask p))
  rw[<-ih]
  conv=>lhs;unfold SetTable.probe.go
  rw[e]
  dsimp only
  rw[hne,aiQ]
  simp only[alB,if_false]
theorem FU{mask:Nat}:∀(n:Nat) (p:Pb) (acc:Nat),fX mask n p.j p.more p.i p.perturb acc=true->∀s,s<=mask->acc.testBit s=false->∃k,k<n/\(eT mask k p).j=s
 |0,_,_,h,_,_,_=>by cases h
 |n+1,p,acc,hc,s,hs,ha=>by
  by_cases e:p.j=s
  ·exact⟨0,by omega,e⟩
  ·have ha':(acc |||(1 <<< p.j)).testBit s=false:=by
    rw[Ae,ha]
    simp
    exact λq=>e q.symm
   unfold fX at hc
   split at hc
   ·rename_i ef
    rw[ef,amQ]at ha'
    have:=of_decide_eq_false ha'
    omega
   ·split at hc
    ·rename_i hm
     have pK:eY mask p={p with j:=p.j+1,more:=p.more-1}:=by unfold eY;rw[if_pos hm]
     obtain⟨k,hk,ek⟩:=FU n (eY mask p) (acc |||(1 <<< p.j)) (by rw[pK];exact hc) s hs ha'
     exact⟨k+1,by omega,ek⟩
    ·rename_i hm
     have pK:eY mask p={p with j:=(p.i*5+1+p.perturb/32) % (mask+1),more:=SetTable.runEnd mask ((p.i*5+1+p.perturb/32) % (mask+1))-(p.i*5+1+p.perturb/32) % (mask+1),i:=(p.i*5+1+p.perturb/32) % (mask+1),perturb:=p.perturb/32}:=by
      unfold eY;rw[if_neg hm]
     obtain⟨k,hk,ek⟩:=FU n (eY mask p) (acc |||(1 <<< p.j)) (by rw[pK];exact hc) s hs ha'
     exact⟨k+1,by omega,ek⟩
theorem least{P:Nat->Prop}:∀(n:Nat),P n->∃k,k<=n/\P k/\∀i,i<k->¬P i:=λn=>by
 induction n using Nat.strongRecOn with
 |_ n ih =>
  intro h
  by_cases q:∃i,i<n/\P i
  ·obtain⟨i,hi,hp⟩:=q
   obtain⟨k,h1,h2,h3⟩:=ih i hi hp
   exact⟨k,by omega,h2,h3⟩
  ·exact⟨n,akV _,h,λi hi hp=>q ⟨i,hi,hp⟩⟩
structure oi (h:Int):Prop where
 go:∀m,oM m->fX m (10*(m+15)) (SetTable.bits h % (m+1)) (SetTable.runEnd m (SetTable.bits h % (m+1))-SetTable.bits h % (m+1)) (SetTable.bits h % (m+1)) (SetTable.bits h) 0=true
 lay:∀m,iX m->nP m (m+15) (SetTable.bits h % (m+1)) (SetTable.bits h) 0=true
def gH(es:Array (Int×Value)) (i:Nat):Int:=(Option.map (λx:Int×Value=>x.fst) es[i]?).getD 0
structure ki (t:SetTable) (es:Array (Int×Value)):Prop where
 size:t.place.size=es.size
 up:Up t.place.toList
 le:∀j∈t.place.toList,j<=t.mask
 dm:t.dummies=#[]
 mask:(t.mask=7/\es.size<=4)\/(t.mask=31/\es.size<=18)\/(t.mask=127/\es.size<=76)
 reach:∀q∈t.place.toList.zip es.toList,Reach t.mask (·∈t.place.toList) q.2.1 q.1
theorem ki.ok{t:SetTable}{es:Array (Int×Value)}(I:ki t es):oM t.mask:=by
 have:=I.mask
 unfold oM;omega
theorem ki.fits{t:SetTable}{es:Array (Int×Value)}(h:ki t es):t.fits es.size=true:=by
 have:=h.mask
 simp only[SetTable.fits,SetTable.fill,h.size,h.dm,ald,beq_self_eq_true,true_and,decide_eq_true_eq]
 simp only[ak8,aly]
 omega
theorem Pq{l:List Nat}{r:List (Int×Value)}{i j:Nat}{e:Int×Value}(h1:l[i]? = some j) (h2:r[i]? = some e):(j,e)∈l.zip r:=by
 have:(l.zip r)[i]? = some (j,e):=by rw[aoa];exact⟨h1,h2⟩
 exact alo this
theorem QA{l:List Nat}(h:Up l) {i k j:Nat}(h1:l[i]? = some j) (h2:l[k]? = some j):i=k:=by
 obtain⟨a1,b1⟩:=ala.mp h1
 obtain⟨a2,b2⟩:=ala.mp h2
 rcases anJ i k with q|q|q
 ·have:=ane.mp h i k a1 a2 q;omega
 ·exact q
 ·have:=ane.mp h k i a2 a1 q;omega
theorem aeX{t:SetTable}{es:Array (Int×Value)}(I:ki t es) {e:Int×Value}(he:e∈es.toList):∃j i next e',t.probe (gH es) e.1 (t.probeStart e.1)=some (.candidate j i next)/\es[i]? = some e'/\e'.1=e.1:=by
 obtain⟨i0,hi0,ee⟩:=amz he
 have e1:es.toList[i0]? = some e:=by rw[ak3 hi0,ee]
 have hsz:t.place.toList.length=es.toList.length:=by simp[I.size]
 obtain⟨j0,hj0⟩:∃j0,t.place.toList[i0]? = some j0:=⟨_,ak3 (by omega)⟩
 obtain⟨n0,hn0,ha0,hl0⟩:=I.reach (j0,e) (Pq hj0 e1)
 have hm0:j0∈t.place.toList:=alo hj0
 have hA:∀i e',es[i]? = some e'->gH es i=e'.1:=λi e' q=>by unfold gH;rw[q];rfl
 have RO:∃i,t.slot (gy t.mask e.1 n0)=.live i/\gH es i=e.1:=by
  rw[ha0]
  obtain⟨i,s1,s2⟩:=A2 I.up hm0
  rw[<-alw]at s2
  have:=QA I.up s2 hj0
  subst this
  exact⟨i,s1,hA i e (by rw[<-alw];exact e1)⟩
 obtain⟨n,hn,⟨i,s1,s2⟩,hmin⟩:=least (P:=λn=>∃i,t.slot (gy t.mask e.1 n)=.live i/\gH es i=e.1) n0 RO
 have hlive:∀k,k<n->∃i,t.slot (eT t.mask k (gD t.mask e.1)).j=.live i/\(gH es i==e.1)=false:=λk hk=>by
  obtain⟨i',q1,_⟩:=A2 I.up (hl0 k (by omega))
  refine⟨i',q1,?_⟩
  cases hb:gH es i'==e.1 with
  |false=>rfl
  |true=>exact absurd ⟨i',q1,eq_of_beq hb⟩ (hmin k hk)
 have DV:=Ed (t:=t) (hashAt:=gH es) (h:=e.1) n (10*SetTable.turns t.mask) (gD t.mask e.1) (by unfold SetTable.turns;omega) hlive
 have hf:∃f,10*SetTable.turns t.mask-n=f+1:=⟨10*SetTable.turns t.mask-n-1,by unfold SetTable.turns;omega⟩
 obtain⟨f,hf⟩:=hf
 have hi:∃e',es[i]? = some e'/\e'.1=e.1:=by
  have hpl:∃j,t.place[i]? = some j:=by
   unfold SetTable.slot at s1
   dsimp only at s1
   split at s1
   ·rename_i q
    cases s1
    exact⟨_,eq_of_beq q⟩
   ·split at s1<;>cases s1
  obtain⟨j,hj⟩:=hpl
  rw[<-alw]at hj
  have hlt:=(ala.mp hj).1
  have pH:i<es.toList.length:=by omega
  refine⟨es.toList[i],by rw[<-alw,ak3 pH],?_⟩
  rw[<-s2,hA i es.toList[i] (by rw[<-alw,ak3 pH])]
 obtain⟨e',h1,h2⟩:=hi
 refine⟨gy t.mask e.1 n,i,t.advance (eT t.mask n (gD t.mask e.1)),e',?_,h1,h2⟩
 show SetTable.probe.go t (gH es) e.1 (10*SetTable.turns t.mask) (gD t.mask e.1)=_
 rw[DV,hf]
 unfold SetTable.probe.go
 have s1:t.slot (eT t.mask n (gD t.mask e.1)).j=.live i:=s1
 rw[s1]
 dsimp only
 rw[s2]
 simp
 rfl
theorem aiP{m:Nat}{p:Pb}(h:p.j+p.more<=m):(eY m p).j+(eY m p).more<=m:=by
 unfold eY
 split
 ·dsimp only;omega
 ·dsimp only
  have:(p.i*5+1+p.perturb/32) % (m+1)<m+1:=al7 _ (by omega)
  generalize (p.i*5+1+p.perturb/32) % (m+1)=i at this
  unfold SetTable.runEnd
  split<;>omega
theorem Lc{m:Nat}:∀(n:Nat) {p:Pb},p.j+p.more<=m->(eT m n p).j+(eT m n p).more<=m
 |0,_,h=>h
 |n+1,_,h=>Lc n (aiP h)
theorem RP(m:Nat) (h:Int):(gD m h).j+(gD m h).more<=m:=by
 have:SetTable.bits h % (m+1)<m+1:=al7 _ (by omega)
 unfold gD m8
 dsimp only
 generalize SetTable.bits h % (m+1)=i at this
 unfold SetTable.runEnd
 split<;>omega
theorem N7(m:Nat) (h:Int) (n:Nat):gy m h n<=m:=by
 have:=Lc n (RP m h)
 unfold gy;omega
theorem aeY{t:SetTable}{es:Array (Int×Value)}(I:ki t es) {h:Int}(hc:oi h) (hno:∀e∈es.toList,e.1≠h) :
  ∃j,t.probe (gH es) h (t.probeStart h)=some (.empty j none)/\j∉t.place.toList/\j<=t.mask/\Reach t.mask (·∈t.place.toList) h j:=by
 have hsz:t.place.toList.length=es.toList.length:=by simp[I.size]
 have hM:=I.mask
 have hes:es.toList.length=es.size:=by simp
 have hex:∃j,j<=t.mask/\j∉t.place.toList:=anM λq=>by
  have:=Bu (t.mask+1) t.place.toList λj hj=>anM λx=>q ⟨j,by omega,x⟩
  omega
 obtain⟨js,hjs,hjn⟩:=hex
 obtain⟨k0,hk0,ek0⟩:=FU (10*(t.mask+15)) (gD t.mask h) 0 (hc.go t.mask I.ok) js hjs (by simp)
 obtain⟨n,hn,hs,hmin⟩:=least (P:=λn=>gy t.mask h n∉t.place.toList) k0 (by show(eT t.mask k0 (gD t.mask h)).j∉_;rw[ek0];exact hjn)
 have hin:∀k,k<n->gy t.mask h k∈t.place.toList:=λk hk=>anM λx=>hmin k hk x
 have hA:∀i e',es[i]? = some e'->gH es i=e'.1:=λi e' q=>by unfold gH;rw[q];rfl
 have hlive:∀k,k<n->∃i,t.slot (eT t.mask k (gD t.mask h)).j=.live i/\(gH es i==h)=false:=λk hk=>by
  obtain⟨i,q1,q2⟩:=A2 I.up (hin k hk)
  refine⟨i,q1,?_⟩
  rw[<-alw]at q2
  have hlt:=(ala.mp q2).1
  have pH:i<es.toList.length:=by omega
  have hq:es[i]? = some es.toList[i]:=by rw[<-alw,ak3 pH]
  rw[hA i _ hq]
  exact beq_false_of_ne (hno _ (alq pH))
 have DV:=Ed (t:=t) (hashAt:=gH es) (h:=h) n (10*SetTable.turns t.mask) (gD t.mask h) (by unfold SetTable.turns;omega) hlive
 obtain⟨f,hf⟩:∃f,10*SetTable.turns t.mask-n=f+1:=⟨10*SetTable.turns t.mask-n-1,by unfold SetTable.turns;omega⟩
 refine⟨gy t.mask h n,?_,hs,?_,n,by omega,rfl,hin⟩
 ·show SetTable.probe.go t (gH es) h (10*SetTable.turns t.mask) (gD t.mask h)=_
  rw[DV,hf]
  unfold SetTable.probe.go
  have s1:t.slot (eT t.mask n (gD t.mask h)).j=.empty:=Sa I.dm hs
  rw[s1]
  dsimp only
  rw[Ld]
  rfl
 ·exact N7 _ h n
theorem Pp{l:Array Nat}{r:Array (Int×Value)}(hs:l.size=r.size) {p j:Nat}{e:Int×Value}:∀q∈(SetTable.insertAt l p j).toList.zip (SetTable.insertAt r p e).toList,q=(j,e)\/q∈l.toList.zip r.toList:=by
 intro q hq
 rw[anK,anK]at hq
 have hl:(l.toList.take p).length=(r.toList.take p).length:=by simp[hs]
 rw[apy hl,amV,alz,akY]at hq
 have hz:l.toList.zip r.toList=(l.toList.take p).zip (r.toList.take p)++(l.toList.drop p).zip (r.toList.drop p):=by
  rw[<-apy hl,amA,amA]
 rw[hz,alz]
 rcases hq with q|q|q
 ·exact .inr (.inl q)
 ·exact .inl q
 ·exact .inr (.inr q)
theorem U0{t:SetTable}{es:Array (Int×Value)}(I:ki t es) {h:Int}{x:Value}{j:Nat}(hj:j∉t.place.toList) (hle:j<=t.mask) (hr:Reach t.mask (·∈t.place.toList) h j) :
  (SetTable.insertAt es (SetTable.below t.place j) (h,x)).size=es.size+1/\(t.put j).1.place.size=es.size+1/\Up (t.put j).1.place.toList/\(∀k∈(t.put j).1.place.toList,k<=t.mask)/\(t.put j).1.dummies=#[] /\
   (∀q∈(t.put j).1.place.toList.zip (SetTable.insertAt es (SetTable.below t.place j) (h,x)).toList,Reach t.mask (·∈(t.put j).1.place.toList) q.2.1 q.1):=by
 have hsz:=I.size
 have hnd:(if SetTable.has t.dummies j then SetTable.eraseAt t.dummies (SetTable.below t.dummies j)else t.dummies)=#[]:=by
  rw[I.dm];rfl
 have hmem:∀k,k∈(SetTable.insertAt t.place (SetTable.below t.place j) j).toList↔k∈t.place.toList\/k=j:=λk=>by
  rw[(amS t.place (SetTable.below t.place j) j).mem_iff,anS,alz,alP]
 refine⟨?_,?_,HP I.up hj,λk hk=>?_,hnd,λq hq=>?_⟩
 ·rw[<-alm,(amS ..).length_eq];simp
 ·show(SetTable.insertAt t.place (SetTable.below t.place j) j).size=_
  rw[<-alm,(amS ..).length_eq];simp[hsz]
 ·rcases(hmem k).mp hk with q|rfl
  ·exact I.le k q
  ·exact hle
 ·rcases Pp hsz q hq with rfl|q'
  ·exact hr.mono λk hk=>(hmem k).mpr (.inl hk)
  ·exact(I.reach q q').mono λk hk=>(hmem k).mpr (.inl hk)
theorem uz(m:Nat):∀(k:Nat) (p:Pb),k<=p.more->eT m k p={p with j:=p.j+k,more:=p.more-k}
 |0,p,_=>rfl
 |k+1,p,h=>by
  have ha:eY m p={p with j:=p.j+1,more:=p.more-1}:=by unfold eY;rw[if_pos (by omega)]
  show eT m k (eY m p)=_
  rw[ha,uz m k _ (by dsimp only;omega)]
  dsimp only
  congr 1<;>omega
theorem KU(m i q:Nat):eT m (SetTable.runEnd m i-i+1) (m8 m i q)=m8 m ((i*5+1+q/32) % (m+1)) (q/32):=by
 rw[yz m _ 1,uz m (SetTable.runEnd m i-i) (m8 m i q) (akV _)]
 show eY m _=_
 unfold eY m8
 dsimp only
 rw[if_neg (by omega)]
theorem Ua(m i:Nat):SetTable.runEnd m i-i<=9:=by unfold SetTable.runEnd;split<;>omega
theorem Uc(m i:Nat):i<=SetTable.runEnd m i:=by unfold SetTable.runEnd;split<;>omega
theorem Mf{mask:Nat}{owner:Array (Option Nat)}:∀(fuel i q j:Nat),SetTable.layClean.free mask owner fuel i q=some j ->
  ∃n,n<10*fuel/\(eT mask n (m8 mask i q)).j=j/\∀k,k<n->owner.getD (eT mask k (m8 mask i q)).j (some 0)≠none
 |0,i,q,j,h=>by cases h
 |fuel+1,i,q,j,h=>by
  have h9:=Ua mask i
  have hg:=Uc mask i
  unfold SetTable.layClean.free at h
  cases hr:(List.range (SetTable.runEnd mask i+1-i)).find? (λk=>(owner.getD (i+k) (some 0)).isNone)with
  |some k =>
   rw[hr]at h
   dsimp only at h
   cases h
   have hk:=akZ.mp (List.mem_of_find?_eq_some hr)
   refine⟨k,by omega,?_,λk' hk'=>?_⟩
   ·rw[uz mask k _ (by show k<=SetTable.runEnd mask i-i;omega)]
    rfl
   ·rw[uz mask k' _ (by show k'<=SetTable.runEnd mask i-i;omega)]
    show owner.getD (i+k') (some 0)≠none
    intro e
    have hb:=List.find?_eq_some_iff_getElem.mp hr
    obtain⟨_,n,hn,en,ad4⟩:=hb
    have en':n=k:=by simpa using en
    have:=ad4 k' (by omega)
    simp[e]at this
  |none =>
   rw[hr]at h
   dsimp only at h
   have h:SetTable.layClean.free mask owner fuel ((i*5+1+q/32) % (mask+1)) (q/32)=some j:=h
   obtain⟨n,hn,ej,hl⟩:=Mf fuel _ _ j h
   have hno:=apf.mp hr
   refine⟨SetTable.runEnd mask i-i+1+n,by omega,?_,λk hk=>?_⟩
   ·rw[yz,KU];exact ej
   ·by_cases hk2:k<=SetTable.runEnd mask i-i
    ·rw[uz mask k _ hk2]
     show owner.getD (i+k) (some 0)≠none
     intro e
     have:=hno k (akZ.mpr (by omega))
     simp[e]at this
    ·rw[show k=SetTable.runEnd mask i-i+1+(k-(SetTable.runEnd mask i-i+1)) by omega,yz,KU]
     exact hl _ (by omega)
structure wz (mask:Nat) (owner:Array (Option Nat)) (hs:List Int) (k:Nat):Prop where
 lay:qj mask owner k
 way:∀j i,owner.toList.getD j none=some i->∃h,hs[i]? = some h/\Reach mask (λs=>owner.getD s (some 0)≠none) h j
theorem Xn{mask:Nat}{owner:Array (Option Nat)}{k:Nat}(I:qj mask owner k) {s:Nat}(h:s<=mask):(owner.getD s (some 0)≠none)↔(owner.toList.getD s none≠none):=by
 have h1:=I.1
 rw[i7]
 have hs:s<owner.toList.length:=by omega
 rw[alf,alf,ak3 hs]
 rfl
theorem abE{mask:Nat}{owner:Array (Option Nat)}{hs:List Int}{k:Nat}{h:Int}(hm:iX mask) (hc:oi h) (I:wz mask owner hs k) (hk:k<=mask) (hh:hs[k]? = some h) :
  ∃j,SetTable.layClean.free mask owner (SetTable.turns mask) (SetTable.bits h % (mask+1)) (SetTable.bits h)=some j/\wz mask (owner.setIfInBounds j (some k)) hs (k+1):=by
 obtain⟨h1,h2⟩:=I.lay
 have hex:∃j,j<=mask/\owner.getD j (some 0)=none:=by
  by_cases q:∃j,j<=mask/\owner.getD j (some 0)=none
  ·exact q
  ·have:=Ek owner.toList λj hj e=>q ⟨j,by omega,by rw[i7];exact e⟩
   have h3:=h2.length_eq
   rw[alR]at h3
   omega
 obtain⟨j,e,e1⟩:=Cg (mask+15) _ _ 0 (SetTable.turns mask) (hc.lay mask hm) (akV _) (λk _ hb=>by simp at hb) hex
 obtain⟨n,hn,ej,hl⟩:=Mf _ _ _ _ e
 rw[i7]at e1
 have hj:j<owner.toList.length:=by
  rcases anN j owner.toList.length with q|q
  ·exact q
  ·rw[alf,amy q]at e1;cases e1
 have grow:∀s,owner.getD s (some 0)≠none->(owner.setIfInBounds j (some k)).getD s (some 0)≠none:=λs hs=>by
  rw[i7,anO,alf,apz]
  split
  ·first|(split<;>simp)|simp
  ·rw[i7,alf]at hs
   exact hs
 refine⟨j,e,⟨⟨by simpa using h1,?_⟩,λs i hs=>?_⟩⟩
 ·rw[anO]
  refine(Ej _ j k hj e1).trans ?_
  rw[amd]
  exact(h2.cons k).trans (anP k _).symm
 ·rw[anO,alf,apz]at hs
  by_cases q:j=s
  ·subst q
   rw[if_pos rfl,if_pos hj]at hs
   have:k=i:=by simpa using hs
   subst this
   exact⟨h,hh,n,by unfold SetTable.turns at hn;exact hn,ej,λk' hk'=>grow _ (hl k' hk')⟩
  ·rw[if_neg q]at hs
   obtain⟨h',q1,q2⟩:=I.way s i (by rw[alf];exact hs)
   exact⟨h',q1,q2.mono grow⟩
theorem KY{mask:Nat}(hm:iX mask) (all:List Int):∀(hs:List Int) (owner:Array (Option Nat)) (k:Nat),(∀h∈hs,oi h)->wz mask owner all k->k+hs.length<=mask->(∀i,hs[i]? = all[k+i]?\/hs.length<=i) ->
  ∃ow,hs.foldl (λacc h=>(do
   let(owner,k) <-acc
   let j <-SetTable.layClean.free mask owner (SetTable.turns mask) (SetTable.bits h % (mask+1)) (SetTable.bits h)
   pure (owner.setIfInBounds j (some k),k+1):Option (Array (Option Nat)×Nat))) (some (owner,k))=some (ow,k+hs.length)/\wz mask ow all (k+hs.length)
 |[],owner,k,_,I,_,_=>⟨owner,rfl,I⟩
 |h::hs,owner,k,hh,I,hl,hat=>by
  simp only[alc]at hl
  have h0:all[k]? = some h:=by
   rcases hat 0 with q|q
   ·rw[amN]at q;rw[<-q];rfl
   ·simp at q
  obtain⟨j,e,I'⟩:=abE hm (hh h (.head _)) I (by omega) h0
  obtain⟨ow,e',wF⟩:=KY hm all hs _ (k+1) (λh x=>hh h (.tail _ x)) I' (by omega) λi=>by
   rcases hat (i+1)with q|q
   ·left;rw[show k+1+i=k+(i+1) by omega,<-q];rfl
   ·right;simpa using q
  refine⟨ow,?_,by rw[alc,show k+(hs.length+1)=k+1+hs.length by omega];exact wF⟩
  rw[amw,alc,show k+(hs.length+1)=k+1+hs.length by omega,<-e']
  congr 1
  show(do let j <-SetTable.layClean.free mask owner (SetTable.turns mask) (SetTable.bits h % (mask+1)) (SetTable.bits h);pure (owner.setIfInBounds j (some k),k+1):Option (Array (Option Nat)×Nat))=_
  rw[e]
  rfl
theorem abF{mask:Nat}(hm:iX mask) (hs:Array Int) (hh:∀h∈hs.toList,oi h) (hl:hs.toList.length<=mask) :
  ∃ow,SetTable.layClean mask hs=some ow/\wz mask ow hs.toList hs.toList.length:=by
 obtain⟨ow,e,I⟩:=KY hm hs.toList hs.toList (Array.replicate (mask+1) none) 0 hh ⟨⟨by simp,by simp⟩,λj i h=>by
  rw[Array.toList_replicate,alf,aoW]at h
  split at h<;>cases h⟩ (by omega) λi=>.inl (by rw[alr])
 rw[alr]at e I
 refine⟨ow,?_,I⟩
 unfold SetTable.layClean
 rw[<-apg]
 exact congrArg (Option.map (λx:Array (Option Nat)×Nat=>x.1)) e
theorem Ux{t:SetTable}{es:Array (Int×Value)}(hh:∀e∈es.toList,oi e.1) (hm:es.size=5\/es.size=19) :
  ∃t2 order,t.relaid (es.map (·.1)) (SetTable.grown es.size)=some (t2,order)/\(order.filterMap (es[·]?)).size=es.size/\ki t2 (order.filterMap (es[·]?))/\t2.led=t.led/\(order.filterMap (es[·]?)).toList.Perm es.toList:=by
 have hw:∃m,SetTable.sizeAbove (SetTable.grown es.size)-1=m/\((m=31/\es.size=5)\/(m=127/\es.size=19)):=by
  rcases hm with e|e
  ·rw[e];exact⟨31,by decide,.inl ⟨rfl,rfl⟩⟩
  ·rw[e];exact⟨127,by decide,.inr ⟨rfl,rfl⟩⟩
 obtain⟨m,ew,hq⟩:=hw
 have hs:(es.map (·.1)).toList=es.toList.map (·.1):=by simp
 have hok:iX m:=by unfold iX;omega
 have D4:∀h∈(es.map (·.1)).toList,oi h:=λh hx=>by
  rw[hs,akW]at hx
  obtain⟨y,hy,rfl⟩:=hx
  exact hh y hy
 have hln:(es.map (·.1)).toList.length<=m:=by rw[hs,ak4,alm];omega
 obtain⟨ow,e,⟨h1,h2⟩,adm⟩:=abF hok (es.map (·.1)) D4 hln
 rw[hs,ak4,alm]at h2
 let live:List (Nat×Nat):=(List.range (m+1)).filterMap λj=>(ow.getD j none).map (j,·)
 have hlive:∀q:Nat×Nat,q∈live↔q.1<=m/\ow.toList.getD q.1 none=some q.2:=λq=>by
  simp only[live,amv,akZ]
  constructor
  ·rintro ⟨c,hc,e⟩
   cases ha:ow.getD c none<;>rw[ha]at e<;>simp at e
   subst e
   exact⟨by show c<=m;omega,by rw[<-i7];exact ha⟩
  ·rintro ⟨h1,h2⟩
   exact⟨q.1,by omega,by rw[i7,h2];rfl⟩
 have hord:(live.map (·.2)).Perm (List.range es.size):=by
  have:live.map (·.2)=ow.toList.filterMap id:=by
   simp only[live]
   rw[<-Bl,h1,aop]
   congr 1
   funext j
   rw[i7]
   cases ow.toList.getD j none<;>rfl
  rw[this];exact h2
 have hup:Up (live.map (·.1)):=by
  show List.Pairwise _ _
  rw[amR]
  refine aph _ (λa a' hlt b hb b' hb'=>?_) anR
  cases ha:ow.getD a none<;>rw[ha]at hb<;>simp at hb
  cases ha':ow.getD a' none<;>rw[ha']at hb'<;>simp at hb'
  rw[<-hb,<-hb']
  exact hlt
 have hlen:live.length=es.size:=by
  have:=hord.length_eq
  simpa using this
 have hes:(((live.map (·.2)).toArray).filterMap (es[·]?)).toList.Perm es.toList:=by
  rw[aoq]
  exact(hord.filterMap _).trans (by rw[api])
 have vA:(((live.map (·.2)).toArray).filterMap (es[·]?)).size=es.size:=by
  rw[<-alm,hes.length_eq,alm]
 have hlt:∀q∈live,q.2<es.size:=λq hq=>akZ.mp (hord.mem_iff.mp (akW.mpr ⟨q,hq,rfl⟩))
 have hfm:∀(l:List (Nat×Nat)),(∀q∈l,q.2<es.size)->(l.map (·.2)).filterMap (es[·]?)=l.map λq=>es.toList.getD q.2 (0,.none):=by
  intro l
  induction l with
  |nil=>intro _;rfl
  |cons q l ih =>
   intro hq
   have hq0:q.2<es.size:=hq q (.head _)
   rw[ak6,am2,ak6,ih λy hy=>hq y (.tail _ hy)]
   have:es[q.2]? = some (es.toList.getD q.2 (0,.none)):=by
    rw[<-alw,alf,ak3 (by simpa using hq0)]
    rfl
   rw[this]
 refine⟨{mask:=m,place:=(live.map (·.1)).toArray,dummies:=#[],finger:=t.finger,led:=t.led,moves:=t.movedTo m,plain:=t.plain},(live.map (·.2)).toArray,?_,vA,⟨?_,?_,?_,rfl,?_,?_⟩,rfl,hes⟩
 ·unfold SetTable.relaid SetTable.laid
  rw[ew,e]
  rfl
 ·show((live.map (·.1)).toArray).size=_
  rw[vA,ak8,ak4,hlen]
 ·exact hup
 ·intro j hj
  have hj:j∈live.map (·.1):=hj
  obtain⟨q,hq,rfl⟩:=akW.mp hj
  exact((hlive q).mp hq).1
 ·rw[vA]
  exact .inr (by show(m=31/\_)\/(m=127/\_);omega)
 ·intro q hq
  have hq:q∈(live.map (·.1)).zip (((live.map (·.2)).toArray).filterMap (es[·]?)).toList:=hq
  rw[aoq]at hq
  have hq:q∈(live.map (·.1)).zip ((live.map (·.2)).filterMap (es[·]?)):=hq
  rw[hfm live hlt,List.zip_map',akW]at hq
  obtain⟨⟨j,i⟩,hji,rfl⟩:=hq
  obtain⟨yI,hjo⟩:=(hlive (j,i)).mp hji
  obtain⟨h,hi,hr⟩:=adm j i hjo
  have hil:=hlt (j,i) hji
  have:h=(es.toList.getD i (0,.none)).1:=by
   rw[hs,ale,ak3 (by simpa using hil)]at hi
   rw[alf,ak3 (by simpa using hil)]
   simpa using hi.symm
  subst this
  obtain⟨n,hn,ej,hl⟩:=hr
  refine⟨n,hn,ej,λk hk=>?_⟩
  have hle:=N7 m (es.toList.getD i (0,.none)).1 k
  have:=(Xn (k:=es.size) ⟨h1,h2⟩ hle).mp (hl k hk)
  show gy m _ k∈live.map (·.1)
  cases ho:ow.toList.getD (gy m (es.toList.getD i (0,.none)).1 k) none with
  |none=>exact absurd ho this
  |some i'=>exact akW.mpr ⟨(_,i'),(hlive (_,i')).mpr ⟨hle,ho⟩,rfl⟩
def hT(ks:List Int):Int:=reduceHash (Builtin.Tuple.tupleHashOf (ks.map hashInt))
def eK(ks:List Int):Prop:=∃i j:Nat,i<8/\j<8/\ks=[(i:Int),(j:Int)]
def hP(n:Nat):Int:=hT [((n/8:Nat):Int),((n % 8:Nat):Int)]
def JR(h:Int):Bool:=([7,31,127].all λm=>fX m (10*(m+15)) (SetTable.bits h % (m+1)) (SetTable.runEnd m (SetTable.bits h % (m+1))-SetTable.bits h % (m+1)) (SetTable.bits h % (m+1)) (SetTable.bits h) 0) && [31,127].all λm=>nP m (m+15) (SetTable.bits h % (m+1)) (SetTable.bits h) 0
theorem aiC:((List.range 64).all λn=>JR (hP n))=true:=by decide +kernel
def eqZ(a b:Int):Bool:=match a,b with
 |.ofNat x,.ofNat y=>Nat.beq x y
 |.negSucc x,.negSucc y=>Nat.beq x y
 |_,_=>false
def yg(l:List Int):Bool:=match l with
 |[]=>true
 |x::r=>r.all (λy=>!eqZ x y)&&yg r
theorem Mz(a:Int):eqZ a a=true:=by cases a<;>exact Nat.beq_refl _
theorem aiF:yg ((List.range 64).map hP)=true:=by decide +kernel
theorem Km:∀{l:List Int},yg l=true->∀{i k:Nat}{x:Int},l[i]? = some x->l[k]? = some x->i=k
 |[],_,i,k,x,h,_=>by simp at h
 |y::r,h,i,k,x,h1,h2=>by
  unfold yg at h
  rw[ald,ak2]at h
  cases i with
  |zero =>
   cases k with
   |zero=>rfl
   |succ k =>
    have e:y=x:=by simpa using h1
    have:=h.1 x (alo (by simpa using h2))
    rw[e,Mz]at this
    cases this
  |succ i =>
   cases k with
   |zero =>
    have e:y=x:=by simpa using h2
    have:=h.1 x (alo (by simpa using h1))
    rw[e,Mz]at this
    cases this
   |succ k=>rw[Km h.2 (i:=i) (k:=k) (by simpa using h1) (by simpa using h2)]
theorem eK.num{ks:List Int}(h:eK ks):∃n,n<64/\ks=[((n/8:Nat):Int),((n % 8:Nat):Int)]:=by
 obtain⟨i,j,hi,hj,rfl⟩:=h
 refine⟨8*i+j,by omega,?_⟩
 rw[show(8*i+j)/8=i by omega,show(8*i+j) % 8=j by omega]
theorem eK.fX{ks:List Int}(h:eK ks):oi (hT ks):=by
 obtain⟨n,hn,rfl⟩:=h.num
 have:=ak2.mp aiC n (akZ.mpr hn)
 unfold JR at this
 rw[ald,ak2,ak2]at this
 refine⟨λm hm=>this.1 m ?_,λm hm=>this.2 m ?_⟩
 ·rcases hm with rfl|rfl|rfl<;>decide
 ·rcases hm with rfl|rfl<;>decide
theorem eK.inj{a b:List Int}(ha:eK a) (hb:eK b) (h:hT a=hT b):a=b:=by
 obtain⟨n,hn,rfl⟩:=ha.num
 obtain⟨k,hk,rfl⟩:=hb.num
 have h1:((List.range 64).map hP)[n]? = some (hP n):=by rw[ale,alS hn];rfl
 have h2:((List.range 64).map hP)[k]? = some (hP n):=by
  rw[ale,alS hk]
  exact congrArg some h.symm
 rw[Km aiF h1 h2]
section
variable {prog:Program}{w:World}{A:Around}{E:Value->Shared->Prop}{s:Shared}
theorem Ia{h:Heap}{ks:List Int}{x:Addr}(hu:eK ks) (hx:IsTupleKey (intKind prog w) h ks x):∃o a b n,h.get? x=some o/\o.cls=.type "tuple"/\o.data=.seq #[a,b] n/\(∃i t,a=.int i t)/\∃i t,b=.int i t:=by
 obtain⟨i,j,_,_,rfl⟩:=hu
 obtain⟨o,items,n,h1,h2,h3,h4⟩:=hx
 cases hi:items.toList with
 |nil=>rw[hi]at h4;cases h4
 |cons a r =>
  rw[hi]at h4
  cases h4 with
  |cons q1 q2 =>
   cases r with
   |nil=>cases q2
   |cons b r2 =>
    cases q2 with
    |cons q3 q4 =>
     cases q4
     refine⟨o,a,b,n,h1,h2,?_,?_,?_⟩
     ·rw[h3];congr 1
      apply Array.toList_inj.mp
      rw[hi]
     ·obtain⟨t,e⟩:=anm q1;exact⟨_,t,e⟩
     ·obtain⟨t,e⟩:=anm q3;exact⟨_,t,e⟩
theorem ahH{ks:List Int}{x:Addr}{Q:Bool->Shared->Prop}(hu:eK ks) (hx:IsTupleKey (intKind prog w) s.heap ks x) (h:∀b,Q b s):wpAny (model prog w) A (hashByValue 8 (.ref x)) Q E s:=by
 obtain⟨o,a,b,n,h1,h2,h3,⟨i,t,rfl⟩,j,u,rfl⟩:=Ia hu hx
 rw[hashByValue.eq_12]
 refine akT (wpAny_specialOf (T:="tuple") ⟨o,h1,h2⟩ F.slot_tuple_hash.lookup ?_)
 dsimp only
 refine akT (al6 h1 h3 ?_)
 dsimp only[Option.getD]
 refine akT ?_
 rw[<-apA]
 simp only[amI,anz]
 simp only[aor 7 (x:=.int i t) rfl,aor 7 (x:=.int j u) rfl,plainKind]
 refine akT (akT (akU ?_))
 refine akU ?_
 refine akT (akT (akU ?_))
 refine akU ?_
 exact akU (akU (h _))
theorem Kf{ks:List Int}{x:Addr}{Q:Bool->Shared->Prop}(hu:eK ks) (hx:IsTupleKey (intKind prog w) s.heap ks x) (h:Q false s):wpAny (model prog w) A (ofAClassStatement 8 (.ref x)) Q E s:=by
 obtain⟨o,a,b,n,h1,h2,h3,⟨i,t,rfl⟩,j,u,rfl⟩:=Ia hu hx
 rw[ofAClassStatement.eq_def]
 dsimp only
 refine akT (wpAny_typeOf_ref h1 ?_)
 rw[h2]
 dsimp only
 simp only[beq_self_eq_true,if_true]
 refine akT (akU ?_)
 simp only[amU,alB,if_false]
 refine akT (al6 h1 h3 ?_)
 dsimp only
 refine akT ?_
 rw[<-apA]
 simp only[amI,anz]
 have e1:ofAClassStatement 7 (.int i t)=pure false:=by rw[ofAClassStatement.eq_def]
 have e2:ofAClassStatement 7 (.int j u)=pure false:=by rw[ofAClassStatement.eq_def]
 rw[e1]
 refine akT (akT (akU ?_))
 refine akU ?_
 dsimp only
 rw[e2]
 refine akT (akT (akU ?_))
 refine akU ?_
 exact akU (akU h)
theorem Z7{ks:List Int}{x:Addr}{Q:Bool->Shared->Prop}(hu:eK ks) (hx:IsTupleKey (intKind prog w) s.heap ks x) (l:List Value) (hl:∀v∈l,∃k y,v=.ref y/\eK k/\IsTupleKey (intKind prog w) s.heap k y) (h:Q false s):wpAny (model prog w) A (searchCouldBeSeen (.ref x) l) Q E s:=by
 unfold searchCouldBeSeen
 refine akT ?_
 have go:∀(l:List Value),(∀v∈l,∃k y,v=.ref y/\eK k/\IsTupleKey (intKind prog w) s.heap k y)->∀{R:Option Bool×Unit->Shared->Prop},R (none,()) s->wpAny (model prog w) A (forIn l (none,()) λy __s =>
    have __r:=__s;
    have Qx :=
     match(Value.ref x),y with
     |Value.ref a,Value.ref b=>a==b
     |x,x_1=>false;
    if(Qx||carriedByValue (.ref x)&&carriedByValue y)=true then pure (ForInStep.yield (none,()))
    else do
     let __do_lift <-eqIsQuiet 8 (.ref x)
     if(!__do_lift)=true then pure (ForInStep.done (some true,()))
      else do
       let __do_lift <-eqIsQuiet 8 y
       if(!__do_lift)=true then pure (ForInStep.done (some true,()))
        else do
         let __do_lift <-ofAClassStatement 8 (.ref x)
         if __do_lift=true then pure (ForInStep.done (some true,()))
          else do
           let __do_lift <-ofAClassStatement 8 y
           if __do_lift=true then pure (ForInStep.done (some true,()))
            else pure (ForInStep.yield (none,()))) R E s:=by
  intro l
  induction l with
  |nil=>intro _ R hR;exact akU hR
  |cons v l ih =>
   intro hl R hR
   obtain⟨k,y,rfl,ku,hy⟩:=hl _ (.head _)
   have ih:=ih (λv hv=>hl v (.tail _ hv)) (R:=R)
   rw[amI]
   refine akT ?_
   dsimp only
   by_cases q:(x==y||carriedByValue (.ref x)&&carriedByValue (.ref y))=true
   ·rw[if_pos q]
    exact akU (ih hR)
   ·rw[if_neg q]
    refine akT ((tupleKind (intKind prog w)).quiet hx ?_)
    simp only[amU,alB,if_false]
    refine akT ((tupleKind (intKind prog w)).quiet hy ?_)
    simp only[amU,alB,if_false]
    refine akT (Kf hu hx ?_)
    simp only[alB,if_false]
    refine akT (Kf ku hy ?_)
    simp only[alB,if_false]
    exact akU (ih hR)
 exact go l hl (akU h)
end
def gC(ks:List (List Int)) (k:List Int):List (List Int):=if k∈ks then ks else ks++[k]
abbrev sO(q:List Int×Addr):Int×Value:=(hT q.1,.ref q.2)
def jC(P:Program) (w:World) (Y:Addr->Prop) (h:Heap) (a:Addr) (ks:List (List Int)):Prop:=∃o es ep t,∃L:List (List Int×Addr),h.get? a=some o/\o.ExactSet/\o.data=.set es ep t/\ki t es/\es.toList=L.map sO/\(∀q∈L,eK q.1/\IsTupleKey (intKind P w) h q.1 q.2)/\(L.map (·.1)).Perm ks/\∀q∈L,Y q.2
theorem WE{α β:Type}{f:α->β}:∀{l:List β}{r:List α},l.Perm (r.map f)->∃l2:List α,l=l2.map f/\l2.Perm r:=by
 intro l r h
 generalize hm:r.map f=m at h
 induction h generalizing r with
 |nil =>
  cases r with
  |nil=>exact⟨[],rfl,.refl _⟩
  |cons a r=>cases hm
 |cons x _ ih =>
  cases r with
  |nil=>cases hm
  |cons a r =>
   rw[ak6]at hm
   injection hm with h1 h2
   obtain⟨l2,e,p⟩:=ih h2
   exact⟨a::l2,by rw[ak6,h1,e],p.cons a⟩
 |swap x y l =>
  cases r with
  |nil=>cases hm
  |cons a r =>
   cases r with
   |nil=>simp at hm
   |cons b r =>
    simp only[ak6]at hm
    injection hm with h1 h2
    injection h2 with h3 h4
    exact⟨b::a::r,by simp only[ak6];rw[h1,h3,h4],.swap a b r⟩
 |trans _ _ ih1 ih2 =>
  obtain⟨l2,e,p⟩:=ih2 hm
  obtain⟨l3,e3,p3⟩:=ih1 e.symm
  exact⟨l3,e3,p3.trans p⟩
section
variable {prog:Program}{w:World}{A:Around}{E:Value->Shared->Prop}{s:Shared}
theorem K4{h h':Heap}{a x:Addr}{k:List Int}{o:Obj}{es:Array (Int×Value)}{ep:Nat}{t:SetTable}(hx:IsTupleKey (intKind prog w) h k x) (ho:h.get? a=some o) (hd:o.data=.set es ep t) (sb:Heap.SameBut a h h'):IsTupleKey (intKind prog w) h' k x:=by
 obtain⟨o',items,n,h1,h2,h3,h4⟩:=hx
 have hne:x≠a:=λe=>by
  subst e
  rw[ho]at h1
  cases h1
  rw[hd]at h3
  cases h3
 exact⟨o',items,n,by rw[sb.2 x hne];exact h1,h2,h3,h4⟩
theorem aeo{t:SetTable}{es:Array (Int×Value)}(I:ki t es):t.gaveWay=false:=by
 unfold SetTable.gaveWay
 rcases I.ok with e|e|e<;>rw[e]<;>rfl
theorem find_key{ks:List (List Int)}{es:Array (Int×Value)}{L:List (List Int×Addr)}{k:List Int}{i:Nat}{e:Int×Value}(hL:es.toList=L.map sO) (hu:∀q∈L,eK q.1/\IsTupleKey (intKind prog w) s.heap q.1 q.2) (hk:eK k) (h1:es[i]? = some e) (h2:e.1=hT k) :
  ∃y,e=(hT k,.ref y)/\IsTupleKey (intKind prog w) s.heap k y/\k∈L.map (·.1):=by
 have:e∈L.map sO:=by rw[<-hL];exact alo (by rw[alw];exact h1)
 obtain⟨q,hq,rfl⟩:=akW.mp this
 have e1:=(hu q hq).1.inj hk h2
 refine⟨q.2,?_,?_,?_⟩
 ·show(hT q.1,_)=_;rw[e1]
 ·rw[<-e1];exact(hu q hq).2
 ·rw[<-e1];exact akW.mpr ⟨q,hq,rfl⟩
theorem To{Y:Addr->Prop}{a x:Addr}{ks:List (List Int)}{k:List Int}{Q:Bool->Shared->Prop}(hr:A.units<cLine) (hk:eK k) (hx:IsTupleKey (intKind prog w) s.heap k x) (hY:Y x) (hS:jC prog w Y s.heap a ks) (hn:ks.length<64)
  (h:∀b h',Heap.SameBut a s.heap h'->jC prog w Y h' a (gC ks k)->Q b {s with heap:=h'}):wpAny (model prog w) A (setAddHashed a (.ref x) (hT k)) Q E s:=by
 have hS0:=hS
 obtain⟨o,es,ep,t,L,ho,hex,hd,I,hL,hu,hp,Ls⟩:=hS
 have hsz:es.size=ks.length:=by
  have:=congrArg List.length hL
  rw[ak4,alm]at this
  rw[this,<-hp.length_eq,ak4]
 unfold setAddHashed setAddHashedIn
 refine alZ (akT (ame ho hd I.fits ?_))
 dsimp only
 rw[show byScan (.ref x) es=false from rfl]
 simp only[alB,if_false]
 refine akT ?_
 unfold setSearch setSearchFrom
 refine akT (ame ho hd I.fits ?_)
 dsimp only
 rw[aeo I]
 simp only[alB,if_false]
 by_cases hk2:k∈ks
 ·have hkL:k∈L.map (·.1):=hp.mem_iff.mpr hk2
  obtain⟨q,hq,rfl⟩:=akW.mp hkL
  have he:sO q∈es.toList:=by rw[hL];exact akW.mpr ⟨q,hq,rfl⟩
  obtain⟨j,i,next,e',vp,h1,h2⟩:=aeX I he
  obtain⟨y,rfl,hy,_⟩:=find_key (ks:=ks) hL hu hk h1 h2
  have hst:gC ks q.1=ks:=by unfold gC;rw[if_pos hk2]
  rw[hst]at h
  have fin:∀(ajE:Unit),Q false s:=λ_=>h false s.heap (Heap.SameBut.refl a s.heap) hS0
  split
  ·rename_i met heq
   have hm:met=.candidate j i next:=by
    have:=heq.symm.trans vp
    cases this;rfl
   subst hm
   dsimp only
   simp only[h1]
   have tail:∀{R:SetFound->Shared->Prop}{F:Bool->(Array (Int×Value)×Nat×SetTable)->Sem SetFound},R (.there none) s->wpAny (model prog w) A (do
     let equal <-holding [Value.ref y] (eqBool (.ref y) (.ref x))
     let z <-setState a
     if(true&&equal)=true then pure (SetFound.there none)else F equal z) R E s:=fun{R F} hR=>by
    refine akT (alZ ((tupleKind (intKind prog w)).eqBool hr hy hx ?_))
    refine akT (ame ho hd I.fits ?_)
    rw[if_pos (by simp)]
    exact akU hR
   cases hl:t.led with
   |false =>
    simp only[anf,if_true]
    refine akT (Z7 hk hx _ (λv hv=>?_) ?_)
    ·obtain⟨e,he,rfl⟩:=akW.mp hv
     have he:e∈es.toList:=by
      have:=Array.mem_filter.mp (an3.mp he)
      exact an3.mpr this.1
     rw[hL]at he
     obtain⟨q',hq',rfl⟩:=akW.mp he
     exact⟨q'.1,q'.2,rfl,hu q' hq'⟩
    ·simp only[alB,if_false]
     exact tail (akU (fin ()))
   |true =>
    simp only[amU,alB,if_false]
    exact tail (akU (fin ()))
  ·rename_i hne
   exact absurd vp (hne _)
 ·have hno:∀e∈es.toList,e.1≠hT k:=λe he z=>by
   rw[hL]at he
   obtain⟨q,hq,rfl⟩:=akW.mp he
   have:=(hu q hq).1.inj hk z
   exact hk2 (hp.mem_iff.mp (akW.mpr ⟨q,hq,this⟩))
  obtain⟨j,vp,hj,yI,hre⟩:=aeY I hk.fX hno
  have hst:gC ks k=ks++[k]:=by unfold gC;rw[if_neg hk2]
  rw[hst]at h
  split
  ·rename_i met heq
   have hm:met=.empty j none:=by
    have:=heq.symm.trans vp
    cases this;rfl
   subst hm
   dsimp only
   refine akU ?_
   dsimp only
   refine akT (ame ho hd I.fits ?_)
   dsimp only
   obtain⟨p1,p2,p3,p4,p5,p6⟩:=U0 I (x:=.ref x) hj yI hre
   have AW:∀t1:SetTable,t1.mask=t.mask->t1.place=(t.put j).1.place->t1.dummies=(t.put j).1.dummies->wpAny (model prog w) A (do
     storeSet a (SetTable.insertAt es (t.put j).snd (hT k,Value.ref x)) t1
     if(!false&&t1.tooFull)=true then do
      setRelay a (SetTable.grown (es.size+1))
      pure true
     else pure true) Q E s:=λt1 m1 m2 m3=>by
    have hsn:(t.put j).snd=SetTable.below t.place j:=rfl
    rw[hsn]
    generalize adV:SetTable.insertAt es (SetTable.below t.place j) (hT k,Value.ref x)=es1 at p1 p6
    rw[<-m2,<-m1]at p6
    rw[<-m2]at p2 p3 p4
    rw[<-m1]at p4
    rw[<-m3]at p5
    have sG:es1.toList=(L.take (SetTable.below t.place j)++(k,x)::L.drop (SetTable.below t.place j)).map sO:=by
     rw[<-adV,anK,hL,alX,ak6,amW,aoG]
    have D9:((L.take (SetTable.below t.place j)++(k,x)::L.drop (SetTable.below t.place j)).map (·.1)).Perm (ks++[k]):=by
     refine((aoC (a:=(k,x)) (l₁:=L.take (SetTable.below t.place j)) (l₂:=L.drop (SetTable.below t.place j))).map (·.1)).trans ?_
     rw[amA,ak6]
     exact(hp.cons k).trans (anP k ks).symm
    have hu1:∀q∈(L.take (SetTable.below t.place j)++(k,x)::L.drop (SetTable.below t.place j)),eK q.1/\IsTupleKey (intKind prog w) s.heap q.1 q.2:=λq hq=>by
     rw[alz,akY]at hq
     rcases hq with q1|rfl|q1
     ·exact hu q (alx q1)
     ·exact⟨hk,hx⟩
     ·exact hu q (anL q1)
    have D6:∀q∈(L.take (SetTable.below t.place j)++(k,x)::L.drop (SetTable.below t.place j)),Y q.2:=λq hq=>by
     rw[alz,akY]at hq
     rcases hq with q1|rfl|q1
     ·exact Ls q (alx q1)
     ·exact hY
     ·exact Ls q (anL q1)
    generalize L.take (SetTable.below t.place j)++(k,x)::L.drop (SetTable.below t.place j)=L1 at sG D9 hu1 D6
    have hM:=I.mask
    have hz0:(#[]:Array Nat).size=0:=rfl
    have hfit:t1.fits es1.size=true:=by
     simp only[SetTable.fits,SetTable.fill,p2,p5,p1,hz0,m1,ald,beq_self_eq_true,true_and,decide_eq_true_eq]
     omega
    have sl:100<sizeLine:=by decide
    refine akT (anT ho hd ?_ (by omega))
    have nG:=xM (es':=es1) (t':=t1) ho hd
    have gv:=amb s.heap a (Obj.putSet es1 t1)
    have hk1:∀q∈L1,eK q.1/\IsTupleKey (intKind prog w) (s.heap.update a (Obj.putSet es1 t1)) q.1 q.2:=λq hq=>⟨(hu1 q hq).1,K4 (hu1 q hq).2 ho hd gv⟩
    cases hf:t1.tooFull with
    |false =>
     simp only[anf,an7,alB,if_false]
     have hf2:((t1.mask=7/\es1.size<=4)\/(t1.mask=31/\es1.size<=18)\/(t1.mask=127/\es1.size<=76)):=by
      simp only[SetTable.tooFull,SetTable.fill,p2,p5,hz0,m1,decide_eq_false_iff_not]at hf
      rw[m1]
      omega
     exact akU (h true _ gv ⟨_,es1,ep+1,t1,L1,nG,hex,rfl,⟨by rw[p2,p1],p3,p4,p5,hf2,p6⟩,sG,hk1,D9,D6⟩)
    |true =>
     simp only[anf,ang,if_true]
     have hf2:es1.size=5\/es1.size=19:=by
      simp only[SetTable.tooFull,SetTable.fill,p2,p5,hz0,m1,decide_eq_true_eq]at hf
      omega
     have D4:∀e∈es1.toList,oi e.1:=λe he=>by
      rw[sG]at he
      obtain⟨q,hq,rfl⟩:=akW.mp he
      exact(hu1 q hq).1.fX
     obtain⟨t2,order,r1,r2,r3,r4,r5⟩:=Ux (t:=t1) D4 hf2
     generalize vA:order.filterMap (es1[·]?)=jw at r2 r3 r5
     refine akT ?_
     unfold setRelay
     refine akT (ame nG rfl hfit ?_)
     dsimp only
     have hw:¬SetTable.sizeAbove (SetTable.grown (es.size+1))>sizeLine:=by
      rw[<-p1]
      rcases hf2 with e|e<;>rw[e]<;>decide
     rw[if_neg hw,<-p1,r1]
     refine akT (ana (show _=pure (jw,t2)from ?_) ?_)
     ·show(if((order.filterMap (es1[·]?)).size != es1.size)=true then(do let _ <-unsupported "internal:set-table-lost-an-element";pure (order.filterMap (es1[·]?),t2))else pure (order.filterMap (es1[·]?),t2))=_
      rw[vA,r2]
      simp
     ·dsimp only
      refine anT nG rfl ?_ (by omega)
      have adt:=amb (s.heap.update a (Obj.putSet es1 t1)) a (Obj.putSet jw t2)
      have Ly:=gv.trans adt
      have ho2:=xM (es':=jw) (t':=t2) nG rfl
      obtain⟨L2,sE,Ea⟩:∃L2:List (List Int×Addr),jw.toList=L2.map sO/\L2.Perm L1:=by
       rw[sG]at r5
       exact WE r5
      refine akU (h true _ Ly ⟨_,jw,ep+1+1,t2,L2,ho2,hex,rfl,r3,sE,λq hq=>?_,(Ea.map _).trans D9,λq hq=>D6 q (Ea.mem_iff.mp hq)⟩)
      have hq1:=Ea.mem_iff.mp hq
      exact⟨(hu1 q hq1).1,K4 (hu1 q hq1).2 ho hd Ly⟩
   have mk:(t.put j).1.mask=t.mask:=rfl
   by_cases hpl:(t.put j).fst.plain=true
   ·rw[if_pos hpl]
    refine akT (ahH hk hx λb=>?_)
    cases b with
    |true=>exact AW _ rfl rfl rfl
    |false=>exact AW _ rfl rfl rfl
   ·rw[if_neg hpl]
    refine akT (akU ?_)
    exact AW _ rfl rfl rfl
  ·rename_i hne
   exact absurd vp (hne _)
end
def dZ(xs:List (List Int)):List (List Int):=xs.foldl gC []
theorem aeM{xs:List (List Int)}{i:Nat}(h:i<xs.length):dZ (xs.take (i+1))=gC (dZ (xs.take i)) xs[i]:=by
 unfold dZ
 rw[anh h,ani]
 rfl
theorem Mm:∀(xs ns:List (List Int)),ns.length<=(xs.foldl gC ns).length
 |[],ns=>akV _
 |x::xs,ns=>by
  have:=Mm xs (gC ns x)
  have h:ns.length<=(gC ns x).length:=by unfold gC;split<;>simp
  rw[amw];omega
theorem aeN(xs:List (List Int)) (i:Nat):(dZ (xs.take i)).length<=(dZ xs).length:=by
 have:dZ xs=(xs.drop i).foldl gC (dZ (xs.take i)):=by
  unfold dZ
  rw[<-ani,amA]
 rw[this]
 exact Mm _ _
section
variable {prog:Program}{w:World}{A:Around}{s:Shared}{E:Value->Shared->Prop}
theorem IsTupleKey.at{h h':Heap}{k:List Int}{y:Addr}(x:IsTupleKey (intKind prog w) h k y) (e:∀o,h.get? y=some o->h'.get? y=some o):IsTupleKey (intKind prog w) h' k y :=
 let⟨o,it,n,h1,r⟩:=x;⟨o,it,n,e o h1,r⟩
theorem jC.at{Y:Addr->Prop}{h h':Heap}{a:Addr}{ks:List (List Int)}(x:jC prog w Y h a ks) (k:∀b,(b=a\/Y b)->∀o,h.get? b=some o->h'.get? b=some o):jC prog w Y h' a ks :=
 let⟨o,es,ep,t,L,ho,h1,h2,h3,h4,h5,h6,h7⟩:=x
 ⟨o,es,ep,t,L,k a (.inl rfl) o ho,h1,h2,h3,h4,λq hq=>⟨(h5 q hq).1,IsTupleKey.at (h5 q hq).2 (k q.2 (.inr (h7 q hq)))⟩,h6,h7⟩
theorem Tj{R:Result->Shared->Prop}{I:Addr}{fp wr:List Addr}{G:Array GenState->Array GenState->Prop}{P:Nat->Value->Prop}{St:Nat->Shared->Prop}{xs:List (List Int)}{ys:List Addr}(hys:ys.length=xs.length)
  (W:WalksS prog w A.in1 I fp wr G xs.length P St) (S:Addr) (hSf:S∉fp) (hval:∀(i:Nat) v,(hi:i<xs.length)->P i v->v=Value.ref (ys[i]'(by omega))) (hx:∀x∈xs,eK x) (DU:∀y∈ys,y≠S/\y∉wr) (h64:(dZ xs).length<64) (hr:A.in1.units<cLine) :
  ∀(k i:Nat) (s:Shared),xs.length-i=k->i<=xs.length->St i s->jC prog w (·∈ys) s.heap S (dZ (xs.take i))->(∀j,(hj:j<xs.length)->IsTupleKey (intKind prog w) s.heap xs[j] (ys[j]'(by omega))) ->
   (∀s',Moved (S::wr) G s s'->jC prog w (·∈ys) s'.heap S (dZ xs)->R (.ok (.ret .none)) s') ->
   codeAny (model prog w) A (.builtin "set.update.loop" ⟨[.ref S,.ref I],[]⟩) R s:=by
 have yN:S∉wr:=λh=>hSf (W.sub _ h)
 have hup:∀b∈wr,b∈S::wr:=λb hb=>.tail _ hb
 have LQ:∀b,(b=S\/b∈ys)->b∉wr:=λb hb=>hb.elim (λe=>e▸yN) λm=>(DU b m).2
 intro k
 induction k with
 |zero =>
  intro i s hk hi st hS hK hR
  cases(show i=xs.length by omega)
  refine amq anU ?_
  rw[anj amT _]
  show wpAny _ A.in1 (pyNext (.ref I) >>= _) _ _ s
  refine akT (W.done s _ _ st λs' hm=>?_)
  rw[amf]at hS
  exact akU (hR s' (hm.mono hup) (hS.at λb hb o e=>hm.heap b _ (LQ b hb) e))
 |succ k ih =>
  intro i s hk hi st hS hK hR
  have hlt:i<xs.length:=by omega
  have pH:i<ys.length:=by omega
  refine amq anU ?_
  rw[anj amT _]
  show wpAny _ A.in1 (pyNext (.ref I) >>= _) _ _ s
  refine akT (W.item i s _ _ hlt st λv s' hP st' hm=>?_)
  cases hval i v hlt hP
  have hS':jC prog w (·∈ys) s'.heap S (dZ (xs.take i)):=hS.at λb hb o e=>hm.heap b _ (LQ b hb) e
  have Eb:∀j,(hj:j<xs.length)->IsTupleKey (intKind prog w) s'.heap xs[j] (ys[j]'(by omega)):=λj hj=>IsTupleKey.at (hK j hj) λo e=>hm.heap _ _ ((DU _ (alq (by omega))).2) e
  show wpAny _ A.in1 (holding [Value.ref ys[i]] (setAdd S (.ref ys[i])) >>= _) _ _ s'
  refine akT (alZ ?_)
  unfold setAdd
  refine alZ (akT ((tupleKind (intKind prog w)).pyHash (k:=xs[i]) hr (Eb i hlt) ?_))
  have hl:(dZ (xs.take i)).length<64:=al4 (aeN xs i) h64
  refine To (Y:=(·∈ys)) (s:={s' with toks:=s'.toks+(tupleKind (intKind prog w)).draws xs[i]}) (k:=xs[i]) hr (hx _ (alq hlt)) (Eb i hlt) (alq pH) hS' hl λb h' gv k7=>?_
  rw[<-aeM hlt]at k7
  refine akU ⟨aos amT _,ih (i+1) _ (by omega) hlt (W.frame _ s' _ _ st' (amm _ _) λb hb o e=>?_) k7 (λj hj=>?_) λs'' DY D8=>?_⟩
  ·rw[gv.2 b (λq:b=S=>hSf (q▸hb))];exact e
  ·exact IsTupleKey.at (Eb j hj) λo e=>by
    show h'.get? _=some o
    rw[gv.2 _ (DU _ (alq (by omega))).1];exact e
  ·refine hR s'' (Moved.trans W.gtrans ((hm.mono hup).then_heap (amm _ _) λb o hb e=>?_) DY) D8
   rw[gv.2 b (λq:b=S=>hb (q▸.head _))];exact e
theorem ae4(Y:Addr->Prop) {h:Heap}{a:Addr}(e:h.get? a=some (cV w)):jC prog w Y h a [] :=
 ⟨_,#[],0,_,[],e,⟨rfl,rfl,rfl⟩,rfl,⟨rfl,.nil,λj h=>by simp[SetTable.fresh]at h,rfl,.inl ⟨rfl,by simp⟩,λq hq=>by simp[SetTable.fresh]at hq⟩,rfl,λq hq=>(by cases hq),.refl _,λq hq=>(by cases hq)⟩
set_option maxHeartbeats 3200000 in
theorem Th{l:Addr}{items:Array Value}{xs:List (List Int)}{ys:List Addr}{Q:Value->Shared->Prop}(hys:ys.length=xs.length) (hh:A.handled=none) (hl:s.heap.IsList l items) (hi:items.toList=ys.map Value.ref) (hK:∀j,(hj:j<xs.length)->IsTupleKey (intKind prog w) s.heap xs[j] (ys[j]'(by omega))) (hx:∀x∈xs,eK x) (h64:(dZ xs).length<64) (hr:A.in1.in1.in1.units<cLine)
  (h:∀(h':Heap) (tk:Nat),jC prog w (·∈ys) h' s.heap.objs.size (dZ xs)->(∀b o,b<s.heap.objs.size->s.heap.get? b=some o->h'.get? b=some o)->Q (.ref s.heap.objs.size) {s with heap:=h',toks:=tk}) :
  wpAny (model prog w) A (call (.type "set") [.ref l]) Q E s:=by
 obtain⟨c,tl,LG⟩:=alp.mro
 have hmade:=alp.made
 have hsub:=alp.sub
 refine amE (anV (show wpAny _ _ (callAny (.type "set") _) _ _ _ from ?_))
 refine akU ⟨aot _ (by decide +kernel),amq aou ?_⟩
 rw[aov (aow "set" [.ref l] []) rfl]
 have h1:=alp.notType
 have h2:=alp.canCreate
 have hct:=aox (.ref l)
 repeat any_goals (first|assumption|wp_step)
 refine al0 (A4 (.ref l) (E:=E) (Q₁:=λobj s₁=>obj=.ref s.heap.objs.size/\s₁={s with heap:=s.heap.push (cV w)}) ⟨rfl,rfl⟩) λr s₁ hr=>?_
 cases r with
 |error e=>exact hr
 |ok fl =>
  cases fl with
  |ret obj =>
   obtain⟨rfl,rfl⟩:=hr
   have hS:(s.heap.push (cV w)).get? s.heap.objs.size=some (cV w):=alb _ rfl
   have hT:Shared.TypeIs {s with heap:=s.heap.push (cV w)} (.ref s.heap.objs.size) "set":=⟨_,hS,rfl⟩
   have hli:=alp.init.lookup
   have hbi:=alp.init.bind (.ref s.heap.objs.size)
   repeat any_goals (first|assumption|wp_step)
   refine al0 (aoy (R:=wants (λr s₂=>r=.none/\∃h' tk,s₂={s with heap:=h',toks:=tk}/\jC prog w (·∈ys) h' s.heap.objs.size (dZ xs) /\
     (∀b o,b<s.heap.objs.size->s.heap.get? b=some o->h'.get? b=some o)) E) alp.init.plain aoz (aoA hT ?_)) λr₂ s₂ jt=>?_
   ·obtain⟨ol,iF,hcl,nl,hdl⟩:=hl
    obtain⟨J1,uL,JV,uJ⟩:=ol
    simp only at hcl hdl
    subst hcl;subst hdl
    have nF:(s.heap.push (cV w)).get? l=some {cls:=.type "list",dict:=uL,data:=.seq items nl,slots:=uJ}:=akX _ iF
    have Lw:=apk
    have Lx:=apl
    have hne:(Value.type "list"==Value.type "dict")=false:=by decide
    have hl1:(s.heap.push (cV w)).IsList l items:=⟨_,nF,rfl,nl,rfl⟩
    unfold cV at hS hT nF ⊢
    unfold Builtin.«set.__init__» noKeywords Builtin.Frozenset.updateFrom
    generalize vF:pyIter=PI
    wp_walk
    subst vF
    refine am3 hl1 (akT (aoB ?_))
    have hlS:l<s.heap.objs.size:=ak0 iF
    have hlen:items.size=xs.length:=by
     have:=congrArg List.length hi
     rw[ak4,alm]at this
     omega
    have vt:l≠(s.heap.push (cV w)).objs.size:=by rw[alv];exact ak1 (al5 hlS)
    have hSf:s.heap.objs.size∉[(s.heap.push (cV w)).objs.size,l]:=by
     rw[alv];simp only[akY,ak9,or_false,not_or];exact⟨ak1 (al2 _),alO hlS⟩
    have W:=(anE (prog:=prog) (w:=w) (A:=A.in1.in1.in1) (by simp[hh]) (s.heap.push (cV w)).objs.size l vt items).toS
    rw[hlen]at W
    have hyo:∀y∈ys,∃k,IsTupleKey (intKind prog w) s.heap k y:=λy hy=>by
     obtain⟨j,hj,rfl⟩:=amz hy
     exact⟨_,hK j (by omega)⟩
    have hyl:∀y∈ys,y<s.heap.objs.size/\y≠l:=λy hy=>by
     obtain⟨k,o,it,n,q1,q2,q3,q4⟩:=hyo y hy
     refine⟨ak0 q1,λe=>?_⟩
     subst e
     rw[iF]at q1
     cases q1
     injection q2 with z
     exact absurd z (by decide)
    refine Tj (xs:=xs) (ys:=ys) hys W s.heap.objs.size hSf (λi v hi' hv=>?_) hx (λy hy=>?_) h64 hr xs.length 0 _ (by omega) (alW _) ⟨⟨_,alb _ rfl,rfl,rfl⟩,hl1.push _⟩ (ae4 _ (akX _ hS)) (λj hj=>IsTupleKey.at (hK j hj) λo e=>akX _ (akX _ e)) λs' hm hS'=>?_
    ·have hv:items[i]? = some v:=hv
     rw[<-alw,hi,ale,ak3 (by omega)]at hv
     simpa using hv.symm
    ·have:=hyl y hy
     rw[alv]
     simp only[akY,ak9,or_false]
     exact⟨ak1 this.1,λz=>by first|exact absurd z (ak1 (al5 this.1))|exact z.elim (λz=>absurd z (ak1 (al5 this.1))) this.2⟩
    ·obtain⟨h',g',d',tk',os'⟩:=s'
     cases(show g'=s.gens from hm.gens)
     cases(show d'=s.drawn from hm.drawn)
     cases(show os'=s.os from hm.os)
     refine akU (akU ⟨rfl,h',tk',rfl,hS',λb o hb e=>?_⟩)
     exact hm.heap b o (by rw[alv];simp only[akY,ak9,or_false,not_or];exact⟨ak1 hb,ak1 (al5 hb)⟩) (akX _ (akX _ e))
   ·cases r₂ with
    |error e=>exact jt
    |ok vK =>
     cases vK with
     |ret r =>
      obtain⟨rfl,h',tk,rfl,hS',hk'⟩:=jt
      repeat any_goals (first|assumption|wp_step)
      exact h _ _ hS' hk'
     |_=>exact jt.elim
  |_=>exact hr.elim
end
def A5(P:Program) (w:World) (a:Addr) (n:Nat):Heap->Prop:=λh=>∃o es ep t,h.get? a=some o/\o.ExactSet/\o.data=.set es ep t/\t.fits es.size=true/\es.size=n
def fR:D->Option (List Int)
 |.tup [.int i,.int j]=>if 0<=i/\i<8/\0<=j/\j<8 then some [i,j]else none
 |_=>none
def oJ:List D->Option (List (List Int))
 |[]=>some []
 |d::l=>match fR d,oJ l with
  |some k,some r=>some (k::r)
  |_,_=>none
theorem Vs{d:D}{k:List Int}(h:fR d=some k):eK k/\∃i j,k=[i,j]/\d=.tup [.int i,.int j]:=by
 unfold fR at h
 split at h
 ·rename_i i j
  split at h
  ·rename_i hb
   cases h
   exact⟨⟨i.toNat,j.toNat,by omega,by omega,by rw[show((i.toNat:Nat):Int)=i by omega,show((j.toNat:Nat):Int)=j by omega]⟩,i,j,rfl,rfl⟩
  ·cases h
 ·cases h
section
variable {X:Cx}
def UA(X:Cx):List V->Hp->VK->Prop:=λxs H Q=>∃a ys ks,xs=[.ref a]/\bH X.K H a (ys.map V.ref)/\Paired (fun(y:Addr) (k:List Int)=>eK k/\H y=some (.tup (k.map V.int))) ys ks/\(dZ ks).length<64/\∀p,H p=none->Q (.ref p) (upd H p (.ext (A5 X.prog X.w p (dZ ks).length)))
theorem JG{α β:Type}{R:α->β->Prop}:∀{l:List α}{r:List β},Paired R l r->l.length=r.length
 |_,_,.nil=>rfl
 |_,_,.cons _ q=>congrArg (· + 1) (JG q)
theorem BB{α β:Type}{R:α->β->Prop}:∀{l:List α}{r:List β},Paired R l r->∀(j:Nat) (h1:j<l.length) (h2:j<r.length),R l[j] r[j]
 |_,_,.nil,_,h,_=>absurd h (anI _)
 |_,_,.cons p q,0,_,_=>p
 |_,_,.cons p q,j+1,h1,h2=>BB q j (by simpa using h1) (by simpa using h2)
theorem abW{pins:List (Addr×Obj)}{σ:St}{H:Hp}{s:Shared}{y:Addr}{i j:Int}(I:Inv X pins σ H s) (h:H y=some (.tup [.int i,.int j])):IsTupleKey (intKind X.prog X.w) s.heap [i,j] y:=by
 obtain⟨_,its,hv,o,h1,h2,⟨n,h3⟩,_⟩:=I.hok y _ h
 cases hv with
 |cons r1 r2 =>
  cases r2 with
  |cons r3 r4 =>
   cases r4
   obtain⟨t1,rfl⟩:=r1
   obtain⟨t2,rfl⟩:=r3
   exact⟨o,_,n,h1,h2,h3,.cons (by simp[intKind,Value.isInt]) (.cons (by simp[intKind,Value.isInt]) .nil)⟩
theorem HM:∀{ys:List Addr}{us:List Value},Vals (ys.map V.ref) us->us=ys.map Value.ref
 |[],_,.nil=>rfl
 |y::ys,_,.cons e r=>by cases e;rw[HM r];rfl
theorem agS(hu:X.A.units+64<cLine) (hc:X.calm=true:=by rfl):dW X (.type "set") (UA X):=by
 intro pins s σ H xs us Q I rv h
 obtain⟨a,ys,ks,rfl,sq,hp,h64,q⟩:=h
 obtain⟨u,rfl,ru⟩:=alK rv
 cases ru
 obtain⟨its,ri,pl,hz⟩:=I.list sq
 have hl:=JG hp
 refine Th (xs:=ks) (ys:=ys) hl (I.ok.hd hc) pl.isList (by simpa using HM ri) (λj hj=>?_) (λx hx=>?_) h64 (by show X.A.units+1+1+1<cLine;omega) λh' tk hS kp=>?_
 ·obtain⟨⟨i',j',_,_,e⟩,hH⟩:=BB hp j (by omega) hj
  rw[e]at hH ⊢
  exact abW I hH
 ·obtain⟨j,hj,rfl⟩:=amz hx
  exact(BB hp j (by omega) hj).1
 ·have hf:H s.heap.objs.size=none:=I.hok.fresh (akV _)
  obtain⟨o,es,ep,t,L,ho,hex,hd,IT,hL,_,jZ,_⟩:=hS
  have hn:es.size=(dZ ks).length:=by
   have:=congrArg List.length hL
   rw[ak4,alm]at this
   rw[this,<-jZ.length_eq,ak4]
  refine⟨.ref s.heap.objs.size,upd H s.heap.objs.size (.ext (A5 X.prog X.w s.heap.objs.size (dZ ks).length)),I.laid (t':=tk) (λb u e=>kp b u (ak0 e) e) (akV _) ?_,rfl,q _ hf⟩
  exact⟨⟨o,es,ep,t,ho,hex,hd,IT.fits,hn⟩,⟨o,ho⟩,λh1 h2 ⟨o,es,ep,t,ho,r⟩ k=>⟨o,es,ep,t,k o ho,r⟩⟩
def UJ(X:Cx):List V->Hp->VK->Prop:=λxs H Q=>∃a n,xs=[.ref a]/\H a=some (.ext (A5 X.prog X.w a n))/\(n:Int)<2^63/\Q (.int (n:Nat)) H
theorem agU:dW X (.builtin "len") (UJ X):=by
 intro pins s σ H xs us Q I rv h
 obtain⟨a,n,rfl,hH,hn,q⟩:=h
 obtain⟨u,rfl,ru⟩:=alK rv
 cases ru
 obtain⟨⟨o,es,ep,t,ho,hex,hd,hf,he⟩,_,_⟩:=I.hok a _ hH
 subst he
 exact call_len_set ho hex hd hf hn ⟨.int _,H,I.tok _,⟨_,rfl⟩,q⟩
def sS(a:aj):af:=λe c=>(a e c).bind λxs c=>match xs with
 |[x]=>match dG c x with
  |some l=>match oJ l with
   |some ks=>if(dZ ks).length<64 then .ok (.int (dZ ks).length) c else .bad
   |none=>.bad
  |none=>.bad
 |_=>.bad
theorem Jr{K:PySem.W.Frag}{ρ:List Addr}{H:Hp}:∀{l:List D}{vs:List V}{ks:List (List Int)},aJ K ρ H l vs->oJ l=some ks->∃ys:List Addr,vs=ys.map V.ref/\Paired (fun(y:Addr) (k:List Int)=>eK k/\H y=some (.tup (k.map V.int))) ys ks
 |[],vs,ks,r,h=>by
  cases h
  have:vs=[]:=by simpa[aJ]using r
  exact⟨[],this,.nil⟩
 |d::l,vs,ks,r,h=>by
  unfold oJ at h
  split at h
  ·rename_i k rk h1 h2
   cases h
   obtain⟨v,vr,rfl,rd,rr⟩:=r
   obtain⟨hu,i,j,rfl,rfl⟩:=Vs h1
   obtain⟨y,ws,rfl,hy,rw⟩:=rd
   obtain⟨v1,r1,rfl,e1,rw⟩:=rw
   obtain⟨v2,r2,rfl,e2,rw⟩:=rw
   cases rw
   cases e1
   cases e2
   obtain⟨ys,rfl,p⟩:=Jr rr h2
   exact⟨y::ys,rfl,.cons ⟨hu,hy⟩ p⟩
  ·cases h
theorem Xb{e:Expr}{da:aj}{p1 p2 q1 q2:Pos}(hu:X.A.units+64<cLine) (ha:fh X [e] da) (hm:X.mg "len"=none) (hm2:X.mg "set"=none) (hg:Gl X "len":=by rfl) (ju:Gl X "set":=by rfl) (hc:X.calm=true:=by rfl)
  (he:starEach [e] X.env=(false,eval e X.env)::starEach [] X.env:=by exact cJ rfl):bf X (.Call (.Name "len" p1) [.Call (.Name "set" p2) [e] [] q2] [] q1) (sS da):=by
 have vo:PE X (.Call (.Name "set" p2) [e] [] q2) _:=nc (agS hu hc) ju hm2 (by decide +kernel) ha (by decide) (by decide) he (by exact fE rfl)
 refine(xR agU hg hm (by decide +kernel) (jl vo jP (cJ rfl)) (by decide) (by decide) (by exact cJ rfl) (by exact fE rfl)).imp λσ H Q h=>?_
 obtain⟨ρ,e,c,W,V,p⟩:=h
 refine⟨ρ,e,c,W,V,post.bind p λxs c1 aK H1 vs ex W1 X1 r1 p1=>?_⟩
 clear ex
 split at p1
 ·rename_i x
  obtain⟨v,r,rfl,hx,hr⟩:=r1
  cases hr
  split at p1
  ·rename_i l hl
   split at p1
   ·rename_i ks hn
    split at p1
    ·rename_i hb
     obtain⟨a,vs,rfl,ha',rl⟩:=kQ W1 hx hl
     obtain⟨ys,rfl,hp⟩:=Jr rl hn
     refine⟨a,ys,ks,rfl,bH.of ha',hp,hb,λq hq=>?_⟩
     refine⟨q,(dZ ks).length,rfl,fD,?_,?_⟩
     ·omega
     ·exact p1 aK _ _ (W1.fresh hq) (Ext.fresh W1 hq) rfl
    ·exact p1.elim
   ·exact p1.elim
  ·exact p1.elim
 ·exact p1.elim
end
@[simp] theorem ajo(a:aj) (e:Ev) (c:aa):sS a e c=(a e c).bind λxs c=>match xs with
 |[x]=>match dG c x with
  |some l=>match oJ l with
   |some ks=>if(dZ ks).length<64 then .ok (.int (dZ ks).length) c else .bad
   |none=>.bad
  |none=>.bad
 |_=>.bad:=rfl
section
variable {X:Cx}{es':List Expr}{kt:Nat}{pt:Pos}
theorem Wy{a:Expr}{ta:TA}{p pos:Pos}(hg:Gl X "enumerate") (hm:X.mg "enumerate"=none) (ha:PA X [a] ta) (hs:starEach [a] X.env=[(false,eval a X.env)]:=by rfl) :
  PI X (.Tuple es' kt pt) (.Call (.Name "enumerate" p) [a] [] pos) (adg (bH X.K) ta):=by
 intro pins s σ H R I h
 refine Call_ (kT I hg hm boot_enumerate (amu (bh (ha pos pins s σ H _ I h) λus s1 ⟨vs,H1,I1,r1,q1⟩=>?_) hs rfl))
 obtain⟨a1,e,⟨xs,q1⟩,q⟩:=q1
 subst e
 cases r1 with
 |cons r rr =>
  cases rr
  cases r
  obtain⟨us,ru,pu,lu⟩:=I1.list q1
  refine call_enumerate_list pu.isList λh' hz t1 _ kp=>wpAny_pyIter_enum hz ?_
  generalize hn:s1.heap.objs.size=n at hz t1
  refine⟨n+1,_,_,_,H1,rfl,I1.kept (t':=s1.toks) kp,QM IV a1 (n+1) n (alO (al2 _)),⟨⟨_,hz⟩,t1⟩,λb hb=>?_,q⟩
  refine Au I1 hn b ?_
  simp only[akY,ak9,or_false]at hb
  rcases hb with rfl|rfl<;>simp
end
def vR(a:aj):Ev->aa->R Src:=λe c=>(a e c).bind λxs c=>match xs with
 |[.lst l]=>.ok ⟨l.mapIdx λi x=>.tup [.int i,x],λ_=>True⟩ c
 |_=>.bad
section
variable {X:Cx}{K:PySem.W.Frag}{ρ:List Addr}{H:Hp}
theorem acM{l:List D}{a:Addr}{st:aa->Prop}(h:∀ρ' H' c',Wd K ρ' H' c'->Ext ρ H ρ' H'->st c'->∃xs,bH K H' a xs/\aJ K ρ' H' l xs):JS K ρ H ⟨l.mapIdx λi x=>.tup [.int i,x],st⟩ (Hj (bH K) a):=by
 intro ρ' H' c' W E s i
 obtain⟨xs,q,r⟩:=h ρ' H' c' W E s
 refine⟨λd hd=>?_,λe=>⟨xs,q,?_⟩⟩
 ·have hd:(l.mapIdx λi x=>D.tup [.int i,x])[i]? = some d:=hd
  rw[List.getElem?_mapIdx]at hd
  cases e1:l[i]? with
  |none=>rw[e1]at hd;cases hd
  |some x =>
   rw[e1]at hd
   cases hd
   obtain⟨v,hv,rv⟩:=r.get e1
   refine⟨⟨xs,v,q,hv⟩,λz H2 hz=>?_⟩
   obtain⟨t,v',rfl,ht,rfl,hz⟩:=hz
   have z1:=hz xs q
   rw[hv]at z1
   cases z1
   exact⟨W.fresh ht,Ext.fresh W ht,t,[.int i,v],rfl,fD,.int i,[v],rfl,rfl,v,[],rfl,Rel.mono W (Ext.fresh W ht) _ _ rv,rfl⟩
 ·have e:i=(l.mapIdx λi x=>D.tup [.int i,x]).length:=e
  rw[List.length_mapIdx]at e
  rw[r.length];exact e
theorem ac7{es:List Expr}{k:Nat}{pt:Pos}{a:Expr}{da:aj}{p pos:Pos}(ha:fh X [a] da) (hm:X.mg "enumerate"=none) (hg:Gl X "enumerate":=by rfl) (hs:starEach [a] X.env=[(false,eval a X.env)]:=by exact qv rfl) :
  PId X (.Tuple es k pt) (.Call (.Name "enumerate" p) [a] [] pos) (vR da):=(Wy hg hm ha hs).imp λσ H Q h=>by
 obtain⟨ρ,e,c,W,V,p⟩:=h
 refine⟨ρ,e,c,W,V,post.bind p λx c1 aK H1 v _ W1 X1 r1 p1=>?_⟩
 split at p1
 ·obtain⟨y,ys,rfl,ry,rs⟩:=r1
  cases rs
  obtain⟨a1,xs,rfl,s1,t1⟩:=ry
  exact⟨a1,rfl,⟨xs,bH.of s1.1⟩,p1.here W1 (acM λρ' H' c' W' E _=>⟨xs,bH.of (B8 E s1).1,aJ.mono W1 E _ _ t1⟩)⟩
 ·exact p1.elim
end
end L2
namespace Ev
open PySem L2 PyProof.Rows
def top(i:Nat):Stmt:=PySem.Challenge.pw_evenwebs_k55_webs_of_nets.main.body.getD i (.Pass ⟨0,0,0,0⟩)
abbrev rC:Stmt:=top 4
abbrev rB:Stmt:=top 5
abbrev rJ:Stmt:=top 17
abbrev qB:Stmt:=top 7
abbrev qz:Stmt:=top 8
abbrev rF:Stmt:=top 12
abbrev rG:Stmt:=top 13
abbrev rD:Stmt:=top 14
abbrev qA:Stmt:=top 15
abbrev qF:Stmt:=top 16
abbrev rH:Stmt:=top 18
abbrev rE:Stmt:=top 19
abbrev qC:Stmt:=top 20
abbrev qE:Stmt:=top 21
abbrev oH:Stmt:=top 22
abbrev qD:Stmt:=top 23
abbrev rq:Stmt:=top 25
abbrev qT:Stmt:=top 26
abbrev qI:Stmt:=top 27
abbrev qG:Stmt:=top 28
abbrev qO:Stmt:=top 29
abbrev qH:Stmt:=top 30
abbrev qS:Stmt:=top 31
abbrev rj:Stmt:=top 32
abbrev qP:Stmt:=top 33
abbrev qV:Stmt:=top 34
abbrev qJ:Stmt:=top 35
abbrev qX:Stmt:=top 36
abbrev qY:Stmt:=top 37
abbrev qR:Stmt:=top 38
abbrev qK:Stmt:=top 39
abbrev qQ:Stmt:=top 40
abbrev qU:Stmt:=top 41
abbrev rm:Stmt:=top 42
abbrev qN:Stmt:=top 43
abbrev qL:Stmt:=top 44
abbrev qZ:Stmt:=top 45
abbrev qW:Stmt:=top 46
abbrev qM:Stmt:=top 47
abbrev rA:Stmt:=top 48
def abO(st:Stmt):Expr:=match(bX st).getLast? with
 |some (.Return (some (.Call _ [_,e] _ _)) _)=>e
 |_=>.Name "" ⟨0,0,0,0⟩
def As:Expr:=abO oH
def p9:ah :=
 (aL (fW (aG bO (ao (ak 0) (ao (dC (.ty "int")) aq))) (z5 (aG bO (ao (ak 0) (ao (dC (.ty "bool")) aq))))))
def u6:List D->aa->R D:=bG 1 false p9
def nX:ah :=
 (aL (fW (aC 1 u6 (ao (ak 0) aq)) (pM kR kR (ak 1) (ak 0) (ak 2))))
def gY:List D->aa->R D:=bG 3 false nX
def qc:ah :=
 (aL (aG qe (ao (aR (jc (ao (ak 0) (ao (ak 1) aq))) [none,none] (eW 2 (cu (az 0) (cu (az 1) e9))) aH (au bS (ak 0) (ak 1))) aq)))
def yq:List D->aa->R D:=bG 2 false qc
def pF:af :=
 (aC 2 yq (ao (au aE (ak 2) (ak 0)) (ao (au aE (ak 2) (ak 1)) aq)))
def lams:List (Expr×List Str×(List D->aa->R D)):=[(As,["lines"],vf pF)]
def sY:ah :=
 (aL (aG b7 (ao (aR (aY (ao (ak 0) aq)) [none,some 1,some 2] (az 0) (iI (aW (au gG (ak 0) (ak 1))) (aW (pN 2 2 lams (ao (ak 1) (ao (ak 0) aq))))) (ak 0)) aq)))
def gX:List D->aa->R D:=bG 3 false sY
def sX:ah :=
 (aL (aG b7 (ao (aR (aY (ao (ak 0) aq)) [none,some 0,some 1] (az 0) aH (aC 3 gX (ao (ak 1) (ao (ak 0) (ao (ak 2) aq))))) aq)))
def se:List D->aa->R D:=bG 2 false sX
def tU:ah :=
 (aD (b8 (gw (d7 (aW (aG bO (ao (ak 0) (ao (dC (.ty "tuple")) aq))))) (aW (au gG (aG bg (ao (ak 0) aq)) (ak 1)))) (aL (dC (.bl false))) cg) (aL (fW (aG eX (ao (aR (dS (ak 0)) [none,some 1] (az 0) aH (aC 3 gY (ao (ak 0) (ao (dC (.int 0)) (ao (au br (ak 1) (dC (.int 1))) aq))))) aq)) (au bS (sU (ao (ak 0) aq)) (ak 1)))))
def fU:List D->aa->R D:=bG 2 false tU
def tV:ah :=
 (aL (aG b7 (ao (aR (dS (ak 0)) [none,some 1] (az 0) aH (au aE (ak 0) (ak 1))) aq)))
def jW:List D->aa->R D:=bG 2 false tV
def tT:ah :=
 (aD (b8 (gw (d7 (aW (aG bO (ao (ak 0) (ao (dC (.ty "tuple")) aq))))) (d7 (aW (pM kR kR (dC (.int 1)) (aG bg (ao (ak 0) aq)) (dC (.int 7)))))) (aL (dC (.bl false))) cg) (aD (aF 1 (aG bg (ao (ak 0) aq))) (aD (b8 (d7 (aW (aG eX (ao (aR (dS (ak 0)) [none,some 1] (az 0) aH (aC 2 fU (ao (ak 0) (ao (ak 1) aq)))) aq)))) (aL (dC (.bl false))) cg) (aL (aG eX (ao (aR (aY (ao (ak 1) aq)) [none,some 1,some 0] (az 0) aH (aC 2 fU (ao (aC 2 jW (ao (ak 2) (ao (ak 0) aq))) (ao (ak 1) aq)))) aq))))))
def pq:List D->aa->R D:=bG 2 false tT
def pR:ah :=
 (aL (au aE (au aE (ak 0) (au eG (ak 1) (aG bg (ao (ak 0) aq)))) (au bN (ak 1) (aG bg (ao (ak 0) aq)))))
def gu:List D->aa->R D:=bG 2 false pR
def pV:ah :=
 (aD (aF 2 (au aU (aG bg (ao (ak 0) aq)) (aG bg (ao (ak 0) aq)))) (aL (au bS (sS (ao (aR (aY (ao (ak 2) aq)) [none,some 0,some 1] (az 0) aH (fC (ao (aC 2 gu (ao (ak 1) (ao (ak 0) aq))) (ao (aC 2 gu (ao (ak 2) (ao (ak 0) aq))) aq)))) aq)) (ak 2))))
def sf:List D->aa->R D:=bG 3 false pV
def qb:ah :=
 (aD (bY (vR (ao (ak 0) aq)) (eW 2 (cu (az 1) (cu (az 2) e9))) (b8 (d7 (aW (aG eX (ao (aR (cD (jx (ak 0) jA (jz (ak 1)))) [none,some 2] (az 0) aH (aC 2 sf (ao (ak 1) (ao (ak 0) aq)))) aq)))) (aL (dC (.bl false))) cg)) (aL (dC (.bl true))))
def u7:List D->aa->R D:=bG 3 false qb
def qa:ah :=
 (aD (b8 (gw (d7 (aW (aC 3 gY (ao (ak 0) (ao (dC (.int 2)) (ao (dC (.int 7)) aq)))))) (gw (d7 (aW (aG bO (ao (ak 1) (ao (dC (.ty "list")) aq))))) (aW (au sH (aG bg (ao (ak 1) aq)) (au br (ak 0) (dC (.int 1))))))) (aL (dC (.bl false))) cg) (aL (fW (aG eX (ao (aR (cD (ak 1)) [none,some 0] (az 0) aH (fW (aC 1 pq (ao (ak 0) aq)) (au bS (aG bg (ao (ak 0) aq)) (ak 1)))) aq)) (aC 1 u7 (ao (ak 1) aq)))))
def B7:List D->aa->R D:=bG 2 false qa
def sZ:ah :=
 (b8 (d7 (aW (aC 2 B7 (ao (ak 0) (ao (ak 1) aq))))) Bc cg)
def jU:List D->aa->R D:=bG 2 false sZ
def pU:ah :=
 (aL (au dU (bU (ao (au eG (ak 2) (ak 0)) (ao (au bN (ak 2) (ak 0)) aq))) (aR (cD (ak 1)) [none,some 2] (az 0) aH (aC 2 gu (ao (ak 0) (ao (ak 1) aq))))))
def uW:List D->aa->R D:=bG 3 false pU
def pS:ah :=
 (aD (cY (aC 2 jU (ao (ak 0) (ao (ak 1) aq)))) (aD (aF 2 (aR (aY (ao (au aU (ak 0) (ak 0)) aq)) [none,some 0,some 1] (az 0) aH (aC 3 uW (ao (ak 1) (ao (ak 2) (ao (ak 0) aq)))))) (aL (z6 0 se (au aU (ak 0) (ak 0)) As ["lines"] [2]))))
def uU:List D->aa->R D:=bG 3 false pS
def pT:ah :=
 (aD (cY (aC 2 jU (ao (ak 0) (ao (ak 1) aq)))) (aD (aF 2 (au aZ (aG bg (ao (ak 1) aq)) (dC (.int 2)))) (aD (aF 3 (vQ (aW (au bS (ak 2) (au aZ (ak 0) (dC (.int 1))))) (dC .aO) (au aU (ak 2) (au br (ak 2) (dC (.int 1)))))) (aL (fC (ao (au aU (ak 0) (ak 0)) (ao (au aU (ak 2) (au br (ak 0) (dC (.int 1)))) (ao (au aZ (au br (ak 0) (dC (.int 2))) (au aU (au br (ak 2) (dC (.int 1))) (au br (ak 2) (dC (.int 2))))) (ao (ak 3) aq)))))))))
def uV:List D->aa->R D:=bG 4 false pT
def p8:ah :=
 (aD (b8 (aW (au KD (ak 1) (aG bg (ao (ak 0) aq)))) (aL (au aE (ak 0) (ak 1))) cg) (aL (dC (.int 0))))
def pe:List D->aa->R D:=bG 2 false p8
def pY:ah :=
 (aD (b8 (aW (au L5 (ak 0) (au rT (dC (.int 10)) (dC (.int 18))))) (aL (cW (ao (au br (ak 0) (au rT (dC (.int 10)) (dC (.int 18)))) aq))) cg) (aD (aF 1 (dC (.int 0))) (aD (bY (aY (ao (dC (.int 64)) aq)) (az 2) (aD (aF 3 (au bN (au aU (au aZ (au aZ (au bN (ak 0) (dC (.int 2147483629))) (au aU (dC (.int 7919)) (ak 2))) (dC (.int 1))) (dC (.int 48271))) (dC (.int 2147483647)))) (aD (aF 3 (au bN (au aZ (au aZ (au aU (ak 3) (ak 3)) (au aU (dC (.int 69621)) (ak 2))) (dC (.int 7))) (dC (.int 2147483587)))) (aF 1 (au aZ (au aU (ak 1) (dC (.int 2147483587))) (ak 3)))))) (aL (cW (ao (ak 1) aq))))))
def oX:List D->aa->R D:=bG 4 true pY
def pW:ah :=
 (aD (aF 2 (au bN (au aE (ak 0) (dC (.int 0))) (ak 1))) (aD (iy (au eG (au aE (ak 0) (dC (.int 0))) (ak 1)) (k8 (ak 0) (dC (.int 0)))) (aL (ak 2))))
def cz:List D->aa->R D:=bG 3 false pW
def tw:ah :=
 (aL (fW (aG bO (ao (ak 0) (ao (dC (.ty "int")) aq))) (z5 (aG bO (ao (ak 0) (ao (dC (.ty "bool")) aq))))))
def uX:List D->aa->R D:=bG 1 false tw
def lC(m:List D->aa->R D):ah :=
 (aD (b8 (aW (au vn (ak 1) (dC .aO))) (aL (au vn (ak 0) (dC .aO))) cg) (aD (b8 (aW (aG bO (ao (ak 1) (ao (dC (.ty "bool")) aq)))) (aL (fW (aG bO (ao (ak 0) (ao (dC (.ty "bool")) aq))) (au bS (ak 0) (ak 1)))) cg) (aD (b8 (aW (aG bO (ao (ak 1) (ao (dC (.ty "int")) aq)))) (aL (fW (aC 1 uX (ao (ak 0) aq)) (au bS (ak 0) (ak 1)))) cg) (aD (b8 (aW (aG bO (ao (ak 1) (ao (dC (.ty "str")) aq)))) (aL (fW (aG bO (ao (ak 0) (ao (dC (.ty "str")) aq))) (au bS (ak 0) (ak 1)))) cg) (aD (b8 (gw (aW (au gG (aG bO (ao (ak 1) (ao (dC (.ty "tuple")) aq))) (aG bO (ao (ak 0) (ao (dC (.ty "tuple")) aq))))) (aW (au gG (aG bO (ao (ak 1) (ao (dC (.ty "list")) aq))) (aG bO (ao (ak 0) (ao (dC (.ty "list")) aq)))))) (aL (dC (.bl false))) cg) (aL (fW (au bS (aG bg (ao (ak 0) aq)) (aG bg (ao (ak 1) aq))) (aG eX (ao (aR (jc (ao (ak 0) (ao (ak 1) aq))) [none,none] (eW 2 (cu (az 0) (cu (az 1) e9))) aH (aC 2 m (ao (ak 0) (ao (ak 1) aq)))) aq)))))))))
def fG:Nat->List D->aa->R D
 |0=>λ_ _=>.bad
 |k+1=>bG 2 false (lC (fG k))
def tE:ah :=
 (aD (aF 2 (aR (aY (ao (ak 0) aq)) [none] (az 0) aH (cW aq))) (aD (bY (cD (ak 1)) (eW 2 (cu (az 3) (cu (az 4) e9))) (aD (cY (dw (au aE (ak 2) (ak 3)) (ak 4))) (cY (dw (au aE (ak 2) (ak 4)) (ak 3))))) (aL (aG b7 (ao (aR (cD (ak 2)) [none] (az 0) aH (aG b7 (ao (jd (ao (ak 0) aq)) aq))) aq)))))
def oV:List D->aa->R D:=bG 5 false tE
def tM:ah :=
 (aL (au aE (aR (cD (bU (ff [2,3,5,7,11,13,17,19,23,29,31,37,41,43,47]))) [none,some 0] (az 0) (aW (au bS (au bN (ak 1) (ak 0)) (dC (.int 0)))) (ak 0)) (dC (.int 0))))
def gf:List D->aa->R D:=bG 1 false tM
def tQ:ah :=
 (aD (aF 1 (dC (.int 0))) (aD (gk (aW (au sH (ak 0) (dC (.int 1)))) (aD (aF 0 (au eG (ak 0) (aC 1 gf (ao (ak 0) aq)))) (aF 1 (au aZ (ak 1) (dC (.int 1))))) 10) (aL (ak 1))))
def jV:List D->aa->R D:=bG 2 false tQ
def tK:ah :=
 (aD (aF 3 (cW aq)) (aD (bY (aY (ao (ak 2) aq)) (az 4) (aD (cY (dw (ak 3) (au bN (ak 0) (ak 1)))) (aF 0 (au eG (ak 0) (ak 1))))) (aL (ak 3))))
def fH:List D->aa->R D:=bG 5 false tK
def tO:ah :=
 (aD (aF 2 (dC (.int 0))) (aD (bY (aY (ao (aG bg (ao (ak 0) aq)) aq)) (az 3) (aF 2 (au aZ (au aU (ak 2) (ak 1)) (au aE (ak 0) (au br (au br (aG bg (ao (ak 0) aq)) (dC (.int 1))) (ak 3)))))) (aL (ak 2))))
def oY:List D->aa->R D:=bG 4 false tO
def lB:ah :=
 (aD (aF 3 (au jI (bU (ao (dC (.int 0)) aq)) (au br (au aZ (aG bg (ao (ak 0) aq)) (aG bg (ao (ak 1) aq))) (dC (.int 1))))) (aD (bY (aY (ao (aG bg (ao (ak 0) aq)) aq)) (az 4) (bY (aY (ao (aG bg (ao (ak 1) aq)) aq)) (az 5) (iy (au bN (au aZ (au aE (ak 3) (au aZ (ak 4) (ak 5))) (au aU (au aE (ak 0) (ak 4)) (au aE (ak 1) (ak 5)))) (ak 2)) (k8 (ak 3) (au aZ (ak 4) (ak 5)))))) (aL (ak 3))))
def kO:List D->aa->R D:=bG 6 false lB
def r9:List D->aa->R D:=bG 6 true lB
def nW:ah :=
 (aD (aF 2 (bU (ao (bU aq) aq))) (aD (bY (aY (ao (ak 0) aq)) (az 3) (aD (aF 4 (cW aq)) (aD (bY (cD (ak 2)) (az 5) (cY (lz (ak 4) (aR (aY (ao (ak 1) aq)) [none,some 5] (az 0) aH (au dU (ak 1) (bU (ao (ak 0) aq))))))) (aF 2 (ak 4))))) (aL (aR (cD (ak 2)) [none] (az 0) aH (au dU (ak 0) (bU (ao (dC (.int 1)) aq)))))))
def nt:List D->aa->R D:=bG 6 false nW
def tP:ah :=
 (aD (aF 1 (aC 1 gf (ao (ak 0) aq))) (aD (aF 2 (aC 1 jV (ao (ak 0) aq))) (aD (b8 (aW (au bS (ak 2) (dC (.int 1)))) (aL (bU (ao (dC (.int 0)) (ao (dC (.int 1)) aq)))) cg) (aD (aF 3 (cW aq)) (aD (bY (je (ao (dC (.int 1)) (ao (au aZ (au eG (ak 2) (dC (.int 2))) (dC (.int 1))) aq))) (az 4) (bY (cD (aC 2 nt (ao (ak 4) (ao (ak 1) aq)))) (az 5) (cY (lz (ak 3) (aR (cD (aC 2 nt (ao (au br (ak 2) (ak 4)) (ao (ak 1) aq)))) [none,some 5,some 1] (az 0) aH (aC 3 kO (ao (ak 1) (ao (ak 0) (ao (ak 2) aq))))))))) (aD (aF 6 (dC (.int 0))) (aD (gk (aW (au inD (au dU (aC 3 fH (ao (ak 6) (ao (ak 1) (ao (ak 2) aq)))) (bU (ao (dC (.int 1)) aq))) (ak 3))) (aF 6 (au aZ (ak 6) (dC (.int 1)))) 60) (aL (au dU (aC 3 fH (ao (ak 6) (ao (ak 1) (ao (ak 2) aq)))) (bU (ao (dC (.int 1)) aq)))))))))))
def sy:List D->aa->R D:=bG 7 false tP
def tL:ah :=
 (aD (aF 4 (aC 1 gf (ao (ak 0) aq))) (aD (aF 5 (au br (aG bg (ao (ak 1) aq)) (dC (.int 1)))) (aD (aF 6 (aC 3 r9 (ao (aC 3 fH (ao (ak 2) (ao (ak 4) (ao (ak 5) aq)))) (ao (aC 3 fH (ao (ak 3) (ao (ak 4) (ao (ak 5) aq)))) (ao (ak 4) aq))))) (aD (bY (sR (ao (au br (aG bg (ao (ak 6) aq)) (dC (.int 1))) (ao (au br (ak 5) (dC (.int 1))) (ao (au br (dC (.int 0)) (dC (.int 1))) aq)))) (az 7) (aD (aF 8 (au aE (ak 6) (ak 7))) (bY (aY (ao (au aZ (ak 5) (dC (.int 1))) aq)) (az 9) (aD (aF 10 (au aZ (au br (ak 7) (ak 5)) (ak 9))) (iy (au bN (au br (au aE (ak 6) (ak 10)) (au aU (ak 8) (au aE (ak 1) (ak 9)))) (ak 4)) (k8 (ak 6) (ak 10))))))) (aL (aC 2 oY (ao (jx (ak 6) jA (jz (ak 5))) (ao (ak 4) aq))))))))
def su:List D->aa->R D:=bG 11 false tL
def tF:ah :=
 (aD (aF 4 (aC 1 gf (ao (ak 0) aq))) (aD (aF 5 (aC 1 jV (ao (ak 0) aq))) (aD (aF 6 (bU (ao (aC 3 fH (ao (ak 1) (ao (ak 4) (ao (ak 5) aq)))) (ao (aC 3 fH (ao (ak 2) (ao (ak 4) (ao (ak 5) aq)))) aq)))) (aL (aC 2 oY (ao (aR (aY (ao (ak 5) aq)) [none,some 4,some 3,some 6] (az 0) aH (au bN (au aZ (au aE (au aE (ak 3) (dC (.int 0))) (ak 0)) (au aU (ak 2) (au aE (au aE (ak 3) (dC (.int 1))) (ak 0)))) (ak 1))) (ao (ak 4) aq)))))))
def nj:List D->aa->R D:=bG 7 false tF
def pX:ah :=
 (aD (aF 1 (aC 1 sy (ao (ak 0) aq))) (aL (aR (aY (ao (ak 0) aq)) [none,some 0,some 1] (az 0) aH (aR (aY (ao (ak 1) aq)) [none,some 1,some 2,some 0] (az 0) aH (aC 4 su (ao (ak 1) (ao (ak 2) (ao (ak 3) (ao (ak 0) aq)))))))))
def sj:List D->aa->R D:=bG 2 false pX
def tN:ah :=
 (aD (aF 2 (vP (ao (ak 1) aq))) (aL (aG b7 (ao (aR (aY (ao (ak 1) aq)) [none,some 2,some 0] (az 0) aH (jy (ak 1) (aC 2 cz (ao (ak 2) (ao (aG bg (ao (ak 1) aq)) aq))))) aq))))
def fJ:List D->aa->R D:=bG 3 false tN
def tR:ah :=
 (aD (b8 (iI (aW (au bS (ak 1) (dC (.int 4)))) (aW (au bS (aC 2 cz (ao (ak 0) (ao (dC (.int 2)) aq))) (dC (.int 0))))) (aF 2 (aR (aY (ao (ak 1) aq)) [none,some 1] (az 0) aH (aR (aY (ao (ak 1) aq)) [none,some 0] (az 0) aH (au mL (ak 1) (ak 0))))) (aD (aF 3 (au aZ (dC (.int 1)) (aC 2 cz (ao (ak 0) (ao (aG sd (ao (dC (.int 1)) (ao (au br (ak 1) (dC (.int 1))) aq))) aq))))) (aD (aF 2 (aR (aY (ao (ak 1) aq)) [none,some 1,some 3] (az 0) aH (aR (aY (ao (ak 1) aq)) [none,some 1,some 2,some 0] (az 0) aH (au bN (au aZ (au aU (ak 2) (ak 3)) (ak 0)) (ak 1))))) (b8 (aW (au gW (jd (ao (aR (cD (ak 2)) [none] (az 0) aH (au aE (ak 0) (dC (.int 0)))) aq)) (pL (ao (ak 1) aq)))) (aF 2 (aR (aY (ao (ak 1) aq)) [none,some 1] (az 0) aH (aR (aY (ao (ak 1) aq)) [none,some 1,some 0] (az 0) aH (au bN (au aZ (ak 2) (ak 0)) (ak 1))))) cg)))) (aD (aF 4 (aC 2 fJ (ao (ak 0) (ao (ak 1) aq)))) (aD (aF 5 (aC 2 fJ (ao (ak 0) (ao (ak 1) aq)))) (aD (aF 6 (aC 2 fJ (ao (ak 0) (ao (ak 1) aq)))) (aL (aG b7 (ao (aR (dS (ak 4)) [none,some 5,some 6,some 2] (az 0) aH (aG b7 (ao (aR (dS (ak 2)) [none,some 1,some 3,some 0] (az 0) aH (au aE (ak 1) (au aE (au aE (ak 2) (ak 3)) (ak 0)))) aq))) aq)))))))
def oZ:List D->aa->R D:=bG 7 false tR
def tH:ah :=
 (aD (aF 1 (cW (ao (bU (ff [0,1,2,3,4,5])) (ao (bU (ff [1,0,3,2,5,4])) (ao (bU (ff [2,4,0,5,1,3])) (ao (bU (ff [3,5,1,4,0,2])) (ao (bU (ff [4,2,5,0,3,1])) aq))))))) (aD (cY (dw (ak 1) (bU (ff [5,3,4,1,2,0])))) (aD (aF 2 (aC 2 fJ (ao (ak 0) (ao (dC (.int 6)) aq)))) (aL (aG b7 (ao (aR (dS (ak 2)) [none,some 1] (az 0) aH (aG b7 (ao (au aE (ak 1) (ak 0)) aq))) aq))))))
def kP:List D->aa->R D:=bG 3 false tH
def tG:ah :=
 (aD (b8 (iI (aW (au bS (ak 1) (dC (.int 6)))) (aW (au bS (aC 2 cz (ao (ak 0) (ao (dC (.int 2)) aq))) (dC (.int 0))))) (aL (aC 1 kP (ao (ak 0) aq))) cg) (aL (aC 2 oZ (ao (ak 0) (ao (ak 1) aq)))))
def nk:List D->aa->R D:=bG 2 false tG
def p7:ah :=
 (aD (aF 1 (aC 1 sj (ao (ak 0) aq))) (aD (aF 2 (cW aq)) (aD (bY (je (ao (dC (.int 1)) (ao (ak 0) aq))) (az 3) (aD (aF 4 (cW aq)) (aD (bY (aY (ao (ak 0) aq)) (az 5) (cY (dw (ak 4) (aG b7 (ao (aR (aY (ao (ak 0) aq)) [none,some 0,some 5,some 1,some 3] (az 0) aH (aC 4 nj (ao (ak 1) (ao (au aE (au aE (ak 3) (ak 4)) (ak 2)) (ao (ak 0) (ao (dC (.int 1)) aq)))))) aq))))) (cY (dw (ak 2) (aG b7 (ao (ak 4) aq))))))) (aL (ak 2)))))
def uZ:List D->aa->R D:=bG 6 true p7
def pZ:ah :=
 (aD (aF 2 (cW aq)) (aD (bY (aY (ao (au aU (ak 0) (ak 0)) aq)) (az 3) (aD (aF 4 (au eG (ak 3) (ak 0))) (aD (aF 5 (au bN (ak 3) (ak 0))) (cY (dw (ak 2) (au dU (bU (ao (ak 4) (ao (ak 5) aq))) (aR (cD (ak 1)) [none,some 5,some 4] (az 0) aH (au aE (au aE (ak 0) (ak 2)) (ak 1))))))))) (aD (aF 6 (cW aq)) (aD (bY (aY (ao (au aU (ak 0) (ak 0)) aq)) (az 7) (bY (je (ao (au aZ (ak 7) (dC (.int 1))) (ao (au aU (ak 0) (ak 0)) aq))) (az 8) (b8 (aW (aG qe (ao (aR (jc (ao (au aE (ak 2) (ak 7)) (ao (au aE (ak 2) (ak 8)) aq))) [none,none] (eW 2 (cu (az 0) (cu (az 1) e9))) aH (au bS (ak 0) (ak 1))) aq))) (cY (dw (ak 6) (fC (ao (ak 7) (ao (ak 8) aq))))) cg))) (aL (aC 2 oV (ao (au aU (ak 0) (ak 0)) (ao (ak 6) aq))))))))
def uY:List D->aa->R D:=bG 9 false pZ
def nU:ah :=
 (aD (aF 1 (au aZ (dC (.int 2)) (aC 2 cz (ao (ak 0) (ao (dC (.int 6)) aq))))) (aD (b8 (aW (au bS (ak 1) (dC (.int 6)))) (aL (fC (ao (ak 1) (ao (jx (bU (ao (aC 2 nk (ao (ak 0) (ao (ak 1) aq))) aq)) jA (jz (aC 2 cz (ao (ak 0) (ao (dC (.int 2)) aq))))) aq)))) cg) (aD (aF 2 (aC 1 uZ (ao (ak 1) aq))) (aD (aF 3 (cW aq)) (aD (bY (aY (ao (aC 2 cz (ao (ak 0) (ao (ak 1) aq))) aq)) (az 4) (cY (dw (ak 3) (jy (ak 2) (aC 2 cz (ao (ak 0) (ao (aG bg (ao (ak 2) aq)) aq))))))) (aL (fC (ao (ak 1) (ao (ak 3) aq)))))))))
def oW:List D->aa->R D:=lg 5 nU
def tS:ah :=
 (aD (bY (aY (ao (dC (.int 3)) aq)) (az 1) (aD (aF 2 (aC 1 oX (ao (aC 2 pe (ao (ak 0) (ao (ak 1) aq))) aq))) (aD (iy (aC 1 oW (ao (ak 2) aq)) (eW 2 (cu (az 3) (cu (az 4) e9)))) (aD (aF 5 (aG yu (ao (ak 4) aq))) (aD (b8 (gw (d7 (aW (aC 2 (fG 3) (ao (aC 2 uU (ao (ak 3) (ao (ak 5) aq))) (ao (aC 2 uY (ao (ak 3) (ao (ak 4) aq))) aq))))) (aW (au gW (ak 5) (ak 4)))) (aL (dC (.bl false))) cg) (aD (aF 6 (au aZ (dC (.int 2)) (aG bg (ao (ak 4) aq)))) (aD (aF 7 (au aU (ak 6) (au br (ak 6) (dC (.int 1))))) (aD (b8 (aW (au bS (ak 6) (au aZ (ak 3) (dC (.int 1))))) (aF 7 (dC .aO)) cg) (b8 (d7 (aW (aC 2 (fG 3) (ao (aC 2 uV (ao (ak 3) (ao (ak 5) aq))) (ao (fC (ao (au aU (ak 3) (ak 3)) (ao (au aU (ak 6) (au br (ak 3) (dC (.int 1)))) (ao (au aZ (au br (ak 3) (dC (.int 2))) (au aU (au br (ak 6) (dC (.int 1))) (au br (ak 6) (dC (.int 2))))) (ao (ak 7) aq))))) aq))))) (aL (dC (.bl false))) cg))))))))) (aL (dC (.bl true))))
def u5:List D->aa->R D:=bG 8 false tS
set_option genInjectivity false in
set_option genSizeOfSpec false in
structure Tx (K:PySem.W.Frag) (mg:Str->Option Value) where
 mq:Addr
 EX:FuncData
 FL:Def K mg "is_whole" rC ["thing"] mq EX
 aaY:PySem.W.nsIn K mainGlobals "is_whole"=some (some (.ref mq))
 mj:Addr
 EW:FuncData
 zY:Def K mg "is_whole_within" rB ["thing","least","most"] mj EW
 aaX:PySem.W.nsIn K mainGlobals "is_whole_within"=some (some (.ref mj))
 mF:Addr
 E4:FuncData
 FT:Def K mg "agree_somewhere" rJ ["one","other"] mF E4
 aa4:PySem.W.nsIn K mainGlobals "agree_somewhere"=some (some (.ref mF))
 lF:Addr
 Ep:FuncData
 Fg:Def K mg "row_where" qB ["many","one","are_tied"] lF Ep
 aau:PySem.W.nsIn K mainGlobals "row_where"=some (some (.ref lF))
 lD:Addr
 Em:FuncData
 Ff:Def K mg "web_where" qz ["many","are_tied"] lD Em
 aas:PySem.W.nsIn K mainGlobals "web_where"=some (some (.ref lD))
 mC:Addr
 E1:FuncData
 zZ:Def K mg "holds_each_once" rF ["thing","many"] mC E1
 aa1:PySem.W.nsIn K mainGlobals "holds_each_once"=some (some (.ref mC))
 mD:Addr
 E2:FuncData
 FP:Def K mg "column_of" rG ["rows","y"] mD E2
 aa2:PySem.W.nsIn K mainGlobals "column_of"=some (some (.ref mD))
 mw:Addr
 EY:FuncData
 FN:Def K mg "is_square" rD ["thing"] mw EY
 aaZ:PySem.W.nsIn K mainGlobals "is_square"=some (some (.ref mw))
 lE:Addr
 Eo:FuncData
 vM:Def K mg "sign_in" qA ["square","cell"] lE Eo
 aat:PySem.W.nsIn K mainGlobals "sign_in"=some (some (.ref lE))
 lK:Addr
 Ew:FuncData
 Fp:Def K mg "lie_across" qF ["one","other"] lK Ew
 aay:PySem.W.nsIn K mainGlobals "lie_across"=some (some (.ref lK))
 mE:Addr
 E3:FuncData
 FQ:Def K mg "are_each_two_across" rH ["squares"] mE E3
 aa3:PySem.W.nsIn K mainGlobals "are_each_two_across"=some (some (.ref mE))
 mz:Addr
 EZ:FuncData
 FO:Def K mg "is_net" rE ["n","thing"] mz EZ
 aa0:PySem.W.nsIn K mainGlobals "is_net"=some (some (.ref mz))
 lG:Addr
 Er:FuncData
 zU:Def K mg "require_net" qC ["n","thing"] lG Er
 aav:PySem.W.nsIn K mainGlobals "require_net"=some (some (.ref lG))
 lJ:Addr
 Eu:FuncData
 Fo:Def K mg "lines_through" qE ["n","squares","cell"] lJ Eu
 aax:PySem.W.nsIn K mainGlobals "lines_through"=some (some (.ref lJ))
 lH:Addr
 Es:FuncData
 Fi:Def K mg "net_web" oH ["n","squares"] lH Es
 Kv:PySem.W.nsIn K mainGlobals "net_web"=some (some (.ref lH))
 lI:Addr
 Et:FuncData
 Fj:Def K mg "net_numbers" qD ["n","squares"] lI Et
 aaw:PySem.W.nsIn K mainGlobals "net_numbers"=some (some (.ref lI))
 mh:Addr
 EU:FuncData
 FJ:Def K mg "_law_cell_at" rq ["script","k"] mh EU
 aaV:PySem.W.nsIn K mainGlobals "_law_cell_at"=some (some (.ref mh))
 lX:Addr
 EJ:FuncData
 FE:Def K mg "_law_pot" qT ["cell"] lX EJ
 aaM:PySem.W.nsIn K mainGlobals "_law_pot"=some (some (.ref lX))
 lO:Addr
 EA:FuncData
 j4:Def K mg "_law_take" qI ["pot","far"] lO EA
 aaB:PySem.W.nsIn K mainGlobals "_law_take"=some (some (.ref lO))
 lM:Addr
 Ey:FuncData
 Ft:Def K mg "_law_whole" qG ["found"] lM Ey
 aaz:PySem.W.nsIn K mainGlobals "_law_whole"=some (some (.ref lM))
 kc:Addr
 yY:FuncData
 vO:Def K mg "_law_same" qO ["found","due"] kc yY
 aaH:PySem.W.nsIn K mainGlobals "_law_same"=some (some (.ref kc))
 lN:Addr
 Ez:FuncData
 Fv:Def K mg "_law_web_by" qH ["many","pairs"] lN Ez
 aaA:PySem.W.nsIn K mainGlobals "_law_web_by"=some (some (.ref lN))
 lW:Addr
 EI:FuncData
 sP:Def K mg "_law_prime" qS ["q"] lW EI
 aaL:PySem.W.nsIn K mainGlobals "_law_prime"=some (some (.ref lW))
 l8:Addr
 ES:FuncData
 zX:Def K mg "_law_degree" rj ["q"] l8 ES
 aaT:PySem.W.nsIn K mainGlobals "_law_degree"=some (some (.ref l8))
 lT:Addr
 EF:FuncData
 nO:Def K mg "_law_row" qP ["number","p","many"] lT EF
 aaI:PySem.W.nsIn K mainGlobals "_law_row"=some (some (.ref lT))
 lZ:Addr
 EL:FuncData
 zV:Def K mg "_law_number" qV ["row","p"] lZ EL
 aaO:PySem.W.nsIn K mainGlobals "_law_number"=some (some (.ref lZ))
 j9:Addr
 yX:FuncData
 vN:Def K mg "_law_sums_product" qJ ["one","other","p"] j9 yX
 aaC:PySem.W.nsIn K mainGlobals "_law_sums_product"=some (some (.ref j9))
 l5:Addr
 EN:FuncData
 zW:Def K mg "_law_heads" qX ["many","p"] l5 EN
 aaQ:PySem.W.nsIn K mainGlobals "_law_heads"=some (some (.ref l5))
 l6:Addr
 EO:FuncData
 FG:Def K mg "_law_form" qY ["q"] l6 EO
 aaR:PySem.W.nsIn K mainGlobals "_law_form"=some (some (.ref l6))
 lV:Addr
 EH:FuncData
 FD:Def K mg "_law_product" qR ["q","form","one","other"] lV EH
 aaK:PySem.W.nsIn K mainGlobals "_law_product"=some (some (.ref lV))
 lP:Addr
 EB:FuncData
 Fw:Def K mg "_law_sum" qK ["q","one","other","sign"] lP EB
 aaD:PySem.W.nsIn K mainGlobals "_law_sum"=some (some (.ref lP))
 lU:Addr
 EG:FuncData
 FA:Def K mg "_law_products_of" qQ ["q"] lU EG
 aaJ:PySem.W.nsIn K mainGlobals "_law_products_of"=some (some (.ref lU))
 lY:Addr
 EK:FuncData
 sQ:Def K mg "_law_order" qU ["pot","many"] lY EK
 aaN:PySem.W.nsIn K mainGlobals "_law_order"=some (some (.ref lY))
 l9:Addr
 ET:FuncData
 FI:Def K mg "_law_cycled" rm ["pot","n"] l9 ET
 aaU:PySem.W.nsIn K mainGlobals "_law_cycled"=some (some (.ref l9))
 lS:Addr
 EE:FuncData
 Fz:Def K mg "_law_six" qN ["pot"] lS EE
 aaG:PySem.W.nsIn K mainGlobals "_law_six"=some (some (.ref lS))
 lQ:Addr
 EC:FuncData
 Fx:Def K mg "_law_square" qL ["pot","n"] lQ EC
 aaE:PySem.W.nsIn K mainGlobals "_law_square"=some (some (.ref lQ))
 l7:Addr
 ER:FuncData
 FH:Def K mg "_law_field_squares" qZ ["q"] l7 ER
 aaS:PySem.W.nsIn K mainGlobals "_law_field_squares"=some (some (.ref l7))
 l0:Addr
 EM:FuncData
 FF:Def K mg "_law_net" qW ["n","squares"] l0 EM
 aaP:PySem.W.nsIn K mainGlobals "_law_net"=some (some (.ref l0))
 lR:Addr
 ED:FuncData
 Fy:Def K mg "_law_some_net" qM ["pot"] lR ED
 aaF:PySem.W.nsIn K mainGlobals "_law_some_net"=some (some (.ref lR))
 kg:Addr
 EV:FuncData
 MO:Def K mg "law" rA ["script"] kg EV
 aaW:PySem.W.nsIn K mainGlobals "law"=some (some (.ref kg))
 oR:mg "all"=none
 BS:mg "any"=none
 uP:mg "bool"=none
 Ku:mg "enumerate"=none
 yk:mg "int"=none
 gc:mg "isinstance"=none
 dc:mg "len"=none
 oQ:mg "list"=none
 Ks:mg "max"=none
 cB:mg "range"=none
 uO:mg "set"=none
 BR:mg "sorted"=none
 BQ:mg "str"=none
 gb:mg "tuple"=none
 yj:mg "zip"=none
 mS:Addr
 mR:Addr
 oB:PySem.W.tabIn K "net_web"=some (mS,mR)
 qq:PySem.W.codeHdIn K mS mR=true
 qt:uh K=true
 uf:Tok
 L6:mg "LEAST_IN_NET"=some (.int 2 uf)
 ue:Tok
 Eg:mg "MOST_SIGNS"=some (.int 7 ue)
section
variable {P:Program}{w:World}{K:PySem.W.Frag}{mg:Str->Option Value}{base:Heap}
theorem TV:b9 ["thing"] ["thing"] (aQ rC):=⟨rfl,rfl,rfl,by decide +kernel,rfl,by decide +kernel,by decide +kernel⟩
theorem Yq(T:Tx K mg):bI P w K mg base bB 1 T.mq T.EX ["thing"] (bM K 1 u6) :=
 cC (k:=0) T.FL.fn TV rfl rfl λcdv A outer s H E hr=>by
  show bV _ _ p9
  unfold p9
  exact(aV (bJ (jO (bT gx T.gc alH (ay (av 0) (ay (gr rfl T.yk boot_int) aB))) (jK (JE (bT gx T.gc alH (ay (av 0) (ay (gr rfl T.uP boot_bool) aB))))))))
theorem TU:b9 ["thing","least","most"] ["thing","least","most"] (aQ rB):=⟨rfl,rfl,rfl,by decide +kernel,rfl,by decide +kernel,by decide +kernel⟩
theorem JP(T:Tx K mg):bI P w K mg base bB 2 T.mj T.EW ["thing","least","most"] (bM K 3 gY) :=
 cC (k:=1) T.zY.fn TU rfl rfl λcdv A outer s H E hr=>by
  show bV _ _ nX
  unfold nX
  exact(aV (bJ (jO (bu T.FL (Yq T) (hr.mono (by decide)) (ay (av 0) aB)) (jK (Xh ya ya (av 1) (av 0) (av 2))))))
theorem T3:b9 ["one","other"] ["one","other"] (aQ rJ):=⟨rfl,rfl,rfl,by decide +kernel,rfl,by decide +kernel,by decide +kernel⟩
theorem Yw(T:Tx K mg):bI P w K mg base bB 1 T.mF T.E4 ["one","other"] (bM K 2 yq) :=
 cC (k:=0) T.FT.fn T3 rfl rfl λcdv A outer s H E hr=>by
  show bV _ _ qc
  unfold qc
  exact(aV (bJ (bT NU T.BS boot_any (ay (cP (N':=["x","y"]) (pick:=[none,none]) (bZ.of rfl rfl) (DR (ay (av 0) (ay (av 1) aB)) T.yj) (λ_ _ _ _ _ _=>(sJ (n:=2) (i8 (bw (i:=0) (hN:=(by decide +kernel:List.Nodup (["x","y"]:List Str)))) (i8 (bw (i:=1) (hN:=(by decide +kernel:List.Nodup (["x","y"]:List Str)))) sI)))) (λ_ _ _ _ _ _=>cS) (λ_ _ _ _ _ _=>(jM fT (av 0) (av 1)))) aB))))
theorem Yp(T:Tx K mg):tY P w K mg base 2 As ["lines"] 2 (bM K (2+1) (vf pF)):=by
 with_unfolding_all refine abP (k:=1) (ps:=["one","other"]) (ns:=["lines"]) (d:=pF) (wB.of rfl rfl rfl (by decide +kernel)) (λq cl pm cdv ct us hl=>match us,hl with|[_,_],_=>rfl) λq f cd cl A outer s H hr=>?_
 show bf _ _ pF
 unfold pF
 exact(bu T.FT (Yw T) (hr.mono (by decide)) (ay (cL cM (av 2) (av 0)) (ay (cL cM (av 2) (av 1)) aB)))
theorem Yo(T:Tx K mg) {A:Around}(hr:cR 2 A):∀t∈lams,∃k,tY P w K mg base k t.1 t.2.1 2 (bM K (2+t.2.1.length) t.2.2)/\cR k A:=by
 intro t ht
 unfold lams at ht
 simp only[akY,ak9,or_false]at ht
 rcases ht with rfl
 ·exact⟨_,Yp T,hr.mono (by decide)⟩
theorem TF:b9 ["many","one","are_tied"] ["many","one","are_tied"] (aQ qB):=⟨rfl,rfl,rfl,by decide +kernel,rfl,by decide +kernel,by decide +kernel⟩
theorem XT(T:Tx K mg):bI P w K mg base bB 3 T.lF T.Ep ["many","one","are_tied"] (bM K 3 gX) :=
 cC (k:=2) T.Fg.fn TF rfl rfl λcdv A outer s H E hr=>by
  show bV _ _ sY
  unfold sY
  exact(aV (bJ (iB jg T.gb alI (ay (cP (N':=["other","one","are_tied"]) (pick:=[none,some 1,some 2]) (bZ.of rfl rfl) (cZ (ay (av 0) aB) T.cB) (λ_ _ _ _ _ _=>(bw (i:=0) (hN:=(by decide +kernel:List.Nodup (["other","one","are_tied"]:List Str))))) (λ_ _ _ _ _ _=>(Jy (PW.pt (By (fu x9 (av 0) (av 1)) (BA (gU (Xj 2 (Yo T (hr.mono (by decide))) (ay (av 1) (ay (av 0) aB))))))))) (λ_ _ _ _ _ _=>(av 0))) aB))))
theorem Tw:b9 ["many","are_tied"] ["many","are_tied"] (aQ qz):=⟨rfl,rfl,rfl,by decide +kernel,rfl,by decide +kernel,by decide +kernel⟩
theorem XS(T:Tx K mg):bI P w K mg base bB 4 T.lD T.Em ["many","are_tied"] (bM K 2 se) :=
 cC (k:=3) T.Ff.fn Tw rfl rfl λcdv A outer s H E hr=>by
  show bV _ _ sX
  unfold sX
  exact(aV (bJ (iB jg T.gb alI (ay (cP (N':=["one","many","are_tied"]) (pick:=[none,some 0,some 1]) (bZ.of rfl rfl) (cZ (ay (av 0) aB) T.cB) (λ_ _ _ _ _ _=>(bw (i:=0) (hN:=(by decide +kernel:List.Nodup (["one","many","are_tied"]:List Str))))) (λ_ _ _ _ _ _=>cS) (λ_ _ _ _ _ _=>(bu T.Fg (XT T) (hr.mono (by decide)) (ay (av 1) (ay (av 0) (ay (av 2) aB)))))) aB))))
theorem TY:b9 ["thing","many"] ["thing","many"] (aQ rF):=⟨rfl,rfl,rfl,by decide +kernel,rfl,by decide +kernel,by decide +kernel⟩
theorem JQ(T:Tx K mg):bI P w K mg base bB 3 T.mC T.E1 ["thing","many"] (bM K 2 fU) :=
 cC (k:=2) T.zZ.fn TY rfl rfl λcdv A outer s H E hr=>by
  show bV _ _ tU
  unfold tU
  refine aS (eZ (PW.pt (rV (jL (gU (bT gx T.gc alH (ay (av 0) (ay (gr rfl T.gb alI) aB))))) (uG (fu x9 (bT dP T.dc alj (ay (av 0) aB)) (av 1))))) (aV (bJ jN)) fm) ?_
  exact(aV (bJ (jO (bT sW T.oR amX (ay (cP (N':=["sign","many"]) (pick:=[none,some 1]) (bZ.of rfl rfl) (sA (av 0)) (λ_ _ _ _ _ _=>(bw (i:=0) (hN:=(by decide +kernel:List.Nodup (["sign","many"]:List Str))))) (λ_ _ _ _ _ _=>cS) (λ_ _ _ _ _ _=>(bu T.zY (JP T) (hr.mono (by decide)) (ay (av 0) (ay aX (ay (aM d9 (av 1) aX) aB)))))) aB)) (jK (jM fT (Xd (ay (av 0) aB) T.dc T.uO) (av 1))))))
theorem TZ:b9 ["rows","y"] ["rows","y"] (aQ rG):=⟨rfl,rfl,rfl,by decide +kernel,rfl,by decide +kernel,by decide +kernel⟩
theorem Yt(T:Tx K mg):bI P w K mg base bB 1 T.mD T.E2 ["rows","y"] (bM K 2 jW) :=
 cC (k:=0) T.FP.fn TZ rfl rfl λcdv A outer s H E hr=>by
  show bV _ _ tV
  unfold tV
  exact(aV (bJ (iB jg T.gb alI (ay (cP (N':=["row","y"]) (pick:=[none,some 1]) (bZ.of rfl rfl) (sA (av 0)) (λ_ _ _ _ _ _=>(bw (i:=0) (hN:=(by decide +kernel:List.Nodup (["row","y"]:List Str))))) (λ_ _ _ _ _ _=>cS) (λ_ _ _ _ _ _=>(cL cM (av 0) (av 1)))) aB))))
theorem Jb:b9 ["thing","many"] ["thing"] (aQ rD):=⟨rfl,rfl,rfl,by decide +kernel,rfl,by decide +kernel,by decide +kernel⟩
theorem Yr(T:Tx K mg):bI P w K mg base bB 4 T.mw T.EY ["thing"] (bM K 1 pq) :=
 cC (k:=3) T.FN.fn Jb rfl rfl λcdv A outer s H E hr=>by
  show bV _ _ tT
  unfold tT
  refine aS (eZ (PW.pt (rV (jL (gU (bT gx T.gc alH (ay (av 0) (ay (gr rfl T.gb alI) aB))))) (uG (jL (Xg ya ya aX (bT dP T.dc alj (ay (av 0) aB)) (Bx rfl T.Eg)))))) (aV (bJ jN)) fm) ?_
  refine aS (bD (i:=1) (bT dP T.dc alj (ay (av 0) aB)) (hN:=Jb.nd)) ?_
  refine aS (eZ (jL (gU (bT sW T.oR amX (ay (cP (N':=["row","many"]) (pick:=[none,some 1]) (bZ.of rfl rfl) (sA (av 0)) (λ_ _ _ _ _ _=>(bw (i:=0) (hN:=(by decide +kernel:List.Nodup (["row","many"]:List Str))))) (λ_ _ _ _ _ _=>cS) (λ_ _ _ _ _ _=>(bu T.zZ (JQ T) (hr.mono (by decide)) (ay (av 0) (ay (av 1) aB))))) aB)))) (aV (bJ jN)) fm) ?_
  exact(aV (bJ (bT sW T.oR amX (ay (cP (N':=["y","many","thing"]) (pick:=[none,some 1,some 0]) (bZ.of rfl rfl) (cZ (ay (av 1) aB) T.cB) (λ_ _ _ _ _ _=>(bw (i:=0) (hN:=(by decide +kernel:List.Nodup (["y","many","thing"]:List Str))))) (λ_ _ _ _ _ _=>cS) (λ_ _ _ _ _ _=>(bu T.zZ (JQ T) (hr.mono (by decide)) (ay (bu T.FP (Yt T) (hr.mono (by decide)) (ay (av 2) (ay (av 0) aB))) (ay (av 1) aB))))) aB))))
theorem Tz:b9 ["square","cell"] ["square","cell"] (aQ qA):=⟨rfl,rfl,rfl,by decide +kernel,rfl,by decide +kernel,by decide +kernel⟩
theorem BE(T:Tx K mg):bI P w K mg base bB 1 T.lE T.Eo ["square","cell"] (bM K 2 gu) :=
 cC (k:=0) T.vM.fn Tz rfl rfl λcdv A outer s H E hr=>by
  show bV _ _ pR
  unfold pR
  exact(aV (bJ (cL cM (cL cM (av 0) (aM oN (av 1) (bT dP T.dc alj (ay (av 0) aB)))) (aM gE (av 1) (bT dP T.dc alj (ay (av 0) aB))))))
theorem IY:b9 ["one","other","cells"] ["one","other"] (aQ qF):=⟨rfl,rfl,rfl,by decide +kernel,rfl,by decide +kernel,by decide +kernel⟩
theorem XY(T:Tx K mg):bI P w K mg base bB 2 T.lK T.Ew ["one","other"] (bM K 2 sf) :=
 cC (k:=1) T.Fp.fn IY rfl rfl λcdv A outer s H E hr=>by
  have hu:=Nat.lt_of_succ_lt (ado hr)
  show bV _ _ pV
  unfold pV
  refine aS (bD (i:=2) (aM dY (bT dP T.dc alj (ay (av 0) aB)) (bT dP T.dc alj (ay (av 0) aB))) (hN:=IY.nd)) ?_
  exact(aV (bJ (jM fT (Xb (yH hr) (ay (cP (N':=["cell","one","other"]) (pick:=[none,some 0,some 1]) (bZ.of rfl rfl) (cZ (ay (av 2) aB) T.cB) (λ_ _ _ _ _ _=>(bw (i:=0) (hN:=(by decide +kernel:List.Nodup (["cell","one","other"]:List Str))))) (λ_ _ _ _ _ _=>cS) (λ_ _ _ _ _ _=>(rU (ay (bu T.vM (BE T) (hr.mono (by decide)) (ay (av 1) (ay (av 0) aB))) (ay (bu T.vM (BE T) (hr.mono (by decide)) (ay (av 2) (ay (av 0) aB))) aB))))) aB) T.dc T.uO) (av 2))))
theorem Ba:b9 ["squares","number","square"] ["squares"] (aQ rH):=⟨rfl,rfl,rfl,by decide +kernel,rfl,by decide +kernel,by decide +kernel⟩
theorem Yu(T:Tx K mg):bI P w K mg base bB 3 T.mE T.E3 ["squares"] (bM K 1 u7) :=
 cC (k:=2) T.FQ.fn Ba rfl rfl λcdv A outer s H E hr=>by
  show bV _ _ qb
  unfold qb
  refine aS (e7 (ac7 (ay (av 0) aB) T.Ku) (sJ (n:=2) (i8 (bw (i:=1) (hN:=Ba.nd)) (i8 (bw (i:=2) (hN:=Ba.nd)) sI))) (aV (eZ (jL (gU (bT sW T.oR amX (ay (cP (N':=["other","square"]) (pick:=[none,some 2]) (bZ.of rfl rfl) (iZ (Bw (av 0) Bs (Br (av 1)))) (λ_ _ _ _ _ _=>(bw (i:=0) (hN:=(by decide +kernel:List.Nodup (["other","square"]:List Str))))) (λ_ _ _ _ _ _=>cS) (λ_ _ _ _ _ _=>(bu T.Fp (XY T) (hr.mono (by decide)) (ay (av 1) (ay (av 0) aB))))) aB)))) (aV (bJ jN)) fm))) ?_
  exact(aV (bJ jN))
theorem TX:b9 ["n","thing"] ["n","thing"] (aQ rE):=⟨rfl,rfl,rfl,by decide +kernel,rfl,by decide +kernel,by decide +kernel⟩
theorem Ys(T:Tx K mg):bI P w K mg base bB 5 T.mz T.EZ ["n","thing"] (bM K 2 B7) :=
 cC (k:=4) T.FO.fn TX rfl rfl λcdv A outer s H E hr=>by
  show bV _ _ qa
  unfold qa
  refine aS (eZ (PW.pt (rV (jL (gU (bu T.zY (JP T) (hr.mono (by decide)) (ay (av 0) (ay (Bx rfl T.L6) (ay (Bx rfl T.Eg) aB)))))) (rV (jL (gU (bT gx T.gc alH (ay (av 1) (ay (gr rfl T.oQ boot_list) aB))))) (uG (fu J0 (bT dP T.dc alj (ay (av 1) aB)) (aM d9 (av 0) aX)))))) (aV (bJ jN)) fm) ?_
  exact(aV (bJ (jO (bT sW T.oR amX (ay (cP (N':=["square","n"]) (pick:=[none,some 0]) (bZ.of rfl rfl) (iZ (av 1)) (λ_ _ _ _ _ _=>(bw (i:=0) (hN:=(by decide +kernel:List.Nodup (["square","n"]:List Str))))) (λ_ _ _ _ _ _=>cS) (λ_ _ _ _ _ _=>(jO (bu T.FN (Yr T) (hr.mono (by decide)) (ay (av 0) aB)) (jK (jM fT (bT dP T.dc alj (ay (av 0) aB)) (av 1)))))) aB)) (jK (bu T.FQ (Yu T) (hr.mono (by decide)) (ay (av 1) aB))))))
theorem TH:b9 ["n","thing"] ["n","thing"] (aQ qC):=⟨rfl,rfl,rfl,by decide +kernel,rfl,by decide +kernel,by decide +kernel⟩
theorem JL(T:Tx K mg):bI P w K mg base bB 6 T.lG T.Er ["n","thing"] (bM K 2 jU) :=
 cC (k:=5) T.zU.fn TH rfl rfl λcdv A outer s H E hr=>by
  show bV _ _ sZ
  unfold sZ
  exact(aV (eZ (jL (gU (bu T.FO (Ys T) (hr.mono (by decide)) (ay (av 0) (ay (av 1) aB))))) (aV Tu) fm))
theorem TJ:b9 ["n","squares","cell"] ["n","squares","cell"] (aQ qE):=⟨rfl,rfl,rfl,by decide +kernel,rfl,by decide +kernel,by decide +kernel⟩
theorem XX(T:Tx K mg):bI P w K mg base bB 2 T.lJ T.Eu ["n","squares","cell"] (bM K 3 uW) :=
 cC (k:=1) T.Fo.fn TJ rfl rfl λcdv A outer s H E hr=>by
  show bV _ _ pU
  unfold pU
  exact(aV (bJ (aM rX (fF (ay (aM oN (av 2) (av 0)) (ay (aM gE (av 2) (av 0)) aB))) (cP (N':=["square","cell"]) (pick:=[none,some 2]) (bZ.of rfl rfl) (iZ (av 1)) (λ_ _ _ _ _ _=>(bw (i:=0) (hN:=(by decide +kernel:List.Nodup (["square","cell"]:List Str))))) (λ_ _ _ _ _ _=>cS) (λ_ _ _ _ _ _=>(bu T.vM (BE T) (hr.mono (by decide)) (ay (av 0) (ay (av 1) aB))))))))
theorem IX:b9 ["n","squares","lines"] ["n","squares"] (aQ oH):=⟨rfl,rfl,rfl,by decide +kernel,rfl,by decide +kernel,by decide +kernel⟩
theorem XU(T:Tx K mg):bI P w K mg base bB 7 T.lH T.Es ["n","squares"] (bM K 2 uU) :=
 aeP (k:=6) T.Fi.fn T.Kv IX rfl rfl λcdv A outer s H E hcd hr=>by
  show bV _ _ pS
  unfold pS
  refine aS (iw (bu T.zU (JL T) (hr.mono (by decide)) (ay (av 0) (ay (av 1) aB)))) ?_
  refine aS (bD (i:=2) (cP (N':=["cell","n","squares"]) (pick:=[none,some 0,some 1]) (bZ.of rfl rfl) (cZ (ay (aM dY (av 0) (av 0)) aB) T.cB) (λ_ _ _ _ _ _=>(bw (i:=0) (hN:=(by decide +kernel:List.Nodup (["cell","n","squares"]:List Str))))) (λ_ _ _ _ _ _=>cS) (λ_ _ _ _ _ _=>(bu T.Fo (XX T) (hr.mono (by decide)) (ay (av 1) (ay (av 2) (ay (av 0) aB)))))) (hN:=IX.nd)) ?_
  exact(aV (bJ (Xi (kk:=0) T.Ff (XS T) (hr.mono (by decide)) (aM dY (av 0) (av 0)) (fZ.of (by kernel_rfl)) rfl (λ_=>rfl) (y:="net_web") (by decide +kernel) T.oB T.qt (hcd _ _ T.oB) rfl T.qq)))
theorem A8:b9 ["n","squares","g","b"] ["n","squares"] (aQ qD):=⟨rfl,rfl,rfl,by decide +kernel,rfl,by decide +kernel,by decide +kernel⟩
theorem XW(T:Tx K mg):bI P w K mg base bB 7 T.lI T.Et ["n","squares"] (bM K 2 uV) :=
 cC (k:=6) T.Fj.fn A8 rfl rfl λcdv A outer s H E hr=>by
  show bV _ _ pT
  unfold pT
  refine aS (iw (bu T.zU (JL T) (hr.mono (by decide)) (ay (av 0) (ay (av 1) aB)))) ?_
  refine aS (bD (i:=2) (aM c8 (bT dP T.dc alj (ay (av 1) aB)) aX) (hN:=A8.nd)) ?_
  refine aS (bD (i:=3) (Xe (fu fT (av 2) (aM c8 (av 0) aX)) xS (aM dY (av 2) (aM d9 (av 2) aX))) (hN:=A8.nd)) ?_
  exact(aV (bJ (rU (ay (aM dY (av 0) (av 0)) (ay (aM dY (av 2) (aM d9 (av 0) aX)) (ay (aM c8 (aM d9 (av 0) aX) (aM dY (aM d9 (av 2) aX) (aM d9 (av 2) aX))) (ay (av 3) aB)))))))
theorem TR:b9 ["script","k"] ["script","k"] (aQ rq):=⟨rfl,rfl,rfl,by decide +kernel,rfl,by decide +kernel,by decide +kernel⟩
theorem Ym(T:Tx K mg):bI P w K mg base bB 1 T.mh T.EU ["script","k"] (bM K 2 pe) :=
 cC (k:=0) T.FJ.fn TR rfl rfl λcdv A outer s H E hr=>by
  show bV _ _ p8
  unfold p8
  refine aS (eZ (fu YG (av 1) (bT dP T.dc alj (ay (av 0) aB))) (aV (bJ (cL cM (av 0) (av 1)))) fm) ?_
  exact(aV (bJ aX))
theorem qw:b9 ["cell","number","j","more"] ["cell"] (aQ qT):=⟨rfl,rfl,rfl,by decide +kernel,rfl,by decide +kernel,by decide +kernel⟩
theorem Yh(T:Tx K mg):bI P w K mg base bB 1 T.lX T.EJ ["cell"] (bM K 1 oX) :=
 cC (k:=0) T.FE.fn qw rfl rfl λcdv A outer s H E hr=>by
  show bV _ _ pY
  unfold pY
  refine aS (eZ (fu Zg (av 0) (aM JX aX aX)) (aV (bJ (iV (ay (aM d9 (av 0) (aM JX aX aX)) aB)))) fm) ?_
  refine aS (bD (i:=1) aX (hN:=qw.nd)) ?_
  refine aS (e7 (cZ (ay aX aB) T.cB) (bw (i:=2) (hN:=qw.nd)) (aS (bD (i:=3) (aM gE (aM dY (aM c8 (aM c8 (aM gE (av 0) aX) (aM dY aX (av 2))) aX) aX) aX) (hN:=qw.nd)) (aS (bD (i:=3) (aM gE (aM c8 (aM c8 (aM dY (av 3) (av 3)) (aM dY aX (av 2))) aX) aX) (hN:=qw.nd)) (aV (bD (i:=1) (aM c8 (aM dY (av 1) aX) (av 3)) (hN:=qw.nd)))))) ?_
  exact(aV (bJ (iV (ay (av 1) aB))))
theorem IZ:b9 ["pot","far","found"] ["pot","far"] (aQ qI):=⟨rfl,rfl,rfl,by decide +kernel,rfl,by decide +kernel,by decide +kernel⟩
theorem nh(T:Tx K mg):bI P w K mg base bB 1 T.lO T.EA ["pot","far"] (bM K 2 cz) :=
 cC (k:=0) T.j4.fn IZ rfl rfl λcdv A outer s H E hr=>by
  show bV _ _ pW
  unfold pW
  refine aS (bD (i:=2) (aM gE (cL cM (av 0) aX) (av 1)) (hN:=IZ.nd)) ?_
  refine aS (uw (aM oN (cL cM (av 0) aX) (av 1)) (yQ (av 0) aX)) ?_
  exact(aV (bJ (av 2)))
theorem TL:b9 ["found"] ["found"] (aQ qG):=⟨rfl,rfl,rfl,by decide +kernel,rfl,by decide +kernel,by decide +kernel⟩
theorem XZ(T:Tx K mg):bI P w K mg base bB 1 T.lM T.Ey ["found"] (bM K 1 uX) :=
 cC (k:=0) T.Ft.fn TL rfl rfl λcdv A outer s H E hr=>by
  show bV _ _ tw
  unfold tw
  exact(aV (bJ (jO (bT gx T.gc alH (ay (av 0) (ay (gr rfl T.yk boot_int) aB))) (jK (JE (bT gx T.gc alH (ay (av 0) (ay (gr rfl T.uP boot_bool) aB))))))))
theorem TN:b9 ["found","due"] ["found","due"] (aQ qO):=⟨rfl,rfl,rfl,by decide +kernel,rfl,by decide +kernel,by decide +kernel⟩
theorem BF(T:Tx K mg):∀j:Nat,bI P w K mg base bB (2+j) T.kc T.yY ["found","due"] (bM K 2 (fG j))
 |0=>⟨λvs H Q E h=>by obtain⟨_,_,_,_,_,_,p⟩:=h;exact p.elim,λA outer s H args us vs Q E hr he hb hv h=>by obtain⟨_,_,_,_,_,_,p⟩:=h;exact p.elim⟩
 |j+1=>cC (k:=2+j) T.vO.fn TN rfl rfl λcdv A outer s H E hr=>by
  have ih:bI P w K mg base bB (2+j) T.kc T.yY ["found","due"] (bM K 2 (fG j)):=BF T j
  show bV _ _ (lC (fG j))
  unfold lC
  generalize fG j=m at ih ⊢
  refine aS (eZ (fu JZ (av 1) xS) (aV (bJ (jM JZ (av 0) xS))) fm) ?_
  refine aS (eZ (gU (bT gx T.gc alH (ay (av 1) (ay (gr rfl T.uP boot_bool) aB)))) (aV (bJ (jO (bT gx T.gc alH (ay (av 0) (ay (gr rfl T.uP boot_bool) aB))) (jK (jM fT (av 0) (av 1)))))) fm) ?_
  refine aS (eZ (gU (bT gx T.gc alH (ay (av 1) (ay (gr rfl T.yk boot_int) aB)))) (aV (bJ (jO (bu T.Ft (XZ T) (hr.mono (by omega)) (ay (av 0) aB)) (jK (jM fT (av 0) (av 1)))))) fm) ?_
  refine aS (eZ (gU (bT gx T.gc alH (ay (av 1) (ay (gr rfl T.BQ boot_str) aB)))) (aV (bJ (jO (bT gx T.gc alH (ay (av 0) (ay (gr rfl T.BQ boot_str) aB))) (jK (jM fT (av 0) (av 1)))))) fm) ?_
  refine aS (eZ (PW.pt (rV (fu x9 (bT gx T.gc alH (ay (av 1) (ay (gr rfl T.gb alI) aB))) (bT gx T.gc alH (ay (av 0) (ay (gr rfl T.gb alI) aB)))) (uG (fu x9 (bT gx T.gc alH (ay (av 1) (ay (gr rfl T.oQ boot_list) aB))) (bT gx T.gc alH (ay (av 0) (ay (gr rfl T.oQ boot_list) aB))))))) (aV (bJ jN)) fm) ?_
  exact(aV (bJ (jO (jM fT (bT dP T.dc alj (ay (av 0) aB)) (bT dP T.dc alj (ay (av 1) aB))) (jK (bT sW T.oR amX (ay (cP (N':=["one","other"]) (pick:=[none,none]) (bZ.of rfl rfl) (DR (ay (av 0) (ay (av 1) aB)) T.yj) (λ_ _ _ _ _ _=>(sJ (n:=2) (i8 (bw (i:=0) (hN:=(by decide +kernel:List.Nodup (["one","other"]:List Str)))) (i8 (bw (i:=1) (hN:=(by decide +kernel:List.Nodup (["one","other"]:List Str)))) sI)))) (λ_ _ _ _ _ _=>cS) (λ_ _ _ _ _ _=>(bu T.vO ih (hr.mono (by omega)) (ay (av 0) (ay (av 1) aB))))) aB))))))
theorem xr:b9 ["many","pairs","rows","one","other"] ["many","pairs"] (aQ qH):=⟨rfl,rfl,rfl,by decide +kernel,rfl,by decide +kernel,by decide +kernel⟩
theorem X0(T:Tx K mg):bI P w K mg base bB 1 T.lN T.Ez ["many","pairs"] (bM K 2 oV) :=
 cC (k:=0) T.Fv.fn xr rfl rfl λcdv A outer s H E hr=>by
  show bV _ _ tE
  unfold tE
  refine aS (Tt (i:=2) (hN:=xr.nd) (N':=["place"]) (pick:=[none]) (bZ.of rfl rfl) (cZ (ay (av 0) aB) T.cB) (λ_ _ _ _ _ _=>(bw (i:=0) (hN:=(by decide +kernel:List.Nodup (["place"]:List Str))))) (λ_ _ _ _ _ _=>cS) (λ_ _ _ _ _ _=>(iV aB))) ?_
  refine aS (e7 (iZ (av 1)) (sJ (n:=2) (i8 (bw (i:=3) (hN:=xr.nd)) (i8 (bw (i:=4) (hN:=xr.nd)) sI))) (aS (iw (kJ (cL cM (av 2) (av 3)) (av 4))) (aV (iw (kJ (cL cM (av 2) (av 4)) (av 3)))))) ?_
  exact(aV (bJ (iB jg T.gb alI (ay (cP (N':=["row"]) (pick:=[none]) (bZ.of rfl rfl) (iZ (av 2)) (λ_ _ _ _ _ _=>(bw (i:=0) (hN:=(by decide +kernel:List.Nodup (["row"]:List Str))))) (λ_ _ _ _ _ _=>cS) (λ_ _ _ _ _ _=>(iB jg T.gb alI (ay (JC (ay (av 0) aB) T.BR T.uO) aB)))) aB))))
theorem TQ:b9 ["q"] ["q"] (aQ qS):=⟨rfl,rfl,rfl,by decide +kernel,rfl,by decide +kernel,by decide +kernel⟩
theorem x6(T:Tx K mg):bI P w K mg base bB 1 T.lW T.EI ["q"] (bM K 1 gf) :=
 cC (k:=0) T.sP.fn TQ rfl rfl λcdv A outer s H E hr=>by
  show bV _ _ tM
  unfold tM
  refine aV ?_
  with_reducible refine bJ ?_
  with_reducible refine cL cM ?_ ?_ ?_
  ·with_reducible refine cP (N':=["p","q"]) (pick:=[none,some 0]) ?_ ?_ ?_ ?_ ?_ ?_ ?_
   ·exact bZ.of rfl rfl
   ·with_reducible refine iZ ?_
    with_reducible refine fF ?_
    with_reducible refine ng ?_
    kernel_rfl
   ·exact λ_ _ _ _ _ _=>(bw (i:=0) (hN:=(by decide +kernel:List.Nodup (["p","q"]:List Str))))
   ·exact λ_ _ _ _ _ _=>(Jy (fu fT (aM gE (av 1) (av 0)) aX))
   ·exact λ_ _ _ _ _ _=>(av 0)
   ·rfl
   ·intro _;rfl
  ·exact aX
  ·exact λ_ _=>rfl
theorem xB:b9 ["q","found"] ["q"] (aQ rj):=⟨rfl,rfl,rfl,by decide +kernel,rfl,by decide +kernel,by decide +kernel⟩
theorem JO(T:Tx K mg):bI P w K mg base bB 2 T.l8 T.ES ["q"] (bM K 1 jV) :=
 cC (k:=1) T.zX.fn xB rfl rfl λcdv A outer s H E hr=>by
  show bV _ _ tQ
  unfold tQ
  refine aS (bD (i:=1) aX (hN:=xB.nd)) ?_
  refine aS (IW (n:=10) (fu J0 (av 0) aX) (aS (bD (i:=0) (aM oN (av 0) (bu T.sP (x6 T) (hr.mono (by decide)) (ay (av 0) aB))) (hN:=xB.nd)) (aV (bD (i:=1) (aM c8 (av 1) aX) (hN:=xB.nd))))) ?_
  exact(aV (bJ (av 1)))
theorem xx:b9 ["number","p","many","found","k"] ["number","p","many"] (aQ qP):=⟨rfl,rfl,rfl,by decide +kernel,rfl,by decide +kernel,by decide +kernel⟩
theorem rW(T:Tx K mg):bI P w K mg base bB 1 T.lT T.EF ["number","p","many"] (bM K 3 fH) :=
 cC (k:=0) T.nO.fn xx rfl rfl λcdv A outer s H E hr=>by
  show bV _ _ tK
  unfold tK
  refine aS (bD (i:=3) (iV aB) (hN:=xx.nd)) ?_
  refine aS (e7 (cZ (ay (av 2) aB) T.cB) (bw (i:=4) (hN:=xx.nd)) (aS (iw (kJ (av 3) (aM gE (av 0) (av 1)))) (aV (bD (i:=0) (aM oN (av 0) (av 1)) (hN:=xx.nd))))) ?_
  exact(aV (bJ (av 3)))
theorem xy:b9 ["row","p","found","k"] ["row","p"] (aQ qV):=⟨rfl,rfl,rfl,by decide +kernel,rfl,by decide +kernel,by decide +kernel⟩
theorem JM(T:Tx K mg):bI P w K mg base bB 1 T.lZ T.EL ["row","p"] (bM K 2 oY) :=
 cC (k:=0) T.zV.fn xy rfl rfl λcdv A outer s H E hr=>by
  show bV _ _ tO
  unfold tO
  refine aS (bD (i:=2) aX (hN:=xy.nd)) ?_
  refine aS (e7 (cZ (ay (bT dP T.dc alj (ay (av 0) aB)) aB) T.cB) (bw (i:=3) (hN:=xy.nd)) (aV (bD (i:=2) (aM c8 (aM dY (av 2) (av 1)) (cL cM (av 0) (aM d9 (aM d9 (bT dP T.dc alj (ay (av 0) aB)) aX) (av 3)))) (hN:=xy.nd)))) ?_
  exact(aV (bJ (av 2)))
theorem mU:b9 ["one","other","p","found","k","j"] ["one","other","p"] (aQ qJ):=⟨rfl,rfl,rfl,by decide +kernel,rfl,by decide +kernel,by decide +kernel⟩
theorem X7(T:Tx K mg):bI P w K mg base bB 1 T.j9 T.yX ["one","other","p"] (bM K 3 kO) :=
 cC (k:=0) T.vN.fn mU rfl rfl λcdv A outer s H E hr=>by
  show bV _ _ lB
  unfold lB
  refine aS (bD (i:=3) (aM JW (fF (ay aX aB)) (aM d9 (aM c8 (bT dP T.dc alj (ay (av 0) aB)) (bT dP T.dc alj (ay (av 1) aB))) aX)) (hN:=mU.nd)) ?_
  refine aS (e7 (cZ (ay (bT dP T.dc alj (ay (av 0) aB)) aB) T.cB) (bw (i:=4) (hN:=mU.nd)) (aV (e7 (cZ (ay (bT dP T.dc alj (ay (av 1) aB)) aB) T.cB) (bw (i:=5) (hN:=mU.nd)) (aV (uw (aM gE (aM c8 (cL cM (av 3) (aM c8 (av 4) (av 5))) (aM dY (cL cM (av 0) (av 4)) (cL cM (av 1) (av 5)))) (av 2)) (yQ (av 3) (aM c8 (av 4) (av 5)))))))) ?_
  exact(aV (bJ (av 3)))
theorem XR(T:Tx K mg):bI P w K mg base bB 1 T.j9 T.yX ["one","other","p"] (bM K 3 r9) :=
 cC (k:=0) T.vN.fn mU rfl rfl λcdv A outer s H E hr=>by
  show bV _ _ lB
  unfold lB
  refine aS (bD (i:=3) (aM JW (fF (ay aX aB)) (aM d9 (aM c8 (bT dP T.dc alj (ay (av 0) aB)) (bT dP T.dc alj (ay (av 1) aB))) aX)) (hN:=mU.nd)) ?_
  refine aS (e7 (cZ (ay (bT dP T.dc alj (ay (av 0) aB)) aB) T.cB) (bw (i:=4) (hN:=mU.nd)) (aV (e7 (cZ (ay (bT dP T.dc alj (ay (av 1) aB)) aB) T.cB) (bw (i:=5) (hN:=mU.nd)) (aV (uw (aM gE (aM c8 (cL cM (av 3) (aM c8 (av 4) (av 5))) (aM dY (cL cM (av 0) (av 4)) (cL cM (av 1) (av 5)))) (av 2)) (yQ (av 3) (aM c8 (av 4) (av 5)))))))) ?_
  exact(aV (bJ (av 3)))
theorem qx:b9 ["many","p","found","k","longer","row"] ["many","p"] (aQ qX):=⟨rfl,rfl,rfl,by decide +kernel,rfl,by decide +kernel,by decide +kernel⟩
theorem JN(T:Tx K mg):bI P w K mg base bB 1 T.l5 T.EN ["many","p"] (bM K 2 nt) :=
 cC (k:=0) T.zW.fn qx rfl rfl λcdv A outer s H E hr=>by
  show bV _ _ nW
  unfold nW
  refine aS (bD (i:=2) (fF (ay (fF aB) aB)) (hN:=qx.nd)) ?_
  refine aS (e7 (cZ (ay (av 0) aB) T.cB) (bw (i:=3) (hN:=qx.nd)) (aS (bD (i:=4) (iV aB) (hN:=qx.nd)) (aS (e7 (iZ (av 2)) (bw (i:=5) (hN:=qx.nd)) (aV (iw (JF (av 4) (cP (N':=["digit","row"]) (pick:=[none,some 5]) (bZ.of rfl rfl) (cZ (ay (av 1) aB) T.cB) (λ_ _ _ _ _ _=>(bw (i:=0) (hN:=(by decide +kernel:List.Nodup (["digit","row"]:List Str))))) (λ_ _ _ _ _ _=>cS) (λ_ _ _ _ _ _=>(aM rX (av 1) (fF (ay (av 0) aB))))))))) (aV (bD (i:=2) (av 4) (hN:=qx.nd)))))) ?_
  exact(aV (bJ (cP (N':=["row"]) (pick:=[none]) (bZ.of rfl rfl) (iZ (av 2)) (λ_ _ _ _ _ _=>(bw (i:=0) (hN:=(by decide +kernel:List.Nodup (["row"]:List Str))))) (λ_ _ _ _ _ _=>cS) (λ_ _ _ _ _ _=>(aM rX (av 0) (fF (ay aX aB)))))))
theorem mX:b9 ["q","p","many","products","less","one","number"] ["q"] (aQ qY):=⟨rfl,rfl,rfl,by decide +kernel,rfl,by decide +kernel,by decide +kernel⟩
theorem Yj(T:Tx K mg):bI P w K mg base bB 3 T.l6 T.EO ["q"] (bM K 1 sy) :=
 cC (k:=2) T.FG.fn mX rfl rfl λcdv A outer s H E hr=>by
  show bV _ _ tP
  unfold tP
  refine aS (bD (i:=1) (bu T.sP (x6 T) (hr.mono (by decide)) (ay (av 0) aB)) (hN:=mX.nd)) ?_
  refine aS (bD (i:=2) (bu T.zX (JO T) (hr.mono (by decide)) (ay (av 0) aB)) (hN:=mX.nd)) ?_
  refine aS (eZ (fu fT (av 2) aX) (aV (bJ (fF (ay aX (ay aX aB))))) fm) ?_
  refine aS (bD (i:=3) (iV aB) (hN:=mX.nd)) ?_
  refine aS (e7 (DS (ay aX (ay (aM c8 (aM oN (av 2) aX) aX) aB)) T.cB) (bw (i:=4) (hN:=mX.nd)) (aV (e7 (iZ (bu T.zW (JN T) (hr.mono (by decide)) (ay (av 4) (ay (av 1) aB)))) (bw (i:=5) (hN:=mX.nd)) (aV (iw (JF (av 3) (cP (N':=["other","one","p"]) (pick:=[none,some 5,some 1]) (bZ.of rfl rfl) (iZ (bu T.zW (JN T) (hr.mono (by decide)) (ay (aM d9 (av 2) (av 4)) (ay (av 1) aB)))) (λ_ _ _ _ _ _=>(bw (i:=0) (hN:=(by decide +kernel:List.Nodup (["other","one","p"]:List Str))))) (λ_ _ _ _ _ _=>cS) (λ_ _ _ _ _ _=>(bu T.vN (X7 T) (hr.mono (by decide)) (ay (av 1) (ay (av 0) (ay (av 2) aB)))))))))))) ?_
  refine aS (bD (i:=6) aX (hN:=mX.nd)) ?_
  refine aS (IW (n:=60) (fu (Ze (yH hr)) (aM rX (bu T.nO (rW T) (hr.mono (by decide)) (ay (av 6) (ay (av 1) (ay (av 2) aB)))) (fF (ay aX aB))) (av 3)) (aV (bD (i:=6) (aM c8 (av 6) aX) (hN:=mX.nd)))) ?_
  exact(aV (bJ (aM rX (bu T.nO (rW T) (hr.mono (by decide)) (ay (av 6) (ay (av 1) (ay (av 2) aB)))) (fF (ay aX aB)))))
theorem mV:b9 ["q","form","one","other","p","many","row","place","often","k","at"] ["q","form","one","other"] (aQ qR):=⟨rfl,rfl,rfl,by decide +kernel,rfl,by decide +kernel,by decide +kernel⟩
theorem Yg(T:Tx K mg):bI P w K mg base bB 2 T.lV T.EH ["q","form","one","other"] (bM K 4 su) :=
 cC (k:=1) T.FD.fn mV rfl rfl λcdv A outer s H E hr=>by
  show bV _ _ tL
  unfold tL
  refine aS (bD (i:=4) (bu T.sP (x6 T) (hr.mono (by decide)) (ay (av 0) aB)) (hN:=mV.nd)) ?_
  refine aS (bD (i:=5) (aM d9 (bT dP T.dc alj (ay (av 1) aB)) aX) (hN:=mV.nd)) ?_
  refine aS (bD (i:=6) (bu T.vN (XR T) (hr.mono (by decide)) (ay (bu T.nO (rW T) (hr.mono (by decide)) (ay (av 2) (ay (av 4) (ay (av 5) aB)))) (ay (bu T.nO (rW T) (hr.mono (by decide)) (ay (av 3) (ay (av 4) (ay (av 5) aB)))) (ay (av 4) aB)))) (hN:=mV.nd)) ?_
  refine aS (e7 (ac6 (ay (aM d9 (bT dP T.dc alj (ay (av 6) aB)) aX) (ay (aM d9 (av 5) aX) (ay (aM d9 aX aX) aB))) T.cB) (bw (i:=7) (hN:=mV.nd)) (aS (bD (i:=8) (cL cM (av 6) (av 7)) (hN:=mV.nd)) (aV (e7 (cZ (ay (aM c8 (av 5) aX) aB) T.cB) (bw (i:=9) (hN:=mV.nd)) (aS (bD (i:=10) (aM c8 (aM d9 (av 7) (av 5)) (av 9)) (hN:=mV.nd)) (aV (uw (aM gE (aM d9 (cL cM (av 6) (av 10)) (aM dY (av 8) (cL cM (av 1) (av 9)))) (av 4)) (yQ (av 6) (av 10))))))))) ?_
  exact(aV (bJ (bu T.zV (JM T) (hr.mono (by decide)) (ay (Bw (av 6) Bs (Br (av 5))) (ay (av 4) aB)))))
theorem xu:b9 ["q","one","other","sign","p","many","rows"] ["q","one","other","sign"] (aQ qK):=⟨rfl,rfl,rfl,by decide +kernel,rfl,by decide +kernel,by decide +kernel⟩
theorem X8(T:Tx K mg):bI P w K mg base bB 3 T.lP T.EB ["q","one","other","sign"] (bM K 4 nj) :=
 cC (k:=2) T.Fw.fn xu rfl rfl λcdv A outer s H E hr=>by
  show bV _ _ tF
  unfold tF
  refine aS (bD (i:=4) (bu T.sP (x6 T) (hr.mono (by decide)) (ay (av 0) aB)) (hN:=xu.nd)) ?_
  refine aS (bD (i:=5) (bu T.zX (JO T) (hr.mono (by decide)) (ay (av 0) aB)) (hN:=xu.nd)) ?_
  refine aS (bD (i:=6) (fF (ay (bu T.nO (rW T) (hr.mono (by decide)) (ay (av 1) (ay (av 4) (ay (av 5) aB)))) (ay (bu T.nO (rW T) (hr.mono (by decide)) (ay (av 2) (ay (av 4) (ay (av 5) aB)))) aB))) (hN:=xu.nd)) ?_
  exact(aV (bJ (bu T.zV (JM T) (hr.mono (by decide)) (ay (cP (N':=["k","p","sign","rows"]) (pick:=[none,some 4,some 3,some 6]) (bZ.of rfl rfl) (cZ (ay (av 5) aB) T.cB) (λ_ _ _ _ _ _=>(bw (i:=0) (hN:=(by decide +kernel:List.Nodup (["k","p","sign","rows"]:List Str))))) (λ_ _ _ _ _ _=>cS) (λ_ _ _ _ _ _=>(aM gE (aM c8 (cL cM (cL cM (av 3) aX) (av 0)) (aM dY (av 2) (cL cM (cL cM (av 3) aX) (av 0)))) (av 1)))) (ay (av 4) aB)))))
theorem I0:b9 ["q","form"] ["q"] (aQ qQ):=⟨rfl,rfl,rfl,by decide +kernel,rfl,by decide +kernel,by decide +kernel⟩
theorem Ye(T:Tx K mg):bI P w K mg base bB 4 T.lU T.EG ["q"] (bM K 1 sj) :=
 cC (k:=3) T.FA.fn I0 rfl rfl λcdv A outer s H E hr=>by
  show bV _ _ pX
  unfold pX
  refine aS (bD (i:=1) (bu T.FG (Yj T) (hr.mono (by decide)) (ay (av 0) aB)) (hN:=I0.nd)) ?_
  exact(aV (bJ (cP (N':=["one","q","form"]) (pick:=[none,some 0,some 1]) (bZ.of rfl rfl) (cZ (ay (av 0) aB) T.cB) (λ_ _ _ _ _ _=>(bw (i:=0) (hN:=(by decide +kernel:List.Nodup (["one","q","form"]:List Str))))) (λ_ _ _ _ _ _=>cS) (λ_ _ _ _ _ _=>(cP (N':=["other","q","form","one"]) (pick:=[none,some 1,some 2,some 0]) (bZ.of rfl rfl) (cZ (ay (av 1) aB) T.cB) (λ_ _ _ _ _ _=>(bw (i:=0) (hN:=(by decide +kernel:List.Nodup (["other","q","form","one"]:List Str))))) (λ_ _ _ _ _ _=>cS) (λ_ _ _ _ _ _=>(bu T.FD (Yg T) (hr.mono (by decide)) (ay (av 1) (ay (av 2) (ay (av 3) (ay (av 0) aB)))))))))))
theorem Ja:b9 ["pot","many","left"] ["pot","many"] (aQ qU):=⟨rfl,rfl,rfl,by decide +kernel,rfl,by decide +kernel,by decide +kernel⟩
theorem x8(T:Tx K mg):bI P w K mg base bB 2 T.lY T.EK ["pot","many"] (bM K 2 fJ) :=
 cC (k:=1) T.sQ.fn Ja rfl rfl λcdv A outer s H E hr=>by
  show bV _ _ tN
  unfold tN
  refine aS (bD (i:=2) (W9 (ay (av 1) aB) T.oQ T.cB) (hN:=Ja.nd)) ?_
  exact(aV (bJ (iB jg T.gb alI (ay (cP (N':=["k","left","pot"]) (pick:=[none,some 2,some 0]) (bZ.of rfl rfl) (cZ (ay (av 1) aB) T.cB) (λ_ _ _ _ _ _=>(bw (i:=0) (hN:=(by decide +kernel:List.Nodup (["k","left","pot"]:List Str))))) (λ_ _ _ _ _ _=>cS) (λ_ _ _ _ _ _=>(JD (av 1) (bu T.j4 (nh T) (hr.mono (by decide)) (ay (av 2) (ay (bT dP T.dc alj (ay (av 1) aB)) aB)))))) aB))))
theorem mY:b9 ["pot","n","rows","by","order","names","columns"] ["pot","n"] (aQ rm):=⟨rfl,rfl,rfl,by decide +kernel,rfl,by decide +kernel,by decide +kernel⟩
theorem Yl(T:Tx K mg):bI P w K mg base bB 3 T.l9 T.ET ["pot","n"] (bM K 2 oZ) :=
 cC (k:=2) T.FI.fn mY rfl rfl λcdv A outer s H E hr=>by
  show bV _ _ tR
  unfold tR
  refine aS (eZ (PW.pt (By (fu fT (av 1) aX) (BA (fu fT (bu T.j4 (nh T) (hr.mono (by decide)) (ay (av 0) (ay aX aB))) aX)))) (aV (bD (i:=2) (cP (N':=["row","n"]) (pick:=[none,some 1]) (bZ.of rfl rfl) (cZ (ay (av 1) aB) T.cB) (λ_ _ _ _ _ _=>(bw (i:=0) (hN:=(by decide +kernel:List.Nodup (["row","n"]:List Str))))) (λ_ _ _ _ _ _=>cS) (λ_ _ _ _ _ _=>(cP (N':=["column","row"]) (pick:=[none,some 0]) (bZ.of rfl rfl) (cZ (ay (av 1) aB) T.cB) (λ_ _ _ _ _ _=>(bw (i:=0) (hN:=(by decide +kernel:List.Nodup (["column","row"]:List Str))))) (λ_ _ _ _ _ _=>cS) (λ_ _ _ _ _ _=>(aM Yz (av 1) (av 0)))))) (hN:=mY.nd))) (aS (bD (i:=3) (aM c8 aX (bu T.j4 (nh T) (hr.mono (by decide)) (ay (av 0) (ay (bT ahf T.Ks boot_max (ay aX (ay (aM d9 (av 1) aX) aB))) aB)))) (hN:=mY.nd)) (aS (bD (i:=2) (cP (N':=["row","n","by"]) (pick:=[none,some 1,some 3]) (bZ.of rfl rfl) (cZ (ay (av 1) aB) T.cB) (λ_ _ _ _ _ _=>(bw (i:=0) (hN:=(by decide +kernel:List.Nodup (["row","n","by"]:List Str))))) (λ_ _ _ _ _ _=>cS) (λ_ _ _ _ _ _=>(cP (N':=["column","n","by","row"]) (pick:=[none,some 1,some 2,some 0]) (bZ.of rfl rfl) (cZ (ay (av 1) aB) T.cB) (λ_ _ _ _ _ _=>(bw (i:=0) (hN:=(by decide +kernel:List.Nodup (["column","n","by","row"]:List Str))))) (λ_ _ _ _ _ _=>cS) (λ_ _ _ _ _ _=>(aM gE (aM c8 (aM dY (av 2) (av 3)) (av 0)) (av 1)))))) (hN:=mY.nd)) (aV (eZ (fu (JY (yH hr)) (JC (ay (cP (N':=["row"]) (pick:=[none]) (bZ.of rfl rfl) (iZ (av 2)) (λ_ _ _ _ _ _=>(bw (i:=0) (hN:=(by decide +kernel:List.Nodup (["row"]:List Str))))) (λ_ _ _ _ _ _=>cS) (λ_ _ _ _ _ _=>(cL cM (av 0) aX))) aB) T.BR T.uO) (Xa (ay (av 1) aB) T.oQ T.cB)) (aV (bD (i:=2) (cP (N':=["row","n"]) (pick:=[none,some 1]) (bZ.of rfl rfl) (cZ (ay (av 1) aB) T.cB) (λ_ _ _ _ _ _=>(bw (i:=0) (hN:=(by decide +kernel:List.Nodup (["row","n"]:List Str))))) (λ_ _ _ _ _ _=>cS) (λ_ _ _ _ _ _=>(cP (N':=["column","n","row"]) (pick:=[none,some 1,some 0]) (bZ.of rfl rfl) (cZ (ay (av 1) aB) T.cB) (λ_ _ _ _ _ _=>(bw (i:=0) (hN:=(by decide +kernel:List.Nodup (["column","n","row"]:List Str))))) (λ_ _ _ _ _ _=>cS) (λ_ _ _ _ _ _=>(aM gE (aM c8 (av 2) (av 0)) (av 1)))))) (hN:=mY.nd))) fm))))) ?_
  refine aS (bD (i:=4) (bu T.sQ (x8 T) (hr.mono (by decide)) (ay (av 0) (ay (av 1) aB))) (hN:=mY.nd)) ?_
  refine aS (bD (i:=5) (bu T.sQ (x8 T) (hr.mono (by decide)) (ay (av 0) (ay (av 1) aB))) (hN:=mY.nd)) ?_
  refine aS (bD (i:=6) (bu T.sQ (x8 T) (hr.mono (by decide)) (ay (av 0) (ay (av 1) aB))) (hN:=mY.nd)) ?_
  exact(aV (bJ (iB jg T.gb alI (ay (cP (N':=["row","names","columns","rows"]) (pick:=[none,some 5,some 6,some 2]) (bZ.of rfl rfl) (sA (av 4)) (λ_ _ _ _ _ _=>(bw (i:=0) (hN:=(by decide +kernel:List.Nodup (["row","names","columns","rows"]:List Str))))) (λ_ _ _ _ _ _=>cS) (λ_ _ _ _ _ _=>(iB jg T.gb alI (ay (cP (N':=["column","names","rows","row"]) (pick:=[none,some 1,some 3,some 0]) (bZ.of rfl rfl) (sA (av 2)) (λ_ _ _ _ _ _=>(bw (i:=0) (hN:=(by decide +kernel:List.Nodup (["column","names","rows","row"]:List Str))))) (λ_ _ _ _ _ _=>cS) (λ_ _ _ _ _ _=>(cL cM (av 1) (cL cM (cL cM (av 2) (av 3)) (av 0))))) aB)))) aB))))
theorem A9:b9 ["pot","rows","order"] ["pot"] (aQ qN):=⟨rfl,rfl,rfl,by decide +kernel,rfl,by decide +kernel,by decide +kernel⟩
theorem Yd(T:Tx K mg):bI P w K mg base bB 3 T.lS T.EE ["pot"] (bM K 1 kP) :=
 cC (k:=2) T.Fz.fn A9 rfl rfl λcdv A outer s H E hr=>by
  show bV _ _ tH
  unfold tH
  refine aS ?_ ?_
  ·with_reducible refine bD (i:=1) ?_ ?_ ?_ ?_ ?_ ?_
   ·with_reducible refine iV ?_
    with_reducible refine ay ?_ ?_ ?_
    ·with_reducible refine fF ?_
     with_reducible refine ng ?_
     kernel_rfl
    ·skip
     with_reducible refine ay ?_ ?_ ?_
     ·with_reducible refine fF ?_
      with_reducible refine ng ?_
      kernel_rfl
     ·skip
      with_reducible refine ay ?_ ?_ ?_
      ·with_reducible refine fF ?_
       with_reducible refine ng ?_
       kernel_rfl
      ·skip
       with_reducible refine ay ?_ ?_ ?_
       ·with_reducible refine fF ?_
        with_reducible refine ng ?_
        kernel_rfl
       ·skip
        with_reducible refine ay ?_ ?_ ?_
        ·with_reducible refine fF ?_
         with_reducible refine ng ?_
         kernel_rfl
        ·skip
         with_reducible exact aB
        ·exact cJ rfl
       ·exact cJ rfl
      ·exact cJ rfl
     ·exact cJ rfl
    ·exact cJ rfl
   ·exact A9.nd
   ·rfl
   ·first|exact Or.inl rfl|exact Or.inr rfl
   ·rfl
   ·first|exact .inl rfl|exact .inr rfl
  ·skip
   refine aS (iw (kJ (av 1) (fF (ng (by kernel_rfl))))) ?_
   refine aS (bD (i:=2) (bu T.sQ (x8 T) (hr.mono (by decide)) (ay (av 0) (ay aX aB))) (hN:=A9.nd)) ?_
   exact(aV (bJ (iB jg T.gb alI (ay (cP (N':=["row","rows"]) (pick:=[none,some 1]) (bZ.of rfl rfl) (sA (av 2)) (λ_ _ _ _ _ _=>(bw (i:=0) (hN:=(by decide +kernel:List.Nodup (["row","rows"]:List Str))))) (λ_ _ _ _ _ _=>cS) (λ_ _ _ _ _ _=>(iB jg T.gb alI (ay (cL cM (av 1) (av 0)) aB)))) aB))))
theorem TM:b9 ["pot","n"] ["pot","n"] (aQ qL):=⟨rfl,rfl,rfl,by decide +kernel,rfl,by decide +kernel,by decide +kernel⟩
theorem Yb(T:Tx K mg):bI P w K mg base bB 4 T.lQ T.EC ["pot","n"] (bM K 2 nk) :=
 cC (k:=3) T.Fx.fn TM rfl rfl λcdv A outer s H E hr=>by
  show bV _ _ tG
  unfold tG
  refine aS (eZ (PW.pt (By (fu fT (av 1) aX) (BA (fu fT (bu T.j4 (nh T) (hr.mono (by decide)) (ay (av 0) (ay aX aB))) aX)))) (aV (bJ (bu T.Fz (Yd T) (hr.mono (by decide)) (ay (av 0) aB)))) fm) ?_
  exact(aV (bJ (bu T.FI (Yl T) (hr.mono (by decide)) (ay (av 0) (ay (av 1) aB)))))
theorem qy:b9 ["q","products","found","often","rows","row"] ["q"] (aQ qZ):=⟨rfl,rfl,rfl,by decide +kernel,rfl,by decide +kernel,by decide +kernel⟩
theorem Yk(T:Tx K mg):bI P w K mg base bB 5 T.l7 T.ER ["q"] (bM K 1 uZ) :=
 cC (k:=4) T.FH.fn qy rfl rfl λcdv A outer s H E hr=>by
  show bV _ _ p7
  unfold p7
  refine aS (bD (i:=1) (bu T.FA (Ye T) (hr.mono (by decide)) (ay (av 0) aB)) (hN:=qy.nd)) ?_
  refine aS (bD (i:=2) (iV aB) (hN:=qy.nd)) ?_
  refine aS (e7 (DS (ay aX (ay (av 0) aB)) T.cB) (bw (i:=3) (hN:=qy.nd)) (aS (bD (i:=4) (iV aB) (hN:=qy.nd)) (aS (e7 (cZ (ay (av 0) aB) T.cB) (bw (i:=5) (hN:=qy.nd)) (aV (iw (kJ (av 4) (iB jg T.gb alI (ay (cP (N':=["column","q","row","products","often"]) (pick:=[none,some 0,some 5,some 1,some 3]) (bZ.of rfl rfl) (cZ (ay (av 0) aB) T.cB) (λ_ _ _ _ _ _=>(bw (i:=0) (hN:=(by decide +kernel:List.Nodup (["column","q","row","products","often"]:List Str))))) (λ_ _ _ _ _ _=>cS) (λ_ _ _ _ _ _=>(bu T.Fw (X8 T) (hr.mono (by decide)) (ay (av 1) (ay (cL cM (cL cM (av 3) (av 4)) (av 2)) (ay (av 0) (ay aX aB))))))) aB)))))) (aV (iw (kJ (av 2) (iB jg T.gb alI (ay (av 4) aB)))))))) ?_
  exact(aV (bJ (av 2)))
theorem mW:b9 ["n","squares","lines","place","x","y","pairs","one","other"] ["n","squares"] (aQ qW):=⟨rfl,rfl,rfl,by decide +kernel,rfl,by decide +kernel,by decide +kernel⟩
theorem Yi(T:Tx K mg):bI P w K mg base bB 2 T.l0 T.EM ["n","squares"] (bM K 2 uY) :=
 cC (k:=1) T.FF.fn mW rfl rfl λcdv A outer s H E hr=>by
  show bV _ _ pZ
  unfold pZ
  refine aS (bD (i:=2) (iV aB) (hN:=mW.nd)) ?_
  refine aS (e7 (cZ (ay (aM dY (av 0) (av 0)) aB) T.cB) (bw (i:=3) (hN:=mW.nd)) (aS (bD (i:=4) (aM oN (av 3) (av 0)) (hN:=mW.nd)) (aS (bD (i:=5) (aM gE (av 3) (av 0)) (hN:=mW.nd)) (aV (iw (kJ (av 2) (aM rX (fF (ay (av 4) (ay (av 5) aB))) (cP (N':=["square","y","x"]) (pick:=[none,some 5,some 4]) (bZ.of rfl rfl) (iZ (av 1)) (λ_ _ _ _ _ _=>(bw (i:=0) (hN:=(by decide +kernel:List.Nodup (["square","y","x"]:List Str))))) (λ_ _ _ _ _ _=>cS) (λ_ _ _ _ _ _=>(cL cM (cL cM (av 0) (av 2)) (av 1))))))))))) ?_
  refine aS (bD (i:=6) (iV aB) (hN:=mW.nd)) ?_
  refine aS (e7 (cZ (ay (aM dY (av 0) (av 0)) aB) T.cB) (bw (i:=7) (hN:=mW.nd)) (aV (e7 (DS (ay (aM c8 (av 7) aX) (ay (aM dY (av 0) (av 0)) aB)) T.cB) (bw (i:=8) (hN:=mW.nd)) (aV (eZ (gU (bT NU T.BS boot_any (ay (cP (N':=["mine","own"]) (pick:=[none,none]) (bZ.of rfl rfl) (DR (ay (cL cM (av 2) (av 7)) (ay (cL cM (av 2) (av 8)) aB)) T.yj) (λ_ _ _ _ _ _=>(sJ (n:=2) (i8 (bw (i:=0) (hN:=(by decide +kernel:List.Nodup (["mine","own"]:List Str)))) (i8 (bw (i:=1) (hN:=(by decide +kernel:List.Nodup (["mine","own"]:List Str)))) sI)))) (λ_ _ _ _ _ _=>cS) (λ_ _ _ _ _ _=>(jM fT (av 0) (av 1)))) aB))) (aV (iw (kJ (av 6) (rU (ay (av 7) (ay (av 8) aB)))))) fm))))) ?_
  exact(aV (bJ (bu T.Fv (X0 T) (hr.mono (by decide)) (ay (aM dY (av 0) (av 0)) (ay (av 6) aB)))))
theorem ux:b9 ["pot","n","left","found","k"] ["pot"] (aQ qM):=⟨rfl,rfl,rfl,by decide +kernel,rfl,by decide +kernel,by decide +kernel⟩
theorem Yc(T:Tx K mg):bI P w K mg base bB 6 T.lR T.ED ["pot"] (bM K 1 oW) :=
 aeQ (k:=5) T.Fy.fn ux rfl rfl λcdv A outer s H E hr=>by
  show bV _ _ nU
  unfold nU
  refine aS (bD (i:=1) (aM c8 aX (bu T.j4 (nh T) (hr.mono (by decide)) (ay (av 0) (ay aX aB)))) (hN:=ux.nd)) ?_
  refine aS (eZ (fu fT (av 1) aX) (aV (bJ (rU (ay (av 1) (ay (Bw (fF (ay (bu T.Fx (Yb T) (hr.mono (by decide)) (ay (av 0) (ay (av 1) aB))) aB)) Bs (Br (bu T.j4 (nh T) (hr.mono (by decide)) (ay (av 0) (ay aX aB))))) aB))))) fm) ?_
  refine aS (bD (i:=2) (bu T.FH (Yk T) (hr.mono (by decide)) (ay (av 1) aB)) (hN:=ux.nd)) ?_
  refine aS (bD (i:=3) (iV aB) (hN:=ux.nd)) ?_
  refine aS (e7 (cZ (ay (bu T.j4 (nh T) (hr.mono (by decide)) (ay (av 0) (ay (av 1) aB))) aB) T.cB) (bw (i:=4) (hN:=ux.nd)) (aV (iw (kJ (av 3) (JD (av 2) (bu T.j4 (nh T) (hr.mono (by decide)) (ay (av 0) (ay (bT dP T.dc alj (ay (av 2) aB)) aB)))))))) ?_
  exact(aV (bJ (rU (ay (av 1) (ay (av 3) aB)))))
theorem kF:b9 ["script","k","pot","n","squares","handed","g","b"] ["script"] (aQ rA):=⟨rfl,rfl,rfl,by decide +kernel,rfl,by decide +kernel,by decide +kernel⟩
theorem Yn(T:Tx K mg):bI P w K mg base bB 8 T.kg T.EV ["script"] (bM K 1 u5) :=
 cC (k:=7) T.MO.fn kF rfl rfl λcdv A outer s H E hr=>by
  show bV _ _ tS
  unfold tS
  refine aS (e7 (cZ (ay aX aB) T.cB) (bw (i:=1) (hN:=kF.nd)) (aS (bD (i:=2) (bu T.FE (Yh T) (hr.mono (by decide)) (ay (bu T.FJ (Ym T) (hr.mono (by decide)) (ay (av 0) (ay (av 1) aB))) aB)) (hN:=kF.nd)) (aS (uw (bu T.Fy (Yc T) (hr.mono (by decide)) (ay (av 2) aB)) (sJ (n:=2) (i8 (bw (i:=3) (hN:=kF.nd)) (i8 (bw (i:=4) (hN:=kF.nd)) sI)))) (aS (bD (i:=5) (iB ahg T.oQ boot_list (ay (av 4) aB)) (hN:=kF.nd)) (aS (eZ (PW.pt (rV (jL (gU (bu T.vO (BF T 3) (hr.mono (by decide)) (ay (bu T.Fi (XU T) (hr.mono (by decide)) (ay (av 3) (ay (av 5) aB))) (ay (bu T.FF (Yi T) (hr.mono (by decide)) (ay (av 3) (ay (av 4) aB))) aB))))) (uG (fu (JY (yH hr)) (av 5) (av 4))))) (aV (bJ jN)) fm) (aS (bD (i:=6) (aM c8 aX (bT dP T.dc alj (ay (av 4) aB))) (hN:=kF.nd)) (aS (bD (i:=7) (aM dY (av 6) (aM d9 (av 6) aX)) (hN:=kF.nd)) (aS (eZ (fu fT (av 6) (aM c8 (av 3) aX)) (aV (bD (i:=7) xS (hN:=kF.nd))) fm) (aV (eZ (jL (gU (bu T.vO (BF T 3) (hr.mono (by decide)) (ay (bu T.Fj (XW T) (hr.mono (by decide)) (ay (av 3) (ay (av 5) aB))) (ay (rU (ay (aM dY (av 3) (av 3)) (ay (aM dY (av 6) (aM d9 (av 3) aX)) (ay (aM c8 (aM d9 (av 3) aX) (aM dY (aM d9 (av 6) aX) (aM d9 (av 6) aX))) (ay (av 7) aB))))) aB))))) (aV (bJ jN)) fm)))))))))) ?_
  exact(aV (bJ jN))
end
end Ev
namespace Ev
open PySem L2
theorem bR{s t:ah}{e e':Ev}{c c':aa}(h:s e c=.ok (.nx e') c'):aD s t e c=t e' c':=by rw[jF,h];rfl
theorem rZ{i:Int}(h:0<=i):∃n:Nat,i=n:=⟨i.toNat,by omega⟩
def d8(j:Nat) (n:Nat) (c:aa):Prop:=c.length=n/\j<n/\∃p:Int,c[j]? = some (.lst [.int p])
theorem d8.set{j n:Nat}{c:aa}(h:d8 j n c) (p:Int):d8 j n (c.set j (.lst [.int p])):=by
 obtain⟨h1,h2,_⟩:=h
 exact⟨by simp[h1],h2,p,by rw[alT (by omega)]⟩
theorem ug{j n:Nat}{c:aa}{dJ:Int}(h:d8 j n c) (h0:0<dJ) (h1:dJ<1073741824) :
  ∃(x:Int) (c':aa),0<=x/\x<dJ/\d8 j n c'/\cz [.ref j,.int dJ] c=.ok (.int x) c':=by
 obtain⟨hl,hj,p,hp⟩:=id h
 refine⟨p % dJ,c.set j (.lst [.int (p/dJ)]),amr _ (by omega),ams _ h0,h.set _,?_⟩
 have e1:aE (.ref j) (.int 0) c=.ok (.int p) c:=by
  unfold aE fP
  simp[hp]
 have e2:kE (.ref j) (.int 0) (.int (p/dJ)) c=.ok () (c.set j (.lst [.int (p/dJ)])):=by
  unfold kE
  simp[hp,fV]
 have e3:(c.set j (.lst [.int (p/dJ)])).take c.length=c.set j (.lst [.int (p/dJ)]):=by
  rw[amY];simp
 simp(disch:=omega) [cz,pW,e1,iY,nN,e2,e3]
theorem Vx(cell:Int) (c:aa):∃p:Int,oX [.int cell] c=.ok (.ref c.length) (c++[.lst [.int p]]):=by
 by_cases h:10^18<=cell
 ·refine⟨cell-10^18,?_⟩
  simp(disch:=omega) [oX,pY,Jv,h]
  rw[if_pos (by simpa using h)]
  simp[dM]
 ·obtain⟨e',c',⟨⟨q,v1,v2,rfl⟩,rfl⟩,hf⟩:=Ei (g:=az 2) (s:=(aD (aF 3 (au bN (au aU (au aZ (au aZ (au bN (ak 0) (dC (.int 2147483629))) (au aU (dC (.int 7919)) (ak 2))) (dC (.int 1))) (dC (.int 48271))) (dC (.int 2147483647)))) (aD (aF 3 (au bN (au aZ (au aZ (au aU (ak 3) (ak 3)) (au aU (dC (.int 69621)) (ak 2))) (dC (.int 7))) (dC (.int 2147483587)))) (aF 1 (au aZ (au aU (ak 1) (dC (.int 2147483587))) (ak 3))))))
   (λe c'=>(∃q v1 v2,e=[some (.int cell),some (.int q),v1,v2])/\c'=c) (aT 0 64) [some (.int cell),some (.int 0),none,none] c ⟨⟨0,none,none,rfl⟩,rfl⟩ (λx hx e c' ⟨⟨q,v1,v2,he⟩,hc⟩=>by
    obtain⟨i,rfl,i0,i1⟩:=uR hx
    subst he;subst hc
    have b0:0<=(cell % 2147483629+7919*i+1)*48271 % 2147483647:=amr _ (by decide)
    have b1:(cell % 2147483629+7919*i+1)*48271 % 2147483647<2147483647:=ams _ (by decide)
    generalize hm:(cell % 2147483629+7919*i+1)*48271 % 2147483647=m at b0 b1
    refine⟨_,[some (.int cell),some (.int (q*2147483587+(m*m+69621*i+7) % 2147483587)),some (.int i),some (.int ((m*m+69621*i+7) % 2147483587))],_,_,rfl,by simp(disch:=omega) [iY,yo,mul_r,hm],⟨⟨_,_,_,rfl⟩,rfl⟩⟩)
  refine⟨q,?_⟩
  have hh:¬(1000000000000000000<=cell):=by simpa using h
  simp(disch:=omega) [oX,pY,Jv,hh]
  rw[hf]
  simp[dM]
theorem ahe(ns:List Int) (k:Int) (h:0<=k) (c:aa):∃x:Int,pe [.cF ns,.int k] c=.ok (.int x) c:=by
 by_cases q:k<ns.length
 ·have hk:k.toNat<ns.length:=by omega
  refine⟨ns[k.toNat],?_⟩
  have e:aE (.cF ns) (.int k) c=.ok (.int ns[k.toNat]) c:=by
   show(match cT (ns.map D.int) k with|some d=>R.ok d c|none=>R.bad)=_
   have:cT (ns.map D.int) k=some (.int ns[k.toNat]):=by
    have:=gO (xs:=ns.map D.int) (j:=k.toNat) (v:=.int ns[k.toNat]) (by simp[hk])
    rw[Int.toNat_of_nonneg h]at this
    exact this
   rw[this]
  simp[pe,p8,q,e]
 ·exact⟨0,by simp[pe,p8,q]⟩
theorem take2{j:Nat}{c:aa}{p dJ:Int}(hp:c[j]? = some (.lst [.int p])) (h0:0<dJ) (h1:dJ<1073741824):cz [.ref j,.int dJ] c=.ok (.int (p % dJ)) (c.set j (.lst [.int (p/dJ)])):=by
 have hj:j<c.length:=(ala.mp hp).1
 have e1:aE (.ref j) (.int 0) c=.ok (.int p) c:=by
  unfold aE fP
  simp[hp]
 have e2:kE (.ref j) (.int 0) (.int (p/dJ)) c=.ok () (c.set j (.lst [.int (p/dJ)])):=by
  unfold kE
  simp[hp,fV]
 have e3:(c.set j (.lst [.int (p/dJ)])).take c.length=c.set j (.lst [.int (p/dJ)]):=by
  rw[amY];simp
 simp(disch:=omega) [cz,pW,e1,iY,nN,e2,e3]
theorem Mt(l:List D):l.filter (λ_=>true)=l:=by simp
theorem Ji{β:Type}(m:Nat) (F:D->β):(aT 0 (m:Int)).map F=(List.range m).map λi:Nat=>F (.int (i:Int)):=by
 unfold aT
 rw[aln,show((m:Int)-0).toNat=m by omega]
 refine alY λi _=>?_
 simp
def PO(j n:Nat) (os:List Nat) (c:aa):Prop:=c.length=n+1/\j<n/\(∃p:Int,c[j]? = some (.lst [.int p]))/\c[n]? = some (.lst (nD os))
def uK:af:=(jy (ak 1) (aC 2 cz (ao (ak 2) (ao (aG bg (ao (ak 1) aq)) aq))))
theorem aa6(l:List Nat) (i:Nat):(nD l).eraseIdx i=nD (l.eraseIdx i):=by
 rw[amB,amB]
 simp[nD,amW,aoG]
theorem zR{l:List Nat}{i:Nat}(h:i<l.length):l.Perm (l[i]::l.eraseIdx i):=by
 have e:l.take i++l[i]::l.drop (i+1)=l:=by rw[<-anG h,amA]
 rw[amB]
 have p:(l.take i++l[i]::l.drop (i+1)).Perm (l[i]::(l.take i++l.drop (i+1))):=aoC
 rwa[e]at p
theorem Xv{j n:Nat}{left:List Nat}{c:aa}{v:Option D}(hP:PO j n left c) (h1:0<left.length) (h2:left.length<1000) :
  ∃(x:Nat) (rest:List Nat) (c':aa),left.Perm (x::rest)/\PO j n rest c'/\(∀k,k≠j->k<n->c'[k]? = c[k]?)/\uK [v,some (.ref n),some (.ref j)] c=.ok (.int (x:Int)) c':=by
 obtain⟨g1,g2,⟨p,g3⟩,g4⟩:=hP
 have ht:=take2 (dJ:=(left.length:Int)) g3 (by omega) (by omega)
 have x0:=amr p (show(left.length:Int)≠0 by omega)
 have x1:=ams p (show(0:Int)<(left.length:Int) by omega)
 generalize p % (left.length:Int)=x at ht x0 x1
 obtain⟨i,rfl⟩:=rZ x0
 generalize hc1:c.set j (.lst [.int (p/(left.length:Int))])=c1 at ht
 have l1:c1.length=n+1:=by rw[<-hc1];simp[g1]
 have q1:c1[n]? = some (.lst (nD left)):=by rw[<-hc1,alG (by omega)];exact g4
 have q0:c1[j]? = some (.lst [.int (p/(left.length:Int))]):=by rw[<-hc1,alT (by omega)]
 have hi:i<left.length:=by omega
 have hlen:bg [.ref n] c=.ok (.int (left.length:Int)) c:=by
  unfold bg
  dsimp only[fP]
  rw[g4]
  simp[nD]
 have hget:(nD left)[i]? = some (.int (left[i]:Nat)):=by simp[nD,hi]
 refine⟨left[i],left.eraseIdx i,c1.set n (.lst (nD (left.eraseIdx i))),zR hi,⟨by simp[l1],g2,⟨_,by rw[alG (by omega)];exact q0⟩,by rw[alT (by omega)]⟩,λk k1 k2=>by rw[alG (by omega),<-hc1,alG (by omega)],?_⟩
 unfold uK jy
 simp only[bK,gz,gs,R.aA,x_call,bz,eN,bC,hlen,alc,aly,if_pos,ht,q1]
 rw[if_pos ⟨by omega,by rw[show(nD left).length=left.length by simp[nD]];omega,by rw[show(nD left).length=left.length by simp[nD]];omega⟩,am7,hget]
 dsimp only
 rw[aa6]
theorem JK{j n:Nat}:∀(ks:List D) (v:Option D) (acc:List D) (left:List Nat) (c:aa),left.length=ks.length->left.length<1000->PO j n left c ->
  ∃(os:List Nat) (c':aa),os.Perm left/\PO j n [] c'/\(∀k,k≠j->k<n->c'[k]? = c[k]?)/\bA (λ_=>True) (az 0) aH uK ks [v,some (.ref n),some (.ref j)] acc c=.ok (acc++nD os) c'
 |[],v,acc,left,c,hl,_,hP=>by
  have:left=[]:=aoD.mp (by simpa using hl)
  subst this
  exact⟨[],c,.refl _,hP,λ_ _ _=>rfl,by simp[nD]⟩
 |k::ks,v,acc,left,c,hl,h2,hP=>by
  rw[alc]at hl
  obtain⟨x,rest,c1,hp,P1,f1,h1⟩:=Xv (v:=some k) hP (by omega) h2
  have hr:rest.length+1=left.length:=by have:=hp.length_eq;simpa using this.symm
  obtain⟨os,c2,hp2,P2,f2,h⟩:=JK ks (some k) (acc++[.int (x:Int)]) rest c1 (by omega) (by omega) P1
  refine⟨x::os,c2,(hp2.cons x).trans hp.symm,P2,λk k1 k2=>(f2 k k1 k2).trans (f1 k k1 k2),?_⟩
  have e1:az 0 k [v,some (.ref n),some (.ref j)] c=.ok [some k,some (.ref n),some (.ref j)] c:=rfl
  rw[jf,e1,R.aA,kq,R.aA,if_pos rfl,h1,R.aA,h,alu]
  rfl
theorem Xr{j:Nat}{q:Int}{c:aa}(b:0<q/\q<1000):(aF 2 (vP (ao (ak 1) aq))) [some (.ref j),some (.int q),none] c=.ok (.nx [some (.ref j),some (.int q),some (.ref c.length)]) (c++[.lst ((gp 0 q).map D.int)]):=by
 simp only[f6,PY,bz,bK,gz,gs,bC,R.aA]
 rw[if_pos b]
 rfl
theorem Xq{j n:Nat}{q:Int}{l:List D}{c c':aa}(b:-4611686018427387904<=q/\q<4611686018427387904) (hl:(aT 0 q).length<sizeLine) (hc:bA (λ_=>True) (az 0) aH uK (aT 0 q) [none,some (.ref n),some (.ref j)] [] c=.ok l c'):(aL (aG b7 (ao (aR (aY (ao (ak 1) aq)) [none,some 2,some 0] (az 0) aH (jy (ak 1) (aC 2 cz (ao (ak 2) (ao (aG bg (ao (ak 1) aq)) aq))))) aq))) [some (.ref j),some (.int q),some (.ref n)] c=.ok (.rt (.tup l)) c':=by
 have hp:cK [none,some 2,some 0] [some (.ref j),some (.int q),some (.ref n)]=[none,some (.ref n),some (.ref j)]:=rfl
 unfold uK at hc
 simp only[iO,eN,bz,dB,gj,bK,gz,gs,bC,R.aA]
 rw[if_pos (by omega)]
 simp only[R.aA]
 rw[if_pos hl,hp,hc]
 rfl
theorem Jj(m:Nat):gp 0 (m:Int)=(List.range m).map λk:Nat=>(k:Int):=by
 unfold gp
 rw[show((m:Int)-0).toNat=m by omega]
 refine alY λk _=>?_
 omega
theorem JJ{j n m:Nat}{c:aa}(hP:d8 j n c) (h1:1<=m) (hm:m<1000):∃os c',os.Perm (List.range m)/\d8 j n c'/\(∀k,k≠j->k<n->c'[k]? = c[k]?)/\fJ [.ref j,.int (m:Int)] c=.ok (.tup (nD os)) c':=by
 have hs:=eO (n:=1000) (by decide)
 obtain⟨hl,hj,p,hp⟩:=hP
 have e0:=Xr (j:=j) (q:=(m:Int)) (c:=c) (by omega)
 have hr:(gp 0 (m:Int)).map D.int=nD (List.range m):=by rw[Jj];simp[nD]
 rw[hr]at e0
 have P0:PO j n (List.range m) (c++[.lst (nD (List.range m))]):=⟨by simp[hl],hj,⟨p,by rw[alA (by omega)];exact hp⟩,by rw[alL (by omega),hl];simp⟩
 obtain⟨os,c2,ho,P2,f2,hc⟩:=JK (aT 0 (m:Int)) none [] (List.range m) _ (by rw[e8,alR];omega) (by rw[alR];omega) P0
 rw[alg]at hc
 have e1:=Xq (q:=(m:Int)) (by omega) (by rw[e8];omega) hc
 have hb:tN=aD (aF 2 (vP (ao (ak 1) aq))) (aL (aG b7 (ao (aR (aY (ao (ak 1) aq)) [none,some 2,some 0] (az 0) aH (jy (ak 1) (aC 2 cz (ao (ak 2) (ao (aG bg (ao (ak 1) aq)) aq))))) aq))):=rfl
 have es:cO 3 [D.ref j,.int (m:Int)]=[some (.ref j),some (.int (m:Int)),none]:=rfl
 obtain⟨l3,_,⟨p3,q3⟩,_⟩:=P2
 refine⟨os,c2.take n,ho,⟨by rw[ami];omega,hj,p3,by rw[ant hj];exact q3⟩,λk k1 k2=>by rw[ant k2,f2 k k1 k2,alA (by omega)],?_⟩
 rw[hl]at e0
 rw[fJ,fk,hb,es,bR e0,e1]
 simp only[R.aA]
 rw[rP,if_pos (uM os),hl]
theorem BC{j n m:Nat}{c:aa}(hP:d8 j n c) (h1:1<=m) (hm:m<1000):∃os c',os.Perm (List.range m)/\d8 j n c'/\fJ [.ref j,.int (m:Int)] c=.ok (.tup (nD os)) c' :=
 let⟨os,c',h1,h2,_,h3⟩:=JJ hP h1 hm
 ⟨os,c',h1,h2,h3⟩
theorem A6{s t:ah}{e:Ev}{c c':aa}{d:D}(h:s e c=.ok (.rt d) c'):aD s t e c=.ok (.rt d) c':=by
 rw[jF,h]
 rfl
def It(d:D):Prop:=(∃i:Int,d=.int i)\/d=.bl true\/d=.aO\/(∃z,d=.str z)\/∃l,d=.tup l
def iA(q:Int):D->Bool
 |.int i=>decide (0<=i)&&decide (i<=q-1)
 |_=>false
def vm:D->Bool
 |.int _=>true
 |_=>false
theorem Qf{d:D}(h:It d) (c:aa):u6 [d] c=.ok (.bl (vm d)) c:=by
 have tu:∀l,bO [.tup l,.ty "int"] c=.ok (.bl false) c:=λ_=>rfl
 rcases h with⟨i,rfl⟩|rfl|rfl|⟨z,rfl⟩|⟨l,rfl⟩<;>simp[u6,p9,vm,tu]
theorem acZ{d:D}(h:vm d=false) (q:Int):iA q d=false:=by
 cases d<;>first|(cases h;done)|rfl
theorem acY{d:D}(h:vm d=true):∃i,d=.int i:=by
 cases d<;>first|(cases h;done)|exact⟨_,rfl⟩
theorem Qd{d:D}(h:It d) (q:Int) (c:aa):gY [d,.int 0,.int (q-1)] c=.ok (.bl (iA q d)) c:=by
 have hw:=Qf h c
 cases hi:vm d with
 |false =>
  rw[hi]at hw
  rw[acZ hi]
  simp[gY,nX,hw]
 |true =>
  obtain⟨i,rfl⟩:=acY hi
  rw[hi]at hw
  by_cases q0:0<=i<;>simp[gY,nX,hw,iA,q0]
theorem Od{a:af}{T:D}{q:Int}{c:aa}(ha:∀d,It d->a [some d,some T] c=.ok (.bl (iA q d)) c):∀(l:List D) (v:Option D) (acc:List D),(∀d∈l,It d)->bA (λ_=>True) (az 0) aH a l [v,some T] acc c=.ok (acc++(l.map (iA q)).map D.bl) c
 |[],v,acc,_=>by simp
 |d::l,v,acc,h=>by
  have h1:az 0 d [v,some T] c=.ok [some d,some T] c:=rfl
  rw[jf,h1,R.aA,kq,R.aA,if_pos rfl,ha d (h d (.head _)),R.aA,Od ha l _ _ (λz hz=>h z (.tail _ hz)),alu]
  rfl
theorem G1(l:List Bool) (c:aa):eX [.lst (l.map D.bl)] c=.ok (.bl (l.all id)) c:=by
 unfold eX m7
 dsimp only
 rw[Ad]
theorem uE:∀{A B:List Nat},A.Nodup->(∀x∈A,x∈B)->A.length=B.length->A.Perm B
 |[],B,_,_,hl=>by
  have:B=[]:=aoD.mp (by simpa using hl.symm)
  subst this;exact .refl _
 |a::A,B,hn,hs,hl=>by
  obtain⟨h1,h2⟩:=al8.mp hn
  have ha:=hs a (.head _)
  have hp:=List.perm_cons_erase ha
  have he:(B.erase a).length=B.length-1:=aon ha
  have ih:=uE (A:=A) (B:=B.erase a) h2 (λx hx=>(aom (λe:x=a=>h1 (by rw[<-e];exact hx))).mpr (hs x (.tail _ hx))) (by rw[he];rw[alc]at hl;omega)
  exact(ih.cons a).trans hp.symm
theorem RQ{ps:List Nat}{m:Nat}(hl:ps.length=m) (hm:∀p∈ps,p<m):(ck ps).length=m↔ps.Perm (List.range m):=by
 have hn:=yi (mP ps)
 constructor
 ·intro h
  have h1:(ck ps).Perm ps:=uE hn (λx hx=>jT.mp hx) (by omega)
  have h2:(ck ps).Perm (List.range m):=uE hn (λx hx=>akZ.mpr (hm x (jT.mp hx))) (by rw[alR];exact h)
  exact h1.symm.trans h2
 ·intro h
  have hd:ps.Nodup:=h.nodup_iff.mpr apB
  have h1:ps.Perm (ck ps):=(aps hd hn).mpr λx=>jT.symm
  rw[<-h1.length_eq,hl]
theorem BW(ps:List Nat):nD ps=(ps.map λk:Nat=>(k:Int)).map D.int:=by simp[nD]
theorem F2:∀{ps qs:List Nat},ps.map (λk:Nat=>(k:Int))=qs.map (λk:Nat=>(k:Int))->ps=qs
 |[],[],_=>rfl
 |[],q::qs,h=>by simp at h
 |p::ps,[],h=>by simp at h
 |p::ps,q::qs,h=>by
  rw[ak6,ak6]at h
  obtain⟨h1,h2⟩:=List.cons.inj h
  rw[F2 h2,show p=q by omega]
theorem Lj:∀{a b:List Int},a.map D.int=b.map D.int->a=b
 |[],[],_=>rfl
 |[],y::b,h=>by simp at h
 |x::a,[],h=>by simp at h
 |x::a,y::b,h=>by
  rw[ak6,ak6]at h
  obtain⟨h1,h2⟩:=List.cons.inj h
  cases h1
  rw[Lj h2]
theorem aa5{ps qs:List Nat}(h:nD ps=nD qs):ps=qs:=by
 rw[BW,BW]at h
 exact F2 (Lj h)
theorem Oc{m:Nat}:∀{xs:List D},(xs.map (iA (m:Int))).all id=true->∃ps:List Nat,xs=nD ps/\∀p∈ps,p<m
 |[],_=>⟨[],rfl,λp hp=>(by cases hp)⟩
 |d::xs,h=>by
  rw[ak6,List.all_cons,ald]at h
  obtain⟨ps,rfl,hp⟩:=Oc h.2
  have hd:iA (m:Int) d=true:=h.1
  cases d with
  |int i =>
   simp only[iA,ald,decide_eq_true_eq]at hd
   obtain⟨k,rfl⟩:=rZ hd.1
   exact⟨k::ps,rfl,λp eU=>by
    rcases akY.mp eU with rfl|h'
    ·omega
    ·exact hp p h'⟩
  |_=>cases hd
theorem Jw{m:Nat}:∀{ps:List Nat},(∀p∈ps,p<m)->((nD ps).map (iA (m:Int))).all id=true
 |[],_=>rfl
 |p::ps,h=>by
  have h1:=Jw (ps:=ps) λq hq=>h q (.tail _ hq)
  have h2:=h p (.head _)
  show(iA (m:Int) (.int (p:Int))&&((nD ps).map (iA (m:Int))).all id)=true
  rw[h1]
  simp[iA];omega
def ai1(m:Nat) (xs:List D):Prop:=∃ps:List Nat,xs=nD ps/\ps.Perm (List.range m)
theorem ac1{xs:List D}{q:Int}(h:¬(xs.length:Int)=q) (c:aa):(b8 (gw (d7 (aW (aG bO (ao (ak 0) (ao (dC (.ty "tuple")) aq))))) (aW (au gG (aG bg (ao (ak 0) aq)) (ak 1)))) (aL (dC (.bl false))) cg) [some (.tup xs),some (.int q)] c=.ok (.rt (.bl false)) c:=by
 simp[h]
theorem ac0{xs:List D}{q:Int}(h:(xs.length:Int)=q) (c:aa):(b8 (gw (d7 (aW (aG bO (ao (ak 0) (ao (dC (.ty "tuple")) aq))))) (aW (au gG (aG bg (ao (ak 0) aq)) (ak 1)))) (aL (dC (.bl false))) cg) [some (.tup xs),some (.int q)] c=.ok (.nx [some (.tup xs),some (.int q)]) c:=by
 simp[h]
theorem Lf{xs:List D}{q:Int}{l:List Bool}{ps:List Nat}{n:Int}{c:aa}(hl:xs.length<sizeLine) (hc:bA (λ_=>True) (az 0) aH (aC 3 gY (ao (ak 0) (ao (dC (.int 0)) (ao (au br (ak 1) (dC (.int 1))) aq)))) xs [none,some (.int q)] [] c=.ok (l.map D.bl) c) (hs:l.all id=true->uQ c (.tup xs)=some ps) (hn:((ck ps).length:Int)=n) :
  (aL (fW (aG eX (ao (aR (dS (ak 0)) [none,some 1] (az 0) aH (aC 3 gY (ao (ak 0) (ao (dC (.int 0)) (ao (au br (ak 1) (dC (.int 1))) aq))))) aq)) (au bS (sU (ao (ak 0) aq)) (ak 1)))) [some (.tup xs),some (.int q)] c=.ok (.rt (.bl (l.all id&&decide (n=q)))) c:=by
 have hp:cK [none,some 1] [some (D.tup xs),some (.int q)]=[none,some (.int q)]:=rfl
 simp only[iO,HH,eN,bz,dB,Hz,bK,gz,gs,bC,R.aA]
 rw[if_pos hl,hp,hc]
 simp only[R.aA,G1]
 cases hA:l.all id with
 |false=>simp
 |true =>
  have h2:=hs hA
  simp only[if_true,fO,R.aA,bK,gz,gs]
  unfold sU
  simp only[bz,bK,gz,bC,R.aA,h2,hn,P6,aoo]
theorem adB{m:Nat}(hm:m<60) {xs:List D}(hx:∀d∈xs,It d) (hl:xs.length<=20) (c:aa):∃b,fU [.tup xs,.int (m:Int)] c=.ok (.bl b) c/\(b=true↔ai1 m xs):=by
 have hs:=eO (n:=1000) (by decide)
 have hb:tU=aD (b8 (gw (d7 (aW (aG bO (ao (ak 0) (ao (dC (.ty "tuple")) aq))))) (aW (au gG (aG bg (ao (ak 0) aq)) (ak 1)))) (aL (dC (.bl false))) cg) (aL (fW (aG eX (ao (aR (dS (ak 0)) [none,some 1] (az 0) aH (aC 3 gY (ao (ak 0) (ao (dC (.int 0)) (ao (au br (ak 1) (dC (.int 1))) aq))))) aq)) (au bS (sU (ao (ak 0) aq)) (ak 1)))):=rfl
 have es:∀q:Int,cO 2 [.tup xs,.int q]=[some (.tup xs),some (.int q)]:=λ_=>rfl
 by_cases h1:(xs.length:Int)=(m:Int)
 ·have hc:=Od (a:=(aC 3 gY (ao (ak 0) (ao (dC (.int 0)) (ao (au br (ak 1) (dC (.int 1))) aq))))) (T:=.int (m:Int)) (q:=(m:Int)) (c:=c) (λd h=>by
   have:=Qd h (m:Int) c
   generalize (m:Int)=q at *
   simp[this]) xs none [] hx
  rw[alg]at hc
  have LJ:∀{l:List Bool}{n:Int},(aL (fW (aG eX (ao (aR (dS (ak 0)) [none,some 1] (az 0) aH (aC 3 gY (ao (ak 0) (ao (dC (.int 0)) (ao (au br (ak 1) (dC (.int 1))) aq))))) aq)) (au bS (sU (ao (ak 0) aq)) (ak 1)))) [some (.tup xs),some (.int (m:Int))] c=.ok (.rt (.bl (l.all id&&decide (n=(m:Int))))) c->fU [.tup xs,.int (m:Int)] c=.ok (.bl (l.all id&&decide (n=(m:Int)))) c:=fun{l n} h=>by
   rw[fU,fk,hb,es,bR (ac0 h1 c),h]
   generalize (l.all id&&decide (n=(m:Int)))=z
   simp
  cases hA:(xs.map (iA (m:Int))).all id with
  |false =>
   have h:=LJ (Lf (ps:=[]) (n:=0) (by omega) hc (λh=>by rw[hA]at h;cases h) rfl)
   refine⟨_,h,?_⟩
   rw[hA,an2]
   refine⟨λh=>(by cases h),fun⟨ps,e,hp⟩=>?_⟩
   subst e
   rw[Jw λp eU=>akZ.mp (hp.mem_iff.mp eU)]at hA
   exact hA.symm
  |true =>
   obtain⟨ps,rfl,hp⟩:=Oc hA
   have hpl:ps.length=m:=by
    have:(nD ps).length=ps.length:=by simp[nD]
    omega
   have h64:(ck ps).length<64:=by
    have:=BO (yi (mP ps)) (λx hx=>jT.mp hx)
    omega
   have hN:uQ c (.tup (nD ps))=some ps:=BV h64 λx hx=>by have:=hp x hx;omega
   have h:=LJ (Lf (ps:=ps) (n:=((ck ps).length:Int)) (by omega) hc (λ_=>hN) rfl)
   refine⟨_,h,?_⟩
   rw[hA,aoo,decide_eq_true_eq]
   have hk:=RQ hpl hp
   refine⟨λh=>⟨ps,rfl,hk.mp (by omega)⟩,fun⟨qs,e,hq⟩=>?_⟩
   cases aa5 e
   have:=hk.mpr hq
   omega
 ·refine⟨false,?_,λh=>(by cases h),fun⟨ps,e,hp⟩=>?_⟩
  ·rw[fU,fk,hb,es,A6 (ac1 h1 c)]
   simp
  ·subst e
   have:=hp.length_eq
   rw[alR]at this
   exact absurd (by simp[nD,this]) h1
def aP(n:Nat) (s:Nat->Nat->Nat):D:=.tup ((List.range n).map λi=>.tup (nD ((List.range n).map (s i))))
structure eL (n:Nat) (s:Nat->Nat->Nat):Prop where
 row:∀i,i<n->((List.range n).map (s i)).Perm (List.range n)
 col:∀k,k<n->((List.range n).map λi=>s i k).Perm (List.range n)
theorem acS{ps:List Nat}:∀d∈nD ps,It d:=λd hd=>by
 obtain⟨k,_,rfl⟩:=akW.mp hd
 exact .inl ⟨_,rfl⟩
theorem LA{n:Nat}(hn:n<18) {ps:List Nat}(hp:ps.Perm (List.range n)) (c:aa):fU [.tup (nD ps),.int (n:Int)] c=.ok (.bl true) c:=by
 have hl:ps.length=n:=by have:=hp.length_eq;simpa using this
 obtain⟨b,h,i⟩:=adB (m:=n) (by omega) (xs:=nD ps) acS (by simp[nD,hl];omega) c
 have:b=true:=i.mpr ⟨ps,rfl,hp⟩
 rw[this]at h
 exact h
theorem MZ{n k:Nat}(s:Nat->Nat->Nat) (hk:k<n) (c:aa):∀(l:List Nat) (v:Option D) (acc:List D),bA (λ_=>True) (az 0) aH (au aE (ak 0) (ak 1)) (l.map λi=>.tup (nD ((List.range n).map (s i)))) [v,some (.int (k:Int))] acc c=.ok (acc++nD (l.map λi=>s i k)) c
 |[],v,acc=>by simp[nD]
 |i::l,v,acc=>by
  have h1:az 0 (.tup (nD ((List.range n).map (s i)))) [v,some (.int (k:Int))] c=.ok [some (.tup (nD ((List.range n).map (s i)))),some (.int (k:Int))] c:=rfl
  have h2:aE (.tup (nD ((List.range n).map (s i)))) (.int (k:Int)) c=.ok (.int (s i k:Nat)) c:=by
   rw[HE,gO (v:=.int (s i k:Nat)) (by simp[nD,hk])]
  have hE:(au aE (ak 0) (ak 1)) [some (.tup (nD ((List.range n).map (s i)))),some (.int (k:Int))] c=.ok (.int (s i k:Nat)) c:=by
   generalize D.tup (nD ((List.range n).map (s i)))=T at *
   simp only[fO,bK,gz,gs,R.aA,h2]
  rw[ak6,jf,h1,R.aA,kq,R.aA,if_pos rfl,hE,R.aA,MZ s hk c l,alu]
  rfl
theorem ag9{n k:Nat}(s:Nat->Nat->Nat) (hn:n<100) (hk:k<n) (c:aa):jW [aP n s,.int (k:Int)] c=.ok (.tup (nD ((List.range n).map λi=>s i k))) c:=by
 have hs:=eO (n:=1000) (by decide)
 have hc:=MZ s hk c (List.range n) none []
 rw[alg]at hc
 have e:(aL (aG b7 (ao (aR (dS (ak 0)) [none,some 1] (az 0) aH (au aE (ak 0) (ak 1))) aq))) [some (aP n s),some (.int (k:Int))] c=.ok (.rt (.tup (nD ((List.range n).map λi=>s i k)))) c:=by
  have hp:cK [none,some 1] [some (aP n s),some (.int (k:Int))]=[none,some (.int (k:Int))]:=rfl
  have hd:dS (ak 0) [some (aP n s),some (.int (k:Int))] c=.ok ⟨(List.range n).map λi=>.tup (nD ((List.range n).map (s i))),λ_=>True⟩ c:=rfl
  simp only[iO,eN,bz,dB,hd,bC,R.aA]
  rw[if_pos (by rw[ak4,alR];omega),hp,hc]
  rfl
 have hb:tV=(aL (aG b7 (ao (aR (dS (ak 0)) [none,some 1] (az 0) aH (au aE (ak 0) (ak 1))) aq))):=rfl
 rw[jW,fk,hb]
 have es:cO 2 [aP n s,.int (k:Int)]=[some (aP n s),some (.int (k:Int))]:=rfl
 rw[es,e]
 simp only[R.aA]
 rw[rP,if_pos (uM _),amf]
theorem Jd{n:Nat}{a:af}{c:aa}{q:Int}(f:Nat->D):∀(l:List Nat) (v:Option D) (acc:List D),(∀i∈l,a [some (f i),some (.int q)] c=.ok (.bl true) c)->bA (λ_=>True) (az 0) aH a (l.map f) [v,some (.int q)] acc c=.ok (acc++(l.map λ_=>true).map D.bl) c
 |[],v,acc,_=>by simp
 |i::l,v,acc,h=>by
  have h1:az 0 (f i) [v,some (.int q)] c=.ok [some (f i),some (.int q)] c:=rfl
  rw[ak6,jf,h1,R.aA,kq,R.aA,if_pos rfl,h i (.head _),R.aA,Jd (n:=n) f l _ _ (λz hz=>h z (.tail _ hz)),alu]
  rfl
theorem all_true{α:Type}(l:List α):(l.map λ_=>true).all id=true:=by
 induction l with
 |nil=>rfl
 |cons a l ih=>exact ih
theorem RU{S:D}{xs:List D}{q:Int}{l1 l2:List Bool}{c:aa}(hS:S=.tup xs) (hq:(xs.length:Int)=q) (b:1<=q/\q<=7) (hl:xs.length<sizeLine) (hlr:(aT 0 q).length<sizeLine) (h1:bA (λ_=>True) (az 0) aH (aC 2 fU (ao (ak 0) (ao (ak 1) aq))) xs [none,some (.int q)] [] c=.ok (l1.map D.bl) c) (a1:l1.all id=true) (h2:bA (λ_=>True) (az 0) aH (aC 2 fU (ao (aC 2 jW (ao (ak 2) (ao (ak 0) aq))) (ao (ak 1) aq))) (aT 0 q) [none,some (.int q),some S] [] c=.ok (l2.map D.bl) c) (a2:l2.all id=true):pq [S] c=.ok (.bl true) c:=by
 subst hS
 have hb:tT=aD (b8 (gw (d7 (aW (aG bO (ao (ak 0) (ao (dC (.ty "tuple")) aq))))) (d7 (aW (pM kR kR (dC (.int 1)) (aG bg (ao (ak 0) aq)) (dC (.int 7)))))) (aL (dC (.bl false))) cg) (aD (aF 1 (aG bg (ao (ak 0) aq))) (aD (b8 (d7 (aW (aG eX (ao (aR (dS (ak 0)) [none,some 1] (az 0) aH (aC 2 fU (ao (ak 0) (ao (ak 1) aq)))) aq)))) (aL (dC (.bl false))) cg) (aL (aG eX (ao (aR (aY (ao (ak 1) aq)) [none,some 1,some 0] (az 0) aH (aC 2 fU (ao (aC 2 jW (ao (ak 2) (ao (ak 0) aq))) (ao (ak 1) aq)))) aq))))):=rfl
 have es:cO 2 [D.tup xs]=[some (.tup xs),none]:=rfl
 have e0:(b8 (gw (d7 (aW (aG bO (ao (ak 0) (ao (dC (.ty "tuple")) aq))))) (d7 (aW (pM kR kR (dC (.int 1)) (aG bg (ao (ak 0) aq)) (dC (.int 7)))))) (aL (dC (.bl false))) cg) [some (.tup xs),none] c=.ok (.nx [some (.tup xs),none]) c:=by
  have hle:bg [.tup xs] c=.ok (.int q) c:=by rw[PZ,hq]
  simp[hq,b.1,b.2]
 have e1:(aF 1 (aG bg (ao (ak 0) aq))) [some (.tup xs),none] c=.ok (.nx [some (.tup xs),some (.int q)]) c:=by simp[hq]
 have e2:(b8 (d7 (aW (aG eX (ao (aR (dS (ak 0)) [none,some 1] (az 0) aH (aC 2 fU (ao (ak 0) (ao (ak 1) aq)))) aq)))) (aL (dC (.bl false))) cg) [some (.tup xs),some (.int q)] c=.ok (.nx [some (.tup xs),some (.int q)]) c:=by
  have hp:cK [none,some 1] [some (.tup xs),some (.int q)]=[none,some (.int q)]:=rfl
  simp only[kr,HA,wR,eN,bz,dB,Hz,bK,gz,gs,bC,R.aA]
  rw[if_pos hl,hp,h1]
  simp only[R.aA,G1,a1]
  simp
 have e3:(aL (aG eX (ao (aR (aY (ao (ak 1) aq)) [none,some 1,some 0] (az 0) aH (aC 2 fU (ao (aC 2 jW (ao (ak 2) (ao (ak 0) aq))) (ao (ak 1) aq)))) aq))) [some (.tup xs),some (.int q)] c=.ok (.rt (.bl true)) c:=by
  have hp:cK [none,some 1,some 0] [some (.tup xs),some (.int q)]=[none,some (.int q),some (.tup xs)]:=rfl
  simp only[iO,eN,bz,dB,gj,bK,gz,gs,bC,R.aA]
  rw[if_pos (by omega)]
  simp only[R.aA]
  rw[if_pos hlr,hp,h2]
  simp only[R.aA,G1,a2]
 rw[pq,fk,hb,es,bR e0,bR e1,bR e2,e3]
 simp
theorem RT{n:Nat}{s:Nat->Nat->Nat}(h:eL n s) (h1:1<=n) (h7:n<=7) (c:aa):pq [aP n s] c=.ok (.bl true) c:=by
 have hs:=eO (n:=1000) (by decide)
 have c1:=Jd (n:=n) (a:=(aC 2 fU (ao (ak 0) (ao (ak 1) aq)))) (c:=c) (q:=(n:Int)) (λi=>.tup (nD ((List.range n).map (s i)))) (List.range n) none [] (λi hi=>by
  have:=LA (by omega) (h.row i (akZ.mp hi)) c
  generalize D.tup (nD ((List.range n).map (s i)))=T at *
  generalize (n:Int)=q at *
  simp[this])
 have c2:bA (λ_=>True) (az 0) aH (aC 2 fU (ao (aC 2 jW (ao (ak 2) (ao (ak 0) aq))) (ao (ak 1) aq))) (aT 0 (n:Int)) [none,some (.int (n:Int)),some (aP n s)] [] c=.ok (((List.range n).map λ_=>true).map D.bl) c:=by
  have:=j6 (c:=c) (g:=az 0) (t:=aH) (a:=(aC 2 fU (ao (aC 2 jW (ao (ak 2) (ao (ak 0) aq))) (ao (ak 1) aq)))) (λe=>∃v,e=[v,some (.int (n:Int)),some (aP n s)]) (λ_=>true) (λ_=>.bl true) (aT 0 (n:Int)) [none,some (.int (n:Int)),some (aP n s)] [] ⟨_,rfl⟩ (λd hd e ⟨v,he⟩=>by
   subst he
   obtain⟨k',rfl,k0,k1⟩:=uR hd
   obtain⟨k,rfl⟩:=rZ k0
   refine⟨_,rfl,⟨_,rfl⟩,rfl,λ_=>?_⟩
   have g1:=ag9 s (by omega) (show k<n by omega) c
   have g2:=LA (by omega) (h.col k (by omega)) c
   show(aC 2 fU (ao (aC 2 jW (ao (ak 2) (ao (ak 0) aq))) (ao (ak 1) aq))) [some (.int (k:Int)),some (.int (n:Int)),some (aP n s)] c=_
   generalize aP n s=S at *
   generalize D.tup (nD ((List.range n).map λi=>s i k))=T at *
   generalize (n:Int)=q at *
   simp[g1,g2])
  rw[this,alg,Mt,Ji,aln]
  rfl
 rw[alg]at c1
 exact RU rfl (by simp) (by omega) (by simp;omega) (by rw[e8];omega) c1 (all_true _) c2 (all_true _)
theorem rQ{E:List (Option D)}{a:af}{n:Nat}{c:aa}(F:Nat->D) (h:∀k:Nat,k<n->a (some (.int (k:Int))::E) c=.ok (F k) c):bA (λ_=>True) (az 0) aH a (aT 0 (n:Int)) (none::E) [] c=.ok ((List.range n).map F) c:=by
 have:=j6 (c:=c) (g:=az 0) (t:=aH) (a:=a) (λe=>∃v,e=v::E) (λ_=>true) (λd=>match d with|.int k=>F k.toNat|d=>d) (aT 0 (n:Int)) (none::E) [] ⟨_,rfl⟩ (λd hd e ⟨v,he⟩=>by
  subst he
  obtain⟨k',rfl,k0,k1⟩:=uR hd
  obtain⟨k,rfl⟩:=rZ k0
  exact⟨_,rfl,⟨_,rfl⟩,rfl,λ_=>h k (by omega)⟩)
 rw[this,alg,Mt,Ji]
 congr 1
def dR(n:Nat) (r:Nat->Nat->Nat) (i:Nat):List Nat:=(List.range n).map (r i)
def jH(n:Nat) (r:Nat->Nat->Nat):D:=.lst ((List.range n).map λi=>.lst (nD (dR n r i)))
theorem Bf(n:Nat) (r:Nat->Nat->Nat) (i:Nat):((List.range n).map λk=>D.int (r i k:Nat))=nD (dR n r i):=by simp[nD,dR]
theorem abL:∀n,n<8->∀b,b<7->ck ((List.range n).map λi=>(b*i+0) % n)=List.range n->(∀i,i<n->((List.range n).map λk=>(b*i+k) % n).Perm (List.range n))/\(∀k,k<n->((List.range n).map λi=>(b*i+k) % n).Perm (List.range n)):=by decide +kernel
theorem abK:∀n,n<8->(∀i,i<n->((List.range n).map λk=>(i+k) % n).Perm (List.range n))/\(∀k,k<n->((List.range n).map λi=>(i+k) % n).Perm (List.range n)):=by decide +kernel
def mK(i k:Nat):Nat:=(Builtin.bitXor (i:Int) (k:Int)).toNat
theorem K0:(∀i,i<4->((List.range 4).map (mK i)).Perm (List.range 4))/\(∀k,k<4->((List.range 4).map λi=>mK i k).Perm (List.range 4)):=by decide +kernel
theorem Px:∀i:Nat,i<4->∀k:Nat,k<4->Builtin.bitXor (i:Int) (k:Int)=((mK i k:Nat):Int):=by decide +kernel
def six:List (List Nat):=[[0,1,2,3,4,5],[1,0,3,2,5,4],[2,4,0,5,1,3],[3,5,1,4,0,2],[4,2,5,0,3,1],[5,3,4,1,2,0]]
def iS(i k:Nat):Nat:=(six.getD i []).getD k 0
theorem KZ:(∀i,i<6->((List.range 6).map (iS i)).Perm (List.range 6))/\(∀k,k<6->((List.range 6).map λi=>iS i k).Perm (List.range 6)):=by decide +kernel
theorem ahG{q i:Int}{l:List D}{c:aa}(b:-4611686018427387904<=q/\q<4611686018427387904) (hl:(aT 0 q).length<sizeLine) (h:bA (λ_=>True) (az 0) aH (au mL (ak 1) (ak 0)) (aT 0 q) [none,some (.int i)] [] c=.ok l c):(aR (aY (ao (ak 1) aq)) [none,some 0] (az 0) aH (au mL (ak 1) (ak 0))) [some (.int i),some (.int q)] c=.ok (.lst l) c:=by
 have hp:cK [none,some 0] [some (.int i),some (.int q)]=[none,some (.int i)]:=rfl
 simp only[dB,gj,bz,bK,gz,gs,bC,R.aA]
 rw[if_pos (by omega)]
 simp only[R.aA]
 rw[if_pos hl,hp,h]
 rfl
theorem aho{q b' i:Int}{l:List D}{c:aa}(b:-4611686018427387904<=q/\q<4611686018427387904) (hl:(aT 0 q).length<sizeLine) (h:bA (λ_=>True) (az 0) aH (au bN (au aZ (au aU (ak 2) (ak 3)) (ak 0)) (ak 1)) (aT 0 q) [none,some (.int q),some (.int b'),some (.int i)] [] c=.ok l c):(aR (aY (ao (ak 1) aq)) [none,some 1,some 2,some 0] (az 0) aH (au bN (au aZ (au aU (ak 2) (ak 3)) (ak 0)) (ak 1))) [some (.int i),some (.int q),some (.int b')] c=.ok (.lst l) c:=by
 have hp:cK [none,some 1,some 2,some 0] [some (.int i),some (.int q),some (.int b')]=[none,some (.int q),some (.int b'),some (.int i)]:=rfl
 simp only[dB,gj,bz,bK,gz,gs,bC,R.aA]
 rw[if_pos (by omega)]
 simp only[R.aA]
 rw[if_pos hl,hp,h]
 rfl
def vV:af:=(aR (aY (ao (ak 1) aq)) [none,some 1,some 2,some 0] (az 0) aH (au bN (au aZ (au aU (ak 2) (ak 3)) (ak 0)) (ak 1)))
def vX:af:=(aR (aY (ao (ak 1) aq)) [none,some 0] (az 0) aH (au mL (ak 1) (ak 0)))
def pQ:af:=(aR (aY (ao (ak 1) aq)) [none,some 1,some 0] (az 0) aH (au bN (au aZ (ak 2) (ak 0)) (ak 1)))
theorem ahF{q:Int}{l:List D}{a0 a2 a3 a4 a5 a6:Option D}{c:aa}(b:-4611686018427387904<=q/\q<4611686018427387904) (hl:(aT 0 q).length<sizeLine) (h:bA (λ_=>True) (az 0) aH vX (aT 0 q) [none,some (.int q)] [] c=.ok l c):(aF 2 (aR (aY (ao (ak 1) aq)) [none,some 1] (az 0) aH vX)) [a0,some (.int q),a2,a3,a4,a5,a6] c=.ok (.nx [a0,some (.int q),some (.lst l),a3,a4,a5,a6]) c:=by
 have hp:cK [none,some 1] [a0,some (.int q),a2,a3,a4,a5,a6]=[none,some (.int q)]:=rfl
 simp only[f6,dB,gj,bz,bK,gz,gs,bC,R.aA]
 rw[if_pos (by omega)]
 simp only[R.aA]
 rw[if_pos hl,hp,h]
 rfl
theorem ahj{q:Int}{l:List D}{a0 a2 a3 a4 a5 a6:Option D}{c:aa}(b:-4611686018427387904<=q/\q<4611686018427387904) (hl:(aT 0 q).length<sizeLine) (h:bA (λ_=>True) (az 0) aH pQ (aT 0 q) [none,some (.int q)] [] c=.ok l c):(aF 2 (aR (aY (ao (ak 1) aq)) [none,some 1] (az 0) aH pQ)) [a0,some (.int q),a2,a3,a4,a5,a6] c=.ok (.nx [a0,some (.int q),some (.lst l),a3,a4,a5,a6]) c:=by
 have hp:cK [none,some 1] [a0,some (.int q),a2,a3,a4,a5,a6]=[none,some (.int q)]:=rfl
 simp only[f6,dB,gj,bz,bK,gz,gs,bC,R.aA]
 rw[if_pos (by omega)]
 simp only[R.aA]
 rw[if_pos hl,hp,h]
 rfl
theorem ahn{q b':Int}{l:List D}{a0 a2 a4 a5 a6:Option D}{c:aa}(b:-4611686018427387904<=q/\q<4611686018427387904) (hl:(aT 0 q).length<sizeLine) (h:bA (λ_=>True) (az 0) aH vV (aT 0 q) [none,some (.int q),some (.int b')] [] c=.ok l c):(aF 2 (aR (aY (ao (ak 1) aq)) [none,some 1,some 3] (az 0) aH vV)) [a0,some (.int q),a2,some (.int b'),a4,a5,a6] c=.ok (.nx [a0,some (.int q),some (.lst l),some (.int b'),a4,a5,a6]) c:=by
 have hp:cK [none,some 1,some 3] [a0,some (.int q),a2,some (.int b'),a4,a5,a6]=[none,some (.int q),some (.int b')]:=rfl
 simp only[f6,dB,gj,bz,bK,gz,gs,bC,R.aA]
 rw[if_pos (by omega)]
 simp only[R.aA]
 rw[if_pos hl,hp,h]
 rfl
theorem ahk{q i:Int}{l:List D}{c:aa}(b:-4611686018427387904<=q/\q<4611686018427387904) (hl:(aT 0 q).length<sizeLine) (h:bA (λ_=>True) (az 0) aH (au bN (au aZ (ak 2) (ak 0)) (ak 1)) (aT 0 q) [none,some (.int q),some (.int i)] [] c=.ok l c):pQ [some (.int i),some (.int q)] c=.ok (.lst l) c:=by
 have hp:cK [none,some 1,some 0] [some (.int i),some (.int q)]=[none,some (.int q),some (.int i)]:=rfl
 unfold pQ
 simp only[dB,gj,bz,bK,gz,gs,bC,R.aA]
 rw[if_pos (by omega)]
 simp only[R.aA]
 rw[if_pos hl,hp,h]
 rfl
theorem ahl{q b' i k z w:Int}{c:aa}(m1:aU (.int b') (.int i) c=.ok (.int z) c) (m2:bN (.int (z+k)) (.int q) c=.ok (.int w) c):(au bN (au aZ (au aU (ak 2) (ak 3)) (ak 0)) (ak 1)) [some (.int k),some (.int q),some (.int b'),some (.int i)] c=.ok (.int w) c:=by
 simp only[fO,bK,gz,gs,R.aA,m1,kB,m2]
theorem ahh{q i k w:Int}{c:aa}(m2:bN (.int (i+k)) (.int q) c=.ok (.int w) c):(au bN (au aZ (ak 2) (ak 0)) (ak 1)) [some (.int k),some (.int q),some (.int i)] c=.ok (.int w) c:=by
 simp only[fO,bK,gz,gs,R.aA,kB,m2]
theorem Ky{x q w:Int}(c:aa) (hq:0<q) (h:x % q=w):bN (.int x) (.int q) c=.ok (.int w) c:=by
 rw[iY c hq,h]
theorem aa9{x y w:Int}(c:aa) (h1:-1000<x) (h2:x<1000) (h:x*y=w):aU (.int x) (.int y) c=.ok (.int w) c:=by
 rw[yo c (by omega) (by omega),h]
theorem ahm{n:Nat}(h1:1<=n) (h8:n<8) (c:aa) (b i:Nat) (hb:b<7):vV [some (.int (i:Int)),some (.int (n:Int)),some (.int (b:Int))] c=.ok (.lst (nD (dR n (λi k=>(b*i+k) % n) i))) c:=by
 have hs:=eO (n:=1000) (by decide)
 have hc:=rQ (E:=[some (.int (n:Int)),some (.int (b:Int)),some (.int (i:Int))]) (a:=(au bN (au aZ (au aU (ak 2) (ak 3)) (ak 0)) (ak 1))) (n:=n) (c:=c) (λk=>.int ((b*i+k) % n:Nat)) (λk hk =>
  ahl (z:=(b:Int)*(i:Int)) (aa9 c (by omega) (by omega) rfl) (Ky c (by omega) (by rw[apC,apD,Int.natCast_mul])))
 rw[Bf n (λi k=>(b*i+k) % n)]at hc
 exact aho (by omega) (by rw[e8];omega) hc
theorem ahi{n:Nat}(h1:1<=n) (h8:n<8) (c:aa) (i:Nat):pQ [some (.int (i:Int)),some (.int (n:Int))] c=.ok (.lst (nD (dR n (λi k=>(i+k) % n) i))) c:=by
 have hs:=eO (n:=1000) (by decide)
 have hc:=rQ (E:=[some (.int (n:Int)),some (.int (i:Int))]) (a:=(au bN (au aZ (ak 2) (ak 0)) (ak 1))) (n:=n) (c:=c) (λk=>.int ((i+k) % n:Nat)) (λk hk =>
  ahh (Ky c (by omega) (by rw[apC,apD])))
 rw[Bf n (λi k=>(i+k) % n)]at hc
 exact ahk (by omega) (by rw[e8];omega) hc
theorem ahE(i:Nat) (hi:i<4) (c:aa):vX [some (.int (i:Int)),some (.int ((4:Nat):Int))] c=.ok (.lst (nD (dR 4 mK i))) c:=by
 have hs:=eO (n:=1000) (by decide)
 have hc:=rQ (E:=[some (.int (i:Int))]) (a:=(au mL (ak 1) (ak 0))) (n:=4) (c:=c) (λk=>.int (mK i k:Nat)) (λk hk=>by
  have:=Px i hi k hk
  simp only[fO,bK,gz,gs,R.aA,PB,this])
 rw[Bf 4 mK]at hc
 exact ahG (by omega) (by rw[e8];omega) hc
theorem E6:∀a b:List Int,PyData.eqvAll (a.map PyData.int) (b.map PyData.int)=decide (a=b)
 |[],[]=>by simp[PyData.eqvAll]
 |[],b::bs=>by simp[PyData.eqvAll]
 |a::as,[]=>by simp[PyData.eqvAll]
 |a::as,b::bs=>by
  rw[ak6,ak6,PyData.eqvAll,E6 as bs,PyData.eqv]
  by_cases h:a=b
  ·subst h;simp
  ·simp[h]
theorem afc(a:List Int):PyData.depthAll (a.map PyData.int)=0:=by
 induction a with
 |nil=>simp[PyData.depthAll]
 |cons x a ih=>simp[PyData.depthAll,PyData.depth,ih]
theorem MN:∀ns:List Int,eu (ns.map D.int)=some (ns.map PyData.int)
 |[]=>rfl
 |n::ns=>by
  have:=MN ns
  simp[eu,dN,this]
theorem ae3(as bs:List Int) (c:aa):My (.lst (as.map D.int)) (.lst (bs.map D.int)) c=.ok (.bl (decide (as=bs))) c/\gW (.lst (as.map D.int)) (.lst (bs.map D.int)) c=.ok (.bl (!decide (as=bs))) c:=by
 have h:∀l:List Int,gM c (.lst (l.map D.int))=some (.list (l.map PyData.int)):=λl=>by
  show(match eu (l.map D.int)with|some r=>some (PyData.list r)|none=>none)=_
  rw[MN]
 have dp:∀l:List Int,(PyData.list (l.map PyData.int)).depth<=64:=λl=>by simp[PyData.depth,afc]
 refine⟨?_,?_⟩
 ·unfold My
  rw[h,h]
  dsimp only
  rw[if_pos ⟨dp as,dp bs⟩,PyData.eqv,E6]
 ·unfold gW
  rw[h,h]
  dsimp only
  rw[if_pos ⟨dp as,dp bs⟩,PyData.eqv,E6]
def Ac(l:List Nat):List Int:=l.map λk:Nat=>(k:Int)
theorem aa7(l:List Nat):nD l=(Ac l).map D.int:=BW l
theorem Mv{n:Nat}(h1:1<=n) (r:Nat->Nat->Nat) (c:aa):∀(l:List Nat) (v:Option D) (acc:List D),bA (λ_=>True) (az 0) aH (au aE (ak 0) (dC (.int 0))) (l.map λi=>.lst (nD (dR n r i))) [v] acc c=.ok (acc++nD (l.map λi=>r i 0)) c
 |[],v,acc=>by simp[nD]
 |i::l,v,acc=>by
  have g1:az 0 (.lst (nD (dR n r i))) [v] c=.ok [some (.lst (nD (dR n r i)))] c:=rfl
  have g2:aE (.lst (nD (dR n r i))) (.int 0) c=.ok (.int (r i 0:Nat)) c:=by
   rw[ou,show(0:Int)=((0:Nat):Int)from rfl,gO (v:=.int (r i 0:Nat)) (by simp[nD,dR,alS (show 0<n by omega)])]
  have hE:(au aE (ak 0) (dC (.int 0))) [some (.lst (nD (dR n r i)))] c=.ok (.int (r i 0:Nat)) c:=by
   generalize D.lst (nD (dR n r i))=T at *
   simp only[fO,bK,oz,gz,R.aA,g2]
  rw[ak6,jf,g1,R.aA,kq,R.aA,if_pos rfl,hE,R.aA,Mv h1 r c l,alu]
  rfl
theorem afY{q:Int}{rows:List D}{ns:List Nat}{z:Bool}{a0 a3 a4 a5 a6:Option D}{c:aa}(b:0<q/\q<1000) (hl:rows.length<sizeLine) (hc:bA (λ_=>True) (az 0) aH (au aE (ak 0) (dC (.int 0))) rows [none] [] c=.ok (nD ns) c) (hN:jr (nD ns)=some ns) (hq:gW (.lst (nD (ck ns))) (.lst ((gp 0 q).map D.int)) c=.ok (.bl z) c) :
  (aW (au gW (jd (ao (aR (cD (ak 2)) [none] (az 0) aH (au aE (ak 0) (dC (.int 0)))) aq)) (pL (ao (ak 1) aq)))) [a0,some (.int q),some (.lst rows),a3,a4,a5,a6] c=.ok z c:=by
 have hp:cK [none] [a0,some (.int q),some (.lst rows),a3,a4,a5,a6]=[none]:=rfl
 have hd:cD (ak 2) [a0,some (.int q),some (.lst rows),a3,a4,a5,a6] c=.ok ⟨rows,λ_=>True⟩ c:=rfl
 have hS:jd (ao (aR (cD (ak 2)) [none] (az 0) aH (au aE (ak 0) (dC (.int 0)))) aq) [a0,some (.int q),some (.lst rows),a3,a4,a5,a6] c=.ok (.lst (nD (ck ns))) c:=by
  unfold jd
  simp only[bz,dB,hd,bC,R.aA]
  rw[if_pos hl,hp,hc]
  simp only[R.aA,dG,hN]
 have hR:pL (ao (ak 1) aq) [a0,some (.int q),some (.lst rows),a3,a4,a5,a6] c=.ok (.lst ((gp 0 q).map D.int)) c:=by
  unfold pL
  simp only[bz,bK,gz,gs,bC,R.aA]
  rw[if_pos b]
 simp only[wR,fO,hS,hR,R.aA,hq]
theorem cast_inj{a b:List Nat}(h:Ac a=Ac b):a=b:=F2 h
theorem Ur(n:Nat):gp 0 (n:Int)=Ac (List.range n):=Jj n
theorem aak(A:List Nat) (n:Nat) (c:aa):gW (.lst (nD A)) (.lst ((gp 0 (n:Int)).map D.int)) c=.ok (.bl (!decide (A=List.range n))) c:=by
 rw[aa7,(ae3 _ _ c).2,Ur]
 congr 3
 exact decide_eq_decide.mpr ⟨cast_inj,λh=>by rw[h]⟩
theorem af9{j:Nat}{q f x:Int}{a2 a3 a4 a5 a6:Option D}{c c1:aa}(hf:(if q-1>1 then q-1 else 1)=f) (t:cz [.ref j,.int f] c=.ok (.int x) c1):(aF 3 (au aZ (dC (.int 1)) (aC 2 cz (ao (ak 0) (ao (aG sd (ao (dC (.int 1)) (ao (au br (ak 1) (dC (.int 1))) aq))) aq))))) [some (.ref j),some (.int q),a2,a3,a4,a5,a6] c=.ok (.nx [some (.ref j),some (.int q),a2,some (.int (1+x)),a4,a5,a6]) c1:=by
 simp only[f6,fO,oz,x_call,eN,bz,bK,gz,gs,bC,R.aA,wO,PV,hf,alc,aly,if_pos,t,kB]
 rfl
def z7:ah:=aD (aF 3 (au aZ (dC (.int 1)) (aC 2 cz (ao (ak 0) (ao (aG sd (ao (dC (.int 1)) (ao (au br (ak 1) (dC (.int 1))) aq))) aq))))) (aD (aF 2 (aR (aY (ao (ak 1) aq)) [none,some 1,some 3] (az 0) aH vV)) (b8 (aW (au gW (jd (ao (aR (cD (ak 2)) [none] (az 0) aH (au aE (ak 0) (dC (.int 0)))) aq)) (pL (ao (ak 1) aq)))) (aF 2 (aR (aY (ao (ak 1) aq)) [none,some 1] (az 0) aH pQ)) cg))
theorem MQ{j m n:Nat}{c:aa}(hP:d8 j m c) (h1:1<=n) (h8:n<8):∃r v3 c',eL n r/\d8 j m c'/\z7 [some (.ref j),some (.int (n:Int)),none,none,none,none,none] c=.ok (.nx [some (.ref j),some (.int (n:Int)),some (jH n r),v3,none,none,none]) c':=by
 have hs:=eO (n:=1000) (by decide)
 obtain⟨f,hf⟩:∃f:Int,(if(n:Int)-1>1 then(n:Int)-1 else 1)=f:=⟨_,rfl⟩
 have hf':0<f/\f<=6:=by split at hf<;>omega
 obtain⟨x,c1,x0,x1,P1,t1⟩:=ug (dJ:=f) hP hf'.1 (by omega)
 obtain⟨b,hb⟩:=rZ (i:=1+x) (by omega)
 have e1:=af9 (a2:=none) (a3:=none) (a4:=none) (a5:=none) (a6:=none) hf t1
 rw[hb]at e1
 have c2:=rQ (E:=[some (.int (n:Int)),some (.int (b:Int))]) (a:=vV) (n:=n) (c:=c1) (λi=>.lst (nD (dR n (λi k=>(b*i+k) % n) i))) (λi _=>ahm h1 h8 c1 b i (by omega))
 have e2:=ahn (a0:=some (.ref j)) (a2:=none) (a4:=none) (a5:=none) (a6:=none) (by omega) (by rw[e8];omega) c2
 have hfc:=Mv h1 (λi k=>(b*i+k) % n) c1 (List.range n) none []
 rw[alg]at hfc
 have hN:jr (nD ((List.range n).map λi=>(b*i+0) % n))=some ((List.range n).map λi=>(b*i+0) % n):=BV (by
  have:=BO (yi (mP ((List.range n).map λi=>(b*i+0) % n))) (λx hx=>jT.mp hx)
  rw[ak4,alR]at this
  omega) (λx hx=>by
  obtain⟨i,_,rfl⟩:=akW.mp hx
  have:=al7 (b*i+0) (show 0<n by omega)
  omega)
 have hu:=afY (a0:=some (.ref j)) (a3:=some (.int (b:Int))) (a4:=none) (a5:=none) (a6:=none) (by omega) (by rw[ak4,alR];omega) hfc hN (aak _ n c1)
 by_cases hk:ck ((List.range n).map λi=>(b*i+0) % n)=List.range n
 ·have hL:=abL n h8 b (by omega) hk
  refine⟨λi k=>(b*i+k) % n,some (.int (b:Int)),c1,⟨hL.1,hL.2⟩,P1,?_⟩
  unfold z7
  rw[bR e1,bR e2,kr,hu,R.aA,decide_eq_true hk]
  rfl
 ·have hL:=abK n h8
  have c3:=rQ (E:=[some (.int (n:Int))]) (a:=pQ) (n:=n) (c:=c1) (λi=>.lst (nD (dR n (λi k=>(i+k) % n) i))) (λi _=>ahi h1 h8 c1 i)
  have e3:=ahj (a0:=some (.ref j)) (a2:=some (.lst ((List.range n).map λi=>.lst (nD (dR n (λi k=>(b*i+k) % n) i))))) (a3:=some (.int (b:Int))) (a4:=none) (a5:=none) (a6:=none) (by omega) (by rw[e8];omega) c3
  refine⟨λi k=>(i+k) % n,some (.int (b:Int)),c1,⟨hL.1,hL.2⟩,P1,?_⟩
  unfold z7
  rw[bR e1,bR e2,kr,hu,R.aA,decide_eq_false hk,if_pos (by decide)]
  exact e3
def vS:ah:=b8 (iI (aW (au bS (ak 1) (dC (.int 4)))) (aW (au bS (aC 2 cz (ao (ak 0) (ao (dC (.int 2)) aq))) (dC (.int 0))))) (aF 2 (aR (aY (ao (ak 1) aq)) [none,some 1] (az 0) aH vX)) z7
theorem af0{q:Int}{a0 a2 a3 a4 a5 a6:Option D}{c:aa}(h:¬q=4):(iI (aW (au bS (ak 1) (dC (.int 4)))) (aW (au bS (aC 2 cz (ao (ak 0) (ao (dC (.int 2)) aq))) (dC (.int 0))))) [a0,some (.int q),a2,a3,a4,a5,a6] c=.ok false c:=by simp[h]
theorem afZ{j:Nat}{x:Int}{a2 a3 a4 a5 a6:Option D}{c c1:aa}(t:cz [.ref j,.int 2] c=.ok (.int x) c1):(iI (aW (au bS (ak 1) (dC (.int 4)))) (aW (au bS (aC 2 cz (ao (ak 0) (ao (dC (.int 2)) aq))) (dC (.int 0))))) [some (.ref j),some (.int 4),a2,a3,a4,a5,a6] c=.ok (decide (x=0)) c1:=by simp[t]
theorem af4{j m n:Nat}{c:aa}(hP:d8 j m c) (h1:1<=n) (h8:n<8):∃r v3 c',eL n r/\d8 j m c'/\vS [some (.ref j),some (.int (n:Int)),none,none,none,none,none] c=.ok (.nx [some (.ref j),some (.int (n:Int)),some (jH n r),v3,none,none,none]) c':=by
 have hs:=eO (n:=1000) (by decide)
 by_cases h4:(n:Int)=4
 ·have:n=4:=by omega
  subst this
  obtain⟨x,c1,x0,x1,P1,t1⟩:=ug (dJ:=2) hP (by decide) (by decide)
  have ht:=afZ (a2:=none) (a3:=none) (a4:=none) (a5:=none) (a6:=none) t1
  by_cases hx:x=0
  ·have c2:=rQ (E:=[some (.int ((4:Nat):Int))]) (a:=vX) (n:=4) (c:=c1) (λi=>.lst (nD (dR 4 mK i))) (λi hi=>ahE i hi c1)
   have e2:=ahF (a0:=some (.ref j)) (a2:=none) (a3:=none) (a4:=none) (a5:=none) (a6:=none) (by omega) (by rw[e8];omega) c2
   refine⟨mK,none,c1,⟨K0.1,K0.2⟩,P1,?_⟩
   unfold vS
   rw[kr,show((4:Nat):Int)=4 from rfl,ht,R.aA,decide_eq_true hx,if_pos rfl]
   exact e2
  ·obtain⟨r,v3,c',hL,P',h⟩:=MQ P1 h1 h8
   refine⟨r,v3,c',hL,P',?_⟩
   unfold vS
   rw[kr,show((4:Nat):Int)=4 from rfl,ht,R.aA,decide_eq_false hx,if_neg (by decide)]
   exact h
 ·obtain⟨r,v3,c',hL,P',h⟩:=MQ hP h1 h8
  refine⟨r,v3,c',hL,P',?_⟩
  unfold vS
  rw[kr,af0 h4,R.aA,if_neg (by decide)]
  exact h
theorem nu{α:Type}{E:List (Option D)}{a:af}{c:aa}(g F:α->D):∀(l:List α) (v:Option D) (acc:List D),(∀x∈l,a (some (g x)::E) c=.ok (F x) c)->bA (λ_=>True) (az 0) aH a (l.map g) (v::E) acc c=.ok (acc++l.map F) c
 |[],v,acc,_=>by simp
 |x::l,v,acc,h=>by
  have h1:az 0 (g x) (v::E) c=.ok (some (g x)::E) c:=rfl
  rw[ak6,jf,h1,R.aA,kq,R.aA,if_pos rfl,h x (.head _),R.aA,nu g F l _ _ (λz hz=>h z (.tail _ hz)),alu]
  rfl
theorem oU(l:List Nat):nD l=l.map λk:Nat=>D.int (k:Int):=by simp[nD]
theorem uF{os:List Nat}{n x:Nat}(h:os.Perm (List.range n)) (hx:x∈os):x<n:=akZ.mp (h.mem_iff.mp hx)
theorem kI{os:List Nat}{n:Nat}(h:os.Perm (List.range n)):os.length=n:=by have:=h.length_eq;simpa using this
theorem B6{α:Type}(os:List Nat) (f:Nat->α):os.map f=(List.range os.length).map λi=>f (os.getD i 0):=by
 refine anQ (by simp) λi h1 h2=>?_
 simp[alf]
 rw[ak3 (by simpa using h1)]
 rfl
theorem xQ{os:List Nat}{n:Nat}(h:os.Perm (List.range n)):((List.range n).map λi=>os.getD i 0).Perm (List.range n):=by
 have:=B6 os id
 rw[anY,kI h]at this
 exact(apr this.symm).trans h
theorem Jf{os:List Nat}{n i:Nat}(h:os.Perm (List.range n)) (hi:i<n):os.getD i 0<n:=by
 have:=kI h
 rw[alf,ak3 (by omega)]
 exact uF h (alq _)
theorem eL.lt{n:Nat}{r:Nat->Nat->Nat}(h:eL n r) {i k:Nat}(hi:i<n) (hk:k<n):r i k<n:=uF (h.row i hi) (akW.mpr ⟨k,akZ.mpr hk,rfl⟩)
theorem eL.rows{n:Nat}{r:Nat->Nat->Nat}(h:eL n r) {os:List Nat}(ho:os.Perm (List.range n)):eL n λi k=>r (os.getD i 0) k:=by
 refine⟨λi hi=>h.row _ (Jf ho hi),λk hk=>?_⟩
 have:=(xQ ho).map λi=>r i k
 rw[aln]at this
 exact this.trans (h.col k hk)
theorem eL.cols{n:Nat}{r:Nat->Nat->Nat}(h:eL n r) {os:List Nat}(ho:os.Perm (List.range n)):eL n λi k=>r i (os.getD k 0):=by
 refine⟨λi hi=>?_,λk hk=>h.col _ (Jf ho hk)⟩
 have:=(xQ ho).map λk=>r i k
 rw[aln]at this
 exact this.trans (h.row i hi)
theorem eL.names{n:Nat}{r:Nat->Nat->Nat}(h:eL n r) {os:List Nat}(ho:os.Perm (List.range n)):eL n λi k=>os.getD (r i k) 0:=by
 refine⟨λi hi=>?_,λk hk=>?_⟩
 ·have:=(h.row i hi).map λi=>os.getD i 0
  rw[aln]at this
  exact this.trans (xQ ho)
 ·have:=(h.col k hk).map λi=>os.getD i 0
  rw[aln]at this
  exact this.trans (xQ ho)
theorem BI(n:Nat) (s:Nat->Nat->Nat):bE ((List.range n).map λi=>D.tup (nD ((List.range n).map (s i))))=true:=gV.mpr λd hd=>by
 obtain⟨i,_,rfl⟩:=akW.mp hd
 rw[Jo]
 exact uM _
theorem II{n:Nat}{os:List Nat}{f:Nat->Nat->Nat}(ho:os.length=n):D.tup (os.map λi=>D.tup (nD ((List.range n).map (f i))))=aP n λi k=>f (os.getD i 0) k:=by
 unfold aP
 rw[B6,ho]
theorem af1{A B:D}{row col k v:Int}{r:D}{c:aa}(h1:aE B (.int row) c=.ok r c) (h2:aE r (.int col) c=.ok (.int k) c) (h3:aE A (.int k) c=.ok (.int v) c):(au aE (ak 1) (au aE (au aE (ak 2) (ak 3)) (ak 0))) [some (.int col),some A,some B,some (.int row)] c=.ok (.int v) c:=by
 simp only[fO,bK,gz,gs,R.aA,h1,h2,h3]
theorem af2{A B:D}{cs l:List D}{row:Int}{c:aa}(hl:cs.length<sizeLine) (h:bA (λ_=>True) (az 0) aH (au aE (ak 1) (au aE (au aE (ak 2) (ak 3)) (ak 0))) cs [none,some A,some B,some (.int row)] [] c=.ok l c):(aG b7 (ao (aR (dS (ak 2)) [none,some 1,some 3,some 0] (az 0) aH (au aE (ak 1) (au aE (au aE (ak 2) (ak 3)) (ak 0)))) aq)) [some (.int row),some A,some (.tup cs),some B] c=.ok (.tup l) c:=by
 have hp:cK [none,some 1,some 3,some 0] [some (.int row),some A,some (.tup cs),some B]=[none,some A,some B,some (.int row)]:=rfl
 have hd:dS (ak 2) [some (.int row),some A,some (.tup cs),some B] c=.ok ⟨cs,λ_=>True⟩ c:=rfl
 simp only[eN,bz,dB,hd,bC,R.aA]
 rw[if_pos hl,hp,h]
 rfl
def z8:af:=(aG b7 (ao (aR (dS (ak 2)) [none,some 1,some 3,some 0] (az 0) aH (au aE (ak 1) (au aE (au aE (ak 2) (ak 3)) (ak 0)))) aq))
theorem af5{A B C:D}{os l:List D}{a0 a1 a3:Option D}{c:aa}(hl:os.length<sizeLine) (h:bA (λ_=>True) (az 0) aH z8 os [none,some A,some C,some B] [] c=.ok l c):(aL (aG b7 (ao (aR (dS (ak 4)) [none,some 5,some 6,some 2] (az 0) aH (aG b7 (ao (aR (dS (ak 2)) [none,some 1,some 3,some 0] (az 0) aH (au aE (ak 1) (au aE (au aE (ak 2) (ak 3)) (ak 0)))) aq))) aq))) [a0,a1,some B,a3,some (.tup os),some A,some C] c=.ok (.rt (.tup l)) c:=by
 have hp:cK [none,some 5,some 6,some 2] [a0,a1,some B,a3,some (.tup os),some A,some C]=[none,some A,some C,some B]:=rfl
 have hd:dS (ak 4) [a0,a1,some B,a3,some (.tup os),some A,some C] c=.ok ⟨os,λ_=>True⟩ c:=rfl
 unfold z8 at h
 simp only[iO,eN,bz,dB,hd,bC,R.aA]
 rw[if_pos hl,hp,h]
 rfl
section
variable {j:Nat}{q:Int}{T:D}{c c':aa}(a2 a3 a4 a5 a6:Option D)
theorem af8(h:fJ [.ref j,.int q] c=.ok T c'):(aF 4 (aC 2 fJ (ao (ak 0) (ao (ak 1) aq)))) [some (.ref j),some (.int q),a2,a3,a4,a5,a6] c=.ok (.nx [some (.ref j),some (.int q),a2,a3,some T,a5,a6]) c':=by
 simp only[f6,x_call,bz,bK,gz,gs,bC,R.aA,alc,aly,if_pos,h]
 rfl
theorem af7(h:fJ [.ref j,.int q] c=.ok T c'):(aF 5 (aC 2 fJ (ao (ak 0) (ao (ak 1) aq)))) [some (.ref j),some (.int q),a2,a3,a4,a5,a6] c=.ok (.nx [some (.ref j),some (.int q),a2,a3,a4,some T,a6]) c':=by
 simp only[f6,x_call,bz,bK,gz,gs,bC,R.aA,alc,aly,if_pos,h]
 rfl
theorem af6(h:fJ [.ref j,.int q] c=.ok T c'):(aF 6 (aC 2 fJ (ao (ak 0) (ao (ak 1) aq)))) [some (.ref j),some (.int q),a2,a3,a4,a5,a6] c=.ok (.nx [some (.ref j),some (.int q),a2,a3,a4,a5,some T]) c':=by
 simp only[f6,x_call,bz,bK,gz,gs,bC,R.aA,alc,aly,if_pos,h]
 rfl
end
theorem QX{n:Nat}(r:Nat->Nat->Nat) {i:Nat}(hi:i<n) (c:aa):aE (jH n r) (.int (i:Int)) c=.ok (.lst (nD (dR n r i))) c:=by
 unfold jH
 rw[ou,gO (v:=.lst (nD (dR n r i))) (by simp[hi])]
theorem Uk{n:Nat}(r:Nat->Nat->Nat) (i:Nat) {k:Nat}(hk:k<n) (c:aa):aE (.lst (nD (dR n r i))) (.int (k:Int)) c=.ok (.int (r i k:Nat)) c:=by
 rw[ou,gO (v:=.int (r i k:Nat)) (by simp[nD,dR,hk])]
theorem Xp{os:List Nat}{k:Nat}(hk:k<os.length) (c:aa):aE (.tup (nD os)) (.int (k:Int)) c=.ok (.int (os.getD k 0:Nat)) c:=by
 rw[HE,gO (v:=.int (os.getD k 0:Nat)) (by simp[nD,hk,alf])]
theorem af3{n:Nat}{r:Nat->Nat->Nat}(hL:eL n r) (h8:n<8) {os ns cs:List Nat}(ho:os.Perm (List.range n)) (hn:ns.Perm (List.range n)) (hc:cs.Perm (List.range n)) (c:aa) :
  bA (λ_=>True) (az 0) aH z8 (nD os) [none,some (.tup (nD ns)),some (.tup (nD cs)),some (jH n r)] [] c=.ok (os.map λi=>D.tup (nD ((List.range n).map λk=>ns.getD (r i (cs.getD k 0)) 0))) c:=by
 have hs:=eO (n:=1000) (by decide)
 have:=nu (E:=[some (.tup (nD ns)),some (.tup (nD cs)),some (jH n r)]) (a:=z8) (c:=c) (λk:Nat=>D.int (k:Int)) (λi=>D.tup (nD ((List.range n).map λk=>ns.getD (r i (cs.getD k 0)) 0))) os none [] (λi hi=>by
  have hin:=uF ho hi
  have h2:=nu (E:=[some (.tup (nD ns)),some (jH n r),some (.int (i:Int))]) (a:=(au aE (ak 1) (au aE (au aE (ak 2) (ak 3)) (ak 0)))) (c:=c) (λk:Nat=>D.int (k:Int)) (λk=>D.int (ns.getD (r i k) 0:Nat)) cs none [] (λk hk=>by
   have hkn:=uF hc hk
   have h3:=hL.lt hin hkn
   exact af1 (QX r hin c) (Uk r i hkn c) (Xp (by rw[kI hn];exact h3) c))
  rw[alg,<-oU]at h2
  have e:(cs.map λk=>D.int (ns.getD (r i k) 0:Nat))=nD ((List.range n).map λk=>ns.getD (r i (cs.getD k 0)) 0):=by
   rw[B6,kI hc,oU,aln]
   rfl
  rw[e]at h2
  exact af2 (by rw[oU,ak4,kI hc];omega) h2)
 rw[alg,<-oU]at this
 exact this
theorem MP{j m n:Nat}{c:aa}(hP:d8 j m c) (h1:1<=n) (h8:n<8):∃s c',eL n s/\d8 j m c'/\oZ [.ref j,.int (n:Int)] c=.ok (aP n s) c':=by
 have hs:=eO (n:=1000) (by decide)
 obtain⟨r,v3,c1,hL,P1,e1⟩:=af4 hP h1 h8
 obtain⟨os,c2,ho,P2,o2⟩:=BC P1 h1 (show n<1000 by omega)
 obtain⟨ns,c3,hn,P3,o3⟩:=BC P2 h1 (show n<1000 by omega)
 obtain⟨cs,c4,hc,P4,o4⟩:=BC P3 h1 (show n<1000 by omega)
 have e2:=af8 (some (jH n r)) v3 none none none o2
 have e3:=af7 (some (jH n r)) v3 (some (.tup (nD os))) none none o3
 have e4:=af6 (some (jH n r)) v3 (some (.tup (nD os))) (some (.tup (nD ns))) none o4
 have e5:=af5 (a0:=some (.ref j)) (a1:=some (.int (n:Int))) (a3:=v3) (by rw[oU,ak4,kI ho];omega) (af3 hL h8 ho hn hc c4)
 refine⟨λi k=>ns.getD (r (os.getD i 0) (cs.getD k 0)) 0,c4,((hL.rows ho).cols hc).names hn,P4,?_⟩
 have hb:tR=aD vS (aD (aF 4 (aC 2 fJ (ao (ak 0) (ao (ak 1) aq)))) (aD (aF 5 (aC 2 fJ (ao (ak 0) (ao (ak 1) aq)))) (aD (aF 6 (aC 2 fJ (ao (ak 0) (ao (ak 1) aq)))) (aL (aG b7 (ao (aR (dS (ak 4)) [none,some 5,some 6,some 2] (az 0) aH (aG b7 (ao (aR (dS (ak 2)) [none,some 1,some 3,some 0] (az 0) aH (au aE (ak 1) (au aE (au aE (ak 2) (ak 3)) (ak 0)))) aq))) aq)))))):=rfl
 have es:cO 7 [D.ref j,.int (n:Int)]=[some (.ref j),some (.int (n:Int)),none,none,none,none,none]:=rfl
 have hq:D.tup (os.map λi=>D.tup (nD ((List.range n).map λk=>ns.getD (r i (cs.getD k 0)) 0)))=aP n λi k=>ns.getD (r (os.getD i 0) (cs.getD k 0)) 0:=II (f:=λi k=>ns.getD (r i (cs.getD k 0)) 0) (kI ho)
 rw[oZ,fk,hb,es,bR e1,bR e2,bR e3,bR e4,e5,hq]
 simp only[R.aA]
 unfold aP
 rw[rP,if_pos (BI n _),amY (by rw[P4.1,hP.1];exact akV _)]
theorem RI{a0 a2:Option D}{c:aa}:(aF 1 (cW (ao (bU (ff [0,1,2,3,4,5])) (ao (bU (ff [1,0,3,2,5,4])) (ao (bU (ff [2,4,0,5,1,3])) (ao (bU (ff [3,5,1,4,0,2])) (ao (bU (ff [4,2,5,0,3,1])) aq))))))) [a0,none,a2] c=.ok (.nx [a0,some (.ref c.length),a2]) (c++[.lst ((six.take 5).map λl=>D.lst (nD l))]):=by
 simp[six,nD]
theorem RH{a0 a2:Option D}{c:aa}:(cY (dw (ak 1) (bU (ff [5,3,4,1,2,0])))) [a0,some (.ref c.length),a2] (c++[.lst ((six.take 5).map λl=>D.lst (nD l))])=.ok (.nx [a0,some (.ref c.length),a2]) (c++[.lst ((six.take 5).map (λl=>D.lst (nD l))++[D.lst (nD [5,3,4,1,2,0])])]):=by
 have h:=wg (dO:=ak 1) (da:=bU (ff [5,3,4,1,2,0])) (e:=[a0,some (.ref c.length),a2]) (c:=c) (acc:=(six.take 5).map λl=>D.lst (nD l)) (y:=D.lst (nD [5,3,4,1,2,0])) (by simp) (by simp[nD]) (by simp[nD]) (by simp[six])
 simp only[ig,h,R.aA]
theorem Tc:(six.take 5).map (λl=>D.lst (nD l))++[D.lst (nD [5,3,4,1,2,0])]=(List.range 6).map λi=>D.lst (nD (dR 6 iS i)):=by
 simp[six,dR,iS,nD,amd]
theorem RG{j:Nat}{T:D}{a1 a2:Option D}{c c':aa}(h:fJ [.ref j,.int 6] c=.ok T c'):(aF 2 (aC 2 fJ (ao (ak 0) (ao (dC (.int 6)) aq)))) [some (.ref j),a1,a2] c=.ok (.nx [some (.ref j),a1,some T]) c':=by
 simp only[f6,x_call,bz,bK,oz,gz,gs,bC,R.aA,alc,aly,if_pos,h]
 rfl
theorem RD{k:Nat}{i:Int}{l r:List D}{c:aa}(hk:c[k]? = some (.lst l)) (hi:cT l i=some (.lst r)):(aG b7 (ao (au aE (ak 1) (ak 0)) aq)) [some (.int i),some (.ref k)] c=.ok (.tup r) c:=by
 have:aE (.ref k) (.int i) c=.ok (.lst r) c:=by
  unfold aE
  dsimp only[fP]
  rw[hk]
  dsimp only
  rw[hi]
 simp only[eN,bz,fO,bK,gz,gs,bC,R.aA,this]
 rfl
theorem RE{k:Nat}{os l:List D}{a0:Option D}{c:aa}(hl:os.length<sizeLine) (h:bA (λ_=>True) (az 0) aH (aG b7 (ao (au aE (ak 1) (ak 0)) aq)) os [none,some (.ref k)] [] c=.ok l c):(aL (aG b7 (ao (aR (dS (ak 2)) [none,some 1] (az 0) aH (aG b7 (ao (au aE (ak 1) (ak 0)) aq))) aq))) [a0,some (.ref k),some (.tup os)] c=.ok (.rt (.tup l)) c:=by
 have hp:cK [none,some 1] [a0,some (.ref k),some (.tup os)]=[none,some (.ref k)]:=rfl
 have hd:dS (ak 2) [a0,some (.ref k),some (.tup os)] c=.ok ⟨os,λ_=>True⟩ c:=rfl
 simp only[iO,eN,bz,dB,hd,bC,R.aA]
 rw[if_pos hl,hp,h]
 rfl
theorem Te{j m:Nat}{c:aa}(hP:d8 j m c):∃s c',eL 6 s/\d8 j m c'/\kP [.ref j] c=.ok (aP 6 s) c':=by
 have hs:=eO (n:=1000) (by decide)
 obtain⟨hl,hj,p,hp⟩:=id hP
 have e0:=RI (a0:=some (.ref j)) (a2:=none) (c:=c)
 have e1:=RH (a0:=some (.ref j)) (a2:=none) (c:=c)
 rw[Tc]at e1
 have P0:d8 j (c.length+1) (c++[.lst ((List.range 6).map λi=>D.lst (nD (dR 6 iS i)))]):=⟨by simp,by omega,p,by rw[alA (by omega)];exact hp⟩
 obtain⟨os,c2,ho,P2,f2,o2⟩:=JJ P0 (by decide) (show 6<1000 by decide)
 have g4:c2[c.length]? = some (.lst ((List.range 6).map λi=>D.lst (nD (dR 6 iS i)))):=by rw[f2 c.length (by omega) (by omega)];simp
 have e2:=RG (a1:=some (.ref c.length)) (a2:=none) o2
 have hc:=nu (E:=[some (.ref c.length)]) (a:=(aG b7 (ao (au aE (ak 1) (ak 0)) aq))) (c:=c2) (λk:Nat=>D.int (k:Int)) (λi=>D.tup (nD (dR 6 iS i))) os none [] (λi hi=>RD g4 (gO (by simp[uF ho hi])))
 rw[alg,<-oU]at hc
 have e3:=RE (a0:=some (.ref j)) (by rw[oU,ak4,kI ho];omega) hc
 have hL:eL 6 iS:=⟨KZ.1,KZ.2⟩
 obtain⟨g1,g2,p2,g3⟩:=P2
 refine⟨λi k=>iS (os.getD i 0) k,c2.take c.length,hL.rows ho,⟨by rw[ami];omega,hj,p2,by rw[ant (by omega)];exact g3⟩,?_⟩
 have hb:tH=aD (aF 1 (cW (ao (bU (ff [0,1,2,3,4,5])) (ao (bU (ff [1,0,3,2,5,4])) (ao (bU (ff [2,4,0,5,1,3])) (ao (bU (ff [3,5,1,4,0,2])) (ao (bU (ff [4,2,5,0,3,1])) aq))))))) (aD (cY (dw (ak 1) (bU (ff [5,3,4,1,2,0])))) (aD (aF 2 (aC 2 fJ (ao (ak 0) (ao (dC (.int 6)) aq)))) (aL (aG b7 (ao (aR (dS (ak 2)) [none,some 1] (az 0) aH (aG b7 (ao (au aE (ak 1) (ak 0)) aq))) aq))))):=rfl
 have es:cO 3 [D.ref j]=[some (.ref j),none,none]:=rfl
 have hq:D.tup (os.map λi=>D.tup (nD (dR 6 iS i)))=aP 6 λi k=>iS (os.getD i 0) k:=II (f:=iS) (kI ho)
 rw[kP,fk,hb,es,bR e0,bR e1,bR e2,e3,hq]
 simp only[R.aA]
 unfold aP
 rw[rP,if_pos (BI 6 _)]
theorem abm{j:Nat}{T:D}{a0:Option D}{c c1 c2:aa}(t:cz [.ref j,.int 2] c=.ok (.int 0) c1) (h:kP [.ref j] c1=.ok T c2):(b8 (iI (aW (au bS (ak 1) (dC (.int 6)))) (aW (au bS (aC 2 cz (ao (ak 0) (ao (dC (.int 2)) aq))) (dC (.int 0))))) (aL (aC 1 kP (ao (ak 0) aq))) cg) [some (.ref j),some (.int 6)] c=.ok (.rt T) c2:=by
 simp[t,h]
theorem abn{j:Nat}{x:Int}{c c1:aa}(t:cz [.ref j,.int 2] c=.ok (.int x) c1) (hx:¬x=0):(b8 (iI (aW (au bS (ak 1) (dC (.int 6)))) (aW (au bS (aC 2 cz (ao (ak 0) (ao (dC (.int 2)) aq))) (dC (.int 0))))) (aL (aC 1 kP (ao (ak 0) aq))) cg) [some (.ref j),some (.int 6)] c=.ok (.nx [some (.ref j),some (.int 6)]) c1:=by
 simp[t,hx]
theorem abo{j:Nat}{q:Int}{c:aa}(hq:¬q=6):(b8 (iI (aW (au bS (ak 1) (dC (.int 6)))) (aW (au bS (aC 2 cz (ao (ak 0) (ao (dC (.int 2)) aq))) (dC (.int 0))))) (aL (aC 1 kP (ao (ak 0) aq))) cg) [some (.ref j),some (.int q)] c=.ok (.nx [some (.ref j),some (.int q)]) c:=by
 simp[hq]
theorem KH{j:Nat}{q:Int}{T:D}{c c':aa}(h:oZ [.ref j,.int q] c=.ok T c'):(aL (aC 2 oZ (ao (ak 0) (ao (ak 1) aq)))) [some (.ref j),some (.int q)] c=.ok (.rt T) c':=by
 simp[h]
theorem ae9{j m n:Nat}{c:aa}(hP:d8 j m c) (h1:1<=n) (h8:n<8):∃s c',eL n s/\d8 j m c'/\nk [.ref j,.int (n:Int)] c=.ok (aP n s) c':=by
 have hb:tG=aD (b8 (iI (aW (au bS (ak 1) (dC (.int 6)))) (aW (au bS (aC 2 cz (ao (ak 0) (ao (dC (.int 2)) aq))) (dC (.int 0))))) (aL (aC 1 kP (ao (ak 0) aq))) cg) (aL (aC 2 oZ (ao (ak 0) (ao (ak 1) aq)))):=rfl
 have es:cO 2 [D.ref j,.int (n:Int)]=[some (.ref j),some (.int (n:Int))]:=rfl
 have fin:∀{c'}{s:Nat->Nat->Nat},d8 j m c'->dM false c.length (aP n s) c'=.ok (aP n s) c':=fun{c' s} P'=>by
  unfold aP
  rw[rP,if_pos (BI n _),amY (by rw[P'.1,hP.1];exact akV _)]
 by_cases h6:(n:Int)=6
 ·have:n=6:=by omega
  subst this
  obtain⟨x,c1,x0,x1,P1,t1⟩:=ug (dJ:=2) hP (by decide) (by decide)
  by_cases hx:x=0
  ·subst hx
   obtain⟨s,c2,hL,P2,h2⟩:=Te P1
   refine⟨s,c2,hL,P2,?_⟩
   have e:=abm (a0:=none) t1 h2
   rw[nk,fk,hb,es,show((6:Nat):Int)=6 from rfl,A6 e]
   exact fin P2
  ·obtain⟨s,c2,hL,P2,h2⟩:=MP P1 h1 h8
   refine⟨s,c2,hL,P2,?_⟩
   have e:=abn t1 hx
   rw[show((6:Nat):Int)=6 from rfl]at h2
   rw[nk,fk,hb,es,show((6:Nat):Int)=6 from rfl,bR e,KH h2]
   exact fin P2
 ·obtain⟨s,c2,hL,P2,h2⟩:=MP hP h1 h8
  refine⟨s,c2,hL,P2,?_⟩
  rw[nk,fk,hb,es,bR (abo h6),KH h2]
  exact fin P2
end Ev
namespace Fq
def bW(p:Int):Nat->Int->List Int
 |0,_=>[]
 |n+1,x=>x % p::bW p n (x/p)
def fQ(p:Int):List Int->Int
 |[]=>0
 |d::r=>fQ p r*p+d % p
def Ci:List Int->Int
 |[]=>0
 |[a]=>a
 |_::b::r=>Ci (b::r)
def Ie(low row:List Int):List Int:=List.zipWith (λb d=>b-Ci row*d) (0::row) low
def mulR(low ry:List Int):List Int->List Int
 |[]=>ry.map λ_=>0
 |d::rx=>List.zipWith (λa b=>a+d*b) (Ie low (mulR low ry rx)) ry
def tW(p:Int) (n:Nat) (x y:Int):Int:=fQ p (List.zipWith (· + ·) (bW p n x) (bW p n y))
def BZ(p:Int) (n:Nat) (low x y:Int):Int:=fQ p (mulR (bW p n low) (bW p n y) (bW p n x))
theorem J3(p:Int):∀r:List Int,fQ p (r.map (· % p))=fQ p r
 |[]=>rfl
 |d::r=>by simp only[ak6,fQ,J3 p r,Int.emod_emod_of_dvd _ (Int.dvd_refl p)]
theorem J2{p:Int}(hp:0<p):∀r:List Int,0<=fQ p r
 |[]=>aoF 0
 |d::r=>by
  have h1:=J2 hp r
  have h2:=amr d (Int.ne_of_gt hp)
  have h3:=Int.mul_nonneg h1 (Int.le_of_lt hp)
  simp only[fQ]
  omega
theorem J4{p:Int}(hp:0<p):∀r:List Int,fQ p r<p^r.length
 |[]=>by simp[fQ]
 |d::r=>by
  have h1:=J4 hp r
  have h2:=ams d hp
  simp only[fQ,alc,aoH]
  have h3:(fQ p r+1)*p<=p^r.length*p:=Int.mul_le_mul_of_nonneg_right (by omega) (Int.le_of_lt hp)
  have h4:(fQ p r+1)*p=fQ p r*p+p:=by rw[Int.add_mul,Int.one_mul]
  omega
theorem iz(p:Int):∀(n:Nat) (x:Int),(bW p n x).length=n
 |0,_=>rfl
 |n+1,x=>by simp[bW,iz p n]
theorem Hv{f:Int->Int->Int}{p:Int}{n:Nat}{x y:Int}:(List.zipWith f (bW p n x) (bW p n y)).length=n:=by simp[iz]
section
variable {p:Int}(hp:0<p) {n:Nat}
include hp
theorem aiV(x y:Int):0<=tW p n x y:=J2 hp _
theorem aiW(x y:Int):tW p n x y<p^n:=by
 have:=J4 hp (List.zipWith (· + ·) (bW p n x) (bW p n y))
 rwa[Hv]at this
end
structure Fd where
 q:Nat
 p:Nat
 n:Nat
 low:Nat
 g:Nat
 E:List Nat
 L:List Nat
def cy:List Fd:=[⟨2,2,1,0,1,[1],[0,0]⟩,
 ⟨3,3,1,0,2,[1,2],[0,0,1]⟩,
 ⟨4,2,2,3,2,[1,2,3],[0,0,1,2]⟩,
 ⟨5,5,1,0,2,[1,2,4,3],[0,0,1,3,2]⟩,
 ⟨7,7,1,0,3,[1,3,2,6,4,5],[0,0,2,1,4,5,3]⟩]
def er:List Nat->Nat->Nat
 |[],_=>0
 |a::_,0=>a
 |_::l,i+1=>er l i
def mI(f:Fd) (x y:Nat):Int:=BZ f.p f.n f.low x y
def aI(f:Fd) (x y:Nat):Int:=tW f.p f.n x y
def M(f:Fd) (x y:Nat):Nat:=if x=0\/y=0 then 0 else er f.E ((er f.L x+er f.L y) % (f.q-1))
def Mk(f:Fd) (x y:Nat):Nat:=cond (Nat.beq x 0||Nat.beq y 0) 0 (er f.E ((er f.L x+er f.L y) % (f.q-1)))
theorem wu(f:Fd) (x y:Nat):Mk f x y=M f x y:=by
 unfold Mk M
 by_cases h:x=0\/y=0
 ·rw[if_pos h]
  rcases h with h|h<;>subst h<;>simp
 ·rw[if_neg h]
  rw[not_or]at h
  have h1:Nat.beq x 0=false:=by cases x with|zero=>exact absurd rfl h.1|succ _=>rfl
  have h2:Nat.beq y 0=false:=by cases y with|zero=>exact absurd rfl h.2|succ _=>rfl
  rw[h1,h2];rfl
def DO(i:Int) (k:Nat):Bool:=match i with
 |.ofNat m=>Nat.beq m k
 |.negSucc _=>false
theorem Le{i:Int}{k:Nat}(h:DO i k=true):i=k:=by
 cases i with
 |ofNat m=>have:m=k:=apE h;subst this;rfl
 |negSucc _=>cases h
def aha(f:Fd):Bool:=(List.range f.q).all λx=>(List.range f.q).all λy=>DO (mI f x y) (Mk f x y)
def ahd(f:Fd):Bool:=(List.range f.q).all λx=>(List.range f.q).all λy=>Nat.beq (Mk f f.g (aI f x y).toNat) (aI f (Mk f f.g x) (Mk f f.g y)).toNat
def ahc(f:Fd):Bool:=(List.range (f.q-1)).all λi=>Nat.beq (er f.L (er f.E i)) i && !Nat.beq (er f.E i) 0&&Nat.ble (er f.E i+1) f.q
def ahb(f:Fd):Bool:=(List.range f.q).all λx=>Nat.beq x 0||(Nat.beq (er f.E (er f.L x)) x&&Nat.ble (er f.L x+1) (f.q-1))
def M5(f:Fd):Bool:=Nat.ble 2 f.q&&Nat.beq (f.p^f.n) f.q&&Nat.beq (er f.E 0) 1&&Nat.ble 2 f.p&&Nat.ble f.p 47&&Nat.ble 1 f.n&&Nat.ble f.n 5&&Nat.beq (er f.E (1 % (f.q-1))) f.g&&Nat.ble (f.low+1) f.q&&Nat.ble 1 f.g&&Nat.ble (f.g+1) f.q
theorem aiI:cy.all aha=true:=by decide +kernel
theorem aiM:cy.all ahd=true:=by decide +kernel
theorem aiL:cy.all ahc=true:=by decide +kernel
theorem aiJ:cy.all ahb=true:=by decide +kernel
theorem aiH:cy.all M5=true:=by decide +kernel
theorem bl{a b:Nat}(h:Nat.ble a b=true):a<=b:=apF h
theorem be{a b:Nat}(h:Nat.beq a b=true):a=b:=apE h
structure Is (f:Fd):Prop where
 q2:2<=f.q
 pn:f.p^f.n=f.q
 e0:er f.E 0=1
 p2:2<=f.p
 jQ:f.p<=47
 n1:1<=f.n
 n5:f.n<=5
 eg:er f.E (1 % (f.q-1))=f.g
 lo:f.low<f.q
 g1:1<=f.g
 gq:f.g<f.q
 le:∀i,i<f.q-1->er f.L (er f.E i)=i/\er f.E i≠0/\er f.E i<f.q
 el:∀x,x<f.q->x≠0->er f.E (er f.L x)=x/\er f.L x<f.q-1
 mm:∀x y,x<f.q->y<f.q->mI f x y=(M f x y:Nat)
 dd:∀x y,x<f.q->y<f.q->M f f.g (aI f x y).toNat=(aI f (M f f.g x) (M f f.g y)).toNat
theorem iD{f:Fd}(h:f∈cy):Is f:=by
 have hM:=ak2.mp aiI f h
 have hD:=ak2.mp aiM f h
 have hE:=ak2.mp aiL f h
 have hL:=ak2.mp aiJ f h
 have hO:=ak2.mp aiH f h
 simp only[M5,ald]at hO
 obtain⟨⟨⟨⟨⟨⟨⟨⟨⟨⟨o1,o2⟩,o3⟩,o4⟩,o5⟩,o6⟩,o7⟩,o8⟩,o9⟩,Z1⟩,Z0⟩:=hO
 refine⟨bl o1,be o2,be o3,bl o4,bl o5,bl o6,bl o7,be o8,bl o9,bl Z1,bl Z0,λi hi=>?_,λx hx h0=>?_,λx y hx hy=>?_,λx y hx hy=>?_⟩
 ·have:=ak2.mp hE i (akZ.mpr hi)
  simp only[ald,Bool.not_eq_true']at this
  exact⟨be this.1.1,λz=>by rw[z]at this;simp at this,bl this.2⟩
 ·have:=ak2.mp hL x (akZ.mpr hx)
  simp only[amx,ald]at this
  rcases this with this|this
  ·exact absurd (be this) h0
  ·exact⟨be this.1,bl this.2⟩
 ·have:=ak2.mp (ak2.mp hM x (akZ.mpr hx)) y (akZ.mpr hy)
  rw[Le this,wu]
 ·have:=ak2.mp (ak2.mp hD x (akZ.mpr hx)) y (akZ.mpr hy)
  have:=be this
  rwa[wu,wu,wu]at this
section
variable {f:Fd}(I:Is f)
include I
theorem Is.pp:(0:Int)<f.p:=by have:=I.p2;omega
theorem Is.pw:((f.p:Int))^f.n=(f.q:Int):=by rw[<-I.pn];simp
end
def P(f:Fd) (x:Nat):Nat->Nat
 |0=>1
 |k+1=>M f (P f x k) x
section
variable {f:Fd}(I:Is f)
include I
theorem ai0(x y:Nat):((aI f x y).toNat:Int)=aI f x y/\(aI f x y).toNat<f.q:=by
 have h1:=aiV I.pp (n:=f.n) (x:Int) y
 have h2:=aiW I.pp (n:=f.n) (x:Int) y
 rw[I.pw]at h2
 unfold aI
 omega
end
end Fq
namespace Ev
open PySem L2 Fq
theorem Bg{p:Int}(hp:0<p):∀(n:Nat) (x:Int),∀d∈bW p n x,0<=d/\d<p
 |0,x,d,h=>by cases h
 |n+1,x,d,h=>by
  rcases akY.mp h with rfl|h
  ·exact⟨amr _ (by omega),ams _ hp⟩
  ·exact Bg hp n _ d h
def yt:ah:=(aD (cY (dw (ak 3) (au bN (ak 0) (ak 1)))) (aF 0 (au eG (ak 0) (ak 1))))
theorem abp{c:aa}{a2 v4:Option D}{p left:Int}{acc:List D}(hp:0<p) (eU:p<1000) (ha:acc.length<1000):yt [some (.int left),some (.int p),a2,some (.ref c.length),v4] (c++[.lst acc]) =
  .ok (.nx [some (.int (left/p)),some (.int p),a2,some (.ref c.length),v4]) (c++[.lst (acc++[.int (left % p)])]):=by
 have h:=wg (c:=c) (acc:=acc) (y:=.int (left % p)) (dO:=ak 3) (da:=au bN (ak 0) (ak 1)) (e:=[some (.int left),some (.int p),a2,some (.ref c.length),v4]) (by simp) (by simp(disch:=omega) [iY]) rfl (by have:=eO (n:=1000) (by decide);omega)
 unfold yt
 rw[jF,ig,h]
 simp(disch:=omega) [nN]
theorem KI{c:aa}{a2:Option D}{p:Int}(hp:0<p) (eU:p<1000):∀(items:List D) (left:Int) (acc:List D) (v4:Option D),acc.length+items.length<1000 ->
  ∃l' v',dg (λ_=>True) (az 4) yt items [some (.int left),some (.int p),a2,some (.ref c.length),v4] (c++[.lst acc]) =
   .ok (.nx [some (.int l'),some (.int p),a2,some (.ref c.length),v']) (c++[.lst (acc++(bW p items.length left).map D.int)])
 |[],left,acc,v4,_=>⟨left,v4,by simp[bW]⟩
 |x::xs,left,acc,v4,h=>by
  simp only[alc]at h
  obtain⟨l',v',ih⟩:=KI hp eU xs (left/p) (acc++[.int (left % p)]) (some x) (by simp;omega)
  refine⟨l',v',?_⟩
  rw[yS]
  simp only[P5,amc,amZ,R.aA]
  rw[abp hp eU (by omega)]
  simp only[R.aA]
  rw[ih]
  simp[bW]
theorem yr{p N x:Int}(hp:0<p) (eU:p<1000) {n:Nat}(hl:(aT 0 N).length=n) (hn:n<1000) (b1:-4611686018427387904<=N/\N<4611686018427387904) (c:aa) :
  fH [.int x,.int p,.int N] c=.ok (.lst ((bW p n x).map D.int)) c:=by
 obtain⟨l',v',hf⟩:=KI (c:=c) (a2:=some (.int N)) (p:=p) hp eU (aT 0 N) x [] none (by rw[hl,aly];omega)
 rw[hl,alg]at hf
 unfold yt at hf
 simp[fH,tK]
 rw[if_pos b1]
 simp only[R.aA]
 rw[hf]
 simp[dM,ye]
def dv(q p:Int):Bool:=decide (q % p=0)
def prs:List Int:=[2,3,5,7,11,13,17,19,23,29,31,37,41,43,47]
theorem Ms{α:Type}{P:α->Bool}{p:α}:∀{l:List α},l.find? P=some p->∃r,l.filter P=p::r
 |[],h=>by cases h
 |a::l,h=>by
  rw[List.find?_cons]at h
  rw[aoI]
  cases hP:P a with
  |true=>rw[hP]at h;cases h;exact⟨_,if_pos rfl⟩
  |false =>
   rw[hP]at h
   obtain⟨r,hr⟩:=Ms (l:=l) h
   exact⟨r,by rw[if_neg ali];exact hr⟩
def zS(q:Int):D->Bool
 |.int p=>dv q p
 |_=>false
theorem MC(q:Int):∀l:List Int,((l.map D.int).filter (zS q)).map id=(l.filter (dv q)).map D.int
 |[]=>rfl
 |a::l=>by
  have ih:=MC q l
  have e:zS q (.int a)=dv q a:=rfl
  rw[ak6,aoI,aoI,e]
  cases dv q a with
  |true=>rw[if_pos rfl,if_pos rfl,ak6,ak6,ih];rfl
  |false=>rw[if_neg ali,if_neg ali,ih]
theorem Vq{q:Int}{p:Int}(h:prs.find? (dv q)=some p) (c:aa):gf [.int q] c=.ok (.int p) c:=by
 have T7:(15:Nat)<=sizeLine:=by decide
 have RB:(15:Nat)<sizeLine:=by decide
 have hc:=j6 (c:=c) (g:=az 0) (t:=aW (au bS (au bN (ak 1) (ak 0)) (dC (.int 0)))) (a:=ak 0) (λe=>∃v,e=[v,some (.int q)]) (zS q) id
  (prs.map D.int) [none,some (.int q)] [] ⟨none,rfl⟩ (λx hx e ⟨v,he⟩=>by
   subst he
   obtain⟨i,hi,rfl⟩:=akW.mp hx
   have i0:0<i:=by
    simp only[prs,akY,ak9,or_false]at hi
    omega
   refine⟨_,rfl,⟨_,rfl⟩,?_,λ_=>rfl⟩
   have e:bN (.int q) (.int i) c=.ok (.int (q % i)) c:=iY c i0
   simp[e,zS,dv])
 obtain⟨r,hr⟩:=Ms h
 rw[MC,hr]at hc
 simp only[ak6,alg]at hc
 have hp:prs.map D.int=[D.int 2,.int 3,.int 5,.int 7,.int 11,.int 13,.int 17,.int 19,.int 23,.int 29,.int 31,.int 37,.int 41,.int 43,.int 47]:=rfl
 rw[hp]at hc
 simp[-jf,gf,tM,T7,RB,cK]
 rw[hc]
 simp
theorem Vp:(cy.all λf=>(List.range f.n).all λk=>prs.find? (dv ((f.p:Int)^(k+1)))==some (f.p:Int))=true:=by decide +kernel
theorem Jt{f:Fd}(h:f∈cy) {k:Nat}(hk:k<f.n) (c:aa):gf [.int ((f.p:Int)^(k+1))] c=.ok (.int f.p) c:=by
 refine Vq ?_ c
 have:=ak2.mp (ak2.mp Vp f h) k (akZ.mpr hk)
 simpa using this
theorem Bp{f:Fd}(h:f∈cy) (c:aa):gf [.int f.q] c=.ok (.int f.p) c:=by
 have I:=iD h
 have n1:=I.n1
 have:=Jt h (k:=f.n-1) (by omega) c
 rwa[show f.n-1+1=f.n by omega,I.pw]at this
def zT:ah:=(aD (aF 0 (au eG (ak 0) (aC 1 gf (ao (ak 0) aq)))) (aF 1 (au aZ (ak 1) (dC (.int 1)))))
theorem ME{f:Fd}(h:f∈cy) (c:aa):∀(k fuel:Nat) (d:Int),k<=f.n->k<fuel->gk (aW (au sH (ak 0) (dC (.int 1)))) zT fuel [some (.int ((f.p:Int)^k)),some (.int d)] c=.ok (.nx [some (.int 1),some (.int (d+k))]) c
 |0,fuel+1,d,_,_=>by simp[gk]
 |k+1,fuel+1,d,hk,hf=>by
  have I:=iD h
  have p2:=I.p2
  have jQ:=I.jQ
  have ih:=ME h c k fuel (d+1) (by omega) (by omega)
  have hpos:∀j:Nat,(1:Int)<=(f.p:Int)^j:=λj=>by
   have:=Nat.one_le_pow j f.p (by omega)
   have e:((f.p^j:Nat):Int)=(f.p:Int)^j:=by simp
   omega
  have h1:(1:Int)<(f.p:Int)^(k+1):=by
   rw[aoH]
   have h2:=hpos k
   have h3:(f.p:Int)^k*2<=(f.p:Int)^k*f.p:=Int.mul_le_mul_of_nonneg_left (by omega) (by omega)
   omega
  have hd:(f.p:Int)^(k+1)/f.p=(f.p:Int)^k:=by
   rw[aoH];exact Int.mul_ediv_cancel _ (by omega)
  have e:zT [some (.int ((f.p:Int)^(k+1))),some (.int d)] c=.ok (.nx [some (.int ((f.p:Int)^k)),some (.int (d+1))]) c:=by
   have e1:eG (.int ((f.p:Int)^(k+1))) (.int f.p) c=.ok (.int ((f.p:Int)^k)) c:=by rw[nN c (by omega) (by omega),hd]
   simp[zT,Jt h (show k<f.n by omega),e1]
  have et:aW (au sH (ak 0) (dC (.int 1))) [some (.int ((f.p:Int)^(k+1))),some (.int d)] c=.ok true c:=by simp[h1]
  unfold gk
  rw[et]
  simp only[R.aA,if_pos]
  rw[e]
  simp only[R.aA]
  rw[ih,show d+1+(k:Int)=d+((k+1:Nat):Int) by omega]
theorem MD{f:Fd}(h:f∈cy) (c:aa):jV [.int f.q] c=.ok (.int f.n) c:=by
 have I:=iD h
 have hl:=ME h c f.n 10 0 (akV _) (by have:=I.n5;omega)
 rw[I.pw,Int.zero_add]at hl
 unfold zT at hl
 simp only[jV,tQ,fk,PD,jF,f6,oz,R.aA,ak6,List.map_nil,alc,aly]
 show R.bind (R.bind (gk _ _ 10 [some (.int f.q),some (.int 0)] c) _) _=_
 rw[hl]
 simp
def jm(p:Int):List Int->Int
 |[]=>0
 |d::r=>jm p r*p+d
theorem J5{p:Int}:∀{r:List Int},(∀d∈r,0<=d/\d<p)->jm p r=fQ p r
 |[],_=>rfl
 |d::r,h=>by
  have:=h d alN
  rw[jm,fQ,J5 λx hx=>h x (alD _ hx),ape this.1 this.2]
theorem Z3(p:Int) (r:List Int):r.reverse.foldl (λn d=>n*p+d) 0=jm p r:=by
 rw[List.foldl_reverse]
 induction r with
 |nil=>rfl
 |cons d r ih=>rw[List.foldr_cons,ih];rfl
def GY(L:List D->aa->R D):ah:=(aD (aF 2 (dC (.int 0))) (aD (bY (aY (ao (aG L (ao (ak 0) aq)) aq)) (az 3) (aF 2 (au aZ (au aU (ak 2) (ak 1)) (au aE (ak 0) (au br (au br (aG L (ao (ak 0) aq)) (dC (.int 1))) (ak 3)))))) (aL (ak 2))))
theorem ahP:tO=GY bg:=rfl
def Cb(L:List D->aa->R D):ah:=(aF 2 (au aZ (au aU (ak 2) (ak 1)) (au aE (ak 0) (au br (au br (aG L (ao (ak 0) aq)) (dC (.int 1))) (ak 3)))))
theorem abt{L:List D->aa->R D}{p N:Int}(hp:0<p) (eU:p<1000) (r:List Int) (hN:N=r.length) (b1:-4611686018427387904<=N/\N<4611686018427387904) {c:aa}(hL:L [.lst (r.map D.int)] c=.ok (.int N) c):bG 4 false (GY L) [.lst (r.map D.int),.int p] c=.ok (.int (jm p r)) c:=by
 obtain⟨v',hf⟩:=nK (g:=az 3) (s:=Cb L) (λ_=>c) (λi v=>[some (.lst (r.map D.int)),some (.int p),some (.int ((r.reverse.take i).foldl (λn d=>n*p+d) 0)),v]) hN none (λi hi v=>by
  refine⟨_,rfl,some (.int i),?_⟩
  have hr:i<r.reverse.length:=by rw[apG];exact hi
  have ht:r.reverse.take (i+1)=r.reverse.take i++[r.reverse[i]]:=anh hr
  have hx:cT (r.map D.int) (N-1-i)=some (.int r.reverse[i]):=by
   have hg:(r.map D.int)[r.length-1-i]? = some (.int r.reverse[i]):=by
    rw[ale,ak3 (by omega)]
    simp
   have:=gO (xs:=r.map D.int) (j:=r.length-1-i) (v:=.int r.reverse[i]) hg
   rw[show((r.length-1-i:Nat):Int)=N-1-i by omega]at this
   exact this
  rw[ht,ani]
  generalize (r.reverse.take i).foldl (λn d=>n*p+d) 0=w
  generalize r.reverse[i]=z at hx
  have hm:aU (.int w) (.int p) c=.ok (.int (w*p)) c:=mul_r c (by omega) (by omega)
  simp[Cb,hL,hm,hx])
 have e0:(r.reverse.take r.length).foldl (λn d=>n*p+d) 0=jm p r:=by
  rw[amY (by rw[apG];exact akV _),Z3]
 simp only[anF,List.foldl_nil]at hf
 rw[e0]at hf
 unfold Cb at hf
 simp[GY,hL]
 rw[if_pos b1]
 simp only[R.aA]
 rw[hf]
 simp
theorem KN{p:Int}(hp:0<p) (eU:p<1000) (r:List Int) (hr:r.length<1000) (c:aa):oY [.lst (r.map D.int),.int p] c=.ok (.int (jm p r)) c:=by
 rw[oY,ahP]
 exact abt hp eU r rfl (by omega) (by rw[HD,ak4])
theorem Qg(i:Int) (c:aa):uX [.int i] c=.ok (.bl true) c:=by simp[uX,tw]
@[simp] theorem aj5(i:Int) (c:aa):uX [.int i] c=.ok (.bl true) c:=Qg i c
theorem aiE(c:aa) (l:List D) (f:D->Bool):eX [.lst (l.map λx=>.bl (f x))] c=.ok (.bl (l.all f)) c:=by
 have e:(l.map λx=>D.bl (f x))=(l.map f).map D.bl:=by simp
 unfold eX m7
 dsimp only
 rw[e,Ad]
 simp[List.all_map]
def gJ(l:List Int) (i:Nat):Int:=l.getD i 0
theorem L8{l:List Int}{i:Nat}(h:i<l.length):(l.map D.int)[i]? = some (.int (gJ l i)):=by
 rw[ale,ak3 h]
 simp[gJ,List.getD,h]
theorem Pn(f:Int->Int->Int) {a b:List Int}{n:Nat}(ha:a.length=n) (hb:b.length=n):List.zipWith f a b=(List.range n).map λi=>f (gJ a i) (gJ b i):=by
 apply anQ
 ·simp[ha,hb]
 ·intro i h1 h2
  simp only[List.getElem_zipWith,apH,anc]
  simp at h1
  have ia:i<a.length:=by omega
  have ib:i<b.length:=by omega
  simp[gJ,List.getD,ia,ib]
theorem ag3{a b:List Int}{p s N:Int}{n:Nat}(hN:N=n) (hp:0<p) (ha:a.length=n) (hb:b.length=n) (hs:-1000<s/\s<1000) (c:aa) :
  bA (λ_=>True) (az 0) aH (au bN (au aZ (au aE (au aE (ak 3) (dC (.int 0))) (ak 0)) (au aU (ak 2) (au aE (au aE (ak 3) (dC (.int 1))) (ak 0)))) (ak 1)) (aT 0 N) [none,some (.int p),some (.int s),some (.lst [.lst (a.map D.int),.lst (b.map D.int)])] [] c =
   .ok ((List.zipWith (λx y=>(x+s*y) % p) a b).map D.int) c:=by
 have:=j6 (c:=c) (g:=az 0) (t:=aH) (a:=au bN (au aZ (au aE (au aE (ak 3) (dC (.int 0))) (ak 0)) (au aU (ak 2) (au aE (au aE (ak 3) (dC (.int 1))) (ak 0)))) (ak 1)) (λe=>∃v,e=[v,some (.int p),some (.int s),some (.lst [.lst (a.map D.int),.lst (b.map D.int)])]) (λ_=>true)
  (λd=>match d with|.int i=>.int ((gJ a i.toNat+s*gJ b i.toNat) % p)|d=>d) (aT 0 N) [none,some (.int p),some (.int s),some (.lst [.lst (a.map D.int),.lst (b.map D.int)])] [] ⟨none,rfl⟩ (λx hx e ⟨v,he⟩=>by
   subst he
   obtain⟨i,rfl,i0,i1⟩:=uR hx
   obtain⟨k,rfl⟩:∃k:Nat,i=k:=⟨i.toNat,by omega⟩
   have h1:cT (a.map D.int) k=some (.int (gJ a k)):=gO (L8 (by omega))
   have h2:cT (b.map D.int) k=some (.int (gJ b k)):=gO (L8 (by omega))
   have h3:aU (.int s) (.int (gJ b k)) c=.ok (.int (s*gJ b k)) c:=yo c (by omega) (by omega)
   have h4:bN (.int (gJ a k+s*gJ b k)) (.int p) c=.ok (.int ((gJ a k+s*gJ b k) % p)) c:=iY c hp
   refine⟨_,rfl,⟨_,rfl⟩,rfl,λ_=>?_⟩
   simp[h1,h2,h3,h4])
 rw[this,alg,apI.mpr λ_ _=>rfl,Pn _ ha hb]
 congr 1
 unfold aT
 rw[aln,aln,show(N-0).toNat=n by omega]
 apply alY
 intro i _
 simp
def vZ(L:List D->aa->R D):ah:=(aD (aF 4 (aC 1 gf (ao (ak 0) aq))) (aD (aF 5 (aC 1 jV (ao (ak 0) aq))) (aD (aF 6 (bU (ao (aC 3 fH (ao (ak 1) (ao (ak 4) (ao (ak 5) aq)))) (ao (aC 3 fH (ao (ak 2) (ao (ak 4) (ao (ak 5) aq)))) aq)))) (aL (aC 2 L (ao (aR (aY (ao (ak 5) aq)) [none,some 4,some 3,some 6] (az 0) aH (au bN (au aZ (au aE (au aE (ak 3) (dC (.int 0))) (ak 0)) (au aU (ak 2) (au aE (au aE (ak 3) (dC (.int 1))) (ak 0)))) (ak 1))) (ao (ak 4) aq)))))))
theorem ahN:tF=vZ oY:=rfl
theorem RN{L:List D->aa->R D}{q x y s p N w:Int}{n:Nat}{a b:List Int}{c:aa}(h1:gf [.int q] c=.ok (.int p) c) (h2:jV [.int q] c=.ok (.int N) c) (h3:fH [.int x,.int p,.int N] c=.ok (.lst (a.map D.int)) c) (h4:fH [.int y,.int p,.int N] c=.ok (.lst (b.map D.int)) c)
  (hN:N=n) (hp:0<p) (ha:a.length=n) (hb:b.length=n) (hs:-1000<s/\s<1000) (b1:-4611686018427387904<=N/\N<4611686018427387904) (hl:(aT 0 N).length<sizeLine) (hn:L [.lst ((List.zipWith (λx y=>(x+s*y) % p) a b).map D.int),.int p] c=.ok (.int w) c):bG 7 false (vZ L) [.int q,.int x,.int y,.int s] c=.ok (.int w) c:=by
 have hc:=ag3 (a:=a) (b:=b) (p:=p) (s:=s) hN hp ha hb hs c
 have key:vZ L [some (.int q),some (.int x),some (.int y),some (.int s),none,none,none] c=.ok (.rt (.int w)) c:=by
  simp[vZ,h1,h2,h3,h4,cK]
  rw[if_pos b1]
  simp only[R.aA]
  rw[if_pos hl,hc]
  simp only[R.aA,alc,aly,if_pos,hn]
 rw[fk]
 show R.bind (vZ L [some (.int q),some (.int x),some (.int y),some (.int s),none,none,none] c) _=_
 rw[key]
 simp
theorem Ht(f:Int->Int->Int) (p:Int):∀a b:List Int,List.zipWith (λx y=>f x y % p) a b=(List.zipWith f a b).map (· % p)
 |[],b=>by simp
 |a::as,[]=>by simp
 |a::as,b::bs=>by rw[aoJ,aoJ,ak6,Ht f p as bs]
theorem RM{f:Fd}(h:f∈cy) (x y s:Int) (hs:-1000<s/\s<1000) (c:aa):nj [.int f.q,.int x,.int y,.int s] c=.ok (.int (fQ f.p (List.zipWith (λa b=>a+s*b) (bW f.p f.n x) (bW f.p f.n y)))) c:=by
 have I:=iD h
 have p2:=I.p2
 have jQ:=I.jQ
 have n5:=I.n5
 have hsz:=eO (n:=1000) (by decide)
 have h1:=λz=>yr (p:=f.p) (N:=f.n) (x:=z) (n:=f.n) (by omega) (by omega) (by rw[e8];omega) (by omega) (by omega) c
 have hn:=KN (p:=f.p) (by omega) (by omega) (List.zipWith (λa b=>(a+s*b) % (f.p:Int)) (bW f.p f.n x) (bW f.p f.n y)) (by rw[Hv];omega) c
 have e:jm f.p (List.zipWith (λa b=>(a+s*b) % (f.p:Int)) (bW f.p f.n x) (bW f.p f.n y))=fQ f.p (List.zipWith (λa b=>a+s*b) (bW f.p f.n x) (bW f.p f.n y)):=by
  rw[Ht,J5,J3]
  intro d hd
  obtain⟨z,_,rfl⟩:=akW.mp hd
  exact⟨amr _ (by omega),ams _ (by omega)⟩
 rw[e]at hn
 rw[nj,ahN]
 exact RN (n:=f.n) (Bp h c) (MD h c) (h1 x) (h1 y) rfl (by omega) (iz _ _ _) (iz _ _ _) hs (by omega) (by rw[e8];omega) hn
def gI(l:List Int) (i:Nat):Int:=l.getD i 0
theorem sL{l:List Int}{i:Nat}(h:i<l.length):(l.map D.int)[i]? = some (.int (gI l i)):=by
 rw[ale,ak3 h]
 simp[gI,List.getD,h]
def jX(p a:Int) (b:List Int) (k:Nat) (F:List Int):Nat->List Int
 |0=>F
 |j+1=>(jX p a b k F j).set (k+j) ((gI (jX p a b k F j) (k+j)+a*gI b j) % p)
def jR(p:Int) (a b:List Int) (F:List Int):Nat->List Int
 |0=>F
 |k+1=>jX p (gI a k) b k (jR p a b F k) b.length
def gn(a b:List Int) (p:Int):List Int:=jR p a b (List.replicate (a.length+b.length-1) 0) a.length
theorem yC{p a:Int}{b:List Int}{k:Nat}{F:List Int}:∀j,(jX p a b k F j).length=F.length
 |0=>rfl
 |j+1=>by rw[jX,an6,yC j]
theorem xV{p:Int}{a b F:List Int}:∀k,(jR p a b F k).length=F.length
 |0=>rfl
 |k+1=>by rw[jR,yC,xV k]
theorem map_set{l:List Int}{i:Nat}{x:Int}:(l.map D.int).set i (.int x)=(l.set i x).map D.int:=by rw[List.map_set]
def in1(a p:Option D):Ev:=[a,p]
def uq:ah:=(iy (au bN (au aZ (au aE (ak 3) (au aZ (ak 4) (ak 5))) (au aU (au aE (ak 0) (ak 4)) (au aE (ak 1) (ak 5)))) (ak 2)) (k8 (ak 3) (au aZ (ak 4) (ak 5))))
theorem RZ{a b F:List Int}{p:Int}{c:aa}{k j:Nat}(hp:0<p) (hk:k<a.length) (hj:j<b.length) (hF:k+j<F.length) (hs:∀x∈a,0<=x/\x<1000) :
  uq [some (.lst (a.map D.int)),some (.lst (b.map D.int)),some (.int p),some (.ref c.length),some (.int k),some (.int j)] (c++[.lst (F.map D.int)]) =
   .ok (.nx [some (.lst (a.map D.int)),some (.lst (b.map D.int)),some (.int p),some (.ref c.length),some (.int k),some (.int j)]) (c++[.lst ((F.set (k+j) ((gI F (k+j)+gI a k*gI b j) % p)).map D.int)]):=by
 have h1:=DN (c:=c) (l:=F.map D.int) (i:=(k:Int)+j) (j:=k+j) (d:=.int (gI F (k+j))) (by omega) (sL hF)
 have h2:cT (a.map D.int) k=some (.int (gI a k)):=gO (sL hk)
 have h3:cT (b.map D.int) j=some (.int (gI b j)):=gO (sL hj)
 have hb:0<=gI a k/\gI a k<1000:=hs _ (by simp[gI,List.getD,hk])
 have h4:∀c,aU (.int (gI a k)) (.int (gI b j)) c=.ok (.int (gI a k*gI b j)) c:=λc=>yo c (by omega) (by omega)
 have h5:=λx=>IU (c:=c) (l:=F.map D.int) (i:=(k:Int)+j) (j:=k+j) (d:=.int x) (by omega) (by simpa using hF) rfl
 have h6:∀x c,bN (.int x) (.int p) c=.ok (.int (x % p)) c:=λx c=>iY c hp
 simp only[uq,HG,fO,bK,gz,gs,R.aA,kB,ou,h1,h2,h3,h4,h6,HF,h5,map_set]
def xo(L:List D->aa->R D):ah:=(bY (aY (ao (aG L (ao (ak 1) aq)) aq)) (az 5) uq)
theorem RY{L:List D->aa->R D}{a b F:List Int}{p N:Int}{c:aa}{k:Nat}(hp:0<p) (hk:k<a.length) (hF:a.length+b.length-1<=F.length) (hs:∀x∈a,0<=x/\x<1000) (hN:N=b.length) (b1:-4611686018427387904<=N/\N<4611686018427387904) (hL:∀c,L [.lst (b.map D.int)] c=.ok (.int N) c) (v5:Option D) :
  ∃v',xo L [some (.lst (a.map D.int)),some (.lst (b.map D.int)),some (.int p),some (.ref c.length),some (.int k),v5] (c++[.lst (F.map D.int)]) =
   .ok (.nx [some (.lst (a.map D.int)),some (.lst (b.map D.int)),some (.int p),some (.ref c.length),some (.int k),v']) (c++[.lst ((jX p (gI a k) b k F b.length).map D.int)]):=by
 obtain⟨v',hf⟩:=nK (g:=az 5) (s:=uq) (λj=>c++[.lst ((jX p (gI a k) b k F j).map D.int)]) (λ_ v=>[some (.lst (a.map D.int)),some (.lst (b.map D.int)),some (.int p),some (.ref c.length),some (.int k),v]) hN v5 (λj hj v=>by
  exact⟨_,rfl,_,RZ hp hk hj (by rw[yC];omega) hs⟩)
 refine⟨v',?_⟩
 simp only[xo,gB,gj,bz,eN,bK,bC,gz,gs,R.aA,hL]
 rw[if_pos (by omega)]
 exact hf
def vY(L:List D->aa->R D) (Rp:D->D->aa->R D):ah:=(aD (aF 3 (au Rp (bU (ao (dC (.int 0)) aq)) (au br (au aZ (aG L (ao (ak 0) aq)) (aG L (ao (ak 1) aq))) (dC (.int 1))))) (aD (bY (aY (ao (aG L (ao (ak 0) aq)) aq)) (az 4) (bY (aY (ao (aG L (ao (ak 1) aq)) aq)) (az 5) (iy (au bN (au aZ (au aE (ak 3) (au aZ (ak 4) (ak 5))) (au aU (au aE (ak 0) (ak 4)) (au aE (ak 1) (ak 5)))) (ak 2)) (k8 (ak 3) (au aZ (ak 4) (ak 5)))))) (aL (ak 3))))
theorem N5:lB=vY bg jI:=rfl
theorem IL{L:List D->aa->R D}{Rp:D->D->aa->R D}{a b:List Int}{p N M:Int}{c:aa}(hp:0<p) (ha:a≠[]) (hs:∀x∈a,0<=x/\x<1000) (hN:N=b.length) (b1:-4611686018427387904<=N/\N<4611686018427387904) (hL:∀c,L [.lst (b.map D.int)] c=.ok (.int N) c)
  (hM:M=a.length) (b2:-4611686018427387904<=M/\M<4611686018427387904) (sE:∀c,L [.lst (a.map D.int)] c=.ok (.int M) c) (hR:Rp (.lst [.int 0]) (.int (M+N-1)) c=.ok (.ref c.length) (c++[.lst ((List.replicate (a.length+b.length-1) (0:Int)).map D.int)])) :
  vY L Rp [some (.lst (a.map D.int)),some (.lst (b.map D.int)),some (.int p),none,none,none] c=.ok (.rt (.ref c.length)) (c++[.lst ((gn a b p).map D.int)]):=by
 obtain⟨v',hf⟩:=nK (α:=Option D×Option D) (g:=az 4) (s:=xo L) (λk=>c++[.lst ((jR p a b (List.replicate (a.length+b.length-1) 0) k).map D.int)]) (λ_ v=>[some (.lst (a.map D.int)),some (.lst (b.map D.int)),some (.int p),some (.ref c.length),v.1,v.2]) hM (none,none) (λk hk v=>by
  obtain⟨w,h⟩:=RY (L:=L) (a:=a) (b:=b) (F:=jR p a b (List.replicate (a.length+b.length-1) 0) k) (c:=c) (k:=k) hp hk (by rw[xV,anu];exact akV _) hs hN b1 hL v.2
  exact⟨_,rfl,(some (.int k),w),h⟩)
 simp only[vY,jF,f6,fO,HC,bz,oz,bC,R.aA,eN,bK,gz,gs,hL,sE,kB,wO]
 rw[if_pos (by decide)]
 simp only[R.aA,hR,amc,amZ,gB,gj,bz,eN,bK,bC,gz,gs,sE]
 rw[if_pos (by omega)]
 simp only[R.aA]
 unfold xo at hf
 unfold uq at hf
 simp only[jR]at hf
 rw[hf]
 rfl
theorem IK{a b:List Int}(h:a.length+b.length<1000) (ha:a≠[]) {M N:Int}(hM:M=a.length) (hN:N=b.length) (c:aa):jI (.lst [.int 0]) (.int (M+N-1)) c=.ok (.ref c.length) (c++[.lst ((List.replicate (a.length+b.length-1) (0:Int)).map D.int)]):=by
 have hl:0<a.length:=List.length_pos_iff.mpr ha
 have hs:=eO (n:=1000) (by decide)
 have ht:(M+N-1).toNat=a.length+b.length-1:=by omega
 rw[PK,ht,if_pos ⟨by omega,by omega,by simp only[alc,aly];omega,rfl⟩]
 congr 4
 generalize a.length+b.length-1=n
 induction n with
 |zero=>rfl
 |succ n ih=>rw[al9,amj,ih];rfl
theorem vd(l:List Int) (c:aa):bg [.lst (l.map D.int)] c=.ok (.int l.length) c:=by rw[HD,ak4]
theorem RX{a b:List Int}{p:Int}(hp:0<p) (ha:a≠[]) (hs:∀x∈a,0<=x/\x<1000) (h:a.length+b.length<1000) (c:aa):kO [.lst (a.map D.int),.lst (b.map D.int),.int p] c=.ok (.lst ((gn a b p).map D.int)) c:=by
 have:=IL (L:=bg) (Rp:=jI) hp ha hs rfl (by omega) (vd b) rfl (by omega) (vd a) (IK h ha rfl rfl c)
 rw[kO,N5,fk]
 show R.bind (vY bg jI [some (.lst (a.map D.int)),some (.lst (b.map D.int)),some (.int p),none,none,none] c) _=_
 rw[this]
 simp[dM]
theorem RW{a b:List Int}{p:Int}(hp:0<p) (ha:a≠[]) (hs:∀x∈a,0<=x/\x<1000) (h:a.length+b.length<1000) (c:aa):r9 [.lst (a.map D.int),.lst (b.map D.int),.int p] c=.ok (.ref c.length) (c++[.lst ((gn a b p).map D.int)]):=by
 have:=IL (L:=bg) (Rp:=jI) hp ha hs rfl (by omega) (vd b) rfl (by omega) (vd a) (IK h ha rfl rfl c)
 rw[r9,N5,fk]
 show R.bind (vY bg jI [some (.lst (a.map D.int)),some (.lst (b.map D.int)),some (.int p),none,none,none] c) _=_
 rw[this]
 simp[dM]
def more(p:Nat) (row:List Int):List (List Int):=(List.range p).map λd:Nat=>row++[(d:Int)]
def dH(p:Nat):Nat->List (List Int)
 |0=>[[]]
 |i+1=>(dH p i).flatMap (more p)
theorem El{l:List D}:(l.filter λ_=>true)=l:=apI.mpr λ_ _=>rfl
def LD(L:List (List Int)):List D:=L.map λr=>.lst (r.map D.int)
theorem Oq(a b:List (List Int)):LD (a++b)=LD a++LD b:=by simp[LD]
theorem G9(L:List (List Int)):bE (LD L)=true:=gV.mpr λd hd=>by
 obtain⟨r,_,rfl⟩:=akW.mp hd
 rw[Jp];exact ye
theorem kj(L:List (List Int)):(LD L).length=L.length:=by simp[LD]
theorem B0(p:Nat) (r:List Int):(more p r).length=p:=by simp[more]
theorem yJ(p:Nat):∀i,(dH p i).length=p^i
 |0=>rfl
 |i+1=>by
  have:∀L:List (List Int),(L.flatMap (more p)).length=L.length*p:=by
   intro L
   induction L with
   |nil=>simp
   |cons a L ih=>rw[aoK,als,ih,B0,alc,amk,anv]
  rw[dH,this,yJ p i,Nat.pow_succ]
theorem Ik{α β:Type}(f:α->List β) {L:List α}{j:Nat}(h:j<L.length):(L.take (j+1)).flatMap f=(L.take j).flatMap f++f L[j]:=by
 rw[anh h,apJ]
 simp
def yK:ah:=(cY (lz (ak 4) (aR (aY (ao (ak 1) aq)) [none,some 5] (az 0) aH (au dU (ak 1) (bU (ao (ak 0) aq))))))
def vB:ah:=(aD (aF 4 (cW aq)) (aD (bY (cD (ak 2)) (az 5) (cY (lz (ak 4) (aR (aY (ao (ak 1) aq)) [none,some 5] (az 0) aH (au dU (ak 1) (bU (ao (ak 0) aq))))))) (aF 2 (ak 4))))
theorem ag6{row:List Int}{P:Int}{p:Nat}(hP:P=p) (hr:row.length<1000) (c:aa):bA (λ_=>True) (az 0) aH (au dU (ak 1) (bU (ao (ak 0) aq))) (aT 0 P) [none,some (.lst (row.map D.int))] [] c=.ok (LD (more p row)) c:=by
 have hs:=eO (n:=1000) (by decide)
 have hz:row.length+1<=sizeLine:=by omega
 have:=j6 (c:=c) (g:=az 0) (t:=aH) (a:=au dU (ak 1) (bU (ao (ak 0) aq))) (λe=>∃v,e=[v,some (.lst (row.map D.int))]) (λ_=>true) (λd=>.lst (row.map D.int++[d]))
  (aT 0 P) [none,some (.lst (row.map D.int))] [] ⟨none,rfl⟩ (λx hx e ⟨v,he⟩=>by
   subst he
   refine⟨_,rfl,⟨_,rfl⟩,rfl,λ_=>?_⟩
   simp[dU,hz])
 rw[this]
 subst hP
 congr 1
 unfold aT LD more
 simp only[alg,El,aln]
 rw[show((p:Int)-0).toNat=p by omega]
 apply alY
 intro d _
 simp
theorem adZ{C:aa}{acc:List D}{P many:Int}{p:Nat}{row:List Int}(hP:P=p) (bP:-4611686018427387904<=P/\P<4611686018427387904) (hp:p<1000) (hr:row.length<1000) (ha:acc.length+p<=1000) (F v3:Option D) :
  yK [some (.int many),some (.int P),F,v3,some (.ref C.length),some (.lst (row.map D.int))] (C++[.lst acc])=.ok (.nx [some (.int many),some (.int P),F,v3,some (.ref C.length),some (.lst (row.map D.int))]) (C++[.lst (acc++LD (more p row))]):=by
 have hs:=eO (n:=1000) (by decide)
 have hc:=ag6 (row:=row) hP hr (C++[.lst acc])
 have hl:(aT 0 P).length<sizeLine:=by rw[e8];omega
 have hl2:acc.length+(LD (more p row)).length<=sizeLine/\bE (LD (more p row))=true:=⟨by rw[kj,B0];omega,G9 _⟩
 simp only[yK,ig,lz,bK,gz,gs,R.aA,dB,gj,bz,bC]
 rw[if_pos (by omega)]
 simp only[R.aA,cK]
 rw[if_pos hl]
 show R.bind (R.bind (R.bind (bA (λ_=>True) (az 0) aH (au dU (ak 1) (bU (ao (ak 0) aq))) (aT 0 P) [none,some (.lst (row.map D.int))] [] (C++[.lst acc])) _) _) _=_
 rw[hc]
 simp only[R.aA,aoj]
 rw[if_pos hl2]
 simp
def hC(c:aa) (p i:Nat):aa:=c++(List.range i).map λt=>Cell.lst (LD (dH p (t+1)))
def hF(c:aa) (p i:Nat):D:=match i with
 |0=>.lst (LD (dH p 0))
 |i+1=>.ref (c.length+i)
theorem yO(c:aa) (p i:Nat):(hC c p i).length=c.length+i:=by simp[hC]
theorem LZ(c:aa) (p i:Nat):hC c p (i+1)=hC c p i++[.lst (LD (dH p (i+1)))]:=by simp[hC,amd]
theorem LY(c:aa) (p i:Nat) (more:aa) {e:Ev}{k:Nat}(he:e[k]? = some (some (hF c p i))):∃st:aa->Prop,(∀m,st (hC c p i++m))/\cD (ak k) e (hC c p i++more)=.ok ⟨LD (dH p i),st⟩ (hC c p i++more):=by
 cases i with
 |zero=>exact⟨λ_=>True,λ_=>trivial,by simp only[wQ,bK,he];rfl⟩
 |succ i =>
  have hg:∀m:aa,(hC c p (i+1)++m)[c.length+i]? = some (.lst (LD (dH p (i+1)))):=λm=>by
   rw[alA (by rw[yO];omega),LZ,alL (by rw[yO];exact akV _),yO,amo]
   rfl
  refine⟨λc'=>c'[c.length+i]? = some (.lst (LD (dH p (i+1)))),hg,?_⟩
  simp only[wQ,bK,he,hF,R.aA,hg]
theorem adY{c:aa}{P many:Int}{p i:Nat}(hP:P=p) (bP:-4611686018427387904<=P/\P<4611686018427387904) (hp:p<1000) (hi:p^(i+1)<=1000) (DW:∀r∈dH p i,r.length<1000) (v3 v4 v5:Option D) :
  ∃w4 w5,vB [some (.int many),some (.int P),some (hF c p i),v3,v4,v5] (hC c p i)=.ok (.nx [some (.int many),some (.int P),some (hF c p (i+1)),v3,w4,w5]) (hC c p (i+1)):=by
 obtain⟨st,hst,hseq⟩:=LY c p i [.lst []] (e:=[some (.int many),some (.int P),some (hF c p i),v3,some (.ref (hC c p i).length),v5]) (k:=2) rfl
 have hlen:=yJ p i
 obtain⟨v',hf⟩:=k9 (st:=st) (g:=az 5) (s:=yK) (λj=>hC c p i++[.lst (LD (((dH p i).take j).flatMap (more p)))]) (λ_ v=>[some (.int many),some (.int P),some (hF c p i),v3,some (.ref (hC c p i).length),v]) (LD (dH p i)) 0 v5
  (λj _=>hst _) (λj x hx v=>by
   rw[alr]
   have hj:j<(dH p i).length:=by
    have:=(ala.mp hx).1
    rwa[kj]at this
   have hx':x=.lst ((dH p i)[j].map D.int):=by
    have:=(ala.mp hx).2
    rw[<-this]
    simp[LD]
   subst hx'
   refine⟨_,rfl,some (.lst ((dH p i)[j].map D.int)),?_⟩
   have hacc:(LD (((dH p i).take j).flatMap (more p))).length+p<=1000:=by
    rw[kj]
    have:∀L:List (List Int),(L.flatMap (more p)).length=L.length*p:=by
     intro L
     induction L with
     |nil=>simp
     |cons a L ih=>rw[aoK,als,ih,B0,alc,amk,anv]
    rw[this,ami,aoL (by omega)]
    have h2:(j+1)*p<=p^i*p:=an0 p (by omega)
    have h3:p^i*p=p^(i+1):=(Nat.pow_succ ..).symm
    rw[h3,amk]at h2
    omega
   have:=adZ (C:=hC c p i) (many:=many) (row:=(dH p i)[j]) hP bP hp (DW _ (alq hj)) hacc (some (hF c p i)) v3
   rw[Ik _ hj,Oq]
   exact this)
 rw[kj,alr,amf,anF]at hf
 refine⟨some (.ref (hC c p i).length),v',?_⟩
 have hF1:hF c p (i+1)=.ref (hC c p i).length:=by rw[yO];rfl
 rw[LZ,hF1]
 simp only[vB,jF,f6,PX,bC,R.aA]
 rw[if_pos ⟨by simp,by simp⟩]
 simp only[R.aA,amc,amZ,gB]
 rw[hseq]
 simp only[R.aA]
 unfold yK at hf
 show R.bind (dg st (az 5) _ (LD (dH p i)) [some (.int many),some (.int P),some (hF c p i),v3,some (.ref (hC c p i).length),v5] (hC c p i++[.lst (LD ([].flatMap (more p)))])) _=_
 rw[hf]
 rfl
def eV(p n:Nat):List (List Int):=(dH p n).map (· ++ [1])
theorem xC(p:Nat):∀i,∀r∈dH p i,r.length=i
 |0,r,h=>by
  rw[dH,alP]at h
  subst h;rfl
 |i+1,r,h=>by
  rw[dH,apK]at h
  obtain⟨r',h1,h2⟩:=h
  obtain⟨d,_,rfl⟩:=akW.mp h2
  rw[als,xC p i r' h1];rfl
theorem LL{P many:Int}{p n:Nat}(hP:P=p) (hn:many=n) (bP:-4611686018427387904<=P/\P<4611686018427387904) (bn:-4611686018427387904<=many/\many<4611686018427387904) (hp:0<p) (eU:p<1000) (ady:p^n<1000) (hn':n<100) (c:aa) :
  nt [.int many,.int P] c=.ok (.lst (LD (eV p n))) c:=by
 have hs:=eO (n:=1000) (by decide)
 obtain⟨v',hf⟩:=nK (α:=Option D×Option D×Option D) (g:=az 3) (s:=vB) (hC c p) (λi v=>[some (.int many),some (.int P),some (hF c p i),v.1,v.2.1,v.2.2]) hn (none,none,none) (λi hi v=>by
  obtain⟨w4,w5,h⟩:=adY (c:=c) (many:=many) (p:=p) (i:=i) hP bP eU (amg (al4 (apL hp hi) ady)) (λr hr=>by rw[xC p i r hr];omega) (some (.int i)) v.2.1 v.2.2
  exact⟨_,rfl,(some (.int i),w4,w5),h⟩)
 obtain⟨st,hst,hseq⟩:=LY c p n [] (e:=[some (.int many),some (.int P),some (hF c p n),v'.1,v'.2.1,v'.2.2]) (k:=2) rfl
 rw[al3]at hseq
 have adp:st (hC c p n):=by have:=hst [];rwa[al3]at this
 have hcp:=FY (c:=hC c p n) st adp (g:=az 0) (t:=aH) (a:=au dU (ak 0) (bU (ao (dC (.int 1)) aq))) (λe=>∃v,e=[v]) (λ_=>true) (λd=>match d with|.lst l=>.lst (l++[.int 1])|d=>d)
  (LD (dH p n)) [none] [] ⟨none,rfl⟩ (λx hx e ⟨v,he⟩=>by
   subst he
   obtain⟨r,hr,rfl⟩:=akW.mp hx
   have hz:r.length+1<=sizeLine:=by rw[xC p n r hr];omega
   refine⟨_,rfl,⟨_,rfl⟩,rfl,λ_=>?_⟩
   simp[dU,hz])
 have hit:(LD (dH p n)).length<sizeLine:=by rw[kj,yJ];omega
 have hres:[]++((LD (dH p n)).filter λ_=>true).map (λd=>match d with|.lst l=>D.lst (l++[.int 1])|d=>d)=LD (eV p n):=by
  rw[alg,El]
  unfold LD eV
  rw[aln,aln]
  apply alY
  intro r _
  simp
 rw[hres]at hcp
 have hb:nW=aD (aF 2 (bU (ao (bU aq) aq))) (aD (bY (aY (ao (ak 0) aq)) (az 3) vB) (aL (aR (cD (ak 2)) [none] (az 0) aH (au dU (ak 0) (bU (ao (dC (.int 1)) aq)))))):=rfl
 have hC0:hC c p 0=c:=by simp[hC]
 rw[hC0]at hf
 have key:nW [some (.int many),some (.int P),none,none,none,none] c=.ok (.rt (.lst (LD (eV p n)))) (hC c p n):=by
  rw[hb]
  simp only[jF,f6,HC,bz,bC,R.aA]
  rw[if_pos (by decide)]
  simp only[R.aA]
  rw[if_pos (by decide)]
  simp only[R.aA,amc,amZ,gB,gj,bz,bK,bC,gz]
  rw[if_pos (by omega)]
  simp only[R.aA]
  show R.bind (dg (λ_=>True) (az 3) vB (aT 0 many) [some (.int many),some (.int P),some (hF c p 0),none,none,none] c) _=_
  rw[hf]
  simp only[R.aA,iO,dB]
  rw[hseq]
  simp only[R.aA]
  rw[if_pos hit]
  show R.bind (R.bind (bA st (az 0) aH (au dU (ak 0) (bU (ao (dC (.int 1)) aq))) (LD (dH p n)) [none] [] (hC c p n)) _) _=_
  rw[hcp]
  rfl
 rw[nt,fk]
 show R.bind (nW [some (.int many),some (.int P),none,none,none,none] c) _=_
 rw[key]
 simp[G9,hC]
theorem Mx:∀a b:List Int,PyData.eqvAll (a.map PyData.int) (b.map PyData.int)=decide (a=b)
 |[],[]=>by simp[PyData.eqvAll]
 |[],b::bs=>by simp[PyData.eqvAll]
 |a::as,[]=>by simp[PyData.eqvAll]
 |a::as,b::bs=>by
  rw[ak6,ak6,PyData.eqvAll,Mx as bs,PyData.eqv]
  by_cases h:a=b
  ·subst h;simp
  ·simp[h]
theorem afd(a:List Int):PyData.depthAll (a.map PyData.int)=0:=by
 induction a with
 |nil=>simp[PyData.depthAll]
 |cons x a ih=>simp[PyData.depthAll,PyData.depth,ih]
theorem afU(L:List (List Int)):eu (LD L)=some (L.map λr=>PyData.list (r.map PyData.int)):=by
 induction L with
 |nil=>simp[LD]
 |cons r L ih =>
  have ih:eu (L.map λr=>D.lst (r.map D.int))=some (L.map λr=>PyData.list (r.map PyData.int)):=ih
  simp[LD,eu,dN,MJ,ih]
theorem ac5(r:List Int) (L:List (List Int)) (c:aa):inD (.lst (r.map D.int)) (.ref c.length) (c++[.lst (LD L)])=.ok (.bl (decide (r∈L))) (c++[.lst (LD L)]):=by
 unfold inD
 have h1:gM (c++[.lst (LD L)]) (.lst (r.map D.int))=some (.list (r.map PyData.int)):=by simp[gM,dN,MJ]
 have h2:gM (c++[.lst (LD L)]) (.ref c.length)=some (.list (L.map λr=>PyData.list (r.map PyData.int))):=by simp[gM,afU]
 rw[h1,h2]
 simp only
 rw[if_pos (by simp[PyData.depth,afd])]
 congr 2
 clear h1 h2
 induction L with
 |nil=>simp
 |cons a L ih =>
  rw[ak6,aoM,ih,PyData.eqv,Mx]
  by_cases h:a=r
  ·subst h;simp
  ·have:¬r=a:=λz=>h z.symm
   simp[h,this]
def iU(p n l:Nat) (one:List Int):List (List Int):=(eV p (n-l)).map λother=>gn one other p
def m9(p n l:Nat):List (List Int):=(eV p l).flatMap (iU p n l)
def rR(p n:Nat):List (List Int):=(List.range (n/2)).flatMap λl=>m9 p n (l+1)
def yU:ah:=(cY (lz (ak 3) (aR (cD (aC 2 nt (ao (au br (ak 2) (ak 4)) (ao (ak 1) aq)))) [none,some 5,some 1] (az 0) aH (aC 3 kO (ao (ak 1) (ao (ak 0) (ao (ak 2) aq)))))))
def vJ:ah:=(bY (cD (aC 2 nt (ao (ak 4) (ao (ak 1) aq)))) (az 5) (cY (lz (ak 3) (aR (cD (aC 2 nt (ao (au br (ak 2) (ak 4)) (ao (ak 1) aq)))) [none,some 5,some 1] (az 0) aH (aC 3 kO (ao (ak 1) (ao (ak 0) (ao (ak 2) aq))))))))
theorem LM{p n:Nat}(hp:p<1000) {r:List Int}(h:r∈eV p n):r.length=n+1/\r≠[]/\∀x∈r,0<=x/\x<1000:=by
 obtain⟨t,ht,rfl⟩:=akW.mp h
 refine⟨by rw[als,xC p n t ht];rfl,by simp,λx hx=>?_⟩
 have gen:∀i,∀r∈dH p i,∀x∈r,0<=x/\x<1000:=by
  intro i
  induction i with
  |zero=>intro r hr x hx;rw[dH,alP]at hr;subst hr;cases hx
  |succ i ih =>
   intro r hr x hx
   rw[dH,apK]at hr
   obtain⟨r',h1,h2⟩:=hr
   obtain⟨d,hd,rfl⟩:=akW.mp h2
   rcases alz.mp hx with hx|hx
   ·exact ih r' h1 x hx
   ·rw[alP]at hx
    subst hx
    have:=akZ.mp hd
    omega
 rcases alz.mp hx with hx|hx
 ·exact gen n t ht x hx
 ·rw[alP]at hx;subst hx;omega
theorem ag5{p k:Nat}{one:List Int}{P:Int}(hP:P=p) (hp:0<p) (eU:p<1000) (hk:k<100) (h1:one≠[]) (h2:∀x∈one,0<=x/\x<1000) (h3:one.length<500) (c:aa) :
  bA (λ_=>True) (az 0) aH (aC 3 kO (ao (ak 1) (ao (ak 0) (ao (ak 2) aq)))) (LD (eV p k)) [none,some (.lst (one.map D.int)),some (.int P)] [] c=.ok (LD ((eV p k).map λother=>gn one other p)) c:=by
 have:=j6 (c:=c) (g:=az 0) (t:=aH) (a:=aC 3 kO (ao (ak 1) (ao (ak 0) (ao (ak 2) aq)))) (λe=>∃v,e=[v,some (.lst (one.map D.int)),some (.int P)]) (λ_=>true)
  (λd=>match d with|.lst l=>.lst ((gn one ((nv l).getD []) p).map D.int)|d=>d) (LD (eV p k)) [none,some (.lst (one.map D.int)),some (.int P)] [] ⟨none,rfl⟩ (λx hx e ⟨v,he⟩=>by
   subst he
   obtain⟨r,hr,rfl⟩:=akW.mp hx
   have hb:=LM eU hr
   refine⟨_,rfl,⟨_,rfl⟩,rfl,λ_=>?_⟩
   have jY:=RX (a:=one) (b:=r) (p:=P) (by omega) h1 h2 (by omega) c
   subst hP
   simp[jY,DP])
 rw[this,alg,El]
 congr 1
 unfold LD
 rw[aln,aln]
 apply alY
 intro r _
 simp[DP]
structure Ar (p n:Nat):Prop where
 p0:0<p
 p1:p<1000
 n1:1<n
 n2:n<100
 pw:∀i,i<=n->p^i<1000
theorem yV{α β:Type}(f:α->List β) (k:Nat):∀L:List α,(∀x∈L,(f x).length=k)->(L.flatMap f).length=L.length*k
 |[],_=>by simp
 |a::L,h=>by
  rw[aoK,als,yV f k L λx hx=>h x (alD _ hx),h a alN,alc,amk,anv]
theorem sD(p n:Nat):(eV p n).length=p^n:=by rw[eV,ak4,yJ]
theorem aeT{p n l:Nat}(B:Ar p n) {P N l':Int}(hP:P=p) (hN:N=n) (hl:l'=l) (l1:1<=l) (l2:l<=n) {c:aa}{acc:List (List Int)}{one:List Int}(h1:one≠[]) (h2:∀x∈one,0<=x/\x<1000) (h3:one.length<500) (ha:acc.length+p^(n-l)<=1000) (q v6:Option D) :
  yU [q,some (.int P),some (.int N),some (.ref c.length),some (.int l'),some (.lst (one.map D.int)),v6] (c++[.lst (LD acc)]) =
   .ok (.nx [q,some (.int P),some (.int N),some (.ref c.length),some (.int l'),some (.lst (one.map D.int)),v6]) (c++[.lst (LD (acc++iU p n l one))]):=by
 obtain⟨p0,p1,n1,n2,pw⟩:=B
 have hs:=eO (n:=1000) (by decide)
 have hpl:=pw (n-l) (by omega)
 have hh:=LL (many:=N-l') (P:=P) (p:=p) (n:=n-l) hP (by omega) (by omega) (by omega) p0 p1 hpl (by omega) (c++[.lst (LD acc)])
 have hc:=ag5 (p:=p) (k:=n-l) (one:=one) hP p0 p1 (by omega) h1 h2 h3 (c++[.lst (LD acc)])
 have hit:(LD (eV p (n-l))).length<sizeLine:=by rw[kj,sD];omega
 have hl2:(LD acc).length+(LD (iU p n l one)).length<=sizeLine/\bE (LD (iU p n l one))=true:=⟨by
  rw[kj,kj,iU,ak4,sD];omega,G9 _⟩
 have hsub:∀c:aa,br (.int N) (.int l') c=.ok (.int (N-l')) c:=λ_=>rfl
 simp only[yU,ig,lz,bK,gz,gs,R.aA,dB,wQ,x_call,bz,fO,hsub,bC,alc,aly,if_pos,hh]
 rw[if_pos hit]
 show R.bind (R.bind (R.bind (bA (λ_=>True) (az 0) aH (aC 3 kO (ao (ak 1) (ao (ak 0) (ao (ak 2) aq)))) (LD (eV p (n-l))) [none,some (.lst (one.map D.int)),some (.int P)] [] (c++[.lst (LD acc)])) _) _) _=_
 rw[hc]
 simp only[R.aA,aoj]
 rw[if_pos (show(LD acc).length+(LD ((eV p (n-l)).map λother=>gn one other p)).length<=sizeLine/\bE (LD ((eV p (n-l)).map λother=>gn one other p))=true from hl2)]
 rw[Oq]
 simp[iU]
theorem aeS{p n l:Nat}(B:Ar p n) {P N l':Int}(hP:P=p) (hN:N=n) (hl:l'=l) (l1:1<=l) (l2:l<=n) {c:aa}{acc:List (List Int)}(ha:acc.length+p^n<=1000) (q v5 v6:Option D) :
  ∃w5,vJ [q,some (.int P),some (.int N),some (.ref c.length),some (.int l'),v5,v6] (c++[.lst (LD acc)])=.ok (.nx [q,some (.int P),some (.int N),some (.ref c.length),some (.int l'),w5,v6]) (c++[.lst (LD (acc++m9 p n l))]):=by
 obtain⟨p0,p1,n1,n2,pw⟩:=id B
 have hh:=LL (many:=l') (P:=P) (p:=p) (n:=l) hP hl (by omega) (by omega) p0 p1 (pw l l2) (by omega) (c++[.lst (LD acc)])
 obtain⟨v',hf⟩:=k9 (st:=λ_=>True) (g:=az 5) (s:=yU) (λj=>c++[.lst (LD (acc++((eV p l).take j).flatMap (iU p n l)))]) (λ_ v=>[q,some (.int P),some (.int N),some (.ref c.length),some (.int l'),v,v6]) (LD (eV p l)) 0 v5
  (λ_ _=>trivial) (λj x hx v=>by
   rw[alr]
   have hj:j<(eV p l).length:=by
    have:=(ala.mp hx).1
    rwa[kj]at this
   have hx':x=.lst ((eV p l)[j].map D.int):=by
    have:=(ala.mp hx).2
    rw[<-this]
    simp[LD]
   subst hx'
   have hb:=LM p1 (alq hj)
   refine⟨_,rfl,some (.lst ((eV p l)[j].map D.int)),?_⟩
   have hfl:=yV (iU p n l) (p^(n-l)) ((eV p l).take j) (λy _=>by rw[iU,ak4,sD])
   rw[ami,aoL (by omega)]at hfl
   have hacc:(acc++((eV p l).take j).flatMap (iU p n l)).length+p^(n-l)<=1000:=by
    rw[als,hfl]
    rw[sD]at hj
    have h2:(j+1)*p^(n-l)<=p^l*p^(n-l):=an0 _ hj
    rw[<-Nat.pow_add,show l+(n-l)=n by omega,amk]at h2
    omega
   have:=aeT (l:=l) B hP hN hl l1 l2 (c:=c) hb.2.1 hb.2.2 (by omega) hacc q v6
   rw[Ik _ hj,<-alu]
   exact this)
 rw[kj,alr,amf]at hf
 refine⟨v',?_⟩
 simp only[vJ,gB,wQ,x_call,bz,bK,gz,gs,R.aA,bC,alc,aly,if_pos,hh]
 unfold yU at hf
 have e0:acc++([]:List (List Int)).flatMap (iU p n l)=acc:=by simp
 rw[anF,e0]at hf
 exact hf
theorem Vj(p n:Nat) (h:∀l,1<=l->l<=n->(m9 p n l).length=p^n):∀i,i<=n->((List.range i).flatMap λl=>m9 p n (l+1)).length=i*p^n:=λi hi=>by
 rw[yV _ (p^n) (List.range i) λx hx=>h (x+1) (by omega) (by have:=akZ.mp hx;omega),alR]
theorem Vk(p n l:Nat) (h:l<=n):(m9 p n l).length=p^n:=by
 rw[m9,yV _ (p^(n-l)) _ λx _=>by rw[iU,ak4,sD],sD,<-Nat.pow_add,show l+(n-l)=n by omega]
theorem aeR{p n:Nat}(B:Ar p n) (hb:(n/2)*p^n<=1000) {P N:Int}(hP:P=p) (hN:N=n) (c:aa) (q v6:Option D) :
  ∃w4 w5,dg (λ_=>True) (az 4) vJ (aT 1 (N/2+1)) [q,some (.int P),some (.int N),some (.ref c.length),none,none,v6] (c++[.lst []])=.ok (.nx [q,some (.int P),some (.int N),some (.ref c.length),w4,w5,v6]) (c++[.lst (LD (rR p n))]):=by
 have n1:=B.n1
 have hl:(aT 1 (N/2+1)).length=n/2:=by rw[e8];omega
 obtain⟨v',hf⟩:=k9 (α:=Option D×Option D) (st:=λ_=>True) (g:=az 4) (s:=vJ) (λi=>c++[.lst (LD ((List.range i).flatMap λl=>m9 p n (l+1)))]) (λ_ v=>[q,some (.int P),some (.int N),some (.ref c.length),v.1,v.2,v6]) (aT 1 (N/2+1)) 0 (none,none)
  (λ_ _=>trivial) (λi x hx v=>by
   rw[alr]
   obtain⟨h1,rfl⟩:=xD hx
   have hi:i<n/2:=by omega
   have hacc:((List.range i).flatMap λl=>m9 p n (l+1)).length+p^n<=1000:=by
    rw[Vj p n (λl _ h=>Vk p n l h) i (by omega)]
    have h2:(i+1)*p^n<=(n/2)*p^n:=an0 _ hi
    rw[amk]at h2
    omega
   obtain⟨w,h⟩:=aeS (l:=i+1) (l':=1+(i:Int)) B hP hN (by omega) (by omega) (by omega) (c:=c) hacc q v.2 v6
   refine⟨_,rfl,(some (.int (1+(i:Int))),w),?_⟩
   rw[amd,apJ]
   simpa using h)
 rw[hl,alr]at hf
 exact⟨v'.1,v'.2,hf⟩
def yT:ai:=(aW (au inD (au dU (aC 3 fH (ao (ak 6) (ao (ak 1) (ao (ak 2) aq)))) (bU (ao (dC (.int 1)) aq))) (ak 3)))
theorem Mq{p n:Nat}{P N:Int}(hP:P=p) (hN:N=n) (hp:0<p) (eU:p<1000) (hn:n<100) {t:Int}{c:aa}{L:List (List Int)}(q v4 v5:Option D) :
  yT [q,some (.int P),some (.int N),some (.ref c.length),v4,v5,some (.int t)] (c++[.lst (LD L)])=.ok (decide (bW P n t++[1]∈L)) (c++[.lst (LD L)]):=by
 have hs:=eO (n:=1000) (by decide)
 have hr:=yr (p:=P) (N:=N) (x:=t) (n:=n) (by omega) (by omega) (by rw[e8];omega) (by omega) (by omega) (c++[.lst (LD L)])
 have hz:(bW P n t).length+1<=sizeLine:=by rw[iz];omega
 have hi:=ac5 (bW P n t++[1]) L c
 rw[alX]at hi
 simp[yT,hr,dU,hz]
 simp at hi
 rw[hi]
 rfl
theorem Mp{p n:Nat}{P N:Int}(hP:P=p) (hN:N=n) (hp:0<p) (eU:p<1000) (hn:n<100) {c:aa}{L:List (List Int)}{low:Nat}(h1:∀t,t<low->bW P n t++[1]∈L) (h2:bW P n low++[1]∉L) (q v4 v5:Option D):∀(k fuel t:Nat),t+k=low->k<fuel ->
  gk yT (aF 6 (au aZ (ak 6) (dC (.int 1)))) fuel [q,some (.int P),some (.int N),some (.ref c.length),v4,v5,some (.int t)] (c++[.lst (LD L)])=.ok (.nx [q,some (.int P),some (.int N),some (.ref c.length),v4,v5,some (.int low)]) (c++[.lst (LD L)])
 |0,fuel+1,t,e,_=>by
  have e:t=low:=by omega
  subst e
  unfold gk
  rw[Mq hP hN hp eU hn,decide_eq_false h2]
  rfl
 |k+1,fuel+1,t,e,hf=>by
  have ih:=Mp (c:=c) hP hN hp eU hn h1 h2 q v4 v5 k fuel (t+1) (by omega) (by omega)
  unfold gk
  rw[Mq hP hN hp eU hn,decide_eq_true (h1 t (by omega))]
  simp only[R.aA,if_pos]
  have es:(aF 6 (au aZ (ak 6) (dC (.int 1)))) [q,some (.int P),some (.int N),some (.ref c.length),v4,v5,some (.int t)] (c++[.lst (LD L)])=.ok (.nx [q,some (.int P),some (.int N),some (.ref c.length),v4,v5,some (.int ((t+1:Nat):Int))]) (c++[.lst (LD L)]):=by simp
  rw[es]
  exact ih
def fc(f:Fd):List Int:=if f.n=1 then[0,1]else bW f.p f.n f.low++[1]
def M6(f:Fd):Bool:=Nat.beq f.n 1||((List.range f.low).all λt=>(rR f.p f.n).any λr=>decide (r=bW f.p f.n t++[1]))&&((rR f.p f.n).all λr=>decide (¬r=bW f.p f.n f.low++[1]))&&Nat.ble ((f.n/2)*f.p^f.n) 1000&&Nat.ble (f.low+1) 60
theorem aiK:cy.all M6=true:=by decide +kernel
def bF(G W:ah):ah:=(aD (aF 1 (aC 1 gf (ao (ak 0) aq))) (aD (aF 2 (aC 1 jV (ao (ak 0) aq))) (aD (b8 (aW (au bS (ak 2) (dC (.int 1)))) (aL (bU (ao (dC (.int 0)) (ao (dC (.int 1)) aq)))) cg) (aD (aF 3 (cW aq)) (aD (bY (je (ao (dC (.int 1)) (ao (au aZ (au eG (ak 2) (dC (.int 2))) (dC (.int 1))) aq))) (az 4) G) (aD (aF 6 (dC (.int 0))) (aD W (aL (au dU (aC 3 fH (ao (ak 6) (ao (ak 1) (ao (ak 2) aq)))) (bU (ao (dC (.int 1)) aq)))))))))))
theorem ahQ:tP=bF vJ (gk yT (aF 6 (au aZ (ak 6) (dC (.int 1)))) 60):=rfl
theorem aeJ{G W:ah}{q P N low:Int}{w4 w5:Option D}{c:aa}{C:aa}{row:List D}{bx:List Int}(hq:-4611686018427387904<=N/2+1/\N/2+1<4611686018427387904) (hn1:¬N=1) (hp:gf [.int q] c=.ok (.int P) c) (hd:jV [.int q] c=.ok (.int N) c) (hrl:row.length+1<1000)
  (hl:dg (λ_=>True) (az 4) G (aT 1 (N/2+1)) [some (.int q),some (.int P),some (.int N),some (.ref c.length),none,none,none] (c++[.lst []])=.ok (.nx [some (.int q),some (.int P),some (.int N),some (.ref c.length),w4,w5,none]) (c++C))
  (hw:W [some (.int q),some (.int P),some (.int N),some (.ref c.length),w4,w5,some (.int 0)] (c++C)=.ok (.nx [some (.int q),some (.int P),some (.int N),some (.ref c.length),w4,w5,some (.int low)]) (c++C))
  (hr:fH [.int low,.int P,.int N] (c++C)=.ok (.lst row) (c++C)) (he:bx.map D.int=row++[.int 1]):bG 7 false (bF G W) [.int q] c=.ok (.lst (bx.map D.int)) c:=by
 have hs:=eO (n:=1000) (by decide)
 have pI:eG (.int N) (.int 2) (c++[.lst []])=.ok (.int (N/2)) (c++[.lst []]):=nN _ (by decide) (by decide)
 have hz:row.length+1<=sizeLine:=by omega
 have href:bE (row++[.int 1])=true:=by rw[<-he];exact ye
 have key:bF G W [some (.int q),none,none,none,none,none,none] c=.ok (.rt (.lst (row++[.int 1]))) (c++C):=by
  simp[bF,hp,hd,hn1,pI]
  rw[if_pos (by omega)]
  simp only[R.aA]
  rw[hl]
  simp[hw,hr,dU,hz]
 rw[fk]
 show R.bind (bF G W [some (.int q),none,none,none,none,none,none] c) _=_
 rw[key,he]
 simp[href]
theorem aeG{G W:ah}{q P:Int}{c:aa}(hp:gf [.int q] c=.ok (.int P) c) (hd:jV [.int q] c=.ok (.int 1) c):bG 7 false (bF G W) [.int q] c=.ok (.lst [.int 0,.int 1]) c:=by
 simp[bF,hp,hd]
theorem aeH{f:Fd}(h:f∈cy) (c:aa):sy [.int f.q] c=.ok (.lst ((fc f).map D.int)) c:=by
 have I:=iD h
 have p2:=I.p2
 have jQ:=I.jQ
 have n1:=I.n1
 have n5:=I.n5
 have hF:=ak2.mp aiK f h
 have hp:=Bp h c
 have hd:=MD h c
 rw[sy,ahQ]
 by_cases hn:f.n=1
 ·have e:fc f=[0,1]:=if_pos hn
  rw[e]
  exact aeG hp (by rw[hd,hn];rfl)
 ·have e:fc f=bW f.p f.n f.low++[1]:=if_neg hn
  have hn0:Nat.beq f.n 1=false:=by
   cases hq:Nat.beq f.n 1 with
   |false=>rfl
   |true=>exact absurd (be hq) hn
  simp only[M6,hn0,aoN,ald]at hF
  obtain⟨⟨⟨f1,f2⟩,f3⟩,f4⟩:=hF
  have g1:∀t,t<f.low->bW (f.p:Int) f.n t++[1]∈rR f.p f.n:=λt ht=>by
   have:=ak2.mp f1 t (akZ.mpr ht)
   obtain⟨r,hr,he⟩:=aog.mp this
   rw[<-of_decide_eq_true he]
   exact hr
  have g2:bW (f.p:Int) f.n f.low++[1]∉rR f.p f.n:=λhm=>by
   have:=ak2.mp f2 _ hm
   simp at this
  have hq:f.q<1000:=by
   have:(cy.all λf=>decide (f.q<1000))=true:=by decide +kernel
   simpa using ak2.mp this f h
  have B:Ar f.p f.n:=⟨by omega,by omega,by omega,by omega,λi hi=>by
   have:=apL (n:=f.p) (by omega) hi
   rw[I.pn]at this
   omega⟩
  obtain⟨w4,w5,hl⟩:=aeR (P:=f.p) (N:=f.n) B (bl f3) rfl rfl c (some (.int f.q)) none
  have hw:=Mp (P:=f.p) (N:=f.n) (p:=f.p) (n:=f.n) rfl rfl (by omega) (by omega) (by omega) (c:=c) g1 g2 (some (.int f.q)) w4 w5 f.low 60 0 (by omega) (bl f4)
  have hr:=yr (p:=f.p) (N:=f.n) (x:=f.low) (n:=f.n) (by omega) (by omega) (by rw[e8];omega) (by omega) (by omega) (c++[.lst (LD (rR f.p f.n))])
  exact aeJ (by omega) (by omega) hp hd (by rw[ak4,iz];omega) hl hw hr (by rw[e,alX];rfl)
def kH(p fS:Int) (bx:List Int) (base:Nat) (F:List Int):Nat->List Int
 |0=>F
 |k+1=>(kH p fS bx base F k).set (base+k) ((gI (kH p fS bx base F k) (base+k)-fS*gI bx k) % p)
def gT(p:Int) (bx:List Int) (n:Nat) (F:List Int):Nat->List Int
 |0=>F
 |i+1=>kH p (gI (gT p bx n F i) (2*n-2-i)) bx (2*n-2-i-n) (gT p bx n F i) (n+1)
def rS(p:Int) (n:Nat) (bx:List Int) (x y:Int):Int:=jm p ((gT p bx n (gn (bW p n x) (bW p n y) p) (n-1)).take n)
theorem xJ{p fS:Int}{bx:List Int}{base:Nat}{F:List Int}:∀k,(kH p fS bx base F k).length=F.length
 |0=>rfl
 |k+1=>by rw[kH,an6,xJ k]
theorem xH{p:Int}{bx:List Int}{n:Nat}{F:List Int}:∀i,(gT p bx n F i).length=F.length
 |0=>rfl
 |i+1=>by rw[gT,xJ,xH i]
theorem ID(a b:List Int) (p:Int):(gn a b p).length=a.length+b.length-1:=by rw[gn,xV,anu]
def xU:ah:=(aD (aF 10 (au aZ (au br (ak 7) (ak 5)) (ak 9))) (iy (au bN (au br (au aE (ak 6) (ak 10)) (au aU (ak 8) (au aE (ak 1) (ak 9)))) (ak 4)) (k8 (ak 6) (ak 10))))
theorem Xl{bx F:List Int}{p fS N place:Int}{c:aa}{base k n:Nat}(hp:0<p) (hN:N=n) (hpl:place=(base:Int)+n) (hk:k<bx.length) (hF:base+k<F.length) (hs:∀x∈bx,0<=x/\x<1000) (q a2 a3 v10:Option D) :
  xU [q,some (.lst (bx.map D.int)),a2,a3,some (.int p),some (.int N),some (.ref c.length),some (.int place),some (.int fS),some (.int k),v10] (c++[.lst (F.map D.int)]) =
   .ok (.nx [q,some (.lst (bx.map D.int)),a2,a3,some (.int p),some (.int N),some (.ref c.length),some (.int place),some (.int fS),some (.int k),some (.int (place-N+k))]) (c++[.lst ((F.set (base+k) ((gI F (base+k)-fS*gI bx k) % p)).map D.int)]):=by
 have h1:=DN (c:=c) (l:=F.map D.int) (i:=place-N+k) (j:=base+k) (d:=.int (gI F (base+k))) (by omega) (sL hF)
 have h2:cT (bx.map D.int) k=some (.int (gI bx k)):=gO (sL hk)
 have hb:0<=gI bx k/\gI bx k<1000:=hs _ (by simp[gI,List.getD,hk])
 have h4:∀c,aU (.int fS) (.int (gI bx k)) c=.ok (.int (fS*gI bx k)) c:=λc=>mul_r c (by omega) (by omega)
 have h5:=λx=>IU (c:=c) (l:=F.map D.int) (i:=place-N+k) (j:=base+k) (d:=.int x) (by omega) (by simpa using hF) rfl
 have h6:∀x c,bN (.int x) (.int p) c=.ok (.int (x % p)) c:=λx c=>iY c hp
 simp only[xU,jF,f6,HG,fO,bK,gz,gs,R.aA,kB,wO,amc,amZ,ou,h1,h2,h4,h6,HF,h5,map_set]
def xT:ah:=(aD (aF 8 (au aE (ak 6) (ak 7))) (bY (aY (ao (au aZ (ak 5) (dC (.int 1))) aq)) (az 9) (aD (aF 10 (au aZ (au br (ak 7) (ak 5)) (ak 9))) (iy (au bN (au br (au aE (ak 6) (ak 10)) (au aU (ak 8) (au aE (ak 1) (ak 9)))) (ak 4)) (k8 (ak 6) (ak 10))))))
theorem Xk{bx F:List Int}{p N place:Int}{c:aa}{base n:Nat}(hp:0<p) (hN:N=n) (b1:-4611686018427387904<=N+1/\N+1<4611686018427387904) (hpl:place=(base:Int)+n) (hk:bx.length=n+1) (hF:base+n<F.length) (hs:∀x∈bx,0<=x/\x<1000) (q a2 a3 v8 v9 v10:Option D) :
  ∃w8 w9 mO,xT [q,some (.lst (bx.map D.int)),a2,a3,some (.int p),some (.int N),some (.ref c.length),some (.int place),v8,v9,v10] (c++[.lst (F.map D.int)]) =
   .ok (.nx [q,some (.lst (bx.map D.int)),a2,a3,some (.int p),some (.int N),some (.ref c.length),some (.int place),w8,w9,mO]) (c++[.lst ((kH p (gI F (base+n)) bx base F (n+1)).map D.int)]):=by
 have h1:=DN (c:=c) (l:=F.map D.int) (i:=place) (j:=base+n) (d:=.int (gI F (base+n))) (by omega) (sL hF)
 obtain⟨v',hf⟩:=nK (α:=Option D×Option D) (g:=az 9) (s:=xU) (N:=N+1) (n:=n+1) (λk=>c++[.lst ((kH p (gI F (base+n)) bx base F k).map D.int)]) (λ_ v=>[q,some (.lst (bx.map D.int)),a2,a3,some (.int p),some (.int N),some (.ref c.length),some (.int place),some (.int (gI F (base+n))),v.1,v.2]) (by omega) (v9,v10) (λk hk' v=>by
  exact⟨_,rfl,(some (.int k),_),Xl hp hN hpl (by omega) (by rw[xJ];omega) hs q a2 a3 v.2⟩)
 refine⟨some (.int (gI F (base+n))),v'.1,v'.2,?_⟩
 simp only[xT,jF,f6,fO,bK,gz,gs,R.aA,h1,amc,amZ,gB,gj,bz,oz,kB,bC]
 rw[if_pos (by omega)]
 unfold xU at hf
 exact hf
theorem abz(l:List Int) (c:aa):bg [.ref c.length] (c++[.lst (l.map D.int)])=.ok (.int l.length) (c++[.lst (l.map D.int)]):=by
 unfold bg
 simp[fP]
def wc(L:List D->aa->R D) (S:Ev->aa->R Src) (Rt:ah) (G:ah):ah:=(aD (aF 4 (aC 1 gf (ao (ak 0) aq))) (aD (aF 5 (au br (aG L (ao (ak 1) aq)) (dC (.int 1)))) (aD (aF 6 (aC 3 r9 (ao (aC 3 fH (ao (ak 2) (ao (ak 4) (ao (ak 5) aq)))) (ao (aC 3 fH (ao (ak 3) (ao (ak 4) (ao (ak 5) aq)))) (ao (ak 4) aq))))) (aD (bY S (az 7) G) Rt))))
theorem ahO:tL=wc bg (sR (ao (au br (aG bg (ao (ak 6) aq)) (dC (.int 1))) (ao (au br (ak 5) (dC (.int 1))) (ao (au br (dC (.int 0)) (dC (.int 1))) aq)))) (aL (aC 2 oY (ao (jx (ak 6) jA (jz (ak 5))) (ao (ak 4) aq)))) xT:=rfl
theorem Us{L:List D->aa->R D}{M N:Int}{e:Ev}{c:aa}{d:D}(h6:e[6]? = some (some d)) (h5:e[5]? = some (some (.int N))) (hM:L [d] c=.ok (.int M) c) (b1:-4611686018427387904<=M-1/\M-1<4611686018427387904/\-4611686018427387904<=N-1/\N-1<4611686018427387904) :
  (sR (ao (au br (aG L (ao (ak 6) aq)) (dC (.int 1))) (ao (au br (ak 5) (dC (.int 1))) (ao (au br (dC (.int 0)) (dC (.int 1))) aq)))) e c=.ok ⟨ja (M-1) (N-1),λ_=>True⟩ c:=by
 simp only[sR,bz,fO,eN,bK,oz,bC,h6,h5,R.aA,hM,wO]
 rw[if_pos ⟨by decide,by omega,by omega,by omega,by omega⟩]
theorem MR{l:List D}{n:Nat}{N:Int}(hN:N=n) (h:n<=l.length):cutD l none (some N)=l.take n:=by
 subst hN
 have:HT.fq l.length l.length (some (n:Int))=n:=by rw[HT.T6];omega
 show(l.drop 0).take (HT.fq l.length l.length (some (n:Int))-0)=_
 rw[this];simp
theorem S5{e:Ev}{N:Int}{n:Nat}{F:List Int}{c:aa}(h6:e[6]? = some (some (.ref c.length))) (h5:e[5]? = some (some (.int N))) (vC:cutD (F.map D.int) none (some N)=(F.take n).map D.int):jx (ak 6) jA (jz (ak 5)) e (c++[.lst (F.map D.int)])=.ok (.lst ((F.take n).map D.int)) (c++[.lst (F.map D.int)]):=by
 have DZ:dG (c++[.lst (F.map D.int)]) (.ref c.length)=some (F.map D.int):=by simp[dG]
 rw[PJ,bK,h6,R.aA,PN,R.aA,PM,bK,h5,R.aA,R.aA,DZ]
 show R.ok (D.lst (cutD (F.map D.int) none (some N))) _=_
 rw[vC]
theorem Uh{m:List D->aa->R D}{Sl:af}{e:Ev}{c:aa}{p w:Int}{l:List D}(hS:Sl e c=.ok (.lst l) c) (h4:e[4]? = some (some (.int p))) (hn:m [.lst l,.int p] c=.ok (.int w) c):aL (aC 2 m (ao Sl (ao (ak 4) aq))) e c=.ok (.rt (.int w)) c:=by
 rw[iO,x_call,bz,hS,R.aA,bz,bK,h4,R.aA,bC,R.aA,R.aA,R.aA,if_pos (show[D.lst l,D.int p].length=2 from rfl),hn,R.aA]
theorem Xf{L:List D->aa->R D}{S:Ev->aa->R Src}{Rt:ah}{its:List D}{G:ah}{q x y p N w:Int}{bx:List Int}{rx ry:List D}{F F':List Int}{c:aa}{w7 w8 w9 mO:Option D}(hp:gf [.int q] c=.ok (.int p) c) (hL:L [.lst (bx.map D.int)] c=.ok (.int (N+1)) c)
  (h1:fH [.int x,.int p,.int N] c=.ok (.lst rx) c) (h2:fH [.int y,.int p,.int N] c=.ok (.lst ry) c) (h3:r9 [.lst rx,.lst ry,.int p] c=.ok (.ref c.length) (c++[.lst (F.map D.int)]))
  (hS:S [some (.int q),some (.lst (bx.map D.int)),some (.int x),some (.int y),some (.int p),some (.int N),some (.ref c.length),none,none,none,none] (c++[.lst (F.map D.int)])=.ok ⟨its,λ_=>True⟩ (c++[.lst (F.map D.int)]))
  (hf:dg (λ_=>True) (az 7) G its [some (.int q),some (.lst (bx.map D.int)),some (.int x),some (.int y),some (.int p),some (.int N),some (.ref c.length),none,none,none,none] (c++[.lst (F.map D.int)])=.ok (.nx [some (.int q),some (.lst (bx.map D.int)),some (.int x),some (.int y),some (.int p),some (.int N),some (.ref c.length),w7,w8,w9,mO]) (c++[.lst (F'.map D.int)]))
  (hRt:Rt [some (.int q),some (.lst (bx.map D.int)),some (.int x),some (.int y),some (.int p),some (.int N),some (.ref c.length),w7,w8,w9,mO] (c++[.lst (F'.map D.int)])=.ok (.rt (.int w)) (c++[.lst (F'.map D.int)])):bG 11 false (wc L S Rt G) [.int q,.lst (bx.map D.int),.int x,.int y] c=.ok (.int w) c:=by
 have key:wc L S Rt G [some (.int q),some (.lst (bx.map D.int)),some (.int x),some (.int y),none,none,none,none,none,none,none] c=.ok (.rt (.int w)) (c++[.lst (F'.map D.int)]):=by
  simp[wc,hp,hL,h1,h2,h3,hS]
  rw[hf]
  simp only[R.aA]
  rw[hRt]
 rw[fk]
 show R.bind (wc L S Rt G [some (.int q),some (.lst (bx.map D.int)),some (.int x),some (.int y),none,none,none,none,none,none,none] c) _=_
 rw[key]
 simp
theorem aeI{f:Fd}(h:f∈cy):(fc f).length=f.n+1/\∀x∈fc f,0<=x/\x<1000:=by
 have I:=iD h
 have p2:=I.p2
 have jQ:=I.jQ
 unfold fc
 split
 ·rename_i e
  rw[e]
  exact⟨rfl,λx hx=>by simp at hx;omega⟩
 ·refine⟨by rw[als,iz];rfl,λx hx=>?_⟩
  rcases alz.mp hx with hx|hx
  ·have:=Bg (p:=f.p) (by omega) f.n f.low x hx;omega
  ·rw[alP]at hx;omega
theorem Vm{f:Fd}(h:f∈cy) (x y:Int) (c:aa):su [.int f.q,.lst ((fc f).map D.int),.int x,.int y] c=.ok (.int (rS f.p f.n (fc f) x y)) c:=by
 have I:=iD h
 have p2:=I.p2
 have jQ:=I.jQ
 have n1:=I.n1
 have n5:=I.n5
 obtain⟨fl,fb⟩:=aeI h
 have rl:∀z,(bW (f.p:Int) f.n z).length=f.n:=iz _ _
 have rb:=λz=>Bg (p:=f.p) (by omega) f.n z
 have h1:=λz=>yr (p:=f.p) (N:=f.n) (x:=z) (n:=f.n) (by omega) (by omega) (by rw[e8];omega) (by omega) (by omega) c
 have h3:=RW (a:=bW f.p f.n x) (b:=bW f.p f.n y) (p:=f.p) (by omega) (λz=>by have:=rl x;rw[z]at this;simp at this;omega) (λd hd=>by have:=rb x d hd;omega) (by rw[rl,rl];omega) c
 have LX:(gn (bW f.p f.n x) (bW f.p f.n y) f.p).length=2*f.n-1:=by rw[ID,rl,rl];omega
 generalize hF:gn (bW (f.p:Int) f.n x) (bW f.p f.n y) f.p=F at h3 LX
 have hdl:(ja (((2*f.n-1:Nat):Int)-1) ((f.n:Int)-1)).length=f.n-1:=by simp[ja];omega
 obtain⟨v',hf⟩:=k9 (α:=Option D×Option D×Option D×Option D) (st:=λ_=>True) (g:=az 7) (s:=xT) (λi=>c++[.lst ((gT f.p (fc f) f.n F i).map D.int)]) (λ_ v=>[some (.int f.q),some (.lst ((fc f).map D.int)),some (.int x),some (.int y),some (.int f.p),some (.int f.n),some (.ref c.length),v.1,v.2.1,v.2.2.1,v.2.2.2])
  (ja (((2*f.n-1:Nat):Int)-1) ((f.n:Int)-1)) 0 (none,none,none,none) (λ_ _=>trivial) (λi z hz v=>by
   rw[alr]
   have hi:i<f.n-1:=by
    have:=(ala.mp hz).1
    omega
   have hz':z=.int ((((2*f.n-1:Nat):Int)-1)-i):=by
    unfold ja at hz
    rw[ale]at hz
    cases hq:(List.range ((((2*f.n-1:Nat):Int)-1)-((f.n:Int)-1)).toNat)[i]? with
    |none=>rw[hq]at hz;cases hz
    |some u =>
     rw[hq]at hz
     have:=(ala.mp hq).2
     rw[anc]at this
     subst this
     cases hz
     rfl
   subst hz'
   obtain⟨w8,w9,mO,hb⟩:=Xk (bx:=fc f) (F:=gT f.p (fc f) f.n F i) (p:=f.p) (N:=f.n) (place:=(((2*f.n-1:Nat):Int)-1)-i) (c:=c) (base:=2*f.n-2-i-f.n) (n:=f.n) (by omega) rfl (by omega) (by omega) fl (by rw[xH];omega) fb (some (.int f.q)) (some (.int x)) (some (.int y)) v.2.1 v.2.2.1 v.2.2.2
   refine⟨_,rfl,(some (.int ((((2*f.n-1:Nat):Int)-1)-i)),w8,w9,mO),?_⟩
   rw[show 2*f.n-2-i-f.n+f.n=2*f.n-2-i by omega]at hb
   exact hb)
 rw[hdl,alr]at hf
 have vC:cutD ((gT f.p (fc f) f.n F (f.n-1)).map D.int) none (some (f.n:Int))=((gT f.p (fc f) f.n F (f.n-1)).take f.n).map D.int:=by
  rw[MR rfl (by rw[ak4,xH];omega),amW]
 have hn:=KN (p:=f.p) (by omega) (by omega) ((gT f.p (fc f) f.n F (f.n-1)).take f.n) (by rw[ami];omega) (c++[.lst ((gT f.p (fc f) f.n F (f.n-1)).map D.int)])
 rw[su,ahO,rS,hF]
 exact Xf (Bp h c) (by rw[vd,fl];rfl) (h1 x) (h1 y) h3 (Us (M:=((2*f.n-1:Nat):Int)) rfl rfl (by rw[abz,LX]) (by omega)) hf (Uh (S5 rfl rfl vC) rfl hn)
def uT:List Int->Nat->(Int->Int)->List Int
 |[],_,_=>[]
 |x::l,0,f=>f x::l
 |x::l,i+1,f=>x::uT l i f
theorem B5:∀(l:List Int) (i:Nat) (f:Int->Int),i<l.length->l.set i (f (gI l i))=uT l i f
 |[],i,f,h=>by cases h
 |x::l,0,f,h=>rfl
 |x::l,i+1,f,h=>by
  have:=B5 l i f (by simpa using h)
  simp only[amc,uT]
  rw[<-this];rfl
def yD(p a:Int) (b:List Int) (k:Nat) (F:List Int):Nat->List Int
 |0=>F
 |j+1=>uT (yD p a b k F j) (k+j) λv=>(v+a*gI b j) % p
theorem DQ{p a:Int}{b:List Int}{k:Nat}{F:List Int}:∀j,k+j<=F.length->jX p a b k F j=yD p a b k F j
 |0,_=>rfl
 |j+1,h=>by rw[jX,yD,DQ j (by omega),B5 _ _ (λv=>(v+a*gI b j) % p) (by rw[<-DQ j (by omega),yC];omega)]
def xW(p:Int) (a b F:List Int):Nat->List Int
 |0=>F
 |k+1=>yD p (gI a k) b k (xW p a b F k) b.length
theorem JI{p:Int}{a b F:List Int}:∀k,k+b.length<=F.length+1->jR p a b F k=xW p a b F k
 |0,_=>rfl
 |k+1,h=>by rw[jR,xW,<-JI k (by omega),DQ _ (by rw[xV];omega)]
def Mg{α:Type}(i:Int) (g:Int->α):α:=match i with
 |.ofNat n=>(match n with|0=>g (.ofNat 0)|m+1=>g (.ofNat (m+1)))
 |.negSucc n=>g (.negSucc n)
theorem aeA{α:Type}(i:Int) (g:Int->α):Mg i g=g i:=by
 cases i with
 |ofNat n=>cases n<;>rfl
 |negSucc n=>rfl
def xG(p fS:Int) (bx:List Int) (base:Nat) (F:List Int):Nat->List Int
 |0=>F
 |k+1=>uT (xG p fS bx base F k) (base+k) λv=>(v-fS*gI bx k) % p
theorem Bk{p fS:Int}{bx:List Int}{base:Nat}{F:List Int}:∀k,base+k<=F.length->kH p fS bx base F k=xG p fS bx base F k
 |0,_=>rfl
 |k+1,h=>by rw[kH,xG,Bk k (by omega),B5 _ _ (λv=>(v-fS*gI bx k) % p) (by rw[<-Bk k (by omega),xJ];omega)]
def uA(p:Int) (bx:List Int) (n:Nat) (F:List Int):Nat->List Int
 |0=>F
 |i+1=>Mg (gI (uA p bx n F i) (2*n-2-i)) λz=>xG p z bx (2*n-2-i-n) (uA p bx n F i) (n+1)
theorem Jg{p:Int}{bx:List Int}{n:Nat}{F:List Int}(hn:1<=n) (hF:F.length=2*n-1):∀i,i<=n-1->gT p bx n F i=uA p bx n F i
 |0,_=>rfl
 |i+1,h=>by rw[gT,uA,aeA,<-Jg hn hF i (by omega),Bk _ (by rw[xH];omega)]
def Bo(p:Int) (n:Nat) (bx:List Int) (x y:Int):Int:=jm p ((uA p bx n (xW p (bW p n x) (bW p n y) (List.replicate (2*n-1) 0) n) (n-1)).take n)
theorem Vn{p:Int}{n:Nat}(hn:1<=n) (bx:List Int) (x y:Int):rS p n bx x y=Bo p n bx x y:=by
 unfold rS Bo
 have hl:(gn (bW p n x) (bW p n y) p).length=2*n-1:=by rw[ID,iz,iz];omega
 rw[Jg hn hl (n-1) (akV _)]
 congr 3
 unfold gn
 rw[iz,iz,show n+n-1=2*n-1 by omega,JI n (by rw[iz,anu];omega)]
def M4(f:Fd):Bool:=Nat.beq f.n 1||(List.range f.q).all λx=>(List.range f.q).all λy=>DO (Bo f.p f.n (fc f) x y) (Mk f x y)
theorem aiG:cy.all M4=true:=by decide +kernel
theorem Vl(p x y:Int):rS p 1 [0,1] x y=(x % p*(y % p)) % p:=by
 simp[rS,gT,gn,jR,jX,bW,gI,jm]
theorem aa8(p x y:Int):BZ p 1 0 x y=(x % p*(y % p)) % p:=by
 simp[BZ,mulR,bW,Ie,Ci,fQ]
theorem abq:(cy.all λf=>!Nat.beq f.n 1||Nat.beq f.low 0)=true:=by decide +kernel
theorem Vo{f:Fd}(h:f∈cy) {x y:Nat}(hx:x<f.q) (hy:y<f.q) (c:aa):su [.int f.q,.lst ((fc f).map D.int),.int x,.int y] c=.ok (.int (M f x y:Nat)) c:=by
 rw[Vm h]
 have I:=iD h
 have hc:=ak2.mp aiG f h
 cases hq:Nat.beq f.n 1 with
 |true =>
  have hn:=be hq
  have hl:=ak2.mp abq f h
  simp only[hq,amU,aoN]at hl
  have e:fc f=[0,1]:=if_pos hn
  have hm:=I.mm x y hx hy
  unfold mI at hm
  rw[e,<-hm,hn,be hl,Vl]
  rw[show((0:Nat):Int)=0 from rfl,aa8]
 |false =>
  simp only[M4,hq,aoN]at hc
  have:=ak2.mp (ak2.mp hc x (akZ.mpr hx)) y (akZ.mpr hy)
  rw[Vn I.n1,Le this,wu]
theorem jk:1000000<sizeLine:=by decide
theorem j7{f:List D->aa->R D}{d1:af}{e:Ev}{c:aa}{x v:D}(h1:d1 e c=.ok x c) (h:f [x] c=.ok v c):aG f (ao d1 aq) e c=.ok v c:=by
 simp only[eN,bz,h1,bC,R.aA];exact h
theorem kD{i:Nat}{d:af}{e:Ev}{c:aa}{v:D}(h:d e c=.ok v c):aF i d e c=.ok (.nx (e.set i (some v))) c:=by rw[f6,h];rfl
theorem m5{d:af}{e:Ev}{c:aa}{v:D}(h:d e c=.ok v c):aL d e c=.ok (.rt v) c:=by rw[iO,h];rfl
theorem eH{f:D->D->aa->R D}{d1 d2:af}{e:Ev}{c:aa}{x y:D}{r:R D}(h1:d1 e c=.ok x c) (h2:d2 e c=.ok y c) (h:f x y c=r):au f d1 d2 e c=r:=by
 rw[fO,h1]
 simp only[R.aA]
 rw[h2]
 exact h
theorem nR{m:List D->aa->R D}{d1 d2:af}{e:Ev}{c:aa}{x y v:D}(h1:d1 e c=.ok x c) (h2:d2 e c=.ok y c) (h:m [x,y] c=.ok v c):aC 2 m (ao d1 (ao d2 aq)) e c=.ok v c:=by
 simp only[x_call,bz,h1,h2,bC,R.aA]
 rw[if_pos (by rfl)];exact h
theorem F3{m:List D->aa->R D}{d1:af}{e:Ev}{c:aa}{x v:D}(h1:d1 e c=.ok x c) (h:m [x] c=.ok v c):aC 1 m (ao d1 aq) e c=.ok v c:=by
 simp only[x_call,bz,h1,bC,R.aA]
 rw[if_pos (by rfl)];exact h
theorem kG{n:Nat}{b:ah}{xs:List D}{c:aa}{v:D}(h:b (cO n xs) c=.ok (.rt v) c) (hv:noRef v=true) (hr:∀k,v≠.ref k):bG n false b xs c=.ok v c:=by
 rw[fk,h]
 simp only[R.aA]
 cases v<;>first|exact absurd rfl (hr _)|(unfold dM;dsimp only;rw[if_pos hv,amf])
def A(f:Fd) (x y:Nat):Nat:=(tW f.p f.n x y).toNat
theorem ajd{f:Fd}(h:f∈cy) (x y:Nat):((A f x y:Nat):Int)=tW f.p f.n x y/\A f x y<f.q:=ai0 (iD h) x y
def sF(f:Fd) (a x y:Nat):Nat:=A f (M f a x) y
theorem M1{a:af}{E:Ev}{c:aa}(it g:Nat->D):∀(l:List Nat) (v:Option D) (acc:List D),(∀i∈l,a (some (it i)::E) c=.ok (g i) c)->bA (λ_=>True) (az 0) aH a (l.map it) (v::E) acc c=.ok (acc++l.map g) c
 |[],v,acc,_=>by simp
 |i::l,v,acc,h=>by
  have h1:az 0 (it i) (v::E) c=.ok (some (it i)::E) c:=rfl
  rw[ak6,jf,h1,R.aA,kq,R.aA,if_pos rfl,h i (.head _),R.aA,M1 it g l _ _ (λz hz=>h z (.tail _ hz)),alu]
  rfl
theorem rL(lo hi:Int):aT lo hi=(List.range (hi-lo).toNat).map λi:Nat=>D.int (lo+(i:Int)):=rfl
theorem ve{d a:af}{pick:List (Option Nat)}{e E:Ev}{c:aa}{N:Int}{n:Nat}(g:Nat->D) (hd:d e c=.ok (.int N) c) (hN:N=n) (hn:n<1000) (hp:cK pick e=none::E) (ha:∀i,i<n->a (some (.int (i:Int))::E) c=.ok (g i) c) :
  aR (aY (ao d aq)) pick (az 0) aH a e c=.ok (.lst ((List.range n).map g)) c:=by
 have sz:=jk
 have h1:aY (ao d aq) e c=.ok ⟨aT 0 N,λ_=>True⟩ c:=by
  unfold aY
  simp only[bz,hd,bC,R.aA]
  rw[if_pos (by omega)]
 have hl:(aT 0 N).length=n:=by rw[e8];omega
 have hr:aT 0 N=(List.range n).map λi:Nat=>D.int (i:Int):=by
  rw[rL,show(N-0).toNat=n by omega]
  simp
 rw[dB,h1,R.aA]
 dsimp only
 rw[if_pos (by rw[hl];omega),hp,hr,M1 _ g (List.range n) none [] (λi hi=>ha i (akZ.mp hi))]
 rfl
theorem QO(l:List D) (c:aa) (h:l.length<=1000):b7 [.lst l] c=.ok (.tup l) c:=by
 have sz:=jk
 simp[b7,fP]
theorem QW{d a:af}{pick:List (Option Nat)}{e E:Ev}{c:aa}{N:Int}{n:Nat}(g:Nat->D) (hd:d e c=.ok (.int N) c) (hN:N=n) (hn:n<1000) (hp:cK pick e=none::E) (ha:∀i,i<n->a (some (.int (i:Int))::E) c=.ok (g i) c) :
  aG b7 (ao (aR (aY (ao d aq)) pick (az 0) aH a) aq) e c=.ok (.tup ((List.range n).map g)) c :=
 j7 (ve g hd hN hn hp ha) (QO _ c (by simp;omega))
theorem J6{l:List D}(h:∀d∈l,noRef d=true):noRef (.tup l)=true:=by unfold noRef;exact gV.mpr h
theorem J8(l:List Nat):noRef (.tup (nD l))=true:=J6 λd hd=>by
 obtain⟨k,_,rfl⟩:=akW.mp hd
 rfl
theorem J7(n:Nat) (s:Nat->Nat->Nat):noRef (aP n s)=true:=J6 λd hd=>by
 obtain⟨k,_,rfl⟩:=akW.mp hd
 exact J8 _
theorem Bm{f:Fd}(h:f∈cy):f.q<=50:=by
 have:(cy.all λf=>decide (f.q<=50))=true:=by decide +kernel
 simpa using ak2.mp this f h
theorem ym(n:Nat) (g:Nat->Nat):nD ((List.range n).map g)=(List.range n).map λi=>D.int (g i:Nat):=by simp[nD]
def FS(f:Fd):List D:=(List.range (f.q-1)).map λa=>aP f.q (sF f (1+a))
theorem NX{m:List D->aa->R D}{d1 d2 d3 d4:af}{e:Ev}{c:aa}{x y z u v:D}(h1:d1 e c=.ok x c) (h2:d2 e c=.ok y c) (h3:d3 e c=.ok z c) (h4:d4 e c=.ok u c) (h:m [x,y,z,u] c=.ok v c):aC 4 m (ao d1 (ao d2 (ao d3 (ao d4 aq)))) e c=.ok v c:=by
 simp only[x_call,bz,h1,h2,h3,h4,bC,R.aA]
 rw[if_pos (by rfl)]
 exact h
def uB(f:Fd) (x:Nat):List D:=(List.range f.q).map λy=>D.int (M f x y:Nat)
def PR(f:Fd):List D:=(List.range f.q).map λx=>.lst (uB f x)
theorem Z6(f:Fd):noRef (.lst (PR f))=true:=by
 unfold noRef
 refine gV.mpr λd hd=>?_
 obtain⟨k,_,rfl⟩:=akW.mp hd
 unfold noRef
 refine gV.mpr λd hd=>?_
 obtain⟨k,_,rfl⟩:=akW.mp hd
 rfl
theorem Vi{f:Fd}(h:f∈cy) (c:aa):sj [.int f.q] c=.ok (.lst (PR f)) c:=by
 have hq:=Bm h
 refine kG (n:=2) (b:=pX) ?_ (Z6 f) (λk h=>by cases h)
 have e0:aF 1 (aC 1 sy (ao (ak 0) aq)) [some (.int f.q),none] c=.ok (.nx [some (.int f.q),some (.lst ((fc f).map D.int))]) c:=kD (i:=1) (F3 (m:=sy) (d1:=ak 0) rfl (aeH h c))
 unfold pX
 rw[show cO 2 [D.int f.q]=[some (.int f.q),none]from rfl,bR e0]
 refine m5 ?_
 exact ve (N:=(f.q:Int)) (n:=f.q) (E:=[some (.int f.q),some (.lst ((fc f).map D.int))]) (λx=>D.lst (uB f x)) rfl rfl (by omega) rfl λx hx =>
  ve (N:=(f.q:Int)) (n:=f.q) (E:=[some (.int f.q),some (.lst ((fc f).map D.int)),some (.int (x:Int))]) (λy=>D.int (M f x y:Nat)) rfl rfl (by omega) rfl λy hy =>
   NX (m:=su) (d1:=ak 1) (d2:=ak 2) (d3:=ak 3) (d4:=ak 0) rfl rfl rfl rfl (Vo h hx hy c)
theorem G0{l:List D}{i:Nat}{d:D}(h:l[i]? = some d):cT l (i:Int)=some d:=by
 have hi:=(ala.mp h).1
 unfold cT fV
 rw[if_pos (by omega),if_pos (by omega)]
 simpa using h
theorem yy{l:List D}{i:Nat}{d:D}{N:Int}(hN:N=i) (h:l[i]? = some d) (c:aa):aE (.lst l) (.int N) c=.ok d c:=by
 subst hN
 unfold aE fP
 simp only[G0 h]
theorem yx{l:List D}{i:Nat}{d:D}{N:Int}(hN:N=i) (h:l[i]? = some d) (c:aa):aE (.tup l) (.int N) c=.ok d c:=by
 subst hN
 unfold aE fP
 simp only[G0 h]
theorem abk{f:Fd}(h:f∈cy) (x y:Nat) (c:aa):nj [.int f.q,.int x,.int y,.int 1] c=.ok (.int (A f x y:Nat)) c:=by
 rw[RM h x y 1 (by decide) c,(ajd h x y).1]
 unfold tW
 have:(λa b:Int=>a+1*b)=(· + ·):=by funext a b;omega
 rw[this]
def eB(f:Fd) (a:Nat):List D:=(List.range f.q).map λx=>D.tup (nD ((List.range f.q).map (sF f a x)))
def vH:ah:=(cY (dw (ak 4) (aG b7 (ao (aR (aY (ao (ak 0) aq)) [none,some 0,some 5,some 1,some 3] (az 0) aH (aC 4 nj (ao (ak 1) (ao (au aE (au aE (ak 3) (ak 4)) (ak 2)) (ao (ak 0) (ao (dC (.int 1)) aq)))))) aq))))
def vG:ah:=(aD (aF 4 (cW aq)) (aD (bY (aY (ao (ak 0) aq)) (az 5) vH) (cY (dw (ak 2) (aG b7 (ao (ak 4) aq))))))
theorem Be{f:Fd}{a x:Nat}(hx:x<=f.q):(eB f a).take x=(List.range x).map λx=>D.tup (nD ((List.range f.q).map (sF f a x))):=by
 unfold eB
 rw[<-amW,List.take_range,aoL hx]
theorem ahW{dO da:af}{e:Ev}{c:aa}{k:Nat}{l:List D}{y:D}(ho:dO e c=.ok (.ref k) c) (ha:da e c=.ok y c) (hc:c[k]? = some (.lst l)) (hy:noRef y=true) (hl:l.length<1000):dw dO da e c=.ok .aO (c.set k (.lst (l++[y]))):=by
 have sz:=jk
 unfold dw
 rw[ho,R.aA]
 dsimp only
 rw[ha,R.aA]
 simp only[hc]
 rw[if_pos ⟨by omega,hy⟩]
theorem aex{f:Fd}(h:f∈cy) {a:Nat}(ha:1<=a) (ha2:a<f.q) {N:Int}(hN:N=f.q) (c:aa) (v2 v5:Option D):∃v,dg (λ_=>True) (az 5) vH (aT 0 N) [some (.int N),some (.lst (PR f)),v2,some (.int (a:Int)),some (.ref c.length),v5] (c++[.lst []])=.ok (.nx [some (.int N),some (.lst (PR f)),v2,some (.int (a:Int)),some (.ref c.length),v]) (c++[.lst (eB f a)]):=by
 have hq:=Bm h
 have:=nK (g:=az 5) (s:=vH) (λx=>c++[.lst ((eB f a).take x)]) (λ_ (v:Option D)=>[some (.int N),some (.lst (PR f)),v2,some (.int (a:Int)),some (.ref c.length),v]) hN v5 (λx hx v=>by
  refine⟨[some (.int N),some (.lst (PR f)),v2,some (.int (a:Int)),some (.ref c.length),some (.int (x:Nat))],rfl,some (.int (x:Nat)),?_⟩
  have hval:(aG b7 (ao (aR (aY (ao (ak 0) aq)) [none,some 0,some 5,some 1,some 3] (az 0) aH (aC 4 nj (ao (ak 1) (ao (au aE (au aE (ak 3) (ak 4)) (ak 2)) (ao (ak 0) (ao (dC (.int 1)) aq)))))) aq)) [some (.int N),some (.lst (PR f)),v2,some (.int (a:Int)),some (.ref c.length),some (.int (x:Nat))] (c++[.lst ((eB f a).take x)])=.ok (.tup ((List.range f.q).map λy=>D.int (sF f a x y:Nat))) (c++[.lst ((eB f a).take x)]):=by
   refine QW (N:=N) (n:=f.q) (E:=[some (.int N),some (.int (x:Nat)),some (.lst (PR f)),some (.int (a:Int))]) (λy=>D.int (sF f a x y:Nat)) rfl hN (by omega) rfl λy hy=>?_
   have r1:(PR f)[a]? = some (.lst (uB f a)):=by unfold PR;rw[ale,alS ha2];rfl
   have r2:(uB f a)[x]? = some (.int (M f a x:Nat)):=by unfold uB;rw[ale,alS hx];rfl
   have i1:=yy (N:=(a:Int)) rfl r1 (c++[.lst ((eB f a).take x)])
   have i2:=yy (N:=(x:Int)) rfl r2 (c++[.lst ((eB f a).take x)])
   have hs:=abk h (M f a x) y (c++[.lst ((eB f a).take x)])
   rw[<-hN]at hs
   exact NX (m:=nj) (d1:=ak 1) (d3:=ak 0) (d4:=dC (.int 1)) rfl (eH (f:=aE) (eH (f:=aE) (d1:=ak 3) (d2:=ak 4) rfl rfl i1) (d2:=ak 2) rfl i2) rfl rfl hs
  have hap:=wg (c:=c) (acc:=(eB f a).take x) (dO:=ak 4) (e:=[some (.int N),some (.lst (PR f)),v2,some (.int (a:Int)),some (.ref c.length),some (.int (x:Nat))]) rfl hval (by rw[<-ym];exact J8 _) (by rw[Be (by omega)];simp;omega)
  unfold vH
  rw[ig,hap,R.aA]
  have ht:(eB f a).take x++[D.tup ((List.range f.q).map λy=>D.int (sF f a x y:Nat))]=(eB f a).take (x+1):=by
   rw[Be (by omega),Be (by omega),amd,alX,<-ym]
   rfl
  rw[ht])
 have hz:(eB f a).take 0=[]:=rfl
 have hw:(eB f a).take f.q=eB f a:=amY (by unfold eB;simp)
 rw[hz,hw]at this
 exact this
def K8(f:Fd) (k:Nat):aa:=(List.range k).map λa=>Cell.lst (eB f (1+a))
def cU(f:Fd) (c:aa) (k:Nat):aa:=c ++ .lst ((List.range k).map λa=>aP f.q (sF f (1+a)))::K8 f k
theorem aew{f:Fd}(h:f∈cy) {N:Int}(hN:N=f.q) (c:aa) (v3 v4 v5:Option D):∃w,dg (λ_=>True) (az 3) vG (aT 1 N) [some (.int N),some (.lst (PR f)),some (.ref c.length),v3,v4,v5] (c++[.lst []])=.ok (.nx ([some (.int N),some (.lst (PR f)),some (.ref c.length)]++w)) (cU f c (f.q-1)):=by
 have hq:=Bm h
 have q2:=(iD h).q2
 have hl:(aT 1 N).length=f.q-1:=by rw[rL];simp;omega
 have:=k9 (st:=λ_=>True) (g:=az 3) (s:=vG) (cU f c) (λ_ (w:Option D×Option D×Option D)=>[some (.int N),some (.lst (PR f)),some (.ref c.length),w.1,w.2.1,w.2.2]) (aT 1 N) 0 (v3,v4,v5) (λ_ _=>trivial) (λk x hx w=>by
  have hk:k<f.q-1:=by rw[<-hl];exact(ala.mp hx).1
  have hx':x=.int (((1+k:Nat)):Int):=by
   rw[rL,ale,alS (by omega)]at hx
   have:D.int (1+(k:Int))=x:=by simpa using hx
   rw[<-this]
   congr 1
  subst hx'
  refine⟨[some (.int N),some (.lst (PR f)),some (.ref c.length),some (.int (((1+k:Nat)):Int)),w.2.1,w.2.2],rfl,?_⟩
  have e0:aF 4 (cW aq) [some (.int N),some (.lst (PR f)),some (.ref c.length),some (.int (((1+k:Nat)):Int)),w.2.1,w.2.2] (cU f c k)=.ok (.nx [some (.int N),some (.lst (PR f)),some (.ref c.length),some (.int (((1+k:Nat)):Int)),some (.ref (cU f c k).length),w.2.2]) (cU f c k++[.lst []]):=by
   simp[bE]
  obtain⟨v,e1⟩:=aex h (a:=1+k) (by omega) (by omega) hN (cU f c k) (some (.ref c.length)) w.2.2
  have h1:aY (ao (ak 0) aq) [some (.int N),some (.lst (PR f)),some (.ref c.length),some (.int (((1+k:Nat)):Int)),some (.ref (cU f c k).length),w.2.2] (cU f c k++[.lst []])=.ok ⟨aT 0 N,λ_=>True⟩ (cU f c k++[.lst []]):=by
   unfold aY
   simp only[bz,bK,gz,bC,R.aA]
   rw[if_pos (by omega)]
  have Fc:bY (aY (ao (ak 0) aq)) (az 5) vH [some (.int N),some (.lst (PR f)),some (.ref c.length),some (.int (((1+k:Nat)):Int)),some (.ref (cU f c k).length),w.2.2] (cU f c k++[.lst []])=.ok (.nx [some (.int N),some (.lst (PR f)),some (.ref c.length),some (.int (((1+k:Nat)):Int)),some (.ref (cU f c k).length),v]) (cU f c k++[.lst (eB f (1+k))]):=by
   rw[gB,h1,R.aA]
   exact e1
  have DW:(cU f c k++[Cell.lst (eB f (1+k))])[(cU f c k).length]? = some (.lst (eB f (1+k))):=by simp
  have htup:aG b7 (ao (ak 4) aq) [some (.int N),some (.lst (PR f)),some (.ref c.length),some (.int (((1+k:Nat)):Int)),some (.ref (cU f c k).length),v] (cU f c k++[.lst (eB f (1+k))])=.ok (aP f.q (sF f (1+k))) (cU f c k++[.lst (eB f (1+k))]):=by
   refine j7 (d1:=ak 4) (x:=.ref (cU f c k).length) rfl ?_
   unfold b7 fP
   simp only[DW]
   rfl
  have adT:(cU f c k++[Cell.lst (eB f (1+k))])[c.length]? = some (.lst ((List.range k).map λa=>aP f.q (sF f (1+a)))):=by
   unfold cU
   simp
  have hap:=ahW (dO:=ak 2) (e:=[some (.int N),some (.lst (PR f)),some (.ref c.length),some (.int (((1+k:Nat)):Int)),some (.ref (cU f c k).length),v]) rfl htup adT (J7 _ _) (by simp;omega)
  have vo:(cU f c k++[Cell.lst (eB f (1+k))]).set c.length (.lst (((List.range k).map λa=>aP f.q (sF f (1+a)))++[aP f.q (sF f (1+k))]))=cU f c (k+1):=by
   unfold cU K8
   rw[alu,apM _ _ (akV _),amo,amd,alX,alX]
   rfl
  rw[vo]at hap
  refine⟨(some (.int (((1+k:Nat)):Int)),some (.ref (cU f c k).length),v),?_⟩
  unfold vG
  rw[alr]
  rw[bR e0,bR Fc,ig,hap]
  rfl)
 obtain⟨w,hw⟩:=this
 refine⟨[w.1,w.2.1,w.2.2],?_⟩
 rw[alr,hl]at hw
 exact hw
theorem yv(n:Nat) (s:Nat->Nat->Nat) (c:aa):bg [aP n s] c=.ok (.int (n:Int)) c:=by
 unfold aP
 simp
theorem A3{n i:Nat}(s:Nat->Nat->Nat) (h1:1<=n) (h7:n<=7) (hi:i<n*n) {I:Int}(hI:I=i) (c:aa):gu [aP n s,.int I] c=.ok (.int (s (i/n) (i % n):Nat)) c:=by
 have hd:i/n<n:=am0 hi
 have hm:i % n<n:=al7 _ (by omega)
 refine kG (n:=2) (b:=pR) ?_ rfl (λk h=>by cases h)
 unfold pR
 refine m5 ?_
 have e:cO 2 [aP n s,.int I]=[some (aP n s),some (.int I)]:=rfl
 rw[e]
 have hl:aG bg (ao (ak 0) aq) [some (aP n s),some (.int I)] c=.ok (.int (n:Int)) c:=j7 (d1:=ak 0) rfl (yv n s c)
 have pI:eG (.int I) (.int (n:Int)) c=.ok (.int (((i/n:Nat)):Int)) c:=by
  rw[nN c (by omega) (by omega),hI]
  rfl
 have hmd:bN (.int I) (.int (n:Int)) c=.ok (.int (((i % n:Nat)):Int)) c:=by
  rw[iY c (by omega),hI]
  rfl
 have r1:((List.range n).map λi=>D.tup (nD ((List.range n).map (s i))))[i/n]? = some (.tup (nD ((List.range n).map (s (i/n))))):=by rw[ale,alS hd];rfl
 have r2:(nD ((List.range n).map (s (i/n))))[i % n]? = some (.int (s (i/n) (i % n):Nat)):=by rw[ym,ale,alS hm];rfl
 exact eH (f:=aE) (eH (f:=aE) (d1:=ak 0) rfl (eH (f:=eG) (d1:=ak 1) rfl hl pI) (yx rfl r1 c)) (eH (f:=bN) (d1:=ak 1) rfl hl hmd) (yx rfl r2 c)
def oK(n:Nat) (s s':Nat->Nat->Nat) (i:Nat):List Int:=[((s (i/n) (i % n):Nat):Int),((s' (i/n) (i % n):Nat):Int)]
def xN(n:Nat) (s s':Nat->Nat->Nat) (i:Nat):D:=.tup [.int (s (i/n) (i % n):Nat),.int (s' (i/n) (i % n):Nat)]
theorem BX{m q:Int}(h0:0<=m) (h1:m<1000) (hq:q=m*m) (c:aa):aU (.int m) (.int m) c=.ok (.int q) c:=by
 unfold aU
 dsimp only
 rw[if_pos (by omega),hq]
def KC(n:Nat) (s:Nat->Nat->Nat):Bool:=(List.range n).all λi=>decide (((List.range n).map (s i)).Nodup)&&decide (((List.range n).map λj=>s j i).Nodup)&&(List.range n).all λj=>Nat.blt (s i j) n
def M9(n:Nat) (s s':Nat->Nat->Nat) (i:Nat):Nat:=8*s (i/n) (i % n)+s' (i/n) (i % n)
def JU(f:Fd):Bool:=(List.range (f.q-1)).all λa=>KC f.q (sF f (1+a))&&(List.range a).all λb=>decide (((List.range (f.q*f.q)).map (M9 f.q (sF f (1+a)) (sF f (1+b)))).Nodup)
theorem aiD:((cy.filter λf=>Nat.ble f.q 7).all JU)=true:=by decide +kernel
theorem JT{f:Fd}(h:f∈cy) (h7:f.q<=7):JU f=true:=ak2.mp aiD f (amC.mpr ⟨h,Nat.ble_eq_true_of_le h7⟩)
theorem abj{n:Nat}{s:Nat->Nat->Nat}(h:KC n s=true):eL n s/\∀x y,x<n->y<n->s x y<n:=by
 have h:=ak2.mp h
 have hb:∀x y,x<n->y<n->s x y<n:=λx y hx hy=>by
  have:=h x (akZ.mpr hx)
  simp only[ald,ak2]at this
  have h3:=this.2 y (akZ.mpr hy)
  exact ak7 (al2 _) (apF h3)
 refine⟨⟨λi hi=>?_,λi hi=>?_⟩,hb⟩
 ·have:=h i (akZ.mpr hi)
  simp only[ald,decide_eq_true_eq]at this
  exact uE this.1.1 (λx hx=>by
   obtain⟨j,hj,rfl⟩:=akW.mp hx
   exact akZ.mpr (hb i j hi (akZ.mp hj))) (by simp)
 ·have:=h i (akZ.mpr hi)
  simp only[ald,decide_eq_true_eq]at this
  exact uE this.1.2 (λx hx=>by
   obtain⟨j,hj,rfl⟩:=akW.mp hx
   exact akZ.mpr (hb j i (akZ.mp hj) hi)) (by simp)
theorem aaa{α:Type}{n:Nat}{f:Nat->α}(h:∀i j,i<n->j<n->f i=f j->i=j):((List.range n).map f).Nodup:=by
 unfold List.Nodup
 rw[amR]
 refine apN (R:=(· < ·)) (fun{a b} ha hb hab e=>?_) anR
 have:=h a b (akZ.mp ha) (akZ.mp hb) e
 omega
theorem ahy{m:List D->aa->R D}{d1 d2 d3:af}{e:Ev}{c:aa}{x y z v:D}(h1:d1 e c=.ok x c) (h2:d2 e c=.ok y c) (h3:d3 e c=.ok z c) (h:m [x,y,z] c=.ok v c):aC 3 m (ao d1 (ao d2 (ao d3 aq))) e c=.ok v c:=by
 simp only[x_call,bz,h1,h2,h3,bC,R.aA]
 rw[if_pos (by rfl)];exact h
theorem La{l:List D}{i j:Nat}{d:D}{N:Int}{c:aa}(hN:N=i) (hc:c[j]? = some (.lst l)) (h:l[i]? = some d):aE (.ref j) (.int N) c=.ok d c:=by
 subst hN
 unfold aE fP
 simp only[hc,G0 h]
theorem Ml:∀(l r:List (List Int)),(r++l).Nodup->l.foldl gC r=r++l
 |[],r,_=>by simp
 |k::l,r,h=>by
  have hk:k∉r:=λhm=>by
   rw[amO]at h
   exact h.2.2 k hm k (.head _) rfl
  rw[amw,show gC r k=r++[k] by unfold gC;rw[if_neg hk],Ml l (r++[k]) (by rw[alu];exact h),alu]
  rfl
structure Hs (n:Nat) (s s':Nat->Nat->Nat):Prop where
 one:∀x y,x<n->y<n->s x y<8
 two:∀x y,x<n->y<n->s' x y<8
 nd:((List.range (n*n)).map (oK n s s')).Nodup
theorem Js{n:Nat}{s s':Nat->Nat->Nat}(A:Hs n s s'):∀l:List Nat,(∀i∈l,i<n*n)->oJ (l.map (xN n s s'))=some (l.map (oK n s s'))
 |[],_=>rfl
 |i::l,h=>by
  have hi:=h i (.head _)
  have h0:0<n:=by rcases aol n with e|e;(subst e;simp at hi);exact e
  have a1:=A.one (i/n) (i % n) (am0 hi) (al7 _ h0)
  have a2:=A.two (i/n) (i % n) (am0 hi) (al7 _ h0)
  have hp:fR (xN n s s' i)=some (oK n s s' i):=by
   unfold fR xN oK
   dsimp only
   rw[if_pos (by omega)]
  rw[ak6,ak6]
  unfold oJ
  rw[hp,Js A l λj hj=>h j (.tail _ hj)]
theorem eq_self(N:Int) (c:aa):bS (.int N) (.int N) c=.ok (.bl true) c:=by simp
theorem abx{n:Nat}{s s':Nat->Nat->Nat}(h1:1<=n) (h7:n<=7) (A:Hs n s s') (c:aa):sf [aP n s,aP n s'] c=.ok (.bl true) c:=by
 have hnn:n*n<=49:=am1 h7 h7
 refine kG (n:=3) (b:=pV) ?_ rfl (λk h=>by cases h)
 obtain⟨Q,hQ⟩:∃Q:Int,Q=((n*n:Nat):Int):=⟨_,rfl⟩
 have hml:aU (.int (n:Int)) (.int (n:Int)) c=.ok (.int Q) c:=by
  rw[hQ]
  exact BX (m:=(n:Int)) (by omega) (by omega) (by simp) c
 have e0:aF 2 (au aU (aG bg (ao (ak 0) aq)) (aG bg (ao (ak 0) aq))) [some (aP n s),some (aP n s'),none] c=.ok (.nx [some (aP n s),some (aP n s'),some (.int Q)]) c:=kD (i:=2) (eH (f:=aU) (j7 (d1:=ak 0) rfl (yv n s c)) (j7 (d1:=ak 0) rfl (yv n s c)) hml)
 have t2:(2:Nat)<=sizeLine:=by decide
 have hc:=ve (d:=ak 2) (a:=fC (ao (aC 2 gu (ao (ak 1) (ao (ak 0) aq))) (ao (aC 2 gu (ao (ak 2) (ao (ak 0) aq))) aq))) (pick:=[none,some 0,some 1]) (e:=[some (aP n s),some (aP n s'),some (.int Q)]) (E:=[some (aP n s),some (aP n s')]) (c:=c) (N:=Q) (n:=n*n) (xN n s s') rfl hQ (by omega) rfl (λi hi=>by
  have g1:=nR (m:=gu) (d1:=ak 1) (d2:=ak 0) (e:=[some (.int (i:Int)),some (aP n s),some (aP n s')]) rfl rfl (A3 s h1 h7 hi rfl c)
  have g2:=nR (m:=gu) (d1:=ak 2) (d2:=ak 0) (e:=[some (.int (i:Int)),some (aP n s),some (aP n s')]) rfl rfl (A3 s' h1 h7 hi rfl c)
  simp only[PC,bz,g1,g2,bC,R.aA]
  rw[if_pos (by exact t2)]
  rfl)
 have hp:=Js A (List.range (n*n)) λi hi=>akZ.mp hi
 have hf:dZ ((List.range (n*n)).map (oK n s s'))=(List.range (n*n)).map (oK n s s'):=Ml _ [] (by simpa using A.nd)
 have hs:sS (ao (aR (aY (ao (ak 2) aq)) [none,some 0,some 1] (az 0) aH (fC (ao (aC 2 gu (ao (ak 1) (ao (ak 0) aq))) (ao (aC 2 gu (ao (ak 2) (ao (ak 0) aq))) aq)))) aq) [some (aP n s),some (aP n s'),some (.int Q)] c=.ok (.int Q) c:=by
  unfold sS
  simp only[bz,hc,bC,R.aA,dG,hp,hf,ak4,alR]
  rw[if_pos (by omega),hQ]
 have hb:pV=aD (aF 2 (au aU (aG bg (ao (ak 0) aq)) (aG bg (ao (ak 0) aq)))) (aL (au bS (sS (ao (aR (aY (ao (ak 2) aq)) [none,some 0,some 1] (az 0) aH (fC (ao (aC 2 gu (ao (ak 1) (ao (ak 0) aq))) (ao (aC 2 gu (ao (ak 2) (ao (ak 0) aq))) aq)))) aq)) (ak 2))):=rfl
 rw[show cO 3 [aP n s,aP n s']=[some (aP n s),some (aP n s'),none]from rfl,hb,bR e0]
 exact m5 (eH (f:=bS) hs (d2:=ak 2) (y:=.int Q) rfl (eq_self Q c))
def mH(n:Nat) (s t:Nat->Nat->Nat):Prop:=∀x y x' y',x<n->y<n->x'<n->y'<n->s x y=s x' y'->t x y=t x' y'->x=x'/\y=y'
theorem mH.symm{n:Nat}{s t:Nat->Nat->Nat}(h:mH n s t):mH n t s:=λx y x' y' a b c d e f=>h x y x' y' a b c d f e
theorem aiX{n:Nat}{s t:Nat->Nat->Nat}(h1:1<=n) (h7:n<=7) (L:eL n s) (L':eL n t) (h:mH n s t):Hs n s t:=by
 refine⟨λx y hx hy=>by have:=L.lt hx hy;omega,λx y hx hy=>by have:=L'.lt hx hy;omega,aaa λi j hi hj e=>?_⟩
 unfold oK at e
 injection e with e1 e2
 injection e2 with e2 _
 have e1:s (i/n) (i % n)=s (j/n) (j % n):=by omega
 have e2:t (i/n) (i % n)=t (j/n) (j % n):=by omega
 obtain⟨q1,q2⟩:=h _ _ _ _ (am0 hi) (al7 _ (by omega)) (am0 hj) (al7 _ (by omega)) e1 e2
 rw[<-apO i n,<-apO j n,q1,q2]
theorem aap{n:Nat}{f:Nat->Nat}(h:((List.range n).map f).Nodup) {i j:Nat}(hi:i<n) (hj:j<n) (e:f i=f j):i=j:=by
 have hp:=amR.mp h
 have hg:=ane.mp hp
 rcases anJ i j with q|q|q
 ·have:=hg i j (by simpa using hi) (by simpa using hj) q
  simp at this
  exact absurd e this
 ·exact q
 ·have:=hg j i (by simpa using hj) (by simpa using hi) q
  simp at this
  exact absurd e.symm this
theorem Mr{f:Fd}(h:f∈cy) (h7:f.q<=7) {a b:Nat}(ha:a<f.q-1) (hb:b<a):mH f.q (sF f (1+a)) (sF f (1+b)):=by
 have ho:=ak2.mp (JT h h7) a (akZ.mpr ha)
 rw[ald]at ho
 have hn:=of_decide_eq_true (ak2.mp ho.2 b (akZ.mpr hb))
 intro x y x' y' hx hy hx' hy' e1 e2
 have q0:0<f.q:=by omega
 have bd:∀x y,x<f.q->y<f.q->x*f.q+y<f.q*f.q:=λx y hx hy=>by
  have:x*f.q+f.q<=f.q*f.q:=by
   rw[<-amk]
   exact an0 _ hx
  omega
 have dv:∀x y,y<f.q->(x*f.q+y)/f.q=x/\(x*f.q+y) % f.q=y:=λx y hy=>by
  constructor
  ·rw[an8,Nat.mul_add_div q0,Nat.div_eq_of_lt hy];omega
  ·rw[an8,Nat.mul_add_mod,Nat.mod_eq_of_lt hy]
 have:=aap hn (bd x y hx hy) (bd x' y' hx' hy') (by
  unfold M9
  rw[(dv x y hy).1,(dv x y hy).2,(dv x' y' hy').1,(dv x' y' hy').2,e1,e2])
 have d1:=dv x y hy
 have d2:=dv x' y' hy'
 rw[this]at d1
 exact⟨d1.1.symm.trans d2.1,d1.2.symm.trans d2.2⟩
theorem aeV{f:Fd}(h:f∈cy) (h7:f.q<=7) {a:Nat}(ha:a<f.q-1):eL f.q (sF f (1+a)):=by
 have ho:=ak2.mp (JT h h7) a (akZ.mpr ha)
 rw[ald]at ho
 exact(abj ho.1).1
theorem aeW{f:Fd}(h:f∈cy) (h7:f.q<=7) {a b:Nat}(ha:a<f.q-1) (hb:b<f.q-1) (hne:a≠b):mH f.q (sF f (1+a)) (sF f (1+b)):=by
 rcases Nat.lt_or_gt_of_ne hne with q|q
 ·exact(Mr h h7 hb q).symm
 ·exact Mr h h7 ha q
theorem aby{f:Fd}(h:f∈cy) {N:Int}(hN:N=f.q) (h7:N<=7) (c:aa):uZ [.int N] c=.ok (.ref c.length) (c++[.lst (FS f)]):=by
 obtain⟨w,hf⟩:=aew h hN c none none none
 have hp:=Vi h c
 rw[<-hN]at hp
 have e0:aF 1 (aC 1 sj (ao (ak 0) aq)) [some (.int N),none,none,none,none,none] c=.ok (.nx [some (.int N),some (.lst (PR f)),none,none,none,none]) c:=kD (i:=1) (F3 (m:=sj) (d1:=ak 0) rfl hp)
 have e1:aF 2 (cW aq) [some (.int N),some (.lst (PR f)),none,none,none,none] c=.ok (.nx [some (.int N),some (.lst (PR f)),some (.ref c.length),none,none,none]) (c++[.lst []]):=by simp[bE]
 have h1:je (ao (dC (.int 1)) (ao (ak 0) aq)) [some (.int N),some (.lst (PR f)),some (.ref c.length),none,none,none] (c++[.lst []])=.ok ⟨aT 1 N,λ_=>True⟩ (c++[.lst []]):=by
  have q2:=(iD h).q2
  simp
  omega
 have e2:bY (je (ao (dC (.int 1)) (ao (ak 0) aq))) (az 3) vG [some (.int N),some (.lst (PR f)),some (.ref c.length),none,none,none] (c++[.lst []])=.ok (.nx ([some (.int N),some (.lst (PR f)),some (.ref c.length)]++w)) (cU f c (f.q-1)):=by
  rw[gB,h1,R.aA]
  exact hf
 have hb:p7=aD (aF 1 (aC 1 sj (ao (ak 0) aq))) (aD (aF 2 (cW aq)) (aD (bY (je (ao (dC (.int 1)) (ao (ak 0) aq))) (az 3) vG) (aL (ak 2)))):=rfl
 show bG 6 true p7 [.int N] c=_
 unfold bG
 rw[show cO 6 [D.int N]=[some (.int N),none,none,none,none,none]from rfl,hb,bR e0,bR e1,bR e2]
 have e3:aL (ak 2) ([some (.int N),some (.lst (PR f)),some (.ref c.length)]++w) (cU f c (f.q-1))=.ok (.rt (.ref c.length)) (cU f c (f.q-1)):=rfl
 rw[e3,R.aA]
 dsimp only
 unfold dM
 dsimp only
 have hg:(cU f c (f.q-1))[c.length]? = some (.lst (FS f)):=by unfold cU FS;simp
 have ht:(cU f c (f.q-1)).take c.length=c:=by unfold cU;simp
 rw[hg]
 dsimp only
 rw[if_pos (akV _),if_pos rfl,ht]
structure Net (n:Nat) (ss:List (Nat->Nat->Nat)):Prop where
 two:2<=n
 iT:n<=7
 few:ss.length<=n-1
 lat:∀s∈ss,eL n s
 acr:ss.Pairwise (mH n)
def aN(n:Nat) (ss:List (Nat->Nat->Nat)):List D:=ss.map (aP n)
theorem aeU{f:Fd}(h:f∈cy) (h7:f.q<=7) {bs:List Nat}(hn:bs.Nodup) (hb:∀x∈bs,x<f.q-1) (hl:bs.length<=f.q-1):Net f.q (bs.map λa=>sF f (1+a)):=by
 refine⟨(iD h).q2,h7,by simpa using hl,λs hs=>?_,?_⟩
 ·obtain⟨a,ha,rfl⟩:=akW.mp hs
  exact aeV h h7 (hb a ha)
 ·rw[amR]
  exact apN (fun{a b} ha hb' hne=>aeW h h7 (hb a ha) (hb b hb') hne) hn
structure LF (f:Fd) (j n:Nat) (as bs:List Nat) (c:aa):Prop where
 len:c.length=n+2
 jn:j<n
 Vy:∃p:Int,c[j]? = some (.lst [.int p])
 left:c[n]? = some (.lst (as.map λa=>aP f.q (sF f (1+a))))
 fnd:c[n+1]? = some (.lst (bs.map λa=>aP f.q (sF f (1+a))))
def uv:ah:=(cY (dw (ak 3) (jy (ak 2) (aC 2 cz (ao (ak 0) (ao (aG bg (ao (ak 2) aq)) aq))))))
theorem abh{α:Type}(g:Nat->α) (l:List Nat) (i:Nat):(l.map g).eraseIdx i=(l.eraseIdx i).map g:=by
 rw[amB,amB]
 simp[amW,aoG]
theorem R5{f:Fd}{j n:Nat}{as bs:List Nat}{c:aa}{a1 a4:Option D}(H:LF f j n as bs c) (h1:0<as.length) (h2:as.length<100) (h3:bs.length<100) :
  ∃as' bs' c',LF f j n as' bs' c'/\(as++bs).Perm (as'++bs')/\as'.length+1=as.length/\bs'.length=bs.length+1/\uv [some (.ref j),a1,some (.ref n),some (.ref (n+1)),a4] c=.ok (.nx [some (.ref j),a1,some (.ref n),some (.ref (n+1)),a4]) c':=by
 obtain⟨g1,g2,⟨p,g3⟩,g4,g5⟩:=H
 have ht:=take2 (dJ:=(as.length:Int)) g3 (by omega) (by omega)
 have x0:=amr p (show(as.length:Int)≠0 by omega)
 have x1:=ams p (show(0:Int)<(as.length:Int) by omega)
 generalize p % (as.length:Int)=x at ht x0 x1
 obtain⟨i,rfl⟩:=rZ x0
 generalize hc1:c.set j (.lst [.int (p/(as.length:Int))])=c1 at ht
 have hi:i<as.length:=by omega
 have l1:c1.length=n+2:=by rw[<-hc1];simp[g1]
 have q0:c1[j]? = some (.lst [.int (p/(as.length:Int))]):=by rw[<-hc1,alT (by omega)]
 have q1:c1[n]? = some (.lst (as.map λa=>aP f.q (sF f (1+a)))):=by rw[<-hc1,alG (by omega)];exact g4
 have q2:c1[n+1]? = some (.lst (bs.map λa=>aP f.q (sF f (1+a)))):=by rw[<-hc1,alG (by omega)];exact g5
 have hlen:bg [.ref n] c=.ok (.int (as.length:Int)) c:=by
  unfold bg
  dsimp only[fP]
  rw[g4]
  simp
 have hget:(as.map λa=>aP f.q (sF f (1+a)))[i]? = some (aP f.q (sF f (1+as[i]))):=by simp[hi]
 have adz:jy (ak 2) (aC 2 cz (ao (ak 0) (ao (aG bg (ao (ak 2) aq)) aq))) [some (.ref j),a1,some (.ref n),some (.ref (n+1)),a4] c=.ok (aP f.q (sF f (1+as[i]))) (c1.set n (.lst ((as.eraseIdx i).map λa=>aP f.q (sF f (1+a))))):=by
  unfold jy
  simp only[bK,gz,gs,R.aA,x_call,bz,eN,bC,hlen,alc,aly,if_pos,ht,q1]
  rw[if_pos ⟨by omega,by simp;omega,by simp;omega⟩,am7,hget]
  dsimp only
  rw[abh]
 have q3:(c1.set n (.lst ((as.eraseIdx i).map λa=>aP f.q (sF f (1+a)))))[n+1]? = some (.lst (bs.map λa=>aP f.q (sF f (1+a)))):=by
  rw[alG (by omega)];exact q2
 refine⟨as.eraseIdx i,bs++[as[i]],(c1.set n (.lst ((as.eraseIdx i).map λa=>aP f.q (sF f (1+a))))).set (n+1) (.lst ((bs++[as[i]]).map λa=>aP f.q (sF f (1+a)))),⟨by simp[l1],g2,⟨_,by rw[alG (by omega),alG (by omega)];exact q0⟩,by rw[alG (by omega),alT (by omega)],by rw[alT (by simp;omega)]⟩,?_,by rw[apn hi];omega,by simp,?_⟩
 ·have p1:=(zR hi).append_right bs
  refine p1.trans ?_
  rw[<-alu]
  refine List.Perm.trans ?_ (anP as[i] (as.eraseIdx i++bs)).symm
  exact .refl _
 ·unfold uv
  rw[ig]
  have:dw (ak 3) (jy (ak 2) (aC 2 cz (ao (ak 0) (ao (aG bg (ao (ak 2) aq)) aq)))) [some (.ref j),a1,some (.ref n),some (.ref (n+1)),a4] c=.ok .aO ((c1.set n (.lst ((as.eraseIdx i).map λa=>aP f.q (sF f (1+a))))).set (n+1) (.lst ((bs++[as[i]]).map λa=>aP f.q (sF f (1+a))))):=by
   have sz:=jk
   unfold dw
   have hv:(ak 3) [some (.ref j),a1,some (.ref n),some (.ref (n+1)),a4] c=.ok (.ref (n+1)) c:=rfl
   rw[hv,R.aA]
   dsimp only
   rw[adz,R.aA]
   simp only[q3]
   rw[if_pos ⟨by simp;omega,J7 _ _⟩]
   simp
  rw[this]
  rfl
theorem IP{f:Fd}{j n:Nat}{a1:Option D}:∀(ks:List D) (as bs:List Nat) (a4:Option D) (c:aa),LF f j n as bs c->ks.length<=as.length->as.length+bs.length<100 ->
  ∃as' bs' v c',LF f j n as' bs' c'/\(as++bs).Perm (as'++bs')/\dg (λ_=>True) (az 4) uv ks [some (.ref j),a1,some (.ref n),some (.ref (n+1)),a4] c=.ok (.nx [some (.ref j),a1,some (.ref n),some (.ref (n+1)),v]) c'
 |[],as,bs,a4,c,H,_,_=>⟨as,bs,a4,c,H,.refl _,by simp⟩
 |k::ks,as,bs,a4,c,H,hl,h2=>by
  rw[alc]at hl
  obtain⟨as1,bs1,c1,H1,p1,l1,l2,e1⟩:=R5 (a1:=a1) (a4:=some k) H (by omega) (by omega) (by omega)
  obtain⟨as2,bs2,v,c2,H2,p2,e2⟩:=IP ks as1 bs1 (some k) c1 H1 (by omega) (by omega)
  refine⟨as2,bs2,v,c2,H2,p1.trans p2,?_⟩
  have g:az 4 k [some (.ref j),a1,some (.ref n),some (.ref (n+1)),a4] c=.ok [some (.ref j),a1,some (.ref n),some (.ref (n+1)),some k] c:=rfl
  rw[yS,g,R.aA,e1]
  exact e2
theorem Ig:∀(l:List Nat) (c:aa) (n:Nat),gm c n (nD l)=some (nD l)
 |[],_,_=>rfl
 |x::l,c,n=>by
  show(match dX c n (.int (x:Nat)),gm c n (nD l)with|some a,some m=>some (a::m)|_,_=>none)=_
  rw[Ig l c n]
  rfl
theorem QT(n:Nat) (s:Nat->Nat->Nat) (c:aa) (k:Nat):dX c k (aP n s)=some (aP n s):=by
 have h:∀l:List Nat,gm c k (l.map λi=>D.tup (nD ((List.range n).map (s i))))=some (l.map λi=>D.tup (nD ((List.range n).map (s i)))):=λl=>by
  induction l with
  |nil=>rfl
  |cons i l ih =>
   show(match dX c k (.tup (nD ((List.range n).map (s i)))),gm c k (l.map λi=>D.tup (nD ((List.range n).map (s i))))with|some a,some m=>some (a::m)|_,_=>none)=_
   have:dX c k (.tup (nD ((List.range n).map (s i))))=some (.tup (nD ((List.range n).map (s i)))):=by
    show(match gm c k (nD ((List.range n).map (s i)))with|some m=>some (D.tup m)|none=>none)=_
    rw[Ig]
   rw[this,ih]
   rfl
 show(match gm c k ((List.range n).map λi=>D.tup (nD ((List.range n).map (s i))))with|some m=>some (D.tup m)|none=>none)=_
 rw[h]
 rfl
theorem Ii(n:Nat):∀(ss:List (Nat->Nat->Nat)) (c:aa) (k:Nat),gm c k (aN n ss)=some (aN n ss)
 |[],_,_=>rfl
 |s::ss,c,k=>by
  show(match dX c k (aP n s),gm c k (aN n ss)with|some a,some m=>some (a::m)|_,_=>none)=_
  rw[QT,Ii n ss c k]
  rfl
theorem Td{y:Int}(y0:0<=y) (y1:y<6):(2+y=6)\/∃f∈cy,f.q<=7/\2+y=(f.q:Int)/\f.q≠6:=by
 have:y=0\/y=1\/y=2\/y=3\/y=4\/y=5:=by omega
 rcases this with rfl|rfl|rfl|rfl|rfl|rfl
 ·exact .inr ⟨cy[0],alq _,by decide,rfl,by decide⟩
 ·exact .inr ⟨cy[1],alq _,by decide,rfl,by decide⟩
 ·exact .inr ⟨cy[2],alq _,by decide,rfl,by decide⟩
 ·exact .inr ⟨cy[3],alq _,by decide,rfl,by decide⟩
 ·exact .inl rfl
 ·exact .inr ⟨cy[4],alq _,by decide,rfl,by decide⟩
theorem R9{j:Nat}{y:Int}{a1 a2 a3 a4:Option D}{c c1:aa}(t:cz [.ref j,.int 6] c=.ok (.int y) c1):(aF 1 (au aZ (dC (.int 2)) (aC 2 cz (ao (ak 0) (ao (dC (.int 6)) aq))))) [some (.ref j),a1,a2,a3,a4] c=.ok (.nx [some (.ref j),some (.int (2+y)),a2,a3,a4]) c1:=by simp[t]
def ur:ah:=(b8 (aW (au bS (ak 1) (dC (.int 6)))) (aL (fC (ao (ak 1) (ao (jx (bU (ao (aC 2 nk (ao (ak 0) (ao (ak 1) aq))) aq)) jA (jz (aC 2 cz (ao (ak 0) (ao (dC (.int 2)) aq))))) aq)))) cg)
theorem R6{N:Int}(h:N≠6) {a0 a2 a3 a4:Option D}{c:aa}:ur [a0,some (.int N),a2,a3,a4] c=.ok (.nx [a0,some (.int N),a2,a3,a4]) c:=by simp[ur,h]
theorem R4{j:Nat}{T:D}{z:Int}{a2 a3 a4:Option D}{c c1 c2:aa}(t:nk [.ref j,.int 6] c=.ok T c1) (u:cz [.ref j,.int 2] c1=.ok (.int z) c2):ur [some (.ref j),some (.int 6),a2,a3,a4] c=.ok (.rt (.tup [.int 6,.lst (cutD [T] none (some z))])) c2:=by
 have t1:(1:Nat)<=sizeLine:=by decide
 have t2:(2:Nat)<=sizeLine:=by decide
 simp[ur,t,u,t1,t2,jx,jA,jz,dG]
theorem R8{f:Fd}(h:f∈cy) {N:Int}(hN:N=f.q) (h7:N<=7) {a0 a2 a3 a4:Option D}{c:aa}:(aF 2 (aC 1 uZ (ao (ak 1) aq))) [a0,some (.int N),a2,a3,a4] c=.ok (.nx [a0,some (.int N),some (.ref c.length),a3,a4]) (c++[.lst (FS f)]):=by
 simp[aby h hN h7 c]
theorem R7{a0 a1 a2 a3 a4:Option D}{c:aa}:(aF 3 (cW aq)) [a0,a1,a2,a3,a4] c=.ok (.nx [a0,a1,a2,some (.ref c.length),a4]) (c++[.lst []]):=by simp[bE]
theorem Ij{j m:Nat}{c:aa}(P:d8 j m c) {c':aa}(hl:m<=c'.length) (hp:∃p:Int,c'[j]? = some (.lst [.int p])):d8 j m (c'.take m):=by
 obtain⟨h1,h2,_⟩:=P
 obtain⟨p,hp⟩:=hp
 exact⟨by simp;omega,h2,p,by rw[anb,if_pos h2];exact hp⟩
theorem QV{c:aa}{k n:Nat}{N:Int}{l:List D}(h:c[k]? = some (.lst l)) (hk:n<=k):dX c n (.tup [.int N,.ref k])=some (.tup [.int N,.lst l]):=by
 simp[dX,gm,h,hk]
theorem QU{c:aa}{n m:Nat}{N:Int}{ss:List (Nat->Nat->Nat)}:dX c n (.tup [.int N,.lst (aN m ss)])=some (.tup [.int N,.lst (aN m ss)]):=by
 simp[dX,gm,Ii]
theorem R3{j m:Nat}{c:aa}(P:d8 j m c):∃(n:Nat) (ss:List (Nat->Nat->Nat)) (c':aa),Net n ss/\d8 j m c'/\oW [.ref j] c=.ok (.tup [.int (n:Int),.lst (aN n ss)]) c':=by
 have hcl:c.length=m:=P.1
 obtain⟨y,c1,y0,y1,P1,t1⟩:=ug (dJ:=6) P (by decide) (by decide)
 have hb:nU=aD (aF 1 (au aZ (dC (.int 2)) (aC 2 cz (ao (ak 0) (ao (dC (.int 6)) aq))))) (aD ur (aD (aF 2 (aC 1 uZ (ao (ak 1) aq))) (aD (aF 3 (cW aq)) (aD (bY (aY (ao (aC 2 cz (ao (ak 0) (ao (ak 1) aq))) aq)) (az 4) uv) (aL (fC (ao (ak 1) (ao (ak 3) aq)))))))):=rfl
 have es:cO 5 [D.ref j]=[some (.ref j),none,none,none,none]:=rfl
 have e0:=R9 (a1:=none) (a2:=none) (a3:=none) (a4:=none) t1
 rcases Td y0 y1 with h6|⟨f,hf,h7,hN,hn6⟩
 ·obtain⟨s,c2,hL,P2,t2⟩:=ae9 (n:=6) P1 (by decide) (by decide)
  obtain⟨z,c3,z0,z1,P3,t3⟩:=ug (dJ:=2) P2 (by decide) (by decide)
  rw[h6]at e0
  have e1:=R4 (a2:=none) (a3:=none) (a4:=none) t2 t3
  have hz:∃ss:List (Nat->Nat->Nat),ss.length<=1/\(∀x∈ss,x=s)/\cutD [aP 6 s] none (some z)=aN 6 ss:=by
   have:z=0\/z=1:=by omega
   rcases this with rfl|rfl
   ·exact⟨[],by simp,by simp,rfl⟩
   ·exact⟨[s],by simp,λx hx=>by simpa using hx,rfl⟩
  obtain⟨ss,hl,hs,hc⟩:=hz
  rw[hc]at e1
  refine⟨6,ss,c3.take c.length,⟨by decide,by decide,by omega,λx hx=>hs x hx▸hL,?_⟩,?_,?_⟩
  ·match ss,hl with
   |[],_=>exact .nil
   |[a],_=>exact List.pairwise_singleton _ _
  ·rw[hcl];exact Ij P (by rw[P3.1];exact akV _) P3.2.2
  ·show lg 5 nU [.ref j] c=_
   unfold lg
   rw[es,hb,bR e0,A6 e1,R.aA]
   dsimp only
   unfold nL
   rw[QU]
   rfl
 ·generalize hNN:2+y=N at e0 hN
  have q2:=(iD hf).q2
  have e1:=R6 (N:=N) (a0:=some (.ref j)) (a2:=none) (a3:=none) (a4:=none) (c:=c1) (by omega)
  have e2:=R8 hf hN (by omega) (a0:=some (.ref j)) (a2:=none) (a3:=none) (a4:=none) (c:=c1)
  have e3:=R7 (a0:=some (.ref j)) (a1:=some (.int N)) (a2:=some (.ref c1.length)) (a3:=none) (a4:=none) (c:=c1++[.lst (FS f)])
  have l1:c1.length=m:=P1.1
  have l2:(c1++[Cell.lst (FS f)]).length=m+1:=by simp[l1]
  rw[l1]at e2 e3
  rw[l2]at e3
  obtain⟨p,hp⟩:=P1.2.2
  have yI:=P1.2.1
  have P2:d8 j (m+2) (c1++[.lst (FS f)]++[.lst []]):=⟨by simp[l1],by omega,p,by rw[alu,alA (by omega)];exact hp⟩
  obtain⟨p2,hp2⟩:=P2.2.2
  have t2:=take2 (dJ:=N) hp2 (by omega) (by omega)
  have x0:=amr p2 (show N≠0 by omega)
  have x1:=ams p2 (show 0<N by omega)
  generalize p2 % N=z at t2 x0 x1
  have H:LF f j m (List.range (f.q-1)) [] ((c1++[Cell.lst (FS f)]++[Cell.lst []]).set j (.lst [.int (p2/N)])):=by
   refine⟨by simp[l1],yI,⟨_,by rw[alT (by simp;omega)]⟩,?_,?_⟩
   ·rw[alG (by omega),alA (by simp;omega),alL (by omega),l1,amo]
    rfl
   ·rw[alG (by omega),alL (by simp;omega)]
    simp[l1]
  obtain⟨as',bs',v,c5,H5,jZ,e4⟩:=IP (a1:=some (.int N)) (aT 0 z) (List.range (f.q-1)) [] none _ H (by rw[rL];simp;omega) (by simp;omega)
  have hr:aY (ao (aC 2 cz (ao (ak 0) (ao (ak 1) aq))) aq) [some (.ref j),some (.int N),some (.ref m),some (.ref (m+1)),none] (c1++[.lst (FS f)]++[.lst []])=.ok ⟨aT 0 z,λ_=>True⟩ ((c1++[Cell.lst (FS f)]++[Cell.lst []]).set j (.lst [.int (p2/N)])):=by
   unfold aY
   simp only[bz,x_call,bK,gz,gs,bC,R.aA,alc,aly,if_pos,t2]
   rw[if_pos (by omega)]
  have e4':bY (aY (ao (aC 2 cz (ao (ak 0) (ao (ak 1) aq))) aq)) (az 4) uv [some (.ref j),some (.int N),some (.ref m),some (.ref (m+1)),none] (c1++[.lst (FS f)]++[.lst []])=.ok (.nx [some (.ref j),some (.int N),some (.ref m),some (.ref (m+1)),v]) c5:=by
   rw[gB,hr,R.aA]
   exact e4
  have hnd:(as'++bs').Nodup:=jZ.nodup_iff.mp (by simpa using apB)
  have hmem:∀x∈as'++bs',x<f.q-1:=λx hx=>by
   have:=jZ.mem_iff.mpr hx
   simpa using this
  have hlen:(as'++bs').length=f.q-1:=by rw[<-jZ.length_eq];simp
  rw[amO]at hnd
  have adI:=aeU hf h7 hnd.2.1 (λx hx=>hmem x (alQ _ hx)) (by rw[<-hlen];simp)
  refine⟨f.q,bs'.map λa=>sF f (1+a),c5.take c.length,adI,?_,?_⟩
  ·rw[hcl];exact Ij P (by rw[H5.len];omega) H5.Vy
  ·have RA:(2:Nat)<=sizeLine:=by decide
   have e5:aL (fC (ao (ak 1) (ao (ak 3) aq))) [some (.ref j),some (.int N),some (.ref m),some (.ref (m+1)),v] c5=.ok (.rt (.tup [.int N,.ref (m+1)])) c5:=by simp[RA]
   show lg 5 nU [.ref j] c=_
   unfold lg
   rw[es,hb,bR e0,bR e1,bR e2,bR e3,bR e4',e5,R.aA]
   dsimp only
   unfold nL
   rw[QV H5.fnd (by omega),<-hN]
   unfold aN
   rw[aln]
   rfl
theorem Ob{α:Type}(l:List α) (c:aa):eX [.lst (l.map λ_=>D.bl true)] c=.ok (.bl true) c:=by
 have:nT (l.map λ_=>D.bl true)=some (l.map λ_=>true):=by
  have:=Ad (l.map λ_=>true)
  rw[aln]at this
  exact this
 unfold eX m7
 simp only[this,all_true]
theorem Net.two_at{n:Nat}{ss:List (Nat->Nat->Nat)}(N:Net n ss) {i k:Nat}(hk:k<i) (hi:i<ss.length):mH n ss[i] (ss[k]'(by omega)):=mH.symm (ane.mp N.acr k i (by omega) hi hk)
def Oh:af:=(aG eX (ao (aR (cD (jx (ak 0) jA (jz (ak 1)))) [none,some 2] (az 0) aH (aC 2 sf (ao (ak 1) (ao (ak 0) aq)))) aq))
def wj:ah:=(b8 (d7 (aW Oh)) (aL (dC (.bl false))) cg)
theorem aiO{n:Nat}{ss:List (Nat->Nat->Nat)}(N:Net n ss) {i:Nat}(hi:i<ss.length) {I:Int}(hI:I=i) (c:aa):wj [some (.lst (aN n ss)),some (.int I),some (aP n ss[i])] c=.ok (.nx [some (.lst (aN n ss)),some (.int I),some (aP n ss[i])]) c:=by
 have sz:=jk
 have n2:=N.two
 have n7:=N.iT
 have hf:=N.few
 have vC:cutD (aN n ss) none (some I)=(ss.take i).map (aP n):=by
  rw[MR hI (by simp[aN];omega)]
  unfold aN
  rw[amW]
 have hs:cD (jx (ak 0) jA (jz (ak 1))) [some (.lst (aN n ss)),some (.int I),some (aP n ss[i])] c=.ok ⟨(ss.take i).map (aP n),λ_=>True⟩ c:=by
  rw[<-vC]
  rfl
 have hc:=nu (E:=[some (aP n ss[i])]) (a:=aC 2 sf (ao (ak 1) (ao (ak 0) aq))) (c:=c) (aP n) (λ_=>D.bl true) (ss.take i) none [] (λs hs=>by
  obtain⟨k,hk,rfl⟩:=amz hs
  have hk':k<i:=by simp at hk;omega
  rw[anH]
  exact nR (m:=sf) (d1:=ak 1) (d2:=ak 0) rfl rfl (abx (by omega) n7 (aiX (by omega) n7 (N.lat _ (alq _)) (N.lat _ (alq _)) (N.two_at hk' hi)) c))
 rw[alg]at hc
 have ha:Oh [some (.lst (aN n ss)),some (.int I),some (aP n ss[i])] c=.ok (.bl true) c:=by
  refine j7 (x:=.lst ((ss.take i).map λ_=>D.bl true)) ?_ (Ob _ c)
  rw[dB,hs,R.aA]
  dsimp only
  rw[if_pos (by simp;omega),show cK [none,some 2] [some (.lst (aN n ss)),some (.int I),some (aP n ss[i])]=[none,some (aP n ss[i])]from rfl,hc,R.aA]
 unfold wj
 rw[kr,HA,wR,ha]
 rfl
theorem ahV{n:Nat}{ss:List (Nat->Nat->Nat)}(N:Net n ss) (c:aa):u7 [.lst (aN n ss)] c=.ok (.bl true) c:=by
 have hb:qb=aD (bY (vR (ao (ak 0) aq)) (eW 2 (cu (az 1) (cu (az 2) e9))) wj) (aL (dC (.bl true))):=rfl
 obtain⟨e',c',⟨hc,w1,w2,rfl⟩,hf⟩:=Ei (g:=eW 2 (cu (az 1) (cu (az 2) e9))) (s:=wj) (λe c'=>c'=c/\∃w1 w2,e=[some (.lst (aN n ss)),w1,w2]) ((aN n ss).mapIdx λi x=>.tup [.int i,x]) [some (.lst (aN n ss)),none,none] c ⟨rfl,_,_,rfl⟩ (λx hx e c' ⟨hc,w1,w2,he⟩=>by
  subst he hc
  obtain⟨i,hi,rfl⟩:=List.mem_mapIdx.mp hx
  have hi':i<ss.length:=by simpa[aN]using hi
  have hg:(aN n ss)[i]=aP n ss[i]:=by simp[aN]
  refine⟨[some (.lst (aN n ss)),some (.int (i:Int)),some (aP n ss[i])],[some (.lst (aN n ss)),some (.int (i:Int)),some (aP n ss[i])],c',c',?_,aiO N hi' rfl c',rfl,_,_,rfl⟩
  rw[hg]
  rfl)
 subst hc
 refine kG (n:=3) (b:=qb) ?_ rfl (λk h=>by cases h)
 have hs:vR (ao (ak 0) aq) [some (.lst (aN n ss)),none,none] c'=.ok ⟨(aN n ss).mapIdx λi x=>.tup [.int i,x],λ_=>True⟩ c':=rfl
 have e1:bY (vR (ao (ak 0) aq)) (eW 2 (cu (az 1) (cu (az 2) e9))) wj [some (.lst (aN n ss)),none,none] c'=.ok (.nx [some (.lst (aN n ss)),w1,w2]) c':=by
  rw[gB,hs,R.aA]
  exact hf
 rw[hb,show cO 3 [D.lst (aN n ss)]=[some (.lst (aN n ss)),none,none]from rfl,bR e1]
 rfl
def yE:ai:=(gw (d7 (aW (aC 3 gY (ao (ak 0) (ao (dC (.int 2)) (ao (dC (.int 7)) aq)))))) (gw (d7 (aW (aG bO (ao (ak 1) (ao (dC (.ty "list")) aq))))) (aW (au sH (aG bg (ao (ak 1) aq)) (au br (ak 0) (dC (.int 1)))))))
def Ll:af:=(aG eX (ao (aR (cD (ak 1)) [none,some 0] (az 0) aH (fW (aC 1 pq (ao (ak 0) aq)) (au bS (aG bg (ao (ak 0) aq)) (ak 1)))) aq))
theorem Qe{N:Int}(h2:2<=N) (h7:N<=7) (c:aa):gY [.int N,.int 2,.int 7] c=.ok (.bl true) c:=by
 simp[gY,nX,u6,p9,h2,h7]
theorem Cd(n:Nat) (ss:List (Nat->Nat->Nat)) (c:aa):bg [.lst (aN n ss)] c=.ok (.int (ss.length:Int)) c:=by
 unfold bg
 simp[fP,aN]
theorem acW{n:Nat}{ss:List (Nat->Nat->Nat)}(H:Net n ss) {N:Int}(hN:N=n) (c:aa):B7 [.int N,.lst (aN n ss)] c=.ok (.bl true) c:=by
 have sz:=jk
 have n2:=H.two
 have n7:=H.iT
 have hf:=H.few
 have hw:=Qe (N:=N) (by omega) (by omega) c
 have hl:=Cd n ss c
 have hgt:¬N-1<(ss.length:Int):=by omega
 have hnl:(aN n ss).length=ss.length:=by simp[aN]
 have e0:yE [some (.int N),some (.lst (aN n ss))] c=.ok false c:=by
  simp[yE,hw,hl,hgt]
  omega
 have ha:Ll [some (.int N),some (.lst (aN n ss))] c=.ok (.bl true) c:=by
  refine j7 (x:=.lst (ss.map λ_=>D.bl true)) ?_ (Ob _ c)
  have hc:=nu (E:=[some (.int N)]) (a:=fW (aC 1 pq (ao (ak 0) aq)) (au bS (aG bg (ao (ak 0) aq)) (ak 1))) (c:=c) (aP n) (λ_=>D.bl true) ss none [] (λs hs=>by
   have h1:=RT (H.lat s hs) (by omega) n7 c
   have h2:=yv n s c
   rw[<-hN]at h2
   simp[h1,h2])
  rw[alg]at hc
  have hs:cD (ak 1) [some (.int N),some (.lst (aN n ss))] c=.ok ⟨ss.map (aP n),λ_=>True⟩ c:=rfl
  rw[dB,hs,R.aA]
  dsimp only
  rw[if_pos (by simp;omega),show cK [none,some 0] [some (.int N),some (.lst (aN n ss))]=[none,some (.int N)]from rfl,hc,R.aA]
 have hr:=ahV H c
 have hb:qa=aD (b8 yE (aL (dC (.bl false))) cg) (aL (fW Ll (aC 1 u7 (ao (ak 1) aq)))):=rfl
 have e1:b8 yE (aL (dC (.bl false))) cg [some (.int N),some (.lst (aN n ss))] c=.ok (.nx [some (.int N),some (.lst (aN n ss))]) c:=by
  rw[kr,e0]
  rfl
 refine kG (n:=2) (b:=qa) ?_ rfl (λk h=>by cases h)
 rw[hb,show cO 2 [D.int N,.lst (aN n ss)]=[some (.int N),some (.lst (aN n ss))]from rfl,bR e1]
 refine m5 ?_
 rw[HH,ha,R.aA]
 dsimp only
 rw[if_pos rfl]
 exact F3 (m:=u7) (d1:=ak 1) rfl hr
theorem Jk{n:Nat}{ss:List (Nat->Nat->Nat)}(H:Net n ss) {N:Int}(hN:N=n) (c:aa):jU [.int N,.lst (aN n ss)] c=.ok .aO c:=by
 simp[jU,sZ,acW H hN c]
def gQ(rows:List (List Nat)):D:=.tup (rows.map λr=>.tup (nD r))
theorem t8(rows:List (List Nat)):noRef (gQ rows)=true:=by
 unfold gQ noRef
 refine gV.mpr λd hd=>?_
 obtain⟨r,_,rfl⟩:=akW.mp hd
 unfold noRef
 exact uM r
theorem Jh(n:Nat):aT 0 (n:Int)=nD (List.range n):=by
 apply apt
 intro i
 by_cases h:i<n
 ·have h1:i<(aT 0 (n:Int)).length:=by rw[e8];omega
  have:=xD (ak3 h1)
  rw[ak3 h1,this.2]
  simp[nD,h]
 ·rw[amy (by rw[e8];omega),amy (by simp[nD];omega)]
theorem yW{α:Type}{E:List (Option D)}{t:ai}{a:af}{c:aa}(g F:α->D) (b:α->Bool):∀(l:List α) (v:Option D) (acc:List D),(∀x∈l,t (some (g x)::E) c=.ok (b x) c)->(∀x∈l,b x=true->a (some (g x)::E) c=.ok (F x) c)->bA (λ_=>True) (az 0) t a (l.map g) (v::E) acc c=.ok (acc++(l.filter b).map F) c
 |[],v,acc,_,_=>by simp
 |x::l,v,acc,h1,h2=>by
  have e1:az 0 (g x) (v::E) c=.ok (some (g x)::E) c:=rfl
  rw[ak6,jf,e1,R.aA,h1 x (.head _),R.aA]
  cases hb:b x with
  |true =>
   rw[if_pos rfl,h2 x (.head _) hb,R.aA,yW g F b l _ _ (λz hz=>h1 z (.tail _ hz)) (λz hz=>h2 z (.tail _ hz)),List.filter_cons_of_pos hb,alu]
   rfl
  |false =>
   rw[if_neg (by decide),yW g F b l _ _ (λz hz=>h1 z (.tail _ hz)) (λz hz=>h2 z (.tail _ hz)),List.filter_cons_of_neg (by simp[hb])]
def mZ:ai:=(iI (aW (au gG (ak 0) (ak 1))) (aW (pN 2 2 lams (ao (ak 1) (ao (ak 0) aq)))))
def AR(n:Nat) (f:Nat->Nat->Bool) (i:Nat):List Nat:=(List.range n).filter λj=>decide (j≠i)&&f i j
def ji(n:Nat) (f:Nat->Nat->Bool):List (List Nat):=(List.range n).map (AR n f)
section
variable {k n:Nat}{E:Expr}{ns:List Str}{l:List D}{m:List D->aa->R D}{c:aa}{f:Nat->Nat->Bool}
theorem Ui{one j:Nat}(hk:lams[k]? = some (E,ns,m)) (hl:eS l=true) (hm:j≠one->m ([.int one,.int j]++l) c=.ok (.bl (f one j)) c) :
  mZ [some (.int j),some (.int one),some (.lam k E ns l)] c=.ok (decide (j≠one)&&f one j) c:=by
 unfold mZ
 by_cases h:j=one
 ·subst h;simp
 ·have h':¬((j:Int)=one):=by omega
  have hc:pN 2 2 lams (ao (ak 1) (ao (ak 0) aq)) [some (.int j),some (.int one),some (.lam k E ns l)] c=.ok (.bl (f one j)) c:=by
   rw[P8 2 2 lams _ _ c (k:=k) (Ex:=E) (ns:=ns) (l:=l) rfl hk]
   simp only[bz,bK,gz,gs,bC,R.aA]
   rw[if_pos ⟨rfl,rfl,hl⟩]
   exact hm h
  simp[h,h',hc]
theorem Ul{q:Int}{one L:D}{r:List D}(bq:-4611686018427387904<=q/\q<4611686018427387904) (hlen:(aT 0 q).length<sizeLine) (hc:bA (λ_=>True) (az 0) mZ (ak 0) (aT 0 q) [none,some one,some L] [] c=.ok r c) (nr:noRef (.tup r)=true):gX [.int q,one,L] c=.ok (.tup r) c:=by
 have hb:sY=aL (aG b7 (ao (aR (aY (ao (ak 0) aq)) [none,some 1,some 2] (az 0) mZ (ak 0)) aq)):=rfl
 rw[gX,fk,hb]
 have es:cO 3 [D.int q,one,L]=[some (.int q),some one,some L]:=rfl
 rw[es]
 simp only[iO,eN,bz,dB,gj,bK,gz,gs,bC,R.aA]
 rw[if_pos (by omega)]
 simp only[R.aA]
 rw[if_pos hlen]
 have ep:cK [none,some 1,some 2] [some (D.int q),some one,some L]=[none,some one,some L]:=rfl
 rw[ep,hc]
 simp only[R.aA]
 show dM false c.length (.tup r) c=_
 unfold dM
 dsimp only
 rw[if_pos nr,amf]
theorem Qa{q:Int}{L:D}{r:List D}(bq:-4611686018427387904<=q/\q<4611686018427387904) (hlen:(aT 0 q).length<sizeLine) (hc:bA (λ_=>True) (az 0) aH (aC 3 gX (ao (ak 1) (ao (ak 0) (ao (ak 2) aq)))) (aT 0 q) [none,some (.int q),some L] [] c=.ok r c) (nr:noRef (.tup r)=true):se [.int q,L] c=.ok (.tup r) c:=by
 have hb:sX=aL (aG b7 (ao (aR (aY (ao (ak 0) aq)) [none,some 0,some 1] (az 0) aH (aC 3 gX (ao (ak 1) (ao (ak 0) (ao (ak 2) aq))))) aq)):=rfl
 rw[se,fk,hb]
 have es:cO 2 [D.int q,L]=[some (.int q),some L]:=rfl
 rw[es]
 simp only[iO,eN,bz,dB,gj,bK,gz,gs,bC,R.aA]
 rw[if_pos (by omega)]
 simp only[R.aA]
 rw[if_pos hlen]
 have ep:cK [none,some 0,some 1] [some (D.int q),some L]=[none,some (.int q),some L]:=rfl
 rw[ep,hc]
 simp only[R.aA]
 show dM false c.length (.tup r) c=_
 unfold dM
 dsimp only
 rw[if_pos nr,amf]
theorem aae{l:List D}(h:bE l=true):noRef (.tup l)=true:=by unfold noRef;exact h
theorem KR(hn:n<1000):(aT 0 (n:Int)).length<sizeLine:=by
 have hs:=eO (n:=1000) (by decide)
 rw[e8];omega
theorem Je(hn:n<1000):-4611686018427387904<=(n:Int)/\(n:Int)<4611686018427387904:=by omega
theorem Uo{one:Nat}{L:D}{r:List Nat}(hc:bA (λ_=>True) (az 0) mZ (ak 0) ((List.range n).map λj:Nat=>D.int (j:Int)) [none,some (.int one),some L] [] c=.ok (r.map λj:Nat=>D.int (j:Int)) c):bA (λ_=>True) (az 0) mZ (ak 0) (aT 0 (n:Int)) [none,some (.int one),some L] [] c=.ok (nD r) c:=by rw[Jh];exact hc
theorem Um{one:Nat}{L:D}{r:List Nat}(hn:n<1000) (hc:bA (λ_=>True) (az 0) mZ (ak 0) ((List.range n).map λj:Nat=>D.int (j:Int)) [none,some (.int one),some L] [] c=.ok (r.map λj:Nat=>D.int (j:Int)) c) :
  gX [.int n,.int one,L] c=.ok (.tup (nD r)) c:=Ul (Je hn) (KR hn) (Uo hc) (aae (uM _))
theorem Uj{one:Nat}(hk:lams[k]? = some (E,ns,m)) (hl:eS l=true) (hn:n<1000) (hm:∀j,j<n->j≠one->m ([.int one,.int j]++l) c=.ok (.bl (f one j)) c) :
  gX [.int n,.int one,.lam k E ns l] c=.ok (.tup (nD (AR n f one))) c:=by
 have hc:=yW (E:=[some (.int one),some (.lam k E ns l)]) (t:=mZ) (a:=ak 0) (c:=c) (λj:Nat=>D.int (j:Int)) (λj:Nat=>D.int (j:Int)) (λj=>decide (j≠one)&&f one j) (List.range n) none [] (λj hj=>Ui hk hl (hm j (akZ.mp hj))) (λj _ _=>rfl)
 rw[alg]at hc
 exact Um hn hc
theorem ahD{m:List D->aa->R D}{x y z:D}{r:R D}(h:m [x,y,z] c=r):(if[x,y,z].length=3 then m [x,y,z] c else .bad)=r:=by
 rw[if_pos (by rfl)];exact h
theorem Qj{L:D}{w:List (List Nat)}(hn:n<1000) (hc:bA (λ_=>True) (az 0) aH (aC 3 gX (ao (ak 1) (ao (ak 0) (ao (ak 2) aq)))) (aT 0 (n:Int)) [none,some (.int n),some L] [] c=.ok (w.map λr=>.tup (nD r)) c):se [.int n,L] c=.ok (gQ w) c:=Qa (Je hn) (KR hn) hc (t8 _)
theorem ahs{m:List D->aa->R D}{x y z:D}{r:R D}(h:m [y,x,z] c=r):aC 3 m (ao (ak 1) (ao (ak 0) (ao (ak 2) aq))) [some x,some y,some z] c=r:=by
 simp only[x_call,bz,bK,gz,gs,bC,R.aA]
 exact ahD h
theorem Qh{i:Nat}{L:D}{r:List Nat}(h:gX [.int n,.int i,L] c=.ok (.tup (nD r)) c):aC 3 gX (ao (ak 1) (ao (ak 0) (ao (ak 2) aq))) [some (.int i),some (.int n),some L] c=.ok (.tup (nD r)) c:=ahs h
theorem Qk{L:D}{g:Nat->List Nat}(h:∀i,i<n->gX [.int n,.int i,L] c=.ok (.tup (nD (g i))) c):bA (λ_=>True) (az 0) aH (aC 3 gX (ao (ak 1) (ao (ak 0) (ao (ak 2) aq)))) (aT 0 (n:Int)) [none,some (.int n),some L] [] c=.ok (((List.range n).map g).map λr=>.tup (nD r)) c:=by
 have hc:=yW (E:=[some (.int n),some L]) (t:=aH) (a:=aC 3 gX (ao (ak 1) (ao (ak 0) (ao (ak 2) aq)))) (c:=c) (λj:Nat=>D.int (j:Int)) (λj:Nat=>D.tup (nD (g j))) (λ_=>true) (List.range n) none [] (λj hj=>rfl) (λi hi _=>Qh (h i (akZ.mp hi)))
 have ft:(List.range n).filter (λ_=>true)=List.range n:=by simp
 rw[alg,ft]at hc
 rw[aln,Jh]
 exact hc
theorem Qi(hk:lams[k]? = some (E,ns,m)) (hl:eS l=true) (hn:n<1000) (hm:∀i j,i<n->j<n->j≠i->m ([.int i,.int j]++l) c=.ok (.bl (f i j)) c) :
  se [.int n,.lam k E ns l] c=.ok (gQ (ji n f)) c:=Qj hn (Qk λi hi=>Uj hk hl hn λj hj hne=>hm i j hi hj hne)
end
theorem ahC{kk:Nat}{m:List D->aa->R D}{d1:af}{E:Expr}{ns:List Str}{js:List Nat}{e:Ev}{c:aa}{x v:D}{l:List D}(h1:d1 e c=.ok x c) (hg:getAll e js=some l) (h2:m [x,.lam kk E ns l] c=.ok v c) (hv:noRef v=true):z6 kk m d1 E ns js e c=.ok v c:=by
 unfold z6
 rw[h1]
 simp only[R.aA]
 rw[hg]
 dsimp only
 rw[h2]
 simp only[R.aA]
 rw[if_pos hv]
theorem JH{α:Type}{a:af}{c:aa}(g h F:α->D):∀(l:List α) (v w:Option D) (acc:List D),(∀x∈l,a [some (g x),some (h x)] c=.ok (F x) c)->bA (λ_=>True) (eW 2 (cu (az 0) (cu (az 1) e9))) aH a (l.map λx=>.tup [g x,h x]) [v,w] acc c=.ok (acc++l.map F) c
 |[],v,w,acc,_=>by simp
 |x::l,v,w,acc,H=>by
  have h1:eW 2 (cu (az 0) (cu (az 1) e9)) (.tup [g x,h x]) [v,w] c=.ok [some (g x),some (h x)] c:=rfl
  rw[ak6,jf,h1,R.aA,kq,R.aA,if_pos rfl,H x (.head _),R.aA,JH g h F l _ _ _ (λz hz=>H z (.tail _ hz)),alu]
  rfl
theorem N9(l:List Bool) (c:aa):qe [.lst (l.map D.bl)] c=.ok (.bl (l.any id)) c:=by
 unfold qe m7
 dsimp only
 rw[Ad]
def qg(p q:List Nat):Bool:=(p.zip q).any λa=>decide (a.1=a.2)
theorem Hw:∀(p q:List Nat),List.zipWith (λx y=>D.tup [x,y]) (nD p) (nD q)=(p.zip q).map λa=>D.tup [.int (a.1:Nat),.int (a.2:Nat)]
 |[],q=>by simp[nD]
 |a::p,[]=>by simp[nD]
 |a::p,b::q=>by
  have:=Hw p q
  unfold nD at this ⊢
  simp only[ak6,aoJ,amV]at this ⊢
  rw[this]
theorem Of(p q:List Nat) (c:aa):bA (λ_=>True) (eW 2 (cu (az 0) (cu (az 1) e9))) aH (au bS (ak 0) (ak 1)) (List.zipWith (λx y=>D.tup [x,y]) (nD p) (nD q)) [none,none] [] c=.ok (((p.zip q).map λa=>decide ((a.1:Int)=(a.2:Int))).map D.bl) c:=by
 have:=JH (a:=(au bS (ak 0) (ak 1))) (c:=c) (λa:Nat×Nat=>D.int (a.1:Nat)) (λa=>.int (a.2:Nat)) (λa=>.bl (decide ((a.1:Int)=(a.2:Int)))) (p.zip q) none none [] (λa _=>by
  generalize ((a.1:Nat):Int)=x
  generalize ((a.2:Nat):Int)=y
  simp)
 rw[alg,<-Hw]at this
 rw[this,aln]
 rfl
def eF(n:Nat) (ss:List (Nat->Nat->Nat)) (i:Nat):List Nat:=[i/n,i % n]++ss.map λs=>s (i/n) (i % n)
theorem KP(n:Nat) (ss:List (Nat->Nat->Nat)) (i:Nat):(eF n ss i).length=ss.length+2:=by simp[eF]
theorem Kw(l:List Nat):bE (nD l)=true:=gV.mpr λd hd=>by
 obtain⟨k,_,rfl⟩:=akW.mp hd
 rfl
theorem abw{n:Nat}{ss:List (Nat->Nat->Nat)}(H:Net n ss) {i:Nat}(hi:i<n*n) {N I:Int}(hN:N=n) (hI:I=i) (c:aa):uW [.int N,.lst (aN n ss),.int I] c=.ok (.lst (nD (eF n ss i))) c:=by
 have sz:=jk
 have n2:=H.two
 have n7:=H.iT
 have hf:=H.few
 refine kG (n:=3) (b:=pU) ?_ (by unfold noRef;exact Kw _) (λk h=>by cases h)
 unfold pU
 rw[show cO 3 [D.int N,.lst (aN n ss),.int I]=[some (.int N),some (.lst (aN n ss)),some (.int I)]from rfl]
 refine m5 ?_
 have pI:eG (.int I) (.int N) c=.ok (.int (((i/n:Nat)):Int)) c:=by
  rw[nN c (by omega) (by omega),hI,hN]
  rfl
 have hmd:bN (.int I) (.int N) c=.ok (.int (((i % n:Nat)):Int)) c:=by
  rw[iY c (by omega),hI,hN]
  rfl
 have t2:(2:Nat)<=sizeLine:=by omega
 have h1:bU (ao (au eG (ak 2) (ak 0)) (ao (au bN (ak 2) (ak 0)) aq)) [some (.int N),some (.lst (aN n ss)),some (.int I)] c=.ok (.lst [.int (((i/n:Nat)):Int),.int (((i % n:Nat)):Int)]) c:=by
  simp[pI,hmd,t2]
 have hc:=nu (E:=[some (.int I)]) (a:=aC 2 gu (ao (ak 0) (ao (ak 1) aq))) (c:=c) (aP n) (λs=>D.int (s (i/n) (i % n):Nat)) ss none [] (λs hs=>nR (m:=gu) (d1:=ak 0) (d2:=ak 1) rfl rfl (A3 s (by omega) n7 hi hI c))
 rw[alg]at hc
 have h2:aR (cD (ak 1)) [none,some 2] (az 0) aH (aC 2 gu (ao (ak 0) (ao (ak 1) aq))) [some (.int N),some (.lst (aN n ss)),some (.int I)] c=.ok (.lst (ss.map λs=>D.int (s (i/n) (i % n):Nat))) c:=by
  have hs:cD (ak 1) [some (.int N),some (.lst (aN n ss)),some (.int I)] c=.ok ⟨ss.map (aP n),λ_=>True⟩ c:=rfl
  rw[dB,hs,R.aA]
  dsimp only
  rw[if_pos (by simp;omega),show cK [none,some 2] [some (.int N),some (.lst (aN n ss)),some (.int I)]=[none,some (.int I)]from rfl,hc,R.aA]
 refine eH (f:=dU) h1 h2 ?_
 unfold dU
 dsimp only[dG]
 rw[if_pos (by simp;omega)]
 simp[eF,nD]
theorem aiN{p q:List Nat}(hp:p.length<1000) (c:aa):yq [.lst (nD p),.lst (nD q)] c=.ok (.bl (qg p q)) c:=by
 have sz:=jk
 refine kG (n:=2) (b:=qc) ?_ rfl (λk h=>by cases h)
 unfold qc
 rw[show cO 2 [D.lst (nD p),.lst (nD q)]=[some (.lst (nD p)),some (.lst (nD q))]from rfl]
 refine m5 ?_
 have hd:jc (ao (ak 0) (ao (ak 1) aq)) [some (.lst (nD p)),some (.lst (nD q))] c=.ok ⟨List.zipWith (λx y=>D.tup [x,y]) (nD p) (nD q),λ_=>True⟩ c:=by
  have:jc (ao (ak 0) (ao (ak 1) aq)) [some (.lst (nD p)),some (.lst (nD q))] c=.ok ⟨List.zipWith (λx y=>D.tup [x,y]) (nD p) (nD q),λc'=>ir c (.lst (nD p)) c'/\ir c (.lst (nD q)) c'⟩ c:=rfl
  rw[this]
  have h:(λc'=>ir c (.lst (nD p)) c'/\ir c (.lst (nD q)) c')=λ_=>True:=by
   funext c'
   simp[ir]
  rw[h]
 simp only[eN,bz,dB,hd,bC,R.aA]
 rw[if_pos (by simp[nD];omega),show cK [none,none] [some (D.lst (nD p)),some (.lst (nD q))]=[none,none]from rfl,Of]
 simp only[R.aA,N9]
 unfold qg
 rw[List.any_map]
 congr 3
 funext a
 simp
 omega
def cQ(n:Nat) (ss:List (Nat->Nat->Nat)):Nat->Nat->Bool:=λi j=>qg (eF n ss i) (eF n ss j)
theorem aal{n:Nat}{ss:List (Nat->Nat->Nat)}(H:Net n ss) {N:Int}(hN:N=n) (c:aa):uU [.int N,.lst (aN n ss)] c=.ok (gQ (ji (n*n) (cQ n ss))) c:=by
 have n2:=H.two
 have n7:=H.iT
 have hf:=H.few
 have nn:n*n<100:=al4 (am1 n7 n7) (by decide)
 obtain⟨Q,hQ⟩:∃Q:Int,Q=((n*n:Nat):Int):=⟨_,rfl⟩
 have hmul:aU (.int N) (.int N) c=.ok (.int Q) c:=BX (by omega) (by omega) (by rw[hQ,hN];push_cast;rfl) c
 have e0:cY (aC 2 jU (ao (ak 0) (ao (ak 1) aq))) [some (.int N),some (.lst (aN n ss)),none] c=.ok (.nx [some (.int N),some (.lst (aN n ss)),none]) c:=by
  rw[ig,nR (m:=jU) (d1:=ak 0) (d2:=ak 1) rfl rfl (Jk H hN c)]
  rfl
 have e1:aF 2 (aR (aY (ao (au aU (ak 0) (ak 0)) aq)) [none,some 0,some 1] (az 0) aH (aC 3 uW (ao (ak 1) (ao (ak 2) (ao (ak 0) aq))))) [some (.int N),some (.lst (aN n ss)),none] c=.ok (.nx [some (.int N),some (.lst (aN n ss)),some (.lst ((List.range (n*n)).map λi=>D.lst (nD (eF n ss i))))]) c :=
  kD (i:=2) (ve (N:=Q) (n:=n*n) (E:=[some (.int N),some (.lst (aN n ss))]) (λi=>D.lst (nD (eF n ss i))) (eH (f:=aU) (d1:=ak 0) (d2:=ak 0) rfl rfl hmul) hQ (by omega) rfl λi hi=>ahy (m:=uW) (d1:=ak 1) (d2:=ak 2) (d3:=ak 0) rfl rfl rfl (abw H hi hN rfl c))
 have hnl:eS [D.lst ((List.range (n*n)).map λi=>D.lst (nD (eF n ss i)))]=true:=by
  have a:∀l:List Nat,eS (l.map λi=>D.lst (nD (eF n ss i)))=true:=λl=>by
   induction l with
   |nil=>rfl
   |cons x l ih =>
    have b:∀r:List Nat,eS (nD r)=true:=λr=>by
     induction r with
     |nil=>rfl
     |cons y r ih=>simpa[eS,fy]using ih
    simp only[ak6,eS,fy,b,ih,ang]
  simp only[eS,fy,a,ang]
 have hw:=Qi (k:=0) (n:=n*n) (E:=As) (ns:=["lines"]) (l:=[D.lst ((List.range (n*n)).map λi=>D.lst (nD (eF n ss i)))]) (m:=vf pF) (c:=c) (f:=cQ n ss) rfl hnl (by omega) (λi j hi hj _=>by
  unfold vf pF
  have r:∀k,k<n*n->((List.range (n*n)).map λi=>D.lst (nD (eF n ss i)))[k]? = some (.lst (nD (eF n ss k))):=λk hk=>by rw[ale,alS hk];rfl
  exact nR (m:=yq) (eH (f:=aE) (d1:=ak 2) (d2:=ak 0) rfl rfl (yy rfl (r i hi) c)) (eH (f:=aE) (d1:=ak 2) (d2:=ak 1) rfl rfl (yy rfl (r j hj) c)) (aiN (by rw[KP];omega) c))
 rw[<-hQ]at hw
 refine kG (n:=3) (b:=pS) ?_ (t8 _) (λk h=>by cases h)
 unfold pS
 rw[show cO 3 [D.int N,.lst (aN n ss)]=[some (.int N),some (.lst (aN n ss)),none]from rfl,bR e0,bR e1]
 exact m5 (ahC (eH (f:=aU) (d1:=ak 0) (d2:=ak 0) rfl rfl hmul) rfl hw (t8 _))
def dQ(ps:List (Nat×Nat)) (r:Nat):List Nat:=ps.filterMap λp=>if p.1=r then some p.2 else if p.2=r then some p.1 else none
def fR(p:Nat×Nat):D:=.tup [.int p.1,.int p.2]
def wo(m:Nat) (ps:List (Nat×Nat)):Prop:=∀p∈ps,p.1≠p.2/\p.1<m/\p.2<m
theorem aiT{m:Nat}{ps:List (Nat×Nat)}(h:wo m ps) (r x:Nat) (hx:x∈dQ ps r):x<m:=by
 obtain⟨p,hp,e⟩:=amv.mp hx
 have:=h p hp
 split at e
 ·cases e;omega
 ·split at e
  ·cases e;omega
  ·cases e
theorem aiU(ps:List (Nat×Nat)) (r:Nat):(dQ ps r).length<=ps.length:=List.length_filterMap_le _ _
theorem aiS(ps:List (Nat×Nat)) (p:Nat×Nat) (r:Nat):dQ (ps++[p]) r=dQ ps r++(if p.1=r then[p.2]else if p.2=r then[p.1]else[]):=by
 unfold dQ
 rw[List.filterMap_append]
 congr 1
 by_cases h1:p.1=r
 ·simp[h1]
 ·by_cases h2:p.2=r
  ·simp[h1,h2]
  ·simp[h1,h2]
def dF(m:Nat) (f:Nat->List Nat):aa:=(List.range m).map λr=>.lst (nD (f r))
def eE(n m:Nat):List D:=(List.range m).map λr=>.ref (n+r)
theorem Bd{m r:Nat}(f:Nat->List Nat) (c:aa) (h:r<m):(c++dF m f)[c.length+r]? = some (.lst (nD (f r))):=by
 rw[alL (by omega)]
 simp[dF,h]
theorem Jl{n m r:Nat}(h:r<m):cT (eE n m) (r:Int)=some (.ref (n+r)):=gO (by simp[eE,h])
theorem Jc{m r x:Nat}(f:Nat->List Nat) (c:aa) (h:r<m):(c++dF m f).set (c.length+r) (.lst (nD (f r)++[.int x]))=c++dF m (λz=>if z=r then f z++[x]else f z):=by
 rw[apM _ _ (by omega)]
 congr 1
 rw[apP]
 apply anQ
 ·simp[dF]
 ·intro i h1 h2
  rw[List.getElem_set]
  simp only[dF,apH,anc]
  by_cases e:r=i
  ·subst e;simp[nD]
  ·rw[if_neg e,if_neg (alF e)]
theorem MV:∀(items:List D) (e:Ev) (acc:List D) (c:aa),e.length=1->bA (λ_=>True) (az 0) aH (cW aq) items e acc c=.ok (acc++eE c.length items.length) (c++dF items.length λ_=>[])
 |[],e,acc,c,_=>by simp[eE,dF]
 |x::xs,e,acc,c,he=>by
  rw[jf]
  have h1:az 0 x e c=.ok (e.set 0 (some x)) c:=rfl
  have h2:cW aq (e.set 0 (some x)) c=.ok (.ref c.length) (c++[.lst []]):=by
   have:(0:Nat)<=sizeLine:=alW _
   simp
  rw[h1,R.aA,kq,R.aA,if_pos rfl,h2,R.aA,MV xs _ _ _ (by simpa using he)]
  have e1:acc++[D.ref c.length]++eE (c++[Cell.lst []]).length xs.length=acc++eE c.length (x::xs).length:=by
   rw[alu,als,alc,aly]
   congr 1
   unfold eE
   rw[alc,apQ,ak6,aln]
   simp only[anZ,alg,amN]
   congr 1
   refine alY λr _=>?_
   simp only[Function.comp]
   congr 1;omega
  have e2:c++[Cell.lst []]++dF xs.length (λ_=>[])=c++dF (x::xs).length λ_=>[]:=by
   rw[alu]
   congr 1
   unfold dF
   rw[alc,apQ,ak6,aln]
   rfl
  rw[e1,e2]
def qo:ah:=(aD (cY (dw (au aE (ak 2) (ak 3)) (ak 4))) (cY (dw (au aE (ak 2) (ak 4)) (ak 3))))
theorem Qo{m a b:Nat}{f:Nat->List Nat}{c:aa}(a0 a1:Option D) (ha:a<m) (hb:b<m) (hab:a≠b) (hl:∀r,(f r).length<2000) :
  qo [a0,a1,some (.lst (eE c.length m)),some (.int a),some (.int b)] (c++dF m f)=.ok (.nx [a0,a1,some (.lst (eE c.length m)),some (.int a),some (.int b)]) (c++dF m λr=>if r=a then f r++[b]else if r=b then f r++[a]else f r):=by
 have hs:=(show 3000<=sizeLine by decide)
 have h1:∀c',aE (.lst (eE c.length m)) (.int a) c'=.ok (.ref (c.length+a)) c':=λc'=>by rw[ou,Jl ha]
 have h2:∀c',aE (.lst (eE c.length m)) (.int b) c'=.ok (.ref (c.length+b)) c':=λc'=>by rw[ou,Jl hb]
 have g1:=Bd f c ha
 have g2:=Bd (λz=>if z=a then f z++[b]else f z) c hb
 have l1:=hl a
 have l2:=hl b
 have s1:=Jc (x:=b) f c ha
 have s2:=Jc (x:=a) (λz=>if z=a then f z++[b]else f z) c hb
 have nba:¬b=a:=λz=>hab z.symm
 simp only[if_neg nba]at g2 s2
 have k1:dw (au aE (ak 2) (ak 3)) (ak 4) [a0,a1,some (.lst (eE c.length m)),some (.int a),some (.int b)] (c++dF m f)=.ok .aO (c++dF m λz=>if z=a then f z++[b]else f z):=by
  unfold dw
  simp only[fO,bK,gz,gs,R.aA,h1]
  rw[g1]
  dsimp only
  rw[if_pos ⟨by simp only[ak4];omega,rfl⟩,s1]
 have k2:dw (au aE (ak 2) (ak 4)) (ak 3) [a0,a1,some (.lst (eE c.length m)),some (.int a),some (.int b)] (c++dF m λz=>if z=a then f z++[b]else f z)=.ok .aO (c++dF m λr=>if r=a then f r++[b]else if r=b then f r++[a]else f r):=by
  unfold dw
  simp only[fO,bK,gz,gs,R.aA,h2]
  rw[g2]
  dsimp only
  rw[if_pos ⟨by simp only[ak4];omega,rfl⟩,s2]
  congr 3
  funext z
  by_cases e1:z=a
  ·subst e1;simp[hab]
  ·by_cases e2:z=b
   ·subst e2;simp[e1]
   ·simp[e1,e2]
 unfold qo
 rw[jF,ig,k1]
 simp only[R.aA]
 rw[ig,k2]
 rfl
theorem aeu{ps:List (Nat×Nat)}{i:Nat}(hi:i<ps.length) (hne:ps[i].1≠ps[i].2):(λr=>if r=ps[i].1 then dQ (ps.take i) r++[ps[i].2]else if r=ps[i].2 then dQ (ps.take i) r++[ps[i].1]else dQ (ps.take i) r)=dQ (ps.take (i+1)):=by
 funext r
 rw[anh hi,aiS]
 by_cases h1:ps[i].1=r
 ·rw[if_pos h1.symm,if_pos h1]
 ·rw[if_neg (alF h1),if_neg h1]
  by_cases h2:ps[i].2=r
  ·rw[if_pos h2.symm,if_pos h2]
  ·rw[if_neg (alF h2),if_neg h2,al3]
theorem Qp{m:Nat}{ps:List (Nat×Nat)}{c:aa}(hp:wo m ps) (hl:ps.length<2000) (st:aa->Prop) (hst:∀R:aa,st (c++R)) (a0 a1:Option D) :
  ∃v w,dg st (eW 2 (cu (az 3) (cu (az 4) e9))) qo (ps.map fR) [a0,a1,some (.lst (eE c.length m)),none,none] (c++dF m λ_=>[])=.ok (.nx [a0,a1,some (.lst (eE c.length m)),v,w]) (c++dF m (dQ ps)):=by
 obtain⟨v',hf⟩:=k9 (α:=Option D×Option D) (st:=st) (g:=(eW 2 (cu (az 3) (cu (az 4) e9)))) (s:=qo) (λi=>c++dF m (dQ (ps.take i))) (λ_ v=>[a0,a1,some (.lst (eE c.length m)),v.1,v.2]) (ps.map fR) 0 (none,none) (λi _=>hst _) (λi x hx v=>by
  rw[alr]
  have hi:i<ps.length:=by have:=(ala.mp hx).1;simpa using this
  have ex:x=fR ps[i]:=by
   rw[ale,ak3 hi]at hx
   cases hx;rfl
  subst ex
  have hq:=hp _ (alq hi)
  have hs:=Qo (m:=m) (a:=ps[i].1) (b:=ps[i].2) (f:=dQ (ps.take i)) (c:=c) a0 a1 (by omega) hq.2.2 (by omega) (λr=>by have:=aiU (ps.take i) r;rw[ami]at this;omega)
  rw[aeu hi (by omega)]at hs
  refine⟨[a0,a1,some (.lst (eE c.length m)),some (.int ps[i].1),some (.int ps[i].2)],?_,(some (.int ps[i].1),some (.int ps[i].2)),hs⟩
  simp[fR])
 rw[alr,ak4,amf]at hf
 exact⟨v'.1,v'.2,hf⟩
def qm(m:Nat) (ps:List (Nat×Nat)):List (List Nat):=(List.range m).map λr=>ck (dQ ps r)
def rK:af:=(aG b7 (ao (jd (ao (ak 0) aq)) aq))
theorem rw_comp{m:Nat}{ps:List (Nat×Nat)}{c:aa}(hp:wo m ps) (hm:m<64):bA (λ_=>True) (az 0) aH rK (eE c.length m) [none] [] (c++dF m (dQ ps))=.ok ((qm m ps).map λr=>.tup (nD r)) (c++dF m (dQ ps)):=by
 have:=j6 (c:=c++dF m (dQ ps)) (g:=az 0) (t:=aH) (a:=rK) (λe=>∃v,e=[v]) (λ_=>true) (λd=>match d with|.ref k=>.tup (nD (ck (dQ ps (k-c.length))))|d=>d) (eE c.length m) [none] [] ⟨_,rfl⟩ (λd hd e ⟨v,he⟩=>by
  subst he
  obtain⟨r,hr,rfl⟩:=akW.mp hd
  have hr:=akZ.mp hr
  have hlt:=λx hx=>aiT hp r x hx
  have hup:=Qz (mP (dQ ps r)) (m:=m) (λx hx=>hlt x (jT.mp hx))
  have hn:=BV (ns:=dQ ps r) (by omega) (λx hx=>by have:=hlt x hx;omega)
  have DZ:dG (c++dF m (dQ ps)) (.ref (c.length+r))=some (nD (dQ ps r)):=by unfold dG;dsimp only;rw[Bd _ _ hr]
  refine⟨_,rfl,⟨_,rfl⟩,rfl,λ_=>?_⟩
  have e1:jd (ao (ak 0) aq) [some (.ref (c.length+r))] (c++dF m (dQ ps))=.ok (.lst (nD (ck (dQ ps r)))) (c++dF m (dQ ps)):=by
   rw[PF]
   simp only[bz,bK,gz,bC,R.aA,DZ,hn]
  dsimp only
  rw[apP]
  show rK [some (.ref (c.length+r))] _=_
  unfold rK
  simp only[eN,bz,bC,R.aA,e1]
  rfl)
 rw[this,alg]
 congr 1
 unfold eE qm
 have ft:∀l:List D,l.filter (λ_=>true)=l:=λl=>by simp
 rw[ft,aln,aln]
 refine alY λr _=>?_
 simp
theorem Qq{q:Int}{c c':aa}{l:List D}(a1:Option D) (b1:-4611686018427387904<=q/\q<4611686018427387904) (hl:(aT 0 q).length<sizeLine) (hc:bA (λ_=>True) (az 0) aH (cW aq) (aT 0 q) [none] [] c=.ok l c') :
  (aF 2 (aR (aY (ao (ak 0) aq)) [none] (az 0) aH (cW aq))) [some (.int q),a1,none,none,none] c=.ok (.nx [some (.int q),a1,some (.lst l),none,none]) c':=by
 simp only[f6,dB,gj,bz,bK,gz,gs,bC,R.aA]
 rw[if_pos (by omega)]
 simp only[R.aA]
 rw[if_pos hl]
 have:cK [none] [some (D.int q),a1,none,none,none]=[none]:=rfl
 rw[this,hc]
 rfl
theorem Qs{q:Int}{k:Nat}{c c1 c2:aa}{l:List D}{v w:Option D}{W:D}{s0 s1 s2:ah}(e0:s0 [some (.int q),some (.ref k),none,none,none] c=.ok (.nx [some (.int q),some (.ref k),some (.lst l),none,none]) c1)
  (e1:s1 [some (.int q),some (.ref k),some (.lst l),none,none] c1=.ok (.nx [some (.int q),some (.ref k),some (.lst l),v,w]) c2) (e2:s2 [some (.int q),some (.ref k),some (.lst l),v,w] c2=.ok (.rt W) c2) (hx:dM false c.length W c2=.ok W c) :
  bG 5 false (aD s0 (aD s1 s2)) [.int q,.ref k] c=.ok W c:=by
 rw[fk]
 have e3:cO 5 [D.int q,.ref k]=[some (.int q),some (.ref k),none,none,none]:=rfl
 rw[e3,bR e0,bR e1,e2]
 exact hx
theorem Qn{q:Int}{k:Nat}{c:aa}{l m:List D}{v w:Option D}(hl:l.length<sizeLine) (h:bA (λ_=>True) (az 0) aH rK l [none] [] c=.ok m c):(aL (aG b7 (ao (aR (cD (ak 2)) [none] (az 0) aH (aG b7 (ao (jd (ao (ak 0) aq)) aq))) aq))) [some (.int q),some (.ref k),some (.lst l),v,w] c=.ok (.rt (.tup m)) c:=by
 simp only[iO,eN,bz,dB,bC,R.aA]
 unfold cD
 simp only[bK,gz,gs,R.aA]
 rw[if_pos hl]
 have:cK [none] [some (D.int q),some (.ref k),some (.lst l),v,w]=[none]:=rfl
 rw[this]
 unfold rK at h
 rw[h]
 rfl
theorem Ql{m k:Nat}{ps:List (Nat×Nat)}{c:aa}(hp:wo m ps) (hl:ps.length<2000) (hm:m<64) (hk:c[k]? = some (.lst (ps.map fR))):oV [.int m,.ref k] c=.ok (gQ (qm m ps)) c:=by
 have hs:=(show 3000<=sizeLine by decide)
 have hkl:k<c.length:=(ala.mp hk).1
 have hc:=MV (aT 0 (m:Int)) [none] [] c rfl
 have hrl:(aT 0 (m:Int)).length=m:=by rw[e8];omega
 have adu:(aT 0 (m:Int)).length<sizeLine:=by rw[hrl];omega
 rw[hrl,alg]at hc
 have LH:∀R:aa,(c++R)[k]? = some (.lst (ps.map fR)):=λR=>by rw[alA hkl];exact hk
 obtain⟨v,w,hf⟩:=Qp (m:=m) hp hl (λc'=>c'[k]? = some (.lst (ps.map fR))) LH (some (.int m)) (some (.ref k))
 have hw:=rw_comp (c:=c) hp hm
 have hrf:(eE c.length m).length<sizeLine:=by simp[eE];omega
 have e1:(bY (cD (ak 1)) (eW 2 (cu (az 3) (cu (az 4) e9))) qo) [some (.int m),some (.ref k),some (.lst (eE c.length m)),none,none] (c++dF m λ_=>[])=.ok (.nx [some (.int m),some (.ref k),some (.lst (eE c.length m)),v,w]) (c++dF m (dQ ps)):=by
  rw[gB]
  unfold cD
  simp only[bK,gz,gs,R.aA,LH]
  exact hf
 have hb:tE=aD (aF 2 (aR (aY (ao (ak 0) aq)) [none] (az 0) aH (cW aq))) (aD (bY (cD (ak 1)) (eW 2 (cu (az 3) (cu (az 4) e9))) qo) (aL (aG b7 (ao (aR (cD (ak 2)) [none] (az 0) aH (aG b7 (ao (jd (ao (ak 0) aq)) aq))) aq)))):=rfl
 rw[oV,hb]
 have nr:=t8 (qm m ps)
 have et:(c++dF m (dQ ps)).take c.length=c:=by simp
 refine Qs (Qq (some (.ref k)) (by omega) adu hc) e1 (Qn hrf hw) ?_
 unfold gQ at nr ⊢
 unfold dM
 dsimp only
 rw[if_pos nr,et]
def gR(f:Nat->Nat->Bool) (i k:Nat):List (Nat×Nat):=(((List.range k).map λd=>i+1+d).filter (f i)).map λj=>(i,j)
def ez(M:Nat) (f:Nat->Nat->Bool):Nat->List (Nat×Nat)
 |0=>[]
 |i+1=>ez M f i++gR f i (M-(i+1))
theorem abe{f:Nat->Nat->Bool}{i k:Nat}{p:Nat×Nat}:p∈gR f i k↔p.1=i/\i<p.2/\p.2<i+1+k/\f i p.2=true:=by
 unfold gR
 constructor
 ·intro h
  obtain⟨j,hj,rfl⟩:=akW.mp h
  obtain⟨h1,h2⟩:=amC.mp hj
  obtain⟨d,hd,rfl⟩:=akW.mp h1
  have:=akZ.mp hd
  exact⟨rfl,by dsimp only;omega,by dsimp only;omega,h2⟩
 ·rintro ⟨h1,h2,h3,h4⟩
  refine akW.mpr ⟨p.2,amC.mpr ⟨akW.mpr ⟨p.2-(i+1),akZ.mpr (by omega),by omega⟩,h4⟩,?_⟩
  rw[<-h1]
theorem uS{M:Nat}{f:Nat->Nat->Bool}{p:Nat×Nat}:∀i,i<=M->(p∈ez M f i↔p.1<i/\p.1<p.2/\p.2<M/\f p.1 p.2=true)
 |0,_=>by simp[ez]
 |i+1,h=>by
  unfold ez
  rw[alz,uS i (by omega),abe]
  constructor
  ·rintro (⟨h1,h2,h3,h4⟩|⟨h1,h2,h3,h4⟩)
   ·exact⟨by omega,h2,h3,h4⟩
   ·subst h1
    exact⟨by omega,h2,by omega,h4⟩
  ·rintro ⟨h1,h2,h3,h4⟩
   by_cases hp:p.1=i
   ·right
    subst hp
    exact⟨rfl,h2,by omega,h4⟩
   ·left
    exact⟨by omega,h2,h3,h4⟩
theorem Yv{M:Nat}{f:Nat->Nat->Bool}:wo M (ez M f M):=λp hp=>by
 obtain⟨h1,h2,h3,_⟩:=(uS M (akV _)).mp hp
 exact⟨by omega,by omega,h3⟩
def j8(M:Nat):Nat->Nat
 |0=>0
 |i+1=>j8 M i+(M-(i+1))
theorem Ce{M:Nat}{f:Nat->Nat->Bool}:∀i,(ez M f i).length<=j8 M i
 |0=>akV _
 |i+1=>by
  unfold ez j8
  rw[als]
  have h1:=Ce (M:=M) (f:=f) i
  have h2:(gR f i (M-(i+1))).length<=M-(i+1):=by
   unfold gR
   rw[ak4]
   refine alk (aoO _ _) ?_
   simp
  omega
theorem NY:((List.range 50).all λM=>decide (j8 M M<2000))=true:=by decide +kernel
theorem Mu{M:Nat}{f:Nat->Nat->Bool}(hM:M<50) {i:Nat}(hi:i<=M):(ez M f i).length<2000:=by
 have h:∀j,i<=j->j8 M i<=j8 M j:=λj hj=>by
  induction hj with
  |refl=>exact akV _
  |step _ ih=>exact alk ih (amm _ _)
 have:=of_decide_eq_true (ak2.mp NY M (akZ.mpr hM))
 exact al4 (alk (Ce i) (h M hi)) this
theorem abf{ps:List (Nat×Nat)}{r x:Nat}:x∈dQ ps r↔∃p∈ps,(p.1=r/\p.2=x)\/(p.1≠r/\p.2=r/\p.1=x):=by
 unfold dQ
 rw[amv]
 constructor
 ·rintro ⟨p,hp,h⟩
  refine⟨p,hp,?_⟩
  split at h
  ·rename_i h1;cases h;exact .inl ⟨h1,rfl⟩
  ·split at h
   ·rename_i h1 h2;cases h;exact .inr ⟨h1,h2,rfl⟩
   ·cases h
 ·rintro ⟨p,hp,⟨h1,h2⟩|⟨h1,h2,h3⟩⟩
  ·exact⟨p,hp,by rw[if_pos h1,h2]⟩
  ·exact⟨p,hp,by rw[if_neg h1,if_pos h2,h3]⟩
theorem QB(n:Nat) (b:Nat->Bool):Up ((List.range n).filter b):=List.Pairwise.sublist List.filter_sublist anR
theorem Qm{M:Nat}{f:Nat->Nat->Bool}(hs:∀i j,f i j=f j i):qm M (ez M f M)=ji M f:=by
 unfold qm ji
 refine alY λr hr=>?_
 have hr:=akZ.mp hr
 refine up_eq (mP _) (QB _ _) λx=>?_
 rw[jT,abf]
 unfold AR
 rw[amC,akZ,ald,decide_eq_true_eq]
 constructor
 ·rintro ⟨p,hp,h⟩
  obtain⟨h1,h2,h3,h4⟩:=(uS M (akV _)).mp hp
  rcases h with⟨e1,e2⟩|⟨e1,e2,e3⟩
  ·subst e1 e2
   exact⟨h3,by omega,h4⟩
  ·subst e2 e3
   exact⟨by omega,by omega,by rw[hs];exact h4⟩
 ·rintro ⟨h1,h2,h3⟩
  by_cases hlt:r<x
  ·exact⟨(r,x),(uS M (akV _)).mpr ⟨hr,hlt,h1,h3⟩,.inl ⟨rfl,rfl⟩⟩
  ·exact⟨(x,r),(uS M (akV _)).mpr ⟨h1,by dsimp only;omega,hr,by rw[hs];exact h3⟩,.inr ⟨h2,rfl,rfl⟩⟩
theorem Oe:∀p q:List Nat,qg p q=qg q p
 |[],[]=>rfl
 |[],_::_=>rfl
 |_::_,[]=>rfl
 |a::p,b::q=>by
  have ih:=Oe p q
  unfold qg at ih ⊢
  rw[amV,amV,aoM,aoM,ih]
  congr 1
  exact decide_eq_decide.mpr ⟨Eq.symm,Eq.symm⟩
theorem aam(n:Nat) (ss:List (Nat->Nat->Nat)) (i j:Nat):cQ n ss i j=cQ n ss j i:=Oe _ _
def Cc:af:=(au dU (bU (ao (ak 4) (ao (ak 5) aq))) (aR (cD (ak 1)) [none,some 5,some 4] (az 0) aH (au aE (au aE (ak 0) (ak 2)) (ak 1))))
def u9:ah:=(aD (aF 4 (au eG (ak 3) (ak 0))) (aD (aF 5 (au bN (ak 3) (ak 0))) (cY (dw (ak 2) Cc))))
def Bq:af:=(aG qe (ao (aR (jc (ao (au aE (ak 2) (ak 7)) (ao (au aE (ak 2) (ak 8)) aq))) [none,none] (eW 2 (cu (az 0) (cu (az 1) e9))) aH (au bS (ak 0) (ak 1))) aq))
def xO:ah:=(b8 (aW Bq) (cY (dw (ak 6) (fC (ao (ak 7) (ao (ak 8) aq))))) cg)
def jS:af:=(au aU (ak 0) (ak 0))
def uC:ah:=(bY (je (ao (au aZ (ak 7) (dC (.int 1))) (ao jS aq))) (az 8) xO)
theorem abH:pZ=aD (aF 2 (cW aq)) (aD (bY (aY (ao jS aq)) (az 3) u9) (aD (aF 6 (cW aq)) (aD (bY (aY (ao jS aq)) (az 7) uC) (aL (aC 2 oV (ao jS (ao (ak 6) aq))))))):=rfl
theorem RV{n x y:Nat}(s:Nat->Nat->Nat) (hx:x<n) (hy:y<n) (c:aa):(au aE (au aE (ak 0) (ak 2)) (ak 1)) [some (aP n s),some (.int (y:Int)),some (.int (x:Int))] c=.ok (.int (s x y:Nat)) c:=by
 have r1:((List.range n).map λi=>D.tup (nD ((List.range n).map (s i))))[x]? = some (.tup (nD ((List.range n).map (s x)))):=by rw[ale,alS hx];rfl
 have r2:(nD ((List.range n).map (s x)))[y]? = some (.int (s x y:Nat)):=by rw[ym,ale,alS hy];rfl
 exact eH (f:=aE) (eH (f:=aE) (d1:=ak 0) (d2:=ak 2) rfl rfl (yx (N:=(x:Int)) rfl r1 c)) (d2:=ak 1) rfl (yx (N:=(y:Int)) rfl r2 c)
theorem abv{n:Nat}{ss:List (Nat->Nat->Nat)}(H:Net n ss) {i:Nat}(hi:i<n*n) {a0 a2 a3 a6 a7 a8:Option D}(c:aa):Cc [a0,some (.lst (aN n ss)),a2,a3,some (.int (((i/n:Nat)):Int)),some (.int (((i % n:Nat)):Int)),a6,a7,a8] c=.ok (.lst (nD (eF n ss i))) c:=by
 have sz:=jk
 have n2:=H.two
 have n7:=H.iT
 have hf:=H.few
 have hd:i/n<n:=am0 hi
 have hm:i % n<n:=al7 _ (by omega)
 have t2:(2:Nat)<=sizeLine:=by omega
 have h1:bU (ao (ak 4) (ao (ak 5) aq)) [a0,some (.lst (aN n ss)),a2,a3,some (.int (((i/n:Nat)):Int)),some (.int (((i % n:Nat)):Int)),a6,a7,a8] c=.ok (.lst [.int (((i/n:Nat)):Int),.int (((i % n:Nat)):Int)]) c:=by
  simp[t2]
 have hc:=nu (E:=[some (.int (((i % n:Nat)):Int)),some (.int (((i/n:Nat)):Int))]) (a:=au aE (au aE (ak 0) (ak 2)) (ak 1)) (c:=c) (aP n) (λs=>D.int (s (i/n) (i % n):Nat)) ss none [] (λs _=>RV s hd hm c)
 rw[alg]at hc
 have h2:aR (cD (ak 1)) [none,some 5,some 4] (az 0) aH (au aE (au aE (ak 0) (ak 2)) (ak 1)) [a0,some (.lst (aN n ss)),a2,a3,some (.int (((i/n:Nat)):Int)),some (.int (((i % n:Nat)):Int)),a6,a7,a8] c=.ok (.lst (ss.map λs=>D.int (s (i/n) (i % n):Nat))) c:=by
  have hs:cD (ak 1) [a0,some (.lst (aN n ss)),a2,a3,some (.int (((i/n:Nat)):Int)),some (.int (((i % n:Nat)):Int)),a6,a7,a8] c=.ok ⟨ss.map (aP n),λ_=>True⟩ c:=rfl
  rw[dB,hs,R.aA]
  dsimp only
  rw[if_pos (by simp;omega),show cK [none,some 5,some 4] [a0,some (.lst (aN n ss)),a2,a3,some (.int (((i/n:Nat)):Int)),some (.int (((i % n:Nat)):Int)),a6,a7,a8]=[none,some (.int (((i % n:Nat)):Int)),some (.int (((i/n:Nat)):Int))]from rfl,hc,R.aA]
 refine eH (f:=dU) h1 h2 ?_
 unfold dU
 dsimp only[dG]
 rw[if_pos (by simp;omega)]
 simp[eF,nD]
def LN(n:Nat) (ss:List (Nat->Nat->Nat)) (k:Nat):List D:=(List.range k).map λi=>D.lst (nD (eF n ss i))
theorem abu{n:Nat}{ss:List (Nat->Nat->Nat)}(H:Net n ss) {N Q:Int}(hN:N=n) (hQ:Q=((n*n:Nat):Int)) {a6 a7 a8:Option D}(c:aa):∃v:Option D×Option D×Option D,dg (λ_=>True) (az 3) u9 (aT 0 Q) [some (.int N),some (.lst (aN n ss)),some (.ref c.length),none,none,none,a6,a7,a8] (c++[.lst []])=.ok (.nx [some (.int N),some (.lst (aN n ss)),some (.ref c.length),v.1,v.2.1,v.2.2,a6,a7,a8]) (c++[.lst (LN n ss (n*n))]):=by
 have n2:=H.two
 have n7:=H.iT
 have nn:n*n<100:=al4 (am1 n7 n7) (by decide)
 have:=nK (g:=az 3) (s:=u9) (λk=>c++[.lst (LN n ss k)]) (λ_ (v:Option D×Option D×Option D)=>[some (.int N),some (.lst (aN n ss)),some (.ref c.length),v.1,v.2.1,v.2.2,a6,a7,a8]) hQ (none,none,none) (λi hi v=>by
  refine⟨[some (.int N),some (.lst (aN n ss)),some (.ref c.length),some (.int (i:Nat)),v.2.1,v.2.2,a6,a7,a8],rfl,(some (.int (i:Nat)),some (.int (((i/n:Nat)):Int)),some (.int (((i % n:Nat)):Int))),?_⟩
  have pI:eG (.int (i:Nat)) (.int N) (c++[.lst (LN n ss i)])=.ok (.int (((i/n:Nat)):Int)) (c++[.lst (LN n ss i)]):=by
   rw[nN _ (by omega) (by omega),hN]
   rfl
  have hmd:bN (.int (i:Nat)) (.int N) (c++[.lst (LN n ss i)])=.ok (.int (((i % n:Nat)):Int)) (c++[.lst (LN n ss i)]):=by
   rw[iY _ (by omega),hN]
   rfl
  have e0:aF 4 (au eG (ak 3) (ak 0)) [some (.int N),some (.lst (aN n ss)),some (.ref c.length),some (.int (i:Nat)),v.2.1,v.2.2,a6,a7,a8] (c++[.lst (LN n ss i)])=.ok (.nx [some (.int N),some (.lst (aN n ss)),some (.ref c.length),some (.int (i:Nat)),some (.int (((i/n:Nat)):Int)),v.2.2,a6,a7,a8]) (c++[.lst (LN n ss i)]):=kD (i:=4) (eH (f:=eG) (d1:=ak 3) (d2:=ak 0) rfl rfl pI)
  have e1:aF 5 (au bN (ak 3) (ak 0)) [some (.int N),some (.lst (aN n ss)),some (.ref c.length),some (.int (i:Nat)),some (.int (((i/n:Nat)):Int)),v.2.2,a6,a7,a8] (c++[.lst (LN n ss i)])=.ok (.nx [some (.int N),some (.lst (aN n ss)),some (.ref c.length),some (.int (i:Nat)),some (.int (((i/n:Nat)):Int)),some (.int (((i % n:Nat)):Int)),a6,a7,a8]) (c++[.lst (LN n ss i)]):=kD (i:=5) (eH (f:=bN) (d1:=ak 3) (d2:=ak 0) rfl rfl hmd)
  have hap:=wg (c:=c) (acc:=LN n ss i) (dO:=ak 2) (da:=Cc) (e:=[some (.int N),some (.lst (aN n ss)),some (.ref c.length),some (.int (i:Nat)),some (.int (((i/n:Nat)):Int)),some (.int (((i % n:Nat)):Int)),a6,a7,a8]) rfl (abv H hi _) (by unfold noRef;exact Kw _) (by unfold LN;simp;omega)
  have ht:LN n ss i++[D.lst (nD (eF n ss i))]=LN n ss (i+1):=by unfold LN;rw[amd,alX];rfl
  rw[ht]at hap
  unfold u9
  rw[bR e0,bR e1,ig,hap]
  rfl)
 exact this
theorem Uq(f:Nat->Nat->Bool) (i k:Nat):gR f i (k+1)=gR f i k++(if f i (i+1+k)=true then[(i,i+1+k)]else[]):=by
 unfold gR
 rw[amd,alX,List.filter_append,alX]
 congr 1
 by_cases h:f i (i+1+k)=true
 ·rw[if_pos h];simp[h]
 ·rw[if_neg h];simp[h]
def cG(n:Nat) (ss:List (Nat->Nat->Nat)) (c:aa) (ps:List (Nat×Nat)):aa:=c++[.lst (LN n ss (n*n))]++[.lst (ps.map fR)]
theorem Ju{n:Nat}{ss:List (Nat->Nat->Nat)}{c:aa}{ps:List (Nat×Nat)}:(cG n ss c ps)[c.length]? = some (.lst (LN n ss (n*n))):=by unfold cG;simp
theorem Vt{n:Nat}{ss:List (Nat->Nat->Nat)}{c:aa}{ps:List (Nat×Nat)}:(cG n ss c ps)[c.length+1]? = some (.lst (ps.map fR)):=by unfold cG;simp
theorem Oo{n:Nat}{ss:List (Nat->Nat->Nat)}{k:Nat}(hk:k<n*n):(LN n ss (n*n))[k]? = some (.lst (nD (eF n ss k))):=by unfold LN;rw[ale,alS hk];rfl
section
variable {n:Nat}{ss:List (Nat->Nat->Nat)}{c:aa}{ps:List (Nat×Nat)}{a0 a1 a3 a4 a5:Option D}{i j:Nat}
theorem Vw(H:Net n ss) (hi:i<n*n) (hj:j<n*n) {I J:Int}(hI:I=i) (hJ:J=j):Bq [a0,a1,some (.ref c.length),a3,a4,a5,some (.ref (c.length+1)),some (.int I),some (.int J)] (cG n ss c ps)=.ok (.bl (cQ n ss i j)) (cG n ss c ps):=by
 have sz:=jk
 have hf:=H.few
 have n7:=H.iT
 have x1:au aE (ak 2) (ak 7) [a0,a1,some (.ref c.length),a3,a4,a5,some (.ref (c.length+1)),some (.int I),some (.int J)] (cG n ss c ps)=.ok (.lst (nD (eF n ss i))) (cG n ss c ps):=eH (f:=aE) (d1:=ak 2) (d2:=ak 7) rfl rfl (La hI Ju (Oo hi))
 have x2:au aE (ak 2) (ak 8) [a0,a1,some (.ref c.length),a3,a4,a5,some (.ref (c.length+1)),some (.int I),some (.int J)] (cG n ss c ps)=.ok (.lst (nD (eF n ss j))) (cG n ss c ps):=eH (f:=aE) (d1:=ak 2) (d2:=ak 8) rfl rfl (La hJ Ju (Oo hj))
 have hd:jc (ao (au aE (ak 2) (ak 7)) (ao (au aE (ak 2) (ak 8)) aq)) [a0,a1,some (.ref c.length),a3,a4,a5,some (.ref (c.length+1)),some (.int I),some (.int J)] (cG n ss c ps)=.ok ⟨List.zipWith (λx y=>D.tup [x,y]) (nD (eF n ss i)) (nD (eF n ss j)),λ_=>True⟩ (cG n ss c ps):=by
  have h:(λc'=>ir (cG n ss c ps) (.lst (nD (eF n ss i))) c'/\ir (cG n ss c ps) (.lst (nD (eF n ss j))) c')=λ_=>True:=by
   funext c'
   simp[ir]
  rw[<-h]
  unfold jc
  rw[bz,x1,R.aA,bz,x2,R.aA,bC]
  rfl
 unfold Bq
 simp only[eN,bz,dB,hd,bC,R.aA]
 rw[if_pos (by simp[nD,KP];omega),show cK [none,none] [a0,a1,some (.ref c.length),a3,a4,a5,some (.ref (c.length+1)),some (.int I),some (.int J)]=[none,none]from rfl,Of]
 simp only[R.aA,N9]
 unfold cQ qg
 rw[List.any_map]
 congr 3
 funext a
 simp
 omega
theorem Vu(H:Net n ss) (hi:i<n*n) (hj:j<n*n) {I J:Int}(hI:I=i) (hJ:J=j) (hl:ps.length<2000):xO [a0,a1,some (.ref c.length),a3,a4,a5,some (.ref (c.length+1)),some (.int I),some (.int J)] (cG n ss c ps)=.ok (.nx [a0,a1,some (.ref c.length),a3,a4,a5,some (.ref (c.length+1)),some (.int I),some (.int J)]) (cG n ss c (ps++(if cQ n ss i j=true then[(i,j)]else[]))):=by
 have sz:=jk
 have ha:=Vw (a0:=a0) (a1:=a1) (a3:=a3) (a4:=a4) (a5:=a5) (c:=c) (ps:=ps) H hi hj hI hJ
 unfold xO
 rw[kr,wR,ha]
 dsimp only[R.bind]
 by_cases h:cQ n ss i j=true
 ·rw[if_pos h,if_pos h]
  have t2:(2:Nat)<=sizeLine:=by omega
  have hv:fC (ao (ak 7) (ao (ak 8) aq)) [a0,a1,some (.ref c.length),a3,a4,a5,some (.ref (c.length+1)),some (.int I),some (.int J)] (cG n ss c ps)=.ok (fR (i,j)) (cG n ss c ps):=by
   simp[t2,fR,hI,hJ]
  have hL:(c++[Cell.lst (LN n ss (n*n))]).length=c.length+1:=by simp
  have hap:=wg (c:=c++[.lst (LN n ss (n*n))]) (acc:=ps.map fR) (dO:=ak 6) (da:=fC (ao (ak 7) (ao (ak 8) aq))) (e:=[a0,a1,some (.ref c.length),a3,a4,a5,some (.ref (c.length+1)),some (.int I),some (.int J)]) (by rw[hL];rfl) hv rfl (by simp;omega)
  have hap':dw (ak 6) (fC (ao (ak 7) (ao (ak 8) aq))) [a0,a1,some (.ref c.length),a3,a4,a5,some (.ref (c.length+1)),some (.int I),some (.int J)] (cG n ss c ps)=.ok .aO (cG n ss c (ps++[(i,j)])):=by
   unfold cG at hap ⊢
   rw[hap,alX]
   rfl
  rw[ig,hap']
  rfl
 ·rw[if_neg h,if_neg h,al3]
  rfl
end
theorem ahK{M:Nat}(i j:Nat) (hj:i<=j):j8 M i<=j8 M j:=by
 induction hj with
 |refl=>exact akV _
 |step _ ih=>exact alk ih (amm _ _)
section
variable {n:Nat}{ss:List (Nat->Nat->Nat)}{c:aa}{a3 a4 a5:Option D}
theorem BY(H:Net n ss) {N Q:Int}(hN:N=n) (hQ:Q=((n*n:Nat):Int)) (e:Ev) (c:aa):jS (some (.int N)::e) c=.ok (.int Q) c:=by
 have n7:=H.iT
 exact eH (f:=aU) (d1:=ak 0) (d2:=ak 0) rfl rfl (BX (by omega) (by omega) (by rw[hQ,hN];push_cast;rfl) c)
theorem Vr(H:Net n ss) {N Q:Int}(hN:N=n) (hQ:Q=((n*n:Nat):Int)) {i:Nat}(hi:i<n*n) {I:Int}(hI:I=i) (v:Option D):∃v',uC [some (.int N),some (.lst (aN n ss)),some (.ref c.length),a3,a4,a5,some (.ref (c.length+1)),some (.int I),v] (cG n ss c (ez (n*n) (cQ n ss) i))=.ok (.nx [some (.int N),some (.lst (aN n ss)),some (.ref c.length),a3,a4,a5,some (.ref (c.length+1)),some (.int I),v']) (cG n ss c (ez (n*n) (cQ n ss) (i+1))):=by
 have n7:=H.iT
 have nn:n*n<50:=al4 (am1 n7 n7) (by decide)
 have hl:(aT (I+1) Q).length=n*n-(i+1):=by rw[rL];simp;omega
 have:=k9 (st:=λ_=>True) (g:=az 8) (s:=xO) (λk=>cG n ss c (ez (n*n) (cQ n ss) i++gR (cQ n ss) i k)) (λ_ (v:Option D)=>[some (.int N),some (.lst (aN n ss)),some (.ref c.length),a3,a4,a5,some (.ref (c.length+1)),some (.int I),v]) (aT (I+1) Q) 0 v (λ_ _=>trivial) (λk x hx v=>by
  have hk:k<n*n-(i+1):=by rw[<-hl];exact(ala.mp hx).1
  have hx':x=.int (((i+1+k:Nat)):Int):=by
   rw[rL,ale,alS (by omega)]at hx
   have:D.int (I+1+(k:Int))=x:=by simpa using hx
   rw[<-this]
   congr 1
   omega
  subst hx'
  rw[alr]
  refine⟨[some (.int N),some (.lst (aN n ss)),some (.ref c.length),a3,a4,a5,some (.ref (c.length+1)),some (.int I),some (.int (((i+1+k:Nat)):Int))],rfl,some (.int (((i+1+k:Nat)):Int)),?_⟩
  have hb:=Vu (a0:=some (.int N)) (a1:=some (.lst (aN n ss))) (a3:=a3) (a4:=a4) (a5:=a5) (c:=c) (ps:=ez (n*n) (cQ n ss) i++gR (cQ n ss) i k) (i:=i) (j:=i+1+k) H hi (by omega) hI rfl (by
   have h1:=Mu (f:=cQ n ss) nn (i:=i+1) (by omega)
   have h2:(gR (cQ n ss) i k).length<=k:=by
    unfold gR
    rw[ak4]
    refine alk (aoO _ _) ?_
    simp
   have h3:=Ce (M:=n*n) (f:=cQ n ss) i
   have h4:=of_decide_eq_true (ak2.mp NY (n*n) (akZ.mpr nn))
   have h5:j8 (n*n) i+(n*n-(i+1))<=j8 (n*n) (n*n):=ahK (i+1) (n*n) (by omega)
   rw[als]
   omega)
  rw[alu,<-Uq]at hb
  exact hb)
 obtain⟨v',hv⟩:=this
 refine⟨v',?_⟩
 rw[alr,hl]at hv
 have hz:ez (n*n) (cQ n ss) i++gR (cQ n ss) i 0=ez (n*n) (cQ n ss) i:=by unfold gR;simp
 rw[hz]at hv
 have h1:je (ao (au aZ (ak 7) (dC (.int 1))) (ao jS aq)) [some (.int N),some (.lst (aN n ss)),some (.ref c.length),a3,a4,a5,some (.ref (c.length+1)),some (.int I),v] (cG n ss c (ez (n*n) (cQ n ss) i))=.ok ⟨aT (I+1) Q,λ_=>True⟩ (cG n ss c (ez (n*n) (cQ n ss) i)):=by
  have hm:=BY H hN hQ [some (.lst (aN n ss)),some (.ref c.length),a3,a4,a5,some (.ref (c.length+1)),some (.int I),v] (cG n ss c (ez (n*n) (cQ n ss) i))
  have ha:au aZ (ak 7) (dC (.int 1)) [some (.int N),some (.lst (aN n ss)),some (.ref c.length),a3,a4,a5,some (.ref (c.length+1)),some (.int I),v] (cG n ss c (ez (n*n) (cQ n ss) i))=.ok (.int (I+1)) (cG n ss c (ez (n*n) (cQ n ss) i)):=eH (f:=aZ) (d1:=ak 7) (d2:=dC (.int 1)) rfl rfl rfl
  unfold je
  rw[bz,ha,R.aA,bz,hm,R.aA,bC]
  simp only[R.aA]
  rw[if_pos (by omega)]
 unfold uC
 rw[gB,h1,R.aA]
 exact hv
theorem abG(H:Net n ss) {N:Int}(hN:N=n) (c:aa):uY [.int N,.lst (aN n ss)] c=.ok (gQ (ji (n*n) (cQ n ss))) c:=by
 have n7:=H.iT
 have nn:n*n<50:=al4 (am1 n7 n7) (by decide)
 obtain⟨Q,hQ⟩:∃Q:Int,Q=((n*n:Nat):Int):=⟨_,rfl⟩
 have rg:∀(e:Ev) (c:aa),aY (ao jS aq) (some (.int N)::e) c=.ok ⟨aT 0 Q,λ_=>True⟩ c:=λe c=>by
  unfold aY
  rw[bz,BY H hN hQ e c,R.aA,bC]
  simp only[R.aA]
  rw[if_pos (by omega)]
 have e0:aF 2 (cW aq) [some (.int N),some (.lst (aN n ss)),none,none,none,none,none,none,none] c=.ok (.nx [some (.int N),some (.lst (aN n ss)),some (.ref c.length),none,none,none,none,none,none]) (c++[.lst []]):=by simp[bE]
 obtain⟨v,h1⟩:=abu H hN hQ (a6:=none) (a7:=none) (a8:=none) c
 have e1:bY (aY (ao jS aq)) (az 3) u9 [some (.int N),some (.lst (aN n ss)),some (.ref c.length),none,none,none,none,none,none] (c++[.lst []])=.ok (.nx [some (.int N),some (.lst (aN n ss)),some (.ref c.length),v.1,v.2.1,v.2.2,none,none,none]) (c++[.lst (LN n ss (n*n))]):=by
  rw[gB,rg,R.aA]
  exact h1
 have e2:aF 6 (cW aq) [some (.int N),some (.lst (aN n ss)),some (.ref c.length),v.1,v.2.1,v.2.2,none,none,none] (c++[.lst (LN n ss (n*n))])=.ok (.nx [some (.int N),some (.lst (aN n ss)),some (.ref c.length),v.1,v.2.1,v.2.2,some (.ref (c.length+1)),none,none]) (cG n ss c []):=by simp[bE,cG]
 have h3:=nK (g:=az 7) (s:=uC) (λi=>cG n ss c (ez (n*n) (cQ n ss) i)) (λ_ (w:Option D×Option D)=>[some (.int N),some (.lst (aN n ss)),some (.ref c.length),v.1,v.2.1,v.2.2,some (.ref (c.length+1)),w.1,w.2]) hQ (none,none) (λi hi w=>by
  obtain⟨v',hv⟩:=Vr (c:=c) (a3:=v.1) (a4:=v.2.1) (a5:=v.2.2) H hN hQ hi (I:=(i:Int)) rfl w.2
  exact⟨_,rfl,(some (.int (i:Int)),v'),hv⟩)
 obtain⟨w,h3⟩:=h3
 have e3:bY (aY (ao jS aq)) (az 7) uC [some (.int N),some (.lst (aN n ss)),some (.ref c.length),v.1,v.2.1,v.2.2,some (.ref (c.length+1)),none,none] (cG n ss c [])=.ok (.nx [some (.int N),some (.lst (aN n ss)),some (.ref c.length),v.1,v.2.1,v.2.2,some (.ref (c.length+1)),w.1,w.2]) (cG n ss c (ez (n*n) (cQ n ss) (n*n))):=by
  rw[gB,rg,R.aA]
  exact h3
 have hw:=Ql (k:=c.length+1) (c:=cG n ss c (ez (n*n) (cQ n ss) (n*n))) (Yv (M:=n*n) (f:=cQ n ss)) (Mu nn (akV _)) (by omega) Vt
 rw[Qm (aam n ss),<-hQ]at hw
 have e4:aL (aC 2 oV (ao jS (ao (ak 6) aq))) [some (.int N),some (.lst (aN n ss)),some (.ref c.length),v.1,v.2.1,v.2.2,some (.ref (c.length+1)),w.1,w.2] (cG n ss c (ez (n*n) (cQ n ss) (n*n)))=.ok (.rt (gQ (ji (n*n) (cQ n ss)))) (cG n ss c (ez (n*n) (cQ n ss) (n*n))) :=
  m5 (nR (m:=oV) (d2:=ak 6) (BY H hN hQ _ _) rfl hw)
 show bG 9 false pZ [.int N,.lst (aN n ss)] c=_
 unfold bG
 rw[abH,show cO 9 [D.int N,.lst (aN n ss)]=[some (.int N),some (.lst (aN n ss)),none,none,none,none,none,none,none]from rfl,bR e0,bR e1,bR e2,bR e3,e4,R.aA]
 dsimp only
 unfold gQ
 rw[rP,if_pos (by have:=t8 (ji (n*n) (cQ n ss));unfold gQ noRef at this;exact this)]
 congr 1
 unfold cG
 simp
end
theorem same_int(i:Int) (k:Nat) (c:aa):fG (k+1) [.int i,.int i] c=.ok (.bl true) c:=by simp[fG,lC]
theorem Bb{l:List D}{k:Nat}{c:aa}(h:∀d∈l,fG (k+1) [d,d] c=.ok (.bl true) c) (hl:l.length<sizeLine):fG (k+2) [.tup l,.tup l] c=.ok (.bl true) c:=by
 have hc:=j6 (c:=c) (g:=eW 2 (cu (az 0) (cu (az 1) e9))) (t:=aH) (a:=aC 2 (fG (k+1)) (ao (ak 0) (ao (ak 1) aq)))
  (λe=>∃v w,e=[v,w]) (λ_=>true) (λ_=>.bl true) (l.map λa=>.tup [a,a]) [none,none] [] ⟨_,_,rfl⟩ (λx hx e ⟨v,w,he⟩=>by
   have:∃d∈l,x=.tup [d,d]:=by
    obtain⟨d,hd,e⟩:=akW.mp hx
    exact⟨d,hd,e.symm⟩
   obtain⟨d,hd,rfl⟩:=this
   subst he
   refine⟨[some d,some d],by simp,⟨_,_,rfl⟩,rfl,λ_=>?_⟩
   simp[h d hd])
 have e2:((l.map λa=>D.tup [a,a]).filter λ_=>true)=l.map λa=>D.tup [a,a]:=by simp
 rw[e2,alg]at hc
 have ha:=aiE c (l.map λa=>D.tup [a,a]) (λ_=>true)
 show bG 2 false (lC (fG (k+1))) [.tup l,.tup l] c=_
 simp[lC,cK,hl]
 rw[hc]
 simp only[R.aA]
 rw[ha]
 simp
theorem T4{w:List (List Nat)}(hw:w.length<1000) (hr:∀r∈w,r.length<1000) (c:aa):fG 3 [gQ w,gQ w] c=.ok (.bl true) c:=by
 have hs:=eO (n:=1000) (by decide)
 unfold gQ
 refine Bb (k:=1) (λd hd=>?_) (by rw[ak4];omega)
 obtain⟨r,hr',rfl⟩:=akW.mp hd
 refine Bb (k:=0) (λd hd=>?_) (by have:=hr r hr';simp[nD];omega)
 obtain⟨n,_,rfl⟩:=akW.mp hd
 exact same_int _ 0 c
theorem MM:∀l:List Nat,eu (nD l)=some (l.map λn:Nat=>PyData.int (n:Int))
 |[]=>rfl
 |n::ns=>by
  show(match dN (.int (n:Int)),eu (nD ns)with|some a,some r=>some (a::r)|_,_=>none)=_
  rw[MM ns]
  rfl
theorem E7{l:List PyData}(h:∀p∈l,p.eqv p=true):PyData.eqvAll l l=true:=by
 induction l with
 |nil=>rfl
 |cons p l ih =>
  simp only[PyData.eqvAll,h p (.head _),ih (λq hq=>h q (.tail _ hq)),ang]
theorem Fe{l:List PyData}{n:Nat}(h:∀p∈l,p.depth<=n):PyData.depthAll l<=n:=by
 induction l with
 |nil=>simp[PyData.depthAll]
 |cons p l ih =>
  have h1:=h p (.head _)
  have h2:=ih (λq hq=>h q (.tail _ hq))
  simp only[PyData.depthAll]
  omega
def jb(l:List Nat):PyData:=.tuple (l.map λn:Nat=>PyData.int (n:Int))
theorem afW(l:List Nat):(jb l).eqv (jb l)=true:=by
 unfold jb
 rw[PyData.eqv]
 exact E7 λp hp=>by
  obtain⟨k,_,rfl⟩:=akW.mp hp
  simp[PyData.eqv]
theorem afX(l:List Nat):(jb l).depth<=1:=by
 unfold jb
 have:=Fe (l:=l.map λn:Nat=>PyData.int (n:Int)) (n:=0) (λp hp=>by
  obtain⟨k,_,rfl⟩:=akW.mp hp
  simp[PyData.depth])
 simp only[PyData.depth]
 omega
theorem MK:∀ls:List (List Nat),eu (ls.map λl=>D.tup (nD l))=some (ls.map jb)
 |[]=>rfl
 |l::ls=>by
  show(match dN (.tup (nD l)),eu (ls.map λl=>D.tup (nD l))with|some a,some r=>some (a::r)|_,_=>none)=_
  rw[MK ls]
  have:dN (.tup (nD l))=some (jb l):=by
   show(match eu (nD l)with|some r=>some (PyData.tuple r)|none=>none)=_
   rw[MM]
   rfl
  rw[this]
  rfl
theorem afV(n:Nat) (t:Nat->Nat->Nat) (c:aa):gM c (aP n t)=some (.tuple (((List.range n).map λi=>(List.range n).map (t i)).map jb)):=by
 show(match eu ((List.range n).map λi=>D.tup (nD ((List.range n).map (t i))))with|some r=>some (PyData.tuple r)|none=>none)=_
 have:=MK ((List.range n).map λi=>(List.range n).map (t i))
 rw[aln]at this
 rw[show((List.range n).map λi=>D.tup (nD ((List.range n).map (t i))))=(List.range n).map ((λl=>D.tup (nD l)) ∘ λi=>(List.range n).map (t i))from rfl,this]
theorem Tr(n:Nat) (t:Nat->Nat->Nat):(PyData.tuple (((List.range n).map λi=>(List.range n).map (t i)).map jb)).eqv (.tuple (((List.range n).map λi=>(List.range n).map (t i)).map jb))=true:=by
 rw[PyData.eqv]
 exact E7 λp hp=>by
  obtain⟨l,_,rfl⟩:=akW.mp hp
  exact afW l
theorem ni{x y:Int}(h1:-1000<x) (h2:x<1000) (c:aa):aU (.int x) (.int y) c=.ok (.int (x*y)) c:=by
 unfold aU
 dsimp only
 rw[if_pos (by omega)]
def jo(N G:Int):D:=if G=N+1 then .aO else .int (G*(G-1))
def iC(N G:Int):D:=.tup [.int (N*N),.int (G*(N-1)),.int (N-2+(G-1)*(G-2)),jo N G]
theorem Z5(N G:Int):noRef (iC N G)=true:=by
 unfold iC jo
 split<;>rfl
theorem Z2{n:Nat}{ss:List (Nat->Nat->Nat)}(H:Net n ss) {N G:Int}(hN:N=n) (hG:G=ss.length+2) (c:aa):uV [.int N,.lst (aN n ss)] c=.ok (iC N G) c:=by
 have n2:=H.two
 have n7:=H.iT
 have hf:=H.few
 have t4:(4:Nat)<=sizeLine:=by decide
 have hr:=Jk H hN c
 have hl:=Cd n ss c
 have e0:cY (aC 2 jU (ao (ak 0) (ao (ak 1) aq))) [some (.int N),some (.lst (aN n ss)),none,none] c=.ok (.nx [some (.int N),some (.lst (aN n ss)),none,none]) c:=by
  rw[ig,nR (m:=jU) (d1:=ak 0) (d2:=ak 1) rfl rfl hr]
  rfl
 have e1:aF 2 (au aZ (aG bg (ao (ak 1) aq)) (dC (.int 2))) [some (.int N),some (.lst (aN n ss)),none,none] c=.ok (.nx [some (.int N),some (.lst (aN n ss)),some (.int G),none]) c :=
  kD (i:=2) (eH (f:=aZ) (d2:=dC (.int 2)) (j7 (d1:=ak 1) rfl hl) rfl (by rw[kB,hG]))
 have m1:aU (.int G) (.int (G-1)) c=.ok (.int (G*(G-1))) c:=ni (by omega) (by omega) c
 have m2:aU (.int N) (.int N) c=.ok (.int (N*N)) c:=ni (by omega) (by omega) c
 have m3:aU (.int G) (.int (N-1)) c=.ok (.int (G*(N-1))) c:=ni (by omega) (by omega) c
 have m4:aU (.int (G-1)) (.int (G-2)) c=.ok (.int ((G-1)*(G-2))) c:=ni (by omega) (by omega) c
 have e2:aF 3 (vQ (aW (au bS (ak 2) (au aZ (ak 0) (dC (.int 1))))) (dC .aO) (au aU (ak 2) (au br (ak 2) (dC (.int 1))))) [some (.int N),some (.lst (aN n ss)),some (.int G),none] c=.ok (.nx [some (.int N),some (.lst (aN n ss)),some (.int G),some (jo N G)]) c:=by
  unfold jo
  by_cases h:G=N+1
  ·simp[h]
  ·simp[h,m1]
 have e3:aL (fC (ao (au aU (ak 0) (ak 0)) (ao (au aU (ak 2) (au br (ak 0) (dC (.int 1)))) (ao (au aZ (au br (ak 0) (dC (.int 2))) (au aU (au br (ak 2) (dC (.int 1))) (au br (ak 2) (dC (.int 2))))) (ao (ak 3) aq))))) [some (.int N),some (.lst (aN n ss)),some (.int G),some (jo N G)] c=.ok (.rt (iC N G)) c:=by
  simp[m2,m3,m4,t4,iC]
 refine kG (n:=4) (b:=pT) ?_ (Z5 N G) (λk h=>by unfold iC at h;cases h)
 have hb:pT=aD (cY (aC 2 jU (ao (ak 0) (ao (ak 1) aq)))) (aD (aF 2 (au aZ (aG bg (ao (ak 1) aq)) (dC (.int 2)))) (aD (aF 3 (vQ (aW (au bS (ak 2) (au aZ (ak 0) (dC (.int 1))))) (dC .aO) (au aU (ak 2) (au br (ak 2) (dC (.int 1)))))) (aL (fC (ao (au aU (ak 0) (ak 0)) (ao (au aU (ak 2) (au br (ak 0) (dC (.int 1)))) (ao (au aZ (au br (ak 0) (dC (.int 2))) (au aU (au br (ak 2) (dC (.int 1))) (au br (ak 2) (dC (.int 2))))) (ao (ak 3) aq)))))))):=rfl
 rw[hb,show cO 4 [D.int N,.lst (aN n ss)]=[some (.int N),some (.lst (aN n ss)),none,none]from rfl,bR e0,bR e1,bR e2,e3]
theorem T5(N G:Int) (c:aa):fG 3 [iC N G,iC N G] c=.ok (.bl true) c:=by
 unfold iC
 refine Bb (k:=1) (λd hd=>?_) (show(4:Nat)<sizeLine by decide)
 unfold jo at hd
 split at hd<;>simp at hd
 ·rcases hd with rfl|rfl|rfl|rfl
  ·exact same_int _ _ _
  ·exact same_int _ _ _
  ·exact same_int _ _ _
  ·simp[fG,lC]
 ·rcases hd with rfl|rfl|rfl|rfl<;>exact same_int _ _ _
def ly(n:Nat) (s:Nat->Nat->Nat):PyData:=.tuple (((List.range n).map λi=>(List.range n).map (s i)).map jb)
theorem afe(n:Nat) (t:Nat->Nat->Nat):(ly n t).depth<=2:=by
 have:=Fe (l:=((List.range n).map λi=>(List.range n).map (t i)).map jb) (n:=1) (λp hp=>by
  obtain⟨l,_,rfl⟩:=akW.mp hp
  exact afX l)
 unfold ly
 simp only[PyData.depth]
 omega
theorem ML(n:Nat):∀ss:List (Nat->Nat->Nat),eu (aN n ss)=some (ss.map (ly n))
 |[]=>rfl
 |s::ss=>by
  show(match dN (aP n s),eu (aN n ss)with|some a,some r=>some (a::r)|_,_=>none)=_
  have h:dN (aP n s)=some (ly n s):=afV n s []
  rw[h,ML n ss]
  rfl
theorem aaj(n:Nat) (ss:List (Nat->Nat->Nat)) (c:aa):gW (.lst (aN n ss)) (.lst (aN n ss)) c=.ok (.bl false) c:=by
 have h:gM c (.lst (aN n ss))=some (.list (ss.map (ly n))):=by
  show(match eu (aN n ss)with|some r=>some (PyData.list r)|none=>none)=_
  rw[ML]
 have hs:(PyData.list (ss.map (ly n))).eqv (.list (ss.map (ly n)))=true:=by
  rw[PyData.eqv]
  exact E7 λp hp=>by
   obtain⟨s,_,rfl⟩:=akW.mp hp
   exact Tr n s
 have hd:(PyData.list (ss.map (ly n))).depth<=64:=by
  have:=Fe (l:=ss.map (ly n)) (n:=63) (λp hp=>by
   obtain⟨s,_,rfl⟩:=akW.mp hp
   have:=afe n s
   omega)
  simp only[PyData.depth]
  omega
 unfold gW
 rw[h]
 dsimp only
 rw[if_pos ⟨hd,hd⟩,hs]
 rfl
def xj:ah:=(aF 2 (aC 1 oX (ao (aC 2 pe (ao (ak 0) (ao (ak 1) aq))) aq)))
def st1:ah:=(iy (aC 1 oW (ao (ak 2) aq)) (eW 2 (cu (az 3) (cu (az 4) e9))))
def st2:ah:=(aF 5 (aG yu (ao (ak 4) aq)))
def st3:ah:=(b8 (gw (d7 (aW (aC 2 (fG 3) (ao (aC 2 uU (ao (ak 3) (ao (ak 5) aq))) (ao (aC 2 uY (ao (ak 3) (ao (ak 4) aq))) aq))))) (aW (au gW (ak 5) (ak 4)))) (aL (dC (.bl false))) cg)
def uo:ah:=(aF 6 (au aZ (dC (.int 2)) (aG bg (ao (ak 4) aq))))
def jj:ah:=(aF 7 (au aU (ak 6) (au br (ak 6) (dC (.int 1)))))
def xh:ah:=(b8 (aW (au bS (ak 6) (au aZ (ak 3) (dC (.int 1))))) (aF 7 (dC .aO)) cg)
def oG:ah:=(b8 (d7 (aW (aC 2 (fG 3) (ao (aC 2 uV (ao (ak 3) (ao (ak 5) aq))) (ao (fC (ao (au aU (ak 3) (ak 3)) (ao (au aU (ak 6) (au br (ak 3) (dC (.int 1)))) (ao (au aZ (au br (ak 3) (dC (.int 2))) (au aU (au br (ak 6) (dC (.int 1))) (au br (ak 6) (dC (.int 2))))) (ao (ak 7) aq))))) aq))))) (aL (dC (.bl false))) cg)
def uI:ah:=aD xj (aD st1 (aD st2 (aD st3 (aD uo (aD jj (aD xh (oG)))))))
section
variable {a0 a1 a2 a3 a4 a5 a6 a7:Option D}
theorem g0{ns:List Int}{i x:Int}{j:Nat}{c c':aa}(hx:pe [.cF ns,.int i] c=.ok (.int x) c) (hp:oX [.int x] c=.ok (.ref j) c'):xj [some (.cF ns),some (.int i),a2,a3,a4,a5,a6,a7] c=.ok (.nx [some (.cF ns),some (.int i),some (.ref j),a3,a4,a5,a6,a7]) c':=by simp[xj,hx,hp]
theorem g1{j:Nat}{X Y:D}{c c':aa}(h:oW [.ref j] c=.ok (.tup [X,Y]) c'):st1 [a0,a1,some (.ref j),a3,a4,a5,a6,a7] c=.ok (.nx [a0,a1,some (.ref j),some X,some Y,a5,a6,a7]) c':=by
 have hd:aC 1 oW (ao (ak 2) aq) [a0,a1,some (.ref j),a3,a4,a5,a6,a7] c=.ok (.tup [X,Y]) c':=by simp[h]
 show(iy (aC 1 oW (ao (ak 2) aq)) (eW 2 (cu (az 3) (cu (az 4) e9)))) [a0,a1,some (.ref j),a3,a4,a5,a6,a7] c=_
 unfold iy
 rw[hd]
 rfl
theorem g2{l:List D}{c:aa}:st2 [a0,a1,a2,a3,some (.lst l),a5,a6,a7] c=.ok (.nx [a0,a1,a2,a3,some (.lst l),some (.lst l),a6,a7]) c:=kD (i:=5) (j7 (d1:=ak 4) rfl rfl)
theorem g3{X Y V W:D}{c:aa}(h1:uU [X,Y] c=.ok V c) (h2:uY [X,Y] c=.ok W c) (hs:fG 3 [V,W] c=.ok (.bl true) c) (hn:gW Y Y c=.ok (.bl false) c):st3 [a0,a1,a2,some X,some Y,some Y,a6,a7] c=.ok (.nx [a0,a1,a2,some X,some Y,some Y,a6,a7]) c:=by simp[st3,h1,h2,hs,hn]
theorem g4{Y:D}{k G:Int}{c:aa}(hl:bg [Y] c=.ok (.int k) c) (hG:2+k=G):uo [a0,a1,a2,a3,some Y,a5,a6,a7] c=.ok (.nx [a0,a1,a2,a3,some Y,a5,some (.int G),a7]) c:=kD (i:=6) (eH (f:=aZ) (d1:=dC (.int 2)) rfl (j7 (d1:=ak 4) rfl hl) (by rw[kB,hG]))
theorem g5{G:Int}{c:aa}(m:aU (.int G) (.int (G-1)) c=.ok (.int (G*(G-1))) c):jj [a0,a1,a2,a3,a4,a5,some (.int G),a7] c=.ok (.nx [a0,a1,a2,a3,a4,a5,some (.int G),some (.int (G*(G-1)))]) c:=by simp[jj,m]
theorem g6{N G:Int}{c:aa}:xh [a0,a1,a2,some (.int N),a4,a5,some (.int G),some (.int (G*(G-1)))] c=.ok (.nx [a0,a1,a2,some (.int N),a4,a5,some (.int G),some (jo N G)]) c:=by
 unfold jo
 by_cases h:G=N+1
 ·simp[xh,h]
 ·simp[xh,h]
theorem g7{N G:Int}{Y:D}{c:aa}(h1:uV [.int N,Y] c=.ok (iC N G) c) (hs:fG 3 [iC N G,iC N G] c=.ok (.bl true) c) (m2:aU (.int N) (.int N) c=.ok (.int (N*N)) c) (m3:aU (.int G) (.int (N-1)) c=.ok (.int (G*(N-1))) c) (m4:aU (.int (G-1)) (.int (G-2)) c=.ok (.int ((G-1)*(G-2))) c):oG [a0,a1,a2,some (.int N),a4,some Y,some (.int G),some (jo N G)] c=.ok (.nx [a0,a1,a2,some (.int N),a4,some Y,some (.int G),some (jo N G)]) c:=by
 have t4:(4:Nat)<=sizeLine:=by decide
 unfold iC at h1 hs
 simp[oG,h1,m2,m3,m4,t4,hs]
end
theorem Qw(n:Nat) (f:Nat->Nat->Bool):(ji n f).length=n:=by simp[ji]
theorem Qu{n:Nat}{f:Nat->Nat->Bool}{r:List Nat}(h:r∈ji n f):r.length<=n:=by
 obtain⟨i,_,rfl⟩:=akW.mp h
 refine alk (aoO _ _) ?_
 simp
theorem Xo{ns:List Int}{i:Int}(hi:0<=i) (c:aa) (v2 v3 v4 v5 v6 v7:Option D) :
  ∃e' c',(∃w1 w2 w3 w4 w5 w6 w7,e'=[some (.cF ns),w1,w2,w3,w4,w5,w6,w7])/\uI [some (.cF ns),some (.int i),v2,v3,v4,v5,v6,v7] c=.ok (.nx e') c':=by
 obtain⟨x,hx⟩:=ahe ns i hi c
 obtain⟨p,hp⟩:=Vx x c
 obtain⟨n,ss,c1,H,P1,t1⟩:=R3 (j:=c.length) (m:=c.length+1) (c:=c++[.lst [.int p]]) ⟨by simp,by omega,p,by simp⟩
 have n2:=H.two
 have n7:=H.iT
 have hf:=H.few
 have nn:n*n<50:=al4 (am1 n7 n7) (by decide)
 obtain⟨N,hN⟩:∃N:Int,N=(n:Int):=⟨_,rfl⟩
 rw[<-hN]at t1
 obtain⟨G,hG⟩:∃G:Int,G=(ss.length:Int)+2:=⟨_,rfl⟩
 have hw:=T4 (w:=ji (n*n) (cQ n ss)) (by rw[Qw];omega) (λr hr=>by have:=Qu hr;omega) c1
 refine⟨[some (.cF ns),some (.int i),some (.ref c.length),some (.int N),some (.lst (aN n ss)),some (.lst (aN n ss)),some (.int G),some (jo N G)],c1,⟨_,_,_,_,_,_,_,rfl⟩,?_⟩
 unfold uI
 exact(bR (g0 hx hp)).trans ((bR (g1 t1)).trans ((bR g2).trans ((bR (g3 (aal H hN c1) (abG H hN c1) hw (aaj n ss c1))).trans ((bR (g4 (Cd n ss c1) (by omega))).trans ((bR (g5 (ni (by omega) (by omega) c1))).trans ((bR g6).trans (g7 (Z2 H hN hG c1) (T5 N G c1) (ni (by omega) (by omega) c1) (ni (by omega) (by omega) c1) (ni (by omega) (by omega) c1))))))))
theorem abI(ns:List Int) (hl:ns.length<=63):∃c,u5 [.cF ns] []=.ok (.bl true) c:=by
 obtain⟨e',c',⟨w1,w2,w3,w4,w5,w6,w7,rfl⟩,hf⟩:=Mi (g:=az 1) (s:=uI)
  (λe=>∃w1 w2 w3 w4 w5 w6 w7,e=[some (.cF ns),w1,w2,w3,w4,w5,w6,w7]) (aT 0 3) [some (.cF ns),none,none,none,none,none,none,none] [] ⟨_,_,_,_,_,_,_,rfl⟩ (λt ht e c ⟨w1,w2,w3,w4,w5,w6,w7,he⟩=>by
   subst he
   obtain⟨i,rfl,i0,i1⟩:=uR ht
   obtain⟨e',c',ie,ho⟩:=Xo (ns:=ns) i0 c w2 w3 w4 w5 w6 w7
   exact⟨_,e',_,c',rfl,ho,ie⟩)
 have hb2:tS=aD (bY (aY (ao (dC (.int 3)) aq)) (az 1) uI) (aL (dC (.bl true))):=rfl
 have hsr:aY (ao (dC (.int 3)) aq) [some (.cF ns),none,none,none,none,none,none,none] []=.ok ⟨aT 0 3,λ_=>True⟩ []:=by
  unfold aY
  simp
 have e1:bY (aY (ao (dC (.int 3)) aq)) (az 1) uI [some (.cF ns),none,none,none,none,none,none,none] []=.ok (.nx [some (.cF ns),w1,w2,w3,w4,w5,w6,w7]) c':=by
  rw[gB,hsr,R.aA]
  exact hf
 refine⟨c'.take 0,?_⟩
 unfold u5 bG
 rw[show cO 8 [D.cF ns]=[some (.cF ns),none,none,none,none,none,none,none]from rfl,hb2,bR e1]
 rfl
end Ev
namespace Ev
open PySem L2 PyProof.Rows
theorem all_mk{l:PySem.W.OpenLaw}{w:World}{K:PySem.W.Frag}{h:Heap}{mg:Str->Option Value}{fa:Addr}{zJ zI zP za yZ zM zN zK y9 zf zO zL zb ze zc zd zH zy zj zg zq zh zx zF zu zA zk zC zD zw zl zv zz zG zp zm zE zB zo E5:Addr}(X:K.In h) (G:h.Ns mainGlobals mg) (hfa:mg "law"=some (.ref fa))
  {Zb aiv Za aiu Zj aiB YC ahZ YA ahX Zf aiy Zh aiz Zc aiw YB ahY YI ah4 Zi aiA Zd aix YD ah0 YH ah3 YE ah1 YF ah2 Y8 ais YX aij YL ah7 YJ ah5 YS aid YK ah6 YW aii Y6 aiq YT aie YZ ail YM ah8 Y3 ain Y4 aio YV aih YN ah9 YU aif YY aik Y7 air YR aic YO aia Y5 aip Y0 aim YQ aib Y9 ait:Option Addr}{SY SX S8 Sg Se S4 S6 S0 Sf Sn S7 S3 Sh Sm Si Sj SV SI Su So SA Ss SH SR SD SK Sv SN SO SG Sw SE SJ SS Sz Sx SQ SM Sy SW:Array (Option Value)}{ZT acC afN Wh NO agK ZS acB afM Wg NN agJ ZZ acI afT Wn NV agQ Zm ab0 afi VF Nc age Zk abY afg VD Na agc ZW acF afQ Wk NR agN ZX acG afR Wl NS agO ZU acD afO Wi NP agL Zl abZ afh VE Nb agd Zr ab5 afn VL Ni agj ZY acH afS Wm NT agP ZV acE afP Wj NQ agM Zn ab1 afj VG Nd agf Zq ab4 afm VJ Nh agi Zo ab2 afk VH Nf agg Zp ab3 afl VI Ng agh ZQ acz afK We NK agH ZH acn afB VZ Nz agy Zu ab8 afq VO Nl agm Zs ab6 afo VM Nj agk ZC ach afw VU Nt agt Zt ab7 afp VN Nk agl ZG acm afA VY Ny agx ZO acw afI Wa NI agF ZD aci afx VV Nu agu ZJ acp afD V5 NC agA Zv ab9 afr VP Nm agn ZL acs afF V7 NF agC ZM acu afG V8 NG agD ZF ack afz VX Nx agw Zw acd afs VQ Nn ago ZE acj afy VW Nv agv ZI aco afC V0 NB agz ZP acy afJ Wb NJ agG Zz acg afv VT Nr ags Zx ace aft VR Np agp ZN acv afH V9 NH agE ZK acq afE V6 ND agB Zy acf afu VS Nq agq ZR acA afL Wf NL agI:Value}
  (mq:PySem.W.nsIn K mainGlobals "is_whole"=some (some (.ref zJ))) (CV:K.lookup zJ=some ⟨ZT,Zb,.func (PySem.W.fnOf "is_whole" "is_whole" (cj rC) (bX rC) (aQ rC) .none acC afN Wh aiv NO agK),SY⟩) (GI:PySem.W.codeIn K NO "is_whole"=true) (DF:PySem.W.keepIn K (.ref zJ)=true)
  (mj:PySem.W.nsIn K mainGlobals "is_whole_within"=some (some (.ref zI))) (CU:K.lookup zI=some ⟨ZS,Za,.func (PySem.W.fnOf "is_whole_within" "is_whole_within" (cj rB) (bX rB) (aQ rB) .none acB afM Wg aiu NN agJ),SX⟩) (GH:PySem.W.codeIn K NN "is_whole_within"=true) (DE:PySem.W.keepIn K (.ref zI)=true)
  (mF:PySem.W.nsIn K mainGlobals "agree_somewhere"=some (some (.ref zP))) (C2:K.lookup zP=some ⟨ZZ,Zj,.func (PySem.W.fnOf "agree_somewhere" "agree_somewhere" (cj rJ) (bX rJ) (aQ rJ) .none acI afT Wn aiB NV agQ),S8⟩) (GP:PySem.W.codeIn K NV "agree_somewhere"=true) (DL:PySem.W.keepIn K (.ref zP)=true)
  (lF:PySem.W.nsIn K mainGlobals "row_where"=some (some (.ref za))) (Cn:K.lookup za=some ⟨Zm,YC,.func (PySem.W.fnOf "row_where" "row_where" (cj qB) (bX qB) (aQ qB) .none ab0 afi VF ahZ Nc age),Sg⟩) (F7:PySem.W.codeIn K Nc "row_where"=true) (C5:PySem.W.keepIn K (.ref za)=true)
  (lD:PySem.W.nsIn K mainGlobals "web_where"=some (some (.ref yZ))) (Ck:K.lookup yZ=some ⟨Zk,YA,.func (PySem.W.fnOf "web_where" "web_where" (cj qz) (bX qz) (aQ qz) .none abY afg VD ahX Na agc),Se⟩) (F5:PySem.W.codeIn K Na "web_where"=true) (C3:PySem.W.keepIn K (.ref yZ)=true)
  (mC:PySem.W.nsIn K mainGlobals "holds_each_once"=some (some (.ref zM))) (CZ:K.lookup zM=some ⟨ZW,Zf,.func (PySem.W.fnOf "holds_each_once" "holds_each_once" (cj rF) (bX rF) (aQ rF) .none acF afQ Wk aiy NR agN),S4⟩) (GL:PySem.W.codeIn K NR "holds_each_once"=true) (DI:PySem.W.keepIn K (.ref zM)=true)
  (mD:PySem.W.nsIn K mainGlobals "column_of"=some (some (.ref zN))) (C0:K.lookup zN=some ⟨ZX,Zh,.func (PySem.W.fnOf "column_of" "column_of" (cj rG) (bX rG) (aQ rG) .none acG afR Wl aiz NS agO),S6⟩) (GN:PySem.W.codeIn K NS "column_of"=true) (DJ:PySem.W.keepIn K (.ref zN)=true)
  (mw:PySem.W.nsIn K mainGlobals "is_square"=some (some (.ref zK))) (CW:K.lookup zK=some ⟨ZU,Zc,.func (PySem.W.fnOf "is_square" "is_square" (cj rD) (bX rD) (aQ rD) .none acD afO Wi aiw NP agL),S0⟩) (GJ:PySem.W.codeIn K NP "is_square"=true) (DG:PySem.W.keepIn K (.ref zK)=true)
  (lE:PySem.W.nsIn K mainGlobals "sign_in"=some (some (.ref y9))) (Cm:K.lookup y9=some ⟨Zl,YB,.func (PySem.W.fnOf "sign_in" "sign_in" (cj qA) (bX qA) (aQ qA) .none abZ afh VE ahY Nb agd),Sf⟩) (F6:PySem.W.codeIn K Nb "sign_in"=true) (C4:PySem.W.keepIn K (.ref y9)=true)
  (lK:PySem.W.nsIn K mainGlobals "lie_across"=some (some (.ref zf))) (Cs:K.lookup zf=some ⟨Zr,YI,.func (PySem.W.fnOf "lie_across" "lie_across" (cj qF) (bX qF) (aQ qF) .none ab5 afn VL ah4 Ni agj),Sn⟩) (Ge:PySem.W.codeIn K Ni "lie_across"=true) (Dc:PySem.W.keepIn K (.ref zf)=true)
  (mE:PySem.W.nsIn K mainGlobals "are_each_two_across"=some (some (.ref zO))) (C1:K.lookup zO=some ⟨ZY,Zi,.func (PySem.W.fnOf "are_each_two_across" "are_each_two_across" (cj rH) (bX rH) (aQ rH) .none acH afS Wm aiA NT agP),S7⟩) (GO:PySem.W.codeIn K NT "are_each_two_across"=true) (DK:PySem.W.keepIn K (.ref zO)=true)
  (mz:PySem.W.nsIn K mainGlobals "is_net"=some (some (.ref zL))) (CY:K.lookup zL=some ⟨ZV,Zd,.func (PySem.W.fnOf "is_net" "is_net" (cj rE) (bX rE) (aQ rE) .none acE afP Wj aix NQ agM),S3⟩) (GK:PySem.W.codeIn K NQ "is_net"=true) (DH:PySem.W.keepIn K (.ref zL)=true)
  (lG:PySem.W.nsIn K mainGlobals "require_net"=some (some (.ref zb))) (Co:K.lookup zb=some ⟨Zn,YD,.func (PySem.W.fnOf "require_net" "require_net" (cj qC) (bX qC) (aQ qC) .none ab1 afj VG ah0 Nd agf),Sh⟩) (F8:PySem.W.codeIn K Nd "require_net"=true) (C6:PySem.W.keepIn K (.ref zb)=true)
  (lJ:PySem.W.nsIn K mainGlobals "lines_through"=some (some (.ref ze))) (Cr:K.lookup ze=some ⟨Zq,YH,.func (PySem.W.fnOf "lines_through" "lines_through" (cj qE) (bX qE) (aQ qE) .none ab4 afm VJ ah3 Nh agi),Sm⟩) (Gb:PySem.W.codeIn K Nh "lines_through"=true) (C9:PySem.W.keepIn K (.ref ze)=true)
  (lH:PySem.W.nsIn K mainGlobals "net_web"=some (some (.ref zc))) (Cp:K.lookup zc=some ⟨Zo,YE,.func (PySem.W.fnOf "net_web" "net_web" (cj oH) (bX oH) (aQ oH) .none ab2 afk VH ah1 Nf agg),Si⟩) (F9:PySem.W.codeIn K Nf "net_web"=true) (C7:PySem.W.keepIn K (.ref zc)=true)
  (lI:PySem.W.nsIn K mainGlobals "net_numbers"=some (some (.ref zd))) (Cq:K.lookup zd=some ⟨Zp,YF,.func (PySem.W.fnOf "net_numbers" "net_numbers" (cj qD) (bX qD) (aQ qD) .none ab3 afl VI ah2 Ng agh),Sj⟩) (Ga:PySem.W.codeIn K Ng "net_numbers"=true) (C8:PySem.W.keepIn K (.ref zd)=true)
  (mh:PySem.W.nsIn K mainGlobals "_law_cell_at"=some (some (.ref zH))) (CS:K.lookup zH=some ⟨ZQ,Y8,.func (PySem.W.fnOf "_law_cell_at" "_law_cell_at" (cj rq) (bX rq) (aQ rq) .none acz afK We ais NK agH),SV⟩) (GF:PySem.W.codeIn K NK "_law_cell_at"=true) (DB:PySem.W.keepIn K (.ref zH)=true)
  (lX:PySem.W.nsIn K mainGlobals "_law_pot"=some (some (.ref zy))) (CI:K.lookup zy=some ⟨ZH,YX,.func (PySem.W.fnOf "_law_pot" "_law_pot" (cj qT) (bX qT) (aQ qT) .none acn afB VZ aij Nz agy),SI⟩) (Gv:PySem.W.codeIn K Nz "_law_pot"=true) (Dr:PySem.W.keepIn K (.ref zy)=true)
  (lO:PySem.W.nsIn K mainGlobals "_law_take"=some (some (.ref zj))) (Cv:K.lookup zj=some ⟨Zu,YL,.func (PySem.W.fnOf "_law_take" "_law_take" (cj qI) (bX qI) (aQ qI) .none ab8 afq VO ah7 Nl agm),Su⟩) (Gh:PySem.W.codeIn K Nl "_law_take"=true) (Df:PySem.W.keepIn K (.ref zj)=true)
  (lM:PySem.W.nsIn K mainGlobals "_law_whole"=some (some (.ref zg))) (Ct:K.lookup zg=some ⟨Zs,YJ,.func (PySem.W.fnOf "_law_whole" "_law_whole" (cj qG) (bX qG) (aQ qG) .none ab6 afo VM ah5 Nj agk),So⟩) (Gf:PySem.W.codeIn K Nj "_law_whole"=true) (Dd:PySem.W.keepIn K (.ref zg)=true)
  (kc:PySem.W.nsIn K mainGlobals "_law_same"=some (some (.ref zq))) (CC:K.lookup zq=some ⟨ZC,YS,.func (PySem.W.fnOf "_law_same" "_law_same" (cj qO) (bX qO) (aQ qO) .none ach afw VU aid Nt agt),SA⟩) (Gp:PySem.W.codeIn K Nt "_law_same"=true) (Dl:PySem.W.keepIn K (.ref zq)=true)
  (lN:PySem.W.nsIn K mainGlobals "_law_web_by"=some (some (.ref zh))) (Cu:K.lookup zh=some ⟨Zt,YK,.func (PySem.W.fnOf "_law_web_by" "_law_web_by" (cj qH) (bX qH) (aQ qH) .none ab7 afp VN ah6 Nk agl),Ss⟩) (Gg:PySem.W.codeIn K Nk "_law_web_by"=true) (De:PySem.W.keepIn K (.ref zh)=true)
  (lW:PySem.W.nsIn K mainGlobals "_law_prime"=some (some (.ref zx))) (CH:K.lookup zx=some ⟨ZG,YW,.func (PySem.W.fnOf "_law_prime" "_law_prime" (cj qS) (bX qS) (aQ qS) .none acm afA VY aii Ny agx),SH⟩) (Gu:PySem.W.codeIn K Ny "_law_prime"=true) (Dq:PySem.W.keepIn K (.ref zx)=true)
  (l8:PySem.W.nsIn K mainGlobals "_law_degree"=some (some (.ref zF))) (CP:K.lookup zF=some ⟨ZO,Y6,.func (PySem.W.fnOf "_law_degree" "_law_degree" (cj rj) (bX rj) (aQ rj) .none acw afI Wa aiq NI agF),SR⟩) (GC:PySem.W.codeIn K NI "_law_degree"=true) (Dz:PySem.W.keepIn K (.ref zF)=true)
  (lT:PySem.W.nsIn K mainGlobals "_law_row"=some (some (.ref zu))) (CD:K.lookup zu=some ⟨ZD,YT,.func (PySem.W.fnOf "_law_row" "_law_row" (cj qP) (bX qP) (aQ qP) .none aci afx VV aie Nu agu),SD⟩) (Gq:PySem.W.codeIn K Nu "_law_row"=true) (Dm:PySem.W.keepIn K (.ref zu)=true)
  (lZ:PySem.W.nsIn K mainGlobals "_law_number"=some (some (.ref zA))) (CK:K.lookup zA=some ⟨ZJ,YZ,.func (PySem.W.fnOf "_law_number" "_law_number" (cj qV) (bX qV) (aQ qV) .none acp afD V5 ail NC agA),SK⟩) (Gx:PySem.W.codeIn K NC "_law_number"=true) (Dt:PySem.W.keepIn K (.ref zA)=true)
  (j9:PySem.W.nsIn K mainGlobals "_law_sums_product"=some (some (.ref zk))) (Cw:K.lookup zk=some ⟨Zv,YM,.func (PySem.W.fnOf "_law_sums_product" "_law_sums_product" (cj qJ) (bX qJ) (aQ qJ) .none ab9 afr VP ah8 Nm agn),Sv⟩) (Gi:PySem.W.codeIn K Nm "_law_sums_product"=true) (Dg:PySem.W.keepIn K (.ref zk)=true)
  (l5:PySem.W.nsIn K mainGlobals "_law_heads"=some (some (.ref zC))) (CM:K.lookup zC=some ⟨ZL,Y3,.func (PySem.W.fnOf "_law_heads" "_law_heads" (cj qX) (bX qX) (aQ qX) .none acs afF V7 ain NF agC),SN⟩) (Gz:PySem.W.codeIn K NF "_law_heads"=true) (Dv:PySem.W.keepIn K (.ref zC)=true)
  (l6:PySem.W.nsIn K mainGlobals "_law_form"=some (some (.ref zD))) (CN:K.lookup zD=some ⟨ZM,Y4,.func (PySem.W.fnOf "_law_form" "_law_form" (cj qY) (bX qY) (aQ qY) .none acu afG V8 aio NG agD),SO⟩) (GA:PySem.W.codeIn K NG "_law_form"=true) (Dw:PySem.W.keepIn K (.ref zD)=true)
  (lV:PySem.W.nsIn K mainGlobals "_law_product"=some (some (.ref zw))) (CG:K.lookup zw=some ⟨ZF,YV,.func (PySem.W.fnOf "_law_product" "_law_product" (cj qR) (bX qR) (aQ qR) .none ack afz VX aih Nx agw),SG⟩) (Gs:PySem.W.codeIn K Nx "_law_product"=true) (Dp:PySem.W.keepIn K (.ref zw)=true)
  (lP:PySem.W.nsIn K mainGlobals "_law_sum"=some (some (.ref zl))) (Cy:K.lookup zl=some ⟨Zw,YN,.func (PySem.W.fnOf "_law_sum" "_law_sum" (cj qK) (bX qK) (aQ qK) .none acd afs VQ ah9 Nn ago),Sw⟩) (Gj:PySem.W.codeIn K Nn "_law_sum"=true) (Dh:PySem.W.keepIn K (.ref zl)=true)
  (lU:PySem.W.nsIn K mainGlobals "_law_products_of"=some (some (.ref zv))) (CF:K.lookup zv=some ⟨ZE,YU,.func (PySem.W.fnOf "_law_products_of" "_law_products_of" (cj qQ) (bX qQ) (aQ qQ) .none acj afy VW aif Nv agv),SE⟩) (Gr:PySem.W.codeIn K Nv "_law_products_of"=true) (Dn:PySem.W.keepIn K (.ref zv)=true)
  (lY:PySem.W.nsIn K mainGlobals "_law_order"=some (some (.ref zz))) (CJ:K.lookup zz=some ⟨ZI,YY,.func (PySem.W.fnOf "_law_order" "_law_order" (cj qU) (bX qU) (aQ qU) .none aco afC V0 aik NB agz),SJ⟩) (Gw:PySem.W.codeIn K NB "_law_order"=true) (Ds:PySem.W.keepIn K (.ref zz)=true)
  (l9:PySem.W.nsIn K mainGlobals "_law_cycled"=some (some (.ref zG))) (CQ:K.lookup zG=some ⟨ZP,Y7,.func (PySem.W.fnOf "_law_cycled" "_law_cycled" (cj rm) (bX rm) (aQ rm) .none acy afJ Wb air NJ agG),SS⟩) (GD:PySem.W.codeIn K NJ "_law_cycled"=true) (DA:PySem.W.keepIn K (.ref zG)=true)
  (lS:PySem.W.nsIn K mainGlobals "_law_six"=some (some (.ref zp))) (CB:K.lookup zp=some ⟨Zz,YR,.func (PySem.W.fnOf "_law_six" "_law_six" (cj qN) (bX qN) (aQ qN) .none acg afv VT aic Nr ags),Sz⟩) (Gn:PySem.W.codeIn K Nr "_law_six"=true) (Dk:PySem.W.keepIn K (.ref zp)=true)
  (lQ:PySem.W.nsIn K mainGlobals "_law_square"=some (some (.ref zm))) (Cz:K.lookup zm=some ⟨Zx,YO,.func (PySem.W.fnOf "_law_square" "_law_square" (cj qL) (bX qL) (aQ qL) .none ace aft VR aia Np agp),Sx⟩) (Gk:PySem.W.codeIn K Np "_law_square"=true) (Di:PySem.W.keepIn K (.ref zm)=true)
  (l7:PySem.W.nsIn K mainGlobals "_law_field_squares"=some (some (.ref zE))) (CO:K.lookup zE=some ⟨ZN,Y5,.func (PySem.W.fnOf "_law_field_squares" "_law_field_squares" (cj qZ) (bX qZ) (aQ qZ) .none acv afH V9 aip NH agE),SQ⟩) (GB:PySem.W.codeIn K NH "_law_field_squares"=true) (Dy:PySem.W.keepIn K (.ref zE)=true)
  (l0:PySem.W.nsIn K mainGlobals "_law_net"=some (some (.ref zB))) (CL:K.lookup zB=some ⟨ZK,Y0,.func (PySem.W.fnOf "_law_net" "_law_net" (cj qW) (bX qW) (aQ qW) .none acq afE V6 aim ND agB),SM⟩) (Gy:PySem.W.codeIn K ND "_law_net"=true) (Du:PySem.W.keepIn K (.ref zB)=true)
  (lR:PySem.W.nsIn K mainGlobals "_law_some_net"=some (some (.ref zo))) (CA:K.lookup zo=some ⟨Zy,YQ,.func (PySem.W.fnOf "_law_some_net" "_law_some_net" (cj qM) (bX qM) (aQ qM) .none acf afu VS aib Nq agq),Sy⟩) (Gm:PySem.W.codeIn K Nq "_law_some_net"=true) (Dj:PySem.W.keepIn K (.ref zo)=true)
  (kg:PySem.W.nsIn K mainGlobals "law"=some (some (.ref E5))) (CT:K.lookup E5=some ⟨ZR,Y9,.func (PySem.W.fnOf "law" "law" (cj rA) (bX rA) (aQ rA) .none acA afL Wf ait NL agI),SW⟩) (GG:PySem.W.codeIn K NL "law"=true) (DC:PySem.W.keepIn K (.ref E5)=true)
  (AK:PySem.W.nsIn K mainGlobals "all"=some none)
  (AJ:PySem.W.nsIn K mainGlobals "any"=some none)
  (AI:PySem.W.nsIn K mainGlobals "bool"=some none)
  (AH:PySem.W.nsIn K mainGlobals "enumerate"=some none)
  (AG:PySem.W.nsIn K mainGlobals "int"=some none)
  (AF:PySem.W.nsIn K mainGlobals "isinstance"=some none)
  (AE:PySem.W.nsIn K mainGlobals "len"=some none)
  (AD:PySem.W.nsIn K mainGlobals "list"=some none)
  (AB:PySem.W.nsIn K mainGlobals "max"=some none)
  (AA:PySem.W.nsIn K mainGlobals "range"=some none)
  (Az:PySem.W.nsIn K mainGlobals "set"=some none)
  (Ay:PySem.W.nsIn K mainGlobals "sorted"=some none)
  (Ax:PySem.W.nsIn K mainGlobals "str"=some none)
  (Aw:PySem.W.nsIn K mainGlobals "tuple"=some none)
  (Av:PySem.W.nsIn K mainGlobals "zip"=some none)
  {ue:Tok}(AL:PySem.W.nsIn K mainGlobals "MOST_SIGNS"=some (some (.int 7 ue)))
  {uf:Tok}(AM:PySem.W.nsIn K mainGlobals "LEAST_IN_NET"=some (some (.int 2 uf)))
  {mS mR:Addr}(oB:PySem.W.tabIn K "net_web"=some (mS,mR)) (qq:PySem.W.codeHdIn K mS mR=true)
  (qt:uh K=true)
  : ∃fd:FuncData,(∀(s:Shared) (v:Value),BindsTo s fd ⟨[v],[]⟩ [("script",v)])/\∀base:Heap,K.In base->base.Ns mainGlobals mg->bI l.prog w K mg base bB 8 fa fd ["script"] (bM K 1 u5):=by
 have e:=hfa.symm.trans (ak5 X G kg)
 cases e
 have O6:=cA (st:=rC) CV GI DF
 have p9:=O6.binds (ps:=["thing"]) λ_ _ _ _ _ _ us hl=>match us,hl with|[_],_=>rfl
 have O5:=cA (st:=rB) CU GH DE
 have nX:=O5.binds (ps:=["thing","least","most"]) λ_ _ _ _ _ _ us hl=>match us,hl with|[_,_,_],_=>rfl
 have Pd:=cA (st:=rJ) C2 GP DL
 have qc:=Pd.binds (ps:=["one","other"]) λ_ _ _ _ _ _ us hl=>match us,hl with|[_,_],_=>rfl
 have OA:=cA (st:=qB) Cn F7 C5
 have sY:=OA.binds (ps:=["many","one","are_tied"]) λ_ _ _ _ _ _ us hl=>match us,hl with|[_,_,_],_=>rfl
 have Ox:=cA (st:=qz) Ck F5 C3
 have sX:=Ox.binds (ps:=["many","are_tied"]) λ_ _ _ _ _ _ us hl=>match us,hl with|[_,_],_=>rfl
 have O9:=cA (st:=rF) CZ GL DI
 have tU:=O9.binds (ps:=["thing","many"]) λ_ _ _ _ _ _ us hl=>match us,hl with|[_,_],_=>rfl
 have Pa:=cA (st:=rG) C0 GN DJ
 have tV:=Pa.binds (ps:=["rows","y"]) λ_ _ _ _ _ _ us hl=>match us,hl with|[_,_],_=>rfl
 have O7:=cA (st:=rD) CW GJ DG
 have tT:=O7.binds (ps:=["thing"]) λ_ _ _ _ _ _ us hl=>match us,hl with|[_],_=>rfl
 have Oz:=cA (st:=qA) Cm F6 C4
 have pR:=Oz.binds (ps:=["square","cell"]) λ_ _ _ _ _ _ us hl=>match us,hl with|[_,_],_=>rfl
 have OF:=cA (st:=qF) Cs Ge Dc
 have pV:=OF.binds (ps:=["one","other"]) λ_ _ _ _ _ _ us hl=>match us,hl with|[_,_],_=>rfl
 have Pc:=cA (st:=rH) C1 GO DK
 have qb:=Pc.binds (ps:=["squares"]) λ_ _ _ _ _ _ us hl=>match us,hl with|[_],_=>rfl
 have O8:=cA (st:=rE) CY GK DH
 have qa:=O8.binds (ps:=["n","thing"]) λ_ _ _ _ _ _ us hl=>match us,hl with|[_,_],_=>rfl
 have OB:=cA (st:=qC) Co F8 C6
 have sZ:=OB.binds (ps:=["n","thing"]) λ_ _ _ _ _ _ us hl=>match us,hl with|[_,_],_=>rfl
 have OE:=cA (st:=qE) Cr Gb C9
 have pU:=OE.binds (ps:=["n","squares","cell"]) λ_ _ _ _ _ _ us hl=>match us,hl with|[_,_,_],_=>rfl
 have OC:=cA (st:=oH) Cp F9 C7
 have pS:=OC.binds (ps:=["n","squares"]) λ_ _ _ _ _ _ us hl=>match us,hl with|[_,_],_=>rfl
 have OD:=cA (st:=qD) Cq Ga C8
 have pT:=OD.binds (ps:=["n","squares"]) λ_ _ _ _ _ _ us hl=>match us,hl with|[_,_],_=>rfl
 have O3:=cA (st:=rq) CS GF DB
 have p8:=O3.binds (ps:=["script","k"]) λ_ _ _ _ _ _ us hl=>match us,hl with|[_,_],_=>rfl
 have OU:=cA (st:=qT) CI Gv Dr
 have pY:=OU.binds (ps:=["cell"]) λ_ _ _ _ _ _ us hl=>match us,hl with|[_],_=>rfl
 have OI:=cA (st:=qI) Cv Gh Df
 have pW:=OI.binds (ps:=["pot","far"]) λ_ _ _ _ _ _ us hl=>match us,hl with|[_,_],_=>rfl
 have OG:=cA (st:=qG) Ct Gf Dd
 have tw:=OG.binds (ps:=["found"]) λ_ _ _ _ _ _ us hl=>match us,hl with|[_],_=>rfl
 have OP:=cA (st:=qO) CC Gp Dl
 have lC:=OP.binds (ps:=["found","due"]) λ_ _ _ _ _ _ us hl=>match us,hl with|[_,_],_=>rfl
 have OH:=cA (st:=qH) Cu Gg De
 have tE:=OH.binds (ps:=["many","pairs"]) λ_ _ _ _ _ _ us hl=>match us,hl with|[_,_],_=>rfl
 have OT:=cA (st:=qS) CH Gu Dq
 have tM:=OT.binds (ps:=["q"]) λ_ _ _ _ _ _ us hl=>match us,hl with|[_],_=>rfl
 have O1:=cA (st:=rj) CP GC Dz
 have tQ:=O1.binds (ps:=["q"]) λ_ _ _ _ _ _ us hl=>match us,hl with|[_],_=>rfl
 have OQ:=cA (st:=qP) CD Gq Dm
 have tK:=OQ.binds (ps:=["number","p","many"]) λ_ _ _ _ _ _ us hl=>match us,hl with|[_,_,_],_=>rfl
 have OW:=cA (st:=qV) CK Gx Dt
 have tO:=OW.binds (ps:=["row","p"]) λ_ _ _ _ _ _ us hl=>match us,hl with|[_,_],_=>rfl
 have OJ:=cA (st:=qJ) Cw Gi Dg
 have lB:=OJ.binds (ps:=["one","other","p"]) λ_ _ _ _ _ _ us hl=>match us,hl with|[_,_,_],_=>rfl
 have OY:=cA (st:=qX) CM Gz Dv
 have nW:=OY.binds (ps:=["many","p"]) λ_ _ _ _ _ _ us hl=>match us,hl with|[_,_],_=>rfl
 have OZ:=cA (st:=qY) CN GA Dw
 have tP:=OZ.binds (ps:=["q"]) λ_ _ _ _ _ _ us hl=>match us,hl with|[_],_=>rfl
 have OS:=cA (st:=qR) CG Gs Dp
 have tL:=OS.binds (ps:=["q","form","one","other"]) λ_ _ _ _ _ _ us hl=>match us,hl with|[_,_,_,_],_=>rfl
 have OL:=cA (st:=qK) Cy Gj Dh
 have tF:=OL.binds (ps:=["q","one","other","sign"]) λ_ _ _ _ _ _ us hl=>match us,hl with|[_,_,_,_],_=>rfl
 have OR:=cA (st:=qQ) CF Gr Dn
 have pX:=OR.binds (ps:=["q"]) λ_ _ _ _ _ _ us hl=>match us,hl with|[_],_=>rfl
 have OV:=cA (st:=qU) CJ Gw Ds
 have tN:=OV.binds (ps:=["pot","many"]) λ_ _ _ _ _ _ us hl=>match us,hl with|[_,_],_=>rfl
 have O2:=cA (st:=rm) CQ GD DA
 have tR:=O2.binds (ps:=["pot","n"]) λ_ _ _ _ _ _ us hl=>match us,hl with|[_,_],_=>rfl
 have OO:=cA (st:=qN) CB Gn Dk
 have tH:=OO.binds (ps:=["pot"]) λ_ _ _ _ _ _ us hl=>match us,hl with|[_],_=>rfl
 have OM:=cA (st:=qL) Cz Gk Di
 have tG:=OM.binds (ps:=["pot","n"]) λ_ _ _ _ _ _ us hl=>match us,hl with|[_,_],_=>rfl
 have O0:=cA (st:=qZ) CO GB Dy
 have p7:=O0.binds (ps:=["q"]) λ_ _ _ _ _ _ us hl=>match us,hl with|[_],_=>rfl
 have OX:=cA (st:=qW) CL Gy Du
 have pZ:=OX.binds (ps:=["n","squares"]) λ_ _ _ _ _ _ us hl=>match us,hl with|[_,_],_=>rfl
 have ON:=cA (st:=qM) CA Gm Dj
 have nU:=ON.binds (ps:=["pot"]) λ_ _ _ _ _ _ us hl=>match us,hl with|[_],_=>rfl
 have O4:=cA (st:=rA) CT GG DC
 have tS:=O4.binds (ps:=["script"]) λ_ _ _ _ _ _ us hl=>match us,hl with|[_],_=>rfl
 let T:Tx K mg:={
  mq:=zJ,EX:=_,FL:=⟨O6,ak5 X G mq,p9⟩,aaY:=mq,
  mj:=zI,EW:=_,zY:=⟨O5,ak5 X G mj,nX⟩,aaX:=mj,
  mF:=zP,E4:=_,FT:=⟨Pd,ak5 X G mF,qc⟩,aa4:=mF,
  lF:=za,Ep:=_,Fg:=⟨OA,ak5 X G lF,sY⟩,aau:=lF,
  lD:=yZ,Em:=_,Ff:=⟨Ox,ak5 X G lD,sX⟩,aas:=lD,
  mC:=zM,E1:=_,zZ:=⟨O9,ak5 X G mC,tU⟩,aa1:=mC,
  mD:=zN,E2:=_,FP:=⟨Pa,ak5 X G mD,tV⟩,aa2:=mD,
  mw:=zK,EY:=_,FN:=⟨O7,ak5 X G mw,tT⟩,aaZ:=mw,
  lE:=y9,Eo:=_,vM:=⟨Oz,ak5 X G lE,pR⟩,aat:=lE,
  lK:=zf,Ew:=_,Fp:=⟨OF,ak5 X G lK,pV⟩,aay:=lK,
  mE:=zO,E3:=_,FQ:=⟨Pc,ak5 X G mE,qb⟩,aa3:=mE,
  mz:=zL,EZ:=_,FO:=⟨O8,ak5 X G mz,qa⟩,aa0:=mz,
  lG:=zb,Er:=_,zU:=⟨OB,ak5 X G lG,sZ⟩,aav:=lG,
  lJ:=ze,Eu:=_,Fo:=⟨OE,ak5 X G lJ,pU⟩,aax:=lJ,
  lH:=zc,Es:=_,Fi:=⟨OC,ak5 X G lH,pS⟩,Kv:=lH,
  lI:=zd,Et:=_,Fj:=⟨OD,ak5 X G lI,pT⟩,aaw:=lI,
  mh:=zH,EU:=_,FJ:=⟨O3,ak5 X G mh,p8⟩,aaV:=mh,
  lX:=zy,EJ:=_,FE:=⟨OU,ak5 X G lX,pY⟩,aaM:=lX,
  lO:=zj,EA:=_,j4:=⟨OI,ak5 X G lO,pW⟩,aaB:=lO,
  lM:=zg,Ey:=_,Ft:=⟨OG,ak5 X G lM,tw⟩,aaz:=lM,
  kc:=zq,yY:=_,vO:=⟨OP,ak5 X G kc,lC⟩,aaH:=kc,
  lN:=zh,Ez:=_,Fv:=⟨OH,ak5 X G lN,tE⟩,aaA:=lN,
  lW:=zx,EI:=_,sP:=⟨OT,ak5 X G lW,tM⟩,aaL:=lW,
  l8:=zF,ES:=_,zX:=⟨O1,ak5 X G l8,tQ⟩,aaT:=l8,
  lT:=zu,EF:=_,nO:=⟨OQ,ak5 X G lT,tK⟩,aaI:=lT,
  lZ:=zA,EL:=_,zV:=⟨OW,ak5 X G lZ,tO⟩,aaO:=lZ,
  j9:=zk,yX:=_,vN:=⟨OJ,ak5 X G j9,lB⟩,aaC:=j9,
  l5:=zC,EN:=_,zW:=⟨OY,ak5 X G l5,nW⟩,aaQ:=l5,
  l6:=zD,EO:=_,FG:=⟨OZ,ak5 X G l6,tP⟩,aaR:=l6,
  lV:=zw,EH:=_,FD:=⟨OS,ak5 X G lV,tL⟩,aaK:=lV,
  lP:=zl,EB:=_,Fw:=⟨OL,ak5 X G lP,tF⟩,aaD:=lP,
  lU:=zv,EG:=_,FA:=⟨OR,ak5 X G lU,pX⟩,aaJ:=lU,
  lY:=zz,EK:=_,sQ:=⟨OV,ak5 X G lY,tN⟩,aaN:=lY,
  l9:=zG,ET:=_,FI:=⟨O2,ak5 X G l9,tR⟩,aaU:=l9,
  lS:=zp,EE:=_,Fz:=⟨OO,ak5 X G lS,tH⟩,aaG:=lS,
  lQ:=zm,EC:=_,Fx:=⟨OM,ak5 X G lQ,tG⟩,aaE:=lQ,
  l7:=zE,ER:=_,FH:=⟨O0,ak5 X G l7,p7⟩,aaS:=l7,
  l0:=zB,EM:=_,FF:=⟨OX,ak5 X G l0,pZ⟩,aaP:=l0,
  lR:=zo,ED:=_,Fy:=⟨ON,ak5 X G lR,nU⟩,aaF:=lR,
  kg:=fa,EV:=_,MO:=⟨O4,ak5 X G kg,tS⟩,aaW:=kg,
  oR:=alM X G AK,
  BS:=alM X G AJ,
  uP:=alM X G AI,
  Ku:=alM X G AH,
  yk:=alM X G AG,
  gc:=alM X G AF,
  dc:=alM X G AE,
  oQ:=alM X G AD,
  Ks:=alM X G AB,
  cB:=alM X G AA,
  uO:=alM X G Az,
  BR:=alM X G Ay,
  BQ:=alM X G Ax,
  gb:=alM X G Aw,
  yj:=alM X G Av,
  ue:=ue,Eg:=ak5 X G AL,
  uf:=uf,L6:=ak5 X G AM,
  mS:=mS,mR:=mR,oB:=oB,qq:=qq,
  qt:=qt}
 exact⟨_,λs v=>.of_eq rfl,λbase _ _=>Yn T⟩
theorem walk{l:PySem.W.OpenLaw}{q:Program}{loose:List Str}{XP:(Str->Option Value)->Heap->Prop}{YP:World->Heap->Prop}{d:DefRec}{K:Params->PySem.W.Frag}{ts:List (Addr×Addr)}(hn:l.most=some 63) (hdf:d.params.defaults=[])
  (hY:∀(w:World) (h:Heap),YP w h->(K w.params).In h/\∀q∈ts,h.get? q.2=some (PySem.W.tabObj #[]))
  (hK:∀p,(ts.all λq=>PySem.W.codeHdIn (K p) q.1 q.2)=true/\PySem.W.noTabs (K p)=true/\AX (K p) ts=true)
  (F:∀(w:World) (mg:Str->Option Value) (fa:Addr) (h:Heap),(K w.params).In h->h.Ns mainGlobals mg->mg d.name=some (.ref fa) ->
   ∃fd:FuncData,(∀(s:Shared) (u:Value),BindsTo s fd ⟨[u],[]⟩ [("script",u)])/\∀base:Heap,(K w.params).In base->base.Ns mainGlobals mg->bI l.prog w (K w.params) mg base bB 8 fa fd ["script"] (bM (K w.params) 1 u5)) :
  PySem.W.WalkO q loose XP YP l.row.toRowW d [] (λf vs=>PySem.call f vs) :=
 L2.Qt (n:=63) (k:=8) (x:="script") hn (by decide) hdf ⟨rfl,by decide,by decide⟩ hY hK F abI
end Ev
noncomputable 
def PySem.W.Fast.tw10750067132029260408:Nat:=0
noncomputable def PySem.W.Fast.tw13838133311143682133:Nat:=0
noncomputable def PySem.W.Fast.tw17390387091045430365:Nat:=0
noncomputable def PySem.W.Fast.tw8327735966531980676:Nat:=0
noncomputable def PySem.W.Fast.tw16334657440826848257:Nat:=0
noncomputable def PySem.W.Fast.tw15045609177488054323:Nat:=0
noncomputable def PySem.W.Fast.tw14364321305158330497:Nat:=0
noncomputable def PySem.W.Fast.tw7814832979108269895:Nat:=0
noncomputable def PySem.W.Fast.tw322744745457174141:Nat:=0
noncomputable def PySem.W.Fast.tw3242397611855308005:Nat:=0
noncomputable def PySem.W.Fast.tw17683758654877847950:Nat:=0
noncomputable def PySem.W.Fast.tw3527751057936733217:Nat:=0
noncomputable def PySem.W.Fast.tw14505148034380223348:Nat:=0
noncomputable def PySem.W.Fast.tw14626928129961240671:Nat:=0
noncomputable def PySem.W.Fast.tw8500509162363414408:Nat:=0
noncomputable def PySem.W.Fast.tw3522821067600339108:Nat:=0
noncomputable def PySem.W.Fast.tw11283705548027786094:Nat:=0
noncomputable def PySem.W.Fast.tw1882088803582664584:Nat:=0
noncomputable def PySem.W.Fast.tw6786450666378123821:Nat:=0
noncomputable def PySem.W.Fast.tw12908186798576941462:Nat:=0
noncomputable def PySem.W.Fast.tw1621061527264654038:Nat:=0
noncomputable def PySem.W.Fast.tw13320384317974733251:Nat:=0
noncomputable def PySem.W.Fast.tw2273791807551086774:Nat:=0
noncomputable def PySem.W.Fast.tw4233526539162802199:Nat:=0
noncomputable def PySem.W.Fast.tw3383705016619325238:Nat:=0
noncomputable def PySem.W.Fast.tw15605777274608867060:Nat:=0
noncomputable def PySem.W.Fast.tw80206030150967071:Nat:=0
noncomputable def PySem.W.Fast.tw3674178756150929933:Nat:=0
noncomputable def PySem.W.Fast.tw1767079421998038428:Nat:=0
noncomputable def PySem.W.Fast.tw16733407678440905482:Nat:=0
noncomputable def PySem.W.Fast.tw4584062932902533517:Nat:=0
noncomputable def PySem.W.Fast.tw4856616345284704962:Nat:=0
noncomputable def PySem.W.Fast.tw3285634459629617925:Nat:=0
noncomputable def PySem.W.Fast.tw15039258063336634798:Nat:=0
noncomputable def PySem.W.Fast.tw9207480635067663472:Nat:=0
noncomputable def PySem.W.Fast.tw11351384025154949957:Nat:=0
noncomputable def PySem.W.Fast.tw7850727204637647399:Nat:=0
noncomputable def PySem.W.Fast.tw1983270686329626947:Nat:=0
noncomputable def PySem.W.Fast.tw3358215493291162381:Nat:=0
noncomputable def PySem.W.Fast.tw14953465148151074918:Nat:=0
open PySem PySem.W PyProof.Rows
set_option maxRecDepth 100000 in
set_option maxHeartbeats 0 in
theorem PySem.Challenge.cw_evenwebs_k55_webs_of_nets_holds : PySem.Challenge.rw_evenwebs_k55_webs_of_nets.Holds := by
  w_on; o_law; k_head; (case hw => w_witness2)
  k_fill
  refine Ev.walk (l := PySem.Challenge.rw_evenwebs_k55_webs_of_nets) (ts := [(121, 119)]) rfl rfl (fun w h Y => ⟨PySem.W.km_in_of Y, List.forall_mem_cons.mpr ⟨PySem.W.km_tabs_of Y _ (by first | k_mem | decide), fun _ h => nomatch h⟩⟩) (fun p => ⟨by kernel_rfl, by kernel_rfl, by kernel_rfl⟩) ?F
  case F =>
    intro w mg fa h KX G hmg
    refine' Ev.all_mk (mS := 121) (mR := 119) KX G hmg ?mq ?CV ?GI ?DF ?mj ?CU ?GH ?DE ?mF ?C2 ?GP ?DL ?lF ?Cn ?F7 ?C5 ?lD ?Ck ?F5 ?C3 ?mC ?CZ ?GL ?DI ?mD ?C0 ?GN ?DJ ?mw ?CW ?GJ ?DG ?lE ?Cm ?F6 ?C4 ?lK ?Cs ?Ge ?Dc ?mE ?C1 ?GO ?DK ?mz ?CY ?GK ?DH ?lG ?Co ?F8 ?C6 ?lJ ?Cr ?Gb ?C9 ?lH ?Cp ?F9 ?C7 ?lI ?Cq ?Ga ?C8 ?mh ?CS ?GF ?DB ?lX ?CI ?Gv ?Dr ?lO ?Cv ?Gh ?Df ?lM ?Ct ?Gf ?Dd ?kc ?CC ?Gp ?Dl ?lN ?Cu ?Gg ?De ?lW ?CH ?Gu ?Dq ?l8 ?CP ?GC ?Dz ?lT ?CD ?Gq ?Dm ?lZ ?CK ?Gx ?Dt ?j9 ?Cw ?Gi ?Dg ?l5 ?CM ?Gz ?Dv ?l6 ?CN ?GA ?Dw ?lV ?CG ?Gs ?Dp ?lP ?Cy ?Gj ?Dh ?lU ?CF ?Gr ?Dn ?lY ?CJ ?Gw ?Ds ?l9 ?CQ ?GD ?DA ?lS ?CB ?Gn ?Dk ?lQ ?Cz ?Gk ?Di ?l7 ?CO ?GB ?Dy ?l0 ?CL ?Gy ?Du ?lR ?CA ?Gm ?Dj ?kg ?CT ?GG ?DC ?AK ?AJ ?AI ?AH ?AG ?AF ?AE ?AD ?AB ?AA ?Az ?Ay ?Ax ?Aw ?Av ?AL ?AM ?oB ?qq ?qt
    (case mq => k_is)
    (case CV => k_is)
    (case GI => k_is)
    (case DF => k_is)
    (case mj => k_is)
    (case CU => k_is)
    (case GH => k_is)
    (case DE => k_is)
    (case mF => k_is)
    (case C2 => k_is)
    (case GP => k_is)
    (case DL => k_is)
    (case lF => k_is)
    (case Cn => k_is)
    (case F7 => k_is)
    (case C5 => k_is)
    (case lD => k_is)
    (case Ck => k_is)
    (case F5 => k_is)
    (case C3 => k_is)
    (case mC => k_is)
    (case CZ => k_is)
    (case GL => k_is)
    (case DI => k_is)
    (case mD => k_is)
    (case C0 => k_is)
    (case GN => k_is)
    (case DJ => k_is)
    (case mw => k_is)
    (case CW => k_is)
    (case GJ => k_is)
    (case DG => k_is)
    (case lE => k_is)
    (case Cm => k_is)
    (case F6 => k_is)
    (case C4 => k_is)
    (case lK => k_is)
    (case Cs => k_is)
    (case Ge => k_is)
    (case Dc => k_is)
    (case mE => k_is)
    (case C1 => k_is)
    (case GO => k_is)
    (case DK => k_is)
    (case mz => k_is)
    (case CY => k_is)
    (case GK => k_is)
    (case DH => k_is)
    (case lG => k_is)
    (case Co => k_is)
    (case F8 => k_is)
    (case C6 => k_is)
    (case lJ => k_is)
    (case Cr => k_is)
    (case Gb => k_is)
    (case C9 => k_is)
    (case lH => k_is)
    (case Cp => k_is)
    (case F9 => k_is)
    (case C7 => k_is)
    (case lI => k_is)
    (case Cq => k_is)
    (case Ga => k_is)
    (case C8 => k_is)
    (case mh => k_is)
    (case CS => k_is)
    (case GF => k_is)
    (case DB => k_is)
    (case lX => k_is)
    (case CI => k_is)
    (case Gv => k_is)
    (case Dr => k_is)
    (case lO => k_is)
    (case Cv => k_is)
    (case Gh => k_is)
    (case Df => k_is)
    (case lM => k_is)
    (case Ct => k_is)
    (case Gf => k_is)
    (case Dd => k_is)
    (case kc => k_is)
    (case CC => k_is)
    (case Gp => k_is)
    (case Dl => k_is)
    (case lN => k_is)
    (case Cu => k_is)
    (case Gg => k_is)
    (case De => k_is)
    (case lW => k_is)
    (case CH => k_is)
    (case Gu => k_is)
    (case Dq => k_is)
    (case l8 => k_is)
    (case CP => k_is)
    (case GC => k_is)
    (case Dz => k_is)
    (case lT => k_is)
    (case CD => k_is)
    (case Gq => k_is)
    (case Dm => k_is)
    (case lZ => k_is)
    (case CK => k_is)
    (case Gx => k_is)
    (case Dt => k_is)
    (case j9 => k_is)
    (case Cw => k_is)
    (case Gi => k_is)
    (case Dg => k_is)
    (case l5 => k_is)
    (case CM => k_is)
    (case Gz => k_is)
    (case Dv => k_is)
    (case l6 => k_is)
    (case CN => k_is)
    (case GA => k_is)
    (case Dw => k_is)
    (case lV => k_is)
    (case CG => k_is)
    (case Gs => k_is)
    (case Dp => k_is)
    (case lP => k_is)
    (case Cy => k_is)
    (case Gj => k_is)
    (case Dh => k_is)
    (case lU => k_is)
    (case CF => k_is)
    (case Gr => k_is)
    (case Dn => k_is)
    (case lY => k_is)
    (case CJ => k_is)
    (case Gw => k_is)
    (case Ds => k_is)
    (case l9 => k_is)
    (case CQ => k_is)
    (case GD => k_is)
    (case DA => k_is)
    (case lS => k_is)
    (case CB => k_is)
    (case Gn => k_is)
    (case Dk => k_is)
    (case lQ => k_is)
    (case Cz => k_is)
    (case Gk => k_is)
    (case Di => k_is)
    (case l7 => k_is)
    (case CO => k_is)
    (case GB => k_is)
    (case Dy => k_is)
    (case l0 => k_is)
    (case CL => k_is)
    (case Gy => k_is)
    (case Du => k_is)
    (case lR => k_is)
    (case CA => k_is)
    (case Gm => k_is)
    (case Dj => k_is)
    (case kg => k_is)
    (case CT => k_is)
    (case GG => k_is)
    (case DC => k_is)
    (case AK => k_is)
    (case AJ => k_is)
    (case AI => k_is)
    (case AH => k_is)
    (case AG => k_is)
    (case AF => k_is)
    (case AE => k_is)
    (case AD => k_is)
    (case AB => k_is)
    (case AA => k_is)
    (case Az => k_is)
    (case Ay => k_is)
    (case Ax => k_is)
    (case Aw => k_is)
    (case Av => k_is)
    (case AL => k_is)
    (case AM => k_is)
    (case oB => kernel_rfl)
    (case qq => kernel_rfl)
    (case qt => kernel_rfl)
