import PyProof.Rows.All
import Wide.All
import OpenK.AllK
import Wide.FinOn
import Lean
import PyProof.EqAt
import PyProof.EqKinds
import PyProof.TupleCall
import PySem.Challenge.RW_evenwebs_k62_first_orders
import PyProof.SetScanFacts
import PyProof.SetKind
import PyProof.DictKinds
import PyProof.Rows.SetFrom
import PyProof.Walks
import PyProof.DictValues
import PyProof.FactsAll.set_1
import PyProof.DictWalks
import KE.KDictSum
import KE.KSortTup
import PyProof.FactsAll.tuple_2
import PyProof.P3In
import PyProof.EqLayable
import PyProof.SumAny
import PyProof.NoPylong
import PyProof.FitsBits
import PyProof.ExcArgsOwn
import PyProof.ExcBaseAll.ValueError
import PyProof.Rows.SeqMore
import PyProof.DictRoads
import PyProof.Rows.FactsT2
import KE.KRevIter
import PyProof.AutoSeq1
import PyProof.ListRange
import PyProof.Rows.SortShell
import PyProof.TupleOfSeq
import PyProof.SetRoads
import PyProof.DictRoadsH
import PyProof.FactsAll.tuple_1
set_option Elab.async false
set_option linter.all false
set_option maxHeartbeats 4000000
set_option maxRecDepth 100000
set_option bootstrap.genMatcherCode false
set_option genSizeOfSpec false
set_option genSizeOf false
open PySem renaming wpAny_bind→ahk,wpAny_pure→ahl,boot_len→ahF,wpAny_mono→ahU,wpAny_call_entry→ah5,wpAny_seqItems→ah9,sizeLine_eq→aic,wpAny_holding→aif,wpAny_field→aik,wpAny_specialOf→aiA,wpAny_setState_of→aiH,mem_of_lookup→aiJ,wpAny_rule→aiM,wpAny_isInstance→aiO,wpAny_tupleItemsOf→aiS,wpAny_truthy_bool→aiW,wpAny_passesOwn→aiX,call_meets→ai0,wpAny_pyIter_list→aje,wpAny_newObj_type→ajk,wpAny_callSpecial?_slot→ajl,wpAny_setField_rec→ajn,codeAny_builtin→ajp,codeAny_mono→ajv,wpAny_setField→ajy,wpAny_of_eq→ajz,wpAny_askSetting→ajF,wpAny_forIn_list→ajI,isSubtype_tuple_tuple→ajJ,wpAny_execs_nil→ajQ,wpAny_onRaise→ajW,wpAny_attempt→ajX,wpAny_newList→aka,wpAny_standAt→akj,wpAny_pyIter_tuple→akk,wpAny_Call_Name_kw→ako,concat_meets→aks,noFill_tuple_add→akt,seq_tuple_add→aku,pushCells_keeps→akz,wpAny_updateSeq_pair→akC,wpAny_pyIter_zip→akD,wpAny_richCompare_same_room→akT,wpAny_setEntries_of→akZ,list_append→alh,wpAny_comprehension_free→alk,hashByValue_scannable→alH,wpAny_callSpecialIfBoundUnlessNone?_slot→alI,builtinLookup_eq_fast→alL
open List renaming mem_cons→ahm,mem_range→ahn,getD_eq_getElem?_getD→ahr,mem_map→ahs,size_toArray→aht,length_cons→ahu,map_cons→ahv,length_map→ahx,getElem?_eq_getElem→ahy,getElem?_eq_some_iff→ahz,not_mem_nil→ahE,length_nil→ahH,nil_append→ahI,map_map→ahK,mem_of_getElem?→ahL,getElem?_map→ahP,mem_of_mem_take→ahR,mem_cons_self→ahS,mem_cons_of_mem→ahT,length_append→ahW,append_assoc→ahX,mem_append→ahZ,getElem?_append_left→ah1,map_congr_left→ah6,lookup_cons→ah8,mem_append_right→aih,getElem_mem→ail,ext_getElem→aim,getElem?_append_right→aip,getElem_of_mem→aiq,pairwise_cons→air,countP_congr→aiu,getElem_inj→aiv,getElem?_set_self→aiw,forIn_cons→aix,mem_singleton→aiz,map_append→aiC,take_length→aiD,mem_filter→aiE,replicate_succ→aiG,getElem?_set_ne→aiI,flatten_cons→aiK,all_eq_true→aiL,forIn_nil→aiN,nodup_cons→aiY,pairwise_iff_getElem→ai5,getElem?_eq_none→ai6,length_range'→aja,countP_map→ajc,append_nil→ajg,length_take→ajh,take_append_drop→ajo,filter_cons_of_pos→ajr,range_add→ajt,filterMap_cons→aju,foldl_cons→ajx,mem_iff_getElem→ajA,length_range→ajE,nodup_range→ajK,take_of_length_le→ajN,idxOf_lt_length_iff→ajO,getElem_idxOf→ajP,take_sublist→ajS,any_eq_true→aj1,getElem_take→aj3,find?_eq_none→aj4,getElem?_set→aj5,filter_cons_of_neg→aj8,getElem?_take→akb,countP_cons→akd,range_succ_eq_map→ake,mem_range'→akf,getElem?_range→aki,mem_filterMap→akl,of_mem_zip→akp,getElem?_take_of_lt→akr,map_nil→aky,mem_of_mem_drop→akG,mem_erase_of_ne→akH,length_erase_of_mem→akI,zip_cons_cons→akK,range_succ→akN,perm_append_singleton→akO,pairwise_map→akP,perm_middle→akV,drop_eq_getElem_cons→akX,length_eq_zero_iff→akY,nodup_append→ak0,getElem_range→ak1,getElem_map→ak5,countP_append→ak6,nodup_iff_pairwise_ne→ak7,filter_congr→ak8,mem_append_left→ak9,any_eq_false→alb,getElem?_replicate→ald,length_drop→ale,getElem?_zip_eq_some→alm,zipIdx_cons→alp,zipIdx_nil→alq,length_pos_of_mem→als,find?_some→alw,set_cons_succ→alx,zip_append→aly,mem_of_find?_eq_some→alA,find?_eq_some_iff_getElem→alB,pairwise_lt_range→alC,take_succ_eq_append_getElem→alJ,foldl_append→alK,filter_cons→alP,ext_getElem?→alT,getElem?_zipWith→alU,length_zipWith→alV,drop_eq_nil_of_le→alW,mem_map_of_mem→alX,perm_ext_iff_of_nodup→alZ,take_add_one→al0,getElem_set→al1,cons_append→al2,filter_map→al3,range'_eq_map_range→al4,countP_eq_zero→al6,countP_mono_left→al7,countP_eq_length_filter→al8,filter_append→al9,filter_eq_nil_iff→ama,length_filter_le→amb,getElem_mapIdx→amc,filter_filter→amd
open Nat renaming le_refl→aho,ne_of_lt→ahw,lt_of_lt_of_le→ahD,zero_add→ahM,le_trans→ahN,zero_le→ahY,ne_of_gt→ah0,lt_irrefl→aib,lt_succ_of_lt→aij,lt_or_ge→ais,lt_succ_self→aiy,lt_trichotomy→aiP,mod_lt→aiQ,le_succ→ai1,le_of_eq→ai2,add_zero→ai4,mul_le_mul→ajb,le_of_lt→ajd,succ_mul→aji,lt_trans→ajC,testBit_two_pow_sub_one→ajD,sub_self→ajM,le_add_right→ajZ,add_left_cancel→aj0,two_pow_pos→aj6,mod_eq_of_lt→akg,not_lt_zero→akF,testBit_or→akJ,lt_of_succ_lt→ak3,le_of_not_lt→ali,lt_of_le_of_lt→alj,eq_zero_or_pos→alr,one_shiftLeft→alu,testBit_shiftLeft→alv,pow_le_pow_right→alF,mod_eq_sub_mod→al5
open PySem.Heap renaming get?_push_of_some→ahp,lt_size→ahq,get?_push_size→ahB,size_push→ahQ,get?_update_other→aid,get?_update_self→ajw,size_update→ajL
open PySem.W renaming mg_of→ahA,mg_none_of→ah3,kia_one→aii,items_int→ajj,cellsFrom_some→ajR,kitx_dict→akn,kitx_list→alc
open Bool renaming false_eq_true→ahC,false_ne_true→ahG,not_true→ah2,and_eq_true→ah4,eq_iff_iff→aiF,not_false→ai7,and_false→ajT,or_eq_true→ajU,or_eq_false_iff→alG,not_eq_true'→ame
open Option.some renaming inj→ahJ,injEq→akU
open Array renaming length_toList→ahO,getElem?_toList→aie,forIn_toList→aiR,getElem?_eq_getElem→ai8,mem_toList_iff→akm,getD_eq_getD_getElem?→akE,toList_setIfInBounds→akM,toArray_toList→ak4,toList_push→alz,toList_filterMap→alD,getElem?_eq_none→alM,perm_iff_toList_perm→alO,toList_inj→alR
open PyProof.Rows renaming vals1→ahV,boot_isinstance→ain,len_tab→aio,boot_tuple→ait,get?_update_seq→aiU,boot_min→ai9,callWith_type1→ajf,listUpdate_at→aj9
open Ne renaming symm→ah7
open Classical renaming byContradiction→aia
open PySem.F renaming slot_tuple_hash→aiB,called_set→aiT,slot_tuple_iterator_next→ajV,slot_zip_next→ajY,slot_tuple_eq→aj7,plainAttrs_list→akc,slot_tuple_add→akv,entry_tuple_add→akw,args_tuple_add_2→akx,entry_tuple_iterator_next→aln,args_tuple_iterator_next_1→alo,plain_set_new→alE,slot_set_iter→alN
open PySem.Value renaming isInt_shape→aiV
open Int renaming toNat_natCast→aiZ,zero_add→ajs,emod_nonneg→ajG,emod_lt_of_pos→ajH
open PySem.Heap.SameBut renaming update→ai3
open PySem.Obj renaming data_mapFields→ajm,isFreed_of_fields→akA,cls_mapFields→akB
open Prod.mk renaming injEq→ajq
open PySem.Walks renaming list→ajB
open PySem.SetTable renaming toList_insertAt→aj2,insertAt_perm→akL
open Function renaming comp_def→akh
open Option renaming isSome_iff_exists→akq,getD_none→alf
open PySem.Around renaming under_plainId→akQ
open List.cons renaming injEq→akR
open PySem.Value.ref renaming injEq→akS
open PyProof.Rows.F renaming plain_set_update_loop→akW
open PySem.PassesOwn renaming never→ak2
open PySem.Calls renaming Name_function_global→ala,call_function_entry→alS
open PySem.IsL renaming update→alg
open List.Perm renaming of_eq→alQ,length_eq→alY
noncomputable section
namespace L2
open PySem PySem.Spec PyProof.Rows
abbrev Key:=Sum Int Str
def J5:Key→Value→Bool
 |.inl k,v=>Value.isInt k v
 |.inr x,v=>Value.isStrOf x v
def Zx(w:World):Key→Int
 |.inl k=>hashInt k
 |.inr x=>hashStr w x
theorem lq:∀{k:Key}{v:Value},J5 k v=true→(∃i t,k=Sum.inl i∧v=Value.int i t)∨(∃x t,k=Sum.inr x∧v=Value.str x t)
 |.inl i,v,h=>by
  obtain⟨t,e⟩:=aiV (k:=i) (v:=v) h
  exact .inl ⟨i,t,rfl,e⟩
 |.inr x,v,h=>by
  obtain⟨t,e⟩:=Value.isStrOf_shape (x:=x) (v:=v) h
  exact .inr ⟨x,t,rfl,e⟩
theorem Zv(a b:Int):decide ((Sum.inl a:Key)=Sum.inl b)=(a==b):=by
 by_cases e:a=b
 ·subst e;simp
 ·have h:¬(Sum.inl a:Key)=Sum.inl b:=fun q=>e (Sum.inl.inj q)
  rw[decide_eq_false h]
  exact(beq_eq_false_iff_ne.mpr e).symm
theorem Zs(a b:Str):decide ((Sum.inr a:Key)=Sum.inr b)=decide (a=b):=by
 by_cases e:a=b
 ·subst e;simp
 ·have h:¬(Sum.inr a:Key)=Sum.inr b:=fun q=>e (Sum.inr.inj q)
  rw[decide_eq_false h,decide_eq_false e]
theorem Zu(a:Int) (b:Str):decide ((Sum.inl a:Key)=Sum.inr b)=false:=decide_eq_false (fun q=>nomatch q)
theorem Zt(a:Str) (b:Int):decide ((Sum.inr a:Key)=Sum.inl b)=false:=decide_eq_false (fun q=>nomatch q)
def BK(prog:Program) (w:World):PySem.KeyKind prog w Key where
 is:=J5
 hash:=Zx w
 inj:=fun v a b ha hb=>by
  rcases lq ha with⟨i,t,rfl,rfl⟩|⟨x,t,rfl,rfl⟩
  ·rcases lq hb with⟨j,u,rfl,e⟩|⟨y,u,rfl,e⟩
   ·injection e with e1 _;rw[e1]
   ·exact nomatch e
  ·rcases lq hb with⟨j,u,rfl,e⟩|⟨y,u,rfl,e⟩
   ·exact nomatch e
   ·injection e with e1 _;rw[e1]
 byValue:=fun k v h=>by
  rcases lq h with⟨i,t,rfl,rfl⟩|⟨x,t,rfl,rfl⟩<;>rfl
 pyHash:=fun hv h=>by
  rcases lq hv with⟨i,t,rfl,rfl⟩|⟨x,t,rfl,rfl⟩
  ·exact wpAny_pyHash_int h
  ·exact wpAny_pyHash_str h
 eqBool:=fun hu hv h=>by
  rcases lq hu with⟨i,t,rfl,rfl⟩|⟨x,t,rfl,rfl⟩
  ·rcases lq hv with⟨j,u,rfl,rfl⟩|⟨y,u,rfl,rfl⟩
   ·rw[Zv]at h;exact wpAny_eqBool_int h
   ·rw[Zu]at h;exact SeqAt.EqAt.int_str i t y u _ _ _ _ h
  ·rcases lq hv with⟨j,u,rfl,rfl⟩|⟨y,u,rfl,rfl⟩
   ·rw[Zt]at h;exact SeqAt.EqAt.str_int x t j u _ _ _ _ h
   ·rw[Zs]at h;exact wpAny_eqBool_str h
 «strs»:=fun k x t v h=>by
  rcases lq h with⟨i,u,rfl,e⟩|⟨y,u,rfl,e⟩
  ·exact nomatch e
  ·injection e with e1 _
   subst e1
   cases v<;>rfl
end L2
namespace L2
open PySem PySem.Spec PyProof.Rows
inductive V where
 |aG|bl (b:Bool)|int (i:Int)|str (x:Str)|g7 (b:Array UInt8)|nL (b:UInt64)|ref (a:Addr)|ty (n:String)
 deriving DecidableEq
def RelV:V→Value→Prop
 |.aG,u=>u=Value.none
 |.bl b,u=>u=Value.bool b
 |.int i,u=>∃t,u=Value.int i t
 |.str x,u=>∃t,u=Value.str x t
 |.g7 b,u=>∃t,u=Value.bytes b t
 |.nL b,u=>∃t,u=Value.float b t
 |.ref a,u=>u=Value.ref a
 |.ty n,u=>u=Value.type n
abbrev Vals:List V→List Value→Prop:=Paired RelV
theorem Vals.length{xs:List V}{us:List Value}(r:Vals xs us):xs.length=us.length:=Paired.length r
theorem Vals.get:∀{xs:List V}{us:List Value}{i:Nat}{x:V},Vals xs us→xs[i]? = some x→∃u,us[i]? = some u∧RelV x u
 |_,_,_,_,.nil,e=>by simp at e
 |_,_,0,_,.cons r _,e=>by simp at e;subst e;exact⟨_,rfl,r⟩
 |_,_,i+1,x,.cons _ t,e=>by
  obtain⟨u,h1,h2⟩:=Vals.get (i:=i) (x:=x) t (by simpa using e)
  exact⟨u,by simpa using h1,h2⟩
theorem Vals.set{x:V}{u:Value}(r:RelV x u):∀{xs:List V}{us:List Value}(i:Nat),Vals xs us→Vals (xs.set i x) (us.set i u)
 |_,_,_,.nil=>.nil
 |_,_,0,.cons _ t=>.cons r t
 |_,_,i+1,.cons q t=>.cons q (Vals.set r i t)
theorem Vals.append:∀{xs ys:List V}{us ws:List Value},Vals xs us→Vals ys ws→Vals (xs++ys) (us++ws)
 |_,_,_,_,.nil,s=>s
 |_,_,_,_,.cons r t,s=>.cons r (Vals.append t s)
theorem Vals.take:∀{xs:List V}{us:List Value}(n:Nat),Vals xs us→Vals (xs.take n) (us.take n)
 |_,_,0,_=>.nil
 |_,_,_+1,.nil=>.nil
 |_,_,n+1,.cons r t=>.cons r (Vals.take n t)
theorem Vals.drop:∀{xs:List V}{us:List Value}(n:Nat),Vals xs us→Vals (xs.drop n) (us.drop n)
 |_,_,0,r=>r
 |_,_,_+1,.nil=>.nil
 |_,_,n+1,.cons _ t=>Vals.drop n t
def Gh:Option V→Option Value→Prop
 |some v,some u=>RelV v u
 |none,none=>True
 |_,_=>False
def KV{κ:Type}:List (κ×V)→List (κ×Value)→Prop:=Paired fun(p:κ×V) (q:κ×Value)=>p.1=q.1∧RelV p.2 q.2
def kV:Key→V
 |.inl i=>.int i
 |.inr x=>.str x
inductive HO where
 |lst (xs:List V)
 |tup (xs:List V)
 |dK (kvs:List (Key×V))|dT (kvs:List (List Key×V))
 |set (S:Int→Bool) (n:Nat)
 |ins (C dx:Addr) (fs:List (Str×V))
 |own (x:Addr)
 |xd (fs:List (Str×V))
 |met (f x:Addr)
 |rm (lo hi:Int)
 |fF (o:Obj) (u:HO)
 |fu (ps:Array Value)
 |ext (φ:Heap→Prop)
abbrev Hp:=Addr→Option HO
def upd(H:Hp) (a:Addr) (o:HO):Hp:=fun b=>if b=a then some o else H b
theorem f7{H:Hp}{a:Addr}{o:HO}:upd H a o a=some o:=by unfold upd;rw[if_pos rfl]
theorem bR{H:Hp}{a b:Addr}{o:HO}(h:b≠a):upd H a o b=H b:=by unfold upd;rw[if_neg h]
theorem Jg{H:Hp}{a b:Addr}{o u:HO}(h:H a=some o) (h':H b=some u) (d:o≠u):a≠b:=by
 intro e;subst e;rw[h]at h';exact d (ahJ h')
theorem eH{H:Hp}{a b:Addr}{o:HO}(h:H a=some o) (h':H b=none):a≠b:=by
 intro e;subst e;rw[h]at h';cases h'
def kH(h:Heap) (a:Addr) (items:Array Value):Prop:=∃o,h.get? a=some o∧o.cls=.type "tuple"∧(∃n,o.data=.seq items n)∧o.dict=none
theorem kH.tup{h:Heap}{a:Addr}{items:Array Value}:kH h a items→IsTup h a items:=fun⟨o,e,c,d,_⟩=>⟨o,e,c,d⟩
theorem kH.new(h:Heap) (items:Array Value):kH (h.push {cls:=.type "tuple",data:=.seq items}) h.objs.size items:=⟨_,ahB _ rfl,rfl,⟨_,rfl⟩,rfl⟩
section
variable (P:Program) (w:World)
def eS(H:Hp) (h:Heap) (a:Addr):HO→Prop
 |.lst xs=>xs.length≤sizeLine∧∃(its:List Value) (n:Nat),Vals xs its∧h.get? a=some {cls:=.type "list",data:=.seq its.toArray n}
 |.tup xs=>xs.length≤sizeLine∧∃its:List Value,Vals xs its∧kH h a its.toArray
 |.dK kvs=>kvs.length≤sizeLine∧(a==sysModules)=false∧∃vs,KV kvs vs∧h.DictOf (BK P w) a vs
 |.dT kvs=>kvs.length≤sizeLine∧(a==sysModules)=false∧∃xs:List (List Key×Addr×Value),
   Paired (fun(p:List Key×V) (q:List Key×Addr×Value)=>p.1=q.1∧H q.2.1=some (.tup (p.1.map kV))∧RelV p.2 q.2.2) kvs xs ∧
   ∃o es ep,h.get? a=some o∧o.ExactDict∧o.data=.dict es ep∧es.toList=xs.map (entryOfKey (tupleKind (BK P w)))∧(xs.map (·.1)).Nodup
 |.set S n=>h.SetOf (intKind P w) a S n
 |.ins C dx fs=>H dx=some (.own a)∧fs.length≤1000∧dx≠a∧h.get? a=some (PySem.W.instObj C dx) ∧
   ∃mA,h.Ns1 dx mA∧(∀f,Gh (fs.lookup f) (mA f))∧PySem.Within mA (fs.map (·.1))
 |.own _=>∃o,h.get? a=some o
 |.xd fs=>∃mA,h.Ns1 a mA∧∀f,Gh (fs.lookup f) (mA f)
 |.rm lo hi=>∃t u v,h.get? a=some {cls:=.type "range",data:=.fields #[.int lo t,.int hi u,.int 1 v]}
 |.fF o u=>h.get? a=some o∧eS H h a u
 |.fu ps=>h.get? a=some {cls:=.none,data:=.fields ps}
 |.met f x=>h.get? a=some (PySem.W.methodObj (.ref f) (.ref x))
 |.ext φ=>φ h∧(∃o,h.get? a=some o)∧∀h1 h2:Heap,φ h1→(∀o,h1.get? a=some o→h2.get? a=some o)→φ h2
def d7(H:Hp) (h:Heap):Prop:=∀a o,H a=some o→eS P w H h a o
end
section
variable {P:Program}{w:World}{H H':Hp}{h h':Heap}{a:Addr}{o:HO}
theorem eS.lt(x:eS P w H h a o):a<h.objs.size:=by
 cases o with
 |lst xs=>obtain⟨_,_,_,_,e⟩:=x;exact ahq e
 |tup xs=>obtain⟨_,_,_,p⟩:=x;exact p.tup.lt
 |dK kvs=>obtain⟨_,_,_,_,o,_,_,e,_⟩:=x;exact ahq e
 |dT kvs=>obtain⟨_,_,_,_,o,_,_,e,_⟩:=x;exact ahq e
 |set S n=>obtain⟨o,_,_,_,e,_⟩:=x;exact ahq e
 |ins C dx fs=>obtain⟨_,_,_,e,_⟩:=x;exact ahq e
 |own y=>obtain⟨_,e⟩:=x;exact ahq e
 |xd fs=>obtain⟨_,⟨_,_,_,e,_⟩,_⟩:=x;exact ahq e
 |rm lo hi=>obtain⟨_,_,_,e⟩:=x;exact ahq e
 |fF ob u=>obtain⟨e,_⟩:=x;exact ahq e
 |fu ps=>exact ahq (show h.get? a=some _ from x)
 |met f y=>exact ahq (show h.get? a=some _ from x)
 |ext φ=>obtain⟨_,⟨_,e⟩,_⟩:=x;exact ahq e
theorem Paired.Jw{α β:Type}{F G:α→β→Prop}:∀{l₁:List α}{l₂:List β},Paired F l₁ l₂→(∀a b,F a b→G a b)→Paired G l₁ l₂
 |_,_,.nil,_=>.nil
 |_,_,.cons r t,f=>.cons (f _ _ r) (Paired.Jw t f)
theorem eS.stay(x:eS P w H h a o) (k:∀b u,(b=a∨H b=some (.own a))→h.get? b=some u→h'.get? b=some u)
  (ho:∀b,H b=some (.own a)→H' b=some (.own a)) (ht:∀b xs,H b=some (.tup xs)→H' b=some (.tup xs)):eS P w H' h' a o:=by
 induction o with
 |lst xs=>obtain⟨z,its,n,r,e⟩:=x;exact⟨z,its,n,r,k _ _ (.inl rfl) e⟩
 |tup xs=>obtain⟨z,its,r,ob,e,c⟩:=x;exact⟨z,its,r,ob,k _ _ (.inl rfl) e,c⟩
 |dK kvs=>obtain⟨z,y,vs,r,ob,es,ep,e,c⟩:=x;exact⟨z,y,vs,r,ob,es,ep,k _ _ (.inl rfl) e,c⟩
 |dT kvs =>
  obtain⟨z,y,xs,r,ob,es,ep,e,c⟩:=x
  exact⟨z,y,xs,Paired.Jw r fun p q z=>⟨z.1,ht _ _ z.2.1,z.2.2⟩,ob,es,ep,k _ _ (.inl rfl) e,c⟩
 |set S n=>obtain⟨ob,es,ep,t,e,c⟩:=x;exact⟨ob,es,ep,t,k _ _ (.inl rfl) e,c⟩
 |ins C dx fs =>
  obtain⟨d,z,ne,e,mA,⟨od,es,ep,e2,c⟩,r⟩:=x
  exact⟨ho _ d,z,ne,k _ _ (.inl rfl) e,mA,⟨od,es,ep,k _ _ (.inr d) e2,c⟩,r⟩
 |own y=>obtain⟨ob,e⟩:=x;exact⟨ob,k _ _ (.inl rfl) e⟩
 |xd fs=>obtain⟨mA,⟨od,es,ep,e,c⟩,r⟩:=x;exact⟨mA,⟨od,es,ep,k _ _ (.inl rfl) e,c⟩,r⟩
 |rm lo hi=>obtain⟨t,u,v,e⟩:=x;exact⟨t,u,v,k _ _ (.inl rfl) e⟩
 |fF ob u ih=>obtain⟨e,q⟩:=x;exact⟨k _ _ (.inl rfl) e,ih q⟩
 |fu ps =>
  have e:h.get? a=some {cls:=.none,data:=.fields ps}:=x
  show h'.get? a=some {cls:=.none,data:=.fields ps}
  exact k a _ (.inl rfl) e
 |met f y =>
  have e:h.get? a=some (PySem.W.methodObj (.ref f) (.ref y)):=x
  show h'.get? a=some (PySem.W.methodObj (.ref f) (.ref y))
  exact k a _ (.inl rfl) e
 |ext φ=>obtain⟨p,⟨o,e⟩,st⟩:=x;exact⟨st _ _ p fun o q=>k _ _ (.inl rfl) q,⟨o,k _ _ (.inl rfl) e⟩,st⟩
theorem d7.lt(x:d7 P w H h) (e:H a=some o):a<h.objs.size:=(x a o e).lt
theorem d7.fresh(x:d7 P w H h) (e:h.objs.size≤a):H a=none:=by
 cases q:H a with
 |none=>rfl
 |some u=>exact absurd (ahD (x.lt q) e) (aib _)
theorem d7.kept(x:d7 P w H h) (k:∀b u,h.get? b=some u→h'.get? b=some u):d7 P w H h':=fun a o e =>
 (x a o e).stay (fun b u _ q=>k b u q) (fun _ q=>q) fun _ _ q=>q
theorem d7.laid(x:d7 P w H h) (k:∀b u,h.get? b=some u→h'.get? b=some u) (hp:h.objs.size≤a) (new:eS P w (upd H a o) h' a o):d7 P w (upd H a o) h':=fun b u e=>by
 have hn:=x.fresh hp
 by_cases hb:b=a
 ·subst hb;rw[f7]at e;cases e;exact new
 ·rw[bR hb]at e
  exact(x b u e).stay (fun c v _ q=>k c v q) (fun c q=>by rw[bR (eH q hn)];exact q) fun c xs q=>by rw[bR (eH q hn)];exact q
end
def Rd(H:Hp) (a:Addr) (u:HO):Prop:=H a=some u∨∃o,H a=some (.fF o u)
theorem Rd.ok{P:Program}{w:World}{H:Hp}{h:Heap}{a:Addr}{u:HO}(r:Rd H a u) (x:d7 P w H h):eS P w H h a u:=by
 rcases r with r|⟨o,r⟩
 ·exact x a u r
 ·obtain⟨_,q⟩:=x a _ r
  exact q
def vS:Option HO→Prop
 |some (.lst _)=>True
 |some (.dK _)=>True
 |some (.dT _)=>True
 |some (.set _ _)=>True
 |some (.ins _ _ _)=>True
 |some (.ext _)=>True
 |_=>False
section
variable {P:Program}{w:World}{H:Hp}{h h':Heap}{x e:Addr}{o':HO}
theorem d7.write(ok:d7 P w H h) (mu:vS (H x)) (he:e=x∨H e=some (.own x)) (k:∀b u,b≠e→h.get? b=some u→h'.get? b=some u) (r8:∃u,h'.get? e=some u)
  (new:eS P w (upd H x o') h' x o'):d7 P w (upd H x o') h':=fun b u q=>by
 have IX:∀c y,H c=some (.own y)→c≠x:=fun c y r z=>by subst z;rw[r]at mu;exact mu
 have Xm:∀c xs,H c=some (.tup xs)→c≠x:=fun c xs r z=>by subst z;rw[r]at mu;exact mu
 by_cases hb:b=x
 ·subst hb;rw[f7]at q;cases q;exact new
 ·rw[bR hb]at q
  by_cases pM:b=e
  ·have q':H b=some (.own x):=by
    rcases he with z|z
    ·exact absurd (pM.trans z) hb
    ·rw[pM];exact z
   rw[q]at q';cases q'
   obtain⟨v,hv⟩:=r8
   exact⟨v,by rw[pM];exact hv⟩
  ·refine(ok b u q).stay (fun c v hc r=>k c v ?_ r) (fun c r=>by rw[bR (IX c b r)];exact r) fun c xs r=>by rw[bR (Xm c xs r)];exact r
   rcases hc with rfl|hc
   ·exact pM
   ·rintro rfl
    rcases he with z|z
    ·exact IX c b hc z
    ·rw[hc]at z;cases z;exact hb rfl
end
structure Un (fs ex:List Addr) (H H':Hp) (h h':Heap):Prop where
 keep:∀b o,h.get? b=some o→H b=none→b∉fs→b∉ex→h'.get? b=some o
 slot:∀b o,h.get? b=some o→H b=none→b∈fs→b∉ex→∃sl,h'.get? b=some {o with slots:=sl}
 free:∀b o,h.get? b=some o→H b=none→b∉ex→H' b=none
 there:∀b o,h.get? b=some o→b∉ex→∃o',h'.get? b=some o'
 tups:∀b xs,H b=some (.tup xs)→H' b=some (.tup xs)
 j9:∀b o u,H b=some (.fF o u)→H' b=some (.fF o u)
 jN:∀b ps,H b=some (.fu ps)→∃more,H' b=some (.fu (ps++more))
section
variable {fs fs' ex ex':List Addr}{H H1 H2:Hp}{h h1 h2 h':Heap}{a x e:Addr}{o:HO}
theorem Un.any(u:Un fs ex H H1 h h1) {b:Addr}{ob:Obj}(q:h.get? b=some ob) (n:H b=none) (hx:b∉ex):∃sl,h1.get? b=some {ob with slots:=sl}:=by
 by_cases hb:b∈fs
 ·exact u.slot b ob q n hb hx
 ·exact⟨ob.slots,u.keep b ob q n hb hx⟩
theorem Un.kept(k:∀b u,h.get? b=some u→h'.get? b=some u):Un fs ex H H h h' :=
 ⟨fun b ob q _ _ _=>k b ob q,fun b ob q _ _ _=>⟨ob.slots,k b ob q⟩,fun _ _ _ n _=>n,fun b ob q _=>⟨ob,k b ob q⟩,fun _ _ q=>q,fun _ _ _ q=>q,fun _ ps q=>⟨#[],by rw[q];simp⟩⟩
theorem Un.refl:Un fs ex H H h h:=Un.kept fun _ _ q=>q
theorem Un.laid(k:∀b u,h.get? b=some u→h'.get? b=some u) (hp:h.objs.size≤a) (hn:H a=none):Un fs ex H (upd H a o) h h' where
 keep:=fun b u q _ _ _=>k b u q
 slot:=fun b u q _ _ _=>⟨u.slots,k b u q⟩
 free:=fun b u q n _=>by rw[bR (ahw (ahD (ahq q) hp))];exact n
 there:=fun b u q _=>⟨u,k b u q⟩
 tups:=fun b xs q=>by rw[bR (eH q hn)];exact q
 j9:=fun b u xs q=>by rw[bR (eH q hn)];exact q
 jN:=fun b ps q=>⟨#[],by rw[bR (eH q hn),q];simp⟩
theorem Un.write(mu:vS (H x)) (he:e=x∨H e=some (.own x)) (k:∀b u,b≠e→h.get? b=some u→h'.get? b=some u) (r8:∃u,h'.get? e=some u):Un fs ex H (upd H x o) h h':=by
 have hx:∀b,H b=none→b≠x:=fun b n z=>by subst z;rw[n]at mu;exact mu
 have hb:∀b,H b=none→b≠e:=fun b n z=>by
  subst z
  rcases he with r|r
  ·exact hx b n r
  ·rw[n]at r;cases r
 have hm:∀b u,H b=some u→¬vS (some u)→b≠x:=fun b u q nm z=>by subst z;rw[q]at mu;exact nm mu
 refine⟨fun b u q n _ _=>k b u (hb b n) q,fun b u q n _ _=>⟨u.slots,k b u (hb b n) q⟩,fun b u q n _=>by rw[bR (hx b n)];exact n,fun b u q _=>?_,
  fun b xs q=>by rw[bR (hm b _ q fun z=>z)];exact q,fun b u xs q=>by rw[bR (hm b _ q fun z=>z)];exact q,fun b ps q=>⟨#[],by rw[bR (hm b _ q fun z=>z),q];simp⟩⟩
 by_cases pM:b=e
 ·subst pM;exact r8
 ·exact⟨u,k b u pM q⟩
end
def wB(h:Heap) (H:Hp):List Addr:=(List.range h.objs.size).filter fun a=>(H a).isSome
def lM(h:Heap) (H:Hp):Heap:=PySem.W.hideAll h (wB h H)
theorem aa5(h:Heap) (H:Hp):(lM h H).objs.size=h.objs.size:=PySem.W.hideAll_size _ _
theorem aa6{h:Heap}{H:Hp}{b:Addr}{o:Obj}(e:h.get? b=some o) (n:H b=none):(lM h H).get? b=some o :=
 PySem.W.hideAll_get _ e fun hm=>by
  have q:(H b).isSome=true:=(aiE.mp hm).2
  rw[n]at q;simp at q
theorem VO{h:Heap}{H:Hp}{b:Addr}{o:Obj}(e:(lM h H).get? b=some o):h.get? b=some o∧H b=none:=by
 have e':h.get? b=some o:=PySem.W.of_hideAll (wB h H) e
 refine⟨e',?_⟩
 cases q:H b with
 |none=>rfl
 |some x =>
  have hm:b∈wB h H:=aiE.mpr ⟨ahn.mpr (ahq e'),by simp[q]⟩
  have z:(lM h H).get? b=none:=PySem.W.hideAll_none (wB h H) hm
  rw[z]at e;cases e
end L2
namespace L2
open PySem PySem.Spec PyProof.Rows
structure Mod (K:PySem.W.Frag) (mg:Str→Option Value) (base:Heap):Prop where
 pB:K.In base
 glob:base.Ns mainGlobals mg
 blt:∃mb,base.Ns builtinsNs mb∧∀x:Str,x≠"__name__"→mb x=bootBuiltins x
 nolimit:base.NoLimit
 bmod:∃bm ob,mg "__builtins__"=some (.ref bm)∧bm≠builtinsNs∧base.get? bm=some ob∧ob.cls=.type "module"∧ob.dict=some builtinsNs∧ob.data=.plain
structure Cx where
 prog:Program
 w:World
 K:PySem.W.Frag
 mg:Str→Option Value
 base:Heap
 A:Around
 N:List Str
 s₀:Shared
 H₀:Hp
 env:Env
 outer:List Env
 stack:List Env
 ex:List Addr
 fn:Str→Bool
 calm:Bool
 pn:List (Addr×Obj)
 xe:Value→Shared→Prop
def frs(l:List Env):List Addr:=l.filterMap (·.frame)
abbrev Cx.fs(X:Cx):List Addr:=frs X.outer
def zD(sc:Scope) (x:Str):Prop:=sc.names.lookup x=some .local∨sc.names.lookup x=some .cell∨sc.names.lookup x=some .free
def Loc(sc:Scope) (x:Str):Prop:=sc.names.lookup x=some .local∨sc.names.lookup x=some .cell
def Look(env:Env) (h:Heap) (m:Str→Option Value) (x:Str) (u:Value):Prop :=
 (env.kindOf x=some .local∧m x=some u)∨((env.kindOf x=some .cell∨env.kindOf x=some .free)∧∃c,env.cells.lookup x=some c∧h.IsCell c (some u))
structure Cx.Ok (X:Cx):Prop where
 mod:Mod X.K X.mg X.base
 kind:X.env.scope.kind=.function
 glob:X.env.globals=mainGlobals
 blt:X.env.builtins=builtinsNs
 above:X.s₀.heap.objs.size≤X.env.locals
 inj:∀x y c,X.env.cells.lookup x=some c→X.env.cells.lookup y=some c→x=y
 has:∀x,(X.env.kindOf x=some .cell∨X.env.kindOf x=some .free)→∃c,X.env.cells.lookup x=some c
 pV:∀x c,X.fn x=true→X.env.cells.lookup x=some c→X.s₀.heap.objs.size≤c
 hd:X.calm=true→X.A.handled=none
 frames:X.A.frames=some X.stack
 stk:X.stack=X.outer∨(X.stack=X.env::X.outer∧X.env.frame=some X.env.locals)
 vq:∀b∈X.ex,b≠X.env.locals∧∀x c,X.env.cells.lookup x=some c→c≠b
 bs:∀b o,X.base.get? b=some o→X.s₀.heap.get? b=some o∧X.H₀ b=none
 kB:X.base.objs.size≤X.s₀.heap.objs.size
 kZ:∀b o,X.base.get? b=some o→b∉X.ex
 sC:∀b∈X.ex,b∉X.fs
 jC:X.s₀.heap.FunFrames X.base X.outer
 sf:∀b∈X.fs,X.H₀ b=none
structure Inv (X:Cx) (pins:List (Addr×Obj)) (σ:List (Option V)) (H:Hp) (s:Shared):Prop where
 ok:X.Ok
 os:s.os=X.s₀.os
 bare:AllBare s.gens
 base:Un X.fs X.ex X.H₀ H X.s₀.heap s.heap
 loc:∃m,s.heap.Ns X.env.locals m∧∀(i:Nat) (x:Str) (v:V),X.N[i]? = some x→σ[i]? = some (some v)→zD X.env.scope x→∃u,RelV v u∧Look X.env s.heap m x u
 cell:∀x c,X.env.cells.lookup x=some c→∃v,s.heap.IsCell c v
 free:H X.env.locals=none
 jc:∀x c,X.env.cells.lookup x=some c→H c=none
 pin:∀p∈X.pn++pins,s.heap.get? p.1=some p.2∧H p.1=none∧p.1≠X.env.locals∧p.1∉X.fs∧∀v,p.2.data≠.cell v
 hok:d7 X.prog X.w H s.heap
 len:σ.length=X.N.length
section
variable {X:Cx}{pins:List (Addr×Obj)}{σ:List (Option V)}{H H':Hp}{s:Shared}{h':Heap}
theorem Cx.Ok.Xy(ok:X.Ok) {b:Addr}{o:Obj}(e:X.base.get? b=some o):b∉X.fs:=fun hb=>by
 have:=(ok.jC.mem hb).1
 rw[e]at this;cases this
theorem Inv.bs(I:Inv X pins σ H s):∀b o,X.base.get? b=some o→s.heap.get? b=some o∧H b=none:=fun b o e =>
 ⟨I.base.keep b o (I.ok.bs b o e).1 (I.ok.bs b o e).2 (I.ok.Xy e) (I.ok.kZ b o e),I.base.free b o (I.ok.bs b o e).1 (I.ok.bs b o e).2 (I.ok.kZ b o e)⟩
theorem Inv.bk(I:Inv X pins σ H s):∀b o,X.base.get? b=some o→s.heap.get? b=some o:=fun b o e=>(I.bs b o e).1
theorem Inv.mod(I:Inv X pins σ H s):Mod X.K X.mg X.base:=I.ok.mod
theorem Inv.gh(I:Inv X pins σ H s):X.K.In s.heap:=I.ok.mod.pB.keeps I.bk
theorem Inv.lt(I:Inv X pins σ H s):X.env.locals<s.heap.objs.size:=let⟨_,hn,_⟩:=I.loc;hn.lt
theorem Inv.sz(I:Inv X pins σ H s):X.s₀.heap.objs.size≤s.heap.objs.size:=ahN I.ok.above (ajd I.lt)
theorem Inv.Br(I:Inv X pins σ H s) {a:Addr}(h:s.heap.objs.size≤a):a∉X.fs:=fun hb=>by
 obtain⟨_,o,ho,_⟩:=I.ok.jC.mem hb
 exact absurd (ahD (ahq ho) (ahN I.sz h)) (aib _)
theorem Inv.pS(I:Inv X pins σ H s):∀x c,X.env.cells.lookup x=some c→c≠X.env.locals:=fun x c e z=>by
 obtain⟨v,o,ho,hd⟩:=I.cell x c e
 obtain⟨m,⟨o',es,ep,ho',hd',_⟩,_⟩:=I.loc
 rw[z,ho']at ho;cases ho;rw[hd']at hd;cases hd
theorem Inv.jC(I:Inv X pins σ H s):s.heap.FunFrames X.base X.outer:=by
 have all:∀(l:List Env),(∀b∈frs l,b∈X.fs)→X.s₀.heap.FunFrames X.base l→s.heap.FunFrames X.base l:=by
  intro l
  induction l with
  |nil=>intro _ _;trivial
  |cons env r ih =>
   intro hs hl
   obtain⟨hk,⟨L,o,hf,hn,ho,hd⟩,hr⟩:=hl
   have hL:L∈X.fs:=hs L (by unfold frs;rw[aju,hf];exact ahS)
   obtain⟨sl,e⟩:=I.base.slot L o ho (I.ok.sf L hL) hL fun z=>I.ok.sC L z hL
   exact⟨hk,⟨L,_,hf,hn,e,hd⟩,ih (fun b hb=>hs b (by unfold frs;rw[aju,hf];exact ahT _ hb)) hr⟩
 exact all X.outer (fun _ hb=>hb) I.ok.jC
theorem Inv.stack(I:Inv X pins σ H s):s.heap.FunFrames X.base X.stack:=by
 rcases I.ok.stk with e|⟨e,hf⟩
 ·rw[e];exact I.jC
 ·rw[e]
  obtain⟨m,hn,_⟩:=I.loc
  refine .cons (by rw[I.ok.kind];decide) hf hn ?_ I.jC
  exact Heap.get?_none_of_le (ahN I.ok.kB I.ok.above)
theorem Inv.qp(I:Inv X pins σ H s):∀b∈frs X.stack,b∈X.env.locals::X.fs:=fun b hb=>by
 rcases I.ok.stk with e|⟨e,hf⟩
 ·rw[e]at hb;exact ahT _ hb
 ·rw[e]at hb
  unfold frs at hb
  rw[aju,hf]at hb
  exact hb
theorem Inv.Ho(I:Inv X pins σ H s):∀b∈frs X.stack,H b=none:=fun b hb=>by
 rcases ahm.mp (I.qp b hb)with e|hb
 ·rw[e];exact I.free
 ·obtain⟨_,o,ho,_⟩:=I.ok.jC.mem hb
  exact I.base.free b o ho (I.ok.sf b hb) fun z=>I.ok.sC b z hb
theorem Inv.step{g':Array GenState}{t':Nat}{d':Drawn}{ch:List Addr}(I:Inv X pins σ H s)
  (hch:∀b∈ch,(b∈X.ex∨X.s₀.heap.objs.size≤b)∧b≠X.env.locals∧(∀x c,X.env.cells.lookup x=some c→c≠b)∧∀p∈X.pn++pins,p.1≠b)
  (keep:∀b o,b≠X.env.locals→b∉X.fs→b∉ch→s.heap.get? b=some o→H b=none→h'.get? b=some o)
  (slot:∀b o,b≠X.env.locals→b∈X.fs→b∉ch→s.heap.get? b=some o→H b=none→∃sl,h'.get? b=some {o with slots:=sl}) (free:∀b o,b∉ch→s.heap.get? b=some o→H b=none→H' b=none)
  (there:∀b o,b∉ch→s.heap.get? b=some o→∃o',h'.get? b=some o')
  (tups:∀b xs,H b=some (.tup xs)→H' b=some (.tup xs)) (j9:∀b o u,H b=some (.fF o u)→H' b=some (.fF o u)) (jN:∀b ps,H b=some (.fu ps)→∃more,H' b=some (.fu (ps++more)))
  (ns:∀m,s.heap.Ns X.env.locals m→h'.Ns X.env.locals m) (hok:d7 X.prog X.w H' h') (hg:AllBare g') :
  Inv X pins σ H' {s with heap:=h',gens:=g',drawn:=d',toks:=t'}:=by
 have Jh:∀b o,X.s₀.heap.get? b=some o→b≠X.env.locals:=fun b o e=>ahw (ahD (ahq e) I.ok.above)
 have xR:∀b o,X.s₀.heap.get? b=some o→b∉X.ex→b∉ch:=fun b o e hx hb=>by
  rcases(hch b hb).1 with z|z
  ·exact hx z
  ·exact absurd (ahD (ahq e) z) (aib _)
 have cellK:∀x c,X.env.cells.lookup x=some c→∀v,s.heap.IsCell c v→h'.IsCell c v:=fun x c e v ⟨o,ho,hd⟩=>by
  have ju:c∉ch:=fun z=>(hch c z).2.2.1 x c e rfl
  by_cases hc:c∈X.fs
  ·obtain⟨sl,q⟩:=slot c o (I.pS x c e) hc ju ho (I.jc x c e)
   exact⟨_,q,hd⟩
  ·exact⟨o,keep c o (I.pS x c e) hc ju ho (I.jc x c e),hd⟩
 refine⟨I.ok,I.os,hg,⟨fun b o e n hb hx=>?_,fun b o e n hb hx=>?_,fun b o e n hx=>?_,fun b o e hx=>?_,fun b xs e=>tups b xs (I.base.tups b xs e),fun b o xs e=>j9 b o xs (I.base.j9 b o xs e),fun b ps e=>?_⟩,?_,fun x c e=>?_,?_,fun x c e=>?_,fun p hp=>?_,hok,I.len⟩
 ·exact keep b o (Jh b o e) hb (xR b o e hx) (I.base.keep b o e n hb hx) (I.base.free b o e n hx)
 ·obtain⟨sl,e1⟩:=I.base.slot b o e n hb hx
  obtain⟨Q8,e2⟩:=slot b _ (Jh b o e) hb (xR b o e hx) e1 (I.base.free b o e n hx)
  exact⟨Q8,e2⟩
 ·obtain⟨o',e1⟩:=I.base.there b o e hx
  exact free b o' (xR b o e hx) e1 (I.base.free b o e n hx)
 ·obtain⟨o',e1⟩:=I.base.there b o e hx
  exact there b o' (xR b o e hx) e1
 ·obtain⟨m1,e1⟩:=I.base.jN b ps e
  obtain⟨m2,e2⟩:=jN b _ e1
  exact⟨m1++m2,by rw[e2,Array.append_assoc]⟩
 ·obtain⟨m,hn,hl⟩:=I.loc
  refine⟨m,ns m hn,fun i x v e1 e2 e3=>?_⟩
  obtain⟨u,r,l⟩:=hl i x v e1 e2 e3
  refine⟨u,r,?_⟩
  rcases l with l|⟨k,c,e,z⟩
  ·exact .inl l
  ·exact .inr ⟨k,c,e,cellK x c e _ z⟩
 ·obtain⟨v,z⟩:=I.cell x c e
  exact⟨v,cellK x c e v z⟩
 ·obtain⟨m,⟨o,_,_,ho,_⟩,_⟩:=I.loc
  exact free _ o (fun z=>(hch _ z).2.1 rfl) ho I.free
 ·obtain⟨v,o,ho,hd⟩:=I.cell x c e
  exact free c o (fun z=>(hch c z).2.2.1 x c e rfl) ho (I.jc x c e)
 ·obtain⟨e,n,ne,nf,d⟩:=I.pin p hp
  have ju:p.1∉ch:=fun z=>(hch p.1 z).2.2.2 p hp rfl
  exact⟨keep p.1 p.2 ne nf ju e n,free p.1 p.2 ju e n,ne,nf,d⟩
theorem Inv.un{t':Nat}(I:Inv X pins σ H s) (u:Un X.fs [] H H' s.heap h') (hok:d7 X.prog X.w H' h'):Inv X pins σ H' {s with heap:=h',toks:=t'}:=by
 obtain⟨m,⟨o,es,ep,ho,r⟩,_⟩:=id I.loc
 obtain⟨sl,hL⟩:=u.any ho I.free (by simp)
 exact I.step (g':=s.gens) (d':=s.drawn) (ch:=[]) (fun _ z=>nomatch z) (fun b o _ hb _ e n=>u.keep b o e n hb (by simp)) (fun b o _ hb _ e n=>u.slot b o e n hb (by simp)) (fun b o _ e n=>u.free b o e n (by simp)) (fun b o _ e=>u.there b o e (by simp)) u.tups u.j9 u.jN (fun m' hm=>by
  obtain⟨o',es',EC,ho',r'⟩:=hm
  rw[ho]at ho';cases ho'
  exact⟨_,es',EC,hL,r'⟩) hok I.bare
theorem Inv.call{g':Array GenState}{t':Nat}{d':Drawn}{ch:List Addr}(I:Inv X pins σ H s) (u:Un (frs X.stack) ch H H' s.heap h') (hok:d7 X.prog X.w H' h') (hg:AllBare g')
  (hch:∀b∈ch,(b∈X.ex∨X.s₀.heap.objs.size≤b)∧b≠X.env.locals∧(∀x c,X.env.cells.lookup x=some c→c≠b)∧∀p∈X.pn++pins,p.1≠b) :
  Inv X pins σ H' {s with heap:=h',gens:=g',drawn:=d',toks:=t'}:=by
 obtain⟨m,⟨o,es,ep,ho,r⟩,_⟩:=id I.loc
 obtain⟨sl,hL⟩:=u.any ho I.free fun z=>(hch _ z).2.1 rfl
 exact I.step (ch:=ch) hch (fun b o hL hb hc e n=>u.keep b o e n (fun z=>(ahm.mp (I.qp b z)).elim hL hb) hc) (fun b o _ _ hc e n=>u.any e n hc) (fun b o hc e n=>u.free b o e n hc) (fun b o hc e=>u.there b o e hc) u.tups u.j9 u.jN (fun m' hm=>by
  obtain⟨o',es',EC,ho',r'⟩:=hm
  rw[ho]at ho';cases ho'
  exact⟨_,es',EC,hL,r'⟩) hok hg
theorem Inv.turned{t':Nat}{it:Addr}(I:Inv X pins σ H s) (k:∀b o,b≠it→s.heap.get? b=some o→h'.get? b=some o) (hn:H it=none) (hL:it≠X.env.locals)
  (h1:it∈X.ex∨X.s₀.heap.objs.size≤it) (h2:∀x c,X.env.cells.lookup x=some c→c≠it) (h3:∀p∈X.pn++pins,p.1≠it):Inv X pins σ H {s with heap:=h',toks:=t'}:=by
 have Je:∀b u,H b=some u→b≠it:=fun b u e z=>by rw[z,hn]at e;cases e
 refine I.step (g':=s.gens) (d':=s.drawn) (ch:=[it]) (fun b hb=>?_) (fun b o _ _ hc e _=>k b o (fun z=>hc (by simp[z])) e) (fun b o _ _ hc e _=>⟨o.slots,k b o (fun z=>hc (by simp[z])) e⟩) (fun _ _ _ _ n=>n)
  (fun b o hc e=>⟨o,k b o (fun z=>hc (by simp[z])) e⟩) (fun _ _ e=>e) (fun _ _ _ e=>e) (fun b ps e=>⟨#[],by rw[e];simp⟩) (fun m hm=>?_) (fun b u e=>?_) I.bare
 ·have e:b=it:=by simpa using hb
  subst e
  exact⟨h1,hL,h2,h3⟩
 ·obtain⟨o,es,ep,ho,r⟩:=hm
  exact⟨o,es,ep,k _ o (ah7 hL) ho,r⟩
 ·refine(I.hok b u e).stay (fun c v hc q=>k c v ?_ q) (fun _ q=>q) fun _ _ q=>q
  rcases hc with z|z
  ·rw[z];exact Je b u e
  ·exact Je c _ z
theorem Inv.tok(I:Inv X pins σ H s) (t:Nat):Inv X pins σ H {s with toks:=t}:=I.un (h':=s.heap) (t':=t) Un.refl I.hok
theorem Inv.kept{t':Nat}(I:Inv X pins σ H s) (k:∀b u,s.heap.get? b=some u→h'.get? b=some u):Inv X pins σ H {s with heap:=h',toks:=t'}:=I.un (Un.kept k) (I.hok.kept k)
theorem Inv.laid{a:Addr}{o:HO}{t':Nat}(I:Inv X pins σ H s) (k:∀b u,s.heap.get? b=some u→h'.get? b=some u) (hp:s.heap.objs.size≤a) (new:eS X.prog X.w (upd H a o) h' a o) :
  Inv X pins σ (upd H a o) {s with heap:=h',toks:=t'}:=I.un (Un.laid k hp (I.hok.fresh hp)) (I.hok.laid k hp new)
theorem Inv.write{x e:Addr}{o:HO}{t':Nat}(I:Inv X pins σ H s) (mu:vS (H x)) (he:e=x∨H e=some (.own x)) (k:∀b u,b≠e→s.heap.get? b=some u→h'.get? b=some u) (r8:∃u,h'.get? e=some u)
  (new:eS X.prog X.w (upd H x o) h' x o):Inv X pins σ (upd H x o) {s with heap:=h',toks:=t'}:=I.un (Un.write mu he k r8) (I.hok.write mu he k r8 new)
theorem Inv.xm{A5:List (Addr×Obj)}(I:Inv X pins σ H s) (h:∀p∈A5,s.heap.get? p.1=some p.2∧H p.1=none∧p.1≠X.env.locals∧p.1∉X.fs∧∀v,p.2.data≠.cell v):Inv X A5 σ H s :=
 ⟨I.ok,I.os,I.bare,I.base,I.loc,I.cell,I.free,I.jc,fun p hp=>(ahZ.mp hp).elim (fun z=>I.pin p (ak9 _ z)) (h p),I.hok,I.len⟩
theorem I0{N:List Str}(hN:N.Nodup) {i j:Nat}{x:Str}(a:N[i]? = some x) (b:N[j]? = some x):i=j:=by
 obtain⟨h1,e1⟩:=ahz.mp a
 obtain⟨h2,e2⟩:=ahz.mp b
 exact(aiv hN).mp (e1.trans e2.symm)
theorem Hj{M:Model}{A:Around}{E:Value→Shared→Prop}{i:Nat}{x:Str}{v:V}{u:Value}{Q:Unit→Shared→Prop}(I:Inv X pins σ H s) (hN:X.N.Nodup) (hi:X.N[i]? = some x) (hx:Loc X.env.scope x) (r:RelV v u)
  (h:∀s',Inv X pins (σ.set i (some v)) H s'→(∃a,Heap.SameBut a s.heap s'.heap∧(a=X.env.locals∨X.env.cells.lookup x=some a))→Q () s') (hf:X.fn x=true∨X.env.scope.names.lookup x=some .local:=by first|exact .inl rfl|exact .inr rfl|assumption):wpAny M A (storeName X.env x u) Q E s:=by
 obtain⟨m,hn,hl⟩:=id I.loc
 have hcls:(X.env.scope.kind == .class||(X.env.scope.kind == .module&&X.env.locals != X.env.globals))=false:=by rw[I.ok.kind];rfl
 have KR:i<σ.length:=by rw[I.len];exact(ahz.mp hi).1
 have pS:=I.pS
 have tracked:∀{a:Addr}{h':Heap},(∃o,s.heap.get? a=some o∧H a=none)→Heap.SameBut a s.heap h'→d7 X.prog X.w H h':=fun{a h'} ha hs b ob e=>by
  obtain⟨_,_,hfree⟩:=ha
  refine(I.hok b ob e).stay (fun c w' hc q=>(hs.2 c ?_).trans q) (fun _ q=>q) fun _ _ q=>q
  rintro rfl
  rcases hc with rfl|hc
  ·rw[hfree]at e;cases e
  ·rw[hfree]at hc;cases hc
 rcases hx with hk|hk
 ·refine wpAny_storeName_local hk hn (fun h' hn' hs=>?_) hcls
  obtain⟨oL,_,_,lK,_⟩:=id hn
  refine h _ ⟨I.ok,I.os,I.bare,⟨fun b o e n hb hx=>?_,fun b o e n hb hx=>?_,I.base.free,fun b o e hx=>?_,I.base.tups,I.base.j9,I.base.jN⟩,⟨_,hn',fun j y v' e1 e2 e3=>?_⟩,fun y c e=>?_,I.free,I.jc,fun p hp=>?_,tracked ⟨oL,lK,I.free⟩ hs,by simpa using I.len⟩ ⟨_,hs,.inl rfl⟩
  ·exact(hs.2 b (ahw (ahD (ahq e) I.ok.above))).trans (I.base.keep b o e n hb hx)
  ·obtain⟨sl,e1⟩:=I.base.slot b o e n hb hx
   exact⟨sl,(hs.2 b (ahw (ahD (ahq e) I.ok.above))).trans e1⟩
  ·obtain⟨o',e1⟩:=I.base.there b o e hx
   exact⟨o',(hs.2 b (ahw (ahD (ahq e) I.ok.above))).trans e1⟩
  ·by_cases hj:j=i
   ·subst hj
    rw[hi]at e1;cases e1
    rw[aiw KR]at e2
    cases e2
    exact⟨u,r,.inl ⟨hk,by simp⟩⟩
   ·rw[aiI (ah7 hj)]at e2
    obtain⟨u',r',q⟩:=hl j y v' e1 e2 e3
    refine⟨u',r',?_⟩
    rcases q with⟨k,e⟩|⟨k,c,e,z⟩
    ·refine .inl ⟨k,?_⟩
     have:y≠x:=fun e=>hj (I0 hN e1 (e▸hi))
     simp[this,e]
    ·exact .inr ⟨k,c,e,z.sameBut hs (pS y c e)⟩
  ·obtain⟨w',z⟩:=I.cell y c e
   exact⟨w',z.sameBut hs (pS y c e)⟩
  ·obtain⟨e,n,ne,nf,d⟩:=I.pin p hp
   exact⟨(hs.2 p.1 ne).trans e,n,ne,nf,d⟩
 ·have hfn:X.fn x=true:=by
   rcases hf with z|z
   ·exact z
   ·rw[z]at hk;cases hk
  obtain⟨c,hc⟩:=I.ok.has x (.inl hk)
  obtain⟨w',z⟩:=I.cell x c hc
  refine wpAny_storeName_cell I.ok.kind hk hc z (fun h' hc' hs=>?_)
  obtain⟨oc,hoc,aaS⟩:=id z
  refine h {s with heap:=h'} ⟨I.ok,I.os,I.bare,⟨fun b o e n hb hx=>?_,fun b o e n hb hx=>?_,I.base.free,fun b o e hx=>?_,I.base.tups,I.base.j9,I.base.jN⟩,⟨m,hn.sameBut hs (ah7 (pS x c hc)),fun j y v' e1 e2 e3=>?_⟩,fun y c' e=>?_,I.free,I.jc,fun p hp=>?_,tracked ⟨oc,hoc,I.jc x c hc⟩ hs,by simpa using I.len⟩ ⟨c,hs,.inr hc⟩
  ·exact(hs.2 b (ahw (ahD (ahq e) (I.ok.pV x c hfn hc)))).trans (I.base.keep b o e n hb hx)
  ·obtain⟨sl,e1⟩:=I.base.slot b o e n hb hx
   exact⟨sl,(hs.2 b (ahw (ahD (ahq e) (I.ok.pV x c hfn hc)))).trans e1⟩
  ·obtain⟨o',e1⟩:=I.base.there b o e hx
   exact⟨o',(hs.2 b (ahw (ahD (ahq e) (I.ok.pV x c hfn hc)))).trans e1⟩
  ·by_cases hj:j=i
   ·subst hj
    rw[hi]at e1;cases e1
    rw[aiw KR]at e2
    cases e2
    exact⟨u,r,.inr ⟨.inl hk,c,hc,hc'⟩⟩
   ·rw[aiI (ah7 hj)]at e2
    obtain⟨u',r',q⟩:=hl j y v' e1 e2 e3
    refine⟨u',r',?_⟩
    rcases q with q|⟨k,c',e,z'⟩
    ·exact .inl q
    ·refine .inr ⟨k,c',e,z'.sameBut hs ?_⟩
     rintro rfl
     exact hj (I0 hN e1 (I.ok.inj _ _ _ e hc▸hi))
  ·by_cases hcc:c'=c
   ·subst hcc;exact⟨_,hc'⟩
   ·obtain⟨w2,z2⟩:=I.cell y c' e
    exact⟨w2,z2.sameBut hs hcc⟩
  ·obtain⟨e,n,ne,nf,d⟩:=I.pin p hp
   refine⟨(hs.2 p.1 ?_).trans e,n,ne,nf,d⟩
   intro q
   rw[q,hoc]at e
   have q':oc=p.2:=ahJ e
   exact d w' (by rw[←q'];exact aaS)
theorem Hl{M:Model}{A:Around}{E:Value→Shared→Prop}{i:Nat}{x:Str}{v:V}{u:Value}{Q:Unit→Shared→Prop}(I:Inv X pins σ H s) (hN:X.N.Nodup) (hi:X.N[i]? = some x) (hx:Loc X.env.scope x) (r:RelV v u)
  (h:∀s',Inv X pins (σ.set i (some v)) H s'→Q () s') (hf:X.fn x=true∨X.env.scope.names.lookup x=some .local:=by first|exact .inl rfl|exact .inr rfl|assumption):wpAny M A (storeName X.env x u) Q E s :=
 Hj I hN hi hx r (fun s' I' _=>h s' I') hf
theorem Inv.aeh{s':Shared}{ch:List Addr}(I:Inv X pins σ H s) (ho:s'.os=s.os) (u:Un (frs X.stack) ch H H' s.heap s'.heap) (hok:d7 X.prog X.w H' s'.heap) (hg:AllBare s'.gens)
  (hch:∀b∈ch,(b∈X.ex∨X.s₀.heap.objs.size≤b)∧b≠X.env.locals∧(∀x c,X.env.cells.lookup x=some c→c≠b)∧∀p∈X.pn++pins,p.1≠b):Inv X pins σ H' s':=by
 obtain⟨h',g',d',t',o'⟩:=s'
 have e:o'=s.os:=ho
 subst e
 exact I.call (g':=g') (t':=t') (d':=d') u hok hg hch
end
abbrev XK:=Value→Option Addr→Hp→Prop
abbrev St:=List (Option V)
abbrev VK:=V→Hp→Prop
abbrev TE:=St→Hp→VK→Prop
abbrev TT:=St→Hp→(Bool→Hp→Prop)→Prop
abbrev TA:=St→Hp→(List V→Hp→Prop)→Prop
structure Ends where
 nx:St→Hp→Prop
 rt:VK
 bk:St→Hp→Prop:=fun _ _=>False
 ct:St→Hp→Prop:=fun _ _=>False
abbrev TS:=Ends→St→Hp→Prop
def EP(X:Cx) (pins:List (Addr×Obj)) (σ:St) (Q:VK) (u:Value) (s':Shared):Prop:=∃v H',Inv X pins σ H' s'∧RelV v u∧Q v H'
def TP(X:Cx) (pins:List (Addr×Obj)) (σ:St) (Q:Bool→Hp→Prop) (b:Bool) (s':Shared):Prop:=∃H',Inv X pins σ H' s'∧Q b H'
def AP(X:Cx) (pins:List (Addr×Obj)) (σ:St) (Q:List V→Hp→Prop) (us:List Value) (s':Shared):Prop:=∃vs H',Inv X pins σ H' s'∧Vals vs us∧Q vs H'
def SP(X:Cx) (pins:List (Addr×Obj)) (D:Ends) (f:Flow) (s':Shared):Prop :=
 match f with
 |.next=>∃σ' H',Inv X pins σ' H' s'∧D.nx σ' H'
 |.brk=>∃σ' H',Inv X pins σ' H' s'∧D.bk σ' H'
 |.cont=>∃σ' H',Inv X pins σ' H' s'∧D.ct σ' H'
 |.ret u=>∃v σ' H',Inv X pins σ' H' s'∧RelV v u∧D.rt v H'
def PE(X:Cx) (e:Expr) (t:TE):Prop :=
 ∀(pins:List (Addr×Obj)) (s:Shared) (σ:St) (H:Hp) (Q:VK),Inv X pins σ H s→t σ H Q→wpAny (model X.prog X.w) X.A (eval e X.env) (EP X pins σ Q) X.xe s
def PT(X:Cx) (e:Expr) (t:TT):Prop :=
 ∀(pins:List (Addr×Obj)) (s:Shared) (σ:St) (H:Hp) (Q:Bool→Hp→Prop),Inv X pins σ H s→t σ H Q→wpAny (model X.prog X.w) X.A (isTrue e X.env (eval e X.env)) (TP X pins σ Q) X.xe s
def PW(X:Cx) (e:Expr) (t:TT):Prop :=
 ∀(whole:Sem Value) (pins:List (Addr×Obj)) (s:Shared) (σ:St) (H:Hp) (Q:Bool→Hp→Prop),Inv X pins σ H s→t σ H Q→wpAny (model X.prog X.w) X.A (isTrue e X.env whole) (TP X pins σ Q) X.xe s
theorem PW.pt{X:Cx}{e:Expr}{t:TT}(h:PW X e t):PT X e t:=h _
def PA(X:Cx) (es:List Expr) (t:TA):Prop :=
 ∀(pos:Pos) (pins:List (Addr×Obj)) (s:Shared) (σ:St) (H:Hp) (Q:List V→Hp→Prop),Inv X pins σ H s→t σ H Q→wpAny (model X.prog X.w) X.A (spliced (backTo pos (starEach es X.env))) (AP X pins σ Q) X.xe s
def PS(X:Cx) (st:Stmt) (t:TS):Prop :=
 ∀(pins:List (Addr×Obj)) (s:Shared) (σ:St) (H:Hp) (D:Ends),Inv X pins σ H s→t D σ H→wpAny (model X.prog X.w) X.A (exec st X.env) (SP X pins D) X.xe s
def gG(X:Cx) (st:List Stmt) (t:TS):Prop :=
 ∀(pins:List (Addr×Obj)) (s:Shared) (σ:St) (H:Hp) (D:Ends),Inv X pins σ H s→t D σ H→wpAny (model X.prog X.w) X.A (execs st X.env) (SP X pins D) X.xe s
theorem bB{α:Type}{t:Sem α}{Q Q':α→Shared→Prop}{M:Model}{A:Around}{E:Value→Shared→Prop}{s:Shared}(h:wpAny M A t Q E s) (hQ:∀a s,Q a s→Q' a s):wpAny M A t Q' E s:=ahU h hQ fun _ _ x=>x
end L2
namespace L2
open PySem PySem.Spec PyProof.Rows
section
variable {X:Cx}
def qm(i:Nat):TE:=fun σ H Q=>∃v,σ[i]? = some (some v)∧Q v H
def tC(v:V):TE:=fun _ H Q=>Q v H
theorem Il{i:Nat}{x:Str}{pos:Pos}(hN:X.N[i]? = some x) (hv:zD X.env.scope x) (hd:(x==("__debug__":Str))=false:=by decide) (hcd:(x==("__classdict__":Str))=false:=by decide):PE X (.Name x pos) (qm i):=by
 intro pins s σ H Q I h
 obtain⟨v,e,h⟩:=h
 obtain⟨m,hn,hl⟩:=I.loc
 obtain⟨u,r,l⟩:=hl i x v hN e hv
 have fin:EP X pins σ Q u s:=⟨v,H,I,r,h⟩
 rcases l with⟨hk,hm⟩|⟨hk,c,hc,hcell⟩
 ·exact wpAny_Name (wpAny_loadName_local I.ok.kind hk hn hm fin) hd
 ·rcases hk with hk|hk
  ·exact wpAny_Name (wpAny_loadName_cell I.ok.kind hk hc hcell fin) hd
  ·exact wpAny_Name (wpAny_loadName_free I.ok.kind hk hc hcell fin hcd) hd
theorem UD{i j pos}:PE X (.Constant (.int i) j pos) (tC (.int i)):=fun _ _ _ H _ I h=>wpAny_Constant_int ⟨.int i,H,I.tok _,⟨_,rfl⟩,h⟩
theorem UN{b j pos}:PE X (.Constant (.bool b) j pos) (tC (.bl b)):=fun _ _ _ H _ I h=>Constant_bool ⟨.bl b,H,I,rfl,h⟩
theorem UB{j pos}:PE X (.Constant .none j pos) (tC .aG):=fun _ _ _ H _ I h=>Constant_none ⟨.aG,H,I,rfl,h⟩
def Gl(X:Cx) (x:Str):Prop:=X.env.kindOf x=some .globalImplicit
theorem JY{E:Value→Shared→Prop}{pins:List (Addr×Obj)}{s:Shared}{σ:St}{H:Hp}{x:Str}{u:Value}{pos:Pos}{Q:Value→Shared→Prop}(I:Inv X pins σ H s) (hg:Gl X x) (hm:X.mg x=some u) (h:Q u s)
  (hd:(x==("__debug__":Str))=false:=by decide):wpAny (model X.prog X.w) X.A (eval (.Name x pos) X.env) Q E s :=
 ala I.ok.kind hg (Calls.loadGlobal_global (by rw[I.ok.glob];exact I.mod.glob.keeps I.bk) hm h) hd
theorem nu{E:Value→Shared→Prop}{pins:List (Addr×Obj)}{s:Shared}{σ:St}{H:Hp}{x:Str}{u:Value}{pos:Pos}{Q:Value→Shared→Prop}(I:Inv X pins σ H s) (hg:Gl X x) (hm:X.mg x=none) (hv:bootBuiltins x=some u) (h:Q u s)
  (hn:x≠"__name__":=by decide) (hd:(x==("__debug__":Str))=false:=by decide):wpAny (model X.prog X.w) X.A (eval (.Name x pos) X.env) Q E s:=by
 obtain⟨mb,h1,h2⟩:=I.mod.blt
 exact ala I.ok.kind hg (Calls.loadGlobal_builtin (by rw[I.ok.glob];exact I.mod.glob.keeps I.bk) hm (by rw[I.ok.blt];exact h1.keeps I.bk) ((h2 x hn).trans hv) h) hd
theorem UG{x:Str}{v:V}{u:Value}{pos:Pos}(hg:Gl X x) (hm:X.mg x=some u) (r:RelV v u) (hd:(x==("__debug__":Str))=false:=by decide):PE X (.Name x pos) (tC v) :=
 fun _ _ _ H _ I h=>JY I hg hm ⟨v,H,I,r,h⟩ hd
theorem UM{x:Str}{v:V}{u:Value}{pos:Pos}(hg:Gl X x) (hm:X.mg x=none) (hv:bootBuiltins x=some u) (r:RelV v u) (hn:x≠"__name__":=by decide) (hd:(x==("__debug__":Str))=false:=by decide):PE X (.Name x pos) (tC v) :=
 fun _ _ _ H _ I h=>nu I hg hm hv ⟨v,H,I,r,h⟩ hn hd
variable {a b:Expr}{ta tb:TE}{pos:Pos}
def tB(t:TE):TT:=fun σ H Q=>t σ H fun x H1=>∃c,x=.bl c∧Q c H1
theorem SW{e:Expr}{t:TE}(h:PE X e t) (he:∀whole,isTrue e X.env whole=(do let v ←whole;standAt e.pos;holding [v] (truthy v)):=by intro _;rfl):PT X e (tB t):=by
 intro pins s σ H Q I hw
 refine isTrue_plain (bB (h pins s σ H _ I hw) fun v s1 ⟨x,H1,I1,r1,q1⟩=>?_) (he _)
 obtain⟨d,rfl,q⟩:=q1
 cases r1
 exact aiW ⟨H1,I1,q⟩
variable {tA wK:TT}{rest:List Expr}
def P7(t u:TT):TT:=fun σ H Q=>t σ H fun c H1=>if c=true then u σ H1 Q else Q false H1
def PF(t u:TT):TT:=fun σ H Q=>t σ H fun c H1=>if c=true then Q true H1 else u σ H1 Q
def PK(t:TT):TT:=fun σ H Q=>t σ H fun c H1=>Q (!c) H1
theorem SQ(ha:PT X a tA):PW X (.BoolOp .And [a] pos) tA:=by
 intro wh pins s σ H Q I h
 refine isTrue_and (bB (ha pins s σ H Q I h) fun c s1 e=>?_)
 cases c with
 |true=>exact isTrue_and_nil e
 |false=>exact e
theorem SN(ha:PT X a tA):PW X (.BoolOp .Or [a] pos) tA:=by
 intro wh pins s σ H Q I h
 refine isTrue_or (bB (ha pins s σ H Q I h) fun c s1 e=>?_)
 cases c with
 |false=>exact isTrue_or_nil e
 |true=>exact e
theorem SR(ha:PT X a tA) (hb:PW X (.BoolOp .And (b::rest) pos) wK):PW X (.BoolOp .And (a::b::rest) pos) (P7 tA wK):=by
 intro wh pins s σ H Q I h
 refine isTrue_and (bB (ha pins s σ H _ I h) fun c s1 ⟨H1,I1,q1⟩=>?_)
 cases c with
 |true=>exact hb wh pins s1 σ H1 Q I1 q1
 |false=>exact⟨H1,I1,q1⟩
theorem SO(ha:PT X a tA) (hb:PW X (.BoolOp .Or (b::rest) pos) wK):PW X (.BoolOp .Or (a::b::rest) pos) (PF tA wK):=by
 intro wh pins s σ H Q I h
 refine isTrue_or (bB (ha pins s σ H _ I h) fun c s1 ⟨H1,I1,q1⟩=>?_)
 cases c with
 |true=>exact⟨H1,I1,q1⟩
 |false=>exact hb wh pins s1 σ H1 Q I1 q1
theorem SY(ha:PT X a tA):PT X (.UnaryOp .Not a pos) (PK tA):=by
 intro pins s σ H Q I h
 exact isTrue_not (ha pins s σ H (fun c H1=>Q (!c) H1) I h)
def PZ(ta tb:TE):TE:=fun σ H Q=>ta σ H fun x H1=>∃c,x=.bl c∧if c=true then tb σ H1 Q else Q (.bl false) H1
def PJ(ta:TE):TE:=fun σ H Q=>ta σ H fun x H1=>∃c,x=.bl c∧Q (.bl (!c)) H1
theorem Uz{op}{t:TE}(h:PE X a t):PE X (.BoolOp op [a] pos) t:=fun pins s σ H Q I hw=>BoolOp_one (h pins s σ H Q I hw)
theorem UO(ha:PE X a ta) (hb:PE X (.BoolOp .And (b::rest) pos) tb):PE X (.BoolOp .And (a::b::rest) pos) (PZ ta tb):=by
 intro pins s σ H Q I h
 refine BoolOp_and (bB (ha pins s σ H _ I h) fun v s1 ⟨x,H1,I1,r1,q1⟩=>?_)
 obtain⟨c,rfl,q1⟩:=q1
 cases r1
 refine aiW ?_
 cases c with
 |true=>exact hb pins s1 σ H1 Q I1 q1
 |false=>exact⟨.bl false,H1,I1,rfl,q1⟩
theorem UA(ha:PE X a ta):PE X (.UnaryOp .Not a pos) (PJ ta):=by
 intro pins s σ H Q I h
 refine UnaryOp_ (bB (ha pins s σ H _ I h) fun v s1 ⟨x,H1,I1,r1,q1⟩=>?_)
 obtain⟨c,rfl,q1⟩:=q1
 cases r1
 exact not_of (aiW ⟨.bl (!c),H1,I1,rfl,q1⟩)
def PU(t:TT) (ta tb:TE):TE:=fun σ H Q=>t σ H fun c H1=>if c=true then ta σ H1 Q else tb σ H1 Q
theorem UE{c:Expr}(hc:PT X c tA) (ha:PE X a ta) (hb:PE X b tb):PE X (.IfExp c a b pos) (PU tA ta tb):=by
 intro pins s σ H Q I h
 refine wpAny_IfExp (bB (hc pins s σ H _ I h) fun d s1 ⟨H1,I1,q1⟩=>?_)
 cases d with
 |true=>exact ha pins s1 σ H1 Q I1 q1
 |false=>exact hb pins s1 σ H1 Q I1 q1
end
end L2
namespace L2
open PySem PySem.Spec PyProof.Rows
def bw(K:PySem.W.Frag) (H:Hp) (a:Addr) (xs:List V):Prop :=
 Rd H a (.lst xs) ∨
  ∃(o:Obj) (its:Array Value) (n:Nat),K.lookup a=some o∧o.cls=.type "list"∧o.dict=none∧o.data=.seq its n∧its.size≤sizeLine∧Vals xs its.toList
def bX(K:PySem.W.Frag) (H:Hp) (a:Addr) (xs:List V):Prop :=
 Rd H a (.tup xs) ∨
  ∃(o:Obj) (its:Array Value) (n:Nat),K.lookup a=some o∧o.cls=.type "tuple"∧o.data=.seq its n∧its.size≤sizeLine∧Vals xs its.toList
def ae9:Value→Option V
 |.none=>some .aG
 |.bool b=>some (.bl b)
 |.int i _=>some (.int i)
 |.str x _=>some (.str x)
 |.bytes b _=>some (.g7 b)
 |.float b _=>some (.nL b)
 |.ref a=>some (.ref a)
 |.type n=>some (.ty n)
 |_=>none
theorem RelV.abs{x:V}{u:Value}(r:RelV x u):ae9 u=some x:=by
 cases x with
 |aG=>cases r;rfl
 |bl _=>cases r;rfl
 |int _=>obtain⟨t,rfl⟩:=r;rfl
 |str _=>obtain⟨t,rfl⟩:=r;rfl
 |g7 _=>obtain⟨t,rfl⟩:=r;rfl
 |nL _=>obtain⟨t,rfl⟩:=r;rfl
 |ref _=>cases r;rfl
 |ty _=>cases r;rfl
theorem RelV.inj{x y:V}{u:Value}(r:RelV x u) (q:RelV y u):x=y:=ahJ (r.abs.symm.trans q.abs)
theorem Vals.inj:∀{xs ys:List V}{us:List Value},Vals xs us→Vals ys us→xs=ys
 |_,_,_,.nil,.nil=>rfl
 |_,_,_,.cons r t,.cons r' t'=>by rw[r.inj r',Vals.inj t t']
section
variable {X:Cx}{pins:List (Addr×Obj)}{σ:St}{H:Hp}{s:Shared}{a:Addr}{xs ys:List V}
theorem bw.of{K:PySem.W.Frag}(h:H a=some (.lst xs)):bw K H a xs:=.inl (.inl h)
theorem bX.of{K:PySem.W.Frag}(h:H a=some (.tup xs)):bX K H a xs:=.inl (.inl h)
theorem Inv.list(I:Inv X pins σ H s) (h:bw X.K H a xs):∃its:List Value,Vals xs its∧PlainL s.heap a its.toArray∧xs.length≤sizeLine:=by
 rcases h with h|⟨o,its,n,hk,hc,hd,hs,hz,r⟩
 ·obtain⟨z,its,n,r,e⟩:=h.ok I.hok
  exact⟨its,r,⟨_,n,e,rfl,rfl,rfl⟩,z⟩
 ·refine⟨its.toList,r,⟨o,n,I.gh a o hk,hc,hd,by simpa using hs⟩,?_⟩
  have e:=r.length
  simp only[ahO]at e
  omega
theorem Inv.tuple(I:Inv X pins σ H s) (h:bX X.K H a xs):∃its:List Value,Vals xs its∧IsTup s.heap a its.toArray∧xs.length≤sizeLine:=by
 rcases h with h|⟨o,its,n,hk,hc,hs,hz,r⟩
 ·obtain⟨z,its,r,p⟩:=h.ok I.hok
  exact⟨its,r,p.tup,z⟩
 ·refine⟨its.toList,r,⟨o,I.gh a o hk,hc,n,by simpa using hs⟩,?_⟩
  have e:=r.length
  simp only[ahO]at e
  omega
theorem Inv.JK(I:Inv X pins σ H s) (h:bw X.K H a xs) (h':bw X.K H a ys):xs=ys:=by
 obtain⟨its,r,⟨o,n,e,_,_,d⟩,_⟩:=I.list h
 obtain⟨its',r',⟨o',n',e',_,_,d'⟩,_⟩:=I.list h'
 rw[e]at e';cases e'
 rw[d]at d'
 injection d' with d1 _
 have:its=its':=by simpa using congrArg Array.toList d1
 subst this
 exact r.inj r'
theorem Inv.GU(I:Inv X pins σ H s) (h:bX X.K H a xs) (h':bX X.K H a ys):xs=ys:=by
 obtain⟨its,r,⟨o,e,_,n,d⟩,_⟩:=I.tuple h
 obtain⟨its',r',⟨o',e',_,n',d'⟩,_⟩:=I.tuple h'
 rw[e]at e';cases e'
 rw[d]at d'
 injection d' with d1 _
 have:its=its':=by simpa using congrArg Array.toList d1
 subst this
 exact r.inj r'
end
abbrev Cx.jM(X:Cx) (E:Value→Shared→Prop):Cx:={X with xe:=E}
abbrev Cx.rG(X:Cx):Cx:=X.jM fun _ _=>False
theorem Cx.Ok.jM{X:Cx}(ok:X.Ok) (E:Value→Shared→Prop):(X.jM E).Ok :=
 ⟨ok.mod,ok.kind,ok.glob,ok.blt,ok.above,ok.inj,ok.has,ok.pV,ok.hd,ok.frames,ok.stk,ok.vq,ok.bs,ok.kB,ok.kZ,ok.sC,ok.jC,ok.sf⟩
theorem Cx.Ok.mV{X:Cx}{E:Value→Shared→Prop}(ok:(X.jM E).Ok):X.Ok :=
 ⟨ok.mod,ok.kind,ok.glob,ok.blt,ok.above,ok.inj,ok.has,ok.pV,ok.hd,ok.frames,ok.stk,ok.vq,ok.bs,ok.kB,ok.kZ,ok.sC,ok.jC,ok.sf⟩
section
variable {X:Cx}{pins:List (Addr×Obj)}{σ:St}{H:Hp}{s:Shared}{E:Value→Shared→Prop}
theorem Inv.jM(I:Inv X pins σ H s) (E:Value→Shared→Prop):Inv (X.jM E) pins σ H s:=⟨I.ok.jM E,I.os,I.bare,I.base,I.loc,I.cell,I.free,I.jc,I.pin,I.hok,I.len⟩
theorem Inv.mV(I:Inv (X.jM E) pins σ H s):Inv X pins σ H s:=⟨I.ok.mV,I.os,I.bare,I.base,I.loc,I.cell,I.free,I.jc,I.pin,I.hok,I.len⟩
theorem SP.mV{D:Ends}{f:Flow}{s':Shared}(h:SP (X.jM E) pins D f s'):SP X pins D f s':=by
 cases f with
 |next=>obtain⟨σ',H',I,q⟩:=h;exact⟨σ',H',I.mV,q⟩
 |brk=>obtain⟨σ',H',I,q⟩:=h;exact⟨σ',H',I.mV,q⟩
 |cont=>obtain⟨σ',H',I,q⟩:=h;exact⟨σ',H',I.mV,q⟩
 |ret u=>obtain⟨v,σ',H',I,r,q⟩:=h;exact⟨v,σ',H',I.mV,r,q⟩
theorem gG.rG{st:List Stmt}{t:TS}(h:gG X.rG st t):gG X st t:=fun pins s σ H D I hw =>
 ahU (h pins s σ H D (I.jM _) hw) (fun _ _ q=>q.mV) fun _ _ z=>False.elim z
end
section
variable {X:Cx}{st:Stmt}{rest:List Stmt}{t u:TS}{e:Expr}{te:TE}{pos:Pos}
def PM:TS:=fun D σ H=>D.nx σ H
def PB(t u:TS):TS:=fun D σ H=>t {D with nx:=u D} σ H
theorem S3:gG X [] PM:=fun _ _ σ H _ I h=>ajQ ⟨σ,H,I,h⟩
theorem A1(h1:PS X st t) (h2:gG X rest u):gG X (st::rest) (PB t u):=by
 intro pins s σ H D I h
 refine wpAny_execs_cons (bB (h1 pins s σ H {D with nx:=u D} I h) fun f s1 q=>?_)
 cases f with
 |next =>
  obtain⟨σ',H',I',q⟩:=q
  exact h2 pins s1 σ' H' D I' q
 |ret v=>exact q
 |brk=>exact q
 |cont=>exact q
theorem HW(h1:PS X st t):gG X [st] t:=by
 intro pins s σ H D I h
 refine wpAny_execs_cons (bB (h1 pins s σ H D I h) fun f s1 q=>?_)
 cases f with
 |next=>exact ajQ q
 |ret v=>exact q
 |brk=>exact q
 |cont=>exact q
theorem Inv.quiet{pins:List (Addr×Obj)}{σ:St}{H:Hp}{s:Shared}(I:Inv X pins σ H s):interactive X.env=false:=by simp[interactive,I.ok.kind]
def PX(te:TE):TS:=fun D σ H=>te σ H fun _ H1=>D.nx σ H1
theorem S8(he:PE X e te) (hs:swapsWith e none pos.line X.env=pure false:=by rfl):PS X (.Expr e pos) (PX te):=by
 intro pins s σ H D I h
 exact wpAny_Expr_any (bB (he pins s σ H _ I h) fun v s1 ⟨x,H1,I1,r1,q1⟩=>⟨σ,H1,I1,q1⟩) I.quiet hs
def PC(te:TE):TS:=fun D σ H=>te σ H D.rt
theorem S6(he:PE X e te):PS X (.Return (some e) pos) (PC te):=by
 intro pins s σ H D I h
 exact wpAny_Return_some (bB (he pins s σ H _ I h) fun v s1 ⟨x,H1,I1,r1,q1⟩=>⟨x,σ,H1,I1,r1,q1⟩)
def PR(c:TT) (t u:TS):TS:=fun D σ H=>c σ H fun b H1=>if b=true then t D σ H1 else u D σ H1
theorem S7{c:Expr}{a b:List Stmt}{tc:TT}(hc:PT X c tc) (ha:gG X a t) (hb:gG X b u):PS X (.If c a b pos) (PR tc t u):=by
 intro pins s σ H D I h
 refine wpAny_If (bB (hc pins s σ H _ I h) fun d s1 ⟨H1,I1,q1⟩=>?_)
 cases d with
 |true=>exact ha pins s1 σ H1 D I1 q1
 |false=>exact hb pins s1 σ H1 D I1 q1
end
abbrev TG:=V→St→Hp→(St→Hp→Prop)→Prop
abbrev mS:=List V→St→Hp→(St→Hp→Prop)→Prop
def PG(X:Cx) (target:Expr) (t:TG):Prop :=
 ∀(pins:List (Addr×Obj)) (s:Shared) (σ:St) (H:Hp) (v:V) (u:Value) (Q:St→Hp→Prop),Inv X pins σ H s→RelV v u→t v σ H Q →
  wpAny (model X.prog X.w) X.A (assign target X.env u) (fun _ s'=>∃σ' H',Inv X pins σ' H' s'∧Q σ' H') X.xe s
def nX(X:Cx) (ts:List Expr) (t:mS):Prop :=
 ∀(pins:List (Addr×Obj)) (s:Shared) (σ:St) (H:Hp) (vs:List V) (us:List Value) (Q:St→Hp→Prop),Inv X pins σ H s→Vals vs us→t vs σ H Q →
  wpAny (model X.prog X.w) X.A (assignInOrder ((assignEach ts X.env).map (·.2)) us) (fun _ s'=>∃σ' H',Inv X pins σ' H' s'∧Q σ' H') X.xe s
abbrev Gg:=V→V→V→Hp→(Hp→Prop)→Prop
def Nb(X:Cx) (t:Gg):Prop :=
 ∀(pins:List (Addr×Obj)) (s:Shared) (σ:St) (H:Hp) (o i v:V) (ov iv u:Value) (Q:Hp→Prop),Inv X pins σ H s→RelV o ov→RelV i iv→RelV v u→t o i v H Q →
  wpAny (model X.prog X.w) X.A (setItem ov iv u) (fun _ s'=>∃H',Inv X pins σ H' s'∧Q H') X.xe s
section
variable {X:Cx}{pos:Pos}
def vn(i:Nat):TG:=fun v σ H Q=>Q (σ.set i (some v)) H
theorem A7{i:Nat}{x:Str}(hN:X.N.Nodup) (hi:X.N[i]? = some x) (hx:Loc X.env.scope x) (hf:X.fn x=true∨X.env.scope.names.lookup x=some .local:=by first|exact .inl rfl|exact .inr rfl|assumption):PG X (.Name x pos) (vn i):=by
 intro pins s σ H v u Q I r h
 exact wpAny_assign_Name (Hl I hN hi hx r (fun s' I'=>⟨_,H,I',h⟩) hf)
def Lc:mS:=fun vs σ H Q=>vs=[]∧Q σ H
def DR(t:TG) (u:mS):mS:=fun vs σ H Q=>∃v r,vs=v::r∧t v σ H fun σ' H'=>u r σ' H' Q
theorem Ih:nX X [] Lc:=by
 intro pins s σ H vs us Q I r h
 obtain⟨e,h⟩:=h
 subst e
 cases r
 exact assignInOrder_nil ⟨σ,H,I,h⟩
theorem A6{e:Expr}{es:List Expr}{t:TG}{u:mS}(h1:PG X e t) (h2:nX X es u)
  (hs:(assignEach (e::es) X.env).map (·.2)=assign e X.env::(assignEach es X.env).map (·.2):=by rfl):nX X (e::es) (DR t u):=by
 intro pins s σ H vs us Q I r h
 obtain⟨v,vr,e1,h⟩:=h
 subst e1
 cases r with
 |cons r rr =>
  rw[hs]
  refine assignInOrder_cons (bB (h1 pins s σ H _ _ _ I r h) fun _ s1 ⟨σ1,H1,I1,q1⟩=>?_)
  exact h2 pins s1 σ1 H1 _ _ Q I1 rr q1
def Lb(K:PySem.W.Frag) (n:Nat) (t:mS):TG:=fun v σ H Q=>∃a xs,v=.ref a∧bX K H a xs∧xs.length=n∧t xs σ H Q
theorem Ii{es:List Expr}{k:Nat}{t:mS}{n:Nat}(hc:X.calm=true) (h:nX X es t)
  (hn:(assignEach es X.env).length=n:=by rfl) (hst:(assignEach es X.env).findIdx? (·.1)=none:=by rfl):PG X (.Tuple es k pos) (Lb X.K n t):=by
 intro pins s σ H v u Q I r hw
 obtain⟨a,xs,e1,hq,hl,hw⟩:=hw
 subst e1
 cases r
 obtain⟨its,rv,ht,hz⟩:=I.tuple hq
 refine assign_Tuple_tuple (I.ok.hd hc) ht (by simp[hn,←hl,rv.length]) hst fun h' hx=>?_
 have I1:Inv X pins σ H {s with heap:=h'}:=I.kept (t':=s.toks) fun b o e=>hx b o (ahw (ahq e)) e
 exact h pins _ σ H xs _ Q I1 (by simpa using rv) hw
def abH(to ti:TE) (t:Gg):TG:=fun v σ H Q=>to σ H fun o H1=>ti σ H1 fun i H2=>t o i v H2 fun H3=>Q σ H3
theorem Uu{o i:Expr}{to ti:TE}{t:Gg}(ho:PE X o to) (hi:PE X i ti) (hs:Nb X t)
  (ha:∀v,assign (.Subscript o i pos) X.env v=(do
   let ov ←holding [v] (eval o X.env)
   let iv ←holding [v,ov] (eval i X.env)
   standAt pos
   holding [v,ov,iv] (setItem ov iv v)
   release [v,ov,iv] []):=by intro _;rfl):PG X (.Subscript o i pos) (abH to ti t):=by
 intro pins s σ H v u Q I r h
 rw[ha]
 refine ahk (aif (bB (ho pins s σ H _ I h) fun ov s1 ⟨x,H1,I1,r1,q1⟩=>?_))
 refine ahk (aif (bB (hi pins s1 σ H1 _ I1 q1) fun iv s2 ⟨y,H2,I2,r2,q2⟩=>?_))
 refine ahk (akj (ahk (aif (bB (hs pins s2 σ H2 x y v ov iv u _ I2 r1 r2 r q2) fun _ s3 ⟨H3,I3,q3⟩=>?_))))
 exact wpAny_release ⟨σ,H3,I3,q3⟩
def AD(te:TE) (g:TG):TS:=fun D σ H=>te σ H fun x H1=>g x σ H1 D.nx
theorem Tc{tg e:Expr}{te:TE}{g:TG}(he:PE X e te) (hg:PG X tg g) (hs:swapsWithSole [tg] e pos.line X.env=pure false:=by rfl) (hw:swappedStores [tg] e X.env=pure none:=by rfl)
  (h1:(assignEach [tg] X.env).map (·.2)=[assign tg X.env]:=by rfl):PS X (.Assign [tg] e pos) (AD te g):=by
 intro pins s σ H D I h
 refine wpAny_Assign_stores (bB (he pins s σ H _ I h) fun v s1 ⟨x,H1,I1,r1,q1⟩=>?_) hs hw
 rw[h1]
 exact bB (hg pins s1 σ H1 x v _ I1 r1 q1) fun _ s2 q=>q
theorem HX{i:Nat}{x:Str}{e:Expr}{te:TE}{pos':Pos}(hN:X.N.Nodup) (hi:X.N[i]? = some x) (hx:Loc X.env.scope x) (he:PE X e te) (hs:swapsWith e (some (.Name x pos')) pos.line X.env=pure false:=by rfl) (hf:X.fn x=true∨X.env.scope.names.lookup x=some .local:=by first|exact .inl rfl|exact .inr rfl|assumption) :
  PS X (.Assign [.Name x pos'] e pos) (AD te (vn i)):=by
 intro pins s σ H D I h
 refine wpAny_Assign_Name (bB (he pins s σ H _ I h) fun v s1 ⟨y,H1,I1,r1,q1⟩=>?_) hs
 exact Hl I1 hN hi hx r1 (fun s2 I2=>⟨_,H1,I2,q1⟩) hf
end
section
variable {X:Cx}{pos:Pos}
def Pr(c:TT) (tb:TS):TS:=fun D σ H=>∃W:Nat→St→Hp→Prop,(∃m,W m σ H)∧∀m σ H,W m σ H →
 c σ H fun b H1=>if b=true then ∃N:St→Hp→Prop,(∀σ' H',N σ' H'→∃m',m'<m∧W m' σ' H')∧tb {D with nx:=N,ct:=N,bk:=D.nx} σ H1 else D.nx σ H1
theorem S4{c:Expr}{body:List Stmt}{tc:TT}{tb:TS}(hp:PassesOwn (model X.prog X.w) X.A X.env X.xe) (hc:PT X c tc) (hb:gG X body tb):PS X (.While c body [] pos) (Pr tc tb):=by
 intro pins s σ H D I h
 obtain⟨W,⟨m0,w0⟩,turn⟩:=h
 refine wpAny_While (codeAny_whileLoop (fun n s'=>∃σ' H',Inv X pins σ' H' s'∧W n σ' H') ?_ m0 ⟨σ,H,I,w0⟩)
 rintro n s1 ⟨σ1,H1,I1,w1⟩
 refine aiX hp (bB (hc pins s1 σ1 H1 _ I1 (turn n σ1 H1 w1)) fun b s2 ⟨H2,I2,q2⟩=>?_)
 cases b with
 |true =>
  obtain⟨N,hN,q2⟩:=q2
  rw[if_pos rfl]
  refine aiX hp (bB (hb pins s2 σ1 H2 _ I2 q2) fun f s3 q3=>?_)
  cases f with
  |next =>
   obtain⟨σ3,H3,I3,n3⟩:=q3
   obtain⟨m',hm,w3⟩:=hN σ3 H3 n3
   exact⟨m',hm,σ3,H3,I3,w3⟩
  |cont =>
   obtain⟨σ3,H3,I3,n3⟩:=q3
   obtain⟨m',hm,w3⟩:=hN σ3 H3 n3
   exact⟨m',hm,σ3,H3,I3,w3⟩
  |brk=>exact q3
  |ret v=>exact q3
 |false =>
  rw[if_neg ahG]
  exact ajQ ⟨σ1,H2,I2,q2⟩
end
structure It where
 go:Nat→Hp→Prop
 qe:Nat→Hp→V→Hp→Prop
 stop:Nat→Hp→Prop
def gH(X:Cx) (pins:List (Addr×Obj)) (H:Hp) (b:Addr):Prop :=
 H b=none∧b≠X.env.locals∧b∉X.fs∧(b∈X.ex∨X.s₀.heap.objs.size≤b)∧(∀x c,X.env.cells.lookup x=some c→c≠b)∧∀p∈X.pn++pins,p.1≠b
theorem Inv.yp{X:Cx}{pins:List (Addr×Obj)}{σ:St}{H H':Hp}{s:Shared}{b:Addr}(I:Inv X pins σ H s) (hb:s.heap.objs.size≤b) (hn:H' b=none):gH X pins H' b:=by
 refine⟨hn,ah0 (ahD I.lt hb),I.Br hb,.inr (ahN I.sz hb),fun x c e z=>?_,fun p hp z=>?_⟩
 ·obtain⟨v,q⟩:=I.cell x c e
  exact absurd (ahD q.lt (by rw[z];exact hb)) (aib _)
 ·exact absurd (ahD (ahq (I.pin p hp).1) (by rw[z];exact hb)) (aib _)
structure Turn (P:Program) (w:World) (K:PySem.W.Frag) (tg:Expr) (J:It) (fp:List Addr) (it:Addr) (tn:Nat→Heap→Prop):Prop where
 mem:it∈fp
 obj:∀i h,tn i h→∀b∈fp,∃o,h.get? b=some o∧∀v,o.data≠.cell v
 keep:∀i h h',tn i h→(∀b∈fp,∀o,h.get? b=some o→h'.get? b=some o)→tn i h'
 item:∀(X:Cx),X.prog=P→X.w=w→X.K=K→X.calm=true→∀(i:Nat) (pins:List (Addr×Obj)) (s:Shared) (σ:St) (H:Hp) (E:Value→Shared→Prop),Inv X pins σ H s→(∀b∈fp,gH X pins H b)→tn i s.heap→J.go i H →
  wpAny (model P w) X.A (pyNext (.ref it)) (fun r s1=>∃u,r=some u ∧
   wpAny (model P w) X.A (letOwnedTupleGo tg (.ref it) u) (fun _ s2=>∃x H',Inv X pins σ H' s2∧RelV x u∧J.qe i H x H'∧tn (i+1) s2.heap∧∀b∈fp,H' b=none) E s1) E s
 done:∀(X:Cx),X.prog=P→X.w=w→X.K=K→X.calm=true→∀(i:Nat) (pins:List (Addr×Obj)) (s:Shared) (σ:St) (H:Hp) (E:Value→Shared→Prop),Inv X pins σ H s→(∀b∈fp,gH X pins H b)→tn i s.heap→J.stop i H →
  wpAny (model P w) X.A (pyNext (.ref it)) (fun r s1=>r=none∧Inv X pins σ H s1) E s
 self:∀(A:Around) (i:Nat) (s:Shared) (Q:Value→Shared→Prop) (E:Value→Shared→Prop),tn i s.heap→Q (.ref it) s→wpAny (model P w) A (pyIter (.ref it)) Q E s
abbrev TI:=St→Hp→(It→Hp→Prop)→Prop
def Nc(X:Cx) (pins:List (Addr×Obj)) (σ:St) (tg:Expr) (R:It→Hp→Prop) (itv:Value) (s2:Shared):Prop :=
 ∃(it:Addr) (fp:List Addr) (tn:Nat→Heap→Prop) (J:It) (H':Hp),itv=.ref it∧Inv X pins σ H' s2∧Turn X.prog X.w X.K tg J fp it tn∧tn 0 s2.heap∧(∀b∈fp,gH X pins H' b)∧R J H'
def PI(X:Cx) (tg iter:Expr) (wi:TI):Prop :=
 ∀(pins:List (Addr×Obj)) (s:Shared) (σ:St) (H:Hp) (R:It→Hp→Prop),Inv X pins σ H s→wi σ H R →
  wpAny (model X.prog X.w) X.A (eval iter X.env) (fun v s1=>wpAny (model X.prog X.w) X.A (pyIter v) (Nc X pins σ tg R) X.xe s1) X.xe s
theorem DO{M:Model}{A:Around}{E:Value→Shared→Prop}{s:Shared}{tg:Expr}{it:Addr}{u:Value}{o:Obj}{n:String}{vs:Array Value}{Q:Unit→Shared→Prop}(ho:s.heap.get? it=some o) (hc:o.cls=.type n) (hd:o.data=.fields vs)
    (hn:["enumerate","zip","dict_itemiterator","dict_reverseitemiterator","odict_iterator","itertools.zip_longest","itertools.pairwise"].contains n=false) (hQ:Q () s):wpAny M A (letOwnedTupleGo tg (.ref it) u) Q E s:=by
  unfold letOwnedTupleGo
  cases tg<;>first
    | exact ahl hQ
    | (cases u<;>first
        | exact ahl hQ
        | (refine ahk (wpAny_load ho ?_)
           rw[hc,hd]
           show wpAny M A (if(["enumerate","zip","dict_itemiterator","dict_reverseitemiterator","odict_iterator","itertools.zip_longest","itertools.pairwise"].contains n&&vs[0]? == some (rawInt _))=true then _ else _) Q E s
           rw[if_neg (by intro h;rw[hn,Bool.false_and]at h;cases h)]
           exact ahl hQ))
def Gp(K:PySem.W.Frag) (a:Addr):It :=
 ⟨fun i H=>∃xs x,bw K H a xs∧xs[i]? = some x,fun i H x H'=>H'=H∧∀xs,bw K H a xs→xs[i]? = some x,fun i H=>∃xs,bw K H a xs∧xs.length≤i⟩
def Gn(K:PySem.W.Frag) (a:Addr):It :=
 ⟨fun i H=>∃xs x,bX K H a xs∧xs[i]? = some x,fun i H x H'=>H'=H∧∀xs,bX K H a xs→xs[i]? = some x,fun i H=>∃xs,bX K H a xs∧xs.length≤i⟩
def vV(lo:Int) (n:Nat):It:=⟨fun i _=>i<n,fun i H x H'=>H'=H∧x=.int (lo+i),fun i _=>n≤i⟩
theorem Pa{P:Program}{w:World}{K:PySem.W.Frag}{tg:Expr}(a it:Addr):Turn P w K tg (Gp K a) [it] it (fun i h=>h.IsListIter it a i) where
 mem:=by simp
 obj:=fun i h st b hb=>by
  have e:b=it:=by simpa using hb
  subst e
  obtain⟨o,e,c,d⟩:=st
  exact⟨o,e,fun v z=>by rw[d]at z;cases z⟩
 keep:=fun i h h' st k=>st.at fun o e=>k it (by simp) o e
 item:=by
  intro X hP hw hK hc i pins s σ H E I hf st hg
  subst hP hw hK
  obtain⟨xs,x,hq,hx⟩:=hg
  obtain⟨its,rv,p,hz⟩:=I.list hq
  obtain⟨u,hu,ru⟩:=rv.get hx
  obtain⟨f0,f1,f2,f3,f4,f5⟩:=hf it (by simp)
  refine wpAny_pyNext_list_item st p.isList (x:=u) (by simpa using hu) fun h' st' sb=>?_
  have I1:Inv X pins σ H {s with heap:=h'}:=I.turned (t':=s.toks) (fun b o hb e=>(sb.2 b hb).trans e) f0 f1 f3 f4 f5
  obtain⟨o,e,c,d⟩:=id st'
  exact⟨u,rfl,DO (s:={s with heap:=h'}) e c d (by decide) ⟨x,H,I1,ru,⟨rfl,fun ys hy=>by rw[I.JK hy hq];exact hx⟩,st',fun b hb=>(hf b hb).1⟩⟩
 done:=by
  intro X hP hw hK hc i pins s σ H E I hf st hg
  subst hP hw hK
  obtain⟨xs,hq,hx⟩:=hg
  obtain⟨its,rv,p,hz⟩:=I.list hq
  obtain⟨f0,f1,f2,f3,f4,f5⟩:=hf it (by simp)
  have hl:=rv.length
  exact wpAny_pyNext_list_end (I.ok.hd hc) st p.isList (by simp;omega) fun h' eb=>⟨rfl,I.turned (t':=s.toks) (fun b o hb e=>eb b o hb e) f0 f1 f3 f4 f5⟩
 self:=fun _ _ _ _ _ st h=>wpAny_pyIter_listiter st h
theorem O8{P:Program}{w:World}{K:PySem.W.Frag}{tg:Expr}(a it:Addr):Turn P w K tg (Gn K a) [it] it (fun i h=>h.IsTupleIter it a i) where
 mem:=by simp
 obj:=fun i h st b hb=>by
  have e:b=it:=by simpa using hb
  subst e
  obtain⟨o,e,c,d⟩:=st
  exact⟨o,e,fun v z=>by rw[d]at z;cases z⟩
 keep:=fun i h h' st k=>st.at fun o e=>k it (by simp) o e
 item:=by
  intro X hP hw hK hc i pins s σ H E I hf st hg
  subst hP hw hK
  obtain⟨xs,x,hq,hx⟩:=hg
  obtain⟨its,rv,p,hz⟩:=I.tuple hq
  obtain⟨u,hu,ru⟩:=rv.get hx
  obtain⟨f0,f1,f2,f3,f4,f5⟩:=hf it (by simp)
  refine wpAny_pyNext_tuple_item st (show s.heap.IsTuple a its.toArray from p) (x:=u) (by simpa using hu) fun h' st' sb=>?_
  have I1:Inv X pins σ H {s with heap:=h'}:=I.turned (t':=s.toks) (fun b o hb e=>(sb.2 b hb).trans e) f0 f1 f3 f4 f5
  obtain⟨o,e,c,d⟩:=id st'
  exact⟨u,rfl,DO (s:={s with heap:=h'}) e c d (by decide) ⟨x,H,I1,ru,⟨rfl,fun ys hy=>by rw[I.GU hy hq];exact hx⟩,st',fun b hb=>(hf b hb).1⟩⟩
 done:=by
  intro X hP hw hK hc i pins s σ H E I hf st hg
  subst hP hw hK
  obtain⟨xs,hq,hx⟩:=hg
  obtain⟨its,rv,p,hz⟩:=I.tuple hq
  obtain⟨f0,f1,f2,f3,f4,f5⟩:=hf it (by simp)
  have hl:=rv.length
  exact wpAny_pyNext_tuple_end (I.ok.hd hc) st (show s.heap.IsTuple a its.toArray from p) (by simp;omega) fun h' eb=>⟨rfl,I.turned (t':=s.toks) (fun b o hb e=>eb b o hb e) f0 f1 f3 f4 f5⟩
 self:=fun _ _ _ _ _ st h=>wpAny_pyIter_tupleiter st h
theorem O9{P:Program}{w:World}{K:PySem.W.Frag}{tg:Expr}(it:Addr) (lo:Int) (n:Nat):Turn P w K tg (vV lo n) [it] it (fun i h=>IsRangeIter h it (lo+(i:Nat)*1) ((n:Int)-(i:Nat)) 1) where
 mem:=by simp
 obj:=fun i h st b hb=>by
  have e:b=it:=by simpa using hb
  subst e
  exact⟨_,st,fun v z=>by
   have z':Data.fields _=Data.cell v:=z
   cases z'⟩
 keep:=fun i h h' st k=>k it (by simp) _ st
 item:=by
  intro X hP hw hK hc i pins s σ H E I hf st hg
  subst hP hw hK
  obtain⟨f0,f1,f2,f3,f4,f5⟩:=hf it (by simp)
  have W:=Walks.range (prog:=X.prog) (w:=X.w) (I.ok.hd hc) it lo 1 n
  refine W.item i s _ _ hg st fun v h' tk hv st' kk=>?_
  obtain⟨t,rfl⟩:=hv
  have I1:Inv X pins σ H {s with heap:=h',toks:=tk}:=I.turned (fun b o hb e=>kk b o (by simpa using hb) e) f0 f1 f3 f4 f5
  refine⟨_,rfl,DO (s:={s with heap:=h',toks:=tk}) (n:="range_iterator") st' rfl rfl (by decide) ⟨.int (lo+i),H,I1,⟨t,?_⟩,⟨rfl,rfl⟩,st',fun b hb=>(hf b hb).1⟩⟩
  rw[Int.mul_one]
 done:=by
  intro X hP hw hK hc i pins s σ H E I hf st hg
  subst hP hw hK
  obtain⟨f0,f1,f2,f3,f4,f5⟩:=hf it (by simp)
  exact wpAny_pyNext_range_end (I.ok.hd hc) st (by have:n≤i:=hg;omega) fun h' eb=>⟨rfl,I.turned (t':=s.toks) (fun b o hb e=>eb b o hb e) f0 f1 f3 f4 f5⟩
 self:=fun _ _ _ _ _ st h=>wpAny_pyIter_rangeiter st h
end L2
namespace L2
open PySem PySem.Spec PyProof.Rows
section
variable {X:Cx}{tg:Expr}
def aaG(K:PySem.W.Frag) (tl:TE):TI:=fun σ H R=>tl σ H fun x H1=>∃a,x=.ref a∧(∃xs,bw K H1 a xs)∧R (Gp K a) H1
def aaD(K:PySem.W.Frag) (tl:TE):TI:=fun σ H R=>tl σ H fun x H1=>∃a,x=.ref a∧(∃xs,bX K H1 a xs)∧R (Gn K a) H1
theorem Ut{l:Expr}{tl:TE}(hl:PE X l tl):PI X tg l (aaG X.K tl):=by
 intro pins s σ H R I h
 refine bB (hl pins s σ H _ I h) fun v s1 ⟨x,H1,I1,r1,q1⟩=>?_
 obtain⟨a,e,⟨xs,hq⟩,q⟩:=q1
 subst e
 cases r1
 obtain⟨its,rv,p,hz⟩:=I1.list hq
 refine aje p.isList ?_
 refine⟨s1.heap.objs.size,[s1.heap.objs.size],_,_,H1,rfl,I1.kept (t':=s1.toks) fun b o e=>ahp _ e,Pa a _,⟨_,ahB _ rfl,rfl,rfl⟩,fun b hb=>?_,q⟩
 have e:b=s1.heap.objs.size:=by simpa using hb
 subst e
 exact I1.yp (aho _) (I1.hok.fresh (aho _))
theorem Uq{l:Expr}{tl:TE}(hl:PE X l tl):PI X tg l (aaD X.K tl):=by
 intro pins s σ H R I h
 refine bB (hl pins s σ H _ I h) fun v s1 ⟨x,H1,I1,r1,q1⟩=>?_
 obtain⟨a,e,⟨xs,hq⟩,q⟩:=q1
 subst e
 cases r1
 obtain⟨its,rv,p,hz⟩:=I1.tuple hq
 refine akk (show s1.heap.IsTuple a its.toArray from p) ?_
 refine⟨s1.heap.objs.size,[s1.heap.objs.size],_,_,H1,rfl,I1.kept (t':=s1.toks) fun b o e=>ahp _ e,O8 a _,⟨_,ahB _ rfl,rfl,rfl⟩,fun b hb=>?_,q⟩
 have e:b=s1.heap.objs.size:=by simpa using hb
 subst e
 exact I1.yp (aho _) (I1.hok.fresh (aho _))
theorem HQ{pins:List (Addr×Obj)}{σ:St}{H:Hp}{s:Shared}{R:It→Hp→Prop}{E:Value→Shared→Prop}{lo hi:Int}{t u v:Tok}{tk:Nat}(I:Inv X pins σ H s) (h1:-(2^62)≤lo) (h2:lo<2^62) (h3:-(2^62)≤hi) (h4:hi<2^62)
  (q:R (vV lo (hi-lo).toNat) H):wpAny (model X.prog X.w) X.A (pyIter (.ref s.heap.objs.size)) (Nc X pins σ tg R) E {s with heap:=s.heap.push {cls:=.type "range",data:=.fields #[.int lo t,.int hi u,.int 1 v]},toks:=tk}:=by
 refine wpAny_pyIter_range (IsRange.new ..) (small_one h1 h2 h3 h4) ?_
 have I1:Inv X pins σ H {s with heap:=s.heap.push {cls:=.type "range",data:=.fields #[.int lo t,.int hi u,.int 1 v]},toks:=tk}:=I.kept fun b o e=>ahp _ e
 refine⟨(s.heap.push {cls:=.type "range",data:=.fields #[.int lo t,.int hi u,.int 1 v]}).objs.size,[(s.heap.push {cls:=.type "range",data:=.fields #[.int lo t,.int hi u,.int 1 v]}).objs.size],_,_,H,rfl,
  I1.kept (t':=tk) fun b o e=>ahp _ e,O9 _ lo (hi-lo).toNat,?_,fun b hb=>?_,q⟩
 ·have e1:lo+((0:Nat):Int)*1=lo:=by simp
  have e2:(((hi-lo).toNat:Nat):Int)-((0:Nat):Int)=Builtin.Range.rangeSize lo hi 1:=by rw[rangeSize_one];split<;>omega
  show IsRangeIter _ _ (lo+((0:Nat):Int)*1) ((((hi-lo).toNat:Nat):Int)-((0:Nat):Int)) 1
  rw[e1,e2]
  exact ahB _ rfl
 ·have e:b=(s.heap.push {cls:=.type "range",data:=.fields #[.int lo t,.int hi u,.int 1 v]}).objs.size:=by simpa using hb
  subst e
  exact I1.yp (aho _) (I1.hok.fresh (aho _))
def aaF(ta:TA):TI:=fun σ H R=>ta σ H fun vs H1=>∃j:Int,vs=[.int j]∧-(2^62)≤j∧j<2^62∧R (vV 0 j.toNat) H1
def aaE(ta:TA):TI:=fun σ H R=>ta σ H fun vs H1=>∃i j:Int,vs=[.int i,.int j]∧(-(2^62)≤i∧i<2^62∧-(2^62)≤j∧j<2^62)∧R (vV i (j-i).toNat) H1
theorem Us{a:Expr}{ta:TA}{p pos:Pos}(hg:Gl X "range") (hm:X.mg "range"=none) (ha:PA X [a] ta) (hs:starEach [a] X.env=[(false,eval a X.env)]:=by rfl):PI X tg (.Call (.Name "range" p) [a] [] pos) (aaF ta):=by
 intro pins s σ H R I h
 refine Call_ (nu I hg hm boot_range (ajf (bB (ha pos pins s σ H _ I h) fun us s1 ⟨vs,H1,I1,r1,q1⟩=>?_) hs rfl))
 obtain⟨j,e,q1,q2,q⟩:=q1
 subst e
 cases r1 with
 |cons r rr =>
  cases rr
  obtain⟨t,rfl⟩:=r
  exact call_range_1 (HQ I1 (by omega) (by omega) q1 q2 (by simpa using q))
theorem Ur{a b:Expr}{ta:TA}{p pos:Pos}(hg:Gl X "range") (hm:X.mg "range"=none) (ha:PA X [a,b] ta) (hs:starEach [a,b] X.env=[(false,eval a X.env),(false,eval b X.env)]:=by rfl) (hs2:starEach [b] X.env=[(false,eval b X.env)]:=by rfl) :
  PI X tg (.Call (.Name "range" p) [a,b] [] pos) (aaE ta):=by
 intro pins s σ H R I h
 refine Call_ (nu I hg hm boot_range (ajf (bB (ha pos pins s σ H _ I h) fun us s1 ⟨vs,H1,I1,r1,q1⟩=>?_) (by rw[hs,hs2]) (by rw[hs2];rfl)))
 obtain⟨i,j,e,⟨q1,q2,q3,q4⟩,q⟩:=q1
 subst e
 cases r1 with
 |cons r rr =>
  cases rr with
  |cons r' rr =>
   cases rr
   obtain⟨t,rfl⟩:=r
   obtain⟨t',rfl⟩:=r'
   exact call_range_2 (HQ I1 q1 q2 q3 q4 q)
def G7(wi:TI) (g:TG) (tb:TS):TS:=fun D σ H=>wi σ H fun J H1=>∃W:Nat→Nat→St→Hp→Prop,(∃m,W 0 m σ H1)∧∀i m σ H,W i m σ H →
 (J.stop i H∧D.nx σ H)∨(J.go i H∧∃N:St→Hp→Prop,(∀σ' H',N σ' H'→∃m',m'<m∧W (i+1) m' σ' H')∧∀x H',J.qe i H x H'→g x σ H' fun σ2 H2=>tb {D with nx:=N,ct:=N,bk:=D.nx} σ2 H2)
def uE(fp:List Addr) (h:Heap):List (Addr×Obj):=fp.filterMap fun b=>(h.get? b).map fun o=>(b,o)
theorem xV{fp:List Addr}{h:Heap}{b:Addr}{o:Obj}(hb:b∈fp) (e:h.get? b=some o):(b,o)∈uE fp h:=akl.mpr ⟨b,hb,by rw[e];rfl⟩
theorem VN{fp:List Addr}{h:Heap}{p:Addr×Obj}(hp:p∈uE fp h):p.1∈fp∧h.get? p.1=some p.2:=by
 obtain⟨b,hb,e⟩:=akl.mp hp
 cases q:h.get? b with
 |none=>rw[q]at e;cases e
 |some o =>
  rw[q]at e
  have e':(b,o)=p:=ahJ e
  subst e'
  exact⟨hb,q⟩
theorem Inv.pinned{pins:List (Addr×Obj)}{σ:St}{H:Hp}{s:Shared}{fp:List Addr}(I:Inv X pins σ H s) (hf:∀b∈fp,gH X pins H b) (ho:∀b∈fp,∃o,s.heap.get? b=some o∧∀v,o.data≠.cell v):Inv X (pins++uE fp s.heap) σ H s :=
 I.xm fun p hp=>(ahZ.mp hp).elim (fun z=>I.pin p (aih _ z)) fun z=>by
  obtain⟨hb,e⟩:=VN z
  obtain⟨f0,f1,f2,_⟩:=hf p.1 hb
  obtain⟨o,e',d⟩:=ho p.1 hb
  rw[e]at e';cases e'
  exact⟨e,f0,f1,f2,d⟩
theorem Inv.tZ{pins pl:List (Addr×Obj)}{σ:St}{H:Hp}{s:Shared}(I:Inv X (pins++pl) σ H s):Inv X pins σ H s:=I.xm fun p hp=>I.pin p (aih _ (ak9 _ hp))
theorem HY{iter:Expr}{body:List Stmt}{wi:TI}{g:TG}{tb:TS}{pos:Pos}(hp:PassesOwn (model X.prog X.w) X.A X.env X.xe) (hc:X.calm=true) (hi:PI X tg iter wi) (hg:PG X tg g) (hb:gG X body tb)
  (hs:∀x,foldedSetIterable iter X.env x=pure x:=by intro _;rfl):PS X (.For tg iter body [] pos) (G7 wi g tb):=by
 intro pins s σ H D I h
 refine wpAny_For (bB (hi pins s σ H _ I h) fun v s1 h1=>bB h1 fun itv s2 h2=>?_) hs
 obtain⟨it,fp,tn,J,H2,e,I2,T,st2,f2,W,⟨m0,w0⟩,turn⟩:=h2
 subst e
 have ou:∀{H':Hp},(∀b∈fp,H' b=none)→∀b∈fp,gH X pins H' b:=fun hn b hb=>⟨hn b hb,(f2 b hb).2⟩
 refine codeAny_forLoop_any (fun n s'=>∃i σ' H',Inv X pins σ' H' s'∧tn i s'.heap∧(∀b∈fp,H' b=none)∧W i n σ' H') ?_ m0 ⟨0,σ,H2,I2,st2,fun b hb=>(f2 b hb).1,w0⟩
 rintro n s3 ⟨i,σ3,H3,I3,st3,Lf,w3⟩
 rcases turn i n σ3 H3 w3 with⟨stop,qn⟩|⟨go,N,hN,step⟩
 ·refine aiX hp (bB (T.done X rfl rfl rfl hc i pins s3 σ3 H3 X.xe I3 (ou Lf) st3 stop) fun r s4 ⟨hr,I4⟩=>?_)
  subst hr
  exact ajQ ⟨σ3,H3,I4,qn⟩
 ·refine aiX hp (bB (T.item X rfl rfl rfl hc i pins s3 σ3 H3 X.xe I3 (ou Lf) st3 go) fun r s4 ⟨u,hr,h4⟩=>?_)
  subst hr
  refine aiX hp (bB h4 fun _ s5 ⟨x,H5,I5,r5,y5,oA,yo⟩=>?_)
  have I5':=I5.pinned (ou yo) (T.obj _ _ oA)
  refine aiX hp (bB (hg _ s5 σ3 H5 x u _ I5' r5 (step x H5 y5)) fun _ s6 ⟨NW,H6,I6,q6⟩=>?_)
  refine aiX hp (bB (hb _ s6 NW H6 _ I6 q6) fun f s7 q7=>?_)
  have again:∀{jl:St}{H7:Hp},Inv X (pins++uE fp s5.heap) jl H7 s7→N jl H7→∃m,m<n∧∃i σ' H',Inv X pins σ' H' s7∧tn i s7.heap∧(∀b∈fp,H' b=none)∧W i m σ' H':=fun{jl H7} I7 n7=>by
   obtain⟨m',hm,w7⟩:=hN jl H7 n7
   refine⟨m',hm,i+1,jl,H7,I7.tZ,T.keep _ _ _ oA fun b hb o e=>(I7.pin (b,o) (aih _ (aih _ (xV hb e)))).1,fun b hb=>?_,w7⟩
   obtain⟨o,e,d⟩:=T.obj _ _ oA b hb
   exact(I7.pin (b,o) (aih _ (aih _ (xV hb e)))).2.1
  cases f with
  |next=>obtain⟨jl,H7,I7,n7⟩:=q7;exact again I7 n7
  |cont=>obtain⟨jl,H7,I7,n7⟩:=q7;exact again I7 n7
  |brk=>obtain⟨jl,H7,I7,q7⟩:=q7;exact⟨jl,H7,I7.tZ,q7⟩
  |ret v=>obtain⟨x7,jl,H7,I7,r7,q7⟩:=q7;exact⟨x7,jl,H7,I7.tZ,r7,q7⟩
end
end L2
namespace L2
open PySem PySem.Spec PyProof.Rows
abbrev R2:=V→V→Hp→VK→Prop
def bP(X:Cx) (f:Value→Value→Sem Value) (r:R2):Prop :=
 ∀(pins:List (Addr×Obj)) (s:Shared) (σ:St) (H:Hp) (x y:V) (v u:Value) (Q:VK),Inv X pins σ H s→RelV x v→RelV y u→r x y H Q →
  wpAny (model X.prog X.w) X.A (f v u) (EP X pins σ Q) X.xe s
def cZ(X:Cx) (f:Value) (r:List V→Hp→VK→Prop):Prop :=
 ∀(pins:List (Addr×Obj)) (s:Shared) (σ:St) (H:Hp) (xs:List V) (us:List Value) (Q:VK),Inv X pins σ H s→Vals xs us→r xs H Q →
  wpAny (model X.prog X.w) X.A (call f us) (EP X pins σ Q) X.xe s
def afi(X:Cx) (r:V→Hp→(Bool→Hp→Prop)→Prop):Prop :=
 ∀(pins:List (Addr×Obj)) (s:Shared) (σ:St) (H:Hp) (x:V) (v:Value) (Q:Bool→Hp→Prop),Inv X pins σ H s→RelV x v→r x H Q →
  wpAny (model X.prog X.w) X.A (truthy v) (TP X pins σ Q) X.xe s
def wD(r:R2) (ta tb:TE):TE:=fun σ H Q=>ta σ H fun x H1=>tb σ H1 fun y H2=>r x y H2 Q
def rI(C:Int→Int→Prop) (g:Int→Int→V):R2:=fun x y H Q=>∃i j,x=.int i∧y=.int j∧C i j∧Q (g i j) H
def kT(g:Int→Int→V):R2:=fun x y H Q=>∃i j,x=.int i∧y=.int j∧Q (g i j) H
section
variable {X:Cx}{a b c:Expr}{ta tb tc:TE}{pos:Pos}
theorem F5(ha:PE X a ta) (hb:PE X b tb) {pins:List (Addr×Obj)}{s:Shared}{σ:St}{H:Hp}{R:V→V→Hp→Prop}(I:Inv X pins σ H s)
  (h:ta σ H fun x H1=>tb σ H1 fun y H2=>R x y H2) {Q:Value→Shared→Prop}{f:Value→Value→Sem Value}
  (hf:∀v u s2 x y H2,Inv X pins σ H2 s2→RelV x v→RelV y u→R x y H2→wpAny (model X.prog X.w) X.A (f v u) Q X.xe s2) :
  wpAny (model X.prog X.w) X.A (eval a X.env) (fun v s₁=>wpAny (model X.prog X.w) X.A (eval b X.env) (fun u s₂=>wpAny (model X.prog X.w) X.A (f v u) Q X.xe s₂) X.xe s₁) X.xe s:=by
 refine bB (ha pins s σ H _ I h) fun v s1 ⟨x,H1,I1,r1,q1⟩=>?_
 refine bB (hb pins s1 σ H1 _ I1 q1) fun u s2 ⟨y,H2,I2,r2,q2⟩=>?_
 exact hf v u s2 x y H2 I2 r1 r2 q2
theorem Uy{op:Operator}{r:R2}(ho:bP X (binaryOp op) r) (ha:PE X a ta) (hb:PE X b tb):PE X (.BinOp a op b pos) (wD r ta tb):=by
 intro pins s σ H Q I h
 exact wpAny_BinOp (F5 ha hb I h fun v u s2 x y H2 I2 rx ry q=>ho pins s2 σ H2 x y v u Q I2 rx ry q)
theorem xC{f:Value→Value→Sem Value}{C:Int→Int→Prop}{g:Int→Int→Int}
  (rule:∀(i j:Int) (t u:Tok) (s:Shared) (Q:Value→Shared→Prop) (E:Value→Shared→Prop),C i j→Q (.int (g i j) s.toks) {s with toks:=s.toks+1}→wpAny (model X.prog X.w) X.A (f (.int i t) (.int j u)) Q E s) :
  bP X f (rI C fun i j=>.int (g i j)):=by
 intro pins s σ H x y v u Q I rx ry h
 obtain⟨i,j,rfl,rfl,hc,q⟩:=h
 obtain⟨t,rfl⟩:=rx
 obtain⟨t',rfl⟩:=ry
 exact rule i j t t' s _ _ hc ⟨.int (g i j),H,I.tok _,⟨_,rfl⟩,q⟩
theorem Bf{f:Value→Value→Sem Value}{g:Int→Int→Int}
  (rule:∀(i j:Int) (t u:Tok) (s:Shared) (Q:Value→Shared→Prop) (E:Value→Shared→Prop),Q (.int (g i j) s.toks) {s with toks:=s.toks+1}→wpAny (model X.prog X.w) X.A (f (.int i t) (.int j u)) Q E s) :
  bP X f (kT fun i j=>.int (g i j)):=by
 intro pins s σ H x y v u Q I rx ry h
 obtain⟨i,j,rfl,rfl,q⟩:=h
 obtain⟨t,rfl⟩:=rx
 obtain⟨t',rfl⟩:=ry
 exact rule i j t t' s _ _ ⟨.int (g i j),H,I.tok _,⟨_,rfl⟩,q⟩
theorem Bg{f:Value→Value→Sem Value}{g:Int→Int→Bool}
  (rule:∀(i j:Int) (t u:Tok) (s:Shared) (Q:Value→Shared→Prop) (E:Value→Shared→Prop),Q (.bool (g i j)) s→wpAny (model X.prog X.w) X.A (f (.int i t) (.int j u)) Q E s) :
  bP X f (kT fun i j=>.bl (g i j)):=by
 intro pins s σ H x y v u Q I rx ry h
 obtain⟨i,j,rfl,rfl,q⟩:=h
 obtain⟨t,rfl⟩:=rx
 obtain⟨t',rfl⟩:=ry
 exact rule i j t t' s _ _ ⟨.bl (g i j),H,I,rfl,q⟩
def afw(i j:Int):Prop:=0<j∧j<1073741824
def afv(i j:Int):Prop:=0≤j∧j≤1000000∧i.natAbs<2^64
def Gu(i j:Int):Prop:=(-(2^64)<i∧i<2^64)∨(-(2^64)<j∧j<2^64)
theorem Gu.ok{i j:Int}(h:Gu i j):IntMulOk i j:=by
 rcases h with⟨h1,h2⟩|⟨h1,h2⟩
 ·exact .of_left (intBits_le_64 h1 h2)
 ·exact .of_right (intBits_le_64 h1 h2)
theorem Vs:bP X (binaryOp .Add) (kT fun i j=>.int (i+j)):=Bf fun _ _ _ _ _ _ _ q=>add_int q
theorem Vc:bP X (binaryOp .Sub) (kT fun i j=>.int (i-j)):=Bf fun _ _ _ _ _ _ _ q=>sub_int q
theorem Vg:bP X (binaryOp .Mult) (rI Gu fun i j=>.int (i*j)):=xC fun _ _ _ _ _ _ _ hc q=>mul_int q hc.ok
theorem Vm:bP X (binaryOp .FloorDiv) (rI afw fun i j=>.int (i/j)):=xC fun i j _ _ _ _ _ hc q=>by
 have h1:(0:Int)<j:=hc.1
 have h2:j<1073741824:=hc.2
 exact floordiv_int (by omega) (by rw[Int.fdiv_eq_ediv_of_nonneg i (by omega)];exact q) (.inl (PyProof.noPylong_small (by omega)))
theorem Vh:bP X (binaryOp .Mod) (rI (fun _ j=>0<j) fun i j=>.int (i % j)):=xC fun i j _ _ _ _ _ hc q=>by
 have h1:(0:Int)<j:=hc
 exact mod_int' (by omega) (by rw[Int.fmod_eq_emod_of_nonneg i (by omega)];exact q)
theorem Vd:bP X (binaryOp .Pow) (rI afv fun i j=>.int (i^j.toNat)):=xC fun _ _ _ _ _ _ _ hc q=>pow_int_small hc.1 hc.2.1 hc.2.2 q
theorem Vq:bP X (binaryOp .BitAnd) (kT fun i j=>.int (Builtin.bitAnd i j)):=Bf fun _ _ _ _ _ _ _ q=>and_int q
end
def AL:V→V→Bool
 |.aG,.aG=>true|.aG,.int _=>true|.int _,.aG=>true|.aG,.bl _=>true|.bl _,.aG=>true|.aG,.str _=>true|.str _,.aG=>true
 |.int _,.int _=>true|.bl _,.bl _=>true|.str _,.str _=>true|.g7 _,.g7 _=>true
 |.int _,.str _=>true|.str _,.int _=>true|.bl _,.str _=>true|.str _,.bl _=>true
 |_,_=>false
def SD:R2:=fun x y H Q=>AL x y=true∧Q (.bl (decide (x=y))) H
def Su:R2:=fun x y H Q=>AL x y=true∧Q (.bl (!decide (x=y))) H
theorem LF{i j:Int}:decide (V.int i=V.int j)=(i==j):=by
 rw[aiF]
 simp
theorem LH{i j:Bool}:decide (V.bl i=V.bl j)=(i==j):=by
 rw[aiF]
 simp
theorem LD{i j:Str}:decide (V.str i=V.str j)=(i==j):=by
 rw[aiF]
 simp
theorem LG{i j:Array UInt8}:decide (V.g7 i=V.g7 j)=(i.toList==j.toList):=by
 rw[aiF]
 cases i
 cases j
 simp
section
variable {X:Cx}{a b c:Expr}{ta tb tc:TE}{pos:Pos}
theorem dw{pins:List (Addr×Obj)}{σ:St}{H:Hp}{s:Shared}{Q:VK}{k k':Bool}(I:Inv X pins σ H s) (q:Q (.bl k) H) (e:k=k'):EP X pins σ Q (.bool k') s:=by
 subst e
 exact⟨.bl k,H,I,rfl,q⟩
theorem Vn:bP X (compareOp .Eq) SD:=by
 intro pins s σ H x y v u Q I rx ry h
 obtain⟨hs,q⟩:=h
 cases x with
 |aG =>
  cases rx
  cases y with
  |aG=>cases ry;exact PySem.EqNone.eq_none_none (dw I q (by simp))
  |bl j=>cases ry;exact PySem.EqNone.eq_none_bool (dw I q (by simp))
  |int j=>obtain⟨t',rfl⟩:=ry;exact PySem.EqNone.eq_none_int (dw I q (by simp))
  |str j=>obtain⟨t',rfl⟩:=ry;exact PySem.EqNone.eq_none_str (dw I q (by simp))
  |_=>exact absurd (show false=true from hs) ahG
 |bl i =>
  cases rx
  cases y with
  |aG=>cases ry;exact PySem.EqNone.eq_bool_none (dw I q (by simp))
  |bl j=>cases ry;exact eq_bool (dw I q LH)
  |str j=>obtain⟨t',rfl⟩:=ry;exact PySem.EqMixed.eq_bool_str (dw I q (by simp))
  |_=>exact absurd (show false=true from hs) ahG
 |int i =>
  obtain⟨t,rfl⟩:=rx
  cases y with
  |aG=>cases ry;exact PySem.EqNone.eq_int_none (dw I q (by simp))
  |int j=>obtain⟨t',rfl⟩:=ry;exact eq_int (dw I q LF)
  |str j=>obtain⟨t',rfl⟩:=ry;exact PySem.EqMixed.eq_int_str (dw I q (by simp))
  |_=>exact absurd (show false=true from hs) ahG
 |str i =>
  obtain⟨t,rfl⟩:=rx
  cases y with
  |aG=>cases ry;exact PySem.EqNone.eq_str_none (dw I q (by simp))
  |bl j=>cases ry;exact PySem.EqMixed.eq_str_bool (dw I q (by simp))
  |int j=>obtain⟨t',rfl⟩:=ry;exact PySem.EqMixed.eq_str_int (dw I q (by simp))
  |str j=>obtain⟨t',rfl⟩:=ry;exact eq_str (dw I q LD)
  |_=>exact absurd (show false=true from hs) ahG
 |g7 i =>
  obtain⟨t,rfl⟩:=rx
  cases y with
  |g7 j=>obtain⟨t',rfl⟩:=ry;exact PySem.W.eq_bytes (dw I q LG)
  |_=>exact absurd (show false=true from hs) ahG
 |_=>cases y<;>exact absurd (show false=true from hs) ahG
theorem Vf:bP X (compareOp .NotEq) Su:=by
 intro pins s σ H x y v u Q I rx ry h
 obtain⟨hs,q⟩:=h
 cases x with
 |aG =>
  cases rx
  cases y with
  |aG=>cases ry;exact PySem.EqNone.ne_none_none (dw I q (by simp))
  |bl j=>cases ry;exact PySem.EqNone.ne_none_bool (dw I q (by simp))
  |int j=>obtain⟨t',rfl⟩:=ry;exact PySem.EqNone.ne_none_int (dw I q (by simp))
  |str j=>obtain⟨t',rfl⟩:=ry;exact PySem.EqNone.ne_none_str (dw I q (by simp))
  |_=>exact absurd (show false=true from hs) ahG
 |bl i =>
  cases rx
  cases y with
  |aG=>cases ry;exact PySem.EqNone.ne_bool_none (dw I q (by simp))
  |bl j=>cases ry;exact ne_bool (dw I q (congrArg not LH))
  |str j=>obtain⟨t',rfl⟩:=ry;exact PySem.EqMixed.ne_bool_str (dw I q (by simp))
  |_=>exact absurd (show false=true from hs) ahG
 |int i =>
  obtain⟨t,rfl⟩:=rx
  cases y with
  |aG=>cases ry;exact PySem.EqNone.ne_int_none (dw I q (by simp))
  |int j=>obtain⟨t',rfl⟩:=ry;exact ne_int (dw I q (congrArg not LF))
  |str j=>obtain⟨t',rfl⟩:=ry;exact PySem.EqMixed.ne_int_str (dw I q (by simp))
  |_=>exact absurd (show false=true from hs) ahG
 |str i =>
  obtain⟨t,rfl⟩:=rx
  cases y with
  |aG=>cases ry;exact PySem.EqNone.ne_str_none (dw I q (by simp))
  |bl j=>cases ry;exact PySem.EqMixed.ne_str_bool (dw I q (by simp))
  |int j=>obtain⟨t',rfl⟩:=ry;exact PySem.EqMixed.ne_str_int (dw I q (by simp))
  |str j=>obtain⟨t',rfl⟩:=ry;exact ne_str (dw I q (congrArg not LD))
  |_=>exact absurd (show false=true from hs) ahG
 |g7 i =>
  obtain⟨t,rfl⟩:=rx
  cases y with
  |g7 j=>obtain⟨t',rfl⟩:=ry;exact PySem.W.ne_bytes (dw I q (congrArg not LG))
  |_=>exact absurd (show false=true from hs) ahG
 |_=>cases y<;>exact absurd (show false=true from hs) ahG
theorem Vi:bP X (compareOp .Lt) (kT fun i j=>.bl (decide (i<j))):=Bg fun _ _ _ _ _ _ _ q=>lt_int q
theorem Vk:bP X (compareOp .Gt) (kT fun i j=>.bl (decide (j<i))):=Bg fun _ _ _ _ _ _ _ q=>gt_int q
theorem Vl:bP X (compareOp .GtE) (kT fun i j=>.bl (decide (j≤i))):=Bg fun _ _ _ _ _ _ _ q=>ge_int q
theorem Vj:bP X (compareOp .Is) (fun x y H Q=>y=.aG∧Q (.bl (decide (x=.aG))) H):=by
 intro pins s σ H x y v u Q I rx ry h
 obtain⟨rfl,q⟩:=h
 cases ry
 refine is_none_gen (dw I q ?_)
 cases x<;>first
  |(cases rx;rfl)
  |(obtain⟨t,rfl⟩:=rx;rfl)
theorem Ve:bP X (compareOp .IsNot) (fun x y H Q=>y=.aG∧Q (.bl (!decide (x=.aG))) H):=by
 intro pins s σ H x y v u Q I rx ry h
 obtain⟨rfl,q⟩:=h
 cases ry
 refine isnot_none_gen (dw I q ?_)
 cases x<;>first
  |(cases rx;rfl)
  |(obtain⟨t,rfl⟩:=rx;rfl)
theorem IZ(b:Expr) {op:CmpOp}(h:op≠.In:=by decide) (h2:op≠.NotIn:=by decide):behindInMarks op b=false:=by
 have e1:(op==CmpOp.In)=false:=by cases op<;>first|rfl|exact absurd rfl h
 have e2:(op==CmpOp.NotIn)=false:=by cases op<;>first|rfl|exact absurd rfl h2
 cases b<;>simp[behindInMarks,e1,e2]
theorem UK{op:CmpOp}{r:R2}(ho:bP X (compareOp op) r) (ha:PE X a ta) (hb:PE X b tb) (hm:behindInMarks op b=false):PE X (.Compare a [op] [b] pos) (wD r ta tb):=by
 intro pins s σ H Q I h
 exact wpAny_Compare1 (F5 ha hb I h fun v u s2 x y H2 I2 rx ry q=>ho pins s2 σ H2 x y v u Q I2 rx ry q) hm
def Pw(t:TE):TT:=fun σ H Q=>t σ H fun x H'=>∃k,x=.bl k∧Q k H'
theorem S0{op:CmpOp}{r:R2}(ho:bP X (compareOp op) r) (ha:PE X a ta) (hb:PE X b tb) (hm:behindInMarks op b=false):PT X (.Compare a [op] [b] pos) (Pw (wD r ta tb)):=by
 intro pins s σ H Q I h
 refine wpAny_isTrue_Compare1 (bB (ha pins s σ H _ I h) fun v s1 ⟨x,H1,I1,r1,q1⟩=>bB (hb pins s1 σ H1 _ I1 q1) fun u s2 ⟨y,H2,I2,r2,q2⟩ =>
  bB (ho pins s2 σ H2 x y v u _ I2 r1 r2 q2) fun c s3 ⟨z,H3,I3,r3,k,e,q3⟩=>?_) hm
 subst e
 cases r3
 exact aiW ⟨H3,I3,q3⟩
def Ge(K:PySem.W.Frag) (x:V) (H:Hp) (k:Bool):Prop :=
 match x with
 |.aG=>k=false
 |.bl b=>k=b
 |.int i=>k=(i != 0)
 |.str y=>y.length≤sizeLine∧k=((y.length:Int) != 0)
 |.g7 y=>y.size≤sizeLine∧k=((y.size:Int) != 0)
 |.ref p=>(∃xs,bw K H p xs∧k = !xs.isEmpty)∨(∃xs,bX K H p xs∧k = !xs.isEmpty)∨∃kvs,H p=some (.dK kvs)∧k = !kvs.isEmpty
 |_=>False
theorem aas{κ:Type}{kvs:List (κ×V)}{vs:List (κ×Value)}(r:KV kvs vs):(!vs.isEmpty) = !kvs.isEmpty:=by
 cases r<;>rfl
theorem Kl{xs:List V}{its:List Value}(r:Vals xs its):(!its.toArray.isEmpty) = !xs.isEmpty:=by
 cases r<;>simp
theorem rS:(sizeLine:Nat)<2^63:=by rw[aic];decide
theorem Pg:afi X (fun x H Q=>∃k,Ge X.K x H k∧Q k H):=by
 intro pins s σ H x v Q I rx h
 obtain⟨k,e,q⟩:=h
 have hl:=rS
 have hs:sizeLine=16777216:=aic
 cases x with
 |aG =>
  cases rx
  have e':k=false:=e
  subst e'
  exact truthy_none ⟨H,I,q⟩
 |bl b =>
  cases rx
  have e':k=b:=e
  subst e'
  exact aiW ⟨H,I,q⟩
 |int i =>
  obtain⟨t,rfl⟩:=rx
  have e':k=(i != 0):=e
  subst e'
  exact PySem.P.truthy_int ⟨H,I,q⟩
 |str y =>
  obtain⟨t,rfl⟩:=rx
  obtain⟨hy,e'⟩:y.length≤sizeLine∧k=((y.length:Int) != 0):=e
  subst e'
  exact PySem.P.truthy_str (by omega) ⟨H,I.tok _,q⟩
 |g7 y =>
  obtain⟨t,rfl⟩:=rx
  obtain⟨hy,e'⟩:y.size≤sizeLine∧k=((y.size:Int) != 0):=e
  subst e'
  exact PySem.W.truthy_bytes (by omega) ⟨H,I.tok _,q⟩
 |ref p =>
  cases rx
  have e':(∃xs,bw X.K H p xs∧k = !xs.isEmpty)∨(∃xs,bX X.K H p xs∧k = !xs.isEmpty)∨∃kvs,H p=some (.dK kvs)∧k = !kvs.isEmpty:=e
  rcases e' with⟨xs,hx,e'⟩|⟨xs,hx,e'⟩|⟨kvs,hx,e'⟩
  ·subst e'
   obtain⟨its,r,pl,hz⟩:=I.list hx
   have hlen:=r.length
   exact wpAny_truthy_list pl.isList (by simp only[aht];omega) ⟨H,I.tok _,by rw[Kl r];exact q⟩
  ·subst e'
   obtain⟨its,r,pl,hz⟩:=I.tuple hx
   have hlen:=r.length
   exact truthy_tuple pl (by simp only[aht];omega) ⟨H,I.tok _,by rw[Kl r];exact q⟩
  ·subst e'
   obtain⟨hz,hS,vs,r,m⟩:kvs.length≤sizeLine∧(p==sysModules)=false∧∃vs,KV kvs vs∧s.heap.DictOf (BK X.prog X.w) p vs:=I.hok p _ hx
   have hlen:kvs.length=vs.length:=Paired.length r
   exact wpAny_truthy_dict hS m (by omega) ⟨H,I.tok _,by rw[aas r];exact q⟩
 |_=>exact(show False from e).elim
theorem SX(ha:PE X a ta) (he:∀whole,isTrue a X.env whole=(do let v ←whole;standAt a.pos;holding [v] (truthy v))) :
  PT X a (fun σ H Q=>ta σ H fun x H'=>∃k,Ge X.K x H' k∧Q k H'):=by
 intro pins s σ H Q I h
 exact isTrue_plain (bB (ha pins s σ H _ I h) fun v s1 ⟨x,H1,I1,r1,q1⟩=>Pg pins s1 σ H1 x v Q I1 r1 q1) (he _)
theorem Vr:bP X (binaryOp .Add) (fun x y H Q=>∃i j,x=.str i∧y=.str j∧i.length+j.length≤sizeLine∧Q (.str (i++j)) H):=by
 intro pins s σ H x y v u Q I rx ry h
 obtain⟨i,j,rfl,rfl,hz,q⟩:=h
 obtain⟨t,rfl⟩:=rx
 obtain⟨t',rfl⟩:=ry
 exact add_str (fun t' tk=>⟨.str (i++j),H,I.tok _,⟨_,rfl⟩,q⟩) hz
theorem ahV{x:V}{us:List Value}(r:Vals [x] us):∃u,us=[u]∧RelV x u:=by
 cases r with
 |cons r1 r2=>cases r2;exact⟨_,rfl,r1⟩
theorem vals2{x y:V}{us:List Value}(r:Vals [x,y] us):∃u w',us=[u,w']∧RelV x u∧RelV y w':=by
 cases r with
 |cons r1 r2 =>
  cases r2 with
  |cons r3 r4=>cases r4;exact⟨_,_,rfl,r1,r3⟩
theorem aea(hc:X.calm=true):cZ X (.builtin "max") (fun xs H Q=>∃i j,xs=[.int i,.int j]∧Q (.int (if j>i then j else i)) H):=by
 intro pins s σ H xs us Q I r h
 obtain⟨i,j,rfl,q⟩:=h
 obtain⟨u,w',rfl,⟨t,rfl⟩,⟨t',rfl⟩⟩:=vals2 r
 refine max_two_ints (I.ok.hd hc) fun h' tk k=>⟨_,H,I.kept k,?_,q⟩
 by_cases hj:j>i
 ·rw[if_pos hj,if_pos hj];exact⟨_,rfl⟩
 ·rw[if_neg hj,if_neg hj];exact⟨_,rfl⟩
theorem ad9(hc:X.calm=true):cZ X (.builtin "min") (fun xs H Q=>∃i j,xs=[.int i,.int j]∧Q (.int (if j<i then j else i)) H):=by
 intro pins s σ H xs us Q I r h
 obtain⟨i,j,rfl,q⟩:=h
 obtain⟨u,w',rfl,⟨t,rfl⟩,⟨t',rfl⟩⟩:=vals2 r
 refine min_two_ints (I.ok.hd hc) fun h' tk k=>⟨_,H,I.kept k,?_,q⟩
 by_cases hj:j<i
 ·rw[if_pos hj,if_pos hj];exact⟨_,rfl⟩
 ·rw[if_neg hj,if_neg hj];exact⟨_,rfl⟩
end
end L2
namespace L2
open PySem PySem.Spec PyProof.Rows
structure Gk (h:Heap) (x dx C:Addr) (mA:Str→Option Value):Prop where
 obj:h.get? x=some (PySem.W.instObj C dx)
 ns:h.Ns1 dx mA
 ne:dx≠x
theorem Y7{h:Heap}{dx:Addr}{mA:Str→Option Value}(n:h.Ns1 dx mA):∃od,h.get? dx=some od∧∀name,PySem.W.lookIn name od=some (mA name):=by
 obtain⟨o,es,ep,ho,hd,hk,_,hm⟩:=n
 refine⟨o,ho,fun name=>?_⟩
 have e:=hm name
 unfold nsFind findBy at e
 rw[←Array.find?_toList]at e
 unfold PySem.W.lookIn
 rw[hd]
 dsimp only
 split
 ·rename_i y q
  rw[q]at e
  exact congrArg some e
 ·rename_i q
  rw[q]at e
  have a:es.toList.any (·.refKey)=false:=by
   rw[alb]
   intro y hy
   obtain⟨z,t,hkey⟩:=hk y (akm.mp hy)
   simp[DictEntry.refKey,hkey]
  have a':¬es.toList.any (·.refKey)=true:=by rw[a];exact ahG
  rw[if_neg a']
  exact congrArg some e
theorem Gk.look{h:Heap}{x dx C:Addr}{mA:Str→Option Value}(I:Gk h x dx C mA):∃od,PySem.W.InstAt h x (PySem.W.instObj C dx) C (some od)∧∀name,PySem.W.lookIn name od=some (mA name) :=
 let⟨od,ho,hl⟩:=Y7 I.ns
 ⟨od,⟨I.obj,rfl,rfl,ho⟩,hl⟩
section
variable {P:Program}{w:World}{H H':Hp}{h h':Heap}{a C dx:Addr}{fs fs':List (Str×V)}
theorem aaw(hok:d7 P w H h) (e:H a=some (.ins C dx fs)):∃mA,Gk h a dx C mA∧(∀f,Gh (fs.lookup f) (mA f))∧PySem.Within mA (fs.map (·.1))∧fs.length≤1000∧H dx=some (.own a):=by
 obtain⟨d,z,ne,ob,mA,n,r,q⟩:=(show eS P w H h a (.ins C dx fs)from hok a _ e)
 exact⟨mA,⟨ob,n,ne⟩,r,q,z,d⟩
end
structure Gs (K:PySem.W.Frag) (C:Addr):Prop where
 pg:PySem.W.plainGet K C Str.empty=true
 hd:PySem.W.hasDictIn K C=true
 po:PySem.W.plainOver K C=true
 sa:PySem.W.findIn K (.ref C) "__setattr__"=some (some (.builtin "object.__setattr__"))
theorem Gs.get{K:PySem.W.Frag}{C:Addr}(c:Gs K C) (f:Str):PySem.W.plainGet K C f=true:=c.pg
section
variable {X:Cx}{pins:List (Addr×Obj)}{σ:St}{H:Hp}{s:Shared}{A:Around}{E:Value→Shared→Prop}{Q:Value→Shared→Prop}{c:Value}{b:Bool}
inductive iO (K:PySem.W.Frag) (H:Hp):V→Value→Prop where
 |aG:iO K H .aG (.type "NoneType")
 |bl (x:Bool):iO K H (.bl x) (.type "bool")
 |int (i:Int):iO K H (.int i) (.type "int")
 |str (x:Str):iO K H (.str x) (.type "str")
 |nL (x:UInt64):iO K H (.nL x) (.type "float")
 |lst {a:Addr}{xs:List V}(e:H a=some (.lst xs)):iO K H (.ref a) (.type "list")
 |fF {a:Addr}{o:Obj}{xs:List V}(e:H a=some (.fF o (.lst xs))):iO K H (.ref a) (.type "list")
 |tup {a:Addr}{xs:List V}(e:H a=some (.tup xs)):iO K H (.ref a) (.type "tuple")
 |dK {a:Addr}{kvs:List (Key×V)}(e:H a=some (.dK kvs)):iO K H (.ref a) (.type "dict")
 |dT {a:Addr}{kvs:List (List Key×V)}(e:H a=some (.dT kvs)):iO K H (.ref a) (.type "dict")
 |ins {a C dx:Addr}{fs:List (Str×V)}(e:H a=some (.ins C dx fs)) (cl:Gs K C) (ha:PySem.W.findIn K (.ref C) "__class__"=some (some (.builtin "object.__class__")))
   (hn:PySem.W.specialIn K (.builtin "object.__class__") "__get__"=some (some (.builtin "getset_descriptor.__get__"))) (htk:PySem.W.takesIn K (.builtin "object.__class__")=some true)
   (hm:PySem.W.mroIn K C (.type "object")=some true):iO K H (.ref a) (.ref C)
theorem aaq{x:V}{u t:Value}(I:Inv X pins σ H s) (rx:RelV x u) (ty:iO X.K H x t) (e:PySem.W.kitOne X.K t c=some b) (h:∀tk,Q (.bool b) {s with toks:=tk}) :
  wpAny (model X.prog X.w) A (call (.builtin "isinstance") [u,c]) Q E s:=by
 cases ty with
 |aG=>cases(show u=Value.none from rx);exact aii PySem.W.kitx_none I.gh True.intro e (fun z=>nomatch z) h
 |bl y=>cases(show u=Value.bool y from rx);exact aii PySem.W.kitx_bool I.gh True.intro e (fun z=>nomatch z) h
 |int i=>obtain⟨t,q⟩:=(show ∃t,u=Value.int i t from rx);cases q;exact aii PySem.W.kitx_int I.gh True.intro e (fun z=>nomatch z) h
 |str y=>obtain⟨t,q⟩:=(show ∃t,u=Value.str y t from rx);cases q;exact aii PySem.W.kitx_str I.gh True.intro e (fun z=>nomatch z) h
 |nL y=>obtain⟨t,q⟩:=(show ∃t,u=Value.float y t from rx);cases q;exact aii PySem.W.kitx_float I.gh True.intro e (fun z=>nomatch z) h
 | @lst a xs ea =>
  cases(show u=Value.ref a from rx)
  obtain⟨_,_,n,_,h1⟩:=(show eS X.prog X.w H s.heap a (.lst xs)from I.hok a _ ea)
  exact aii alc I.gh ⟨_,h1,rfl⟩ e (fun z=>nomatch z) h
 | @fF a ob xs ea =>
  cases(show u=Value.ref a from rx)
  obtain⟨_,_,_,n,_,h1⟩:=(show eS X.prog X.w H s.heap a (.fF ob (.lst xs))from I.hok a _ ea)
  exact aii alc I.gh ⟨_,h1,rfl⟩ e (fun z=>nomatch z) h
 | @tup a xs ea =>
  cases(show u=Value.ref a from rx)
  obtain⟨_,_,_,p⟩:=(show eS X.prog X.w H s.heap a (.tup xs)from I.hok a _ ea)
  obtain⟨o,h1,h2,_⟩:=p
  exact aii PySem.W.kitx_tuple I.gh ⟨o,h1,h2⟩ e (fun z=>nomatch z) h
 | @dK a kvs ea =>
  cases(show u=Value.ref a from rx)
  obtain⟨_,_,vs,_,p⟩:=(show eS X.prog X.w H s.heap a (.dK kvs)from I.hok a _ ea)
  obtain⟨o,es,ep,h1,h2,_⟩:=p
  exact aii akn I.gh ⟨o,h1,h2.1⟩ e (fun z=>nomatch z) h
 | @dT a kvs ea =>
  cases(show u=Value.ref a from rx)
  obtain⟨_,_,xs,_,o,es,ep,h1,h2,_⟩:=(show eS X.prog X.w H s.heap a (.dT kvs)from I.hok a _ ea)
  exact aii akn I.gh ⟨o,h1,h2.1⟩ e (fun z=>nomatch z) h
 | @ins a C dx fs ea cl ha hn htk hm =>
  cases(show u=Value.ref a from rx)
  obtain⟨mA,O,_⟩:=aaw I.hok ea
  obtain⟨od,J,_⟩:=O.look
  exact aii (PySem.W.kitx_own (cl.get _) cl.hd ha hn htk hm) I.gh J e (fun z=>nomatch z) h
end
end L2
namespace L2
open PySem PySem.Spec PyProof.Rows
structure e8 (k:Nat) (A:Around):Prop where
 hd:A.handled=none
 dp:A.depth+3*k+5<recursionLimit
 un:A.units+16*k+200<cLine
theorem e8.mono{j k:Nat}{A:Around}(r:e8 k A) (h:j≤k):e8 j A:=⟨r.hd,by have:=r.dp;omega,by have:=r.un;omega⟩
theorem e8.deeper{k:Nat}{A:Around}(r:e8 (k+1) A) (env:Env):e8 k (A.deeper env) :=
 ⟨r.hd,by have:=r.dp;show A.depth+1+3*k+5<_;omega,by have:=r.un;show A.units+3+16*k+200<_;omega⟩
theorem e8.depth{k:Nat}{A:Around}(r:e8 k A):A.depth<recursionLimit:=by have:=r.dp;omega
theorem e8.units{k:Nat}{A:Around}(r:e8 k A):A.units+64<cLine:=by have:=r.un;omega
def wG:TA:=fun _ H Q=>Q [] H
def wI(ta:TE) (tr:TA):TA:=fun σ H Q=>ta σ H fun x H1=>tr σ H1 fun xs H2=>Q (x::xs) H2
section
variable {X:Cx}{e:Expr}{es:List Expr}{te:TE}{t:TA}{pos:Pos}
theorem jX:PA X [] wG:=fun _ _ _ _ H Q I h=>Calls.spliced_nil ⟨[],H,I,.nil,h⟩
theorem jr(ha:PE X e te) (hr:PA X es t) (hs:starEach (e::es) X.env=(false,eval e X.env)::starEach es X.env:=by rfl):PA X (e::es) (wI te t):=by
 intro pos pins s σ H Q I h
 rw[hs]
 show wpAny _ _ (spliced ((false,eval e X.env)::backTo pos (starEach es X.env))) _ _ s
 refine Calls.spliced_cons (bB (ha pins s σ H _ I h) fun u s1 ⟨x,H1,I1,r1,q1⟩=>?_)
 exact bB (hr pos pins s1 σ H1 _ I1 q1) fun us s2 ⟨xs,H2,I2,r2,q2⟩=>⟨x::xs,H2,I2,.cons r1 r2,q2⟩
def Pu(t:TA):TE:=fun σ H Q=>t σ H fun xs H1=>xs.length≤sizeLine∧∀p,H1 p=none→Q (.ref p) (upd H1 p (.tup xs))
def PN(t:TA):TE:=fun σ H Q=>t σ H fun xs H1=>xs.length≤sizeLine∧∀p,H1 p=none→Q (.ref p) (upd H1 p (.lst xs))
theorem Uw{x1}(h:PA X es t):PE X (.Tuple es x1 pos) (Pu t):=by
 intro pins s σ H Q I hq
 refine wpAny_Tuple_spliced (bB (h pos pins s σ H _ I hq) fun us s1 ⟨xs,H1,I1,r,z,q⟩=>⟨by rw[←r.length];exact z,?_⟩)
 have hf:H1 s1.heap.objs.size=none:=I1.hok.fresh (aho _)
 refine⟨.ref s1.heap.objs.size,upd H1 s1.heap.objs.size (.tup xs),I1.laid (t':=s1.toks) (fun b u e=>ahp _ e) (aho _) ?_,rfl,q _ hf⟩
 exact⟨z,us,r,⟨_,ahB _ rfl,rfl,⟨_,rfl⟩,rfl⟩⟩
theorem Im(h:PA X es t):PE X (.List es pos) (PN t):=by
 intro pins s σ H Q I hq
 refine wpAny_List_spliced (bB (h pos pins s σ H _ I hq) fun us s1 ⟨xs,H1,I1,r,z,q⟩=>⟨by rw[←r.length];exact z,?_⟩)
 have hf:H1 s1.heap.objs.size=none:=I1.hok.fresh (aho _)
 refine⟨.ref s1.heap.objs.size,upd H1 s1.heap.objs.size (.lst xs),I1.laid (t':=s1.toks) (fun b u e=>ahp _ e) (aho _) ?_,rfl,q _ hf⟩
 exact⟨z,us,0,r,ahB _ rfl⟩
end
abbrev Sp:=List V→Hp→VK→XK→Prop
abbrev oh:=List Env→Hp→Shared→XK→Value→Shared→Prop
structure vY (P:Program) (w:World) (K:PySem.W.Frag) (mg:Str→Option Value) (base:Heap) (A:Around) (outer:List Env) (s:Shared) (H:Hp):Prop where
 frames:A.frames=some outer
 mod:Mod K mg base
 bs:∀b o,base.get? b=some o→s.heap.get? b=some o∧H b=none
 kB:base.objs.size≤s.heap.objs.size
 jC:s.heap.FunFrames base outer
 sf:∀b∈frs outer,H b=none
 hok:d7 P w H s.heap
 bare:AllBare s.gens
def CE(outer:List Env) (P:Program) (w:World) (H:Hp) (s:Shared) (Q:VK) (u:Value) (s':Shared):Prop :=
 ∃v H',s'.os=s.os∧AllBare s'.gens∧Un (frs outer) [] H H' s.heap s'.heap∧d7 P w H' s'.heap∧RelV v u∧Q v H'
def CR(CX:oh) (outer:List Env) (P:Program) (w:World) (H:Hp) (s:Shared) (Q:VK) (E:XK) (r:Result) (s':Shared):Prop :=
 match r with
 |.ok (.ret u)=>CE outer P w H s Q u s'
 |.ok _=>False
 |.error e=>CX outer H s E e s'
structure bY (P:Program) (w:World) (K:PySem.W.Frag) (mg:Str→Option Value) (base:Heap) (CX:oh) (k:Nat) (f:Addr) (fd:FuncData) (ps:List Str) (sp:Sp):Prop where
 len:∀vs H Q E,sp vs H Q E→vs.length=ps.length
 run:∀(A:Around) (outer:List Env) (s:Shared) (H:Hp) (args:Args) (us:List Value) (vs:List V) (Q:VK) (E:XK),e8 k A→vY P w K mg base A outer s H→BindsTo s fd args (ps.zip us)→Vals vs us→sp vs H Q E →
  codeAny (model P w) A (.call (.ref f) args) (CR CX outer P w H s Q E) s
section
variable {X:Cx}{pins:List (Addr×Obj)}{σ:St}{H:Hp}{s s':Shared}
theorem Inv.acp(I:Inv X pins σ H s):vY X.prog X.w X.K X.mg X.base X.A X.stack s H :=
 ⟨I.ok.frames,I.ok.mod,I.bs,ahN I.ok.kB I.sz,I.stack,I.Ho,I.hok,I.bare⟩
theorem Inv.after{Q:VK}{u:Value}(I:Inv X pins σ H s) (h:CE X.stack X.prog X.w H s Q u s'):EP X pins σ Q u s':=by
 obtain⟨v,H',os,bare,un,hok,r,q⟩:=h
 obtain⟨hh,g,d,t,os'⟩:=s'
 obtain rfl:os'=s.os:=os
 exact⟨v,H',I.call (h':=hh) (g':=g) (d':=d) (t':=t) (ch:=[]) un hok bare (fun b z=>absurd z (by simp)),r,q⟩
end
def G9(sp:Sp) (nN:List V) (E:XK) (t:TA):TE:=fun σ H Q=>t σ H fun vs H1=>sp (vs++nN) H1 Q E
def Binds(K:PySem.W.Frag) (fd:FuncData) (ps:List Str) (ds:List Value):Prop :=
 ∀(s:Shared) (us:List Value),K.In s.heap→(us++ds).length=ps.length→BindsTo s fd ⟨us,[]⟩ (ps.zip (us++ds))
theorem Binds.all{K:PySem.W.Frag}{fd:FuncData}{ps:List Str}(h:∀us:List Value,us.length=ps.length→bindArgs fd ⟨us,[]⟩=pure (ps.zip us)):Binds K fd ps []:=fun s us _ hl=>by
 rw[ajg]at hl ⊢
 exact .of_eq (h us hl)
def Passes(CX:oh) (X:Cx) (E:XK):Prop:=∀(pins:List (Addr×Obj)) (σ:St) (H:Hp) (s:Shared) (e:Value) (s':Shared),Inv X pins σ H s→CX X.stack H s E e s'→X.xe e s'
section
variable {X:Cx}{CX:oh}{k:Nat}{f C:Addr}{fd:FuncData}{ps:List Str}{sp:Sp}{nN:List V}{ds:List Value}{E:XK}{x m:Str}{p pos apos:Pos}{e o:Expr}{es:List Expr}{ta:TE}{t:TA}
theorem RU{pins:List (Addr×Obj)}{σ:St}{H:Hp}{s:Shared}{Q:VK}{us:List Value}{vs:List V}(F:bY X.prog X.w X.K X.mg X.base CX k f fd ps sp) (hr:e8 k X.A) (hb:Binds X.K fd ps ds) (hd:Vals nN ds) (hx:Passes CX X E)
  (I:Inv X pins σ H s) (r:Vals vs us) (h:sp (vs++nN) H Q E):wpAny (model X.prog X.w) X.A (call (.ref f) us) (EP X pins σ Q) X.xe s:=by
 have r2:Vals (vs++nN) (us++ds):=r.append hd
 have hl:(us++ds).length=ps.length:=by rw[←r2.length];exact F.len _ _ _ _ h
 refine wpAny_call (ajv (F.run X.A X.stack s H ⟨us,[]⟩ (us++ds) (vs++nN) Q E hr I.acp (hb s us I.gh hl) r2 h) fun r s' hq=>?_)
 cases r with
 |error e=>exact hx pins σ H s e s' I hq
 |ok fl =>
  cases fl with
  |ret u=>exact I.after hq
  |next=>exact False.elim hq
  |brk=>exact False.elim hq
  |cont=>exact False.elim hq
theorem UL(F:bY X.prog X.w X.K X.mg X.base CX k f fd ps sp) (hr:e8 k X.A) (hg:Gl X x) (hm:X.mg x=some (.ref f)) (hk:PySem.W.keepIn X.K (.ref f)=true) (hb:Binds X.K fd ps ds) (hd:Vals nN ds) (hx:Passes CX X E)
  (ha:PA X (e::es) t) (hdb:(x==("__debug__":Str))=false:=by decide) (he:starEach (e::es) X.env=(false,eval e X.env)::starEach es X.env:=by rfl) (hpl:(backTo pos (starEach es X.env)).any (·.1)=false:=by rfl) :
  PE X (.Call (.Name x p) (e::es) [] pos) (G9 sp nN E t):=by
 intro pins s σ H Q I h
 refine ako (JY I hg hm ?_ hdb)
 refine PySem.W.callWith_K (h₀:=X.base) I.ok.mod.pB hk (bB (ha pos pins s σ H _ I h) fun us s1 ⟨vs,H1,I1,r,q⟩=>⟨I1.gh,?_⟩) he hpl
 exact RU F hr hb hd hx I1 r q
end
structure cM (N P:List Str) (sc:Scope):Prop where
 kind:sc.kind=.function
 co:sc.isCoroutine=false
 gen:sc.isGenerator=false
 nd:N.Nodup
 pre:N.take P.length=P
 par:∀x∈P,sc.names.lookup x=some .local∨sc.names.lookup x=some .cell
 Xx:∀y∈sc.names,y.2≠.free
theorem MO{kindOf:Str→Option NameKind}{x:Str}:∀{binds:List (Str×Value)}{m:Str→Option Value},(∀v,(x,v)∉binds)→bindL kindOf binds m x=m x
 |[],_,_=>rfl
 |(n,v)::r,m,h=>by
  unfold bindL
  rw[MO fun w hw=>h w (ahT _ hw)]
  split
  ·have:x≠n:=by rintro rfl;exact h v ahS
   simp[this]
  ·rfl
theorem MQ{kindOf:Str→Option NameKind}{x:Str}:∀{binds:List (Str×Value)}{m:Str→Option Value},(∀v,(x,v)∉binds)→bindC kindOf binds m x=m x
 |[],_,_=>rfl
 |(n,v)::r,m,h=>by
  unfold bindC
  rw[MQ fun w hw=>h w (ahT _ hw)]
  split
  ·rfl
  ·have:x≠n:=by rintro rfl;exact h v ahS
   simp[this]
theorem MP{kindOf:Str→Option NameKind}{x:Str}{v:Value}:∀{P:List Str}{vs:List Value}{i:Nat}{m:Str→Option Value},P.Nodup→P[i]? = some x→vs[i]? = some v→kindOf x=some .local →
  bindL kindOf (P.zip vs) m x=some v
 |[],_,_,_,_,h,_,_=>by simp at h
 |_::_,[],_,_,_,_,h,_=>by simp at h
 |p::P,w::vs,0,m,nd,h1,h2,hk=>by
  simp at h1 h2;subst h1;subst h2
  show bindL kindOf ((p,w)::P.zip vs) m p=_
  unfold bindL
  rw[MO fun v hv=>(aiY.mp nd).1 (akp hv).1,if_pos hk]
  simp
 |p::P,w::vs,i+1,m,nd,h1,h2,hk=>by
  show bindL kindOf ((p,w)::P.zip vs) m x=_
  unfold bindL
  exact MP (i:=i) (aiY.mp nd).2 (by simpa using h1) (by simpa using h2) hk
theorem MR{kindOf:Str→Option NameKind}{x:Str}{v:Value}:∀{P:List Str}{vs:List Value}{i:Nat}{m:Str→Option Value},P.Nodup→P[i]? = some x→vs[i]? = some v→kindOf x≠some .local →
  bindC kindOf (P.zip vs) m x=some v
 |[],_,_,_,_,h,_,_=>by simp at h
 |_::_,[],_,_,_,_,h,_=>by simp at h
 |p::P,w::vs,0,m,nd,h1,h2,hk=>by
  simp at h1 h2;subst h1;subst h2
  show bindC kindOf ((p,w)::P.zip vs) m p=_
  unfold bindC
  rw[MQ fun v hv=>(aiY.mp nd).1 (akp hv).1,if_neg hk]
  simp
 |p::P,w::vs,i+1,m,nd,h1,h2,hk=>by
  show bindC kindOf ((p,w)::P.zip vs) m x=_
  unfold bindC
  exact MR (i:=i) (aiY.mp nd).2 (by simpa using h1) (by simpa using h2) hk
def start(N:List Str) (vs:List V):St:=vs.map some++List.replicate (N.length-vs.length) none
def nQ(CX:oh) (P:Program) (w:World) (K:PySem.W.Frag) (mg:Str→Option Value) (base:Heap) (N:List Str) (qual:Str) (scope:Scope) (f:Addr) (cd:Value) (A:Around) (outer:List Env) (s:Shared) (H:Hp) (E:XK):Cx where
 prog:=P
 w:=w
 K:=K
 mg:=mg
 base:=base
 A:=A.deeper (envOfC qual scope s.heap.objs.size f cd)
 N:=N
 s₀:=s
 H₀:=H
 env:=envOfC qual scope s.heap.objs.size f cd
 outer:=outer
 stack:=envOfC qual scope s.heap.objs.size f cd::outer
 ex:=[]
 calm:=true
 fn:=fun _=>true
 pn:=[]
 xe:=fun e s'=>wpAny (model P w) (A.deeper (envOfC qual scope s.heap.objs.size f cd)) (leaving (envOfC qual scope s.heap.objs.size f cd) e) (fun _ s''=>CX outer H s E e s'') (fun e' s''=>CX outer H s E e' s'') s'
theorem L6{sc:Scope}{n:Nat}{x:Str}(h:sc.names.lookup x=some .cell):∃c,(cellsFrom n sc.names []).lookup x=some c:=by
 have q:=ajR sc.names n [] (.inl h)
 exact akq.mp q
theorem aat{CX:oh}{P:Program}{w:World}{K:PySem.W.Frag}{mg:Str→Option Value}{base:Heap}{N ps:List Str}{qual:Str}{scope:Scope}{f:Addr}{cd:Value}{A:Around}{outer:List Env}{s s1:Shared}{H:Hp}{E:XK}{us:List Value}{vs:List V}
  (S:cM N ps scope) (hd:A.handled=none) (e0:vY P w K mg base A outer s H) (hl:vs.length=ps.length) (r:Vals vs us)
  (x:InCallC s s.heap.objs.size (bindL (envOfC qual scope s.heap.objs.size f cd).kindOf (ps.zip us) fun _=>none) (cellsFrom (s.heap.objs.size+1) scope.names []) (bindC (envOfC qual scope s.heap.objs.size f cd).kindOf (ps.zip us) fun _=>none) s1) :
  Inv (nQ CX P w K mg base N qual scope f cd A outer s H E) [] (start N vs) H s1:=by
 have hpl:ps.length≤N.length:=by have:=congrArg List.length S.pre;rw[ajh]at this;omega
 obtain⟨h1,tk,rfl,hk⟩:=x.done
 have uM:∀b:Addr,b∉(nQ CX P w K mg base N qual scope f cd A outer s H E).ex:=fun b z=>absurd (show b∈([]:List Addr)from z) (by simp)
 refine⟨⟨e0.mod,S.kind,rfl,rfl,aho _,fun y z c h1 h2=>?_,fun y hy=>?_,fun y c _ h=>?_,fun _=>hd,Around.frames_deeper e0.frames,.inr ⟨rfl,rfl⟩,fun b z=>absurd z (uM b),e0.bs,e0.kB,fun b _ _=>uM b,fun b z=>absurd z (uM b),e0.jC,e0.sf⟩,
  rfl,e0.bare,Un.kept hk,⟨_,x.toInCall.ns,fun i y v h1 h2 h3=>?_⟩,fun y c h=>⟨_,x.cell y c h⟩,e0.hok.fresh (aho _),fun y c h=>?_,fun p hp=>absurd (show p∈([]:List (Addr×Obj))from hp) (by simp),e0.hok.kept hk,?_⟩
 ·exact name_of_addr x.apart (aiJ h1) (aiJ h2)
 ·have hy:scope.names.lookup y=some .cell∨scope.names.lookup y=some .free:=hy
  rcases hy with hy|hy
  ·exact L6 hy
  ·exact absurd rfl (S.Xx _ (aiJ hy))
 ·exact ajd (x.above y c (aiJ h))
 ·have hi:i<vs.length:=by
   unfold start at h2
   by_cases hi:i<vs.length
   ·exact hi
   ·rw[aip (by simpa using hi)]at h2
    rw[ald]at h2
    split at h2<;>cases h2
  have ha:vs[i]? = some v:=by
   unfold start at h2
   rw[ah1 (by simpa using hi),ahP]at h2
   cases e:vs[i]? with
   |none=>rw[e]at h2;cases h2
   |some a=>rw[e]at h2;cases h2;rfl
  obtain⟨u,hu,rv⟩:=r.get ha
  have hp:ps[i]? = some y:=by
   rw[←S.pre,akr (by omega)];exact h1
  have Jl:ps.Nodup:=by rw[←S.pre];exact S.nd.sublist (ajS _ _)
  refine⟨u,rv,?_⟩
  rcases S.par y (ahL hp)with k|k
  ·exact .inl ⟨k,MP Jl hp hu k⟩
  ·obtain⟨c,e⟩:=L6 (n:=s.heap.objs.size+1) k
   refine .inr ⟨.inl k,c,e,?_⟩
   have q:=x.cell y c e
   rw[MR Jl hp hu (by show scope.names.lookup y≠_;rw[k];decide)]at q
   exact q
 ·exact e0.hok.fresh (ajd (x.above y c (aiJ h)))
 ·unfold start
  show _=N.length
  rw[ahW,ahx,List.length_replicate]
  omega
theorem abQ{CX:oh}{P:Program}{w:World}{K:PySem.W.Frag}{mg:Str→Option Value}{base:Heap}{k:Nat}{f:Addr}{name qual:Str}{params:Arguments}{body:List Stmt}{scope:Scope}{dV kV doc pm cdv ct oc:Value}{an od:Option Addr}
  {osl:Array (Option Value)}{N ps:List Str}{sp:Sp}(lk:K.lookup f=some ⟨oc,od,.func (PySem.W.fnOf name qual params body scope dV kV doc pm an cdv ct),osl⟩) (hcd:PySem.W.codeIn K cdv qual=true) (S:cM N ps scope)
  (len:∀vs H Q E,sp vs H Q E→vs.length=ps.length)
  (hbody:∀(A:Around) (outer:List Env) (s:Shared) (H:Hp) (vs:List V) (Q:VK) (E:XK),e8 k (A.deeper (envOfC qual scope s.heap.objs.size f cdv))→sp vs H Q E →
   ∃t,gG (nQ CX P w K mg base N qual scope f cdv A outer s H E) body t∧t {nx:=fun _ H'=>Q .aG H',rt:=Q} (start N vs) H) :
  bY P w K mg base CX (k+1) f (PySem.W.fnOf name qual params body scope dV kV doc pm an cdv ct) ps sp:=by
 refine⟨len,fun A outer s H args us vs Q E hr e0 hb r rY=>?_⟩
 have hl:=len _ _ _ _ rY
 have KX:K.In s.heap:=e0.mod.pB.keeps fun b o e=>(e0.bs b o e).1
 have lim:s.heap.NoLimit:=e0.mod.nolimit.keeps fun b o e=>(e0.bs b o e).1
 have hkind:∀y∈ps.zip us,scope.names.lookup y.1=some .local∨(scope.names.lookup y.1=some .cell∧((cellsFrom (s.heap.objs.size+1) scope.names []).lookup y.1).isSome=true):=fun⟨n,v⟩ hy=>by
  rcases S.par n (akp hy).1 with q|q
  ·exact .inl q
  ·exact .inr ⟨q,ajR _ _ _ (.inl q)⟩
 refine codeAny_call_function hr.depth (KX _ _ lk) rfl S.co S.gen rfl (PySem.W.codeRec_of KX hcd) (hb _ _ _ _ ?_)
 refine wpAny_newFunctionEnv_cells S.kind hkind fun env he s1 x=>?_
 subst he
 refine⟨lim.keeps x.toInCall.keep,codeAny_func ?_⟩
 obtain⟨t,ht,hq⟩:=hbody A outer s H vs Q E (hr.deeper _) rY
 have I:Inv (nQ CX P w K mg base N qual scope f cdv A outer s H E) [] (start N vs) H s1:=aat S hr.hd e0 hl r x
 refine ahU (ht [] s1 (start N vs) H _ I hq) (fun fl s' hs=>?_) fun e s' hs=>hs
 have fin:∀{σ':St}{H':Hp}{v:V}{u:Value},Inv (nQ CX P w K mg base N qual scope f cdv A outer s H E) [] σ' H' s'→RelV v u→Q v H'→CE outer P w H s Q u s' :=
  fun{σ' H' v u} J rv q=>⟨v,H',J.os,J.bare,J.base,J.hok,rv,q⟩
 cases fl with
 |ret u =>
  obtain⟨v,σ',H',J,rv,q⟩:=hs
  exact fin J rv q
 |next =>
  obtain⟨σ',H',J,q⟩:=hs
  exact fin (v:=V.aG) (u:=Value.none) J rfl q
 |brk =>
  obtain⟨_,_,_,q⟩:=hs
  exact False.elim q
 |cont =>
  obtain⟨_,_,_,q⟩:=hs
  exact False.elim q
end L2
namespace L2
open PySem PySem.Spec PyProof.Rows
section
variable {X:Cx}{x:Str}{p pos:Pos}{e:Expr}{es:List Expr}{t:TA}{id T:String}{r:List V→Hp→VK→Prop}
def wJ(r:List V→Hp→VK→Prop) (t:TA):TE:=fun σ H Q=>t σ H fun vs H1=>r vs H1 Q
theorem A9(hc:cZ X (.builtin id) r) (hg:Gl X x) (hm:X.mg x=none) (hv:bootBuiltins x=some (.builtin id)) (ha:PA X (e::es) t) (hn:x≠"__name__":=by decide) (hdb:(x==("__debug__":Str))=false:=by decide)
  (he:starEach (e::es) X.env=(false,eval e X.env)::starEach es X.env:=by rfl) (hpl:(backTo pos (starEach es X.env)).any (·.1)=false:=by rfl):PE X (.Call (.Name x p) (e::es) [] pos) (wJ r t):=by
 intro pins s σ H Q I h
 refine ako (nu I hg hm hv ?_ hn hdb)
 exact PyProof.Rows.callWith_builtin1 (bB (ha pos pins s σ H _ I h) fun us s1 ⟨vs,H1,I1,r1,q1⟩=>hc pins s1 σ H1 vs us Q I1 r1 q1) he hpl
theorem uF(hc:cZ X (.type T) r) (hg:Gl X x) (hm:X.mg x=none) (hv:bootBuiltins x=some (.type T)) (ha:PA X (e::es) t) (hn:x≠"__name__":=by decide) (hdb:(x==("__debug__":Str))=false:=by decide)
  (he:starEach (e::es) X.env=(false,eval e X.env)::starEach es X.env:=by rfl) (hpl:(backTo pos (starEach es X.env)).any (·.1)=false:=by rfl):PE X (.Call (.Name x p) (e::es) [] pos) (wJ r t):=by
 intro pins s σ H Q I h
 refine ako (nu I hg hm hv ?_ hn hdb)
 exact ajf (bB (ha pos pins s σ H _ I h) fun us s1 ⟨vs,H1,I1,r1,q1⟩=>hc pins s1 σ H1 vs us Q I1 r1 q1) he hpl
end
end L2
namespace HT
open PySem PyProof.Rows
section
variable {prog:Program}{w:World}{A:Around}{E:Value→Shared→Prop}{s:Shared}
theorem ad6{t b:Addr}{vs ws:List Value}{Q:Value→Shared→Prop}(ht:IsTup s.heap t vs.toArray) (hb:IsTup s.heap b ws.toArray) (hv:vs≠[])
  (h1:ws=[]→Q (.ref t) s) (h2:ws≠[]→Q (.ref s.heap.objs.size) {s with heap:=s.heap.push {cls:=.type "tuple",data:=.seq (vs++ws).toArray} })
  (hsz:vs.length+ws.length≤sizeLine):wpAny (model prog w) A (binaryOp .Add (.ref t) (.ref b)) Q E s:=by
 obtain⟨⟨cls,dd,data,sl⟩,ho,hc,n,hd⟩:=id ht
 obtain⟨⟨adZ,dd2,data2,sl2⟩,ho2,hc2,n2,hd2⟩:=id hb
 simp only at hc hd hc2 hd2
 subst hc hd hc2 hd2
 have e:vs.toArray++ws.toArray=(vs++ws).toArray:=by simp
 by_cases hw:ws=[]
 ·exact aks ⟨_,ho,rfl⟩ ⟨_,ho2,rfl⟩ akt aku akv akw (akx _ _)
   (tuple_addW1 t b vs.toArray ws.toArray n n2 dd dd2 sl sl2 (by simpa using hv) (by simp[hw])) ⟨ho,ho2,h1 hw⟩
 ·refine aks ⟨_,ho,rfl⟩ ⟨_,ho2,rfl⟩ akt aku akv akw (akx _ _)
   (tuple_addW2 t b vs.toArray ws.toArray n n2 dd dd2 sl sl2 (by simpa using hv) (by simpa using hw) (by rw[aht,aht];exact hsz)) ⟨ho,ho2,?_⟩
  rw[e]
  exact h2 hw
def fH(n d:Nat):Option Int→Nat
 |none=>d
 |some v=>if v<0 then(v+(n:Int)).toNat else min v.toNat n
theorem AR(n d:Nat):fH n d none=d:=rfl
theorem AS(n d k:Nat):fH n d (some (k:Int))=min k n:=by
 show(if(k:Int)<0 then((k:Int)+(n:Int)).toNat else min (k:Int).toNat n)=min k n
 rw[if_neg (by omega),aiZ]
end
end HT
namespace L2
open PySem PySem.Spec PyProof.Rows
abbrev TO:=St→Hp→(Option Int→Hp→Prop)→Prop
def PO(X:Cx) (e:Option Expr) (t:TO):Prop :=
 ∀(pins:List (Addr×Obj)) (s:Shared) (σ:St) (H:Hp) (Q:Option Int→Hp→Prop),Inv X pins σ H s→t σ H Q →
  wpAny (model X.prog X.w) X.A (evalPart e X.env) (fun u s'=>∃o H',Inv X pins σ H' s'∧IsPart u o∧Q o H') X.xe s
def PL:TO:=fun _ H Q=>Q none H
def PD(t:TE):TO:=fun σ H Q=>t σ H fun x H1=>∃i,x=.int i∧Q (some i) H1
theorem intsAre_of{ns:List Int}:∀{us:List Value},Vals (ns.map V.int) us→IntsAre us ns:=by
 induction ns with
 |nil=>intro us r;rw[aky]at r;cases r;exact .nil
 |cons n ns ih =>
  intro us r
  rw[ahv]at r
  cases r with
  |cons r1 r2 =>
   obtain⟨t,e⟩:=r1
   subst e
   exact .cons n t (ih r2)
section
variable {X:Cx}{e:Expr}{te:TE}{lo hi:Option Expr}{tl th:TO}{pos p2:Pos}
theorem Tp:PO X none PL:=by
 intro pins s σ H Q I h
 rw[evalPart_none]
 exact ahl ⟨none,H,I,.none,h⟩
theorem To(h:PE X e te):PO X (some e) (PD te):=by
 intro pins s σ H Q I hw
 rw[evalPart_some]
 refine bB (h pins s σ H _ I hw) fun u s1 ⟨x,H1,I1,r1,q1⟩=>?_
 obtain⟨i,rfl,q⟩:=q1
 obtain⟨t,rfl⟩:=r1
 exact⟨some i,H1,I1,.int i t,q⟩
def M9(X:Cx) (r:V→Option Int→Option Int→Hp→VK→Prop):Prop :=
 ∀(pins:List (Addr×Obj)) (s:Shared) (σ:St) (H:Hp) (x:V) (v vl vu:Value) (lo hi:Option Int) (sl:Addr) (Q:VK),Inv X pins σ H s→RelV x v→s.heap.IsSliceOf sl vl vu .none→IsPart vl lo→IsPart vu hi→r x lo hi H Q →
  ∃T id,typeLookup (.type T) "__getitem__"=pure (some (.builtin id))∧s.TypeIs v T∧wpAny (model X.prog X.w) X.A (getItem v (.ref sl)) (EP X pins σ Q) X.xe s
def Py(r:V→Option Int→Option Int→Hp→VK→Prop) (te:TE) (tl th:TO):TE:=fun σ H Q=>te σ H fun x H1=>tl σ H1 fun l H2=>th σ H2 fun u H3=>r x l u H3 Q
theorem Ux{r:V→Option Int→Option Int→Hp→VK→Prop}(hr:M9 X r) (he:PE X e te) (hl:PO X lo tl) (hu:PO X hi th):PE X (.Subscript e (.Slice lo hi none p2) pos) (Py r te tl th):=by
 intro pins s σ H Q I h
 refine Subscript_ (bB (he pins s σ H _ I h) fun v s1 ⟨x,H1,I1,r1,q1⟩=>?_)
 refine wpAny_Slice (bB (hl pins s1 σ H1 _ I1 q1) fun vl s2 ⟨l,H2,I2,pl,q2⟩=>bB (hu pins s2 σ H2 _ I2 q2) fun vu s3 ⟨u,H3,I3,pu,q3⟩=>?_)
 rw[evalPart_none]
 refine ahl ?_
 have I4:Inv X pins σ H3 {s3 with heap:=s3.heap.push {cls:=.type "slice",data:=.fields #[vl,vu,.none]} }:=I3.kept (t':=s3.toks) fun b ob q=>ahp _ q
 obtain⟨T,id,hT,ht,hg⟩:=hr pins {s3 with heap:=s3.heap.push {cls:=.type "slice",data:=.fields #[vl,vu,.none]} } σ H3 x v vl vu l u s3.heap.objs.size Q I4 r1 (Heap.IsSliceOf.new ..) pl pu q3
 show wpAny (model X.prog X.w) X.A (subscriptTail e (.Slice lo hi none p2) v (.ref s3.heap.objs.size)) (EP X pins σ Q) X.xe {s3 with heap:=s3.heap.push {cls:=.type "slice",data:=.fields #[vl,vu,.none]} }
 exact tail_any (ops:=[.ref s3.heap.objs.size,v]) ht hT hg (by with_unfolding_all rfl)
def sF(xs:List V) (lo hi:Option Int):List V:=(xs.drop (HT.fH xs.length 0 lo)).take (HT.fH xs.length xs.length hi-HT.fH xs.length 0 lo)
theorem ada(xs:List V) (lo hi:Option Int):(sF xs lo hi).length≤xs.length:=by
 unfold sF
 rw[ajh,ale]
 omega
def SG(K:PySem.W.Frag):R2:=fun x y H Q=>∃a b xs ys,x=.ref a∧y=.ref b∧bX K H a xs∧bX K H b ys∧xs≠[]∧xs.length+ys.length≤sizeLine ∧
 (ys=[]→Q (.ref a) H)∧(ys≠[]→∀p,H p=none→Q (.ref p) (upd H p (.tup (xs++ys))))
theorem Vals.Bt{xs:List V}{us:List Value}(r:Vals xs us):us=[]↔xs=[]:=by
 cases r with
 |nil=>simp
 |cons _ _=>simp
theorem IE:bP X (binaryOp .Add) (SG X.K):=by
 intro pins s σ H x y v u Q I rx ry h
 obtain⟨a,b,xs,ys,rfl,rfl,ha,hb,hx,hz,q1,q2⟩:=h
 cases rx
 cases ry
 obtain⟨its,r1,p1,_⟩:=I.tuple ha
 obtain⟨its2,r2,p2,_⟩:=I.tuple hb
 refine HT.ad6 p1 p2 (fun z=>hx (r1.Bt.mp z)) (fun z=>⟨.ref a,H,I,rfl,q1 (r2.Bt.mp z)⟩) (fun z=>?_) (by rw[←r1.length,←r2.length];exact hz)
 refine⟨.ref s.heap.objs.size,_,I.laid (t':=s.toks) (o:=.tup (xs++ys)) (fun b ob q=>ahp _ q) (aho _) ?_,rfl,q2 (fun w=>z (r2.Bt.mpr w)) _ (I.hok.fresh (aho _))⟩
 exact⟨by rw[ahW];exact hz,_,r1.append r2,kH.new _ _⟩
end
end L2
namespace L2
open PySem PySem.Spec PyProof.Rows
def gC(n:Nat) (i:Int):Option Nat:=if 0≤i then(if i<n then some i.toNat else none)else if -(n:Int)≤i then some (i+n).toNat else none
def cY{α:Type}(xs:List α) (i:Int):Option α:=(gC xs.length i).bind fun j=>xs[j]?
theorem Kc{n:Nat}{i:Int}{j:Nat}(h:gC n i=some j):seqIndex? i n=some j∧j<n∧-(n:Int)≤i∧i<n:=by
 unfold gC at h
 by_cases h0:0≤i
 ·rw[if_pos h0]at h
  by_cases h1:i<n
  ·rw[if_pos h1]at h
   have e:i.toNat=j:=ahJ h
   exact⟨by rw[seqIndex_of h0 h1,e],by omega,by omega,h1⟩
  ·rw[if_neg h1]at h;cases h
 ·rw[if_neg h0]at h
  by_cases h1:-(n:Int)≤i
  ·rw[if_pos h1]at h
   have e:(i+n).toNat=j:=ahJ h
   exact⟨by rw[seqIndex_neg (by omega) h1,e],by omega,h1,by omega⟩
  ·rw[if_neg h1]at h;cases h
theorem MX{α:Type}{xs:List α}{i:Int}{v:α}(h:cY xs i=some v):∃j,seqIndex? i xs.length=some j∧xs[j]? = some v∧j<xs.length∧-(xs.length:Int)≤i∧i<xs.length:=by
 unfold cY at h
 cases e:gC xs.length i with
 |none=>rw[e]at h;cases h
 |some j =>
  rw[e]at h
  obtain⟨h1,h2,h3,h4⟩:=Kc e
  exact⟨j,h1,h,h2,h3,h4⟩
theorem lU{α:Type}{xs:List α}{j:Nat}{v:α}(h:xs[j]? = some v):cY xs (j:Int)=some v:=by
 have hj:j<xs.length:=(ahz.mp h).1
 have e:gC xs.length (j:Int)=some j:=by
  unfold gC
  rw[if_pos (by omega),if_pos (by omega)];simp
 unfold cY;rw[e];exact h
def Na(b:Expr):Prop:=∀o i,subscripted b false o i=operate [o,i] (getItem o i)
def tL(X:Cx) (r:R2):Prop :=
 ∀(value slice:Expr) (pins:List (Addr×Obj)) (s:Shared) (σ:St) (H:Hp) (x y:V) (v u:Value) (Q:VK),Inv X pins σ H s→RelV x v→RelV y u→r x y H Q →
  subscripted slice false v u=operate [v,u] (getItem v u)→wpAny (model X.prog X.w) X.A (subscriptTail value slice v u) (EP X pins σ Q) X.xe s
def MtR(X:Cx) (id:String) (r:V→List V→Hp→VK→Prop):Prop :=
 ∀(pins:List (Addr×Obj)) (s:Shared) (σ:St) (H:Hp) (x:V) (xs:List V) (v:Value) (us:List Value) (Q:VK),Inv X pins σ H s→RelV x v→Vals xs us→r x xs H Q →
  wpAny (model X.prog X.w) X.A (call (.builtin id) (v::us)) (EP X pins σ Q) X.xe s
section
variable {X:Cx}{a b:Expr}{ta tb:TE}{pos:Pos}
theorem UC{r:R2}(hr:tL X r) (ha:PE X a ta) (hb:PE X b tb) (hs:Na b):PE X (.Subscript a b pos) (wD r ta tb):=by
 intro pins s σ H Q I h
 exact Subscript_ (F5 ha hb I h fun v u s2 x y H2 I2 rx ry q=>hr a b pins s2 σ H2 x y v u Q I2 rx ry q (hs _ _))
def Sy(K:PySem.W.Frag):R2:=fun x y H Q=>∃p xs i v,x=.ref p∧y=.int i∧bw K H p xs∧cY xs i=some v∧Q v H
def Sx(K:PySem.W.Frag):R2:=fun x y H Q=>∃p xs i v,x=.ref p∧y=.int i∧bX K H p xs∧cY xs i=some v∧Q v H
theorem aah:tL X (Sy X.K):=by
 intro value slice pins s σ H x y v u Q I rx ry h hs
 obtain⟨p,xs,i,z,rfl,rfl,hq,he,q⟩:=h
 cases rx
 obtain⟨t,rfl⟩:=ry
 obtain⟨its,r,pl,hz⟩:=I.list hq
 obtain⟨j,h1,h2,h3,h4,h5⟩:=MX he
 obtain⟨w,ew,rw'⟩:=r.get h2
 have hl:=r.length
 have hn:=rS
 have fin:EP X pins σ Q w s:=⟨z,H,I,rw',q⟩
 by_cases h0:0≤i
 ·have hj:i.toNat=j:=by
   rw[seqIndex_of h0 h5]at h1
   exact ahJ h1
  exact item_listR pl.isList h0 (by omega) (by rw[hj];simpa using ew) fin hs
 ·have hj:(i+(its.toArray.size:Int)).toNat=j:=by
   rw[seqIndex_neg (by omega) h4]at h1
   rw[aht,←hl]
   exact ahJ h1
  exact subscriptTail_builtinR (x:=w) pl.isList.typeIs slot_list_getitem.lookup
   (wpAny_getItem_list_neg (Q:=fun r s'=>r=w∧EP X pins σ Q r s') pl.isList (by omega) (by rw[aht]<;>omega) (by omega) (by rw[hj];simpa using ew) ⟨rfl,fin⟩) hs
theorem aag:tL X (Sx X.K):=by
 intro value slice pins s σ H x y v u Q I rx ry h hs
 obtain⟨p,xs,i,z,rfl,rfl,hq,he,q⟩:=h
 cases rx
 obtain⟨t,rfl⟩:=ry
 obtain⟨its,r,pl,hz⟩:=I.tuple hq
 obtain⟨j,h1,h2,h3,h4,h5⟩:=MX he
 obtain⟨w,ew,rw'⟩:=r.get h2
 have hl:=r.length
 have hn:=rS
 have fin:EP X pins σ Q w s:=⟨z,H,I,rw',q⟩
 exact subscriptTail_builtinR (x:=w) pl.typeIs slot_tuple_getitem.lookup
  (getItem_tuple (j:=j) (Q:=fun r s'=>r=w∧EP X pins σ Q r s') pl (by omega) (by omega) (by rw[aht,←hl];exact h1) (by simpa using ew) ⟨rfl,fin⟩) hs
theorem YW(its:List Value) (n j:Nat) (u:Value):Obj.mapSeq (·.setIfInBounds j u) {cls:=.type "list",data:=.seq its.toArray n}={cls:=.type "list",data:=.seq (its.set j u).toArray n}:=by
 simp[Obj.mapSeq]
theorem Inv.lst{pins:List (Addr×Obj)}{σ:St}{H:Hp}{s:Shared}{p:Addr}{xs:List V}(I:Inv X pins σ H s) (h:H p=some (.lst xs)) :
  ∃(its:List Value) (n:Nat),Vals xs its∧s.heap.get? p=some {cls:=.type "list",data:=.seq its.toArray n}∧xs.length≤sizeLine:=by
 obtain⟨z,its,n,r,e⟩:=I.hok p _ h
 exact⟨its,n,r,e,z⟩
theorem Inv.Y3{pins:List (Addr×Obj)}{σ:St}{H:Hp}{s:Shared}{p:Addr}{xs ys:List V}{its its':List Value}{n n':Nat}{f:Obj→Obj}(I:Inv X pins σ H s) (h:H p=some (.lst xs))
  (ho:s.heap.get? p=some {cls:=.type "list",data:=.seq its.toArray n}) (hf:f {cls:=.type "list",data:=.seq its.toArray n}={cls:=.type "list",data:=.seq its'.toArray n'}) (r:Vals ys its') (hz:ys.length≤sizeLine) (t:Nat) :
  Inv X pins σ (upd H p (.lst ys)) {s with heap:=s.heap.update p f,toks:=t}:=by
 have e:(s.heap.update p f).get? p=some {cls:=.type "list",data:=.seq its'.toArray n'}:=by
  rw[ajw f ho (by rw[hf]<;>rfl),hf]
 refine I.write (x:=p) (e:=p) (by rw[h];trivial) (.inl rfl) (fun b u hb q=>(aid _ _ (ah7 hb)).trans q) ⟨_,e⟩ ?_
 exact⟨hz,its',n',r,e⟩
def Sm:V→V→V→Hp→(Hp→Prop)→Prop:=fun o i v H Q=>∃p xs k j,o=.ref p∧i=.int k∧H p=some (.lst xs)∧gC xs.length k=some j∧Q (upd H p (.lst (xs.set j v)))
theorem set_list:Nb X Sm:=by
 intro pins s σ H o i v ov iv u Q I ro ri rv h
 obtain⟨p,xs,k,j,rfl,rfl,hp,hj,q⟩:=h
 cases ro
 obtain⟨t,rfl⟩:=ri
 obtain⟨its,n,r,ho,hz⟩:=I.lst hp
 obtain⟨h1,h2,h3,h4⟩:=Kc hj
 have hl:=r.length
 have hn:=rS
 have I':Inv X pins σ (upd H p (.lst (xs.set j v))) {s with heap:=s.heap.update p (Obj.mapSeq (·.setIfInBounds j u))} :=
  I.Y3 hp ho (YW its n j u) (r.set rv j) (by rw[List.length_set];exact hz) s.toks
 by_cases h0:0≤k
 ·have hk:k.toNat=j:=by
   rw[seqIndex_of h0 h4]at h1
   exact ahJ h1
  exact PySem.W.ki_setAt ho h0 (by omega) (by rw[aht,←hl];exact h4) (by rw[hk];exact⟨_,I',q⟩)
 ·have hk:(k+(its.toArray.size:Int)).toNat=j:=by
   rw[seqIndex_neg (by omega) h3]at h1
   rw[aht,←hl]
   exact ahJ h1
  exact PySem.W.ki_setBack ho (by omega) (by rw[aht,←hl];exact h3) (by omega) (by rw[hk];exact⟨_,I',q⟩)
theorem Qu(lo hi:Option Int) (n:Nat):(sliceBounds lo hi none n).1=((HT.fH n 0 lo:Nat):Int)∧(sliceBounds lo hi none n).2.1=((HT.fH n n hi:Nat):Int)∧(sliceBounds lo hi none n).2.2=1:=by
 refine⟨?_,?_,rfl⟩
 ·cases lo with
  |none=>simp[sliceBounds,HT.fH]
  |some i =>
   simp only[sliceBounds,HT.fH,alf,show(1:Int)>0 by decide,if_true]
   by_cases h:i<0
   ·simp only[h,if_true]<;>omega
   ·simp only[h,if_false]<;>omega
 ·cases hi with
  |none=>simp[sliceBounds,HT.fH]
  |some i =>
   simp only[sliceBounds,HT.fH,alf,show(1:Int)>0 by decide,if_true]
   by_cases h:i<0
   ·simp only[h,if_true]<;>omega
   ·simp only[h,if_false]<;>omega
theorem Qw(its:List Value) (lo hi:Option Int):slicePick its.toArray lo hi none=((its.drop (HT.fH its.length 0 lo)).take (HT.fH its.length its.length hi-HT.fH its.length 0 lo)).toArray:=by
 obtain⟨h1,h2,h3⟩:=Qu lo hi its.toArray.size
 unfold slicePick
 rw[h1,h2,h3]
 simp only[sliceRange_one,pick_run,aht]<;>rfl
def Sl(K:PySem.W.Frag):V→Option Int→Option Int→Hp→VK→Prop:=fun x lo hi H Q=>∃a xs,x=.ref a∧bw K H a xs∧∀p,H p=none→Q (.ref p) (upd H p (.lst (sF xs lo hi)))
theorem QE:M9 X (Sl X.K):=by
 intro pins s σ H x v vl vu lo hi sl Q I rx hs pl pu h
 obtain⟨a,xs,rfl,hx,q⟩:=h
 cases rx
 obtain⟨its,r,ht,hz⟩:=I.list hx
 have hlen:=r.length
 refine⟨"list",_,slot_list_getitem.lookup,ht.isList.typeIs,?_⟩
 refine wpAny_getItem_list_slice ht.isList hs pl pu .none (by simp) ?_ (by rw[aht]<;>omega)
 rw[Qw,←hlen]
 refine⟨.ref s.heap.objs.size,_,I.laid (t':=s.toks) (o:=.lst (sF xs lo hi)) (fun b ob q=>ahp _ q) (aho _) ?_,rfl,q _ (I.hok.fresh (aho _))⟩
 exact⟨ahN (ada xs lo hi) hz,_,0,(r.drop (HT.fH xs.length 0 lo)).take (HT.fH xs.length xs.length hi-HT.fH xs.length 0 lo),ahB _ rfl⟩
theorem aed:cZ X (.builtin "len") (fun xs H Q=>∃p ys,xs=[.ref p]∧(bw X.K H p ys∨bX X.K H p ys)∧Q (.int ys.length) H):=by
 intro pins s σ H xs us Q I r h
 obtain⟨p,ys,rfl,hq,q⟩:=h
 obtain⟨u,rfl,rx⟩:=ahV r
 cases rx
 have hn:=rS
 rcases hq with hq|hq
 ·obtain⟨its,r',pl,hz⟩:=I.list hq
  have hlen:=r'.length
  exact Calls.call_len_list pl.isList (by simp only[aht]<;>omega) ⟨.int ys.length,H,I.tok _,⟨s.toks+1,by rw[aht,hlen]⟩,q⟩
 ·obtain⟨its,r',pl,hz⟩:=I.tuple hq
  have hlen:=r'.length
  exact len_tuple pl (by simp only[aht]<;>omega) ⟨.int ys.length,H,I.tok _,⟨s.toks+1,by rw[aht,hlen]⟩,q⟩
theorem aec:cZ X (.builtin "len") (fun xs H Q=>∃z,xs=[.str z]∧z.length≤sizeLine∧Q (.int z.length) H):=by
 intro pins s σ H xs us Q I r h
 obtain⟨z,rfl,hz,q⟩:=h
 obtain⟨u,rfl,t,rfl⟩:=ahV r
 have hn:=rS
 exact len_str (by omega) ⟨.int z.length,H,I.tok _,⟨_,rfl⟩,q⟩
theorem aeb:cZ X (.type "list") (fun xs H Q=>∃p ys,xs=[.ref p]∧(bw X.K H p ys∨bX X.K H p ys)∧∀l,H l=none→Q (.ref l) (upd H l (.lst ys))):=by
 intro pins s σ H xs us Q I r h
 obtain⟨p,ys,rfl,hq,q⟩:=h
 obtain⟨u,rfl,rx⟩:=ahV r
 cases rx
 have fin:∀(its:List Value),Vals ys its→ys.length≤sizeLine→∀(h':Heap) (c':Nat),(∀b o',s.heap.get? b=some o'→h'.get? b=some o') →
   h'.get? s.heap.objs.size=some {cls:=.type "list",dict:=none,data:=.seq its.toArray c',slots:=#[]}→EP X pins σ Q (.ref s.heap.objs.size) {s with heap:=h'}:=fun its r' hz h' c' kp e =>
  ⟨.ref s.heap.objs.size,_,I.laid (t':=s.toks) kp (aho _) (show eS X.prog X.w _ h' _ (.lst ys)from⟨hz,its,c',r',e⟩),rfl,q _ (I.hok.fresh (aho _))⟩
 rcases hq with hq|hq
 ·obtain⟨its,r',pl,hz⟩:=I.list hq
  have hlen:=r'.length
  obtain⟨o,ho,hc,n,hd⟩:=pl.isList
  exact call_list_seq p (.inl rfl) ho hc hd (fun h' c' kp e=>fin its r' hz h' c' kp e) (by simp only[aht]<;>omega)
 ·obtain⟨its,r',pl,hz⟩:=I.tuple hq
  have hlen:=r'.length
  obtain⟨o,ho,hc,n,hd⟩:=pl
  exact call_list_seq p (.inr rfl) ho hc hd (fun h' c' kp e=>fin its r' hz h' c' kp e) (by simp only[aht]<;>omega)
theorem ad8:cZ X (.type "tuple") (fun xs H Q=>∃p ys,xs=[.ref p]∧((bw X.K H p ys∧∀l,H l=none→Q (.ref l) (upd H l (.tup ys)))∨(bX X.K H p ys∧Q (.ref p) H))):=by
 intro pins s σ H xs us Q I r h
 obtain⟨p,ys,rfl,h⟩:=h
 obtain⟨u,rfl,rx⟩:=ahV r
 cases rx
 rcases h with⟨hq,q⟩|⟨hq,q⟩
 ·obtain⟨its,r',pl,hz⟩:=I.list hq
  have hlen:=r'.length
  refine call_tuple_list pl.isList (fun h' kp=>?_) (by simp only[aht]<;>omega)
  have I1:Inv X pins σ H {s with heap:=h'}:=I.kept (t':=s.toks) kp
  have I2:Inv X pins σ (upd H h'.objs.size (.tup ys)) {s with heap:=h'.push {cls:=.type "tuple",data:=.seq its.toArray} } :=
   I1.laid (t':=s.toks) (fun b o e=>ahp _ e) (aho _) (show eS X.prog X.w _ _ _ (.tup ys)from⟨hz,its,r',kH.new _ _⟩)
  exact⟨.ref h'.objs.size,_,I2,rfl,q _ (I1.hok.fresh (aho _))⟩
 ·obtain⟨its,r',pl,hz⟩:=I.tuple hq
  exact call_tuple_same pl ⟨.ref p,H,I,rfl,q⟩
def GN(K:PySem.W.Frag) (T:String) (x:V) (H:Hp):Prop:=match x with
 |.str _=>T="str"
 |.int _=>T="int"
 |.ref p=>(T="list"∧∃xs,bw K H p xs)∨(T="tuple"∧((∃xs,H p=some (.tup xs))∨∃o,K.lookup p=some o∧o.cls=.type "tuple"∧o.dict=none)) ∨
   (T="dict"∧((∃kvs,H p=some (.dK kvs))∨∃kvs,H p=some (.dT kvs)))∨(T="set"∧∃S n,H p=some (.set S n))
 |_=>False
theorem O4{pins:List (Addr×Obj)}{σ:St}{H:Hp}{s:Shared}{T:String}{x:V}{v:Value}(I:Inv X pins σ H s) (r:RelV x v) (ty:GN X.K T x H) :
  s.TypeIs v T∧∀a,v=.ref a→∃ob,s.heap.get? a=some ob∧ob.dict=none:=by
 cases x with
 |str z =>
  obtain⟨t,rfl⟩:=r
  cases(show T="str" from ty)
  exact⟨typeIs_str s z t,fun _ e=>nomatch e⟩
 |int i =>
  obtain⟨t,rfl⟩:=r
  cases(show T="int" from ty)
  exact⟨typeIs_int s i t,fun _ e=>nomatch e⟩
 |ref p =>
  cases r
  rcases ty with⟨rfl,xs,hq⟩|⟨rfl,⟨xs,hk⟩|⟨o,hk,hc,hd⟩⟩|⟨rfl,hk⟩|⟨rfl,S,n,hk⟩
  ·obtain⟨its,_,pl,_⟩:=I.list hq
   refine⟨pl.isList.typeIs,fun a e=>?_⟩
   cases e
   obtain⟨o,n,e,c,hd,_⟩:=pl
   exact⟨o,e,hd⟩
  ·obtain⟨_,its,_,o,e,c,_,hd⟩:=(show eS X.prog X.w H s.heap p (.tup xs)from I.hok p _ hk)
   refine⟨⟨o,e,c⟩,fun a e2=>?_⟩
   cases e2
   exact⟨o,e,hd⟩
  ·refine⟨⟨o,I.gh p o hk,hc⟩,fun a e=>?_⟩
   cases e
   exact⟨o,I.gh _ o hk,hd⟩
  ·have z:∃o,s.heap.get? p=some o∧o.ExactDict:=by
    rcases hk with⟨kvs,hk⟩|⟨kvs,hk⟩
    ·obtain⟨_,_,_,_,o,_,_,e,ex,_⟩:=I.hok p _ hk
     exact⟨o,e,ex⟩
    ·obtain⟨_,_,_,_,o,_,_,e,ex,_⟩:=I.hok p _ hk
     exact⟨o,e,ex⟩
   obtain⟨o,e,ex⟩:=z
   refine⟨⟨o,e,ex.1⟩,fun a e2=>?_⟩
   cases e2
   exact⟨o,e,ex.2.1⟩
  ·obtain⟨o,_,_,_,e,ex,_⟩:=I.hok p _ hk
   refine⟨⟨o,e,ex.1⟩,fun a e2=>?_⟩
   cases e2
   exact⟨o,e,ex.2.1⟩
 |_=>exact False.elim ty
def PY(K:PySem.W.Frag) (T:String) (r:V→List V→Hp→VK→Prop) (to:TE) (t:TA):TE:=fun σ H Q=>to σ H fun x H1=>GN K T x H1∧t σ H1 fun xs H2=>r x xs H2 Q
variable {o e:Expr}{es:List Expr}{to:TE}{t:TA}{name:Str}{apos cpos:Pos}{T id:String}{r:V→List V→Hp→VK→Prop}
theorem xo(pa:PlainAttrs T) (slot:Slot T name id) (hty:typeOf (.builtin id)=pure (.type "method_descriptor")) (hm:MtR X id r) (ho:PE X o to) (ha:PA X (e::es) t)
  (hbase:attributeBase o name X.env (eval o X.env)=eval o X.env:=by rfl)
  (hfew:((backTo cpos (starEach (e::es) X.env)).all (fun x=>!x.1)&&(backToKw cpos (keywordEach [] X.env)).all (fun x=>x.1.isSome)
   && decide ((e::es).length+([]:List Keyword).length+(if([]:List Keyword).isEmpty then 0 else 1)<30))=true:=by rfl)
  (hline:(apos.endLine==cpos.line)=true:=by rfl) (hs:starEach (e::es) X.env=(false,eval e X.env)::starEach es X.env:=by rfl) (hplain:(backTo cpos (starEach es X.env)).any (·.1)=false:=by rfl) :
  PE X (.Call (.Attribute o name apos) (e::es) [] cpos) (PY X.K T r to t):=by
 intro pins s σ H Q I h
 refine wpAny_Call_method_late hbase hfew hline rfl (bB (ho pins s σ H _ I h) fun v s1 ⟨x,H1,I1,r1,ty,q1⟩=>?_)
 obtain⟨h1,h2⟩:=O4 I1 r1 ty
 refine⟨T,id,pa,slot,hty,h1,h2,?_⟩
 have hA:=ha cpos pins s1 σ H1 _ I1 q1
 rw[hs]at hA ⊢
 refine Calls.callWith_builtin (by show(false||(backTo cpos (starEach es X.env)).any (·.1))=false;rw[hplain]<;>rfl) (Calls.evalArgs_plain ?_)
 exact bB hA fun us s2 ⟨vs,H2,I2,r2,q2⟩=>hm pins s2 σ H2 x vs v us Q I2 r1 r2 q2
end
end L2
namespace L2
open PySem PySem.Spec PyProof.Rows
def zI(X:Cx) (id:String) (r:V→List V→Hp→VK→Prop):Prop :=
 ∀(pins:List (Addr×Obj)) (s:Shared) (σ:St) (H:Hp) (x:V) (xs:List V) (v:Value) (us:List Value) (Q:VK),Inv X pins σ H s→RelV x v→Vals xs us→r x xs H Q →
  wpAny (model X.prog X.w) X.A (call (.builtin id) (v::us)) (EP X pins σ Q) X.xe s
theorem Vals.one:∀{x:V}{us:List Value},Vals [x] us→∃u,us=[u]∧RelV x u
 |_,_,.cons r .nil=>⟨_,rfl,r⟩
theorem Vals.two:∀{x y:V}{us:List Value},Vals [x,y] us→∃u v,us=[u,v]∧RelV x u∧RelV y v
 |_,_,_,.cons r (.cons q .nil)=>⟨_,_,rfl,r,q⟩
theorem Vals.rep{xs:List V}{us:List Value}(h:Vals xs us):∀k:Nat,Vals (List.replicate k xs).flatten (List.replicate k us).flatten
 |0=>.nil
 |k+1=>by
  rw[aiG,aiG,aiK,aiK]
  exact Vals.append h (Vals.rep h k)
theorem foldl_rep(its:List Value):∀(k:Nat) (acc:List Value),
  List.foldl (fun x1 x2=>x1++x2) acc.toArray (List.replicate k its.toArray)=(acc++(List.replicate k its).flatten).toArray
 |0,acc=>by simp
 |k+1,acc=>by
  have e:acc.toArray++its.toArray=(acc++its).toArray:=by simp
  have e2:(acc++its)++(List.replicate k its).flatten=acc++(List.replicate (k+1) its).flatten:=by
   rw[aiG,aiK,ahX]
  rw[←e2,←foldl_rep its k (acc++its),←e,aiG,ajx]
section
variable {X:Cx}{pins:List (Addr×Obj)}{σ:St}{H:Hp}{s:Shared}{l b:Addr}{xs ys zs:List V}
theorem Inv.BQ{its its':List Value}{n:Nat}{f:Array Value→Array Value}{t':Nat}(I:Inv X pins σ H s) (hH:H l=some (.lst xs))
  (e:s.heap.get? l=some {cls:=.type "list",data:=.seq its.toArray n}) (hf:f its.toArray=its'.toArray) (hv:Vals ys its') (hz:ys.length≤sizeLine) :
  Inv X pins σ (upd H l (.lst ys)) {s with heap:=s.heap.update l (Obj.mapSeq f),toks:=t'}:=by
 have q:=alg e f
 rw[hf]at q
 refine I.write (x:=l) (e:=l) (by rw[hH];exact trivial) (.inl rfl) (fun b' u hb hu=>(aid s.heap (Obj.mapSeq f) (ah7 hb)).trans hu) ⟨_,q⟩ ?_
 exact⟨hz,its',_,hv,q⟩
theorem Inv.JB{its:List Value}{t':Nat}(I:Inv X pins σ H s) (hv:Vals ys its) (hz:ys.length≤sizeLine) :
  Inv X pins σ (upd H s.heap.objs.size (.lst ys)) {s with heap:=s.heap.push {cls:=.type "list",data:=.seq its.toArray},toks:=t'} :=
 I.laid (fun _ _ q=>ahp _ q) (aho _) ⟨hz,its,0,hv,ahB _ rfl⟩
theorem Inv.fresh(I:Inv X pins σ H s):H s.heap.objs.size=none:=I.hok.fresh (aho _)
theorem Inv.nq(I:Inv X pins σ H s) (hH:H l=some (.lst xs)):xs.length≤sizeLine∧∃(its:List Value) (n:Nat),Vals xs its∧xs.length=its.length∧s.heap.get? l=some {cls:=.type "list",data:=.seq its.toArray n}:=by
 obtain⟨z,its,n,r,e⟩:=I.hok l _ hH
 exact⟨z,its,n,r,r.length,e⟩
theorem IY{n:Nat}(h:n≤sizeLine):Builtin.List.listTooLong n=false:=by
 unfold Builtin.List.listTooLong
 exact decide_eq_false (by omega)
end
section
variable {X:Cx}
def SI:V→List V→Hp→VK→Prop:=fun x vs H Q=>∃l xs y,x=.ref l∧vs=[y]∧H l=some (.lst xs)∧xs.length<sizeLine∧Q .aG (upd H l (.lst (xs++[y])))
theorem YO:zI X "list.append" SI:=by
 intro pins s σ H x vs v us Q I rx rv h
 obtain⟨l,xs,y,rfl,rfl,hH,hz,q⟩:=h
 cases rx
 obtain⟨u,rfl,ru⟩:=rv.one
 obtain⟨z,its,n,r,hl,e⟩:=I.nq hH
 refine ai0 F.slot_list_append ⟨_,e,rfl⟩ F.entry_list_append (F.args_list_append_2 _ _) (alh l its.toArray n u (by rw[aht];omega)) ⟨e,?_⟩
 refine⟨.aG,_,I.BQ (its':=its++[u]) hH e (by simp) (r.append (.cons ru .nil)) ?_,rfl,q⟩
 rw[ahW,List.length_singleton]
 omega
def SA:V→List V→Hp→VK→Prop:=fun x vs H Q=>∃l b xs zs,x=.ref l∧vs=[.ref b]∧H l=some (.lst xs)∧H b=some (.lst zs)∧xs.length+zs.length≤sizeLine∧Q .aG (upd H l (.lst (xs++zs)))
theorem YM:zI X "list.extend" SA:=by
 intro pins s σ H x vs v us Q I rx rv h
 obtain⟨l,b,xs,zs,rfl,rfl,hH,hB,hz,q⟩:=h
 cases rx
 obtain⟨u,rfl,ru⟩:=rv.one
 cases ru
 obtain⟨z,its,n,r,hl,e⟩:=I.nq hH
 obtain⟨z2,its2,n2,r2,hl2,e2⟩:=I.nq hB
 have hsz:its.toArray.size+its2.toArray.size≤sizeLine:=by rw[aht,aht];omega
 have Dw:¬(!its.toArray.isEmpty&&Builtin.List.listTooLong (its.toArray.size+its2.toArray.size))=true:=by
  rw[IY hsz,ajT]
  exact ahG
 refine ai0 F.slot_list_extend ⟨_,e,rfl⟩ F.entry_list_extend (F.args_list_extend_2 _ _)
  (AutoSeq1.list_extend_list_list_0 l its.toArray n b its2.toArray n2 Dw (by rw[aht];omega) (by omega)) ⟨e,e2,?_⟩
 refine⟨.aG,_,I.BQ (its':=its++its2) hH e (by simp) (r.append r2) ?_,rfl,q⟩
 rw[ahW]
 omega
def SH:R2:=fun x y H Q=>∃l b xs zs,x=.ref l∧y=.ref b∧H l=some (.lst xs)∧H b=some (.lst zs)∧xs.length+zs.length≤sizeLine∧∀p,H p=none→Q (.ref p) (upd H p (.lst (xs++zs)))
theorem Vp:bP X (binaryOp .Add) SH:=by
 intro pins s σ H x y v u Q I rx ry h
 obtain⟨l,b,xs,zs,rfl,rfl,hH,hB,hz,q⟩:=h
 cases rx
 cases ry
 obtain⟨z,its,n,r,hl,e⟩:=I.nq hH
 obtain⟨z2,its2,n2,r2,hl2,e2⟩:=I.nq hB
 refine PySem.P.add_list e e2 ?_ (by rw[aht,aht];omega)
 have ea:its.toArray++its2.toArray=(its++its2).toArray:=by simp
 rw[ea]
 exact⟨.ref _,_,I.JB (t':=s.toks) (r.append r2) (by rw[ahW];omega),rfl,q _ I.fresh⟩
def Ss:R2:=fun x y H Q=>∃l k xs,x=.ref l∧y=.int k∧H l=some (.lst xs)∧-(2^63)≤k∧k<2^63∧xs.length*k.toNat≤sizeLine ∧
 ∀p,H p=none→Q (.ref p) (upd H p (.lst (List.replicate k.toNat xs).flatten))
theorem len_rep{α:Type}(xs:List α) (k:Nat):(List.replicate k xs).flatten.length=k*xs.length:=by
 induction k with
 |zero=>simp
 |succ k ih=>rw[aiG,aiK,ahW,ih,aji,Nat.add_comm]
theorem ID:bP X (binaryOp .Mult) Ss:=by
 intro pins s σ H x y v u Q I rx ry h
 obtain⟨l,k,xs,rfl,rfl,hH,h1,h2,hz,q⟩:=h
 cases rx
 obtain⟨t,rfl⟩:=ry
 obtain⟨z,its,n,r,hl,e⟩:=I.nq hH
 have hlen:its.toArray.size*k.toNat≤sizeLine:=by rw[aht,←hl];exact hz
 have hcap:¬its.toArray.size*k.toNat>(2^63-1)/8:=by
  have:(sizeLine:Nat)≤(2^63-1)/8:=by decide
  omega
 have hfit:¬(!Builtin.List.listFitsIndex k)=true:=by
  rw[fitsIndex_both h1 h2]
  exact ahG
 have Dw:¬Builtin.List.listTooLong (its.toArray.size*k.toNat)=true:=by
  rw[IY hlen]
  exact ahG
 have hnew:List.foldl (fun x1 x2=>x1++x2) #[] (List.replicate (if its.toArray.isEmpty=true then 0 else k.toNat) its.toArray)=(List.replicate k.toNat its).flatten.toArray:=by
  have f0:∀m:Nat,List.foldl (fun x1 x2=>x1++x2) #[] (List.replicate m its.toArray)=(List.replicate m its).flatten.toArray:=fun m=>by
   have:=foldl_rep its m []
   rw[ahI]at this
   exact this
  rw[f0]
  cases its with
  |nil=>simp
  |cons a r'=>rw[if_neg (by simp)]
 refine wpAny_binaryOp_repeat_ref (T:="list") (U:="int") (by decide) ⟨_,e,rfl⟩ (fun s'=>typeIs_int s' k t) noFill_list_mul F.fills_int_mul F.slot_int_rmul repeat_list F.slot_int_index.lookup
  (ai0 F.slot_int_rmul (typeIs_int s k t) F.entry_int_rmul (F.args_int_rmul_2 _ _) (int___rmul___int_list k t l its.toArray n)
   ⟨e,rfl,⟨_,e,rfl⟩,ai0 F.slot_list_mul ⟨_,e,rfl⟩ F.entry_list_mul (F.args_list_mul_2 _ _) (AutoListH.list___mul___list_int_3 l its.toArray n k t hfit hcap Dw) ⟨e,?_⟩⟩)
 rw[hnew]
 exact⟨.ref _,_,I.JB (t':=s.toks) (r.rep k.toNat) (by rw[len_rep,Nat.mul_comm];exact hz),rfl,q _ I.fresh⟩
end
section
variable {prog:Program}{w:World}{A:Around}{E:Value→Shared→Prop}{s:Shared}
set_option maxRecDepth 100000 in
end
end L2
namespace NV
open PySem PySem.W PySem.Calls PyProof.Rows
theorem aau{P:Params}{h:Heap}:∀(ns:List Int) (vs:List Value),WellAll P h vs (ns.map WData.int)→IntsAre vs ns:=by
 intro ns
 induction ns with
 |nil =>
  intro vs w
  rw[aky]at w
  cases w
  exact .nil
 |cons n ns ih =>
  intro vs w
  rw[ahv]at w
  cases w with
  |cons a b =>
   cases a
   exact .cons _ _ (ih _ b)
theorem Ru{l:OpenLaw}{n:Nat}(hn:l.most=some n) {P:Params}{h:Heap}{args:List WData}{vals:List Value}
  (hpre:l.row.toRowW.claim.pre args=true) (hwl:WellAll P h vals args) :
  ∃a vs ns,vals=[Value.ref a]∧args=[WData.list (ns.map WData.int)]∧h.get? a=some {cls:=.type "list",data:=.seq vs.toArray}∧IntsAre vs ns∧ns.length≤n:=by
 have hsh:WShape.hasAll [] args [.list .int]=true:=(pre_splitW hpre).1
 have hc:l.pre.holds [] {args:=args}=true:=(pre_splitW hpre).2
 obtain⟨d,r,rfl,h1,h2⟩:=hasAllW_cons hsh
 obtain rfl:=hasAllW_nil h2
 obtain⟨xs,rfl,h3⟩:=hasW_list h1
 obtain⟨ns,rfl⟩:=ajj h3
 have hlen:ns.length≤n:=by
  unfold OpenLaw.pre at hc
  have h4:(WTm.not (.lt (.lit (.int (n:Int))) (.len (.arg 0)))).holds [] {args:=[.list (ns.map .int)]}=true:=by
   have h4:=(holds_andW hc).1
   rw[hn]at h4
   exact h4
  have h5:=condW_of h4 (w_not (w_lt w_lit (w_len_list (w_arg rfl))))
  rw[ahx]at h5
  refine ali fun q=>?_
  have q':(n:Int)<((ns.length:Nat):Int):=by omega
  first
   |(rw[decide_eq_true q']at h5;exact absurd h5 (by decide))
   |(simp at h5;omega)
 cases hwl with
 |cons w1 w2 =>
  cases w2
  cases w1 with
  |list ho hall=>exact⟨_,_,ns,rfl,rfl,ho,aau ns _ hall,hlen⟩
theorem Tj(l:OpenLaw) (args:List WData):l.row.toRowW.claim.post args (.bool true) args=true :=
 postW_of (r:=l.row.toRowW) (X:=(true==true))
  (show WShape.has [] (.bool true) .bool=true by first|rfl|decide|simp[WShape.has,WShape.arms,WShape.armsAll])
  (show(WTm.eq .res (.lit (.bool true))).value [] {args:=args,res:=some (.bool true),after:=args}=some (.bool (true==true))from w_eq_bool (w_res rfl) w_lit) rfl
theorem aex{l:OpenLaw}{n:Nat}{q:Program}{loose:List Str}{XP:(Str→Option Value)→Heap→Prop}{YP:World→Heap→Prop}{d:DefRec}
  (hn:l.most=some n) (hdf:d.params.defaults=[])
  (call:∀(w:World) (s₀ s₁:Shared) (mg mb:Str→Option Value) (fa:Addr) (o:Obj) (pm cd doc:Value) (a:Addr) (vs:List Value) (ns:List Int),
   Ground q loose [] XP w s₀ mg mb s₁.heap→YP w s₁.heap →
   s₁.heap.get? fa=some o→o.data=.func (docDef d.name d.params d.body d.scope pm cd doc)→s₁.heap.CodeRec cd d.name→mg d.name=some (.ref fa) →
   s₁.heap.get? a=some {cls:=.type "list",data:=.seq vs.toArray}→IntsAre vs ns→ns.length≤n→s₁.gens=#[] →
   codeAny (model l.prog w) callerA (.call (.ref fa) ⟨[.ref a],[]⟩) (fun r s'=>r=.ok (.ret (.bool true))∧OldK s₁.heap s'.heap∧s'.os=s₁.os∧AllBare s'.gens) s₁) :
  WalkO q loose XP YP l.row.toRowW d [] (fun f vs=>PySem.call f vs):=by
 intro w s₀ s₁ mg mb G Y fa o pm cd doc dV kV ho hd hcd hD hmg hg args vals as hpre hlay hrd hwl hlo
 obtain rfl:dV=.none:=Dflts.none hD hdf
 obtain rfl:kV=.none:=Dflts.noKw hD
 obtain⟨a,vs,ns,rfl,rfl,hobj,hints,hlen⟩:=Ru hn hpre hwl
 refine enter_call (ajv (call w s₀ s₁ mg mb fa o pm cd doc a vs ns G Y ho (fd_plain hd) hcd hmg hobj hints hlen hg) fun r s' hq=>?_)
 obtain⟨rfl,h2,h3,h4⟩:=hq
 exact⟨.inl ⟨.bool true,.bool true,[],rfl,fun _=>rfl,.bool true,Tj l _,fun _=>⟨List.Pairwise.nil,fun _ hm=>(nomatch hm)⟩⟩,h2,h3,h4⟩
end NV
namespace L2
open PySem PySem.Spec PyProof.Rows
theorem GI:∀{vs:List Value}{ns:List Int},IntsAre vs ns→Vals (ns.map V.int) vs
 |_,_,.nil=>.nil
 |_,_,.cons n t h=>.cons ⟨t,rfl⟩ (GI h)
end L2
namespace L2
open PySem PySem.Spec PyProof.Rows
def cP(s:Stmt):Arguments:=match s with
 |.FunctionDef _ a _ _ _ _ _ _ _ _=>a
 |_=>{posonlyargs:=[],args:=[],vararg:=none,kwonlyargs:=[],kw_defaults:=[],kwarg:=none,defaults:=[]}
def cG(s:Stmt):List Stmt:=match s with
 |.FunctionDef _ _ b _ _ _ _ _ _ _=>b
 |_=>[]
def bf(s:Stmt):Scope:=match s with
 |.FunctionDef _ _ _ _ _ _ sc _ _ _=>sc
 |_=>{kind:=.function,names:=[],isGenerator:=false,isCoroutine:=false}
abbrev bU:oh:=fun _ _ _ _ _ _=>False
abbrev E0:XK:=fun _ _ _=>False
theorem UU{X:Cx}:Passes bU X E0:=fun _ _ _ _ _ _ _ h=>h.elim
structure nZ (K:PySem.W.Frag) (x qual:Str) (st:Stmt) (f:Addr) (fd:FuncData):Prop where
 ex:∃(oc:Value) (od:Option Addr) (kV doc pm:Value) (an:Option Addr) (cdv ct:Value) (osl:Array (Option Value)),
  fd=PySem.W.fnOf x qual (cP st) (cG st) (bf st) .none kV doc pm an cdv ct∧K.lookup f=some ⟨oc,od,.func fd,osl⟩∧PySem.W.codeIn K cdv qual=true
 kp:PySem.W.keepIn K (.ref f)=true
section
variable {P:Program}{w:World}{K:PySem.W.Frag}{mg:Str→Option Value}{base:Heap}
theorem nZ.ok{x qual:Str}{st:Stmt}{f:Addr}{fd:FuncData}{N ps:List Str}{k:Nat}{sp:Sp}(F:nZ K x qual st f fd) (S:cM N ps (bf st)) (len:∀vs H Q E,sp vs H Q E→vs.length=ps.length)
  (hbody:∀(cdv:Value) (A:Around) (outer:List Env) (s:Shared) (H:Hp) (vs:List V) (Q:VK) (E:XK),e8 k (A.deeper (envOfC qual (bf st) s.heap.objs.size f cdv))→sp vs H Q E →
   ∃t,gG (nQ bU P w K mg base N qual (bf st) f cdv A outer s H E).rG (cG st) t∧t {nx:=fun _ H'=>Q .aG H',rt:=Q} (start N vs) H):bY P w K mg base bU (k+1) f fd ps sp:=by
 obtain⟨oc,od,kV,doc,pm,an,cdv,ct,osl,rfl,lk,hcd⟩:=F.ex
 refine abQ lk hcd S len fun A outer s H vs Q E hr rY=>?_
 obtain⟨t,h,q⟩:=hbody cdv A outer s H vs Q E hr rY
 exact⟨t,h.rG,q⟩
theorem nZ.binds{x qual:Str}{st:Stmt}{f:Addr}{fd:FuncData}{ps:List Str}(F:nZ K x qual st f fd)
  (h:∀(kV doc pm:Value) (an:Option Addr) (cdv ct:Value) (us:List Value),us.length=ps.length→bindArgs (PySem.W.fnOf x qual (cP st) (cG st) (bf st) .none kV doc pm an cdv ct) ⟨us,[]⟩=pure (ps.zip us)):Binds K fd ps []:=by
 obtain⟨oc,od,kV,doc,pm,an,cdv,ct,osl,rfl,lk,hcd⟩:=F.ex
 exact .all (h kV doc pm an cdv ct)
theorem c9{x qual:Str}{st:Stmt}{f:Addr}{oc:Value}{od an:Option Addr}{osl:Array (Option Value)}{kV doc pm cdv ct:Value}(l:K.lookup f=some ⟨oc,od,.func (PySem.W.fnOf x qual (cP st) (cG st) (bf st) .none kV doc pm an cdv ct),osl⟩)
  (c:PySem.W.codeIn K cdv qual=true) (k:PySem.W.keepIn K (.ref f)=true):nZ K x qual st f (PySem.W.fnOf x qual (cP st) (cG st) (bf st) .none kV doc pm an cdv ct):=⟨⟨oc,od,kV,doc,pm,an,cdv,ct,osl,rfl,l,c⟩,k⟩
end
theorem aaL{A:Around}{k:Nat}(hr:e8 k A):A.units+1<cLine:=alj (Nat.add_le_add_left (by decide:1≤64) _) hr.units
section
variable {X:Cx}
theorem pv(i:Nat) {x:Str}{pos:Pos}(hN:X.N[i]? = some x:=by rfl) (hv:zD X.env.scope x:=by first|exact Or.inl rfl|exact Or.inr (Or.inl rfl)|exact Or.inr (Or.inr rfl)) (hd:(x==("__debug__":Str))=false:=by decide)
  (hcd:(x==("__classdict__":Str))=false:=by decide):PE X (.Name x pos) (qm i):=Il hN hv hd hcd
end
theorem pG{A B:Prop}(h:B):if false=true then A else B:=by
 rw[if_neg ahG]
 exact h
theorem pF{A B:Prop}(h:A):if true=true then A else B:=by
 rw[if_pos rfl]
 exact h
end L2
namespace L2
open PySem PySem.Spec PyProof.Rows
def fN(X:Cx) (N':List Str) (scope:Scope) (cl:List (Str×Addr)) (C:Addr) (s₀:Shared) (H₀:Hp) (ex:List Addr) (pn:List (Addr×Obj)):Cx where
 prog:=X.prog
 w:=X.w
 K:=X.K
 mg:=X.mg
 base:=X.base
 A:=X.A
 N:=N'
 s₀:=s₀
 H₀:=H₀
 env:=compEnvC scope cl C X.env
 outer:=X.stack
 stack:=X.stack
 ex:=ex
 fn:=fun x=>scope.names.lookup x==some NameKind.cell
 calm:=X.calm
 pn:=pn
 xe:=fun _ _=>False
structure cz (X:Cx) (N':List Str) (pick:List (Option Nat)) (scope:Scope):Prop where
 kind:scope.kind=.function
 nd:N'.Nodup
 names:∀x∈scope.names,x.2=.local→scope.names.lookup x.1=some .local
 uniq:(scope.names.map (·.1)).Nodup
 len:pick.length=N'.length
 got:∀(i j:Nat) (x:Str),pick[i]? = some (some j)→N'[i]? = some x→scope.names.lookup x=some .free∧X.N[j]? = some x
 free:∀x∈scope.names,x.2=.free→X.env.kindOf x.1=some .cell∨X.env.kindOf x.1=some .free
def kO(pick:List (Option Nat)) (σ:St):St:=pick.map fun o=>o.bind fun j=>(σ[j]?).bind id
def qa(X:Cx) (ifs:List Expr) (t:TT):Prop :=
 ∀(pins:List (Addr×Obj)) (s:Shared) (σ:St) (H:Hp) (Q:Bool→Hp→Prop),Inv X pins σ H s→t σ H Q →
  wpAny (model X.prog X.w) X.A (forIn ifs true fun c r=>if r=true then do let ok ←isTrue c X.env (eval c X.env);pure (ForInStep.yield ok)else pure (ForInStep.yield r)) (TP X pins σ Q) X.xe s
def Pq:TT:=fun _ H Q=>Q true H
theorem Ul{X:Cx}:qa X [] Pq:=fun pins s σ H Q I h=>wpAny_tests_nil ⟨H,I,h⟩
theorem Uk{X:Cx}{c:Expr}{t:TT}(h:PT X c t):qa X [c] t:=fun pins s σ H Q I q=>wpAny_tests_one (h pins s σ H Q I q)
def NU(J:It) (g:TG) (tt:TT) (te:TE) (Q:VK) (σ:St) (H:Hp):Prop:=∃W:Nat→Nat→St→List V→Hp→Prop,(∃m,W 0 m σ [] H) ∧
  ∀i m σ' ys H,W i m σ' ys H→ys.length<sizeLine ∧
    ((J.stop i H∧∀p,H p=none→Q (.ref p) (upd H p (.lst ys))) ∨
     (J.go i H∧∃N:St→List V→Hp→Prop,(∀σ2 zs H2,N σ2 zs H2→∃m',m'<m∧W (i+1) m' σ2 zs H2)∧∀x H',J.qe i H x H'→g x σ' H' fun σ2 H2=>tt σ2 H2 fun b H3 =>
        if b=true then te σ2 H3 fun y H4=>N σ2 (ys++[y]) H4 else N σ2 ys H3))
def AB(wi:TI) (pick:List (Option Nat)) (g:TG) (tt:TT) (te:TE):TE:=fun σ H Q=>wi σ H fun J H1=>NU J g tt te Q (kO pick σ) H1
def fY(env:Env):List (Str×NameKind)→List (Str×Addr)→List (Str×Addr)
 |[],acc=>acc
 |(n,k)::r,acc=>fY env r (if(k==NameKind.free)=true then(n,(env.cells.lookup n).getD 0)::acc else acc)
theorem Gb{env:Env}:∀(names:List (Str×NameKind)) (acc:List (Str×Addr)),(∀x∈names,x.2=.free→∃c,env.cells.lookup x.1=some c) →
  (forIn names acc fun(x:Str×NameKind) cs=>(if(x.2==NameKind.free)=true then do let a ←cellOf env x.1;pure (ForInStep.yield ((x.1,a)::cs))else pure (ForInStep.yield cs):Sem (ForInStep (List (Str×Addr)))))=pure (fY env names acc)
 |[],acc,_=>rfl
 |(n,k)::r,acc,h=>by
  rw[aix]
  by_cases hk:(k==NameKind.free)=true
  ·obtain⟨c,hc⟩:=h (n,k) ahS (by simpa using hk)
   have e1:cellOf env n=pure c:=by unfold cellOf;rw[show env.cells.lookup n=some c from hc]
   simp only[hk,if_true,e1,pure_bind]
   rw[Gb r _ fun x hx=>h x (ahT _ hx)]
   show _=pure (fY env r (if(k==NameKind.free)=true then _ else _))
   rw[if_pos hk,show env.cells.lookup n=some c from hc]
   rfl
  ·simp only[hk,ahC,if_false,pure_bind]
   rw[Gb r _ fun x hx=>h x (ahT _ hx)]
   show _=pure (fY env r (if(k==NameKind.free)=true then _ else _))
   rw[if_neg hk]
theorem M7{env:Env}{x:Str}{c:Addr}:∀(names:List (Str×NameKind)) (acc:List (Str×Addr)),(fY env names acc).lookup x=some c →
  ((x,NameKind.free)∈names∧c=(env.cells.lookup x).getD 0)∨acc.lookup x=some c
 |[],acc,h=>.inr h
 |(n,k)::r,acc,h=>by
  unfold fY at h
  rcases M7 r _ h with⟨a,b⟩|q
  ·exact .inl ⟨ahT _ a,b⟩
  ·by_cases hk:(k==NameKind.free)=true
   ·rw[if_pos hk,ah8]at q
    cases hx:x==n with
    |true =>
     rw[hx]at q
     have e1:x=n:=by simpa using hx
     have e2:k=.free:=by simpa using hk
     subst e1;subst e2
     exact .inl ⟨ahS,(ahJ q).symm⟩
    |false=>rw[hx]at q;exact .inr q
   ·rw[if_neg hk]at q;exact .inr q
theorem M8{env:Env}{x:Str}:∀(names:List (Str×NameKind)) (acc:List (Str×Addr)),(acc.lookup x).isSome=true∨(x,NameKind.free)∈names→((fY env names acc).lookup x).isSome=true
 |[],acc,h=>h.elim id fun z=>by cases z
 |(n,k)::r,acc,h=>by
  unfold fY
  refine M8 r _ ?_
  by_cases hk:(k==NameKind.free)=true
  ·rw[if_pos hk,ah8]
   cases hx:x==n with
   |true=>exact .inl rfl
   |false =>
    refine h.imp id fun z=>?_
    rcases ahm.mp z with e|z
    ·exact absurd (show(x==n)=true by cases e;simp) (by rw[hx];simp)
    ·exact z
  ·rw[if_neg hk]
   refine h.imp id fun z=>?_
   rcases ahm.mp z with e|z
   ·exact absurd (show(k==NameKind.free)=true by cases e;rfl) hk
   ·exact z
theorem Fb{x:Str}{c:Addr}:∀(names:List (Str×NameKind)) (n:Nat) (acc:List (Str×Addr)),(cellsFrom n names acc).lookup x=some c→(n≤c∧(x,NameKind.cell)∈names)∨acc.lookup x=some c
 |[],_,_,h=>.inr h
 |(y,k)::r,n,acc,h=>by
  unfold cellsFrom at h
  by_cases hk:(k==NameKind.cell)=true
  ·rw[if_pos hk]at h
   rcases Fb r _ _ h with⟨a,b⟩|q
   ·exact .inl ⟨ahN (ai1 _) a,ahT _ b⟩
   ·rw[ah8]at q
    cases hx:x==y with
    |true =>
     rw[hx]at q
     have e1:x=y:=by simpa using hx
     have e2:k=.cell:=by simpa using hk
     subst e1;subst e2
     exact .inl ⟨ai2 (ahJ q),ahS⟩
    |false=>rw[hx]at q;exact .inr q
  ·rw[if_neg hk]at h
   rcases Fb r _ _ h with⟨a,b⟩|q
   ·exact .inl ⟨a,ahT _ b⟩
   ·exact .inr q
theorem E9:∀(names:List (Str×NameKind)) (n:Nat) (acc:List (Str×Addr)),(∀x y c,acc.lookup x=some c→acc.lookup y=some c→x=y)→(∀x c,acc.lookup x=some c→c<n) →
  ∀x y c,(cellsFrom n names acc).lookup x=some c→(cellsFrom n names acc).lookup y=some c→x=y
 |[],_,_,hi,_,x,y,c,h1,h2=>hi x y c h1 h2
 |(z,k)::r,n,acc,hi,hl,x,y,c,h1,h2=>by
  unfold cellsFrom at h1 h2
  by_cases hk:(k==NameKind.cell)=true
  ·rw[if_pos hk]at h1 h2
   refine E9 r (n+1) ((z,n)::acc) (fun x y c e1 e2=>?_) (fun x c e=>?_) x y c h1 h2
   ·rw[ah8]at e1 e2
    cases hx:x==z with
    |true =>
     rw[hx]at e1
     cases hy:y==z with
     |true=>exact(by simpa using hx:x=z).trans (by simpa using hy:y=z).symm
     |false =>
      rw[hy]at e2
      have e3:n=c:=ahJ e1
      exact absurd (e3▸hl y c e2) (aib _)
    |false =>
     rw[hx]at e1
     cases hy:y==z with
     |true =>
      rw[hy]at e2
      have e3:n=c:=ahJ e2
      exact absurd (e3▸hl x c e1) (aib _)
     |false=>rw[hy]at e2;exact hi x y c e1 e2
   ·rw[ah8]at e
    cases hx:x==z with
    |true=>rw[hx]at e;have e3:n=c:=ahJ e;exact e3▸aiy n
    |false=>rw[hx]at e;exact aij (hl x c e)
  ·rw[if_neg hk]at h1 h2
   exact E9 r n acc hi hl x y c h1 h2
theorem Fd{x:Str}{c:Addr}:∀(names:List (Str×NameKind)) (h:Heap) (acc:List (Str×Addr)),(cellsFrom h.objs.size names acc).lookup x=some c→acc.lookup x=some c∨(h.objs.size≤c∧(pushCells h names).IsCell c none)
 |[],_,_,e=>.inl e
 |(y,k)::r,h,acc,e=>by
  unfold cellsFrom at e
  unfold pushCells
  by_cases hk:(k==NameKind.cell)=true
  ·rw[if_pos hk]at e ⊢
   have e':=e
   rw[show h.objs.size+1=(h.push {cls:=.type "cell",data:=.cell none}).objs.size from(ahQ ..).symm]at e'
   rcases Fd r _ _ e' with q|⟨a,q⟩
   ·rw[ah8]at q
    cases hx:x==y with
    |true =>
     rw[hx]at q
     have e3:h.objs.size=c:=ahJ q
     subst e3
     exact .inr ⟨aho _,_,akz _ _ _ _ (ahB _ rfl),rfl⟩
    |false=>rw[hx]at q;exact .inl q
   ·refine .inr ⟨?_,q⟩
    rw[ahQ]at a
    omega
  ·rw[if_neg hk]at e ⊢
   exact Fd r h acc e
theorem Om{M:Model}{A:Around}{E:Value→Shared→Prop}{s:Shared}{scope:Scope}{globals:Addr}{cl:List (Str×Addr)}{qual:Str}{env:Env}{Q:Env→Shared→Prop}
  (hQ:∀h',(∀b o,s.heap.get? b=some o→h'.get? b=some o)→h'.Ns s.heap.objs.size (fun _=>none) →
   (∀x c,(cellsFrom (s.heap.objs.size+1) scope.names cl).lookup x=some c→cl.lookup x=some c∨(s.heap.objs.size<c∧h'.IsCell c none)) →
   Q {scope,locals:=s.heap.objs.size,globals,cells:=cellsFrom (s.heap.objs.size+1) scope.names cl,qual,func:=none,code:=env.code,frame:=env.frame,builtins:=env.builtins} {s with heap:=h'}) :
  wpAny M A (newFunctionEnv scope globals cl [] qual none .none (some env)) Q E s:=by
 simp only[newFunctionEnv,Option.isSome_some,if_true]
 refine ahk (wpAny_alloc ?_)
 refine ahk (wpAny_layCells _ (fun name kind cells=>by cases hkc:kind==NameKind.cell<;>simp[hkc]) _ _ _ _ ?_)
 rw[show({s with heap:=s.heap.push {cls:=.type "dict",data:=.dict #[]} }:Shared).heap.objs.size=s.heap.objs.size+1 from ahQ ..]
 refine ahk (ahl (ahl ?_))
 refine hQ _ (fun b o e=>akz _ _ b o (ahp _ e)) ((Heap.Ns.new s.heap (.type "dict")).keeps (akz _ _)) fun x c e=>?_
 have e':=e
 rw[show s.heap.objs.size+1=(s.heap.push {cls:=.type "dict",data:=.dict #[]}).objs.size from(ahQ ..).symm]at e'
 rcases Fd scope.names (s.heap.push {cls:=.type "dict",data:=.dict #[]}) cl e' with q|⟨a,q⟩
 ·exact .inl q
 ·refine .inr ⟨?_,q⟩
  rw[ahQ]at a
  omega
end L2
namespace L2
open PySem PySem.Spec PyProof.Rows
theorem wX{env:Env}{x:Str}{k':NameKind}:∀{names:List (Str×NameKind)},(names.map fun(n,k)=>if(k==NameKind.free&&env.scope.kind == .function&&env.kindOf n==some .cell)then(n,NameKind.cell)else(n,k)).lookup x=some k' →
  ∃k,names.lookup x=some k∧(k'=k∨(k=.free∧k'=.cell))
 |[],h=>by cases h
 |(n,k)::r,h=>by
  rw[ahv]at h
  by_cases hc:(k==NameKind.free&&env.scope.kind == .function&&env.kindOf n==some .cell)=true
  ·have e:(match((n,k):Str×NameKind)with|(n,k)=>if(k==NameKind.free&&env.scope.kind == .function&&env.kindOf n==some .cell)then(n,NameKind.cell)else(n,k))=(n,NameKind.cell):=if_pos hc
   rw[e,ah8]at h
   rw[ah8]
   cases hx:x==n with
   |true =>
    rw[hx]at h
    have hk:k=.free:=by
     simp only[ah4]at hc
     simpa using hc.1.1
    exact⟨k,rfl,.inr ⟨hk,(ahJ h).symm⟩⟩
   |false=>rw[hx]at h;exact wX h
  ·have e:(match((n,k):Str×NameKind)with|(n,k)=>if(k==NameKind.free&&env.scope.kind == .function&&env.kindOf n==some .cell)then(n,NameKind.cell)else(n,k))=(n,k):=if_neg hc
   rw[e,ah8]at h
   rw[ah8]
   cases hx:x==n with
   |true=>rw[hx]at h;exact⟨k,rfl,.inl (ahJ h).symm⟩
   |false=>rw[hx]at h;exact wX h
theorem AZ{env:Env}{x:Str}{k:NameKind}:∀{names:List (Str×NameKind)},names.lookup x=some k →
  ∃k',(names.map fun(n,k)=>if(k==NameKind.free&&env.scope.kind == .function&&env.kindOf n==some .cell)then(n,NameKind.cell)else(n,k)).lookup x=some k'∧(k'=k∨(k=.free∧k'=.cell))
 |[],h=>by cases h
 |(n,j)::r,h=>by
  rw[ahv]
  rw[ah8]at h
  by_cases hc:(j==NameKind.free&&env.scope.kind == .function&&env.kindOf n==some .cell)=true
  ·have e:(match((n,j):Str×NameKind)with|(n,k)=>if(k==NameKind.free&&env.scope.kind == .function&&env.kindOf n==some .cell)then(n,NameKind.cell)else(n,k))=(n,NameKind.cell):=if_pos hc
   rw[e,ah8]
   cases hx:x==n with
   |true =>
    rw[hx]at h
    have hk:j=.free:=by
     simp only[ah4]at hc
     simpa using hc.1.1
    exact⟨.cell,rfl,.inr ⟨(ahJ h).symm.trans hk,rfl⟩⟩
   |false=>rw[hx]at h;exact AZ h
  ·have e:(match((n,j):Str×NameKind)with|(n,k)=>if(k==NameKind.free&&env.scope.kind == .function&&env.kindOf n==some .cell)then(n,NameKind.cell)else(n,k))=(n,j):=if_neg hc
   rw[e,ah8]
   cases hx:x==n with
   |true=>rw[hx]at h;exact⟨j,rfl,.inl (ahJ h)⟩
   |false=>rw[hx]at h;exact AZ h
theorem BS{x:Str}{k:NameKind}:∀{names:List (Str×NameKind)},(names.map (·.1)).Nodup→(x,k)∈names→names.lookup x=some k
 |[],_,h=>by cases h
 |(n,j)::r,nd,h=>by
  have nd:(n::r.map (·.1)).Nodup:=nd
  obtain⟨n1,n2⟩:=aiY.mp nd
  rw[ah8]
  rcases ahm.mp h with e|h2
  ·cases e;simp
  ·have hx:(x==n)=false:=by
    have:x≠n:=by
     intro e
     exact n1 (ahs.mpr ⟨(x,k),h2,e⟩)
    simpa using this
   rw[hx];exact BS n2 h2
theorem adX{prog:Program}{w:World}{A:Around}{R:Result→Shared→Prop}{s:Shared}{elt target iter:Expr}{ifs:List Expr}{scope:Scope}{pos:Pos}{it acc:Value}{env:Env}(I:Nat→Shared→Prop)
  (turn:∀n s,I n s→wpAny (model prog w) A (pyNext it) (fun r s₁=>match r with
   |none=>R (.ok .next) s₁
   |some v=>wpAny (model prog w) A (letOwnedTupleGo target it v) (fun _ s₁'=>wpAny (model prog w) A (assign target env v) (fun _ s₂ =>
     wpAny (model prog w) A (forIn ifs true fun c r=>if r=true then do let ok ←isTrue c env (eval c env);pure (ForInStep.yield ok)else pure (ForInStep.yield r)) (fun ok s₃ =>
      if ok=true then wpAny (model prog w) A (eval elt env) (fun x s₄ =>
       wpAny (model prog w) A (call (.builtin "list.append") [acc,x]) (fun _ s₅=>∃m,m<n∧I m s₅) (fun _ _=>False) s₄) (fun _ _=>False) s₃
      else ∃m,m<n∧I m s₃) (fun _ _=>False) s₂) (fun _ _=>False) s₁') (fun _ _=>False) s₁) (fun _ _=>False) s)
  (n:Nat) (h:I n s) :
  codeAny (model prog w) A (.compLoop (.ListComp elt [⟨target,iter,ifs,0⟩] scope pos) 0 it acc env) R s:=by
 refine codeAny_loop rfl I (fun n s hI=>?_) n h
 show wpAny _ A ((compTurn (.ListComp elt [⟨target,iter,ifs,0⟩] scope pos) 0 it acc env).onRaise (fun x=>do noteFrame x env;theTreesLotGoes x)) _ _ s
 refine wpAny_noted ?_
 rw[compTurn_list]
 refine ahk (akj (ahk (ahU (turn n s hI) (fun r s₁ h₁=>?_) fun _ _ h'=>h'.elim)))
 cases r with
 |none=>exact ahl h₁
 |some v =>
  refine ahk (ahU h₁ (fun _ s₁' h₁'=>?_) fun _ _ h'=>h'.elim)
  refine ahk (ahU h₁' (fun _ s₂ h₂=>ahk (ahU h₂ (fun ok s₃ h₃=>?_) fun _ _ h'=>h'.elim)) fun _ _ h'=>h'.elim)
  cases ok with
  |false=>exact ahl ⟨rfl,h₃⟩
  |true =>
   exact ahk (ahk (ahU h₃ (fun x s₄ h₄=>ahk (ahU h₄ (fun _ s₅ h₅=>ahl (ahl ⟨rfl,h₅⟩)) fun _ _ h'=>h'.elim)) fun _ _ h'=>h'.elim))
section
variable {X:Cx}{N':List Str}{pick:List (Option Nat)}{scope:Scope}{pins:List (Addr×Obj)}{σ:St}{H₂:Hp}{s₂:Shared}{tg:Expr}{J:It}{fp:List Addr}{it:Addr}{tn:Nat→Heap→Prop}
theorem L4(S:cz X N' pick scope) (I:Inv X pins σ H₂ s₂):closureFor scope X.env=pure (fY X.env scope.names []):=by
 have e:=Gb (env:=X.env) scope.names [] fun x hx hk=>I.ok.has x.1 (S.free x hx hk)
 show((forIn scope.names ([]:List (Str×Addr)) fun(x:Str×NameKind) cs=>(if(x.2==NameKind.free)=true then do let a ←cellOf X.env x.1;pure (ForInStep.yield ((x.1,a)::cs))else pure (ForInStep.yield cs):Sem (ForInStep (List (Str×Addr))))) >>= fun cs=>pure cs)=_
 rw[e,pure_bind]
theorem vK(S:cz X N' pick scope) (I:Inv X pins σ H₂ s₂) {x:Str}{c:Addr}(h:(fY X.env scope.names []).lookup x=some c):(x,NameKind.free)∈scope.names∧X.env.cells.lookup x=some c:=by
 rcases M7 _ _ h with⟨a,b⟩|q
 ·refine⟨a,?_⟩
  obtain⟨c',hc⟩:=I.ok.has x (S.free _ a rfl)
  rw[hc]at b ⊢
  rw[b];rfl
 ·cases q
theorem vJ(S:cz X N' pick scope) (I:Inv X pins σ H₂ s₂) {n:Nat}{x:Str}{c:Addr}(h:(cellsFrom n scope.names (fY X.env scope.names [])).lookup x=some c) :
  (n≤c∧scope.names.lookup x=some .cell)∨(scope.names.lookup x=some .free∧X.env.cells.lookup x=some c):=by
 rcases Fb _ _ _ h with⟨a,b⟩|q
 ·exact .inl ⟨a,BS S.uniq b⟩
 ·obtain⟨a,b⟩:=vK S I q
  exact .inr ⟨BS S.uniq a,b⟩
theorem L5(S:cz X N' pick scope) (I:Inv X pins σ H₂ s₂) {n:Nat}{x:Str}{c:Addr}(hx:scope.names.lookup x=some .free) (hc:X.env.cells.lookup x=some c) :
  (cellsFrom n scope.names (fY X.env scope.names [])).lookup x=some c:=by
 have h1:((fY X.env scope.names []).lookup x).isSome=true:=M8 _ _ (.inr (aiJ hx))
 obtain⟨c',h2⟩:=akq.mp (ajR scope.names n _ (.inr h1))
 rcases vJ S I h2 with⟨_,z⟩|⟨_,z⟩
 ·rw[hx]at z;cases z
 ·rw[hc]at z;cases z;exact h2
theorem abI(I:Inv X pins σ H₂ s₂) {b:Addr}(hb:b∈frs X.stack):b<s₂.heap.objs.size:=by
 rcases ahm.mp (I.qp b hb)with e|hb
 ·rw[e];exact I.lt
 ·by_cases q:b<s₂.heap.objs.size
  ·exact q
  ·exact absurd hb (I.Br (Nat.not_lt.mp q))
theorem adV(S:cz X N' pick scope) (I:Inv X pins σ H₂ s₂) (hf:∀b∈fp,gH X pins H₂ b) (hfo:∀b∈fp,b<s₂.heap.objs.size) {n:Nat}{C:Addr}{s₄:Shared}(hn:s₂.heap.objs.size≤n) (hC:s₂.heap.objs.size≤C) (hCn:C<n)
  (hos:s₄.os=s₂.os) (hge:s₄.gens=s₂.gens) (kp:∀b o,s₂.heap.get? b=some o→s₄.heap.get? b=some o) (ns:s₄.heap.Ns C fun _=>none)
  (ce:∀x c,(cellsFrom n scope.names (fY X.env scope.names [])).lookup x=some c→(fY X.env scope.names []).lookup x=some c∨(n≤c∧s₄.heap.IsCell c none)) :
  Inv (fN X N' scope (cellsFrom n scope.names (fY X.env scope.names [])) C s₂ H₂ fp (X.pn++pins)) [] (kO pick σ) H₂ s₄:=by
 have fr:∀{a:Addr},s₂.heap.objs.size≤a→H₂ a=none:=fun h=>I.hok.fresh h
 have old:∀{x:Str}{c:Addr},X.env.cells.lookup x=some c→c<s₂.heap.objs.size:=fun{x c} e=>let⟨v,z⟩:=I.cell x c e;z.lt
 have Tn:∀p∈X.pn++pins,p.1<s₂.heap.objs.size:=fun p hp=>ahq (I.pin p hp).1
 refine⟨⟨I.ok.mod,S.kind,I.ok.glob,I.ok.blt,hC,?inj,?has,?pV,I.ok.hd,I.ok.frames,.inl rfl,?vq,I.bs,ahN I.ok.kB I.sz,?kZ,?sC,I.stack,I.Ho⟩,
  hos,by rw[hge];exact I.bare,Un.kept kp,⟨_,ns,?loc⟩,?cell,fr hC,?jc,?pin,I.hok.kept kp,?len⟩
 case inj =>
  refine E9 _ _ _ (fun x y c h1 h2=>?_) fun x c h=>?_
  ·exact I.ok.inj x y c (vK S I h1).2 (vK S I h2).2
  ·exact ahD (old (vK S I h).2) hn
 case has =>
  intro x hx
  have hx:(relabel scope X.env).names.lookup x=some .cell∨(relabel scope X.env).names.lookup x=some .free:=hx
  have go:∀k,scope.names.lookup x=some k→k=.cell∨k=.free→∃c,(cellsFrom n scope.names (fY X.env scope.names [])).lookup x=some c:=fun k hk hq=>by
   rcases hq with rfl|rfl
   ·exact akq.mp (ajR _ _ _ (.inl hk))
   ·obtain⟨c,hc⟩:=I.ok.has x (S.free _ (aiJ hk) rfl)
    exact⟨c,L5 S I hk hc⟩
  rcases hx with hx|hx
  ·obtain⟨k,hk,e|⟨e,_⟩⟩:=wX hx
   ·exact go k hk (.inl e.symm)
   ·exact go k hk (.inr e)
  ·obtain⟨k,hk,e|⟨_,e⟩⟩:=wX hx
   ·exact go k hk (.inr e.symm)
   ·cases e
 case pV =>
  intro x c hx hc
  have hx:scope.names.lookup x=some .cell:=by simpa[fN]using hx
  rcases vJ S I hc with⟨a,_⟩|⟨a,_⟩
  ·exact ahN hn a
  ·rw[hx]at a;cases a
 case vq =>
  intro b hb
  refine⟨ahw (ahD (hfo b hb) hC),fun x c hc=>?_⟩
  rcases vJ S I hc with⟨a,_⟩|⟨_,a⟩
  ·exact ah0 (ahD (hfo b hb) (ahN hn a))
  ·exact(hf b hb).2.2.2.2.1 x c a
 case kZ =>
  intro b o e hb
  rcases(hf b hb).2.2.2.1 with z|z
  ·exact I.ok.kZ b o e z
  ·exact absurd (ahD (ahq e) (ahN I.ok.kB z)) (aib _)
 case sC =>
  intro b hb hs
  rcases ahm.mp (I.qp b hs)with e|e
  ·exact(hf b hb).2.1 e
  ·exact(hf b hb).2.2.1 e
 case loc =>
  intro i x v h1 h2 h3
  have h1:N'[i]? = some x:=h1
  have hp:∃j,pick[i]? = some (some j)∧σ[j]? = some (some v):=by
   unfold kO at h2
   rw[ahP]at h2
   cases e:pick[i]? with
   |none=>rw[e]at h2;cases h2
   |some o =>
    rw[e]at h2
    cases o with
    |none=>cases h2
    |some j =>
     refine⟨j,rfl,?_⟩
     have h2':(σ[j]?).bind id=some v:=ahJ h2
     cases e2:σ[j]? with
     |none=>rw[e2]at h2';cases h2'
     |some q=>rw[e2]at h2';exact congrArg some h2'
  obtain⟨j,hj,hv⟩:=hp
  obtain⟨hfr,hN⟩:=S.got i j x hj h1
  have hk:=S.free _ (aiJ hfr) rfl
  obtain⟨m,hm,hl⟩:=I.loc
  obtain⟨u,ru,lk⟩:=hl j x v hN hv (.inr hk)
  refine⟨u,ru,?_⟩
  rcases lk with⟨z,_⟩|⟨_,c,hc,hcell⟩
  ·rcases hk with q|q<;>(rw[show X.env.kindOf x=_ from z]at q;cases q)
  ·refine .inr ⟨?_,c,L5 S I hfr hc,hcell.keeps kp⟩
   show(relabel scope X.env).names.lookup x=some .cell∨(relabel scope X.env).names.lookup x=some .free
   obtain⟨k',hk',e|⟨_,e⟩⟩:=AZ (env:=X.env) hfr
   ·exact .inr (by rw[←e];exact hk')
   ·exact .inl (by rw[←e];exact hk')
 case cell =>
  intro x c hc
  rcases ce x c hc with z|⟨_,z⟩
  ·obtain⟨v,q⟩:=I.cell x c (vK S I z).2
   exact⟨v,q.keeps kp⟩
  ·exact⟨none,z⟩
 case jc =>
  intro x c hc
  rcases vJ S I hc with⟨a,_⟩|⟨_,a⟩
  ·exact fr (ahN hn a)
  ·exact I.jc x c a
 case pin =>
  intro p hp
  have hp:p∈X.pn++pins:=by simpa[fN]using hp
  obtain⟨e,n0,ne,nf,d⟩:=I.pin p hp
  refine⟨kp _ _ e,n0,ahw (ahD (Tn p hp) hC),fun z=>?_,d⟩
  rcases ahm.mp (I.qp _ z)with e|e
  ·exact ne e
  ·exact nf e
 case len =>
  unfold kO
  rw[ahx]
  exact S.len
end
end L2
namespace L2
open PySem PySem.Spec PyProof.Rows
section
variable {X:Cx}{N':List Str}{pick:List (Option Nat)}{scope:Scope}{pins:List (Addr×Obj)}{σ:St}{H₂:Hp}{s₂:Shared}{tg:Expr}{J:It}{fp:List Addr}{it:Addr}{tn:Nat→Heap→Prop}
 {elt iter:Expr}{ifs:List Expr}{pos:Pos}{g:TG}{tt:TT}{te:TE}
theorem LR{E:Value→Shared→Prop}{RR:Value→Addr→Result→Shared→Prop}{Qv:V→Hp→Prop}(S:cz X N' pick scope) (hc:X.calm=true) (iT:Inv X pins σ H₂ s₂) (T:Turn X.prog X.w X.K tg J fp it tn) (st:tn 0 s₂.heap) (hf:∀b∈fp,gH X pins H₂ b)
    (hg:∀cl C s₀ H₀ ex pn,PG (fN X N' scope cl C s₀ H₀ ex pn) tg g) (hi:∀cl C s₀ H₀ ex pn,qa (fN X N' scope cl C s₀ H₀ ex pn) ifs tt) (he:∀cl C s₀ H₀ ex pn,PE (fN X N' scope cl C s₀ H₀ ex pn) elt te)
    {W:Nat→Nat→St→List V→Hp→Prop}{m0:Nat}(h0:W 0 m0 (kO pick σ) [] H₂)
    (turn:∀i m σ' ys H,W i m σ' ys H→ys.length<sizeLine ∧
      ((J.stop i H∧∀p,H p=none→Qv (.ref p) (upd H p (.lst ys))) ∨
       (J.go i H∧∃N:St→List V→Hp→Prop,(∀σ2 zs H2,N σ2 zs H2→∃m',m'<m∧W (i+1) m' σ2 zs H2)∧∀x H',J.qe i H x H'→g x σ' H' fun σ2 H2=>tt σ2 H2 fun b H3 =>
          if b=true then te σ2 H3 fun y H4=>N σ2 (ys++[y]) H4 else N σ2 ys H3)))
    (fin:∀(D C:Addr) (H':Hp) (s':Shared) (m:Str→Option Value),Inv X pins σ H' s'→gH X pins H' C→s'.heap.Ns C m→Qv (.ref D) H'→RR (.ref D) C (.ok .next) s') :
    wpAny (model X.prog X.w) X.A (newList []) (fun acc s₃=>wpAny (model X.prog X.w) X.A (newFunctionEnv scope X.env.globals (fY X.env scope.names []) [] X.env.qual none .none (some X.env)) (fun cenv s₄ =>
      codeAny (model X.prog X.w) X.A (.compStart (.ListComp elt [⟨tg,iter,ifs,0⟩] scope pos) 0 (.ref it) acc {cenv with scope:=relabel scope X.env}) (RR acc cenv.locals) s₄) E s₃) E s₂:=by
  have hfo:∀b∈fp,b<s₂.heap.objs.size:=fun b hb=>let⟨o,e,_⟩:=T.obj 0 _ st b hb;ahq e
  refine ajk (Om fun h₄ kp ns ce=>?_)
  generalize DI:s₂.heap.push {cls:=.type "list",dict:=none,data:=.seq ([]:List Value).toArray}=H3 at kp ns ce ⊢
  have hC:H3.objs.size=s₂.heap.objs.size+1:=by rw[←DI,ahQ]
  have nv:∀b o,s₂.heap.get? b=some o→h₄.get? b=some o:=fun b o e=>kp b o (DI▸ahp _ e)
  have hD:h₄.get? s₂.heap.objs.size=some {cls:=.type "list",data:=.seq ([]:List Value).toArray}:=kp _ _ (DI▸ahB _ rfl)
  have nH:s₂.heap.objs.size≤H3.objs.size:=by rw[hC];exact ai1 _
  have hDC:s₂.heap.objs.size≠H3.objs.size:=by rw[hC];exact ahw (aiy _)
  generalize hcl:cellsFrom (H3.objs.size+1) scope.names (fY X.env scope.names [])=cl at ce
  have Gm:Inv (fN X N' scope cl H3.objs.size s₂ H₂ fp (X.pn++pins)) [] (kO pick σ) H₂ {s₂ with heap:=h₄}:=by
    subst hcl
    exact adV S iT hf hfo (n:=H3.objs.size+1) (ahN nH (ai1 _)) nH (aiy _) rfl rfl nv ns fun x c e=>ce x c e
  have abc:∀x c,cl.lookup x=some c→c≠s₂.heap.objs.size:=fun x c e=>by
    subst hcl
    rcases vJ S iT e with⟨a,_⟩|⟨_,a⟩
    · refine ah0 (ahD ?_ a)
      rw[hC]
      exact aij (aiy _)
    · obtain⟨v,z⟩:=iT.cell x c a
      exact ahw z.lt
  have abb:∀x c,X.env.cells.lookup x=some c→c≠H3.objs.size:=fun x c e=>by
    obtain⟨v,z⟩:=iT.cell x c e
    exact ahw (ahD z.lt nH)
  generalize gE:fN X N' scope cl H3.objs.size s₂ H₂ fp (X.pn++pins)=X' at Gm
  have we:X'.prog=X.prog:=by subst gE;rfl
  have xw:X'.w=X.w:=by subst gE;rfl
  have xK:X'.K=X.K:=by subst gE;rfl
  have xA:X'.A=X.A:=by subst gE;rfl
  have Gw:X'.calm=true:=by subst gE;exact hc
  have wg:X'.env.locals=H3.objs.size:=by subst gE;rfl
  have N6:X'.env.cells=cl:=by subst gE;rfl
  have N5:X'.env=compEnvC scope cl H3.objs.size X.env:=by subst gE;rfl
  have Af:X'.fs=frs X.stack:=by subst gE;rfl
  have Ag:X'.ex=fp:=by subst gE;rfl
  have Ad:X'.s₀=s₂:=by subst gE;rfl
  have Gv:X'.pn=X.pn++pins:=by subst gE;rfl
  have N4:X'.xe=fun _ _=>False:=by subst gE;rfl
  have Ol:X'.H₀=H₂:=by subst gE;rfl
  have hg':PG X' tg g:=by subst gE;exact hg _ _ _ _ _ _
  have hi':qa X' ifs tt:=by subst gE;exact hi _ _ _ _ _ _
  have he':PE X' elt te:=by subst gE;exact he _ _ _ _ _ _
  have ou:∀{H':Hp}{pl:List (Addr×Obj)},(∀b∈fp,H' b=none)→(∀p∈pl,s₂.heap.objs.size≤p.1)→∀b∈fp,gH X' pl H' b:=fun{H' pl} hn hp b hb=>by
    have hlt:=hfo b hb
    obtain⟨_,f1,f2,f3,f4,f5⟩:=hf b hb
    refine⟨hn b hb,by rw[wg];exact ahw (ahD hlt nH),?_,.inl (by rw[Ag];exact hb),fun x c e=>?_,fun p gj=>?_⟩
    · rw[Af]
      intro z
      rcases ahm.mp (iT.qp b z)with e|e
      · exact f1 e
      · exact f2 e
    · have:=Gm.ok.vq b (by rw[Ag];exact hb)
      exact this.2 x c e
    · rcases ahZ.mp gj with z|z
      · rw[Gv]at z;exact f5 p z
      · exact ah0 (ahD hlt (hp p z))
  have Ib:∀{H':Hp}{s':Shared}{σ':St}{o:Obj},Inv X' [] σ' H' s'→s'.heap.get? s₂.heap.objs.size=some o→H' s₂.heap.objs.size=none→(∀v,o.data≠.cell v)→Inv X' [(s₂.heap.objs.size,o)] σ' H' s':=fun{H' s' σ' o} I e hn hnc =>
    I.xm fun p hp=>by
      obtain rfl:p=(s₂.heap.objs.size,o):=by simpa using hp
      refine⟨e,hn,by rw[wg];exact hDC,?_,hnc⟩
      rw[Af]
      intro z
      exact absurd (abI iT z) (aib _)
  have zK:H₂ s₂.heap.objs.size=none:=iT.hok.fresh (aho _)
  let Iv:Nat→Shared→Prop:=fun n s'=>∃(i:Nat) (σ':St) (ys:List V) (H':Hp) (its:List Value) (k:Nat),Inv X' [(s₂.heap.objs.size,{cls:=.type "list",data:=.seq its.toArray k})] σ' H' s'∧Vals ys its∧tn i s'.heap∧(∀b∈fp,H' b=none)∧W i n σ' ys H'
  have loop:codeAny (model X.prog X.w) X.A (.compLoop (.ListComp elt [⟨tg,iter,ifs,0⟩] scope pos) 0 (.ref it) (.ref s₂.heap.objs.size) X'.env) (RR (.ref s₂.heap.objs.size) H3.objs.size) {s₂ with heap:=h₄}:=by
    refine adX Iv ?_ m0 ⟨0,_,[],H₂,[],_,Ib Gm hD zK (fun v q=>nomatch q),.nil,T.keep _ _ _ st fun b _ o e=>nv b o e,fun b hb=>(hf b hb).1,h0⟩
    rintro n s5 ⟨i,vZ,ys,H5,its,k,I5,rv,oA,yo,w5⟩
    obtain⟨hlen,tr⟩:=turn i n vZ ys H5 w5
    have p5:∀{o:Obj},∀p∈[(s₂.heap.objs.size,o)],s₂.heap.objs.size≤p.1:=fun{o} p hp=>by
      obtain rfl:p=(s₂.heap.objs.size,o):=by simpa using hp
      exact aho _
    rw[←xA]
    rcases tr with⟨stop,qf⟩|⟨go,N,hN,step⟩
    · have dn:=T.done X' we xw xK Gw i _ s5 vZ H5 (fun _ _=>False) I5 (ou yo p5) oA stop
      rw[xA]at dn ⊢
      refine ahU dn (fun r s6 h6=>?_) fun _ _ z=>z
      obtain⟨rfl,I6⟩:=h6
      show RR (.ref s₂.heap.objs.size) H3.objs.size (.ok .next) s6
      obtain⟨eD,nD,_⟩:=I6.pin _ (aih _ ahS)
      have oq:Un (frs X.stack) fp H₂ H5 s₂.heap s6.heap:=by
        have:=I6.base
        rw[Af,Ag,Ad,Ol]at this
        exact this
      have lt:∀{b:Addr}{o:Obj},s₂.heap.get? b=some o→b≠s₂.heap.objs.size:=fun e=>ahw (ahq e)
      have O3:Un (frs X.stack) fp H₂ (upd H5 s₂.heap.objs.size (.lst ys)) s₂.heap s6.heap :=
        ⟨oq.keep,oq.slot,fun b o e n hx=>by rw[bR (lt e)];exact oq.free b o e n hx,oq.there,fun b xs e=>by rw[bR (eH e zK)];exact oq.tups b xs e,
          fun b o u e=>by rw[bR (eH e zK)];exact oq.j9 b o u e,fun b ps e=>by rw[bR (eH e zK)];exact oq.jN b ps e⟩
      have aaR:d7 X.prog X.w (upd H5 s₂.heap.objs.size (.lst ys)) s6.heap:=fun b u e=>by
        by_cases hb:b=s₂.heap.objs.size
        · subst hb
          rw[f7]at e;cases e
          exact⟨ajd hlen,its,k,rv,eD⟩
        · rw[bR hb]at e
          have:=I6.hok b u e
          rw[we,xw]at this
          exact this.stay (fun _ _ _ q=>q) (fun c q=>by rw[bR (eH q nD)];exact q) fun c xs q=>by rw[bR (eH q nD)];exact q
      have I7:Inv X pins σ (upd H5 s₂.heap.objs.size (.lst ys)) s6:=by
        refine iT.aeh (ch:=fp) ?_ O3 aaR I6.bare fun b hb=>?_
        · have:=I6.os;rw[Ad]at this;exact this
        · obtain⟨_,f1,f2,f3,f4,f5⟩:=hf b hb
          exact⟨f3,f1,f4,f5⟩
      obtain⟨m6,n6,_⟩:=I6.loc
      rw[wg]at n6
      have hC6:H5 H3.objs.size=none:=by have:=I6.free;rw[wg]at this;exact this
      refine fin _ _ _ s6 m6 I7 ⟨by rw[bR (ah7 hDC)];exact hC6,?_,?_,.inr (ahN iT.sz nH),abb,fun p hp=>?_⟩ n6 (qf _ nD)
      · exact ah0 (ahD iT.lt nH)
      · intro z
        exact absurd z (iT.Br nH)
      · exact ahw (ahD (ahq (iT.pin p hp).1) nH)
    · have itm:=T.item X' we xw xK Gw i _ s5 vZ H5 (fun _ _=>False) I5 (ou yo p5) oA go
      refine ahU itm (fun r s6 h6=>?_) fun _ _ z=>z
      obtain⟨u,rfl,h6⟩:=h6
      refine ahU h6 (fun _ s7 h7=>?_) fun _ _ z=>z
      obtain⟨x,H7,I7,rx,y7,AH,fr7⟩:=h7
      have I7':=I7.pinned (ou fr7 p5) (T.obj _ _ AH)
      have mp:∀{α:Type}{t:Sem α}{Q:α→Shared→Prop}{s:Shared},wpAny (model X'.prog X'.w) X'.A t Q X'.xe s→wpAny (model X.prog X.w) X'.A t Q (fun _ _=>False) s:=fun{α t Q s} h=>by
        rw[we,xw,N4]at h;exact h
      refine ahU (mp (hg' _ s7 vZ H7 x u _ I7' rx (step x H7 y7))) (fun _ s8 h8=>?_) fun _ _ z=>z
      obtain⟨tQ,H8,I8,q8⟩:=h8
      refine ahU (mp (hi' _ s8 tQ H8 _ I8 q8)) (fun ok s9 h9=>?_) fun _ _ z=>z
      obtain⟨H9,I9,q9⟩:=h9
      have J6:∀{σ':St}{H':Hp}{s':Shared},Inv X' ([(s₂.heap.objs.size,{cls:=.type "list",data:=.seq its.toArray k})]++uE fp s7.heap) σ' H' s'→tn (i+1) s'.heap∧∀b∈fp,H' b=none:=fun{σ' H' s'} I=>by
        refine⟨T.keep _ _ _ AH fun b hb o e=>(I.pin (b,o) (aih _ (aih _ (xV hb e)))).1,fun b hb=>?_⟩
        obtain⟨o,e,d⟩:=T.obj _ _ AH b hb
        exact(I.pin (b,o) (aih _ (aih _ (xV hb e)))).2.1
      cases ok with
      | false =>
        rw[if_neg ahG]at q9 ⊢
        obtain⟨m',hm,w9⟩:=hN _ _ _ q9
        obtain⟨t9,f9⟩:=J6 I9
        exact⟨m',hm,i+1,tQ,ys,H9,its,k,I9.tZ,rv,t9,f9,w9⟩
      | true =>
        rw[if_pos rfl]at q9 ⊢
        refine ahU (mp (he' _ s9 tQ H9 _ I9 q9)) (fun v uB h10=>?_) fun _ _ z=>z
        obtain⟨y,Nh,Ng,ry,rJ⟩:=h10
        obtain⟨m',hm,OU⟩:=hN _ _ _ rJ
        obtain⟨P8,f10⟩:=J6 Ng
        have Nf:=Ng.tZ
        obtain⟨eD,nD,eL,nfD,dD⟩:=Nf.pin _ (aih _ ahS)
        have hl:=rv.length
        refine ai0 F.slot_list_append ⟨_,eD,rfl⟩ F.entry_list_append (F.args_list_append_2 _ _) (alh s₂.heap.objs.size its.toArray k v (by rw[aht];omega)) ⟨eD,?_⟩
        have q:=alg eD (·.push v)
        have I11:Inv X' [] tQ Nh {uB with heap:=uB.heap.update s₂.heap.objs.size (Obj.mapSeq (·.push v))}:=by
          refine(Nf.xm (A5:=[]) fun p hp=>by cases hp).turned (t':=uB.toks) (it:=s₂.heap.objs.size) (fun b o hb e=>(aid uB.heap (Obj.mapSeq (·.push v)) (ah7 hb)).trans e) nD eL (.inr (by rw[Ad];exact aho _)) (fun x c hc=>abc x c (by rw[←N6];exact hc)) fun p hp=>?_
          have hp:p∈X.pn++pins:=by rw[ajg,Gv]at hp;exact hp
          exact ahw (ahq (iT.pin p hp).1)
        rw[show its.toArray.push v=(its++[v]).toArray by simp]at q
        refine⟨m',hm,i+1,tQ,ys++[y],Nh,its++[v],_,Ib I11 q nD (fun v q=>nomatch q),rv.append (.cons ry .nil),?_,f10,OU⟩
        refine T.keep _ _ _ P8 fun b hb o e=>(aid uB.heap (Obj.mapSeq (·.push v)) ?_).trans e
        exact ah0 (hfo b hb)
  have e4:({scope:=relabel scope X.env,locals:=H3.objs.size,globals:=X.env.globals,cells:=cl,qual:=X.env.qual,func:=none,code:=X.env.code,frame:=X.env.frame,builtins:=X.env.builtins}:Env)=X'.env:=by rw[N5];rfl
  have Hr:tn 0 h₄:=T.keep _ _ _ st fun b _ o e=>nv b o e
  have goal:codeAny (model X.prog X.w) X.A (.compStart (.ListComp elt [⟨tg,iter,ifs,0⟩] scope pos) 0 (.ref it) (.ref s₂.heap.objs.size) X'.env) (RR (.ref s₂.heap.objs.size) H3.objs.size) {s₂ with heap:=h₄} :=
    codeAny_compStart_list loop (T.self _ 0 _ _ _ Hr loop)
  rw[←e4]at goal
  exact goal
theorem Inv.gone{H':Hp}{s':Shared}{h':Heap}{C:Addr}(I:Inv X pins σ H' s') (f:gH X pins H' C) (hs:Heap.SameBut C s'.heap h'):Inv X pins σ H' {s' with heap:=h'}:=by
 obtain⟨f0,f1,f2,f3,f4,f5⟩:=f
 exact I.turned (t':=s'.toks) (fun b o hb e=>(hs.2 b hb).trans e) f0 f1 f3 f4 f5
theorem UJ{wi:TI}(S:cz X N' pick scope) (hc:X.calm=true) (hit:PI X tg iter wi)
  (hg:∀cl C s₀ H₀ ex pn,PG (fN X N' scope cl C s₀ H₀ ex pn) tg g) (hi:∀cl C s₀ H₀ ex pn,qa (fN X N' scope cl C s₀ H₀ ex pn) ifs tt) (he:∀cl C s₀ H₀ ex pn,PE (fN X N' scope cl C s₀ H₀ ex pn) elt te)
  (hs:∀x,foldedSetIterable iter X.env x=pure x:=by intro _;rfl) :
  PE X (.ListComp elt [⟨tg,iter,ifs,0⟩] scope pos) (AB wi pick g tt te):=by
 intro pins s σ H Q I h
 rw[eval_ListComp]
 refine alk (use:=none) rfl hs (L4 S I) S.kind S.names (bB (hit pins s σ H _ I h) fun v s1 h1=>bB h1 fun itv s2 h2=>?_)
 obtain⟨it,fp,tn,J,H2,rfl,I2,T,st2,f2,W,⟨m0,w0⟩,turn⟩:=h2
 refine LR (RR:=fun acc C=>compPost (model X.prog X.w) X.A X.xe none (EP X pins σ Q) acc C) (Qv:=Q) S hc I2 T st2 f2 hg hi he w0 turn ?_
 intro D C H' s' m I' f' n' q'
 exact⟨m,n',fun h' hs'=>⟨.ref D,H',I'.gone f' hs',rfl,q'⟩⟩
def Pz(i:Nat) (t:TE):TS:=fun D σ H=>t σ H fun v H1=>D.nx (σ.set i (some v)) H1
theorem S5{wi:TI}{i:Nat}{y:Str}{py spos:Pos}(hsw:swapsWith (.ListComp elt [⟨tg,iter,ifs,0⟩] scope pos) (some (.Name y py)) spos.line X.env=pure true) (hN:X.N.Nodup) (hy:X.N[i]? = some y) (hl:X.env.scope.names.lookup y=some .local)
  (S:cz X N' pick scope) (hc:X.calm=true) (hit:PI X tg iter wi)
  (hg:∀cl C s₀ H₀ ex pn,PG (fN X N' scope cl C s₀ H₀ ex pn) tg g) (hi:∀cl C s₀ H₀ ex pn,qa (fN X N' scope cl C s₀ H₀ ex pn) ifs tt) (he:∀cl C s₀ H₀ ex pn,PE (fN X N' scope cl C s₀ H₀ ex pn) elt te)
  (hs:∀x,foldedSetIterable iter X.env x=pure x:=by intro _;rfl) :
  PS X (.Assign [.Name y py] (.ListComp elt [⟨tg,iter,ifs,0⟩] scope pos) spos) (Pz i (AB wi pick g tt te)):=by
 intro pins s σ H D I h
 rw[exec_Assign_Name_used _ _ _ _ hsw]
 refine ahk (akj (ahk ?_))
 show wpAny _ X.A (do let _ ←comprehension (.ListComp elt [⟨tg,iter,ifs,0⟩] scope pos) scope X.env _ (newList []) false (eval iter X.env) (some (assign (.Name y py) X.env))) _ _ s
 refine ahk (ahU (alk (use:=some (assign (.Name y py) X.env)) (Q:=fun _ s'=>SP X pins D .next s') rfl hs (L4 S I) S.kind S.names
  (bB (hit pins s σ H _ I h) fun v s1 h1=>bB h1 fun itv s2 h2=>?_)) (fun _ s' hq=>ahl (ahl hq)) fun _ _ e=>e)
 obtain⟨it,fp,tn,J,H2,rfl,I2,T,st2,f2,W,⟨m0,w0⟩,turn⟩:=h2
 refine LR (RR:=fun acc C=>compPost (model X.prog X.w) X.A X.xe (some (assign (.Name y py) X.env)) (fun _ s'=>SP X pins D .next s') acc C) (Qv:=fun v H1=>D.nx (σ.set i (some v)) H1) S hc I2 T st2 f2 hg hi he w0 turn ?_
 intro Da C H' s' m I' f' n' q'
 show wpAny _ X.A (assign (.Name y py) X.env (.ref Da)) _ _ _
 refine wpAny_assign_Name (Hj I' hN hy (.inl hl) (v:=.ref Da) rfl (fun s'' Gr ⟨a,sb,ha⟩=>?_) (.inr hl))
 have hCa:C≠a:=by
  rcases ha with e|e
  ·rw[e];exact f'.2.1
  ·exact ah7 (f'.2.2.2.2.1 _ _ e)
 exact⟨m,n'.sameBut sb hCa,fun h' hs'=>⟨_,H',Gr.gone f' hs',q'⟩⟩
end
def LU(XN:List Str) (xn:List (Str×NameKind)) (N':List Str) (pick:List (Option Nat)) (names:List (Str×NameKind)):Bool :=
 decide N'.Nodup&&names.all (fun x=>decide (names.lookup x.1=some x.2))&&decide ((names.map (·.1)).Nodup)&&(pick.length==N'.length) &&
 (pick.zip N').all (fun q=>match q.1 with|none=>true|some j=>decide (names.lookup q.2=some NameKind.free)&&decide (XN[j]? = some q.2)) &&
 names.all (fun x=>decide (x.2≠NameKind.free)||(decide (xn.lookup x.1=some NameKind.cell)||decide (xn.lookup x.1=some NameKind.free)))
theorem cz.of{X:Cx}{N':List Str}{pick:List (Option Nat)}{scope:Scope}(hk:scope.kind=.function) (h:LU X.N X.env.scope.names N' pick scope.names=true):cz X N' pick scope:=by
 unfold LU at h
 simp only[ah4,aiL,decide_eq_true_eq,beq_iff_eq,ajU]at h
 obtain⟨⟨⟨⟨⟨h1,h2⟩,h3⟩,h4⟩,h5⟩,h6⟩:=h
 refine⟨hk,h1,fun x hx e=>by rw[←e];exact h2 x hx,h3,h4,fun i j x hp hN=>?_,fun x hx e=>?_⟩
 ·have hm:(some j,x)∈pick.zip N':=by
   have:(pick.zip N')[i]? = some (some j,x):=by rw[alm];exact⟨hp,hN⟩
   exact ahL this
  exact h5 _ hm |> fun z=>by simpa using z
 ·rcases h6 x hx with z|z|z
  ·exact absurd e z
  ·exact .inl z
  ·exact .inr z
end L2
namespace PySem
open Sem (wp)
section
variable {prog:Program}{w:World}{A:Around}{E:Value→Shared→Prop}{s:Shared}
theorem XI{it l:Addr}{i:Nat}{items:Array Value}{x:Value}{Q:Value→Shared→Prop}(hit:s.heap.IsTupleIter it l i)
  (hl:s.heap.IsTuple l items) (hx:items[i]? = some x)
  (hQ:∀h',h'.IsTupleIter it l (i+1)→Heap.SameBut it s.heap h'→Q x {s with heap:=h'}) :
  wpAny (model prog w) A (Builtin.SmallTypes.nextOf (.ref it)) Q E s:=by
 obtain⟨o,ho,hc,hd⟩:=id hit
 obtain⟨ol,j7,_,nl,hdl⟩:=hl
 unfold Builtin.SmallTypes.nextOf
 refine ahk (ajl (name:=Str.ofString "__next__") hit.typeIs ajV
  (ah5 ajV hit.typeIs aln ?_ (alo _)))
 show wpAny _ _ (field (.ref it) 0 >>= _) _ _ s
 refine ahk (aik ho hd (x:=.ref l) rfl ?_)
 show wpAny _ _ (if(Value.ref l==Value.none)=true then _ else _) _ _ s
 rw[if_neg (show ¬((Value.ref l==Value.none)=true)from ahG)]
 show wpAny _ _ (field (.ref it) 1 >>= _) _ _ s
 refine ahk (aik ho hd (x:=.int i 0) rfl ?_)
 show wpAny _ _ (seqItems? (.ref l) >>= _) _ _ s
 refine ahk (ah9 j7 hdl ?_)
 simp only[aiZ,hx]
 refine ahk (ajy ho hd (by simp) (ahl ⟨x,rfl,ahl (hQ _ ?_ (ai3 ..))⟩))
 exact⟨_,ajw _ ho (akA (ajm hd _)),(akB ..).trans hc,by
  rw[ajm hd];simp[rawInt]⟩
theorem XJ{it l:Addr}{i:Nat}{items:Array Value}{Q:Value→Shared→Prop}(hh:A.handled=none)
  (hit:s.heap.IsTupleIter it l i) (hl:s.heap.IsTuple l items) (hx:items[i]? = none)
  (hE:∀h' e,Heap.ExtBut it s.heap h'→(∃o,h'.get? e=some o∧o.cls=.type "StopIteration")→E (.ref e) {s with heap:=h'}) :
  wpAny (model prog w) A (Builtin.SmallTypes.nextOf (.ref it)) Q E s:=by
 obtain⟨o,ho,hc,hd⟩:=id hit
 obtain⟨ol,j7,_,nl,hdl⟩:=hl
 unfold Builtin.SmallTypes.nextOf
 refine ahk (ajl (name:=Str.ofString "__next__") hit.typeIs ajV
  (ah5 ajV hit.typeIs aln ?_ (alo _)))
 show wpAny _ _ (field (.ref it) 0 >>= _) _ _ s
 refine ahk (aik ho hd (x:=.ref l) rfl ?_)
 show wpAny _ _ (if(Value.ref l==Value.none)=true then _ else _) _ _ s
 rw[if_neg (show ¬((Value.ref l==Value.none)=true)from ahG)]
 show wpAny _ _ (field (.ref it) 1 >>= _) _ _ s
 refine ahk (aik ho hd (x:=.int i 0) rfl ?_)
 show wpAny _ _ (seqItems? (.ref l) >>= _) _ _ s
 refine ahk (ah9 j7 hdl ?_)
 simp only[aiZ,hx]
 refine ahk (aiM (ahk (ajy ho hd (by simp) ?_)))
 show wpAny _ _ (newExc (.type "StopIteration") [] >>= _) _ _ _
 refine ahk ?_
 simp only[newExc,newTuple]
 refine ahk (ajk ?_ (by size_fits))
 refine ahk (m:=firstArgMember _ _) (ajz (a:=Value.none) (by first|rfl|(simp only[firstArgMember];rfl)) ?_)
 refine ajk ?_ (by size_fits)
 simp only[raiseNew]
 refine ahk (wpAny_handled ?_)
 first|rw[show A.in1.handled=none from hh]|rw[hh]
 refine ahk (ahl (wpAny_throw ?_))
 exact hE _ _ (((ai3 ..).extBut.push _).push _) ⟨_,ahB _ rfl,rfl⟩
theorem Draws.tuple{prog:Program}{w:World}{A:Around}(hh:A.handled=none) (it l:Addr) (hne:l≠it) (items:Array Value) :
  Draws prog w A it [it,l] items.size (fun i v=>items[i]? = some v) (fun i h=>h.IsTupleIter it l i∧h.IsTuple l items) where
 live:=fun _ _ st=>let⟨o,ho,_⟩:=st.1;⟨o,ho⟩
 frame:=fun _ _ _ st hk=>⟨st.1.at fun o e=>hk it (by simp) o e,let⟨o,e,r⟩:=st.2;⟨o,hk l (by simp) o e,r⟩⟩
 item:=fun i s Q E hi st hQ=>by
  refine XI st.1 st.2 (x:=items[i]) (by simp[hi]) fun h' u9 hs'=>?_
  exact hQ _ h' s.toks (by simp[hi]) ⟨u9,let⟨o,e,r⟩:=st.2;⟨o,hs'.extBut _ _ hne e,r⟩⟩ hs'
 done:=fun s Q E st hE=>XJ hh st.1 st.2 (by simp) hE
structure ZA (z TI TO i1 i2:Addr) (f1 f2:List Addr):Prop where
 TIz:TI≠z
 TOz:TO≠z
 TITO:TI≠TO
 TIi1:TI≠i1
 TIi2:TI≠i2
 m1:i1∈f1
 m2:i2∈f2
 z1:z∉f1
 z2:z∉f2
 o1:TO∉f1
 o2:TO∉f2
 x1:i1∉f2
 x2:i2∉f1
theorem N2{z TI TO i1 i2:Addr}{f1 f2:List Addr}{n1 n2 k:Nat}{P1 P2:Nat→Value→Prop}{S1 S2:Nat→Heap→Prop}{a b:Value}{Q:Value→Shared→Prop}(D:ZA z TI TO i1 i2 f1 f2) (D1:Draws prog w A i1 f1 n1 P1 S1) (D2:Draws prog w A i2 f2 n2 P2 S2)
  (hz:IsZip s.heap z TI TO .none) (hTI:IsPair s.heap TI (.ref i1) (.ref i2)) (hTO:IsPair s.heap TO a b)
  (h1:S1 k s.heap) (h2:S2 k s.heap) (hx:k<n1) (hy:k<n2)
  (hQ:∀x y h' tk,P1 k x→P2 k y→IsZip h' z TI TO (rawInt s.heap.objs.size)→IsPair h' TO x y→S1 (k+1) h'→S2 (k+1) h'→IsPair h' s.heap.objs.size x y →
   (∀c o,c≠z→c≠TO→c≠i1→c≠i2→s.heap.get? c=some o→h'.get? c=some o)→Q (.ref s.heap.objs.size) {s with heap:=h',toks:=tk}) :
  wpAny (model prog w) A (Builtin.«zip.__next__» ⟨[.ref z],[]⟩) (fun fin s'=>∃v,fin=.done (.ret v)∧Q v s') E s:=by
 have xM:i1≠z:=fun e=>D.z1 (e▸D.m1)
 have Bq:i2≠z:=fun e=>D.z2 (e▸D.m2)
 have Bs:TO≠i1:=fun e=>D.o1 (e▸D.m1)
 have Jd:TO≠i2:=fun e=>D.o2 (e▸D.m2)
 have n12:i1≠i2:=fun e=>D.x1 (e▸D.m2)
 show wpAny _ _ (field (.ref z) 2 >>= _) _ _ _
 refine ahk (aik hz rfl (x:=.bool false) rfl ?_)
 show wpAny _ _ (field (.ref z) 3 >>= _) _ _ _
 refine ahk (aik hz rfl (x:=.ref TI) rfl ?_)
 refine ahk (ah9 hTI rfl ?_)
 show wpAny _ _ (Builtin.SmallTypes.ownedTupleIsFree (.ref z) >>= _) _ _ _
 refine ahk ?_
 unfold Builtin.SmallTypes.ownedTupleIsFree
 refine ahk (aik hz rfl (x:=.none) rfl (ahl ?_))
 simp only[if_true]
 refine ahk (aiM ?_)
 refine ahk (aik hz rfl (x:=.ref TO) rfl ?_)
 refine ahk (ajn hz (by simp) fun h₁ nB hs₁=>?_)
 replace nB:IsZip h₁ z TI TO .ellipsis:=nB
 refine ahk ?_
 simp only[alp,alq,aix,aiN]
 refine ahk (ahk (ajW ?_))
 show wpAny _ _ (Builtin.SmallTypes.nextOf (.ref i1) >>= _) _ _ _
 refine ahk (D1.item k _ _ _ hx (D1.frame _ _ _ h1 fun c hc o e=>hs₁.extBut _ _ (fun q=>D.z1 (q▸hc)) e) fun x h₂ tk₂ px K6 hs₂=>ahl ?_)
 have vh:IsPair h₂ TO a b:=hs₂.extBut _ _ Bs (hs₁.extBut _ _ D.TOz hTO)
 refine ahk (ah9 vh rfl ?_)
 refine ahk (akC vh fun h₃ yi jb=>?_)
 replace yi:IsPair h₃ TO x b:=yi
 refine ahk (wpAny_letGo (ahl ?_))
 refine ahk (ahk (ajW ?_))
 show wpAny _ _ (Builtin.SmallTypes.nextOf (.ref i2) >>= _) _ _ _
 refine ahk (D2.item k _ _ _ hy (D2.frame _ _ _ h2 fun c hc o e=>jb.extBut _ _ (fun q=>D.o2 (q▸hc)) (hs₂.extBut _ _ (fun q=>D.x1 (q▸hc)) (hs₁.extBut _ _ (fun q=>D.z2 (q▸hc)) e))) fun y h₄ tk₄ py abt nF=>ahl ?_)
 have K1:IsPair h₄ TO x b:=nF.extBut _ _ Jd yi
 refine ahk (ah9 K1 rfl ?_)
 refine ahk (akC K1 fun h₅ yh nE=>?_)
 replace yh:IsPair h₅ TO x y:=yh
 refine ahk (wpAny_letGo (ahl (ahl ?_)))
 refine ahk (ah9 yh rfl ?_)
 refine ahk (wpAny_newTuple ?_)
 have hsz:h₅.objs.size=s.heap.objs.size:=by rw[nE.1,nF.1,jb.1,hs₂.1,hs₁.1]
 have Ku:IsZip h₅ z TI TO .ellipsis:=nE.extBut _ _ D.TOz.symm (nF.extBut _ _ Bq.symm (jb.extBut _ _ D.TOz.symm (hs₂.extBut _ _ xM.symm nB)))
 have aaZ:∀c o,c≠z→c≠TO→c≠i1→c≠i2→s.heap.get? c=some o→h₅.get? c=some o:=fun c o c1 c2 c3 c4 e =>
  nE.extBut _ _ c2 (nF.extBut _ _ c4 (jb.extBut _ _ c2 (hs₂.extBut _ _ c3 (hs₁.extBut _ _ c1 e))))
 have abu:S1 (k+1) h₅:=D1.frame _ _ _ K6 fun c hc o e=>nE.extBut _ _ (fun q=>D.o1 (q▸hc)) (nF.extBut _ _ (fun q=>D.x2 (q▸hc)) (jb.extBut _ _ (fun q=>D.o1 (q▸hc)) e))
 have abr:S2 (k+1) h₅:=D2.frame _ _ _ abt fun c hc o e=>nE.extBut _ _ (fun q=>D.o2 (q▸hc)) e
 have Ky:z<h₅.objs.size:=ahq Ku
 show wpAny _ _ (Builtin.SmallTypes.ownedTupleHandOut (.ref z) (.ref h₅.objs.size) >>= _) _ _ _
 refine ahk ?_
 unfold Builtin.SmallTypes.ownedTupleHandOut
 have aaI:IsZip (h₅.push {cls:=.type "tuple",data:=.seq #[x,y]}) z TI TO .ellipsis:=ahp _ Ku
 refine ahk (ajn aaI (by simp) fun aaH Dl KH=>?_)
 replace Dl:IsZip aaH z TI TO (rawInt h₅.objs.size):=Dl
 refine ajn Dl (by simp) fun ya yc KG=>?_
 replace yc:IsZip ya z TI TO (rawInt h₅.objs.size):=yc
 have up:∀c o,c≠z→h₅.get? c=some o→ya.get? c=some o:=fun c o c1 e=>KG.extBut _ _ c1 (KH.extBut _ _ c1 (ahp _ e))
 have K0:IsPair ya h₅.objs.size x y:=KG.extBut _ _ (ah0 Ky) (KH.extBut _ _ (ah0 Ky) (ahB _ rfl))
 rw[hsz]at yc K0
 refine ahl ⟨_,rfl,?_⟩
 show Q (.ref h₅.objs.size) _
 rw[hsz]
 exact hQ x y ya _ px py yc (up _ _ D.TOz yh) (D1.frame _ _ _ abu fun c hc o e=>up c o (fun q=>D.z1 (q▸hc)) e) (D2.frame _ _ _ abr fun c hc o e=>up c o (fun q=>D.z2 (q▸hc)) e) K0 fun c o c1 c2 c3 c4 e=>up c o c1 (aaZ c o c1 c2 c3 c4 e)
theorem N3{z TI TO i1 i2:Addr}{f1 f2:List Addr}{n1 n2 k:Nat}{P1 P2:Nat→Value→Prop}{S1 S2:Nat→Heap→Prop}{a b:Value}{Q:Fin→Shared→Prop}(D:ZA z TI TO i1 i2 f1 f2) (D1:Draws prog w A i1 f1 n1 P1 S1) (D2:Draws prog w A i2 f2 n2 P2 S2)
  (hz:IsZip s.heap z TI TO .none) (hTI:IsPair s.heap TI (.ref i1) (.ref i2)) (hTO:IsPair s.heap TO a b)
  (h1:S1 k s.heap) (h2:S2 k s.heap) (hend:k=n1∨(k<n1∧k=n2))
  (hE:∀h' tk e,(∀c o,c≠z→c≠TO→c≠i1→c≠i2→s.heap.get? c=some o→h'.get? c=some o)→(∃o,h'.get? e=some o∧o.cls=.type "StopIteration")→E (.ref e) {s with heap:=h',toks:=tk}) :
  wpAny (model prog w) A (Builtin.«zip.__next__» ⟨[.ref z],[]⟩) Q E s:=by
 have xM:i1≠z:=fun e=>D.z1 (e▸D.m1)
 have Bq:i2≠z:=fun e=>D.z2 (e▸D.m2)
 have Bs:TO≠i1:=fun e=>D.o1 (e▸D.m1)
 have Jd:TO≠i2:=fun e=>D.o2 (e▸D.m2)
 show wpAny _ _ (field (.ref z) 2 >>= _) _ _ _
 refine ahk (aik hz rfl (x:=.bool false) rfl ?_)
 show wpAny _ _ (field (.ref z) 3 >>= _) _ _ _
 refine ahk (aik hz rfl (x:=.ref TI) rfl ?_)
 refine ahk (ah9 hTI rfl ?_)
 show wpAny _ _ (Builtin.SmallTypes.ownedTupleIsFree (.ref z) >>= _) _ _ _
 refine ahk ?_
 unfold Builtin.SmallTypes.ownedTupleIsFree
 refine ahk (aik hz rfl (x:=.none) rfl (ahl ?_))
 simp only[if_true]
 refine ahk (aiM ?_)
 refine ahk (aik hz rfl (x:=.ref TO) rfl ?_)
 refine ahk (ajn hz (by simp) fun h₁ nB hs₁=>?_)
 replace nB:IsZip h₁ z TI TO .ellipsis:=nB
 refine ahk ?_
 simp only[alp,alq,aix,aiN]
 refine ahk (ahk (ajW ?_))
 show wpAny _ _ (Builtin.SmallTypes.nextOf (.ref i1) >>= _) _ _ _
 have K7:S1 k h₁:=D1.frame _ _ _ h1 fun c hc o e=>hs₁.extBut _ _ (fun q=>D.z1 (q▸hc)) e
 rcases hend with rfl|⟨hlt,rfl⟩
 ·refine ahk (D1.done _ _ _ K7 fun h₂ e hs₂ he=>?_)
  obtain⟨oe,pJ,hce⟩:=he
  have Kw:IsZip h₂ z TI TO .ellipsis:=hs₂ _ _ xM.symm nB
  have DB:e≠z:=fun x=>by subst x;rw[Kw]at pJ;cases pJ;simp at hce
  refine ajn Kw (by simp) fun h₃ _ jb=>hE h₃ _ e (fun c o c1 _ c3 _ x=>jb.extBut _ _ c1 (hs₂ _ _ c3 (hs₁.extBut _ _ c1 x))) ⟨oe,jb.extBut _ _ DB pJ,hce⟩
 ·refine ahk (D1.item k _ _ _ hlt K7 fun x h₂ tk₂ px K6 hs₂=>ahl ?_)
  have vh:IsPair h₂ TO a b:=hs₂.extBut _ _ Bs (hs₁.extBut _ _ D.TOz hTO)
  refine ahk (ah9 vh rfl ?_)
  refine ahk (akC vh fun h₃ yi jb=>?_)
  refine ahk (wpAny_letGo (ahl ?_))
  refine ahk (ahk (ajW ?_))
  show wpAny _ _ (Builtin.SmallTypes.nextOf (.ref i2) >>= _) _ _ _
  refine ahk (D2.done _ _ _ (D2.frame _ _ _ h2 fun c hc o e=>jb.extBut _ _ (fun q=>D.o2 (q▸hc)) (hs₂.extBut _ _ (fun q=>D.x1 (q▸hc)) (hs₁.extBut _ _ (fun q=>D.z2 (q▸hc)) e))) fun h₄ e nF he=>?_)
  obtain⟨oe,pJ,hce⟩:=he
  have Kv:IsZip h₄ z TI TO .ellipsis:=nF _ _ Bq.symm (jb.extBut _ _ D.TOz.symm (hs₂.extBut _ _ xM.symm nB))
  have DB:e≠z:=fun x=>by subst x;rw[Kv]at pJ;cases pJ;simp at hce
  refine ajn Kv (by simp) fun h₅ _ nE=>hE h₅ _ e (fun c o c1 c2 c3 c4 x=>nE.extBut _ _ c1 (nF _ _ c4 (jb.extBut _ _ c2 (hs₂.extBut _ _ c3 (hs₁.extBut _ _ c1 x))))) ⟨oe,nE.extBut _ _ DB pJ,hce⟩
theorem SK{z TI TO i1 i2:Addr}{f1 f2:List Addr}{n1 n2 k:Nat}{P1 P2:Nat→Value→Prop}{S1 S2:Nat→Heap→Prop}{a b:Value}{Q:Option Value→Shared→Prop}(D:ZA z TI TO i1 i2 f1 f2) (D1:Draws prog w A.in1 i1 f1 n1 P1 S1) (D2:Draws prog w A.in1 i2 f2 n2 P2 S2)
  (hz:IsZip s.heap z TI TO .none) (hTI:IsPair s.heap TI (.ref i1) (.ref i2)) (hTO:IsPair s.heap TO a b)
  (h1:S1 k s.heap) (h2:S2 k s.heap) (hx:k<n1) (hy:k<n2)
  (hQ:∀x y h' tk,P1 k x→P2 k y→IsZip h' z TI TO (rawInt s.heap.objs.size)→IsPair h' TO x y→S1 (k+1) h'→S2 (k+1) h'→IsPair h' s.heap.objs.size x y →
   (∀c o,c≠z→c≠TO→c≠i1→c≠i2→s.heap.get? c=some o→h'.get? c=some o)→Q (some (.ref s.heap.objs.size)) {s with heap:=h',toks:=tk}) :
  wpAny (model prog w) A (pyNext (.ref z)) Q E s:=by
 have hT:s.TypeIs (.ref z) "zip":=⟨_,hz,rfl⟩
 unfold pyNext
 exact ahk (ajX (ajl (name:=Str.ofString "__next__") hT ajY
  (ah5 ajY hT F.entry_zip_next
   (N2 D D1 D2 hz hTI hTO h1 h2 hx hy fun x y h' tk a0 b0 a1 a2 a3 a4 a5 a7=>ahl (hQ x y h' tk a0 b0 a1 a2 a3 a4 a5 a7)) (F.args_zip_next_1 _))))
theorem SM{z TI TO i1 i2:Addr}{f1 f2:List Addr}{n1 n2 k:Nat}{P1 P2:Nat→Value→Prop}{S1 S2:Nat→Heap→Prop}{a b:Value}{Q:Option Value→Shared→Prop}(D:ZA z TI TO i1 i2 f1 f2) (D1:Draws prog w A.in1 i1 f1 n1 P1 S1) (D2:Draws prog w A.in1 i2 f2 n2 P2 S2)
  (hz:IsZip s.heap z TI TO .none) (hTI:IsPair s.heap TI (.ref i1) (.ref i2)) (hTO:IsPair s.heap TO a b)
  (h1:S1 k s.heap) (h2:S2 k s.heap) (hend:k=n1∨(k<n1∧k=n2))
  (hQ:∀h' tk,(∀c o,c≠z→c≠TO→c≠i1→c≠i2→s.heap.get? c=some o→h'.get? c=some o)→Q none {s with heap:=h',toks:=tk}):wpAny (model prog w) A (pyNext (.ref z)) Q E s:=by
 have hT:s.TypeIs (.ref z) "zip":=⟨_,hz,rfl⟩
 unfold pyNext
 refine ahk (ajX (ajl (name:=Str.ofString "__next__") hT ajY
  (ah5 ajY hT F.entry_zip_next (N3 D D1 D2 hz hTI hTO h1 h2 hend fun h' tk e hk he=>?_) (F.args_zip_next_1 _))))
 obtain⟨o,ho,hc⟩:=he
 refine ahk (aiO (T:="StopIteration") (b:=true) ⟨o,ho,hc⟩ isSubtype_stop ?_)
 exact ahl (hQ _ _ hk)
abbrev wc(h:Heap) (l1:Addr):Heap:=h.push {cls:=.type "tuple_iterator",data:=.fields #[.ref l1,.int 0 0]}
abbrev v9(h:Heap) (l1 l2:Addr):Heap:=(wc h l1).push {cls:=.type "tuple_iterator",data:=.fields #[.ref l2,.int 0 0]}
abbrev v8(h:Heap) (l1 l2:Addr):Heap:=(v9 h l1 l2).push {cls:=.type "tuple",data:=.seq #[.ref h.objs.size,.ref (wc h l1).objs.size]}
abbrev v7(h:Heap) (l1 l2:Addr):Heap:=(v8 h l1 l2).push {cls:=.type "tuple",data:=.seq #[.none,.none]}
abbrev qd(h:Heap) (l1 l2:Addr):Heap:=(v7 h l1 l2).push {cls:=.type "zip",data:=.fields #[.none,.bool false,.bool false,.ref (v9 h l1 l2).objs.size,.ref (v8 h l1 l2).objs.size]}
theorem afo{h:Heap}{a:Addr}{xs:Array Value}(x:h.IsTuple a xs) (o:Obj):(h.push o).IsTuple a xs:=let⟨q,e,r⟩:=x;⟨q,ahp _ e,r⟩
theorem YU(l1 l2:Addr) (xs ys:Array Value) :
  Meets (Builtin.«zip.__new__» ⟨[.type "zip",.ref l1,.ref l2],[]⟩) (fun _ R s=>s.heap.IsTuple l1 xs∧s.heap.IsTuple l2 ys ∧
   R (.ok (.ret (.ref (v7 s.heap l1 l2).objs.size))) {s with heap:=qd s.heap l1 l2}) :=
 .of_wp fun prog w A R s h=>by
  obtain⟨hp,g,d,tk,os⟩:=s;obtain⟨hl1,hl2,h⟩:=h
  have hsub:=sub_zip
  have vm:Heap.IsTuple (Shared.heap ⟨hp,g,d,tk,os⟩) l1 xs:=hl1
  have vj:Heap.IsTuple (Shared.heap ⟨hp.push {cls:=.type "tuple_iterator",data:=.fields #[.ref l1,.int 0 0]},g,d,tk,os⟩) l2 ys:=afo hl2 _
  wp_walk using akk vm,akk vj
  exact⟨_,rfl,h⟩
theorem ad7{l1 l2:Addr}{xs ys:Array Value}{Q:Value→Shared→Prop}(hl1:s.heap.IsTuple l1 xs) (hl2:s.heap.IsTuple l2 ys)
  (h:∀h',IsZip h' (s.heap.objs.size+4) (s.heap.objs.size+2) (s.heap.objs.size+3) .none→IsPair h' (s.heap.objs.size+2) (.ref s.heap.objs.size) (.ref (s.heap.objs.size+1)) →
   IsPair h' (s.heap.objs.size+3) .none .none→h'.IsTupleIter s.heap.objs.size l1 0→h'.IsTupleIter (s.heap.objs.size+1) l2 0 →
   (∀c o,s.heap.get? c=some o→h'.get? c=some o)→Q (.ref (s.heap.objs.size+4)) {s with heap:=h'}) :
  wpAny (model prog w) A (call (.type "zip") [.ref l1,.ref l2]) Q E s:=by
 refine callType_new F.called_zip (by decide) (F.typeCall_zip_2 _ _) (F.newCall_zip_2 _ _) (fun obj=>F.args_object_init_3 obj _ _) F.entry_zip_new
  (YU l1 l2 xs ys) ⟨hl1,hl2,?_⟩
 have z1:(wc s.heap l1).objs.size=s.heap.objs.size+1:=ahQ ..
 have z2:(v9 s.heap l1 l2).objs.size=s.heap.objs.size+2:=by rw[ahQ,z1]
 have z3:(v8 s.heap l1 l2).objs.size=s.heap.objs.size+3:=by rw[ahQ,z2]
 have z4:(v7 s.heap l1 l2).objs.size=s.heap.objs.size+4:=by rw[ahQ,z3]
 have g5:(qd s.heap l1 l2).get? (v7 s.heap l1 l2).objs.size=some _:=ahB _ rfl
 have g4:(qd s.heap l1 l2).get? (v8 s.heap l1 l2).objs.size=some _:=ahp _ (ahB _ rfl)
 have g3:(qd s.heap l1 l2).get? (v9 s.heap l1 l2).objs.size=some _:=ahp _ (ahp _ (ahB _ rfl))
 have g2:(qd s.heap l1 l2).get? (wc s.heap l1).objs.size=some _:=ahp _ (ahp _ (ahp _ (ahB _ rfl)))
 have g1:(qd s.heap l1 l2).get? s.heap.objs.size=some _:=ahp _ (ahp _ (ahp _ (ahp _ (ahB _ rfl))))
 show _∧_
 rw[z2,z3,z4]at g5
 rw[z1,z2]at g3
 rw[z3]at g4
 rw[z1]at g2
 rw[z4]
 exact⟨⟨_,g5,rfl⟩,h _ g5 g3 g4 ⟨_,g1,rfl,rfl⟩ ⟨_,g2,rfl,rfl⟩ fun c o x =>
  ahp _ (ahp _ (ahp _ (ahp _ (ahp _ x))))⟩
open AutoSeq1 (wpAny_loadPart')
end
end PySem
namespace L2
open PySem PySem.Spec PyProof.Rows
section
variable {X:Cx}{pins:List (Addr×Obj)}{σ:St}{H:Hp}{s:Shared}{K:PySem.W.Frag}
theorem abK{a b:Addr}{xs:List V}(I:Inv X pins σ H s) (f:gH X pins H b) (q:bX X.K H a xs):a≠b:=by
 rintro rfl
 rcases q with(q|⟨o,q⟩)|⟨o,its,n,q,_⟩
 ·rw[f.1]at q;cases q
 ·rw[f.1]at q;cases q
 ·have e:=I.ok.mod.pB a o q
  rcases f.2.2.2.1 with z|z
  ·exact I.ok.kZ _ _ e z
  ·exact absurd (ahD (ahq e) (ahN I.ok.kB z)) (aib _)
theorem abL{a b:Addr}{xs:List V}(I:Inv X pins σ H s) (f:gH X pins H b) (q:bw X.K H a xs):a≠b:=by
 rintro rfl
 rcases q with(q|⟨o,q⟩)|⟨o,its,n,q,_⟩
 ·rw[f.1]at q;cases q
 ·rw[f.1]at q;cases q
 ·have e:=I.ok.mod.pB a o q
  rcases f.2.2.2.1 with z|z
  ·exact I.ok.kZ _ _ e z
  ·exact absurd (ahD (ahq e) (ahN I.ok.kB z)) (aib _)
theorem Inv.GP{h':Heap}{t':Nat}{ch:List Addr}{T:Addr}{vs:List V}{us:List Value}(I:Inv X pins σ H s) (hf:∀b∈ch,gH X pins H b) (k:∀b o,b∉ch→s.heap.get? b=some o→h'.get? b=some o)
  (hT:s.heap.objs.size≤T) (th:∀b∈ch,∃o,h'.get? b=some o) (rv:Vals vs us) (hz:vs.length≤sizeLine) (tup:kH h' T us.toArray):Inv X pins σ (upd H T (.tup vs)) {s with heap:=h',toks:=t'}:=by
 have hn:H T=none:=I.hok.fresh hT
 have ju:∀b u,H b=some u→b∉ch:=fun b u e z=>by rw[(hf b z).1]at e;cases e
 refine I.step (g':=s.gens) (d':=s.drawn) (ch:=ch) (fun b hb=>?_) (fun b o _ _ hc e _=>k b o hc e) (fun b o _ _ hc e _=>⟨o.slots,k b o hc e⟩) (fun b o _ e n=>?_)
  (fun b o hc e=>⟨o,k b o hc e⟩) (fun b xs e=>by rw[bR (eH e hn)];exact e) (fun b o u e=>by rw[bR (eH e hn)];exact e) (fun b ps e=>⟨#[],by rw[bR (eH e hn),e];simp⟩) (fun m hm=>?_) (fun b u e=>?_) I.bare
 ·obtain⟨f0,f1,f2,f3,f4,f5⟩:=hf b hb
  exact⟨f3,f1,f4,f5⟩
 ·rw[bR (ahw (ahD (ahq e) hT))];exact n
 ·obtain⟨o,es,ep,ho,r⟩:=hm
  exact⟨o,es,ep,k _ o (fun z=>(hf _ z).2.1 rfl) ho,r⟩
 ·by_cases hb:b=T
  ·subst hb
   rw[f7]at e;cases e
   exact⟨hz,us,rv,tup⟩
  ·rw[bR hb]at e
   refine(I.hok b u e).stay (fun c v hc q=>k c v ?_ q) (fun c q=>by rw[bR (eH q hn)];exact q) fun c xs q=>by rw[bR (eH q hn)];exact q
   rcases hc with z|z
   ·rw[z];exact ju b u e
   ·exact ju c _ z
theorem Inv.GQ{h':Heap}{t':Nat}{ch:List Addr}(I:Inv X pins σ H s) (hf:∀b∈ch,gH X pins H b) (k:∀b o,b∉ch→s.heap.get? b=some o→h'.get? b=some o):Inv X pins σ H {s with heap:=h',toks:=t'}:=by
 have ju:∀b u,H b=some u→b∉ch:=fun b u e z=>by rw[(hf b z).1]at e;cases e
 refine I.step (g':=s.gens) (d':=s.drawn) (ch:=ch) (fun b hb=>?_) (fun b o _ _ hc e _=>k b o hc e) (fun b o _ _ hc e _=>⟨o.slots,k b o hc e⟩) (fun b o _ e n=>n)
  (fun b o hc e=>⟨o,k b o hc e⟩) (fun b xs e=>e) (fun b o u e=>e) (fun b ps e=>⟨#[],by rw[e];simp⟩) (fun m hm=>?_) (fun b u e=>?_) I.bare
 ·obtain⟨f0,f1,f2,f3,f4,f5⟩:=hf b hb
  exact⟨f3,f1,f4,f5⟩
 ·obtain⟨o,es,ep,ho,r⟩:=hm
  exact⟨o,es,ep,k _ o (fun z=>(hf _ z).2.1 rfl) ho,r⟩
 ·refine(I.hok b u e).stay (fun c v hc q=>k c v ?_ q) (fun c q=>q) fun c xs q=>q
  rcases hc with z|z
  ·rw[z];exact ju b u e
  ·exact ju c _ z
end
structure zE (P:Program) (w:World) (K:PySem.W.Frag) (Sq:Hp→Addr→List V→Prop) (jK:Heap→Addr→Addr→Nat→Prop) (tN:Heap→Addr→Array Value→Prop):Prop where
 get:∀{X:Cx}{pins:List (Addr×Obj)}{σ:St}{H:Hp}{s:Shared}{a:Addr}{xs:List V},X.K=K→Inv X pins σ H s→Sq H a xs→∃its:List Value,Vals xs its∧tN s.heap a its.toArray∧xs.length≤sizeLine
 inj:∀{X:Cx}{pins:List (Addr×Obj)}{σ:St}{H:Hp}{s:Shared}{a:Addr}{xs ys:List V},X.K=K→Inv X pins σ H s→Sq H a xs→Sq H a ys→xs=ys
 ne:∀{X:Cx}{pins:List (Addr×Obj)}{σ:St}{H:Hp}{s:Shared}{a b:Addr}{xs:List V},X.K=K→Inv X pins σ H s→gH X pins H b→Sq H a xs→a≠b
 lQ:∀(A:Around) (it l:Addr) (items:Array Value),A.handled=none→l≠it→Draws P w A it [it,l] items.size (fun i v=>items[i]? = some v) (fun i h=>jK h it l i∧tN h l items)
 obj:∀{h:Heap}{it l:Addr}{i:Nat},jK h it l i→∃o,h.get? it=some o∧∀v,o.data≠.cell v
 at':∀{h h':Heap}{it l:Addr}{i:Nat},jK h it l i→(∀o,h.get? it=some o→h'.get? it=some o)→jK h' it l i
theorem Rp{P:Program}{w:World}{K:PySem.W.Frag}:zE P w K (bX K) (fun h it l i=>h.IsTupleIter it l i) (fun h a xs=>h.IsTuple a xs) where
 get:=fun e I q=>by subst e;obtain⟨its,r,p,z⟩:=I.tuple q;exact⟨its,r,p,z⟩
 inj:=fun e I q q'=>by subst e;exact I.GU q q'
 ne:=fun e I f q=>by subst e;exact abK I f q
 lQ:=fun A it l items hh hne=>Draws.tuple hh it l hne items
 obj:=fun st=>by obtain⟨o,e,c,d⟩:=st;exact⟨o,e,fun v z=>by rw[d]at z;cases z⟩
 at':=fun st k=>st.at k
theorem Hx{P:Program}{w:World}{K:PySem.W.Frag}:zE P w K (bw K) (fun h it l i=>h.IsListIter it l i) (fun h a xs=>h.IsList a xs) where
 get:=fun e I q=>by subst e;obtain⟨its,r,p,z⟩:=I.list q;exact⟨its,r,p.isList,z⟩
 inj:=fun e I q q'=>by subst e;exact I.JK q q'
 ne:=fun e I f q=>by subst e;exact abL I f q
 lQ:=fun A it l items hh hne=>Draws.list hh it l hne items
 obj:=fun st=>by obtain⟨o,e,c,d⟩:=st;exact⟨o,e,fun v z=>by rw[d]at z;cases z⟩
 at':=fun st k=>st.at k
def zJ(Sq:Hp→Addr→List V→Prop) (a1 a2:Addr):It :=
  ⟨fun i H=>∃xs ys x y,Sq H a1 xs∧Sq H a2 ys∧xs[i]? = some x∧ys[i]? = some y,
   fun i H v H'=>∃t x y,v=.ref t∧H t=none∧H'=upd H t (.tup [x,y])∧∀xs ys,Sq H a1 xs→Sq H a2 ys→xs[i]? = some x∧ys[i]? = some y,
   fun i H=>∃xs ys,Sq H a1 xs∧Sq H a2 ys∧(i=xs.length∨(i<xs.length∧i=ys.length))⟩
def tM(Sq:Hp→Addr→List V→Prop) (a:Addr):It :=
  ⟨fun i H=>∃xs x,Sq H a xs∧xs[i]? = some x,
   fun i H v H'=>∃t x,v=.ref t∧H t=none∧H'=upd H t (.tup [.int i,x])∧∀xs,Sq H a xs→xs[i]? = some x,
   fun i H=>∃xs,Sq H a xs∧i=xs.length⟩
theorem qj{xs:List V}{us:List Value}{i:Nat}{u:Value}(r:Vals xs us) (h:us.toArray[i]? = some u):∃x,xs[i]? = some x∧RelV x u:=by
 have h':us[i]? = some u:=by simpa using h
 have hi:i<xs.length:=by rw[r.length];exact(ahz.mp h').1
 obtain⟨u',e,q⟩:=r.get (i:=i) (x:=xs[i]) (ahy hi)
 rw[h']at e;cases e
 exact⟨xs[i],ahy hi,q⟩
theorem GR{P:Program}{w:World}{K:PySem.W.Frag}{Sq:Hp→Addr→List V→Prop}{jK:Heap→Addr→Addr→Nat→Prop}{tN:Heap→Addr→Array Value→Prop}(S:zE P w K Sq jK tN) {es:List Expr}{k:Nat}{pt:Pos}(a1 a2 z TI TO i1 i2:Addr)
  (n1:TI≠z) (n2:TO≠z) (n3:TI≠TO) (n4:TI≠i1) (n5:TI≠i2) (n6:TO≠i1) (n7:TO≠i2) (n8:i1≠z) (n9:i2≠z) (rJ:i1≠i2) :
  Turn P w K (.Tuple es k pt) (zJ Sq a1 a2) [z,TI,TO,i1,i2] z (fun i h=>IsZip h z TI TO .none∧IsPair h TI (.ref i1) (.ref i2)∧(∃a b,IsPair h TO a b)∧jK h i1 a1 i∧jK h i2 a2 i) where
 mem:=by simp
 obj:=fun i h st b hb=>by
  obtain⟨hz,hTI,⟨a,b',hTO⟩,h1,h2⟩:=st
  simp only[ahm,ahE,or_false]at hb
  rcases hb with rfl|rfl|rfl|rfl|rfl
  ·exact⟨_,hz,fun v q=>nomatch q⟩
  ·exact⟨_,hTI,fun v q=>nomatch q⟩
  ·exact⟨_,hTO,fun v q=>nomatch q⟩
  ·exact S.obj h1
  ·exact S.obj h2
 keep:=fun i h h' st kp=>by
  obtain⟨hz,hTI,⟨a,b,hTO⟩,h1,h2⟩:=st
  exact⟨kp _ (by simp) _ hz,kp _ (by simp) _ hTI,⟨a,b,kp _ (by simp) _ hTO⟩,S.at' h1 fun o e=>kp _ (by simp) o e,S.at' h2 fun o e=>kp _ (by simp) o e⟩
 item:=by
  intro X hP hw hK hc i pins s σ H E I hf st hg
  subst hP hw
  obtain⟨xs,ys,x,y,q1,q2,hx,hy⟩:=hg
  obtain⟨hz,hTI,⟨a,b,hTO⟩,h1,h2⟩:=st
  obtain⟨us,r1,p1,l1⟩:=S.get hK I q1
  obtain⟨vs,r2,p2,l2⟩:=S.get hK I q2
  have ne1:∀{b:Addr},b∈[z,TI,TO,i1,i2]→a1≠b:=fun hb=>S.ne hK I (hf _ hb) q1
  have ne2:∀{b:Addr},b∈[z,TI,TO,i1,i2]→a2≠b:=fun hb=>S.ne hK I (hf _ hb) q2
  have hx':i<us.toArray.size:=by have:=(ahz.mp hx).1;have:=r1.length;simp;omega
  have hy':i<vs.toArray.size:=by have:=(ahz.mp hy).1;have:=r2.length;simp;omega
  have D:ZA z TI TO i1 i2 [i1,a1] [i2,a2]:=⟨n1,n2,n3,n4,n5,by simp,by simp,by simp only[ahm,ahE,or_false,not_or];exact⟨n8.symm,(ne1 (by simp)).symm⟩,by simp only[ahm,ahE,or_false,not_or];exact⟨n9.symm,(ne2 (by simp)).symm⟩,
   by simp only[ahm,ahE,or_false,not_or];exact⟨n6,(ne1 (by simp)).symm⟩,by simp only[ahm,ahE,or_false,not_or];exact⟨n7,(ne2 (by simp)).symm⟩,
   by simp only[ahm,ahE,or_false,not_or];exact⟨rJ,(ne2 (by simp)).symm⟩,by simp only[ahm,ahE,or_false,not_or];exact⟨rJ.symm,(ne1 (by simp)).symm⟩⟩
  refine SK D (S.lQ X.A.in1 i1 a1 us.toArray (I.ok.hd hc) (ne1 (by simp))) (S.lQ X.A.in1 i2 a2 vs.toArray (I.ok.hd hc) (ne2 (by simp))) hz hTI hTO ⟨h1,p1⟩ ⟨h2,p2⟩ hx' hy' fun u v h' tk pu pv hz' K2 s1 s2 hT kp=>?_
  refine⟨_,rfl,?_⟩
  refine wpAny_letOwnedTupleGo_zip (s:={s with heap:=h',toks:=tk}) hz' fun h'' KA lH=>?_
  obtain⟨x',ex,rx⟩:=qj r1 pu
  obtain⟨y',ey,ry⟩:=qj r2 pv
  have lt:∀{c:Addr}{o:Obj},s.heap.get? c=some o→c≠s.heap.objs.size:=fun e=>ahw (ahq e)
  have nv:∀c o,c∉[z,TO,i1,i2]→s.heap.get? c=some o→h''.get? c=some o:=fun c o hcn e=>by
   simp only[ahm,ahE,or_false,not_or]at hcn
   exact lH.extBut _ _ hcn.1 (kp c o hcn.1 hcn.2.1 hcn.2.2.1 hcn.2.2.2 e)
  have hT2:kH h'' s.heap.objs.size [u,v].toArray:=⟨_,lH.extBut _ _ (lt hz).symm hT,rfl,⟨_,rfl⟩,rfl⟩
  have I2:Inv X pins σ (upd H s.heap.objs.size (.tup [x',y'])) {s with heap:=h'',toks:=tk}:=by
   refine I.GP (ch:=[z,TO,i1,i2]) (us:=[u,v]) (fun b hb=>hf b ?_) nv (aho _) (fun b hb=>?_) (.cons rx (.cons ry .nil)) (by show 2≤sizeLine;decide) hT2
   ·simp only[ahm,ahE,or_false]at hb ⊢
    rcases hb with rfl|rfl|rfl|rfl<;>simp
   ·simp only[ahm,ahE,or_false]at hb
    rcases hb with rfl|rfl|rfl|rfl
    ·exact⟨_,KA⟩
    ·exact⟨_,lH.extBut _ _ n2 K2⟩
    ·obtain⟨o,e,_⟩:=S.obj s1.1;exact⟨_,lH.extBut _ _ n8 e⟩
    ·obtain⟨o,e,_⟩:=S.obj s2.1;exact⟨_,lH.extBut _ _ n9 e⟩
  refine⟨.ref s.heap.objs.size,_,I2,rfl,⟨_,x',y',rfl,I.hok.fresh (aho _),rfl,fun xs' ys' w1 w2=>?_⟩,⟨KA,?_,⟨_,_,lH.extBut _ _ n2 K2⟩,S.at' s1.1 fun o e=>lH.extBut _ _ n8 e,S.at' s2.1 fun o e=>lH.extBut _ _ n9 e⟩,fun b hb=>?_⟩
  ·rw[S.inj hK I w1 q1,S.inj hK I w2 q2];exact⟨ex,ey⟩
  ·exact lH.extBut _ _ n1 (kp _ _ n1 n3 n4 n5 hTI)
  ·have hb':b≠s.heap.objs.size:=by
    simp only[ahm,ahE,or_false]at hb
    rcases hb with rfl|rfl|rfl|rfl|rfl
    ·exact lt hz
    ·exact lt hTI
    ·exact lt hTO
    ·obtain⟨o,e,_⟩:=S.obj h1;exact lt e
    ·obtain⟨o,e,_⟩:=S.obj h2;exact lt e
   rw[bR hb'];exact(hf b hb).1
 done:=by
  intro X hP hw hK hc i pins s σ H E I hf st hg
  subst hP hw
  obtain⟨xs,ys,q1,q2,hend⟩:=hg
  obtain⟨hz,hTI,⟨a,b,hTO⟩,h1,h2⟩:=st
  obtain⟨us,r1,p1,l1⟩:=S.get hK I q1
  obtain⟨vs,r2,p2,l2⟩:=S.get hK I q2
  have ne1:∀{b:Addr},b∈[z,TI,TO,i1,i2]→a1≠b:=fun hb=>S.ne hK I (hf _ hb) q1
  have ne2:∀{b:Addr},b∈[z,TI,TO,i1,i2]→a2≠b:=fun hb=>S.ne hK I (hf _ hb) q2
  have D:ZA z TI TO i1 i2 [i1,a1] [i2,a2]:=⟨n1,n2,n3,n4,n5,by simp,by simp,by simp only[ahm,ahE,or_false,not_or];exact⟨n8.symm,(ne1 (by simp)).symm⟩,by simp only[ahm,ahE,or_false,not_or];exact⟨n9.symm,(ne2 (by simp)).symm⟩,
   by simp only[ahm,ahE,or_false,not_or];exact⟨n6,(ne1 (by simp)).symm⟩,by simp only[ahm,ahE,or_false,not_or];exact⟨n7,(ne2 (by simp)).symm⟩,
   by simp only[ahm,ahE,or_false,not_or];exact⟨rJ,(ne2 (by simp)).symm⟩,by simp only[ahm,ahE,or_false,not_or];exact⟨rJ.symm,(ne1 (by simp)).symm⟩⟩
  have e1:=r1.length
  have e2:=r2.length
  refine SM D (S.lQ X.A.in1 i1 a1 us.toArray (I.ok.hd hc) (ne1 (by simp))) (S.lQ X.A.in1 i2 a2 vs.toArray (I.ok.hd hc) (ne2 (by simp))) hz hTI hTO (k:=i) ⟨h1,p1⟩ ⟨h2,p2⟩ (by simp only[aht];omega) fun h' tk kp=>?_
  refine⟨rfl,I.GQ (ch:=[z,TO,i1,i2]) (fun b hb=>hf b ?_) fun c o hcn e=>?_⟩
  ·simp only[ahm,ahE,or_false]at hb ⊢
   rcases hb with rfl|rfl|rfl|rfl<;>simp
  ·simp only[ahm,ahE,or_false,not_or]at hcn
   exact kp c o hcn.1 hcn.2.1 hcn.2.2.1 hcn.2.2.2 e
 self:=fun A i s Q E st h=>akD st.1 h
theorem Pc{P:Program}{w:World}{K:PySem.W.Frag}{Sq:Hp→Addr→List V→Prop}{jK:Heap→Addr→Addr→Nat→Prop}{tN:Heap→Addr→Array Value→Prop}(S:zE P w K Sq jK tN) {es:List Expr}{k:Nat}{pt:Pos}(a e it:Addr) (n1:e≠it) :
  Turn P w K (.Tuple es k pt) (tM Sq a) [e,it] e (fun i h=>(∃old,IsEnum h e it i old)∧jK h it a i) where
 mem:=by simp
 obj:=fun i h st b hb=>by
  obtain⟨⟨old,hz⟩,h1⟩:=st
  simp only[ahm,ahE,or_false]at hb
  rcases hb with rfl|rfl
  ·exact⟨_,hz,fun v q=>nomatch q⟩
  ·exact S.obj h1
 keep:=fun i h h' st kp=>by
  obtain⟨⟨old,hz⟩,h1⟩:=st
  exact⟨⟨old,kp _ (by simp) _ hz⟩,S.at' h1 fun o e=>kp _ (by simp) o e⟩
 item:=by
  intro X hP hw hK hc i pins s σ H E I hf st hg
  subst hP hw
  obtain⟨xs,x,q1,hx⟩:=hg
  obtain⟨⟨old,hz⟩,h1⟩:=st
  obtain⟨us,r1,p1,l1⟩:=S.get hK I q1
  have ne1:∀{b:Addr},b∈[e,it]→a≠b:=fun hb=>S.ne hK I (hf _ hb) q1
  have hx':i<us.toArray.size:=by have:=(ahz.mp hx).1;have:=r1.length;simp;omega
  have W:=WalksT.enumerateD (A:=X.A) (S.lQ X.A.in1 it a us.toArray (I.ok.hd hc) (ne1 (by simp))) e n1 (by simp only[ahm,ahE,or_false,not_or];exact⟨n1,(ne1 (by simp)).symm⟩) (by simp)
  refine wpAny_pyNext_enum_itemD (S.lQ X.A.in1 it a us.toArray (I.ok.hd hc) (ne1 (by simp))) hz ⟨h1,p1⟩ hx' n1 (by simp only[ahm,ahE,or_false,not_or];exact⟨n1,(ne1 (by simp)).symm⟩) fun u0 h' tk0 SV ho0 hs0 hT0 hsz0 hk0=>?_
  have hilt:it<s.heap.objs.size:=by obtain⟨o,e3,_⟩:=S.obj h1;exact ahq e3
  have hT:s.heap.objs.size≤s.heap.objs.size:=aho _
  have mid:(∃x,IsEnumOut h' e it ((i:Int)+1) x s.heap.objs.size)∧_∧s.heap.objs.size≠e∧s.heap.objs.size≠it:=⟨⟨_,ho0⟩,hs0,ah0 (ahq hz),ah0 hilt⟩
  have kp:∀b o,b∉[e,it]→s.heap.get? b=some o→h'.get? b=some o:=fun b o hb y=>hk0 b o (fun e'=>hb (by simp[e'])) (fun e'=>hb (by simp[e'])) y
  refine⟨_,rfl,?_⟩
  refine W.go es k pt i s.heap.objs.size {s with heap:=h',toks:=tk0+1} _ _ mid fun h'' st'' J3=>?_
  obtain⟨x',ex,rx⟩:=qj r1 SV
  have lt:∀{c:Addr}{o:Obj},s.heap.get? c=some o→c≠s.heap.objs.size:=fun q=>ahw (ahq q)
  have hT2:kH h'' s.heap.objs.size [.int i tk0,u0].toArray:=⟨_,J3 _ _ (W.apart _ _ _ mid) hT0,rfl,⟨_,rfl⟩,rfl⟩
  have I2:Inv X pins σ (upd H s.heap.objs.size (.tup [.int i,x'])) {s with heap:=h'',toks:=tk0+1}:=by
   refine I.GP (ch:=[e,it]) (us:=[.int i tk0,u0]) hf (fun c o hcn e1=>J3 _ _ hcn (kp c o hcn e1)) hT (fun b hb=>?_) (.cons ⟨tk0,rfl⟩ (.cons rx .nil)) (by show 2≤sizeLine;decide) hT2
   simp only[ahm,ahE,or_false]at hb
   rcases hb with rfl|rfl
   ·obtain⟨⟨o2,e2⟩,_⟩:=st'';exact⟨_,e2⟩
   ·obtain⟨_,e2,_⟩:=st''
    obtain⟨o,e3,_⟩:=S.obj e2
    exact⟨o,e3⟩
  refine⟨.ref s.heap.objs.size,_,I2,rfl,⟨_,x',rfl,I.hok.fresh hT,rfl,fun xs' w1=>?_⟩,⟨?_,st''.2.1⟩,fun b hb=>?_⟩
  ·rw[S.inj hK I w1 q1];exact ex
  ·obtain⟨⟨o2,e2⟩,_⟩:=st''
   exact⟨o2,by simpa using e2⟩
  ·have hb':b≠s.heap.objs.size:=by
    simp only[ahm,ahE,or_false]at hb
    rcases hb with rfl|rfl
    ·exact lt hz
    ·obtain⟨o,e3,_⟩:=S.obj h1;exact lt e3
   rw[bR hb'];exact(hf b hb).1
 done:=by
  intro X hP hw hK hc i pins s σ H E I hf st hg
  subst hP hw
  obtain⟨xs,q1,hend⟩:=hg
  obtain⟨⟨old,hz⟩,h1⟩:=st
  obtain⟨us,r1,p1,l1⟩:=S.get hK I q1
  have ne1:∀{b:Addr},b∈[e,it]→a≠b:=fun hb=>S.ne hK I (hf _ hb) q1
  have W:=WalksT.enumerateD (A:=X.A) (S.lQ X.A.in1 it a us.toArray (I.ok.hd hc) (ne1 (by simp))) e n1 (by simp only[ahm,ahE,or_false,not_or];exact⟨n1,(ne1 (by simp)).symm⟩) (by simp)
  have ei:i=us.toArray.size:=by rw[aht,←r1.length];exact hend
  subst ei
  refine W.done s _ _ ⟨⟨old,hz⟩,h1,p1⟩ fun h' tk kp=>⟨rfl,I.GQ (ch:=[e,it]) hf kp⟩
 self:=fun A i s Q E st h=>by
  obtain⟨⟨old,hz⟩,h1⟩:=st
  exact wpAny_pyIter_enum hz h
section
variable {X:Cx}{es':List Expr}{kt:Nat}{pt:Pos}
def Kr(Sq:Hp→Addr→List V→Prop) (ta:TA):TI:=fun σ H R=>ta σ H fun vs H1=>∃a b,vs=[.ref a,.ref b]∧(∃xs ys,Sq H1 a xs∧Sq H1 b ys)∧R (zJ Sq a b) H1
def Ks(Sq:Hp→Addr→List V→Prop) (ta:TA):TI:=fun σ H R=>ta σ H fun vs H1=>∃a,vs=[.ref a]∧(∃xs,Sq H1 a xs)∧R (tM Sq a) H1
theorem zN{pins:List (Addr×Obj)}{σ:St}{H:Hp}{s:Shared}{n:Nat}(I:Inv X pins σ H s) (hn:s.heap.objs.size=n):∀b∈[n+4,n+2,n+3,n,n+1],gH X pins H b:=fun b hb=>by
 have:s.heap.objs.size≤b:=by
  simp only[ahm,ahE,or_false]at hb
  rcases hb with rfl|rfl|rfl|rfl|rfl<;>rw[hn]
  ·exact ajZ _ _
  ·exact ajZ _ _
  ·exact ajZ _ _
  ·exact aho _
  ·exact ajZ _ _
 exact I.yp this (I.hok.fresh this)
theorem Um{a b:Expr}{ta:TA}{p pos:Pos}(hg:Gl X "zip") (hm:X.mg "zip"=none) (ha:PA X [a,b] ta) (hs:starEach [a,b] X.env=[(false,eval a X.env),(false,eval b X.env)]:=by rfl) (hs2:starEach [b] X.env=[(false,eval b X.env)]:=by rfl) :
  PI X (.Tuple es' kt pt) (.Call (.Name "zip" p) [a,b] [] pos) (Kr (bX X.K) ta):=by
 intro pins s σ H R I h
 refine Call_ (nu I hg hm boot_zip (ajf (bB (ha pos pins s σ H _ I h) fun us s1 ⟨vs,H1,I1,r1,q1⟩=>?_) (by rw[hs,hs2]) (by rw[hs2];rfl)))
 obtain⟨a1,a2,e,⟨xs,ys,q1,q2⟩,q⟩:=q1
 subst e
 cases r1 with
 |cons r rr =>
  cases rr with
  |cons r' rr =>
   cases rr
   cases r
   cases r'
   obtain⟨us,ru,pu,lu⟩:=I1.tuple q1
   obtain⟨vs,rv,pv,lv⟩:=I1.tuple q2
   refine ad7 pu pv fun h' hz hTI hTO t1 t2 kp=>akD hz ?_
   generalize hn:s1.heap.objs.size=n at hz hTI hTO t1 t2
   have ne:∀{i j:Nat},i≠j→n+i≠n+j:=fun h e=>h (aj0 e)
   have k6:∀{i:Nat},i≠0→n+i≠n:=fun h e=>h (aj0 (e.trans (ai4 n).symm))
   refine⟨n+4,_,_,_,H1,rfl,I1.kept (t':=s1.toks) kp,GR Rp a1 a2 (n+4) (n+2) (n+3) n (n+1) (ne (by decide)) (ne (by decide)) (ne (by decide)) (k6 (by decide)) (ne (by decide)) (k6 (by decide)) (ne (by decide)) (k6 (by decide)).symm (ne (by decide)) (k6 (by decide)).symm,⟨hz,hTI,⟨_,_,hTO⟩,t1,t2⟩,zN I1 hn,q⟩
theorem Uo{a b:Expr}{ta:TA}{p pos:Pos}(hg:Gl X "zip") (hm:X.mg "zip"=none) (ha:PA X [a,b] ta) (hs:starEach [a,b] X.env=[(false,eval a X.env),(false,eval b X.env)]:=by rfl) (hs2:starEach [b] X.env=[(false,eval b X.env)]:=by rfl) :
  PI X (.Tuple es' kt pt) (.Call (.Name "zip" p) [a,b] [] pos) (Kr (bw X.K) ta):=by
 intro pins s σ H R I h
 refine Call_ (nu I hg hm boot_zip (ajf (bB (ha pos pins s σ H _ I h) fun us s1 ⟨vs,H1,I1,r1,q1⟩=>?_) (by rw[hs,hs2]) (by rw[hs2];rfl)))
 obtain⟨a1,a2,e,⟨xs,ys,q1,q2⟩,q⟩:=q1
 subst e
 cases r1 with
 |cons r rr =>
  cases rr with
  |cons r' rr =>
   cases rr
   cases r
   cases r'
   obtain⟨us,ru,pu,lu⟩:=I1.list q1
   obtain⟨vs,rv,pv,lv⟩:=I1.list q2
   refine call_zip_2 pu.isList pv.isList fun h' hz hTI hTO t1 t2 _ kp=>akD hz ?_
   generalize hn:s1.heap.objs.size=n at hz hTI hTO t1 t2
   have ne:∀{i j:Nat},i≠j→n+i≠n+j:=fun h e=>h (aj0 e)
   have k6:∀{i:Nat},i≠0→n+i≠n:=fun h e=>h (aj0 (e.trans (ai4 n).symm))
   refine⟨n+4,_,_,_,H1,rfl,I1.kept (t':=s1.toks) kp,GR Hx a1 a2 (n+4) (n+2) (n+3) n (n+1) (ne (by decide)) (ne (by decide)) (ne (by decide)) (k6 (by decide)) (ne (by decide)) (k6 (by decide)) (ne (by decide)) (k6 (by decide)).symm (ne (by decide)) (k6 (by decide)).symm,⟨hz,hTI,⟨_,_,hTO⟩,t1,t2⟩,zN I1 hn,q⟩
end
end L2
namespace L2
open PySem PySem.Spec PyProof.Rows
section
variable {X:Cx}
theorem GX{A:Around}{bs:List Bool}{its:List Value}(r:Vals (bs.map V.bl) its):TruthOf X.prog X.w A (fun i v=>its.toArray[i]? = some v) (fun i=>bs.getD i false):=by
 intro i v s Q E hP hQ
 obtain⟨x,ex,rx⟩:=qj r hP
 rw[ahP]at ex
 cases e:bs[i]? with
 |none=>rw[e]at ex;cases ex
 |some b =>
  rw[e]at ex
  cases ex
  cases rx
  refine aiW ?_
  have:bs.getD i false=b:=by rw[ahr,e];rfl
  have hQ:Q (bs.getD i false) s:=hQ
  rw[this]at hQ
  exact hQ
theorem range_all(bs:List Bool):((List.range bs.length).all fun i=>bs.getD i false)=bs.all id:=by
 rw[aiF,aiL,aiL]
 constructor
 ·intro h b hb
  obtain⟨i,hi,e⟩:=ajA.mp hb
  have:=h i (ahn.mpr hi)
  rw[ahr,ahy hi]at this
  rw[←e];exact this
 ·intro h i hi
  have hi:=ahn.mp hi
  rw[ahr,ahy hi]
  exact h _ (ail hi)
theorem range_any(bs:List Bool):((List.range bs.length).any fun i=>bs.getD i false)=bs.any id:=by
 rw[aiF,aj1,aj1]
 constructor
 ·rintro ⟨i,hi,h⟩
  have hi:=ahn.mp hi
  rw[ahr,ahy hi]at h
  exact⟨_,ail hi,h⟩
 ·rintro ⟨b,hb,h⟩
  obtain⟨i,hi,e⟩:=ajA.mp hb
  refine⟨i,ahn.mpr hi,?_⟩
  rw[ahr,ahy hi,e];exact h
theorem zC{pins:List (Addr×Obj)}{σ:St}{H:Hp}{s:Shared}{h':Heap}{tk:Nat}{o:Obj}(I:Inv X pins σ H s) (kp:∀b q,b∉[s.heap.objs.size]→(s.heap.push o).get? b=some q→h'.get? b=some q):Inv X pins σ H {s with heap:=h',toks:=tk} :=
 I.kept fun b q e=>kp b q (by simp only[ahm,ahE,or_false];exact ahw (ahq e)) (ahp _ e)
theorem aeg(hc:X.calm=true):cZ X (.builtin "all") (fun xs H Q=>∃(p:Addr) (bs:List Bool),xs=[.ref p]∧bw X.K H p (bs.map V.bl)∧Q (.bl (bs.all id)) H):=by
 intro pins s σ H xs us Q I r h
 obtain⟨p,bs,rfl,hp,q⟩:=h
 obtain⟨u,rfl,ru⟩:=ahV r
 cases ru
 obtain⟨its,rv,pl,hz⟩:=I.list hp
 have hL:=pl.isList
 have pI:p≠s.heap.objs.size:=by obtain⟨o,e,_⟩:=hL;exact ahw (ahq e)
 refine call_all_walk (aje hL ⟨s.heap.objs.size,_,_,its.toArray.size,_,_,fun i=>bs.getD i false,rfl,ajB (A:=X.A.in1) (I.ok.hd hc) s.heap.objs.size p pI its.toArray,⟨⟨_,ahB _ rfl,rfl,rfl⟩,hL.push _⟩,GX rv,fun h' tk kp=>?_⟩)
 have hl:=rv.length
 rw[ahx]at hl
 have I1:Inv X pins σ H {s with heap:=h',toks:=tk}:=zC I kp
 refine⟨.bl (bs.all id),H,I1,?_,q⟩
 show Value.bool _=Value.bool _
 rw[aht,←hl,range_all]
theorem aef(hc:X.calm=true):cZ X (.builtin "any") (fun xs H Q=>∃(p:Addr) (bs:List Bool),xs=[.ref p]∧bw X.K H p (bs.map V.bl)∧Q (.bl (bs.any id)) H):=by
 intro pins s σ H xs us Q I r h
 obtain⟨p,bs,rfl,hp,q⟩:=h
 obtain⟨u,rfl,ru⟩:=ahV r
 cases ru
 obtain⟨its,rv,pl,hz⟩:=I.list hp
 have hL:=pl.isList
 have pI:p≠s.heap.objs.size:=by obtain⟨o,e,_⟩:=hL;exact ahw (ahq e)
 refine call_any_walk (aje hL ⟨s.heap.objs.size,_,_,its.toArray.size,_,_,fun i=>bs.getD i false,rfl,ajB (A:=X.A.in1) (I.ok.hd hc) s.heap.objs.size p pI its.toArray,⟨⟨_,ahB _ rfl,rfl,rfl⟩,hL.push _⟩,GX rv,fun h' tk kp=>?_⟩)
 have hl:=rv.length
 rw[ahx]at hl
 have I1:Inv X pins σ H {s with heap:=h',toks:=tk}:=zC I kp
 refine⟨.bl (bs.any id),H,I1,?_,q⟩
 show Value.bool _=Value.bool _
 rw[aht,←hl,range_any]
def tyName(H:Hp):V→String→Prop
 |.aG,n=>n="NoneType"
 |.bl _,n=>n="bool"
 |.int _,n=>n="int"
 |.str _,n=>n="str"
 |.ref a,n=>(n="list"∧((∃xs,H a=some (.lst xs))∨∃o xs,H a=some (.fF o (.lst xs))))∨(n="tuple"∧∃xs,H a=some (.tup xs))∨(n="dict"∧((∃k,H a=some (.dK k))∨∃k,H a=some (.dT k)))
 |_,_=>False
theorem O5{K:PySem.W.Frag}{H:Hp}{x:V}{n:String}(h:tyName H x n):iO K H x (.type n):=by
 cases x with
 |aG=>cases(show n="NoneType" from h);exact .aG
 |bl b=>cases(show n="bool" from h);exact .bl b
 |int b=>cases(show n="int" from h);exact .int b
 |str b=>cases(show n="str" from h);exact .str b
 |ref a =>
  rcases h with⟨rfl,⟨xs,e⟩|⟨o,xs,e⟩⟩|⟨rfl,xs,e⟩|⟨rfl,⟨k,e⟩|⟨k,e⟩⟩
  ·exact .lst e
  ·exact .fF e
  ·exact .tup e
  ·exact .dK e
  ·exact .dT e
 |_=>exact False.elim h
def ud(n T:String):Bool:=n==T||(n=="bool"&&T=="int")
def Zr(n T:String):Option Bool:=if(Value.type n==Value.type T)=true then some true else if PySem.W.kitMeta T=true then(fastBuiltinMro n).map (·.contains (Value.type T))else none
theorem J4{K:PySem.W.Frag}{n T:String}(hn:n∈["NoneType","bool","int","str","list","tuple","dict"]) (hT:T∈["bool","int","str","list","tuple","dict"]):PySem.W.kitOne K (.type n) (.type T)=some (ud n T):=by
 show Zr n T=some (ud n T)
 simp only[ahm,ahE,or_false]at hn hT
 rcases hn with rfl|rfl|rfl|rfl|rfl|rfl|rfl<;>rcases hT with rfl|rfl|rfl|rfl|rfl|rfl<;>decide +kernel
theorem O6{H:Hp}{x:V}{n:String}(h:tyName H x n):n∈["NoneType","bool","int","str","list","tuple","dict"]:=by
 cases x with
 |aG=>cases(show n="NoneType" from h);simp
 |bl b=>cases(show n="bool" from h);simp
 |int b=>cases(show n="int" from h);simp
 |str b=>cases(show n="str" from h);simp
 |ref a=>rcases h with⟨rfl,_⟩|⟨rfl,_⟩|⟨rfl,_⟩<;>simp
 |_=>exact False.elim h
theorem aee:cZ X (.builtin "isinstance") (fun xs H Q=>∃x n T,xs=[x,.ty T]∧tyName H x n∧T∈["bool","int","str","list","tuple","dict"]∧Q (.bl (ud n T)) H):=by
 intro pins s σ H xs us Q I r h
 obtain⟨x,n,T,rfl,hx,hT,q⟩:=h
 obtain⟨u,v,rfl,ru,rv⟩:=Vals.two r
 cases(show v=Value.type T from rv)
 exact aaq I ru (O5 hx) (J4 (O6 hx) hT) fun tk=>⟨.bl _,H,I.tok tk,rfl,q⟩
end
end L2
namespace L2
open PySem PySem.Spec PyProof.Rows
def acf(ea C:Addr):Heap→Prop:=fun h=>∃o,h.get? ea=some o∧o.cls=.ref C
def acB(a:Addr):Heap→Prop:=PySem.W.KitAt a "dict"
structure Def (K:PySem.W.Frag) (mg:Str→Option Value) (x:Str) (st:Stmt) (ps:List Str) (f:Addr) (fd:FuncData):Prop where
 fn:nZ K x x st f fd
 at':mg x=some (.ref f)
 bd:Binds K fd ps []
section
variable {X:Cx}
theorem UH{x:Str}{st:Stmt}{ps:List Str}{f:Addr}{fd:FuncData}{k:Nat}{sp:Sp}{e:Expr}{es:List Expr}{t:TA}{p pos:Pos}(D:Def X.K X.mg x st ps f fd) (G:bY X.prog X.w X.K X.mg X.base bU k f fd ps sp) (hr:e8 k X.A) (ha:PA X (e::es) t) (hg:Gl X x:=by rfl)
  (hdb:(x==("__debug__":Str))=false:=by decide) (he:starEach (e::es) X.env=(false,eval e X.env)::starEach es X.env:=by rfl) (hpl:(backTo pos (starEach es X.env)).any (·.1)=false:=by rfl) :
  PE X (.Call (.Name x p) (e::es) [] pos) (G9 sp [] E0 t):=UL G hr hg D.at' D.fn.kp D.bd .nil UU ha hdb he hpl
theorem Uv{x:Str}{n:String}{pos:Pos}(hg:Gl X x) (hm:X.mg x=none) (hv:bootBuiltins x=some (.type n)) (hn:x≠"__name__":=by decide) (hd:(x==("__debug__":Str))=false:=by decide):PE X (.Name x pos) (tC (.ty n)):=UM hg hm hv rfl hn hd
end
end L2
namespace L2
open PySem
abbrev Up(l:List Nat):Prop:=l.Pairwise (· < ·)
theorem getD_list(xs:Array Nat) (i d:Nat):xs.getD i d=xs.toList.getD i d:=by
 simp[akE,ahr]
theorem wu{l:List Nat}(h:Up l) {i k:Nat}(hik:i<k) (hk:k<l.length):l.getD i 0<l.getD k 0:=by
 have:=ai5.mp h i k (by omega) hk hik
 simpa[ahr,ahy hk,ahy (show i<l.length by omega)]using this
def Parts(l:List Nat) (j p:Nat):Prop:=p≤l.length∧(∀i,i<p→l.getD i 0<j)∧∀i,p≤i→i<l.length→j≤l.getD i 0
theorem F6{xs:Array Nat}{j:Nat}(h:Up xs.toList):∀fuel lo hi,lo≤hi→hi≤xs.toList.length→hi-lo≤fuel→(∀i,i<lo→xs.toList.getD i 0<j)→(∀i,hi≤i→i<xs.toList.length→j≤xs.toList.getD i 0) →
  Parts xs.toList j (SetTable.below.go xs j fuel lo hi)
 |0,lo,hi,h1,h2,h3,h4,h5=>⟨by unfold SetTable.below.go;omega,fun i hi'=>h4 i (by unfold SetTable.below.go at hi';exact hi'),fun i hi'=>h5 i (by unfold SetTable.below.go at hi';omega)⟩
 |fuel+1,lo,hi,h1,h2,h3,h4,h5=>by
  unfold SetTable.below.go
  by_cases hl:lo<hi
  ·rw[if_pos hl]
   dsimp only
   have hm:(lo+hi)/2<xs.toList.length:=by omega
   have he:xs.getD ((lo+hi)/2) j=xs.toList.getD ((lo+hi)/2) 0:=by
    rw[getD_list];simp[ahr,ahy hm]
   rw[he]
   by_cases hc:xs.toList.getD ((lo+hi)/2) 0<j
   ·rw[if_pos hc]
    refine F6 h fuel _ _ (by omega) h2 (by omega) (fun i hi'=>?_) h5
    by_cases hq:i=(lo+hi)/2
    ·rw[hq];exact hc
    ·exact ajC (wu h (show i<(lo+hi)/2 by omega) hm) hc
   ·rw[if_neg hc]
    refine F6 h fuel _ _ (by omega) (by omega) (by omega) h4 (fun i hi' hl'=>?_)
    by_cases hq:i=(lo+hi)/2
    ·rw[hq];omega
    ·exact ahN (by omega) (ajd (wu h (show(lo+hi)/2<i by omega) hl'))
  ·rw[if_neg hl]
   exact⟨by omega,h4,fun i hi'=>h5 i (by omega)⟩
theorem zB{xs:Array Nat}(h:Up xs.toList) (j:Nat):Parts xs.toList j (SetTable.below xs j):=by
 unfold SetTable.below
 exact F6 h _ _ _ (ahY _) (by simp) (by simp) (fun i hi=>absurd hi (akF _)) (fun i h1 h2=>by simp at h2;omega)
theorem aev{xs:Array Nat}(h:Up xs.toList):SetTable.below xs 0=0:=by
 obtain⟨_,h2,_⟩:=zB h 0
 rcases alr (SetTable.below xs 0)with e|e
 ·exact e
 ·exact absurd (h2 0 e) (akF _)
theorem aew{xs:Array Nat}(h:Up xs.toList) {i:Nat}(hi:i<xs.toList.length):SetTable.below xs (xs.toList.getD i 0+1)=i+1:=by
 obtain⟨h1,h2,h3⟩:=zB h (xs.toList.getD i 0+1)
 rcases aiP (SetTable.below xs (xs.toList.getD i 0+1)) (i+1)with e|e|e
 ·have:=h3 i (by omega) hi;omega
 ·exact e
 ·have a:=h2 (i+1) e
  have b:=wu h (show i<i+1 by omega) (show i+1<xs.toList.length by omega)
  omega
theorem MV{xs:Array Nat}(h:Up xs.toList) {j:Nat}(hj:j∈xs.toList):xs[SetTable.below xs j]? = some j:=by
 obtain⟨i,hi,e⟩:=aiq hj
 obtain⟨h1,h2,h3⟩:=zB h j
 have e':xs.toList.getD i 0=j:=by rw[ahr,ahy hi];exact e
 have hp:SetTable.below xs j=i:=by
  rcases aiP (SetTable.below xs j) i with q|q|q
  ·have a:=h3 (SetTable.below xs j) (aho _) (by omega)
   have b:=wu h q hi
   omega
  ·exact q
  ·have a:=h2 i q;omega
 rw[hp,←aie,ahy hi,e]
theorem O1{xs:Array Nat}(h:Up xs.toList) {j:Nat}(hj:j∉xs.toList):Up (SetTable.insertAt xs (SetTable.below xs j) j).toList:=by
 rw[aj2]
 obtain⟨h1,h2,h3⟩:=zB h j
 generalize SetTable.below xs j=p at h1 h2 h3
 have ht:∀a∈xs.toList.take p,a<j:=by
  intro a ha
  obtain⟨i,hi,e⟩:=aiq ha
  have hi':i<p∧i<xs.toList.length:=by simp at hi ⊢;omega
  have:=h2 i hi'.1
  rw[aj3]at e
  rw[ahr,ahy hi'.2]at this
  simpa[←e]using this
 have hd:∀a∈xs.toList.drop p,j<a:=by
  intro a ha
  have hm:a∈xs.toList:=akG ha
  obtain⟨i,hi,e⟩:=aiq ha
  have hi':p+i<xs.toList.length:=by simp at hi ⊢;omega
  have:=h3 (p+i) (by omega) hi'
  rw[List.getElem_drop]at e
  rw[ahr,ahy hi']at this
  have hle:j≤a:=by simpa[←e]using this
  exact Nat.lt_of_le_of_ne hle fun q=>hj (q▸hm)
 refine List.pairwise_append.mpr ⟨h.sublist (ajS _ _),air.mpr ⟨hd,h.sublist (List.drop_sublist _ _)⟩,fun a ha b hb=>?_⟩
 rcases ahm.mp hb with rfl|hb
 ·exact ht a ha
 ·exact ajC (ht a ha) (hd b hb)
theorem Ic:∀(n:Nat) (l:List Nat),(∀j,j<n→j∈l)→n≤l.length
 |0,_,_=>ahY _
 |n+1,l,h=>by
  have hn:=h n (aiy _)
  have:=Ic n (l.erase n) fun j hj=>(akH (by omega)).mpr (h j (by omega))
  rw[akI hn]at this
  have:=als hn
  omega
def vI(mask:Nat):Nat→Nat→Nat→Nat→Nat→Nat→Bool
 |0,_,_,_,_,_=>false
 |n+1,j,more,i,q,acc =>
  if acc |||(1 <<< j)=2^(mask+1)-1 then true
  else if more>0 then vI mask n (j+1) (more-1) i q (acc |||(1 <<< j))
  else vI mask n ((i*5+1+q/32) % (mask+1)) (SetTable.runEnd mask ((i*5+1+q/32) % (mask+1))-(i*5+1+q/32) % (mask+1)) ((i*5+1+q/32) % (mask+1)) (q/32) (acc |||(1 <<< j))
def pR(mask:Nat):Nat→Nat→Nat→Nat→Bool
 |0,_,_,_=>false
 |n+1,i,q,acc =>
  if acc |||((2^(SetTable.runEnd mask i+1-i)-1) <<< i)=2^(mask+1)-1 then true
  else pR mask n ((i*5+1+q/32) % (mask+1)) (q/32) (acc |||((2^(SetTable.runEnd mask i+1-i)-1) <<< i))
end L2
namespace L2
open PySem
theorem MN(acc j k:Nat):(acc |||(1 <<< j)).testBit k=(acc.testBit k||decide (k=j)):=by
 rw[akJ,alu,Nat.testBit_two_pow]
 by_cases h:j=k
 ·subst h;simp
 ·simp[h,ah7 h]
theorem Qq{t:SetTable}(hd:t.dummies=#[]) (j:Nat):t.slot j=.empty∨∃i,t.slot j=.live i:=by
 unfold SetTable.slot
 dsimp only
 split
 ·exact .inr ⟨_,rfl⟩
 ·rw[hd]
  exact .inl rfl
def oR(m:Nat):Prop:=m=7∨m=31∨m=127
theorem RW(c i k:Nat):((2^c-1) <<< i).testBit k=decide (i≤k∧k<i+c):=by
 rw[alv,ajD]
 by_cases h:i≤k
 ·simp only[ge_iff_le,h,decide_true,Bool.true_and,true_and]
  exact decide_eq_decide.mpr (by omega)
 ·simp[h]
theorem JZ{mask:Nat}{owner:Array (Option Nat)}:∀n i q acc fuel,pR mask n i q acc=true→n≤fuel→(∀k,k≤mask→acc.testBit k=true→owner.getD k (some 0)≠none) →
  (∃j,j≤mask∧owner.getD j (some 0)=none)→∃j,SetTable.layClean.free mask owner fuel i q=some j∧owner.getD j (some 0)=none
 |0,_,_,_,_,h,_,_,_=>by simp[pR]at h
 |n+1,i,q,acc,0,_,h,_,_=>by omega
 |n+1,i,q,acc,fuel+1,hc,hf,ha,hj=>by
  unfold SetTable.layClean.free
  cases hr:(List.range (SetTable.runEnd mask i+1-i)).find? (fun k=>(owner.getD (i+k) (some 0)).isNone)with
  |some k =>
   dsimp only
   have:=alw hr
   exact⟨i+k,rfl,by simpa using this⟩
  |none =>
   dsimp only
   have hno:=aj4.mp hr
   have ha':∀k,k≤mask→(acc |||((2^(SetTable.runEnd mask i+1-i)-1) <<< i)).testBit k=true→owner.getD k (some 0)≠none:=by
    intro k hk hb
    rw[akJ,RW,ajU,decide_eq_true_eq]at hb
    rcases hb with hb|hb
    ·exact ha k hk hb
    ·intro e
     have:=hno (k-i) (ahn.mpr (by omega))
     rw[show i+(k-i)=k by omega,e]at this
     exact this rfl
   unfold pR at hc
   split at hc
   ·rename_i ef
    obtain⟨j0,h0,e0⟩:=hj
    exact absurd e0 (ha' j0 h0 (by rw[ef,ajD];exact decide_eq_true (by omega)))
   ·exact JZ n _ _ _ fuel hc (by omega) ha' hj
def rF(m:Nat):Prop:=m=31∨m=127
theorem Lp:∀(l:List (Option Nat)) (j k:Nat),j<l.length→l.getD j (some 0)=none→((l.set j (some k)).filterMap id).Perm (k::l.filterMap id)
 |[],_,_,h,_=>absurd h (akF _)
 |x::l,0,k,_,e=>by
  have:x=none:=by simpa using e
  subst this
  simp
 |x::l,j+1,k,h,e=>by
  have ih:=Lp l j k (by simpa using h) (by simpa using e)
  rw[alx]
  cases x with
  |none=>simpa using ih
  |some a =>
   simp only[aju,id]
   exact(ih.cons a).trans (List.Perm.swap _ _ _)
theorem Ls:∀(l:List (Option Nat)),(∀j,j<l.length→l.getD j (some 0)≠none)→(l.filterMap id).length=l.length
 |[],_=>rfl
 |x::l,h=>by
  cases x with
  |none=>exact absurd rfl (h 0 (by simp))
  |some a =>
   have:=Ls l fun j hj=>by simpa using h (j+1) (by simpa using hj)
   simp[this]
def Nd(mask:Nat) (owner:Array (Option Nat)) (k:Nat):Prop:=owner.toList.length=mask+1∧(owner.toList.filterMap id).Perm (List.range k)
theorem nI(xs:Array (Option Nat)) (i:Nat) (d:Option Nat):xs.getD i d=xs.toList.getD i d:=by
 simp[akE,ahr]
theorem Sg(l:List (Option Nat)):(List.range l.length).filterMap (fun j=>l.getD j none)=l.filterMap id:=by
 have:l=(List.range l.length).map (fun j=>l.getD j none):=by
  apply aim
  ·simp
  ·intro i h1 h2
   simp[ahr,ahy h1]
 conv=>rhs;rw[this]
 rw[List.filterMap_map]
 rfl
end L2
namespace L2
open PySem
structure Gf (t:SetTable) (n:Nat):Prop where
 size:t.place.size=n
 up:Up t.place.toList
 le:∀j∈t.place.toList,j≤t.mask
 dm:t.dummies=#[]
 mask:(t.mask=7∧n≤4)∨(t.mask=31∧n≤18)∨(t.mask=127∧n≤76)
 plain:t.plain=true
theorem Gf.fits{t:SetTable}{n:Nat}(h:Gf t n):t.fits n=true:=by
 have:=h.mask
 simp only[SetTable.fits,SetTable.fill,h.size,h.dm,ah4,beq_self_eq_true,true_and,decide_eq_true_eq]
 simp only[aht,ahH]
 omega
end L2
namespace L2
open PySem
abbrev Pb:=SetTable.Probe
def fP(m:Nat) (p:Pb):Pb:=if p.more>0 then{p with j:=p.j+1,more:=p.more-1}else{p with j:=(p.i*5+1+p.perturb/32) % (m+1),more:=SetTable.runEnd m ((p.i*5+1+p.perturb/32) % (m+1))-(p.i*5+1+p.perturb/32) % (m+1),i:=(p.i*5+1+p.perturb/32) % (m+1),perturb:=p.perturb/32}
theorem M6(t:SetTable) (p:Pb):t.advance p=fP t.mask p:=by
 unfold SetTable.advance fP
 split<;>rfl
def cX(m:Nat):Nat→Pb→Pb
 |0,p=>p
 |n+1,p=>cX m n (fP m p)
theorem ly(m:Nat):∀(a b:Nat) (p:Pb),cX m (a+b) p=cX m b (cX m a p)
 |0,b,p=>by rw[ahM];rfl
 |a+1,b,p=>by
  rw[show a+1+b=(a+b)+1 by omega]
  exact ly m a b (fP m p)
theorem ae8(m:Nat) (p:Pb):(fP m p).dummy=p.dummy:=by unfold fP;split<;>rfl
theorem Kf(m:Nat):∀(n:Nat) (p:Pb),(cX m n p).dummy=p.dummy
 |0,_=>rfl
 |n+1,p=>(Kf m n (fP m p)).trans (ae8 m p)
def jV(m i q:Nat):Pb:=⟨i,SetTable.runEnd m i-i,i,q,none⟩
def gu(m:Nat) (h:Int):Pb:=jV m (SetTable.bits h % (m+1)) (SetTable.bits h)
def cT(m:Nat) (h:Int) (n:Nat):Nat:=(cX m n (gu m h)).j
def Reach(m:Nat) (P:Nat→Prop) (h:Int) (j:Nat):Prop:=∃n,n<10*(m+15)∧cT m h n=j∧∀k,k<n→P (cT m h k)
theorem Reach.mono{m:Nat}{P Q:Nat→Prop}{h:Int}{j:Nat}(r:Reach m P h j) (i:∀k,P k→Q k):Reach m Q h j :=
 let⟨n,h1,h2,h3⟩:=r;⟨n,h1,h2,fun k hk=>i _ (h3 k hk)⟩
theorem wM{t:SetTable}(hu:Up t.place.toList) {j:Nat}(hj:j∈t.place.toList):∃i,t.slot j=.live i∧t.place[i]? = some j:=by
 refine⟨SetTable.below t.place j,?_,MV hu hj⟩
 unfold SetTable.slot
 dsimp only
 rw[MV hu hj]
 simp
theorem Qs{t:SetTable}(hd:t.dummies=#[]) {j:Nat}(hj:j∉t.place.toList):t.slot j=.empty:=by
 rcases Qq hd j with e|⟨i,e⟩
 ·exact e
 ·unfold SetTable.slot at e
  dsimp only at e
  split at e
  ·rename_i q
   have:=eq_of_beq q
   rw[←aie]at this
   exact absurd (ahL this) hj
  ·split at e<;>cases e
theorem DN{t:SetTable}{hashAt:Nat→Int}{h:Int}:∀(n fuel:Nat) (p:Pb),n≤fuel→(∀k,k<n→∃i,t.slot (cX t.mask k p).j=.live i∧(hashAt i==h)=false) →
  SetTable.probe.go t hashAt h fuel p=SetTable.probe.go t hashAt h (fuel-n) (cX t.mask n p)
 |0,fuel,p,_,_=>rfl
 |n+1,0,p,hf,_=>absurd hf (by omega)
 |n+1,fuel+1,p,hf,hk=>by
  obtain⟨i,e,hne⟩:=hk 0 (by omega)
  have e:t.slot p.j=.live i:=e
  have ih:=DN (t:=t) (hashAt:=hashAt) (h:=h) n fuel (fP t.mask p) (by omega) fun k hk'=>hk (k+1) (by omega)
  rw[show fuel+1-(n+1)=fuel-n by omega]
  show SetTable.probe.go t hashAt h (fuel+1) p=SetTable.probe.go t hashAt h (fuel-n) (cX t.mask n (fP t.mask p))
  rw[←ih]
  conv=>lhs;unfold SetTable.probe.go
  rw[e]
  dsimp only
  rw[hne,M6]
  simp only[ahC,if_false]
theorem least{P:Nat→Prop}:∀(n:Nat),P n→∃k,k≤n∧P k∧∀i,i<k→¬P i:=fun n=>by
 induction n using Nat.strongRecOn with
 |_ n ih =>
  intro h
  by_cases q:∃i,i<n∧P i
  ·obtain⟨i,hi,hp⟩:=q
   obtain⟨k,h1,h2,h3⟩:=ih i hi hp
   exact⟨k,by omega,h2,h3⟩
  ·exact⟨n,aho _,h,fun i hi hp=>q ⟨i,hi,hp⟩⟩
structure qc (h:Int):Prop where
 go:∀m,oR m→vI m (10*(m+15)) (SetTable.bits h % (m+1)) (SetTable.runEnd m (SetTable.bits h % (m+1))-SetTable.bits h % (m+1)) (SetTable.bits h % (m+1)) (SetTable.bits h) 0=true
 lay:∀m,rF m→pR m (m+15) (SetTable.bits h % (m+1)) (SetTable.bits h) 0=true
def gX(es:Array (Int×Value)) (i:Nat):Int:=(Option.map (fun x:Int×Value=>x.fst) es[i]?).getD 0
structure jI (t:SetTable) (es:Array (Int×Value)):Prop where
 size:t.place.size=es.size
 up:Up t.place.toList
 le:∀j∈t.place.toList,j≤t.mask
 dm:t.dummies=#[]
 mask:(t.mask=7∧es.size≤4)∨(t.mask=31∧es.size≤18)∨(t.mask=127∧es.size≤76)
 reach:∀q∈t.place.toList.zip es.toList,Reach t.mask (·∈t.place.toList) q.2.1 q.1
theorem jI.ok{t:SetTable}{es:Array (Int×Value)}(I:jI t es):oR t.mask:=by
 have:=I.mask
 unfold oR;omega
theorem jI.fits{t:SetTable}{es:Array (Int×Value)}(h:jI t es):t.fits es.size=true:=by
 have:=h.mask
 simp only[SetTable.fits,SetTable.fill,h.size,h.dm,ah4,beq_self_eq_true,true_and,decide_eq_true_eq]
 simp only[aht,ahH]
 omega
theorem N1{l:List Nat}{r:List (Int×Value)}{i j:Nat}{e:Int×Value}(h1:l[i]? = some j) (h2:r[i]? = some e):(j,e)∈l.zip r:=by
 have:(l.zip r)[i]? = some (j,e):=by rw[alm];exact⟨h1,h2⟩
 exact ahL this
theorem O2{l:List Nat}(h:Up l) {i k j:Nat}(h1:l[i]? = some j) (h2:l[k]? = some j):i=k:=by
 obtain⟨a1,b1⟩:=ahz.mp h1
 obtain⟨a2,b2⟩:=ahz.mp h2
 rcases aiP i k with q|q|q
 ·have:=ai5.mp h i k a1 a2 q;omega
 ·exact q
 ·have:=ai5.mp h k i a2 a1 q;omega
theorem M5{m:Nat}{p:Pb}(h:p.j+p.more≤m):(fP m p).j+(fP m p).more≤m:=by
 unfold fP
 split
 ·dsimp only;omega
 ·dsimp only
  have:(p.i*5+1+p.perturb/32) % (m+1)<m+1:=aiQ _ (by omega)
  generalize (p.i*5+1+p.perturb/32) % (m+1)=i at this
  unfold SetTable.runEnd
  split<;>omega
theorem Kd{m:Nat}:∀(n:Nat) {p:Pb},p.j+p.more≤m→(cX m n p).j+(cX m n p).more≤m
 |0,_,h=>h
 |n+1,_,h=>Kd n (M5 h)
theorem Hq(m:Nat) (h:Int):(gu m h).j+(gu m h).more≤m:=by
 have:SetTable.bits h % (m+1)<m+1:=aiQ _ (by omega)
 unfold gu jV
 dsimp only
 generalize SetTable.bits h % (m+1)=i at this
 unfold SetTable.runEnd
 split<;>omega
theorem MW(m:Nat) (h:Int) (n:Nat):cT m h n≤m:=by
 have:=Kd n (Hq m h)
 unfold cT;omega
end L2
namespace L2
open PySem
theorem NZ{l:Array Nat}{r:Array (Int×Value)}(hs:l.size=r.size) {p j:Nat}{e:Int×Value}:∀q∈(SetTable.insertAt l p j).toList.zip (SetTable.insertAt r p e).toList,q=(j,e)∨q∈l.toList.zip r.toList:=by
 intro q hq
 rw[aj2,aj2]at hq
 have hl:(l.toList.take p).length=(r.toList.take p).length:=by simp[hs]
 rw[aly hl,akK,ahZ,ahm]at hq
 have hz:l.toList.zip r.toList=(l.toList.take p).zip (r.toList.take p)++(l.toList.drop p).zip (r.toList.drop p):=by
  rw[←aly hl,ajo,ajo]
 rw[hz,ahZ]
 rcases hq with q|q|q
 ·exact .inr (.inl q)
 ·exact .inl q
 ·exact .inr (.inr q)
theorem SS{t:SetTable}{es:Array (Int×Value)}(I:jI t es) {h:Int}{x:Value}{j:Nat}(hj:j∉t.place.toList) (hle:j≤t.mask) (hr:Reach t.mask (·∈t.place.toList) h j) :
  (SetTable.insertAt es (SetTable.below t.place j) (h,x)).size=es.size+1∧(t.put j).1.place.size=es.size+1∧Up (t.put j).1.place.toList∧(∀k∈(t.put j).1.place.toList,k≤t.mask)∧(t.put j).1.dummies=#[] ∧
   (∀q∈(t.put j).1.place.toList.zip (SetTable.insertAt es (SetTable.below t.place j) (h,x)).toList,Reach t.mask (·∈(t.put j).1.place.toList) q.2.1 q.1):=by
 have hsz:=I.size
 have hnd:(if SetTable.has t.dummies j then SetTable.eraseAt t.dummies (SetTable.below t.dummies j)else t.dummies)=#[]:=by
  rw[I.dm];rfl
 have hmem:∀k,k∈(SetTable.insertAt t.place (SetTable.below t.place j) j).toList↔k∈t.place.toList∨k=j:=fun k=>by
  rw[(akL t.place (SetTable.below t.place j) j).mem_iff,alz,ahZ,aiz]
 refine⟨?_,?_,O1 I.up hj,fun k hk=>?_,hnd,fun q hq=>?_⟩
 ·rw[←ahO,(akL ..).length_eq];simp
 ·show(SetTable.insertAt t.place (SetTable.below t.place j) j).size=_
  rw[←ahO,(akL ..).length_eq];simp[hsz]
 ·rcases(hmem k).mp hk with q|rfl
  ·exact I.le k q
  ·exact hle
 ·rcases NZ hsz q hq with rfl|q'
  ·exact hr.mono fun k hk=>(hmem k).mpr (.inl hk)
  ·exact(I.reach q q').mono fun k hk=>(hmem k).mpr (.inl hk)
theorem uC(m:Nat):∀(k:Nat) (p:Pb),k≤p.more→cX m k p={p with j:=p.j+k,more:=p.more-k}
 |0,p,_=>rfl
 |k+1,p,h=>by
  have ha:fP m p={p with j:=p.j+1,more:=p.more-1}:=by unfold fP;rw[if_pos (by omega)]
  show cX m k (fP m p)=_
  rw[ha,uC m k _ (by dsimp only;omega)]
  dsimp only
  congr 1<;>omega
theorem B3(m i q:Nat):cX m (SetTable.runEnd m i-i+1) (jV m i q)=jV m ((i*5+1+q/32) % (m+1)) (q/32):=by
 rw[ly m _ 1,uC m (SetTable.runEnd m i-i) (jV m i q) (aho _)]
 show fP m _=_
 unfold fP jV
 dsimp only
 rw[if_neg (by omega)]
theorem HG(m i:Nat):SetTable.runEnd m i-i≤9:=by unfold SetTable.runEnd;split<;>omega
theorem AV(m i:Nat):i≤SetTable.runEnd m i:=by unfold SetTable.runEnd;split<;>omega
theorem Le{mask:Nat}{owner:Array (Option Nat)}:∀(fuel i q j:Nat),SetTable.layClean.free mask owner fuel i q=some j →
  ∃n,n<10*fuel∧(cX mask n (jV mask i q)).j=j∧∀k,k<n→owner.getD (cX mask k (jV mask i q)).j (some 0)≠none
 |0,i,q,j,h=>by cases h
 |fuel+1,i,q,j,h=>by
  have h9:=HG mask i
  have hg:=AV mask i
  unfold SetTable.layClean.free at h
  cases hr:(List.range (SetTable.runEnd mask i+1-i)).find? (fun k=>(owner.getD (i+k) (some 0)).isNone)with
  |some k =>
   rw[hr]at h
   dsimp only at h
   cases h
   have hk:=ahn.mp (alA hr)
   refine⟨k,by omega,?_,fun k' hk'=>?_⟩
   ·rw[uC mask k _ (by show k≤SetTable.runEnd mask i-i;omega)]
    rfl
   ·rw[uC mask k' _ (by show k'≤SetTable.runEnd mask i-i;omega)]
    show owner.getD (i+k') (some 0)≠none
    intro e
    have hb:=alB.mp hr
    obtain⟨_,n,hn,en,abe⟩:=hb
    have en':n=k:=by simpa using en
    have:=abe k' (by omega)
    simp[e]at this
  |none =>
   rw[hr]at h
   dsimp only at h
   have h:SetTable.layClean.free mask owner fuel ((i*5+1+q/32) % (mask+1)) (q/32)=some j:=h
   obtain⟨n,hn,ej,hl⟩:=Le fuel _ _ j h
   have hno:=aj4.mp hr
   refine⟨SetTable.runEnd mask i-i+1+n,by omega,?_,fun k hk=>?_⟩
   ·rw[ly,B3];exact ej
   ·by_cases hk2:k≤SetTable.runEnd mask i-i
    ·rw[uC mask k _ hk2]
     show owner.getD (i+k) (some 0)≠none
     intro e
     have:=hno k (ahn.mpr (by omega))
     simp[e]at this
    ·rw[show k=SetTable.runEnd mask i-i+1+(k-(SetTable.runEnd mask i-i+1)) by omega,ly,B3]
     exact hl _ (by omega)
structure vU (mask:Nat) (owner:Array (Option Nat)) (hs:List Int) (k:Nat):Prop where
 lay:Nd mask owner k
 way:∀j i,owner.toList.getD j none=some i→∃h,hs[i]? = some h∧Reach mask (fun s=>owner.getD s (some 0)≠none) h j
theorem UW{mask:Nat}{owner:Array (Option Nat)}{k:Nat}(I:Nd mask owner k) {s:Nat}(h:s≤mask):(owner.getD s (some 0)≠none)↔(owner.toList.getD s none≠none):=by
 have h1:=I.1
 rw[nI]
 have hs:s<owner.toList.length:=by omega
 rw[ahr,ahr,ahy hs]
 rfl
theorem Zj{mask:Nat}{owner:Array (Option Nat)}{hs:List Int}{k:Nat}{h:Int}(hm:rF mask) (hc:qc h) (I:vU mask owner hs k) (hk:k≤mask) (hh:hs[k]? = some h) :
  ∃j,SetTable.layClean.free mask owner (SetTable.turns mask) (SetTable.bits h % (mask+1)) (SetTable.bits h)=some j∧vU mask (owner.setIfInBounds j (some k)) hs (k+1):=by
 obtain⟨h1,h2⟩:=I.lay
 have hex:∃j,j≤mask∧owner.getD j (some 0)=none:=by
  by_cases q:∃j,j≤mask∧owner.getD j (some 0)=none
  ·exact q
  ·have:=Ls owner.toList fun j hj e=>q ⟨j,by omega,by rw[nI];exact e⟩
   have h3:=h2.length_eq
   rw[ajE]at h3
   omega
 obtain⟨j,e,e1⟩:=JZ (mask+15) _ _ 0 (SetTable.turns mask) (hc.lay mask hm) (aho _) (fun k _ hb=>by simp at hb) hex
 obtain⟨n,hn,ej,hl⟩:=Le _ _ _ _ e
 rw[nI]at e1
 have hj:j<owner.toList.length:=by
  rcases ais j owner.toList.length with q|q
  ·exact q
  ·rw[ahr,ai6 q]at e1;cases e1
 have grow:∀s,owner.getD s (some 0)≠none→(owner.setIfInBounds j (some k)).getD s (some 0)≠none:=fun s hs=>by
  rw[nI,akM,ahr,aj5]
  split
  ·first|(split<;>simp)|simp
  ·rw[nI,ahr]at hs
   exact hs
 refine⟨j,e,⟨⟨by simpa using h1,?_⟩,fun s i hs=>?_⟩⟩
 ·rw[akM]
  refine(Lp _ j k hj e1).trans ?_
  rw[akN]
  exact(h2.cons k).trans (akO k _).symm
 ·rw[akM,ahr,aj5]at hs
  by_cases q:j=s
  ·subst q
   rw[if_pos rfl,if_pos hj]at hs
   have:k=i:=by simpa using hs
   subst this
   exact⟨h,hh,n,by unfold SetTable.turns at hn;exact hn,ej,fun k' hk'=>grow _ (hl k' hk')⟩
  ·rw[if_neg q]at hs
   obtain⟨h',q1,q2⟩:=I.way s i (by rw[ahr];exact hs)
   exact⟨h',q1,q2.mono grow⟩
theorem J0{mask:Nat}(hm:rF mask) (all:List Int):∀(hs:List Int) (owner:Array (Option Nat)) (k:Nat),(∀h∈hs,qc h)→vU mask owner all k→k+hs.length≤mask→(∀i,hs[i]? = all[k+i]?∨hs.length≤i) →
  ∃ow,hs.foldl (fun acc h=>(do
   let(owner,k) ←acc
   let j ←SetTable.layClean.free mask owner (SetTable.turns mask) (SetTable.bits h % (mask+1)) (SetTable.bits h)
   pure (owner.setIfInBounds j (some k),k+1):Option (Array (Option Nat)×Nat))) (some (owner,k))=some (ow,k+hs.length)∧vU mask ow all (k+hs.length)
 |[],owner,k,_,I,_,_=>⟨owner,rfl,I⟩
 |h::hs,owner,k,hh,I,hl,hat=>by
  simp only[ahu]at hl
  have h0:all[k]? = some h:=by
   rcases hat 0 with q|q
   ·rw[ai4]at q;rw[←q];rfl
   ·simp at q
  obtain⟨j,e,I'⟩:=Zj hm (hh h (.head _)) I (by omega) h0
  obtain⟨ow,e',Gr⟩:=J0 hm all hs _ (k+1) (fun h x=>hh h (.tail _ x)) I' (by omega) fun i=>by
   rcases hat (i+1)with q|q
   ·left;rw[show k+1+i=k+(i+1) by omega,←q];rfl
   ·right;simpa using q
  refine⟨ow,?_,by rw[ahu,show k+(hs.length+1)=k+1+hs.length by omega];exact Gr⟩
  rw[ajx,ahu,show k+(hs.length+1)=k+1+hs.length by omega,←e']
  congr 1
  show(do let j ←SetTable.layClean.free mask owner (SetTable.turns mask) (SetTable.bits h % (mask+1)) (SetTable.bits h);pure (owner.setIfInBounds j (some k),k+1):Option (Array (Option Nat)×Nat))=_
  rw[e]
  rfl
theorem Zk{mask:Nat}(hm:rF mask) (hs:Array Int) (hh:∀h∈hs.toList,qc h) (hl:hs.toList.length≤mask) :
  ∃ow,SetTable.layClean mask hs=some ow∧vU mask ow hs.toList hs.toList.length:=by
 obtain⟨ow,e,I⟩:=J0 hm hs.toList hs.toList (Array.replicate (mask+1) none) 0 hh ⟨⟨by simp,by simp⟩,fun j i h=>by
  rw[Array.toList_replicate,ahr,ald]at h
  split at h<;>cases h⟩ (by omega) fun i=>.inl (by rw[ahM])
 rw[ahM]at e I
 refine⟨ow,?_,I⟩
 unfold SetTable.layClean
 rw[←Array.foldl_toList]
 exact congrArg (Option.map (fun x:Array (Option Nat)×Nat=>x.1)) e
theorem Sd{t:SetTable}{es:Array (Int×Value)}(hh:∀e∈es.toList,qc e.1) (hm:es.size=5∨es.size=19) :
  ∃t2 order,t.relaid (es.map (·.1)) (SetTable.grown es.size)=some (t2,order)∧(order.filterMap (es[·]?)).size=es.size∧jI t2 (order.filterMap (es[·]?))∧t2.led=t.led∧(order.filterMap (es[·]?)).toList.Perm es.toList:=by
 have hw:∃m,SetTable.sizeAbove (SetTable.grown es.size)-1=m∧((m=31∧es.size=5)∨(m=127∧es.size=19)):=by
  rcases hm with e|e
  ·rw[e];exact⟨31,by decide,.inl ⟨rfl,rfl⟩⟩
  ·rw[e];exact⟨127,by decide,.inr ⟨rfl,rfl⟩⟩
 obtain⟨m,ew,hq⟩:=hw
 have hs:(es.map (·.1)).toList=es.toList.map (·.1):=by simp
 have hok:rF m:=by unfold rF;omega
 have DC:∀h∈(es.map (·.1)).toList,qc h:=fun h hx=>by
  rw[hs,ahs]at hx
  obtain⟨y,hy,rfl⟩:=hx
  exact hh y hy
 have hln:(es.map (·.1)).toList.length≤m:=by rw[hs,ahx,ahO];omega
 obtain⟨ow,e,⟨h1,h2⟩,aaK⟩:=Zk hok (es.map (·.1)) DC hln
 rw[hs,ahx,ahO]at h2
 let live:List (Nat×Nat):=(List.range (m+1)).filterMap fun j=>(ow.getD j none).map (j,·)
 have hlive:∀q:Nat×Nat,q∈live↔q.1≤m∧ow.toList.getD q.1 none=some q.2:=fun q=>by
  simp only[live,akl,ahn]
  constructor
  ·rintro ⟨c,hc,e⟩
   cases ha:ow.getD c none<;>rw[ha]at e<;>simp at e
   subst e
   exact⟨by show c≤m;omega,by rw[←nI];exact ha⟩
  ·rintro ⟨h1,h2⟩
   exact⟨q.1,by omega,by rw[nI,h2];rfl⟩
 have hord:(live.map (·.2)).Perm (List.range es.size):=by
  have:live.map (·.2)=ow.toList.filterMap id:=by
   simp only[live]
   rw[←Sg,h1,List.map_filterMap]
   congr 1
   funext j
   rw[nI]
   cases ow.toList.getD j none<;>rfl
  rw[this];exact h2
 have hup:Up (live.map (·.1)):=by
  show List.Pairwise _ _
  rw[akP]
  refine List.Pairwise.filterMap _ (fun a a' hlt b hb b' hb'=>?_) alC
  cases ha:ow.getD a none<;>rw[ha]at hb<;>simp at hb
  cases ha':ow.getD a' none<;>rw[ha']at hb'<;>simp at hb'
  rw[←hb,←hb']
  exact hlt
 have hlen:live.length=es.size:=by
  have:=hord.length_eq
  simpa using this
 have hes:(((live.map (·.2)).toArray).filterMap (es[·]?)).toList.Perm es.toList:=by
  rw[alD]
  exact(hord.filterMap _).trans (by rw[filterMap_getElem?_range])
 have vc:(((live.map (·.2)).toArray).filterMap (es[·]?)).size=es.size:=by
  rw[←ahO,hes.length_eq,ahO]
 have hlt:∀q∈live,q.2<es.size:=fun q hq=>ahn.mp (hord.mem_iff.mp (ahs.mpr ⟨q,hq,rfl⟩))
 have hfm:∀(l:List (Nat×Nat)),(∀q∈l,q.2<es.size)→(l.map (·.2)).filterMap (es[·]?)=l.map fun q=>es.toList.getD q.2 (0,.none):=by
  intro l
  induction l with
  |nil=>intro _;rfl
  |cons q l ih =>
   intro hq
   have hq0:q.2<es.size:=hq q (.head _)
   rw[ahv,aju,ahv,ih fun y hy=>hq y (.tail _ hy)]
   have:es[q.2]? = some (es.toList.getD q.2 (0,.none)):=by
    rw[←aie,ahr,ahy (by simpa using hq0)]
    rfl
   rw[this]
 refine⟨{mask:=m,place:=(live.map (·.1)).toArray,dummies:=#[],finger:=t.finger,led:=t.led,moves:=t.movedTo m,plain:=t.plain},(live.map (·.2)).toArray,?_,vc,⟨?_,?_,?_,rfl,?_,?_⟩,rfl,hes⟩
 ·unfold SetTable.relaid SetTable.laid
  rw[ew,e]
  rfl
 ·show((live.map (·.1)).toArray).size=_
  rw[vc,aht,ahx,hlen]
 ·exact hup
 ·intro j hj
  have hj:j∈live.map (·.1):=hj
  obtain⟨q,hq,rfl⟩:=ahs.mp hj
  exact((hlive q).mp hq).1
 ·rw[vc]
  exact .inr (by show(m=31∧_)∨(m=127∧_);omega)
 ·intro q hq
  have hq:q∈(live.map (·.1)).zip (((live.map (·.2)).toArray).filterMap (es[·]?)).toList:=hq
  rw[alD]at hq
  have hq:q∈(live.map (·.1)).zip ((live.map (·.2)).filterMap (es[·]?)):=hq
  rw[hfm live hlt,List.zip_map',ahs]at hq
  obtain⟨⟨j,i⟩,hji,rfl⟩:=hq
  obtain⟨Dy,hjo⟩:=(hlive (j,i)).mp hji
  obtain⟨h,hi,hr⟩:=aaK j i hjo
  have hil:=hlt (j,i) hji
  have:h=(es.toList.getD i (0,.none)).1:=by
   rw[hs,ahP,ahy (by simpa using hil)]at hi
   rw[ahr,ahy (by simpa using hil)]
   simpa using hi.symm
  subst this
  obtain⟨n,hn,ej,hl⟩:=hr
  refine⟨n,hn,ej,fun k hk=>?_⟩
  have hle:=MW m (es.toList.getD i (0,.none)).1 k
  have:=(UW (k:=es.size) ⟨h1,h2⟩ hle).mp (hl k hk)
  show cT m _ k∈live.map (·.1)
  cases ho:ow.toList.getD (cT m (es.toList.getD i (0,.none)).1 k) none with
  |none=>exact absurd ho this
  |some i'=>exact ahs.mpr ⟨(_,i'),(hlive (_,i')).mpr ⟨hle,ho⟩,rfl⟩
end L2
namespace L2
open PySem
def fX(w:World):Bool:=w.params.followText "set-order"
section
variable {prog:Program}{w:World}{A:Around}{E:Value→Shared→Prop}{s:Shared}
theorem HV{h:Heap}{a:Addr}{o:Obj}{es es':Array (Int×Value)}{ep:Nat}{t t':SetTable}(ho:h.get? a=some o) (hd:o.data=.set es ep t) :
  (h.update a (Obj.putSet es' t')).get? a=some {o with data:=.set es' (ep+1) t'}:=by
 have:=ajw (Obj.putSet es' t') ho (by rw[putSet_of es' t' hd];rfl)
 rwa[putSet_of es' t' hd]at this
end
end L2
namespace L2
open PySem PySem.Spec PyProof.Rows
section
variable {prog:Program}{w:World}{A:Around}{s:Shared}{E:Value→Shared→Prop}
def je(w:World):Obj:={cls:=.type "set",dict:=none,data:=.set #[] 0 (.fresh 0 0 (!fX w))}
theorem Rj(a:Value) {Q₁:Value→Shared→Prop}(h:Q₁ (.ref s.heap.objs.size) {s with heap:=s.heap.push (je w)}) :
  codeAny (model prog w) A (.call (.builtin "set.__new__") ⟨[.type "set",a],[]⟩) (wants Q₁ E) s:=by
 refine codeAny_of_tree (show wpAny _ A.in1 (do checkBuiltinCall "set.__new__" ⟨[.type "set",a],[]⟩;again (.builtin "set.__new__" ⟨[.type "set",a],[]⟩)) _ _ s from ?_)
 refine ahk (ajz (PySem.F.newCall_set_1 a) (ahl ⟨plainId_quiet alE _,ajp PySem.F.entry_set_new ?_⟩))
 rw[akQ alE _]
 unfold Builtin.«set.__new__» Builtin.Frozenset.newClass
 have hsub:=sub_set_self
 obtain⟨hp,g,d,tk,os⟩:=s
 dsimp only;wp_walk
 refine ajF (ahl ?_)
 dsimp only;simp only[newObj]
 exact ahk (wpAny_alloc (ahl (ahl h)))
set_option maxHeartbeats 3200000 in
end
end L2
namespace L2
open PySem PySem.Spec PyProof.Rows
section
variable {X:Cx}{pins:List (Addr×Obj)}{σ:St}{H:Hp}{s:Shared}{a:Addr}{y v:V}{u r:Value}{o:Option V}{A:Around}{E:Value→Shared→Prop}
theorem ac8{h':Heap}{t':Nat}{ob:HO}(I:Inv X pins σ H s) (mu:vS (H a)) (hs:Heap.SameBut a s.heap h') (he:∃q,h'.get? a=some q) (new:eS X.prog X.w (upd H a ob) h' a ob) :
  Inv X pins σ (upd H a ob) {s with heap:=h',toks:=t'} :=
 I.write (x:=a) (e:=a) mu (.inl rfl) (fun b q hb z=>(hs.2 b hb).trans z) he new
end
end L2
namespace L2
open PySem PySem.Spec PyProof.Rows
def hT(ks:List Int):Int:=reduceHash (Builtin.Tuple.tupleHashOf (ks.map hashInt))
def hP(n:Nat):Int:=hT [((n/8:Nat):Int),((n % 8:Nat):Int)]
end L2
namespace L2
open PySem
def lp(m:Nat) (p:Nat×Nat):Nat×Nat:=((p.1*5+1+p.2/32) % (m+1),p.2/32)
def fC(m:Nat):Nat→Nat×Nat→Nat×Nat
 |0,p=>p
 |n+1,p=>fC m n (lp m p)
theorem BR(m:Nat):∀(a b:Nat) (p:Nat×Nat),fC m (a+b) p=fC m b (fC m a p)
 |0,b,p=>by rw[ahM];rfl
 |a+1,b,p=>by
  rw[show a+1+b=(a+b)+1 by omega]
  exact BR m a b (lp m p)
theorem Jz(m:Nat):∀(n:Nat) (p:Nat×Nat),(fC m n p).2=p.2/32^n
 |0,p=>by simp[fC]
 |n+1,p=>by
  show(fC m n (lp m p)).2=_
  rw[Jz m n]
  show p.2/32/32^n=_
  rw[Nat.div_div_eq_div_mul,Nat.pow_succ,Nat.mul_comm]
theorem Y4(m:Nat) {n:Nat}(hn:0<n) (p:Nat×Nat):(fC m n p).1≤m:=by
 cases n with
 |zero=>omega
 |succ n =>
  rw[BR m n 1]
  have:(((fC m n p).1*5+1+(fC m n p).2/32) % (m+1))<m+1:=aiQ _ (by omega)
  show((fC m n p).1*5+1+(fC m n p).2/32) % (m+1)≤m
  omega
theorem Jy(m:Nat):∀(n i q:Nat),∃K,K≤10*n∧cX m K (jV m i q)=jV m (fC m n (i,q)).1 (fC m n (i,q)).2
 |0,i,q=>⟨0,by omega,rfl⟩
 |n+1,i,q=>by
  obtain⟨K,hK,e⟩:=Jy m n ((i*5+1+q/32) % (m+1)) (q/32)
  have h9:=HG m i
  refine⟨SetTable.runEnd m i-i+1+K,by omega,?_⟩
  rw[ly,B3,e]
  rfl
def Bd(m:Nat):Nat→Nat→Nat→Nat
 |0,_,acc=>acc
 |n+1,i,acc=>Bd m n ((i*5+1) % (m+1)) (acc |||(1 <<< i))
theorem Iu(m:Nat):∀(n i acc s:Nat),(Bd m n i acc).testBit s=true→acc.testBit s=true∨∃t,t<n∧(fC m t (i,0)).1=s
 |0,i,acc,s,h=>.inl h
 |n+1,i,acc,s,h=>by
  rcases Iu m n _ _ s h with h|⟨t,ht,e⟩
  ·rw[MN]at h
   rcases ajU _ _▸h with h|h
   ·exact .inl h
   ·exact .inr ⟨0,by omega,(of_decide_eq_true h).symm⟩
  ·refine .inr ⟨t+1,by omega,?_⟩
   show(fC m t (lp m (i,0))).1=s
   rw[←e]
   have:lp m (i,0)=((i*5+1) % (m+1),0):=by simp[lp]
   rw[this]
def xB(m:Nat):Bool:=(List.range (m+1)).all fun i=>Nat.beq (Bd m (m+1) i 0) (2^(m+1)-1)
theorem U1:xB 7=true:=by decide +kernel
theorem U3:xB 31=true:=by decide +kernel
theorem U4:xB 127=true:=by decide +kernel
theorem U0{m:Nat}(h:oR m) {i s:Nat}(hi:i≤m) (hs:s≤m):∃t,t<m+1∧(fC m t (i,0)).1=s:=by
 have ha:xB m=true:=by
  rcases h with rfl|rfl|rfl
  ·exact U1
  ·exact U3
  ·exact U4
 have:=aiL.mp ha i (ahn.mpr (by omega))
 have e:=Nat.eq_of_beq_eq_true this
 rcases Iu m (m+1) i 0 s (by rw[e,ajD];exact decide_eq_true (by omega))with h|h
 ·simp at h
 ·exact h
theorem aet(h:Int):SetTable.bits h<2^64:=by
 unfold SetTable.bits
 have h1:=ajG h (show(2^64:Int)≠0 by decide)
 have h2:=ajH h (show(0:Int)<2^64 by decide)
 omega
theorem M0{m:Nat}(hm:oR m) (h:Int) {s:Nat}(hs:s≤m):∃t,t<m+15∧(fC m t (SetTable.bits h % (m+1),SetTable.bits h)).1=s:=by
 have hb:=aet h
 have h13:(fC m 13 (SetTable.bits h % (m+1),SetTable.bits h)).2=0:=by
  rw[Jz]
  exact Nat.div_eq_of_lt (by show SetTable.bits h<32^13;exact ahD hb (by decide))
 have hi:=Y4 m (n:=13) (by decide) (SetTable.bits h % (m+1),SetTable.bits h)
 obtain⟨t,ht,e⟩:=U0 hm hi hs
 refine⟨13+t,by omega,?_⟩
 rw[BR,←e,←h13]
theorem MZ{m:Nat}(hm:oR m) (h:Int) {s:Nat}(hs:s≤m):∃k,k<10*(m+15)∧cT m h k=s:=by
 obtain⟨t,ht,e⟩:=M0 hm h hs
 obtain⟨K,hK,eK⟩:=Jy m t (SetTable.bits h % (m+1)) (SetTable.bits h)
 refine⟨K,by omega,?_⟩
 unfold cT gu
 rw[eK]
 exact e
theorem Ld{m a:Nat}(ha:a<2^(m+1)) (h:∀s,s≤m→a.testBit s=true):a=2^(m+1)-1:=by
 apply Nat.eq_of_testBit_eq
 intro s
 rw[ajD]
 by_cases q:s<m+1
 ·rw[h s (by omega),decide_eq_true q]
 ·rw[decide_eq_false q]
  exact Nat.testBit_lt_two_pow (ahD ha (alF (by decide) (by omega)))
theorem Iw{a b m:Nat}(ha:a<2^m) (hb:b<2^m):a |||b<2^m:=Nat.or_lt_two_pow ha hb
theorem Rf{j m:Nat}(h:j≤m):1 <<< j<2^(m+1):=by
 rw[alu]
 exact Nat.pow_lt_pow_right (by decide) (by omega)
theorem LL{m:Nat}:∀(n:Nat) (p:Pb) (acc:Nat),1≤n→p.j+p.more≤m→acc<2^(m+1)→(∀s,s≤m→acc.testBit s=false→∃k,k<n∧(cX m k p).j=s)→vI m n p.j p.more p.i p.perturb acc=true
 |0,_,_,h,_,_,_=>by omega
 |n+1,p,acc,_,hp,ha,hh=>by
  have ha':acc |||(1 <<< p.j)<2^(m+1):=Iw ha (Rf (by omega))
  unfold vI
  by_cases e:acc |||(1 <<< p.j)=2^(m+1)-1
  ·rw[if_pos e]
  ·rw[if_neg e]
   have hx:∃s,s≤m∧(acc |||(1 <<< p.j)).testBit s=false:=aia fun q=>e (Ld ha' fun s hs=>by
    cases hb:(acc |||(1 <<< p.j)).testBit s with
    |true=>rfl
    |false=>exact absurd ⟨s,hs,hb⟩ q)
   have key:∀s,s≤m→(acc |||(1 <<< p.j)).testBit s=false→∃k,k<n∧(cX m k (fP m p)).j=s:=fun s hs hb=>by
    rw[MN]at hb
    have hb':=alG.mp hb
    obtain⟨k,hk,ek⟩:=hh s hs hb'.1
    cases k with
    |zero =>
     have:s=p.j:=ek.symm
     have h2:=hb'.2
     rw[this]at h2
     simp at h2
    |succ k=>exact⟨k,by omega,ek⟩
   obtain⟨s0,hs0,hb0⟩:=hx
   obtain⟨k0,hk0,_⟩:=key s0 hs0 hb0
   have ih:=LL n (fP m p) (acc |||(1 <<< p.j)) (by omega) (M5 hp) ha' key
   unfold fP at ih
   by_cases hm:p.more>0
   ·rw[if_pos hm]at ih ⊢
    exact ih
   ·rw[if_neg hm]at ih ⊢
    exact ih
theorem RV(m i:Nat):((2^(SetTable.runEnd m i+1-i)-1) <<< i).testBit i=true:=by
 have:=AV m i
 rw[alv,ajD]
 simp
 omega
theorem RT{m i:Nat}(hi:i≤m):(2^(SetTable.runEnd m i+1-i)-1) <<< i<2^(m+1):=by
 have hr:SetTable.runEnd m i≤m:=by unfold SetTable.runEnd;split<;>omega
 have hg:=AV m i
 rw[Nat.shiftLeft_eq]
 have h1:(2^(SetTable.runEnd m i+1-i)-1)*2^i<2^(SetTable.runEnd m i+1-i)*2^i:=Nat.mul_lt_mul_of_pos_right (Nat.sub_lt (aj6 _) (by decide)) (aj6 i)
 rw[←Nat.pow_add]at h1
 exact ahD h1 (alF (by decide) (by omega))
theorem LM{m:Nat}:∀(n i q acc:Nat),1≤n→i≤m→acc<2^(m+1)→(∀s,s≤m→acc.testBit s=false→∃t,t<n∧(fC m t (i,q)).1=s)→pR m n i q acc=true
 |0,_,_,_,h,_,_,_=>by omega
 |n+1,i,q,acc,_,hi,ha,hh=>by
  have ha':acc |||((2^(SetTable.runEnd m i+1-i)-1) <<< i)<2^(m+1):=Iw ha (RT hi)
  unfold pR
  by_cases e:acc |||((2^(SetTable.runEnd m i+1-i)-1) <<< i)=2^(m+1)-1
  ·rw[if_pos e]
  ·rw[if_neg e]
   have hx:∃s,s≤m∧(acc |||((2^(SetTable.runEnd m i+1-i)-1) <<< i)).testBit s=false:=aia fun q=>e (Ld ha' fun s hs=>by
    cases hb:(acc |||((2^(SetTable.runEnd m i+1-i)-1) <<< i)).testBit s with
    |true=>rfl
    |false=>exact absurd ⟨s,hs,hb⟩ q)
   have key:∀s,s≤m→(acc |||((2^(SetTable.runEnd m i+1-i)-1) <<< i)).testBit s=false→∃t,t<n∧(fC m t ((i*5+1+q/32) % (m+1),q/32)).1=s:=fun s hs hb=>by
    rw[akJ]at hb
    have hb':=alG.mp hb
    obtain⟨k,hk,ek⟩:=hh s hs hb'.1
    cases k with
    |zero =>
     have:s=i:=ek.symm
     have h2:=hb'.2
     rw[this,RV]at h2
     cases h2
    |succ k=>exact⟨k,by omega,ek⟩
   obtain⟨s0,hs0,hb0⟩:=hx
   obtain⟨k0,hk0,_⟩:=key s0 hs0 hb0
   exact LM n _ _ _ (by omega) (by have:=aiQ (i*5+1+q/32) (show 0<m+1 by omega);omega) ha' key
theorem adS(h:Int):qc h where
 go:=fun m hm=>LL (10*(m+15)) (gu m h) 0 (by omega) (Hq m h) (aj6 _) fun s hs _=>MZ hm h hs
 lay:=fun m hm=>by
  have hm':oR m:=hm.elim (fun e=>.inr (.inl e)) fun e=>.inr (.inr e)
  exact LM (m+15) _ _ 0 (by omega) (by have:=aiQ (SetTable.bits h) (show 0<m+1 by omega);omega) (aj6 _) fun s hs _=>M0 hm' h hs
end L2
namespace L2
open PySem PySem.Spec PyProof.Rows
abbrev Lk:=Int×List Int
def cA(P:Program) (w:World) (Y:Addr→Prop) (h:Heap) (k:Lk) (x:Addr):Prop:=∃o n t y,Y x∧Y y∧h.get? x=some o∧o.cls=.type "tuple"∧o.data=.seq #[.int k.1 t,.ref y] n∧IsTupleKey (intKind P w) h k.2 y
def hL(k:Lk):Int:=reduceHash (Builtin.Tuple.tupleHashOf [hashInt k.1,hT k.2])
section
variable {prog:Program}{w:World}{A:Around}{E:Value→Shared→Prop}{s:Shared}{Y:Addr→Prop}
theorem afh.at{h h':Heap}{k:List Int}{y:Addr}(x:IsTupleKey (intKind prog w) h k y) (e:∀o,h.get? y=some o→h'.get? y=some o):IsTupleKey (intKind prog w) h' k y :=
 let⟨o,it,n,h1,r⟩:=x;⟨o,it,n,e o h1,r⟩
theorem cA.at{h h':Heap}{k:Lk}{x:Addr}(z:cA prog w Y h k x) (e:∀b,Y b→∀o,h.get? b=some o→h'.get? b=some o):cA prog w Y h' k x :=
 let⟨o,n,t,y,y1,y2,h1,h2,h3,h4⟩:=z
 ⟨o,n,t,y,y1,y2,e x y1 o h1,h2,h3,afh.at h4 (e y y2)⟩
theorem cA.typeIs{k:Lk}{x:Addr}(z:cA prog w Y s.heap k x):s.TypeIs (.ref x) "tuple":=let⟨o,_,_,_,_,_,h1,h2,_⟩:=z;⟨o,h1,h2⟩
theorem cA.inj{h:Heap}{k k':Lk}{x:Addr}(a:cA prog w Y h k x) (b:cA prog w Y h k' x):k=k':=by
 obtain⟨o,n,t,y,_,_,h1,_,h3,h4⟩:=a
 obtain⟨o',n',t',y',_,_,g1,_,g3,g4⟩:=b
 rw[h1]at g1;cases g1
 rw[h3]at g3
 injection g3 with e _
 have e:=congrArg Array.toList e
 simp only[akR,Value.int.injEq,akS,and_true]at e
 obtain⟨⟨e1,_⟩,e2⟩:=e
 subst e2
 exact Prod.ext e1 (h4.inj g4)
theorem ints_of{ks:List Int}{vs:List Value}(h:ItemsAre (intKind prog w) ks vs):∀v∈vs,∃i t,v=.int i t:=by
 induction h with
 |nil=>intro v hv;cases hv
 |cons q _ ih =>
  intro v hv
  rcases ahm.mp hv with rfl|hv
  ·obtain⟨t,e⟩:=aiV q;exact⟨_,t,e⟩
  ·exact ih v hv
theorem aek{ks:List Int}{x:Addr}{n:Nat}{Q:Bool→Shared→Prop}(hx:IsTupleKey (intKind prog w) s.heap ks x) (h:Q true s):wpAny (model prog w) A (hashByValue (n+1) (.ref x)) Q E s:=by
 obtain⟨o,items,m,h1,h2,h3,h4⟩:=hx
 rw[hashByValue.eq_12]
 refine ahk (aiA (T:="tuple") ⟨o,h1,h2⟩ aiB.lookup ?_)
 dsimp only
 refine ahk (ah9 h1 h3 ?_)
 dsimp only[Option.getD]
 refine ahk ?_
 rw[←aiR]
 refine ajI _ (fun rest r s'=>r.1=none∧s'=s∧∀v∈rest,∃i t,v=.int i t) _ ?_ ?_ _ _ ⟨rfl,rfl,ints_of h4⟩
 ·rintro v rest r s' ⟨hr,rfl,hall⟩
  obtain⟨i,t,rfl⟩:=hall v ahS
  simp only[alH n (x:=.int i t) rfl,plainKind]
  refine ahk (ahl ?_)
  exact ahl ⟨rfl,rfl,fun u u7=>hall u (ahT _ u7)⟩
 ·rintro ⟨r1,r2⟩ s' ⟨hr,rfl,_⟩
  simp only at hr
  subst hr
  exact ahl h
theorem aei{k:Lk}{x:Addr}{Q:Bool→Shared→Prop}(hx:cA prog w Y s.heap k x) (h:Q true s):wpAny (model prog w) A (hashByValue 8 (.ref x)) Q E s:=by
 obtain⟨o,n,t,y,_,_,h1,h2,h3,h4⟩:=hx
 rw[hashByValue.eq_12]
 refine ahk (aiA (T:="tuple") ⟨o,h1,h2⟩ aiB.lookup ?_)
 dsimp only
 refine ahk (ah9 h1 h3 ?_)
 dsimp only[Option.getD]
 refine ahk ?_
 rw[←aiR]
 simp only[aix,aiN]
 simp only[alH 7 (x:=.int k.1 t) rfl,plainKind]
 refine ahk (ahk (ahl ?_))
 refine ahl ?_
 refine ahk (ahk (aek (n:=6) h4 ?_))
 refine ahl ?_
 exact ahl (ahl h)
theorem Xz{ks:List Int}{x:Addr}{n:Nat}{Q:Bool→Shared→Prop}(hx:IsTupleKey (intKind prog w) s.heap ks x) (h:Q false s):wpAny (model prog w) A (ofAClassStatement (n+1) (.ref x)) Q E s:=by
 obtain⟨o,items,m,h1,h2,h3,h4⟩:=hx
 rw[ofAClassStatement.eq_def]
 dsimp only
 refine ahk (wpAny_typeOf_ref h1 ?_)
 rw[h2]
 dsimp only
 simp only[beq_self_eq_true,if_true]
 refine ahk (ahl ?_)
 simp only[ah2,ahC,if_false]
 refine ahk (ah9 h1 h3 ?_)
 dsimp only
 refine ahk ?_
 rw[←aiR]
 refine ajI _ (fun rest r s'=>r.1=none∧s'=s∧∀v∈rest,∃i t,v=.int i t) _ ?_ ?_ _ _ ⟨rfl,rfl,ints_of h4⟩
 ·rintro v rest r s' ⟨hr,rfl,hall⟩
  obtain⟨i,t,rfl⟩:=hall v ahS
  have e1:ofAClassStatement n (.int i t)=pure false:=by rw[ofAClassStatement.eq_def]
  rw[e1]
  refine ahk (ahl ?_)
  exact ahl ⟨rfl,rfl,fun u u7=>hall u (ahT _ u7)⟩
 ·rintro ⟨r1,r2⟩ s' ⟨hr,rfl,_⟩
  simp only at hr
  subst hr
  exact ahl h
theorem Ja{k:Lk}{x:Addr}{Q:Bool→Shared→Prop}(hx:cA prog w Y s.heap k x) (h:Q false s):wpAny (model prog w) A (ofAClassStatement 8 (.ref x)) Q E s:=by
 obtain⟨o,n,t,y,_,_,h1,h2,h3,h4⟩:=hx
 rw[ofAClassStatement.eq_def]
 dsimp only
 refine ahk (wpAny_typeOf_ref h1 ?_)
 rw[h2]
 dsimp only
 simp only[beq_self_eq_true,if_true]
 refine ahk (ahl ?_)
 simp only[ah2,ahC,if_false]
 refine ahk (ah9 h1 h3 ?_)
 dsimp only
 refine ahk ?_
 rw[←aiR]
 simp only[aix,aiN]
 have e1:ofAClassStatement 7 (.int k.1 t)=pure false:=by rw[ofAClassStatement.eq_def]
 rw[e1]
 refine ahk (ahk (ahl ?_))
 refine ahl ?_
 dsimp only
 refine ahk (ahk (Xz (n:=6) h4 ?_))
 refine ahl ?_
 exact ahl (ahl h)
theorem SJ{ks:List Int}{a:Addr}{n:Nat}{Q:Bool→Shared→Prop}(hk:IsTupleKey (intKind prog w) s.heap ks a) (h:Q true s):wpAny (model prog w) A (eqIsQuiet (n+1) (.ref a)) Q E s:=by
 have hT:=hk.typeIs
 obtain⟨o,items,m,ho,_,hd,hi⟩:=hk
 unfold eqIsQuiet
 refine ahk (aiA hT aj7.lookup ?_)
 show wpAny _ _ (isInstance (.ref a) (.type "tuple") >>= _) _ _ s
 refine ahk (aiO hT ajJ ?_)
 simp only[ah2,ahC,if_false]
 refine ahk (ah9 ho hd ?_)
 refine ahk ?_
 show wpAny _ _ (forIn items _ _) _ _ s
 rw[←aiR]
 refine ajI _ (fun rest r s'=>r.1=none∧s'=s∧∀v∈rest,carriedByValue v=true) _ ?_ ?_ _ _ ⟨rfl,rfl,hi.byValue⟩
 ·rintro v rest r s' ⟨hr,rfl,hall⟩
  rw[eqIsQuiet_byValue _ (hall v ahS)]
  refine ahk (ahl ?_)
  simp only[ah2,ahC,if_false]
  exact ahl ⟨rfl,rfl,fun u u7=>hall u (ahT _ u7)⟩
 ·rintro ⟨r1,r2⟩ s' ⟨hr,rfl,_⟩
  simp only at hr
  subst hr
  exact ahl h
theorem A0{k:Lk}{x:Addr}{Q:Bool→Shared→Prop}(hx:cA prog w Y s.heap k x) (h:Q true s):wpAny (model prog w) A (eqIsQuiet 8 (.ref x)) Q E s:=by
 have hT:=hx.typeIs
 obtain⟨o,n,t,y,_,_,h1,h2,h3,h4⟩:=hx
 unfold eqIsQuiet
 refine ahk (aiA hT aj7.lookup ?_)
 show wpAny _ _ (isInstance (.ref x) (.type "tuple") >>= _) _ _ s
 refine ahk (aiO hT ajJ ?_)
 simp only[ah2,ahC,if_false]
 refine ahk (ah9 h1 h3 ?_)
 refine ahk ?_
 show wpAny _ _ (forIn #[Value.int k.1 t,Value.ref y] _ _) _ _ s
 rw[←aiR]
 simp only[aix,aiN]
 rw[eqIsQuiet_byValue _ (v:=.int k.1 t) rfl]
 refine ahk (ahk (ahl ?_))
 refine ahl ?_
 dsimp only
 refine ahk (ahk (SJ (n:=6) h4 ?_))
 refine ahl ?_
 exact ahl (ahl h)
theorem abh{k:Lk}{x:Addr}{Q:Int→Shared→Prop}(hu:A.units+8<cLine) (hx:cA prog w Y s.heap k x) (h:∀tk,s.toks≤tk→Q (hL k) {s with toks:=tk}):wpAny (model prog w) A (pyHash (.ref x)) Q E s:=by
 have hTy:=hx.typeIs
 obtain⟨o,n,t,y,_,_,h1,h2,h3,h4⟩:=hx
 unfold pyHash
 first|unfold pyHashByItsType|skip
 first|refine ahk (wpAny_cRoomFor_or (.inr (by omega)) ?_)|skip
 refine ahk (aiA hTy aiB.lookup ?_)
 show wpAny _ _ (if(some (Value.builtin "tuple.__hash__")==some Value.none)=true then _ else _) Q E s
 rw[if_neg (by rw[beq_builtin_none];exact ahG)]
 refine ahk (aiA hTy aiB.lookup ?_)
 show wpAny _ _ (callSpecialIfBoundUnlessNone? (.ref x) "__hash__" _ >>= _) Q E s
 refine ahk (alI hTy aiB (ah5 aiB hTy F.entry_tuple_hash ?_ (F.args_tuple_hash_1 _)))
 show wpAny _ _ (Builtin.Tuple.tupleItemsOf (.ref x) >>= _) _ _ s
 refine ahk (aiS h1 h3 ?_)
 refine ahk ?_
 rw[←aiR]
 simp only[aix,aiN]
 refine ahk (ahk ((intKind prog w).pyHash (k:=k.1) (by simp[intKind,Value.isInt]) ?_))
 first
  |refine ahl ?_
  |refine ahk (ahl (ahl ?_))
 dsimp only
 refine ahk (ahk ((tupleKind (intKind prog w)).pyHash (k:=k.2) (by show A.units+1<cLine;omega) h4 ?_))
 first
  |refine ahl ?_
  |refine ahk (ahl (ahl ?_))
 refine ahl ?_
 show wpAny _ _ (retInt (Builtin.Tuple.tupleHashOf [hashInt k.1,L2.hT k.2])) _ _ _
 refine wpAny_ret_mkInt ?_
 show wpAny _ _ (if(decide (-(2:Int)^63≤Builtin.Tuple.tupleHashOf [hashInt k.1,L2.hT k.2])&&decide (Builtin.Tuple.tupleHashOf [hashInt k.1,L2.hT k.2]<2^63))=true then _ else _) Q E _
 unfold hL reduceHash at h
 by_cases hr:(decide (-(2:Int)^63≤Builtin.Tuple.tupleHashOf [hashInt k.1,L2.hT k.2])&&decide (Builtin.Tuple.tupleHashOf [hashInt k.1,L2.hT k.2]<2^63))=true
 ·rw[if_pos hr]
  rw[if_pos hr]at h
  exact ahl (h _ (by simp;omega))
 ·rw[if_neg hr]
  rw[if_neg hr]at h
  exact ahk (aiM (ahl (h _ (by simp;omega))))
theorem aco{j k:Lk}{a b:Addr}{P:PySem.Fin→Shared→Prop}(hu:A.units+4<cLine) (hx:cA prog w Y s.heap j a) (hy:cA prog w Y s.heap k b) (h:P (.done (.ret (.bool (decide (j=k))))) s) :
  wpAny (model prog w) A (Builtin.«tuple.__eq__» ⟨[.ref a,.ref b],[]⟩) P E s:=by
 have hTb:=hy.typeIs
 obtain⟨o,n,t,y,_,_,h1,h2,h3,h4⟩:=hx
 obtain⟨o',n',t',y',_,_,g1,g2,g3,g4⟩:=hy
 show wpAny _ _ (isInstance (.ref b) (.type "tuple") >>= _) _ _ s
 refine ahk (aiO hTb ajJ ?_)
 simp only[ah2,ahC,if_false]
 refine ahk (aiS h1 h3 ?_)
 refine ahk (aiS g1 g3 ?_)
 refine ahk ?_
 show wpAny _ _ (forIn [(Value.int j.1 t,Value.int k.1 t'),(Value.ref y,Value.ref y')] _ _) _ _ s
 simp only[aix,aiN]
 refine ahk (ahk ((intKind prog w).eqBool (a:=j.1) (b:=k.1) (by simp[intKind,Value.isInt]) (by simp[intKind,Value.isInt]) ?_))
 by_cases e1:j.1=k.1
 ·rw[decide_eq_true e1]
  simp only[ah2,ahC,if_false]
  refine ahl ?_
  dsimp only
  refine ahk (ahk ((tupleKind (intKind prog w)).eqBool (by show A.units<cLine;omega) h4 g4 ?_))
  by_cases e2:j.2=k.2
  ·rw[decide_eq_true e2]
   simp only[ah2,ahC,if_false]
   refine ahl (ahl ?_)
   rw[decide_eq_true (Prod.ext e1 e2)]at h
   exact ahl h
  ·rw[decide_eq_false e2]
   simp only[ai7,if_true]
   rw[decide_eq_false (fun z=>e2 (by rw[z]))]at h
   exact ahk (ahl (ahl (ahl (ahl h))))
 ·rw[decide_eq_false e1]
  simp only[ai7,if_true]
  rw[decide_eq_false (fun z=>e1 (by rw[z]))]at h
  exact ahk (ahl (ahl (ahl (ahl h))))
theorem EB{j k:Lk}{a b:Addr}{Q:Bool→Shared→Prop}(hu:A.units+8<cLine) (hx:cA prog w Y s.heap j a) (hy:cA prog w Y s.heap k b) (h:Q (decide (j=k)) s):wpAny (model prog w) A (eqBool (.ref a) (.ref b)) Q E s:=by
 unfold eqBool
 try with_reducible refine aif ?_
 show wpAny _ _ (if(Value.ref a==Value.ref b)=true then _ else _) Q E s
 by_cases hab:(Value.ref a==Value.ref b)=true
 ·rw[if_pos hab]
  have e:a=b:=by have:=eq_of_beq hab;injection this
  subst e
  obtain rfl:=hx.inj hy
  exact ahk (aiM (ahl (by simpa using h)))
 ·rw[if_neg hab]
  exact ahk (akT (op:=.Eq) hx.typeIs hy.typeIs aj7
   (ah5 aj7 hx.typeIs F.entry_tuple_eq (aco (by show A.units+1+4<cLine;omega) hx hy ⟨_,rfl,(fun e=>nomatch e),aiW h⟩) (F.args_tuple_eq_2 _ _)) (by omega))
end
end L2
namespace L2
open PySem PySem.Spec PyProof.Rows
theorem Ij{α β:Type}{f:α→β}:∀{l:List β}{r:List α},l.Perm (r.map f)→∃l2:List α,l=l2.map f∧l2.Perm r:=by
 intro l r h
 generalize hm:r.map f=m at h
 induction h generalizing r with
 |nil =>
  cases r with
  |nil=>exact⟨[],rfl,.refl _⟩
  |cons a r=>cases hm
 |cons x _ ih =>
  cases r with
  |nil=>cases hm
  |cons a r =>
   rw[ahv]at hm
   injection hm with h1 h2
   obtain⟨l2,e,p⟩:=ih h2
   exact⟨a::l2,by rw[ahv,h1,e],p.cons a⟩
 |swap x y l =>
  cases r with
  |nil=>cases hm
  |cons a r =>
   cases r with
   |nil=>simp at hm
   |cons b r =>
    simp only[ahv]at hm
    injection hm with h1 h2
    injection h2 with h3 h4
    exact⟨b::a::r,by simp only[ahv];rw[h1,h3,h4],.swap a b r⟩
 |trans _ _ ih1 ih2 =>
  obtain⟨l2,e,p⟩:=ih2 hm
  obtain⟨l3,e3,p3⟩:=ih1 e.symm
  exact⟨l3,e3,p3.trans p⟩
end L2
namespace L2
open PySem PySem.Spec PyProof.Rows
def e9(ks:List Lk) (k:Lk):List Lk:=if k∈ks then ks else ks++[k]
abbrev kg(f:Lk→Int) (q:Lk×Addr):Int×Value:=(f q.1,.ref q.2)
def iP(P:Program) (w:World) (f:Lk→Int) (Y:Addr→Prop) (h:Heap) (a:Addr) (ks:List Lk):Prop:=∃o es ep t,∃L:List (Lk×Addr),h.get? a=some o∧o.ExactSet∧o.data=.set es ep t∧jI t es∧t.plain=true∧t.led = !fX w∧es.toList=L.map (kg f)∧(∀q∈L,cA P w Y h q.1 q.2)∧(L.map (·.1)).Perm ks
section
variable {prog:Program}{w:World}{A:Around}{E:Value→Shared→Prop}{s:Shared}{Y:Addr→Prop}
theorem Xw{ks:Lk}{x:Addr}{Q:Bool→Shared→Prop}(hx:cA prog w Y s.heap ks x) (l:List Value) (hl:∀v∈l,∃k y,v=.ref y∧cA prog w Y s.heap k y) (h:Q false s):wpAny (model prog w) A (searchCouldBeSeen (.ref x) l) Q E s:=by
 unfold searchCouldBeSeen
 refine ahk ?_
 have go:∀(l:List Value),(∀v∈l,∃k y,v=.ref y∧cA prog w Y s.heap k y)→∀{R:Option Bool×Unit→Shared→Prop},R (none,()) s→wpAny (model prog w) A (forIn l (none,()) fun y __s =>
    have __r:=__s;
    have OZ :=
     match(Value.ref x),y with
     |Value.ref a,Value.ref b=>a==b
     |x,x_1=>false;
    if(OZ||carriedByValue (.ref x)&&carriedByValue y)=true then pure (ForInStep.yield (none,()))
    else do
     let __do_lift ←eqIsQuiet 8 (.ref x)
     if(!__do_lift)=true then pure (ForInStep.done (some true,()))
      else do
       let __do_lift ←eqIsQuiet 8 y
       if(!__do_lift)=true then pure (ForInStep.done (some true,()))
        else do
         let __do_lift ←ofAClassStatement 8 (.ref x)
         if __do_lift=true then pure (ForInStep.done (some true,()))
          else do
           let __do_lift ←ofAClassStatement 8 y
           if __do_lift=true then pure (ForInStep.done (some true,()))
            else pure (ForInStep.yield (none,()))) R E s:=by
  intro l
  induction l with
  |nil=>intro _ R hR;exact ahl hR
  |cons v l ih =>
   intro hl R hR
   obtain⟨k,y,rfl,hy⟩:=hl _ (.head _)
   have ih:=ih (fun v hv=>hl v (.tail _ hv)) (R:=R)
   rw[aix]
   refine ahk ?_
   dsimp only
   by_cases q:(x==y||carriedByValue (.ref x)&&carriedByValue (.ref y))=true
   ·rw[if_pos q]
    exact ahl (ih hR)
   ·rw[if_neg q]
    refine ahk (A0 hx ?_)
    simp only[ah2,ahC,if_false]
    refine ahk (A0 hy ?_)
    simp only[ah2,ahC,if_false]
    refine ahk (Ja hx ?_)
    simp only[ahC,if_false]
    refine ahk (Ja hy ?_)
    simp only[ahC,if_false]
    exact ahl (ih hR)
 exact go l hl (ahl h)
theorem Ke(m n n':Nat) (p:Pb) (h:n≤n'):cX m (n'-n) (cX m n p)=cX m n' p:=by
 rw[←ly]
 congr 1
 omega
theorem Td{t:SetTable}{es:Array (Int×Value)}{h:Int}{n n' i:Nat}(hn:n≤n') (hf:n'-n<10*(t.mask+15)) (hlive:∀k,n≤k→k<n'→∃i,t.slot (cT t.mask h k)=.live i∧(gX es i==h)=false) (s1:t.slot (cT t.mask h n')=.live i) (s2:gX es i=h) :
  t.probe (gX es) h (cX t.mask n (gu t.mask h))=some (.candidate (cT t.mask h n') i (cX t.mask (n'+1) (gu t.mask h))):=by
 have Dr:=DN (t:=t) (hashAt:=gX es) (h:=h) (n'-n) (10*SetTable.turns t.mask) (cX t.mask n (gu t.mask h)) (by unfold SetTable.turns;omega) fun k hk=>by
  have:=hlive (n+k) (by omega) (by omega)
  unfold cT at this
  rw[ly]at this
  exact this
 obtain⟨f,hf'⟩:∃f,10*SetTable.turns t.mask-(n'-n)=f+1:=⟨10*SetTable.turns t.mask-(n'-n)-1,by unfold SetTable.turns;omega⟩
 show SetTable.probe.go t (gX es) h (10*SetTable.turns t.mask) (cX t.mask n (gu t.mask h))=_
 rw[Dr,hf',Ke _ _ _ _ hn]
 unfold SetTable.probe.go
 have s1:t.slot (cX t.mask n' (gu t.mask h)).j=.live i:=s1
 rw[s1]
 dsimp only
 rw[s2,M6]
 simp only[beq_self_eq_true,if_true]
 rw[ly _ n' 1]
 rfl
theorem Te{t:SetTable}{es:Array (Int×Value)}{h:Int}{n n':Nat}(hn:n≤n') (hf:n'-n<10*(t.mask+15)) (hlive:∀k,n≤k→k<n'→∃i,t.slot (cT t.mask h k)=.live i∧(gX es i==h)=false) (s1:t.slot (cT t.mask h n')=.empty) :
  t.probe (gX es) h (cX t.mask n (gu t.mask h))=some (.empty (cT t.mask h n') none):=by
 have Dr:=DN (t:=t) (hashAt:=gX es) (h:=h) (n'-n) (10*SetTable.turns t.mask) (cX t.mask n (gu t.mask h)) (by unfold SetTable.turns;omega) fun k hk=>by
  have:=hlive (n+k) (by omega) (by omega)
  unfold cT at this
  rw[ly]at this
  exact this
 obtain⟨f,hf'⟩:∃f,10*SetTable.turns t.mask-(n'-n)=f+1:=⟨10*SetTable.turns t.mask-(n'-n)-1,by unfold SetTable.turns;omega⟩
 show SetTable.probe.go t (gX es) h (10*SetTable.turns t.mask) (cX t.mask n (gu t.mask h))=_
 rw[Dr,hf',Ke _ _ _ _ hn]
 unfold SetTable.probe.go
 have s1:t.slot (cX t.mask n' (gu t.mask h)).j=.empty:=s1
 rw[s1]
 dsimp only
 rw[Kf]
 rfl
theorem Qt{t:SetTable}{es:Array (Int×Value)}{j i:Nat}(I:jI t es) (s1:t.slot j=.live i):∃e,es[i]? = some e∧gX es i=e.1∧t.place[i]? = some j:=by
 have hpl:t.place[i]? = some j:=by
  unfold SetTable.slot at s1
  dsimp only at s1
  split at s1
  ·rename_i q
   cases s1
   exact eq_of_beq q
  ·split at s1<;>cases s1
 have hlt:i<t.place.size:=by
  rw[←aie]at hpl
  simpa using(ahz.mp hpl).1
 have Dv:i<es.size:=by rw[←I.size];exact hlt
 refine⟨es[i],ai8 Dv,?_,hpl⟩
 unfold gX
 rw[ai8 Dv]
 rfl
theorem Zg{P:Nat→Prop}{a b:Nat}(hab:a≤b) (hb:P b):∃n,a≤n∧n≤b∧P n∧∀k,a≤k→k<n→¬P k:=by
 obtain⟨k,h1,h2,h3⟩:=least (P:=fun d=>P (a+d)) (b-a) (by rw[show a+(b-a)=b by omega];exact hb)
 exact⟨a+k,by omega,by omega,h2,fun i hi hk hp=>h3 (i-a) (by omega) (by rw[show a+(i-a)=i by omega];exact hp)⟩
theorem abD{t:SetTable}{es:Array (Int×Value)}(I:jI t es):t.gaveWay=false:=by
 unfold SetTable.gaveWay
 rcases I.ok with e|e|e<;>rw[e]<;>rfl
theorem Hy{f:Lk→Int}{a x:Addr}{k:Lk}{o:Obj}{es:Array (Int×Value)}{ep:Nat}{t:SetTable}{L:List (Lk×Addr)}{Q:SetFound→Shared→Prop}(hr:A.units+8<cLine) (ho:s.heap.get? a=some o) (hd:o.data=.set es ep t) (I:jI t es) (hL':es.toList=L.map (kg f)) (hu:∀q∈L,cA prog w Y s.heap q.1 q.2) (hx:cA prog w Y s.heap k x)
  {N:Nat}(hN:N<10*(t.mask+15)) (hb:∀m,m<N→cT t.mask (f k) m∈t.place.toList) (h1:cT t.mask (f k) N∉t.place.toList→Q (.free (cT t.mask (f k) N) false) s)
  (h2:cT t.mask (f k) N∈t.place.toList→(∃i y,t.slot (cT t.mask (f k) N)=.live i∧es[i]? = some (f k,.ref y)∧cA prog w Y s.heap k y)) (h3:∀y,cA prog w Y s.heap k y→(k,y)∈L→Q (.there none) s) :
  ∀(d n fuel:Nat) (stand:Option SetTable.Probe),N-n=d→n≤N→d<fuel→stand.getD (t.probeStart (f k))=cX t.mask n (gu t.mask (f k))→wpAny (model prog w) A (setSearchFrom a (.ref x) (f k) true fuel stand) Q E s:=by
 intro d
 induction d using Nat.strongRecOn with
 |_ d ih =>
  intro n fuel stand hdn hnN hfu hst
  obtain⟨fuel,rfl⟩:∃f,fuel=f+1:=⟨fuel-1,by omega⟩
  unfold setSearchFrom
  refine ahk (aiH ho hd I.fits ?_)
  dsimp only
  rw[abD I]
  simp only[ahC,if_false]
  rw[hst]
  obtain⟨n',hn1,hn2,hp,hmin⟩:=Zg (P:=fun m=>t.slot (cT t.mask (f k) m)=.empty∨∃i,t.slot (cT t.mask (f k) m)=.live i∧gX es i=f k) hnN (by
   by_cases q:cT t.mask (f k) N∈t.place.toList
   ·obtain⟨i,y,s1,s2,_⟩:=h2 q
    refine .inr ⟨i,s1,?_⟩
    unfold gX;rw[s2];rfl
   ·exact .inl (Qs I.dm q))
  have hlive:∀m,n≤m→m<n'→∃i,t.slot (cT t.mask (f k) m)=.live i∧(gX es i==f k)=false:=fun m hm1 hm2=>by
   obtain⟨i,q1,_⟩:=wM I.up (hb m (by omega))
   refine⟨i,q1,?_⟩
   cases hq:gX es i==f k with
   |false=>rfl
   |true=>exact absurd (.inr ⟨i,q1,eq_of_beq hq⟩) (hmin m hm1 hm2)
  rcases hp with hp|⟨i,s1,s2⟩
  ·have lI:=Te hn1 (by omega) hlive hp
   have hNn:n'=N:=aia fun q=>by
    obtain⟨i,q1,_⟩:=wM I.up (hb n' (by omega))
    rw[hp]at q1;cases q1
   subst hNn
   have hnp:cT t.mask (f k) n'∉t.place.toList:=fun q=>by
    obtain⟨i,q1,_⟩:=wM I.up q
    rw[hp]at q1;cases q1
   split
   ·rename_i met heq
    have hm:met=.empty (cT t.mask (f k) n') none:=by
     have:=heq.symm.trans lI
     cases this;rfl
    subst hm
    dsimp only
    exact ahl (h1 hnp)
   ·rename_i hne
    exact absurd lI (hne _)
  ·have lI:=Td hn1 (by omega) hlive s1 s2
   obtain⟨e,he,hae,hpl⟩:=Qt I s1
   have hem:e∈L.map (kg f):=by rw[←hL'];exact ahL (by rw[aie];exact he)
   obtain⟨q,hq,rfl⟩:=ahs.mp hem
   have hy:=hu q hq
   split
   ·rename_i met heq
    have hm:met=.candidate (cT t.mask (f k) n') i (cX t.mask (n'+1) (gu t.mask (f k))):=by
     have:=heq.symm.trans lI
     cases this;rfl
    subst hm
    dsimp only
    simp only[he]
    cases hl:t.led with
    |false =>
     simp only[ai7,if_true]
     refine ahk (Xw hx _ (fun v hv=>?_) ?_)
     ·obtain⟨e,he,rfl⟩:=ahs.mp hv
      have he:e∈es.toList:=by
       have:=Array.mem_filter.mp (akm.mp he)
       exact akm.mpr this.1
      rw[hL']at he
      obtain⟨q',hq',rfl⟩:=ahs.mp he
      exact⟨q'.1,q'.2,rfl,hu q' hq'⟩
     ·simp only[ahC,if_false]
      refine ahk (aif (EB hr hy hx ?_))
      refine ahk (aiH ho hd I.fits ?_)
      by_cases ek:q.1=k
      ·rw[decide_eq_true ek]
       rw[if_pos (by simp)]
       refine ahl (h3 q.2 (ek▸hy) ?_)
       rw[←ek];exact hq
      ·rw[decide_eq_false ek]
       simp only[ajT,ahC,if_false]
       have hsm:t.sameMemory t.moves t.mask=some true:=by unfold SetTable.sameMemory;rw[if_pos (by simp)]
       have hlt:n'<N:=by
        rcases ais n' N with z|z
        ·exact z
        ·exfalso
         have:n'=N:=by omega
         subst this
         have hin:cT t.mask (f k) n'∈t.place.toList:=by
          rw[←aie]at hpl
          exact ahL hpl
         obtain⟨i2,y2,r1,r2,r3⟩:=h2 hin
         rw[s1]at r1
         cases r1
         rw[he]at r2
         simp only[akU,ajq,akS]at r2
         rw[←r2.2]at r3
         exact ek (hy.inj r3)
       have hsame:isSame (.ref q.2) (.ref q.2)=pure true:=by
        unfold isSame
        dsimp only
        rw[if_pos (by simp)]
       simp only[hsm,if_true,s1,he,hsame,pure_bind]
       exact ih (N-(n'+1)) (by omega) (n'+1) fuel _ rfl (by omega) (by omega) rfl
    |true =>
     simp only[ah2,ahC,if_false]
     refine ahk (aif (EB hr hy hx ?_))
     refine ahk (aiH ho hd I.fits ?_)
     by_cases ek:q.1=k
     ·rw[decide_eq_true ek]
      rw[if_pos (by simp)]
      refine ahl (h3 q.2 (ek▸hy) ?_)
      rw[←ek];exact hq
     ·rw[decide_eq_false ek]
      simp only[ajT,ahC,if_false]
      have hsm:t.sameMemory t.moves t.mask=some true:=by unfold SetTable.sameMemory;rw[if_pos (by simp)]
      have hlt:n'<N:=by
       rcases ais n' N with z|z
       ·exact z
       ·exfalso
        have:n'=N:=by omega
        subst this
        have hin:cT t.mask (f k) n'∈t.place.toList:=by
         rw[←aie]at hpl
         exact ahL hpl
        obtain⟨i2,y2,r1,r2,r3⟩:=h2 hin
        rw[s1]at r1
        cases r1
        rw[he]at r2
        simp only[akU,ajq,akS]at r2
        rw[←r2.2]at r3
        exact ek (hy.inj r3)
      have hsame:isSame (.ref q.2) (.ref q.2)=pure true:=by
       unfold isSame
       dsimp only
       rw[if_pos (by simp)]
      simp only[hsm,if_true,s1,he,hsame,pure_bind]
      exact ih (N-(n'+1)) (by omega) (n'+1) fuel _ rfl (by omega) (by omega) rfl
   ·rename_i hne
    exact absurd lI (hne _)
end
end L2
namespace L2
open PySem PySem.Spec PyProof.Rows
theorem Se{t t2:SetTable}{hs:Array Int}{n:Nat}{o:Array Nat}(h:t.relaid hs n=some (t2,o)):t2.plain=t.plain:=by
 unfold SetTable.relaid SetTable.laid at h
 cases hc:SetTable.layClean (SetTable.sizeAbove n-1) hs with
 |none=>rw[hc]at h;cases h
 |some ow =>
  rw[hc]at h
  simp only[Option.bind_eq_bind,Option.bind_some,Option.pure_def,akU,ajq]at h
  rw[←h.1]
section
variable {prog:Program}{w:World}{A:Around}{E:Value→Shared→Prop}{s:Shared}{Y:Addr→Prop}
theorem Ro{f:Lk→Int}{a x:Addr}{ks:List Lk}{k:Lk}{Q:Bool→Shared→Prop}(hr:A.units+8<cLine) (hx:cA prog w Y s.heap k x) (KZ:¬Y a) (hS:iP prog w f Y s.heap a ks) (hn:ks.length<64)
  (h:∀b h',Heap.SameBut a s.heap h'→iP prog w f Y h' a (e9 ks k)→Q b {s with heap:=h'}):wpAny (model prog w) A (setAddHashed a (.ref x) (f k)) Q E s:=by
 have hS0:=hS
 obtain⟨o,es,ep,t,L,ho,hex,hd,I,aaP,pL,hL,hu,hp⟩:=hS
 have hsz:es.size=ks.length:=by
  have:=congrArg List.length hL
  rw[ahx,ahO]at this
  rw[this,←hp.length_eq,ahx]
 unfold setAddHashed setAddHashedIn
 refine aif (ahk (aiH ho hd I.fits ?_))
 dsimp only
 rw[show byScan (.ref x) es=false from rfl]
 simp only[ahC,if_false]
 by_cases hk2:k∈ks
 ·have hkL:k∈L.map (·.1):=hp.mem_iff.mpr hk2
  obtain⟨q,hq,rfl⟩:=ahs.mp hkL
  have he:kg f q∈es.toList:=by rw[hL];exact ahs.mpr ⟨q,hq,rfl⟩
  obtain⟨i0,hi0,ee⟩:=aiq he
  have e1:es.toList[i0]? = some (kg f q):=by rw[ahy hi0,ee]
  have hsz2:t.place.toList.length=es.toList.length:=by simp[I.size]
  obtain⟨j0,hj0⟩:∃j0,t.place.toList[i0]? = some j0:=⟨_,ahy (by omega)⟩
  obtain⟨N,hN,ha0,hl0⟩:=I.reach (j0,kg f q) (N1 hj0 e1)
  have hm0:j0∈t.place.toList:=ahL hj0
  have ha0:cT t.mask (f q.1) N=j0:=ha0
  have hst:e9 ks q.1=ks:=by unfold e9;rw[if_pos hk2]
  rw[hst]at h
  unfold setSearch
  refine ahk (Hy (f:=f) (N:=N) hr ho hd I hL hu hx hN hl0 (fun z=>absurd (ha0▸hm0) z) (fun _=>?_) (fun y hy _=>?_) N 0 100000 none (by omega) (ahY _) ?_ rfl)
  ·obtain⟨i,s1,s2⟩:=wM I.up hm0
   rw[←aie]at s2
   have:=O2 I.up s2 hj0
   subst this
   exact⟨i,q.2,by rw[ha0];exact s1,by rw[←aie];exact e1,hu q hq⟩
  ·exact ahl (h false s.heap (Heap.SameBut.refl a s.heap) hS0)
  ·have:=I.mask;omega
 ·have hsz2:t.place.toList.length=es.toList.length:=by simp[I.size]
  have hM:=I.mask
  have hes:es.toList.length=es.size:=by simp
  have aa8:∃j,j≤t.mask∧j∉t.place.toList:=aia fun q=>by
   have:=Ic (t.mask+1) t.place.toList fun j hj=>aia fun x=>q ⟨j,by omega,x⟩
   omega
  obtain⟨js,hjs,hjn⟩:=aa8
  obtain⟨k0,hk0,ek0⟩:=MZ I.ok (f k) hjs
  obtain⟨N,hN,hs,hmin⟩:=least (P:=fun n=>cT t.mask (f k) n∉t.place.toList) k0 (by rw[ek0];exact hjn)
  have hin:∀m,m<N→cT t.mask (f k) m∈t.place.toList:=fun m hm=>aia fun x=>hmin m hm x
  have hst:e9 ks k=ks++[k]:=by unfold e9;rw[if_neg hk2]
  rw[hst]at h
  unfold setSearch
  refine ahk (Hy (f:=f) (N:=N) hr ho hd I hL hu hx (by omega) hin (fun hj=>?_) (fun z=>absurd z hs) (fun y hy hm=>absurd (hp.mem_iff.mp (ahs.mpr ⟨(k,y),hm,rfl⟩)) hk2) N 0 100000 none (by omega) (ahY _) (by omega) rfl)
  have Dy:=MW t.mask (f k) N
  have KJ:Reach t.mask (·∈t.place.toList) (f k) (cT t.mask (f k) N):=⟨N,by omega,rfl,hin⟩
  generalize cT t.mask (f k) N=j at hj Dy KJ
  dsimp only
  refine ahk (aiH ho hd I.fits ?_)
  dsimp only
  obtain⟨p1,p2,p3,p4,p5,p6⟩:=SS I (x:=.ref x) hj Dy KJ
  have Pk:∀t1:SetTable,t1.mask=t.mask→t1.place=(t.put j).1.place→t1.dummies=(t.put j).1.dummies→t1.plain=true→t1.led = !fX w→wpAny (model prog w) A (do
    storeSet a (SetTable.insertAt es (t.put j).snd (f k,Value.ref x)) t1
    if(!false&&t1.tooFull)=true then do
     setRelay a (SetTable.grown (es.size+1))
     pure true
    else pure true) Q E s:=fun t1 m1 m2 m3 m4 m5=>by
   have hsn:(t.put j).snd=SetTable.below t.place j:=rfl
   rw[hsn]
   generalize aa9:SetTable.insertAt es (SetTable.below t.place j) (f k,Value.ref x)=es1 at p1 p6
   rw[←m2,←m1]at p6
   rw[←m2]at p2 p3 p4
   rw[←m1]at p4
   rw[←m3]at p5
   have vm:es1.toList=(L.take (SetTable.below t.place j)++(k,x)::L.drop (SetTable.below t.place j)).map (kg f):=by
    rw[←aa9,aj2,hL,aiC,ahv,List.map_take,List.map_drop]
   have jB:((L.take (SetTable.below t.place j)++(k,x)::L.drop (SetTable.below t.place j)).map (·.1)).Perm (ks++[k]):=by
    refine((akV (a:=(k,x)) (l₁:=L.take (SetTable.below t.place j)) (l₂:=L.drop (SetTable.below t.place j))).map (·.1)).trans ?_
    rw[ajo,ahv]
    exact(hp.cons k).trans (akO k ks).symm
   have hu1:∀q∈(L.take (SetTable.below t.place j)++(k,x)::L.drop (SetTable.below t.place j)),cA prog w Y s.heap q.1 q.2:=fun q hq=>by
    rw[ahZ,ahm]at hq
    rcases hq with q1|rfl|q1
    ·exact hu q (ahR q1)
    ·exact hx
    ·exact hu q (akG q1)
   generalize L.take (SetTable.below t.place j)++(k,x)::L.drop (SetTable.below t.place j)=L1 at vm jB hu1
   have hM:=I.mask
   have hz0:(#[]:Array Nat).size=0:=rfl
   have hfit:t1.fits es1.size=true:=by
    simp only[SetTable.fits,SetTable.fill,p2,p5,p1,hz0,m1,ah4,beq_self_eq_true,true_and,decide_eq_true_eq]
    omega
   have sl:100<sizeLine:=by decide
   refine ahk (wpAny_storeSet_of ho hd ?_ (by omega))
   have pK:=HV (es':=es1) (t':=t1) ho hd
   have lG:=ai3 s.heap a (Obj.putSet es1 t1)
   have hk1:∀q∈L1,cA prog w Y (s.heap.update a (Obj.putSet es1 t1)) q.1 q.2:=fun q hq=>(hu1 q hq).at fun b yb o e=>by rw[lG.2 b (fun z=>KZ (z▸yb))];exact e
   cases hf:t1.tooFull with
   |false =>
    simp only[ai7,ajT,ahC,if_false]
    have hf2:((t1.mask=7∧es1.size≤4)∨(t1.mask=31∧es1.size≤18)∨(t1.mask=127∧es1.size≤76)):=by
     simp only[SetTable.tooFull,SetTable.fill,p2,p5,hz0,m1,decide_eq_false_iff_not]at hf
     rw[m1]
     omega
    exact ahl (h true _ lG ⟨_,es1,ep+1,t1,L1,pK,hex,rfl,⟨by rw[p2,p1],p3,p4,p5,hf2,p6⟩,m4,m5,vm,hk1,jB⟩)
   |true =>
    simp only[ai7,Bool.and_self,if_true]
    have hf2:es1.size=5∨es1.size=19:=by
     simp only[SetTable.tooFull,SetTable.fill,p2,p5,hz0,m1,decide_eq_true_eq]at hf
     omega
    have DC:∀e∈es1.toList,qc e.1:=fun e he=>adS e.1
    obtain⟨t2,order,r1,r2,r3,r4,r5⟩:=Sd (t:=t1) DC hf2
    have r6:=Se r1
    generalize vc:order.filterMap (es1[·]?)=vt at r2 r3 r5
    refine ahk ?_
    unfold setRelay
    refine ahk (aiH pK rfl hfit ?_)
    dsimp only
    have hw:¬SetTable.sizeAbove (SetTable.grown (es.size+1))>sizeLine:=by
     rw[←p1]
     rcases hf2 with e|e<;>rw[e]<;>decide
    rw[if_neg hw,←p1,r1]
    refine ahk (ajz (show _=pure (vt,t2)from ?_) ?_)
    ·show(if((order.filterMap (es1[·]?)).size != es1.size)=true then(do let _ ←unsupported "internal:set-table-lost-an-element";pure (order.filterMap (es1[·]?),t2))else pure (order.filterMap (es1[·]?),t2))=_
     rw[vc,r2]
     simp
    ·dsimp only
     refine wpAny_storeSet_of pK rfl ?_ (by omega)
     have aaN:=ai3 (s.heap.update a (Obj.putSet es1 t1)) a (Obj.putSet vt t2)
     have KI:=lG.trans aaN
     have ho2:=HV (es':=vt) (t':=t2) pK rfl
     obtain⟨L2,vj,j8⟩:∃L2:List (Lk×Addr),vt.toList=L2.map (kg f)∧L2.Perm L1:=by
      rw[vm]at r5
      exact Ij r5
     refine ahl (h true _ KI ⟨_,vt,ep+1+1,t2,L2,ho2,hex,rfl,r3,r6.trans m4,r4.trans m5,vj,fun q hq=>?_,(j8.map _).trans jB⟩)
     have hq1:=j8.mem_iff.mp hq
     exact(hu1 q hq1).at fun b yb o e=>by rw[KI.2 b (fun z=>KZ (z▸yb))];exact e
  have mk:(t.put j).1.mask=t.mask:=rfl
  have hpl:(t.put j).fst.plain=true:=aaP
  rw[if_pos hpl]
  refine ahk (aei hx ?_)
  exact Pk _ rfl rfl rfl hpl pL
end
end L2
namespace L2
open PySem PySem.Spec PyProof.Rows
def dj(xs:List Lk):List Lk:=xs.foldl e9 []
theorem abN{xs:List Lk}{i:Nat}(h:i<xs.length):dj (xs.take (i+1))=e9 (dj (xs.take i)) xs[i]:=by
 unfold dj
 rw[alJ h,alK]
 rfl
theorem Lj:∀(xs ns:List Lk),ns.length≤(xs.foldl e9 ns).length
 |[],ns=>aho _
 |x::xs,ns=>by
  have:=Lj xs (e9 ns x)
  have h:ns.length≤(e9 ns x).length:=by unfold e9;split<;>simp
  rw[ajx];omega
theorem abO(xs:List Lk) (i:Nat):(dj (xs.take i)).length≤(dj xs).length:=by
 have:dj xs=(xs.drop i).foldl e9 (dj (xs.take i)):=by
  unfold dj
  rw[←alK,ajo]
 rw[this]
 exact Lj _ _
section
variable {prog:Program}{w:World}{A:Around}{s:Shared}{E:Value→Shared→Prop}
theorem iP.at{f:Lk→Int}{Y:Addr→Prop}{h h':Heap}{a:Addr}{ks:List Lk}(x:iP prog w f Y h a ks) (k:∀b,(b=a∨Y b)→∀o,h.get? b=some o→h'.get? b=some o):iP prog w f Y h' a ks :=
 let⟨o,es,ep,t,L,ho,h1,h2,h3,p,l,h4,h5,h6⟩:=x
 ⟨o,es,ep,t,L,k a (.inl rfl) o ho,h1,h2,h3,p,l,h4,fun q hq=>(h5 q hq).at fun b yb=>k b (.inr yb),h6⟩
theorem Rk{R:Result→Shared→Prop}{I:Addr}{fp wr:List Addr}{G:Array GenState→Array GenState→Prop}{P:Nat→Value→Prop}{St:Nat→Shared→Prop}{Y:Addr→Prop}{xs:List Lk}{ys:List Addr}(hys:ys.length=xs.length)
  (W:WalksS prog w A.in1 I fp wr G xs.length P St) (S:Addr) (hSf:S∉fp) (hval:∀(i:Nat) v,(hi:i<xs.length)→P i v→v=Value.ref (ys[i]'(by omega))) (yd:∀b,Y b→b≠S∧b∉wr) (h64:(dj xs).length<64) (hr:A.in1.units+8<cLine) :
  ∀(k i:Nat) (s:Shared),xs.length-i=k→i≤xs.length→St i s→iP prog w hL Y s.heap S (dj (xs.take i))→(∀j,(hj:j<xs.length)→cA prog w Y s.heap xs[j] (ys[j]'(by omega))) →
   (∀s',Moved (S::wr) G s s'→iP prog w hL Y s'.heap S (dj xs)→R (.ok (.ret .none)) s') →
   codeAny (model prog w) A (.builtin "set.update.loop" ⟨[.ref S,.ref I],[]⟩) R s:=by
 have hSw:S∉wr:=fun h=>hSf (W.sub _ h)
 have hup:∀b∈wr,b∈S::wr:=fun b hb=>.tail _ hb
 have KY:∀b,(b=S∨Y b)→b∉wr:=fun b hb=>hb.elim (fun e=>e▸hSw) fun m=>(yd b m).2
 intro k
 induction k with
 |zero =>
  intro i s hk hi st hS hK hR
  cases(show i=xs.length by omega)
  refine ajp F.entry_set_update_loop ?_
  rw[akQ akW _]
  show wpAny _ A.in1 (pyNext (.ref I) >>= _) _ _ s
  refine ahk (W.done s _ _ st fun s' hm=>?_)
  rw[aiD]at hS
  exact ahl (hR s' (hm.mono hup) (hS.at fun b hb o e=>hm.heap b _ (KY b hb) e))
 |succ k ih =>
  intro i s hk hi st hS hK hR
  have hlt:i<xs.length:=by omega
  have Dv:i<ys.length:=by omega
  refine ajp F.entry_set_update_loop ?_
  rw[akQ akW _]
  show wpAny _ A.in1 (pyNext (.ref I) >>= _) _ _ s
  refine ahk (W.item i s _ _ hlt st fun v s' hP st' hm=>?_)
  cases hval i v hlt hP
  have hS':iP prog w hL Y s'.heap S (dj (xs.take i)):=hS.at fun b hb o e=>hm.heap b _ (KY b hb) e
  have DG:∀j,(hj:j<xs.length)→cA prog w Y s'.heap xs[j] (ys[j]'(by omega)):=fun j hj=>(hK j hj).at fun b yb o e=>hm.heap b _ (yd b yb).2 e
  show wpAny _ A.in1 (holding [Value.ref ys[i]] (setAdd S (.ref ys[i])) >>= _) _ _ s'
  refine ahk (aif ?_)
  unfold setAdd
  refine aif (ahk (abh (k:=xs[i]) hr (DG i hlt) fun tk htk=>?_))
  have hl:(dj (xs.take i)).length<64:=alj (abO xs i) h64
  refine Ro (Y:=Y) (f:=hL) (s:={s' with toks:=tk}) (k:=xs[i]) hr (DG i hlt) (fun z=>(yd S z).1 rfl) hS' hl fun b h' lG K3=>?_
  rw[←abN hlt]at K3
  refine ahl ⟨plainId_quiet akW _,ih (i+1) _ (by omega) hlt (W.frame _ s' _ _ st' htk fun b hb o e=>?_) K3 (fun j hj=>?_) fun s'' aaW abl=>?_⟩
  ·rw[lG.2 b (fun q:b=S=>hSf (q▸hb))];exact e
  ·exact(DG j hj).at fun b yb o e=>by
    show h'.get? _=some o
    rw[lG.2 _ (yd b yb).1];exact e
  ·refine hR s'' (Moved.trans W.gtrans ((hm.mono hup).then_heap htk fun b o hb e=>?_) aaW) abl
   rw[lG.2 b (fun q:b=S=>hb (q▸.head _))];exact e
theorem acr(f:Lk→Int) (Y:Addr→Prop) {h:Heap}{a:Addr}(e:h.get? a=some (je w)):iP prog w f Y h a [] :=
 ⟨_,#[],0,_,[],e,⟨rfl,rfl,rfl⟩,rfl,⟨rfl,.nil,fun j h=>by simp[SetTable.fresh]at h,rfl,.inl ⟨rfl,by simp⟩,fun q hq=>by simp[SetTable.fresh]at hq⟩,rfl,rfl,rfl,fun q hq=>(by cases hq),.refl _⟩
set_option maxHeartbeats 3200000 in
theorem Ri{l:Addr}{items:Array Value}{Y:Addr→Prop}{xs:List Lk}{ys:List Addr}{Q:Value→Shared→Prop}(hys:ys.length=xs.length) (hh:A.handled=none) (hl:s.heap.IsList l items) (hi:items.toList=ys.map Value.ref) (hK:∀j,(hj:j<xs.length)→cA prog w Y s.heap xs[j] (ys[j]'(by omega))) (vg:∀b,Y b→b<s.heap.objs.size∧b≠l) (h64:(dj xs).length<64) (hr:A.in1.in1.in1.units+8<cLine)
  (h:∀(h':Heap) (tk:Nat),iP prog w hL Y h' s.heap.objs.size (dj xs)→(∀b o,b<s.heap.objs.size→s.heap.get? b=some o→h'.get? b=some o)→Q (.ref s.heap.objs.size) {s with heap:=h',toks:=tk}) :
  wpAny (model prog w) A (call (.type "set") [.ref l]) Q E s:=by
 obtain⟨c,tl,hmro⟩:=aiT.mro
 have hmade:=aiT.made
 have hsub:=aiT.sub
 refine wpAny_call (codeAny_of_tree (show wpAny _ _ (callAny (.type "set") _) _ _ _ from ?_))
 refine ahl ⟨Code.quiet_builtin _ (by decide +kernel),ajp PySem.F.entry_type_call ?_⟩
 rw[Around.under_plain (weight_type_call_type "set" [.ref l] []) rfl]
 have h1:=aiT.notType
 have h2:=aiT.canCreate
 have hct:=PySem.F.typeCall_set_1 (.ref l)
 repeat any_goals (first|assumption|wp_step)
 refine ajv (Rj (.ref l) (E:=E) (Q₁:=fun obj s₁=>obj=.ref s.heap.objs.size∧s₁={s with heap:=s.heap.push (je w)}) ⟨rfl,rfl⟩) fun r s₁ hr=>?_
 cases r with
 |error e=>exact hr
 |ok fl =>
  cases fl with
  |ret obj =>
   obtain⟨rfl,rfl⟩:=hr
   have hS:(s.heap.push (je w)).get? s.heap.objs.size=some (je w):=ahB _ rfl
   have hT:Shared.TypeIs {s with heap:=s.heap.push (je w)} (.ref s.heap.objs.size) "set":=⟨_,hS,rfl⟩
   have hli:=aiT.init.lookup
   have hbi:=aiT.init.bind (.ref s.heap.objs.size)
   repeat any_goals (first|assumption|wp_step)
   refine ajv (codeAny_call_builtin (R:=wants (fun r s₂=>r=.none∧∃h' tk,s₂={s with heap:=h',toks:=tk}∧iP prog w hL Y h' s.heap.objs.size (dj xs) ∧
     (∀b o,b<s.heap.objs.size→s.heap.get? b=some o→h'.get? b=some o)) E) aiT.init.plain PySem.F.entry_set_init (check_set_init_1 hT ?_)) fun r₂ s₂ Dt=>?_
   ·obtain⟨ol,j7,hcl,nl,hdl⟩:=hl
    obtain⟨ocls,VP,agg,UY⟩:=ol
    simp only at hcl hdl
    subst hcl;subst hdl
    have KL:(s.heap.push (je w)).get? l=some {cls:=.type "list",dict:=VP,data:=.seq items nl,slots:=UY}:=ahp _ j7
    have hsls:=PySem.F.sub_list_set
    have hslf:=PySem.F.sub_list_frozenset
    have hne:(Value.type "list"==Value.type "dict")=false:=by decide
    have hl1:(s.heap.push (je w)).IsList l items:=⟨_,KL,rfl,nl,rfl⟩
    unfold je at hS hT KL ⊢
    unfold Builtin.«set.__init__» noKeywords Builtin.Frozenset.updateFrom
    generalize hPI:pyIter=PI
    wp_walk
    subst hPI
    refine aje hl1 (ahk (wpAny_runValue ?_))
    have hlS:l<s.heap.objs.size:=ahq j7
    have hlen:items.size=xs.length:=by
     have:=congrArg List.length hi
     rw[ahx,ahO]at this
     omega
    have aaU:l≠(s.heap.push (je w)).objs.size:=by rw[ahQ];exact ahw (aij hlS)
    have hSf:s.heap.objs.size∉[(s.heap.push (je w)).objs.size,l]:=by
     rw[ahQ];simp only[ahm,ahE,or_false,not_or];exact⟨ahw (aiy _),ah0 hlS⟩
    have W:=(ajB (prog:=prog) (w:=w) (A:=A.in1.in1.in1) (by simp[hh]) (s.heap.push (je w)).objs.size l aaU items).toS
    rw[hlen]at W
    refine Rk (xs:=xs) (ys:=ys) hys W s.heap.objs.size hSf (fun i v hi' hv=>?_) (fun y hy=>?_) h64 hr xs.length 0 _ (by omega) (ahY _) ⟨⟨_,ahB _ rfl,rfl,rfl⟩,hl1.push _⟩ (acr _ _ (ahp _ hS)) (fun j hj=>(hK j hj).at fun b yb o e=>ahp _ (ahp _ e)) fun s' hm hS'=>?_
    ·have hv:items[i]? = some v:=hv
     rw[←aie,hi,ahP,ahy (by omega)]at hv
     simpa using hv.symm
    ·have:=vg y hy
     rw[ahQ]
     simp only[ahm,ahE,or_false]
     exact⟨ahw this.1,fun z=>by first|exact absurd z (ahw (aij this.1))|exact z.elim (fun z=>absurd z (ahw (aij this.1))) this.2⟩
    ·obtain⟨h',g',d',tk',os'⟩:=s'
     cases(show g'=s.gens from hm.gens)
     cases(show d'=s.drawn from hm.drawn)
     cases(show os'=s.os from hm.os)
     refine ahl (ahl ⟨rfl,h',tk',rfl,hS',fun b o hb e=>?_⟩)
     exact hm.heap b o (by rw[ahQ];simp only[ahm,ahE,or_false,not_or];exact⟨ahw hb,ahw (aij hb)⟩) (ahp _ (ahp _ e))
   ·cases r₂ with
    |error e=>exact Dt
    |ok abV =>
     cases abV with
     |ret r =>
      obtain⟨rfl,h',tk,rfl,hS',hk'⟩:=Dt
      repeat any_goals (first|assumption|wp_step)
      exact h _ _ hS' hk'
     |_=>exact Dt.elim
  |_=>exact hr.elim
end
end L2
namespace L2
open PySem
theorem qo:Slot "set_iterator" "__next__" "set_iterator.__next__" :=
 .of (owner:="set_iterator") (n:="__next__") (by rw[typeLookup_type,alL];kernel_rfl) (by decide +kernel) (by decide +kernel)
  (by decide +kernel) (by first|exact .inl (by decide +kernel)|exact .inr (by decide +kernel)) (by rw[isSubtype_type];kernel_rfl)
theorem Hf:Slot "set_iterator" "__iter__" "set_iterator.__iter__" :=
 .of (owner:="set_iterator") (n:="__iter__") (by rw[typeLookup_type,alL];kernel_rfl) (by decide +kernel) (by decide +kernel)
  (by decide +kernel) (by first|exact .inl (by decide +kernel)|exact .inr (by decide +kernel)) (by rw[isSubtype_type];kernel_rfl)
theorem Hh:entryFor table "set_iterator.__next__"=some Builtin.«set_iterator.__next__»:=entryFor_of_tree (by kernel_rfl)
theorem Qc:entryFor table "set_iterator.__iter__"=some Builtin.«dict_keyiterator.__iter__» :=
 entryFor_alias (id':="dict_keyiterator.__iter__") (by kernel_rfl) rfl (by decide +kernel) (by kernel_rfl)
theorem Qa:entryFor table "set.__iter__"=some Builtin.«frozenset.__iter__» :=
 entryFor_alias (id':="frozenset.__iter__") (by kernel_rfl) rfl (by decide +kernel) (by kernel_rfl)
theorem Hg:Manifest.owners.lookup (String.ofList ['r','o','t','a','r','e','t','i','_','t','e','s'].reverse)=some Manifest.sig_set_iterator:=by kernel_rfl
theorem Hi(a:Value):argsOk "set_iterator.__next__" ⟨[a],[]⟩:=by
 unfold argsOk
 rw[signature?_of (id:="set_iterator.__next__") (n:=['_','_','t','x','e','n','_','_']) (o:=['r','o','t','a','r','e','t','i','_','t','e','s']) (by kernel_rfl) Hg];kernel_rfl
theorem Qd(a:Value):argsOk "set_iterator.__iter__" ⟨[a],[]⟩:=by
 unfold argsOk
 rw[signature?_of (id:="set_iterator.__iter__") (n:=['_','_','r','e','t','i','_','_']) (o:=['r','o','t','a','r','e','t','i','_','t','e','s']) (by kernel_rfl) Hg];kernel_rfl
theorem acg{α:Type}{l:List α}{i:Nat}(h:i<l.length):([l[i]]++l.eraseIdx i).Perm l:=by
 rw[List.eraseIdx_eq_take_drop_succ]
 have e:l=l.take i++l[i]::l.drop (i+1):=by rw[←akX h,ajo]
 conv=>rhs;rw[e]
 exact(akV (a:=l[i]) (l₁:=l.take i) (l₂:=l.drop (i+1))).symm
theorem Ie{α:Type}(next:Nat→Nat):∀(fuel k:Nat) (left:List α) (out:Array α),fuel=left.length→(pickOrder.go next fuel k left out).toList.Perm (out.toList++left)
 |0,k,left,out,h=>by
  have:left=[]:=akY.mp h.symm
  subst this
  unfold pickOrder.go;simp
 |fuel+1,k,left,out,h=>by
  unfold pickOrder.go
  have hlt:next k % left.length<left.length:=aiQ _ (by omega)
  rw[ahy hlt]
  dsimp only
  refine(Ie next fuel _ _ _ (by rw[List.length_eraseIdx_of_lt hlt];omega)).trans ?_
  rw[alz,ahX]
  exact(acg hlt).append_left _
def i8(w:World) (a:Addr) (ep:Nat) (es:Array (Int×Value)):Array (Int×Value):=if fX w then pickOrder (w.params.setOrder a ep) es else es
theorem xy(w:World) (a:Addr) (ep:Nat) (es:Array (Int×Value)):(i8 w a ep es).toList.Perm es.toList:=by
 unfold i8
 split
 ·unfold pickOrder
  simpa using Ie (w.params.setOrder a ep) es.size 0 es.toList #[] (by simp)
 ·exact .rfl
def iF(b:Bool) (place:Array Nat):Nat→Nat
 |0=>0
 |i+1=>if b then 0 else place.toList.getD i 0+1
def kJ(h:Heap) (it a:Addr) (sl i n ep:Nat):Prop:=∃o,h.get? it=some o∧o.cls=.type "set_iterator"∧o.data=.fields #[.int sl 0,.int i 0,.ref a,.int n 0,.int ep 0]
theorem kJ.typeIs{s:Shared}{it a:Addr}{sl i n ep:Nat}(h:kJ s.heap it a sl i n ep):s.TypeIs (.ref it) "set_iterator":=let⟨o,ho,hc,_⟩:=h;⟨o,ho,hc⟩
theorem kJ.at{h h':Heap}{it a:Addr}{sl i n ep:Nat}(x:kJ h it a sl i n ep) (k:∀o,h.get? it=some o→h'.get? it=some o):kJ h' it a sl i n ep:=let⟨o,ho,r⟩:=x;⟨o,k o ho,r⟩
def iB(w:World) (h:Heap) (a:Addr) (es:Array (Int×Value)) (ep:Nat) (t:SetTable):Prop:=∃o,h.get? a=some o∧o.ExactSet∧o.data=.set es ep t∧Gf t es.size∧t.led = !fX w
theorem iB.at{w:World}{h h':Heap}{a:Addr}{es:Array (Int×Value)}{ep:Nat}{t:SetTable}(x:iB w h a es ep t) (k:∀o,h.get? a=some o→h'.get? a=some o):iB w h' a es ep t:=let⟨o,ho,r⟩:=x;⟨o,k o ho,r⟩
section
variable {prog:Program}{w:World}{A:Around}{E:Value→Shared→Prop}{s:Shared}
theorem Hw{a:Addr}{es:Array (Int×Value)}{ep i:Nat}{t:SetTable}{Q:Option (Value×Nat)→Shared→Prop}(hS:iB w s.heap a es ep t) (hi:i≤es.size)
  (h:Q ((i8 w a ep es)[i]?.map fun e=>(e.2,iF (fX w) t.place (i+1))) s):wpAny (model prog w) A (setNext a (iF (fX w) t.place i) i ep) Q E s:=by
 obtain⟨o,ho,hex,hd,hI,hl⟩:=hS
 unfold setNext
 refine ahk (aiH ho hd hI.fits ?_)
 dsimp only
 refine ahk ?_
 unfold setsByText
 refine ahk (ajF (ahl ?_))
 show wpAny _ _ (if fX w=true then _ else _) _ _ _
 unfold i8 at h
 cases hb:fX w with
 |true =>
  rw[hb]at h
  simp only[if_true,bne_self_eq_false,ahC,if_false]at h ⊢
  refine ahk ?_
  unfold setWalk
  refine ahk (aiH ho hd hI.fits ?_)
  dsimp only
  refine ahk ?_
  unfold setsByText
  refine ahk (ajF (ahl ?_))
  show wpAny _ _ (if fX w=true then _ else _) _ _ _
  rw[hb]
  simp only[if_true]
  refine ahk (ajF (ahl (ahl ?_)))
  have e:iF true t.place (i+1)=iF true t.place i:=by cases i<;>rfl
  rw[e]at h
  exact h
 |false =>
  rw[hb]at h hl
  simp only[ahC,if_false]at h ⊢
  show wpAny _ _ (if(!t.plain&&decide (es.size>1))=true then _ else _) _ _ _
  rw[hI.plain]
  simp only[ah2,Bool.false_and,ahC,if_false]
  refine ahk (ajz (a:=()) ?_ ?_)
  ·show(if(!t.led && !es.isEmpty)=true then _ else _)=_
   rw[hl];rfl
  have ve:SetTable.below t.place (iF false t.place i)=i:=by
   cases i with
   |zero=>exact aev hI.up
   |succ i=>exact aew hI.up (by rw[ahO,hI.size];omega)
  rw[ve]
  refine ahl ?_
  rcases ais i es.size with hlt|hge
  ·have hp:i<t.place.size:=by rw[hI.size];exact hlt
   rw[ai8 hlt]at h ⊢
   rw[ai8 hp]
   have e:iF false t.place (i+1)=t.place[i]+1:=by
    simp[iF,ahr,ahy (show i<t.place.toList.length by simpa using hp)]
   rw[e]at h
   exact h
  ·rw[alM hge]at h ⊢
   exact h
end
end L2
namespace L2
open PySem
section
variable {prog:Program}{w:World}{A:Around}{E:Value→Shared→Prop}{s:Shared}
theorem aam{it a:Addr}{es:Array (Int×Value)}{ep i:Nat}{t:SetTable}{v:Int×Value}{Q:Option Value→Shared→Prop}(hit:kJ s.heap it a (iF (fX w) t.place i) i es.size ep) (hS:iB w s.heap a es ep t) (hi:i<es.size)
  (hv:(i8 w a ep es)[i]? = some v) (hQ:∀h',kJ h' it a (iF (fX w) t.place (i+1)) (i+1) es.size ep→Heap.SameBut it s.heap h'→Q (some v.2) {s with heap:=h'}) :
  wpAny (model prog w) A (pyNext (.ref it)) Q E s:=by
 obtain⟨o,ho,hc,hd⟩:=id hit
 obtain⟨oS,hoS,KU,hdS,hI,hl⟩:=id hS
 unfold pyNext
 refine ahk (ajX (ajl (name:=Str.ofString "__next__") hit.typeIs qo (ah5 qo hit.typeIs Hh ?_ (Hi _))))
 unfold Builtin.«set_iterator.__next__»
 refine ahk (ahl ?_)
 refine ahk (wpAny_fieldsOf ho hd ?_)
 dsimp only
 refine ahk (akZ hoS hdS hI.fits ?_)
 rw[if_neg (by simp)]
 refine ahk (Hw (ep:=ep) (i:=i) hS (ajd hi) ?_)
 rw[hv]
 dsimp only[Option.map]
 refine ahk (ajy ho hd (by simp) ?_)
 have g1:=ajw (Obj.mapFields (·.setIfInBounds 0 (rawInt ((iF (fX w) t.place (i+1):Nat):Int)))) ho (akA (ajm hd _))
 have d1:=ajm hd (·.setIfInBounds 0 (rawInt ((iF (fX w) t.place (i+1):Nat):Int)))
 refine ahk (ajy g1 d1 (by simp) ?_)
 have g2:=ajw (Obj.mapFields (·.setIfInBounds 1 (rawInt ((i:Int)+1)))) g1 (akA (ajm d1 _))
 have d2:=ajm d1 (·.setIfInBounds 1 (rawInt ((i:Int)+1)))
 refine ahl ⟨_,rfl,ahl (hQ _ ⟨_,g2,?_,?_⟩ ((ai3 ..).trans (ai3 ..)))⟩
 ·exact(akB ..).trans ((akB ..).trans hc)
 ·rw[d2];simp[rawInt]
theorem aan{it a:Addr}{es:Array (Int×Value)}{ep:Nat}{t:SetTable}{Q:Option Value→Shared→Prop}(hh:A.handled=none) (hit:kJ s.heap it a (iF (fX w) t.place es.size) es.size es.size ep) (hS:iB w s.heap a es ep t)
  (hQ:∀h',Heap.ExtBut it s.heap h'→Q none {s with heap:=h'}):wpAny (model prog w) A (pyNext (.ref it)) Q E s:=by
 obtain⟨o,ho,hc,hd⟩:=id hit
 obtain⟨oS,hoS,KU,hdS,hI,hl⟩:=id hS
 unfold pyNext
 refine ahk (ajX (ajl (name:=Str.ofString "__next__") hit.typeIs qo (ah5 qo hit.typeIs Hh ?_ (Hi _))))
 unfold Builtin.«set_iterator.__next__»
 refine ahk (ahl ?_)
 refine ahk (wpAny_fieldsOf ho hd ?_)
 dsimp only
 refine ahk (akZ hoS hdS hI.fits ?_)
 rw[if_neg (by simp)]
 refine ahk (Hw (ep:=ep) (i:=es.size) hS (aho _) ?_)
 have hv:(i8 w a ep es)[es.size]? = none:=by
  have:=(xy w a ep es).length_eq
  rw[ahO,ahO]at this
  exact alM (by omega)
 rw[hv]
 dsimp only[Option.map]
 refine ahk (ajy ho hd (by simp) ?_)
 show wpAny _ _ (newExc (.type "StopIteration") [] >>= _) _ _ _
 refine ahk ?_
 simp only[newExc,newTuple]
 refine ahk (ajk ?_ (by size_fits))
 refine ahk (m:=firstArgMember _ _) (ajz (a:=Value.none) (by first|rfl|(simp only[firstArgMember];rfl)) (ajk ?_ (by size_fits)))
 simp only[raiseNew]
 refine ahk (wpAny_handled ?_)
 rw[show A.in1.handled=none from hh]
 refine ahk (ahl (wpAny_throw ?_))
 refine ahk (aiO (b:=true) (T:="StopIteration") ⟨_,ahB _ rfl,rfl⟩ isSubtype_stop ?_)
 exact ahl (hQ _ (((ai3 ..).extBut.push _).push _))
theorem aal{it a:Addr}{sl i n ep:Nat}{Q:Value→Shared→Prop}(hit:kJ s.heap it a sl i n ep) (h:Q (.ref it) s):wpAny (model prog w) A (pyIter (.ref it)) Q E s:=by
 refine wpAny_pyIter_slot hit.typeIs Hf (ah5 Hf hit.typeIs Qc (show wpAny _ _ (ret (.ref it)) _ _ s from ?_) (Qd _))
 exact ahl ⟨_,rfl,"set_iterator",_,hit.typeIs,qo.lookup,h⟩
theorem Rh(hh:A.handled=none) (I a:Addr) (hne:a≠I) (es:Array (Int×Value)) (ep:Nat) (t:SetTable) :
  Walks prog w A I [I,a] [I] es.size (fun i v=>(i8 w a ep es)[i]?.map (·.2)=some v) (fun i h=>kJ h I a (iF (fX w) t.place i) i es.size ep∧iB w h a es ep t) where
 sub:=fun b hb=>by simp at hb;simp[hb]
 frame:=fun _ _ _ st hk=>⟨st.1.at fun o e=>hk I (by simp) o e,st.2.at fun o e=>hk a (by simp) o e⟩
 item:=fun i s Q E hi st hQ=>by
  have hl:=(xy w a ep es).length_eq
  rw[ahO,ahO]at hl
  have hv:(i8 w a ep es)[i]? = some (i8 w a ep es)[i]:=ai8 (by omega)
  refine aam st.1 st.2 hi hv fun h' u9 hs'=>hQ _ h' s.toks (by rw[hv];rfl) ⟨u9,st.2.at fun o e=>?_⟩ fun b o hb e=>hs'.extBut b o (fun h=>hb (by simp[h])) e
  exact hs'.extBut a o hne e
 done:=fun s Q E st hQ=>aan hh st.1 st.2 fun h' he'=>hQ h' s.toks fun b o hb e=>he' b o (fun h=>hb (by simp[h])) e
 self:=fun _ _ _ _ st hQ=>aal st.1 hQ
theorem iB.typeIs{a:Addr}{es:Array (Int×Value)}{ep:Nat}{t:SetTable}(h:iB w s.heap a es ep t):s.TypeIs (.ref a) "set":=let⟨o,ho,hx,_⟩:=h;⟨o,ho,hx.1⟩
theorem Rn{a:Addr}{es:Array (Int×Value)}{ep:Nat}{t:SetTable}{Q:Value→Shared→Prop}(hS:iB w s.heap a es ep t)
  (hQ:Q (.ref s.heap.objs.size) {s with heap:=s.heap.push {cls:=.type "set_iterator",data:=.fields #[.int 0 0,.int 0 0,.ref a,.int es.size 0,.int ep 0]} }):wpAny (model prog w) A (pyIter (.ref a)) Q E s:=by
 obtain⟨oS,hoS,KU,hdS,hI,hl⟩:=id hS
 refine wpAny_pyIter_slot hS.typeIs alN (ah5 alN hS.typeIs Qa ?_ (PySem.F.args_set_iter_1 _))
 unfold Builtin.«frozenset.__iter__» Builtin.Frozenset.slot0
 refine ahk (ahk (ahl (ahl ?_)))
 unfold Builtin.Frozenset.sizeOf
 refine ahk (ahk (akZ hoS hdS hI.fits (ahl ?_)))
 refine ahk ?_
 unfold setDrawn
 refine ahk (aiH hoS hdS hI.fits ?_)
 dsimp only
 refine ahk ?_
 unfold setsByText
 refine ahk (ajF (ahl (ahl ?_)))
 have e:(!fX w&&(!t.plain&&decide (es.size>1)))=false:=by rw[hI.plain];simp
 show wpAny _ _ (if(!fX w&&(!t.plain&&decide (es.size>1)))=true then _ else _) _ _ _
 rw[e]
 simp only[ahC,if_false]
 refine ahk (ahl ?_)
 refine ahk (wpAny_setEpoch_of hoS hdS hI.fits ?_)
 refine ahk ?_
 refine ajk (ahl ⟨_,rfl,"set_iterator",_,⟨_,ahB _ rfl,rfl⟩,qo.lookup,?_⟩)
 exact hQ
end
end L2
namespace L2
open PySem PySem.Spec PyProof.Rows PySem.W
section
variable {prog:Program}{w:World}{A:Around}{E:Value→Shared→Prop}{s:Shared}
theorem aa4{r:Addr}{Q:Bool→Shared→Prop}(hT:s.TypeIs (.ref r) "set") (h:Q false s):wpAny (model prog w) A (Builtin.List.listLengthHint (.ref r)) Q E s:=by
 unfold Builtin.List.listLengthHint
 refine ahk (aiA hT PySem.F.slot_set_len.lookup ?_)
 generalize hid:("set.__len__":String)=id0
 wp_delta
 rw[show splitId id0=some ("set","__len__")from by subst hid;decide +kernel]
 subst hid
 refine ahk (aiO (T:="set") (b:=true) hT sub_set_self ?_)
 refine wpAny_ite_split (fun q=>absurd q (by decide)) fun _=>wpAny_ite_split (fun _=>?_) fun q=>absurd (by decide +kernel) q
 exact ahk (wpAny_typeOf hT (ahl h))
theorem iB.lt{h:Heap}{a:Addr}{es:Array (Int×Value)}{ep:Nat}{t:SetTable}(x:iB w h a es ep t):a<h.objs.size:=let⟨_,ho,_⟩:=x;ahq ho
theorem Qi{a:Addr}{es:Array (Int×Value)}{ep:Nat}{t:SetTable}:KdlSrc prog w "set" a a es.size (fun i v=>(i8 w a ep es)[i]?.map (·.2)=some v) (fun h=>iB w h a es ep t) where
 type:=fun _ h=>h.typeIs
 there:=fun _ h=>⟨h.lt,h.lt⟩
 keep:=fun _ _ h k=>h.at fun o e=>k a (.inl rfl) o e
 notList:=by decide
 notTuple:=by decide
 hint:=fun _ _ _ _ h q=>aa4 h.typeIs q
 iter:=fun _ s hh h=>⟨_,_,(fun _ _ q=>Rn h q),Rh hh _ a (ahw h.lt) es ep t,⟨⟨_,ahB _ rfl,rfl,rfl⟩,h.at fun o e=>ahp _ e⟩⟩
end
end L2
namespace L2
open PyProof.Rows PySem PySem.W
def d9{α:Type}(lt:Nat→Nat→Bool):KasT α→α
 |.ret a=>a
 |.ask i j k=>d9 lt (k (lt i j))
def fS{α:Type}(P:Nat→Prop) (lt:Nat→Nat→Bool):KasT α→Prop
 |.ret _=>True
 |.ask i j k=>P i∧P j∧fS P lt (k (lt i j))
theorem rV{α β:Type}{lt:Nat→Nat→Bool}{f:α→KasT β}:∀t:KasT α,d9 lt (t.bind f)=d9 lt (f (d9 lt t))
 |.ret _=>rfl
 |.ask i j k=>rV (k (lt i j))
theorem pC{α β:Type}{P:Nat→Prop}{lt:Nat→Nat→Bool}{f:α→KasT β}:∀t:KasT α,fS P lt t→fS P lt (f (d9 lt t))→fS P lt (t.bind f)
 |.ret _,_,h=>h
 |.ask i j k,h,g=>⟨h.1,h.2.1,pC (k (lt i j)) h.2.2 g⟩
theorem J7{α:Type}{P:Nat→Prop}{lt:Nat→Nat→Bool}{cmp:Nat→Nat→(Bool→Shared→Prop)→Shared→Prop}{Q:α→Shared→Prop}{s:Shared}(hc:∀i j C,P i→P j→C (lt i j) s→cmp i j C s):∀t:KasT α,fS P lt t→Q (d9 lt t) s→t.kasWp cmp Q s
 |.ret _,_,h=>h
 |.ask i j k,a,h=>hc i j _ a.1 a.2.1 (J7 hc (k (lt i j)) a.2.2 h)
section
variable {n:Nat}{r:Nat→Nat}
abbrev eN(r:Nat→Nat):Nat→Nat→Bool:=fun i j=>decide (r i<r j)
structure Pm (n:Nat) (p:Array Nat):Prop where
 pm:p.toList.Perm (List.range n)
theorem Pm.size{p:Array Nat}(h:Pm n p):p.size=n:=by have:=h.pm.length_eq;simpa using this
theorem Pm.lt{p:Array Nat}(h:Pm n p) (h0:0<n) (i:Nat):p.getD i 0<n:=by
 by_cases q:i<p.size
 ·have:p[i]∈p.toList:=by simp
  have:=ahn.mp (h.pm.mem_iff.mp this)
  simpa[Array.getD,q]using this
 ·simpa[Array.getD,q]using h0
theorem Pm.inj{p:Array Nat}(h:Pm n p) {i j:Nat}(hi:i<n) (hj:j<n) (e:p.getD i 0=p.getD j 0):i=j:=by
 have hs:=h.size
 have hn:p.toList.Nodup:=h.pm.nodup_iff.mpr ajK
 have e1:p.toList[i]'(by simp;omega)=p.toList[j]'(by simp;omega):=by
  have a1:p.getD i 0=p[i]'(by omega):=by simp[Array.getD,show i<p.size by omega]
  have a2:p.getD j 0=p[j]'(by omega):=by simp[Array.getD,show j<p.size by omega]
  rw[a1,a2]at e
  simpa using e
 exact(aiv hn).mp e1
theorem Pm.rev{p:Array Nat}(h:Pm n p) (i j:Nat):Pm n (kas_rev p i j):=⟨(alO.mp (mirror_perm p i j _)).trans h.pm⟩
theorem Pm.bub{p:Array Nat}(h:Pm n p) (i j:Nat):Pm n (bubble p i j):=⟨(alO.mp (bubble_perm p i j)).trans h.pm⟩
def iU(r:Nat→Nat) (p:Array Nat) (m:Nat):Prop:=∀i j,i<j→j<m→r (p.getD i 0)<r (p.getD j 0)
theorem iU.snoc{p:Array Nat}{m:Nat}(h:iU r p m) (hl:0<m→r (p.getD (m-1) 0)<r (p.getD m 0)):iU r p (m+1):=fun i j hij hj=>by
 by_cases e:j=m
 ·subst e
  have h0:=hl (by omega)
  by_cases q:i=j-1
  ·rw[q];exact h0
  ·exact ajC (h i (j-1) (by omega) (by omega)) h0
 ·exact h i j hij (by omega)
variable (inj:∀i j,i<n→j<n→r i=r j→i=j)
include inj in
theorem By{p:Array Nat}(h:Pm n p) {i j:Nat}(hi:i<n) (hj:j<n) (hne:i≠j):r (p.getD i 0)≠r (p.getD j 0):=fun e=>hne (h.inj hi hj (inj _ _ (h.lt (by omega) i) (h.lt (by omega) j) e))
include inj in
theorem F8{p:Array Nat}(h:Pm n p):∀(f m:Nat),1≤m→m+f≤n→iU r p m→m≤d9 (eN r) (kas_asc p f m)∧d9 (eN r) (kas_asc p f m)≤m+f∧iU r p (d9 (eN r) (kas_asc p f m))∧fS (· < n) (eN r) (kas_asc p f m)∧(d9 (eN r) (kas_asc p f m)<m+f→r (p.getD (d9 (eN r) (kas_asc p f m)) 0)<r (p.getD (d9 (eN r) (kas_asc p f m)-1) 0))
 |0,m,h1,h2,ha=>⟨aho _,aho _,ha,trivial,fun q=>absurd q (aib m)⟩
 |f+1,m,h1,h2,ha=>by
  have a1:=h.lt (by omega) m
  have a2:=h.lt (by omega) (m-1)
  unfold kas_asc
  simp only[d9,fS]
  by_cases q:r (p.getD m 0)<r (p.getD (m-1) 0)
  ·simp only[decide_eq_true q,if_true,d9,fS]
   exact⟨aho _,by omega,ha,⟨a1,a2,trivial⟩,fun _=>q⟩
  ·have e:decide (r (p.getD m 0)<r (p.getD (m-1) 0))=false:=decide_eq_false q
   simp only[e,ahC,if_false]
   have hne:=By inj h (i:=m) (j:=m-1) (by omega) (by omega) (by omega)
   obtain⟨b1,b2,b3,b4,b5⟩:=F8 h f (m+1) (by omega) (by omega) (ha.snoc fun _=>by omega)
   exact⟨by omega,by omega,b3,⟨a1,a2,b4⟩,fun z=>b5 (by omega)⟩
def qb(r:Nat→Nat) (p:Array Nat) (m:Nat):Prop:=∀i j,i<j→j<m→r (p.getD j 0)<r (p.getD i 0)
theorem qb.snoc{p:Array Nat}{m:Nat}(h:qb r p m) (hl:0<m→r (p.getD m 0)<r (p.getD (m-1) 0)):qb r p (m+1):=fun i j hij hj=>by
 by_cases e:j=m
 ·subst e
  have h0:=hl (by omega)
  by_cases q:i=j-1
  ·rw[q];exact h0
  ·exact ajC h0 (h i (j-1) (by omega) (by omega))
 ·exact h i j hij (by omega)
include inj in
theorem LB{p:Array Nat}(h:Pm n p):∀(f m:Nat),1≤m→m+f≤n→qb r p m→∃m',d9 (eN r) (kas_desc f p m 0)=(p,m',0)∧m≤m'∧m'≤m+f∧qb r p m'∧fS (· < n) (eN r) (kas_desc f p m 0)
 |0,m,h1,h2,ha=>⟨m,rfl,aho _,aho _,ha,trivial⟩
 |f+1,m,h1,h2,ha=>by
  have a1:=h.lt (by omega) m
  have a2:=h.lt (by omega) (m-1)
  unfold kas_desc
  simp only[d9,fS]
  by_cases q:r (p.getD m 0)<r (p.getD (m-1) 0)
  ·simp only[decide_eq_true q,if_true,gt_iff_lt,aib,if_false]
   obtain⟨m',b1,b2,b3,b4,b5⟩:=LB h f (m+1) (by omega) (by omega) (ha.snoc fun _=>q)
   exact⟨m',b1,by omega,by omega,b4,a1,a2,b5⟩
  ·have e:decide (r (p.getD m 0)<r (p.getD (m-1) 0))=false:=decide_eq_false q
   have hne:=By inj h (i:=m) (j:=m-1) (by omega) (by omega) (by omega)
   have q2:r (p.getD (m-1) 0)<r (p.getD m 0):=by omega
   simp only[e,ahC,if_false,d9,fS,decide_eq_true q2,if_true]
   exact⟨m,rfl,aho _,by omega,ha,a1,a2,a2,a1,trivial⟩
theorem gD(p:Array Nat) (i:Nat):p.getD i 0=(p[i]?).getD 0:=by
 rw[akE]
theorem HL{p:Array Nat}{m k:Nat}(hm:m≤p.size):(kas_rev p 0 m).getD k 0=if k<m then p.getD (m-1-k) 0 else p.getD k 0:=by
 unfold kas_rev
 have h:=getElem?_mirror (xs:=p) (i:=0) (j:=m) hm ((m-0)/2) (by omega) k
 rw[gD,h]
 simp only[Nat.sub_zero,ahM,ahY,true_and]
 by_cases q:k<m
 ·rw[if_pos q]
  by_cases z:k<m/2∨m-m/2≤k∧k<m
  ·rw[if_pos z,gD]
  ·have e:m-1-k=k:=by omega
   rw[if_neg z,e,gD]
 ·rw[if_neg q,if_neg (by omega),gD]
include inj in
theorem Pn{p:Array Nat}(h:Pm n p) {m:Nat}(h1:1≤m) (h2:m≤n) (hd:qb r p m):∃m' p',d9 (eN r) (kas_tail3 m n p)=(m',p')∧Pm n p'∧1≤m'∧m'≤n∧iU r p' m'∧fS (· < n) (eN r) (kas_tail3 m n p):=by
 have ha:iU r (kas_rev p 0 m) m:=fun i j hij hj=>by
  have hs:=h.size
  rw[HL (by omega),HL (by omega),if_pos (by omega),if_pos hj]
  exact hd _ _ (by omega) (by omega)
 obtain⟨b1,b2,b3,b4,_⟩:=F8 inj (h.rev 0 m) (n-m) m h1 (by omega) ha
 unfold kas_tail3
 refine⟨_,_,by rw[rV];rfl,h.rev 0 m,by omega,by omega,b3,pC _ b4 trivial⟩
include inj in
theorem adT{p:Array Nat}(h:Pm n p) (h2:2≤n):∃m p',d9 (eN r) (kas_count n p)=(m,p')∧Pm n p'∧1≤m∧m≤n∧iU r p' m∧fS (· < n) (eN r) (kas_count n p):=by
 obtain⟨b1,b2,b3,b4,b5⟩:=F8 inj h (n-1) 1 (by omega) (by omega) (fun i j hij hj=>by omega)
 unfold kas_count
 rw[rV]
 have hk:=fun{α:Type}{f:Nat→KasT α}=>pC (P:=(· < n)) (lt:=eN r) (f:=f) (kas_asc p (n-1) 1) b4
 generalize d9 (eN r) (kas_asc p (n-1) 1)=m at b1 b2 b3 b5 hk
 by_cases e:m=n
 ·refine⟨m,p,?_,h,b1,by omega,b3,hk ?_⟩<;>rw[if_pos (by simp[e])]
  ·rfl
  ·trivial
 ·have ne:¬(m==n)=true:=by simp[e]
  by_cases q:m>1
  ·have lt:=b3 0 (m-1) (by omega) (by omega)
   refine⟨m,p,?_,h,b1,by omega,b3,hk ?_⟩<;>rw[if_neg ne,if_pos q]
   ·simp only[d9,decide_eq_true lt,if_true]
   ·simp only[fS,decide_eq_true lt,if_true]
    exact⟨h.lt (by omega) _,h.lt (by omega) _,trivial⟩
  ·have e1:m=1:=by omega
   subst e1
   have d1:qb r p 2:=fun i j hij hj=>by
    have:i=0:=by omega
    have:j=1:=by omega
    subst_vars
    exact b5 (by omega)
   obtain⟨m',c1,c2,c3,c4,c5⟩:=LB inj h (n-2) 2 (by omega) (by omega) d1
   obtain⟨m2,p2,t1,t2,t3,t4,t5,t6⟩:=Pn inj h (m:=m') (by omega) (by omega) c4
   have KW:d9 (eN r) (kas_descPart 1 n p)=(m2,p2)∧fS (· < n) (eN r) (kas_descPart 1 n p):=by
    unfold kas_descPart
    rw[rV,show n-(1+1)=n-2 by omega,c1]
    refine⟨?_,pC _ c5 ?_⟩
    ·rw[if_neg (by simp)];exact t1
    ·rw[c1,if_neg (by simp)];exact t6
   refine⟨m2,p2,?_,t2,t3,t4,t5,hk ?_⟩<;>rw[if_neg ne,if_neg q]
   ·exact KW.1
   ·exact KW.2
include inj in
theorem A4{p:Array Nat}(h:Pm n p) {k:Nat}(hk:k<n) (ha:iU r p k):∀(f lo hi:Nat),lo≤hi→hi≤k→hi-lo≤f→(∀i,i<lo→r (p.getD i 0)<r (p.getD k 0))→(∀i,hi≤i→i<k→r (p.getD k 0)<r (p.getD i 0)) →
  ∃l,d9 (eN r) (kas_place p k f lo hi)=l∧l≤k∧(∀i,i<l→r (p.getD i 0)<r (p.getD k 0))∧(∀i,l≤i→i<k→r (p.getD k 0)<r (p.getD i 0))∧fS (· < n) (eN r) (kas_place p k f lo hi)
 |0,lo,hi,h1,h2,h3,h4,h5=>⟨lo,rfl,by omega,h4,fun i h6 h7=>h5 i (by omega) h7,trivial⟩
 |f+1,lo,hi,h1,h2,h3,h4,h5=>by
  unfold kas_place
  by_cases e:lo ≥ hi
  ·rw[if_pos e]
   exact⟨lo,rfl,by omega,h4,fun i h6 h7=>h5 i (by omega) h7,trivial⟩
  ·rw[if_neg e]
   have a1:=h.lt (by omega) k
   have a2:=h.lt (by omega) ((lo+hi)/2)
   simp only[d9,fS]
   by_cases q:r (p.getD k 0)<r (p.getD ((lo+hi)/2) 0)
   ·simp only[decide_eq_true q,if_true]
    obtain⟨l,b1,b2,b3,b4,b5⟩:=A4 h hk ha f lo ((lo+hi)/2) (by omega) (by omega) (by omega) h4 (fun i h6 h7=>by
     by_cases z:i=(lo+hi)/2
     ·rw[z];exact q
     ·exact ajC q (ha _ i (by omega) h7))
    exact⟨l,b1,b2,b3,b4,a1,a2,b5⟩
   ·have ef:decide (r (p.getD k 0)<r (p.getD ((lo+hi)/2) 0))=false:=decide_eq_false q
    have hne:=By inj h (i:=k) (j:=(lo+hi)/2) hk (by omega) (by omega)
    simp only[ef,ahC,if_false]
    obtain⟨l,b1,b2,b3,b4,b5⟩:=A4 h hk ha f ((lo+hi)/2+1) hi (by omega) h2 (by omega) (fun i h6=>by
     by_cases z:i=(lo+hi)/2
     ·rw[z];omega
     ·have:=ha i ((lo+hi)/2) (by omega) (by omega);omega) h5
    exact⟨l,b1,b2,b3,b4,a1,a2,b5⟩
theorem MJ{p:Array Nat}{k l i:Nat}(hk:k<p.size) (hl:l≤k):(bubble p k (k-l)).getD i 0=if i=l then p.getD k 0 else if l<i∧i≤k then p.getD (i-1) 0 else p.getD i 0:=by
 have h:=getElem?_bubble (xs:=p) (src:=k) hk (k-l) (by omega) i
 rw[gD,h,show k-(k-l)=l by omega]
 by_cases e:i=l
 ·rw[if_pos e,if_pos e,gD]
 ·rw[if_neg e,if_neg e]
  by_cases e2:l<i∧i≤k
  ·rw[if_pos e2,if_pos e2,gD]
  ·rw[if_neg e2,if_neg e2,gD]
include inj in
theorem MS:∀(f:Nat) {p:Array Nat}(h:Pm n p) (k:Nat),k+f=n→iU r p k→∃p',d9 (eN r) (kas_bin f p k)=p'∧Pm n p'∧iU r p' n∧fS (· < n) (eN r) (kas_bin f p k)
 |0,p,h,k,hk,ha=>⟨p,rfl,h,by rw[←hk];exact ha,trivial⟩
 |f+1,p,h,k,hk,ha=>by
  have hs:=h.size
  obtain⟨l,b1,b2,b3,b4,b5⟩:=A4 inj h (k:=k) (by omega) ha k 0 k (by omega) (by omega) (by omega) (fun i hi=>by omega) (fun i h1 h2=>by omega)
  have ha':iU r (bubble p k (k-l)) (k+1):=fun i j hij hj=>by
   rw[MJ (by omega) b2,MJ (by omega) b2]
   by_cases e1:i=l
   ·rw[if_pos e1,if_neg (by omega),if_pos (by omega)]
    exact b4 (j-1) (by omega) (by omega)
   ·rw[if_neg e1]
    by_cases e2:j=l
    ·rw[if_pos e2,if_neg (by omega)]
     exact b3 i (by omega)
    ·rw[if_neg e2]
     by_cases e3:l<i∧i≤k
     ·rw[if_pos e3,if_pos (by omega)]
      exact ha _ _ (by omega) (by omega)
     ·rw[if_neg e3]
      by_cases e4:l<j∧j≤k
      ·rw[if_pos e4]
       by_cases e5:i=j-1
       ·omega
       ·exact ha _ _ (by omega) (by omega)
      ·rw[if_neg e4]
       exact ha _ _ (by omega) (by omega)
  obtain⟨p',c1,c2,c3,c4⟩:=MS f (h.bub k (k-l)) (k+1) (by omega) ha'
  unfold kas_bin
  refine⟨p',by rw[rV,b1];exact c1,c2,c3,pC _ b5 (by rw[b1];exact c4)⟩
include inj in
theorem Qp(h2:2≤n):∃p,d9 (eN r) (kas_sort n)=p∧Pm n p∧iU r p n∧fS (· < n) (eN r) (kas_sort n):=by
 have h0:Pm n (List.toArray (List.range n)):=⟨by simp⟩
 obtain⟨m,p,b1,b2,b3,b4,b5,b6⟩:=adT inj h0 h2
 unfold kas_sort
 rw[rV,b1]
 by_cases e:m<n
 ·have em:max m 1=m:=by omega
  obtain⟨p',c1,c2,c3,c4⟩:=MS inj (n-m) b2 m (by omega) b5
  refine⟨p',?_,c2,c3,pC _ b6 ?_⟩
  ·rw[if_pos e,em];exact c1
  ·rw[b1,if_pos e,em];exact c4
 ·have em:m=n:=by omega
  subst em
  exact⟨p,by rw[if_neg e];rfl,b2,b5,pC _ b6 (by rw[b1,if_neg e];trivial)⟩
end
end L2
namespace L2
open PySem PySem.Spec PyProof.Rows PySem.W
def cI:List Int→List Int→Bool
 |[],[]=>false
 |[],_::_=>true
 |_::_,[]=>false
 |a::as,b::bs=>if a=b then cI as bs else decide (a<b)
def fc(j k:Lk):Bool:=if j.1=k.1 then cI j.2 k.2 else decide (j.1<k.1)
section
variable {prog:Program}{w:World}{A:Around}{E:Value→Shared→Prop}{s:Shared}{Y:Addr→Prop}
theorem YY{x y:List Int}{a b:Addr}{P:PySem.Fin→Shared→Prop}(hx:IsTupleKey (intKind prog w) s.heap x a) (hy:IsTupleKey (intKind prog w) s.heap y b) (h:P (.done (.ret (.bool (cI x y)))) s) :
  wpAny (model prog w) A (Builtin.«tuple.__lt__» ⟨[.ref a,.ref b],[]⟩) P E s:=by
 have hTb:=hy.typeIs
 obtain⟨oa,xs,na,hoa,_,hda,Dz⟩:=hx
 obtain⟨ob,ys,nb,hob,_,hdb,hib⟩:=hy
 show wpAny _ _ (isInstance (.ref b) (.type "tuple") >>= _) _ _ s
 refine ahk (aiO hTb ajJ ?_)
 simp only[ah2,ahC,if_false]
 refine ahk (aiS hoa hda ?_)
 refine ahk (aiS hob hdb ?_)
 refine ahk ?_
 refine ajI _
  (fun rest r s'=>r.1=none∧s'=s∧∃x' y' xs' ys',rest=List.zip xs' ys'∧ItemsAre (intKind prog w) x' xs'∧ItemsAre (intKind prog w) y' ys'∧cI x' y'=cI x y∧decide (xs'.length<ys'.length)=decide (xs.size<ys.size))
  _ ?_ ?_ _ _ ⟨rfl,rfl,x,y,xs.toList,ys.toList,rfl,Dz,hib,rfl,by simp⟩
 ·rintro ⟨u,v⟩ rest r s' ⟨hr,rfl,x',y',xs',ys',hz,hx',hy',lN,hlen⟩
  cases hx' with
  |nil=>simp at hz
  | @cons k1 u' x'' Ae h1 Dn =>
   cases hy' with
   |nil=>simp at hz
   | @cons k2 v' Ac z9 h2 Dm =>
    simp only[akK,akR,ajq]at hz
    obtain⟨⟨rfl,rfl⟩,rfl⟩:=hz
    refine ahk ((intKind prog w).eqBool (a:=k1) (b:=k2) h1 h2 ?_)
    by_cases hk:k1=k2
    ·subst hk
     rw[decide_eq_true rfl]
     simp only[ah2,ahC,if_false]
     refine ahl ⟨rfl,rfl,x'',Ac,Ae,z9,rfl,Dn,Dm,?_,by simpa using hlen⟩
     rw[←lN]
     simp[cI]
    ·rw[decide_eq_false hk]
     simp only[ai7,if_true]
     have hf:cI x y=decide (k1<k2):=by rw[←lN];simp[cI,hk]
     rw[hf]at h
     obtain⟨t1,rfl⟩:=aiV h1
     obtain⟨t2,rfl⟩:=aiV h2
     refine ahk (aiM (ahk (show wpAny _ _ (compareOp .Lt (.int k1 t1) (.int k2 t2)) _ _ _ from lt_int ?_)))
     exact ahk (ahl (ahl (ahl h)))
 ·rintro ⟨r1,r2⟩ s' ⟨hr,rfl,x',y',xs',ys',hz,hx',hy',lN,hlen⟩
  simp only at hr
  subst hr
  refine ahl ?_
  have nG:decide (xs.size<ys.size)=cI x y:=by
   rw[←lN,←hlen]
   cases hx' with
   |nil =>
    cases hy' with
    |nil=>simp[cI]
    |cons _ _=>simp[cI]
   |cons _ _ =>
    cases hy' with
    |nil=>simp[cI]
    |cons _ _=>simp at hz
  show P (.done (.ret (.bool (decide (xs.size<ys.size))))) s'
  rw[nG];exact h
theorem YX{x y:List Int}{a b:Addr}{Q:Value→Shared→Prop}(hu:A.units<cLine) (hx:IsTupleKey (intKind prog w) s.heap x a) (hy:IsTupleKey (intKind prog w) s.heap y b) (h:Q (.bool (cI x y)) s) :
  wpAny (model prog w) A (compareOp .Lt (.ref a) (.ref b)) Q E s :=
 show wpAny _ _ (richCompare .Lt _ _) _ _ _ from akT (op:=.Lt) hx.typeIs hy.typeIs F.slot_tuple_lt
   (ah5 F.slot_tuple_lt hx.typeIs F.entry_tuple_lt (YY hx hy ⟨_,rfl,(fun e=>nomatch e),h⟩) (F.args_tuple_lt_2 _ _)) hu
theorem Zw{j k:Lk}{a b:Addr}{Q:Bool→Shared→Prop}(hu:A.units<cLine) (hx:cA prog w Y s.heap j a) (hy:cA prog w Y s.heap k b) (h:Q (fc j k) s):wpAny (model prog w) A (keyLt' (tuples' true) (.ref a) (.ref b)) Q E s:=by
 obtain⟨o,n,t,y,_,_,h1,h2,h3,h4⟩:=hx
 obtain⟨o',n',t',y',_,_,g1,g2,g3,g4⟩:=hy
 refine kat_lt h1 h3 g1 g3 ?_
 show KatLex prog w A true (decide (2<2)) Q [(.int j.1 t,.int k.1 t'),(.ref y,.ref y')] 0 s
 refine kat_cons ((intKind prog w).eqBool (a:=j.1) (b:=k.1) (by simp[intKind,Value.isInt]) (by simp[intKind,Value.isInt]) ?_)
 unfold fc at h
 by_cases e1:j.1=k.1
 ·rw[if_pos e1]at h
  rw[decide_eq_true e1]
  refine kat_yes (kat_cons ((tupleKind (intKind prog w)).eqBool hu h4 g4 ?_))
  by_cases e2:j.2=k.2
  ·rw[decide_eq_true e2]
   refine kat_yes (kat_nil ?_)
   have:cI j.2 k.2=false:=by
    rw[e2]
    generalize k.2=l
    induction l with
    |nil=>rfl
    |cons a l ih=>simp[cI,ih]
   rw[this]at h
   simpa using h
  ·rw[decide_eq_false e2]
   refine kat_no (kat_one _ _ (YX hu h4 g4 ?_))
   exact h
 ·rw[if_neg e1]at h
  rw[decide_eq_false e1]
  refine kat_no ?_
  exact oneLt_int h
end
end L2
namespace L2
open PySem PySem.Spec PyProof.Rows PySem.W
theorem JU:∀l:List Int,cI l l=false
 |[]=>rfl
 |a::l=>by simp[cI,JU l]
theorem JR:∀{l m:List Int},l≠m→cI l m=true∨cI m l=true
 |[],[],h=>absurd rfl h
 |[],_::_,_=>.inl rfl
 |_::_,[],_=>.inr rfl
 |a::l,b::m,h=>by
  unfold cI
  by_cases e:a=b
  ·subst e
   simp only[if_true]
   exact JR fun q=>h (by rw[q])
  ·rw[if_neg e,if_neg (fun q=>e q.symm)]
   simp only[decide_eq_true_eq]
   omega
theorem lex_trans:∀{l m n:List Int},cI l m=true→cI m n=true→cI l n=true
 |[],[],_,h,_=>by cases h
 |[],_::_,[],_,h=>by cases h
 |[],_::_,_::_,_,_=>rfl
 |_::_,[],_,h,_=>by cases h
 |_::_,_::_,[],_,h=>by cases h
 |a::l,b::m,d::n,h,g=>by
  unfold cI at h g ⊢
  by_cases e:a=b
  ·subst e
   rw[if_pos rfl]at h
   by_cases e2:a=d
   ·subst e2
    rw[if_pos rfl]at g ⊢
    exact lex_trans h g
   ·rw[if_neg e2]at g ⊢
    exact g
  ·rw[if_neg e]at h
   have h:=of_decide_eq_true h
   by_cases e2:b=d
   ·subst e2
    rw[if_neg e]
    exact decide_eq_true h
   ·rw[if_neg e2]at g
    have g:=of_decide_eq_true g
    rw[if_neg (by omega)]
    exact decide_eq_true (by omega)
theorem pe(k:Lk):fc k k=false:=by unfold fc;rw[if_pos rfl,JU]
theorem BO{j k:Lk}(h:j≠k):fc j k=true∨fc k j=true:=by
 unfold fc
 by_cases e:j.1=k.1
 ·rw[if_pos e,if_pos e.symm]
  exact JR fun q=>h (Prod.ext e q)
 ·rw[if_neg e,if_neg (fun q=>e q.symm)]
  simp only[decide_eq_true_eq]
  omega
theorem xZ{i j k:Lk}(h:fc i j=true) (g:fc j k=true):fc i k=true:=by
 unfold fc at h g ⊢
 by_cases e:i.1=j.1
 ·rw[if_pos e]at h
  rw[e]
  by_cases e2:j.1=k.1
  ·rw[if_pos e2]at g ⊢
   exact lex_trans h g
  ·rw[if_neg e2]at g ⊢
   exact g
 ·rw[if_neg e]at h
  have h:=of_decide_eq_true h
  by_cases e2:j.1=k.1
  ·rw[←e2,if_neg e];exact decide_eq_true h
  ·rw[if_neg e2]at g
   have g:=of_decide_eq_true g
   rw[if_neg (by omega)]
   exact decide_eq_true (by omega)
theorem YZ{j k:Lk}(h:fc j k=true):fc k j=false:=by
 cases q:fc k j with
 |false=>rfl
 |true=>have:=xZ h q;rw[pe]at this;cases this
def jT(ks:List Lk) (k:Lk):Nat:=(ks.filter fun z=>fc z k).length
theorem Lr{α:Type}{p q:α→Bool}:∀{l:List α},(∀a∈l,p a=true→q a=true)→(l.filter p).length≤(l.filter q).length
 |[],_=>aho _
 |a::l,h=>by
  have ih:=Lr (l:=l) fun x hx=>h x (.tail _ hx)
  cases hp:p a with
  |true=>rw[ajr hp,ajr (h a (.head _) hp)];simpa using ih
  |false =>
   rw[aj8 (by simp[hp])]
   rw[alP]
   split
   ·simp;omega
   ·exact ih
theorem Lq{α:Type}{p q:α→Bool}:∀{l:List α},(∀a∈l,p a=true→q a=true)→(∃a∈l,p a=false∧q a=true)→(l.filter p).length<(l.filter q).length
 |[],_,⟨a,ha,_⟩=>by cases ha
 |a::l,h,⟨b,hb,h1,h2⟩=>by
  have hl:∀x∈l,p x=true→q x=true:=fun x hx=>h x (.tail _ hx)
  rcases ahm.mp hb with rfl|hb
  ·rw[aj8 (by simp[h1]),ajr h2]
   have:=Lr hl
   simp;omega
  ·have ih:=Lq hl ⟨b,hb,h1,h2⟩
   cases hp:p a with
   |true=>rw[ajr hp,ajr (h a (.head _) hp)];simpa using ih
   |false =>
    rw[aj8 (by simp[hp]),alP]
    split
    ·simp;omega
    ·exact ih
theorem wY{ks:List Lk}{j k:Lk}(hj:j∈ks) (h:fc j k=true):jT ks j<jT ks k :=
 Lq (fun a _ ha=>xZ ha h) ⟨j,hj,pe j,h⟩
theorem HK{ks:List Lk}{j k:Lk}(hj:j∈ks) (hk:k∈ks):fc j k=decide (jT ks j<jT ks k):=by
 by_cases e:j=k
 ·subst e;rw[pe];simp
 ·rcases BO e with h|h
  ·rw[h,decide_eq_true (wY hj h)]
  ·rw[YZ h,decide_eq_false (by have:=wY hk h;omega)]
theorem R7{ks:List Lk}{j k:Lk}(hj:j∈ks) (hk:k∈ks) (e:jT ks j=jT ks k):j=k:=aia fun q=>by
 rcases BO q with h|h
 ·have:=wY hj h;omega
 ·have:=wY hk h;omega
abbrev nW(l:List Lk):Prop:=l.Pairwise fun a b=>fc a b=true
def ny(x:Lk):List Lk→List Lk
 |[]=>[x]
 |y::l=>if fc x y=true then x::y::l else if x=y then y::l else y::ny x l
def eF:List Lk→List Lk
 |[]=>[]
 |x::l=>ny x (eF l)
theorem BL{x y:Lk}:∀{l:List Lk},y∈ny x l↔y=x∨y∈l
 |[]=>by simp[ny]
 |z::l=>by
  unfold ny
  split
  ·simp
  ·split
   ·rename_i h;subst h;simp
   ·simp only[ahm,BL (l:=l)]
    constructor
    ·rintro (h|h|h)<;>simp[h]
    ·rintro (h|h|h)<;>simp[h]
theorem GK{x:Lk}:∀{l:List Lk},nW l→nW (ny x l)
 |[],_=>by simp[ny]
 |z::l,h=>by
  obtain⟨h1,h2⟩:=air.mp h
  unfold ny
  split
  ·rename_i hx
   exact air.mpr ⟨fun b hb=>by
    rcases ahm.mp hb with rfl|hb
    ·exact hx
    ·exact xZ hx (h1 b hb),h⟩
  ·rename_i hx
   split
   ·exact h
   ·rename_i hne
    refine air.mpr ⟨fun b hb=>?_,GK h2⟩
    rcases BL.mp hb with rfl|hb
    ·rcases BO hne with q|q
     ·exact absurd q hx
     ·exact q
    ·exact h1 b hb
theorem tY:∀l:List Lk,nW (eF l)
 |[]=>.nil
 |x::l=>GK (tY l)
theorem uQ{y:Lk}:∀{l:List Lk},y∈eF l↔y∈l
 |[]=>by simp[eF]
 |x::l=>by simp[eF,BL,uQ (l:=l)]
theorem GL:∀{l m:List Lk},nW l→nW m→(∀x,x∈l↔x∈m)→l=m
 |[],[],_,_,_=>rfl
 |[],y::m,_,_,h=>absurd ((h y).mpr (.head _)) (by simp)
 |x::l,[],_,_,h=>absurd ((h x).mp (.head _)) (by simp)
 |x::l,y::m,h1,h2,h=>by
  obtain⟨a1,a2⟩:=air.mp h1
  obtain⟨b1,b2⟩:=air.mp h2
  have Dg:∀z,fc z z=true→False:=fun z q=>by rw[pe]at q;cases q
  have e:x=y:=by
   rcases ahm.mp ((h x).mp (.head _))with e|hx
   ·exact e
   ·rcases ahm.mp ((h y).mpr (.head _))with e|hy
    ·exact e.symm
    ·exact(Dg x (xZ (a1 y hy) (b1 x hx))).elim
  subst e
  rw[GL a2 b2 fun z=>?_]
  constructor
  ·intro hz
   rcases ahm.mp ((h z).mp (.tail _ hz))with e|q
   ·subst e;exact(Dg _ (a1 z hz)).elim
   ·exact q
  ·intro hz
   rcases ahm.mp ((h z).mpr (.tail _ hz))with e|q
   ·subst e;exact(Dg _ (b1 z hz)).elim
   ·exact q
theorem YT{ks:List Lk}{x y:Lk}:y∈e9 ks x↔y∈ks∨y=x:=by
 unfold e9
 split
 ·rename_i h
  exact⟨.inl,fun q=>q.elim id fun e=>e▸h⟩
 ·simp
theorem XR{ks:List Lk}{x:Lk}(h:ks.Nodup):(e9 ks x).Nodup:=by
 unfold e9
 split
 ·exact h
 ·rename_i hx
  refine ak0.mpr ⟨h,by simp,fun a ha b hb=>?_⟩
  rw[aiz]at hb
  subst hb
  exact fun e=>hx (e▸ha)
theorem xW:∀{xs ks:List Lk}{y:Lk},y∈xs.foldl e9 ks↔y∈ks∨y∈xs
 |[],ks,y=>by simp
 |x::xs,ks,y=>by rw[ajx,xW,YT,ahm,or_assoc]
theorem xS:∀{xs ks:List Lk},ks.Nodup→(xs.foldl e9 ks).Nodup
 |[],_,h=>h
 |x::xs,_,h=>xS (xs:=xs) (XR h)
section
variable {prog:Program}{w:World}{A:Around}{E:Value→Shared→Prop}{s:Shared}{Y:Addr→Prop}
theorem GS{h:Heap}:∀(L:List (Lk×Addr)),(∀q∈L,cA prog w Y h q.1 q.2)→∃fs:List Value,fs.length=L.length∧KatTups h (L.map fun q=>Value.ref q.2) fs∧∀v∈fs,∃i t,v=Value.int i t
 |[],_=>⟨[],rfl,.nil,fun v hv=>by cases hv⟩
 |q::L,hk=>by
  obtain⟨fs,h1,h2,h3⟩:=GS L fun q hq=>hk q (.tail _ hq)
  obtain⟨o,n,t,y,_,_,g1,g2,g3,_⟩:=hk q (.head _)
  refine⟨.int q.1.1 t::fs,by simp[h1],KatTups.cons g1 g2 g3 rfl h2,fun v hv=>?_⟩
  rcases ahm.mp hv with rfl|hv
  ·exact⟨_,_,rfl⟩
  ·exact h3 v hv
def bV(L:List (Lk×Addr)):List Value:=L.map fun q=>Value.ref q.2
theorem Qn{L:List (Lk×Addr)}{Q:SortSt→Shared→Prop}(hu:A.units+8<cLine) (hk:∀q∈L,cA prog w Y s.heap q.1 q.2) (nd:(L.map (·.1)).Nodup) (h2:2≤L.length) (h64:L.length<64)
  (h:∀st' (L3:List (Lk×Addr)),(arrOf st').map (·.2)=(bV L3).toArray→failedOf st'=none→L3.Perm L→nW (L3.map (·.1))→Q st' s) :
  wpAny (model prog w) A ((sortRuns').run (SortSt.mk' (tuples' true) ((bV L).toArray.zip (bV L).toArray) #[] 7 none)) (fun r s'=>Q r.2 s') E s:=by
 have hl:(bV L).length=L.length:=by simp[bV]
 have d0:Lk×Addr:=((0,[]),0)
 have at':∀i,i<L.length→(bV L).getD i Value.none=Value.ref (L.getD i d0).2:=fun i hi=>by
  simp[bV,ahr,hi]
 have mem:∀i,i<L.length→L.getD i d0∈L:=fun i hi=>by
  have:L.getD i d0=L[i]:=by simp[ahr,hi]
  rw[this];exact ail hi
 have rZ:∀i,i<L.length→(L.getD i d0).1∈L.map (·.1):=fun i hi=>ahs.mpr ⟨_,mem i hi,rfl⟩
 have inj:∀i j,i<L.length→j<L.length→jT (L.map (·.1)) (L.getD i d0).1=jT (L.map (·.1)) (L.getD j d0).1→i=j:=fun i j hi hj e=>by
  have e1:=R7 (rZ i hi) (rZ j hj) e
  have a1:(L.map (·.1))[i]'(by simpa using hi)=(L.map (·.1))[j]'(by simpa using hj):=by
   have b1:L.getD i d0=L[i]:=by simp[ahr,hi]
   have b2:L.getD j d0=L[j]:=by simp[ahr,hj]
   rw[b1,b2]at e1
   simpa using e1
  exact(aiv nd).mp a1
 obtain⟨p,e1,e2,e3,e4⟩:=Qp (n:=L.length) (r:=fun i=>jT (L.map (·.1)) (L.getD i d0).1) inj h2
 refine kat_run (κ:=tuples' true) (ks:=bV L) (vs:=bV L) (G:=fun p' s'=>s'=s∧p'=p) rfl (by omega) (by omega) (fun p' st' s' hp har hf hg=>?_) ?_
 ·obtain⟨rfl,rfl⟩:=hg
  have hsz:=e2.size
  refine h st' (p'.toList.map fun i=>L.getD i d0) ?_ hf ?_ ?_
  ·rw[kat_snds rfl har]
   congr 1
   unfold bV
   rw[ahK]
   refine ah6 fun i hi=>?_
   have:=ahn.mp (e2.pm.mem_iff.mp hi)
   exact at' i this
  ·refine(e2.pm.map _).trans (alQ ?_)
   refine aim (by simp) fun i h1 h2=>?_
   simp at h1
   simp[ahr,h1]
  ·rw[ahK]
   show List.Pairwise (fun a b=>fc a b=true) _
   rw[akP,ai5]
   intro i j hi hj hij
   simp at hi hj
   have:=e3 i j hij (by omega)
   have q1:p'.getD i 0=p'.toList[i]:=by simp[Array.getD,hi]
   have q2:p'.getD j 0=p'.toList[j]:=by simp[Array.getD,hj]
   rw[q1,q2]at this
   have m1:=ahn.mp (e2.pm.mem_iff.mp (ail (l:=p'.toList) (by simpa using hi)))
   have m2:=ahn.mp (e2.pm.mem_iff.mp (ail (l:=p'.toList) (by simpa using hj)))
   show fc (L.getD p'.toList[i] d0).1 (L.getD p'.toList[j] d0).1=true
   rw[HK (rZ _ m1) (rZ _ m2)]
   exact decide_eq_true this
 ·rw[hl]
  refine J7 (P:=(· < L.length)) (lt:=eN fun i=>jT (L.map (·.1)) (L.getD i d0).1) (fun i j C hi hj hC=>?_) _ e4 ⟨rfl,e1⟩
  unfold kas_ask
  rw[at' i hi,at' j hj]
  refine Zw (by omega) (hk _ (mem i hi)) (hk _ (mem j hj)) ?_
  rw[HK (rZ i hi) (rZ j hj)]
  exact hC
theorem Qm{a:Addr}{L:List (Lk×Addr)}{n:Nat}{P:PySem.Fin→Shared→Prop}(hu:A.units+8<cLine) (ho:s.heap.get? a=some (seqObj "list" (bV L).toArray n)) (vg:∀b,Y b→b<s.heap.objs.size∧b≠a) (hk:∀q∈L,cA prog w Y s.heap q.1 q.2) (nd:(L.map (·.1)).Nodup) (h64:L.length<64)
  (h:∀L3:List (Lk×Addr),L3.Perm L→nW (L3.map (·.1))→P (.done (.ret .none)) {s with heap:=sortedHeap s.heap a (bV L) (bV L3).toArray}) :
  wpAny (model prog w) A (Builtin.«list.sort» ⟨[.ref a],[]⟩) P E s:=by
 have hl:(bV L).length=L.length:=by simp[bV]
 rw[list_sort_plain]
 have ha:a<s.heap.objs.size:=ahq ho
 refine ahk (listItems_at ho rfl ?_)
 refine ahk (aj9 ho rfl ?_ (by rw[aht,aic];omega) (ahY _))
 obtain⟨e1,pK⟩:∃e1,(s.heap.update a (Obj.mapSeq fun _=>#[])).get? a=some (seqObj "list" #[] e1):=⟨_,aiU ho (fun _=>#[])⟩
 refine ahk (seqEpoch_at pK rfl ?_)
 refine ahk (wpAny_newTuple ?_ (by show(bV L).length≤_;rw[aic];omega))
 refine ahk (aka ?_ (ahY _))
 refine aif ?_
 have ho6:(((s.heap.update a (Obj.mapSeq fun _=>#[])).push (seqObj "tuple" (bV L).toArray 0)).push (seqObj "list" #[] 0)).get? a=some (seqObj "list" #[] e1):=by
  rw[Heap.get?_push_ne _ _ _ (by rw[size_push',ajL];exact ahw (aij ha)),Heap.get?_push_ne _ _ _ (by rw[ajL];exact ahw ha)]
  exact pK
 show wpAny (model prog w) A _ P E {s with heap:=((s.heap.update a (Obj.mapSeq fun _=>#[])).push (seqObj "tuple" (bV L).toArray 0)).push (seqObj "list" #[] 0)}
 have KQ:∀q∈L,cA prog w Y (((s.heap.update a (Obj.mapSeq fun _=>#[])).push (seqObj "tuple" (bV L).toArray 0)).push (seqObj "list" #[] 0)) q.1 q.2:=fun q hq=>(hk q hq).at fun b yb o e =>
  ahp _ (ahp _ ((aid _ _ (ah7 (vg b yb).2)).trans e))
 dsimp only
 have hsz:(bV L).toArray.size=L.length:=by simp[bV]
 by_cases h2:(bV L).toArray.size<2
 ·rw[if_pos h2,if_pos h2]
  refine ahk (ahl ?_)
  rw[StateT.run_pure]
  refine ahk (ahl ?_)
  dsimp only
  have hz:((arrOf (SortSt.mk' general' ((bV L).toArray.zip (bV L).toArray) #[] 7 none)).map (·.2))=(bV L).toArray:=by
   show(((bV L).toArray.zip (bV L).toArray).map (·.2))=_
   apply alR.mp
   rw[Array.toList_map,Array.toList_zip]
   exact List.map_snd_zip (aho _)
  refine ahk (seqEpoch_at ho6 rfl ?_)
  refine ahk (aj9 ho6 rfl ?_ (ahY _) (by rw[hz,hsz,aic];omega))
  rw[hz]
  simp only[bne_self_eq_false,ahC,if_false]
  refine ahl (h L (.refl _) ?_)
  rw[hsz]at h2
  match L,h2 with
  |[],_=>exact .nil
  |[q],_=>exact List.pairwise_singleton _ _
 ·rw[if_neg h2,if_neg h2]
  obtain⟨fs,f1,f2,f3⟩:=GS (h:=((s.heap.update a (Obj.mapSeq fun _=>#[])).push (seqObj "tuple" (bV L).toArray 0)).push (seqObj "list" #[] 0)) L KQ
  refine ahk (kat_kind (T:=.type "int") f2 (by omega) (fun v hv=>?_) rfl ?_)
  ·obtain⟨i,t,rfl⟩:=f3 v hv
   exact Looks.of_pure rfl
  show wpAny _ _ (sortRuns'.run (SortSt.mk' (tuples' true) ((bV L).toArray.zip (bV L).toArray) #[] 7 none) >>= _) _ _ _
  refine ahk (Qn (Q:=fun st' s'=>s'={s with heap:=((s.heap.update a (Obj.mapSeq fun _=>#[])).push (seqObj "tuple" (bV L).toArray 0)).push (seqObj "list" #[] 0)}∧∃L3:List (Lk×Addr),(arrOf st').map (·.2)=(bV L3).toArray∧failedOf st'=none∧L3.Perm L∧nW (L3.map (·.1))) hu KQ nd (by omega) h64 (fun st' L3 a1 a2 a3 a4=>⟨rfl,L3,a1,a2,a3,a4⟩) |> fun z=>ahU z ?_ fun _ _ e=>e)
  rintro ⟨⟨⟩,st'⟩ s' ⟨rfl,L3,a1,a2,a3,a4⟩
  dsimp only
  have hl3:(bV L3).length=L.length:=by simp[bV,a3.length_eq]
  refine ahk (seqEpoch_at ho6 rfl ?_)
  refine ahk (aj9 ho6 rfl ?_ (ahY _) (by rw[a1,aht,hl3,aic];omega))
  rw[a1,a2]
  simp only[bne_self_eq_false,ahC,if_false]
  exact ahl (h L3 a3 a4)
theorem Qk{a:Addr}{xs:List Lk}{Q:Value→Shared→Prop}(hh:A.handled=none) (hu:A.units+16<cLine) (vg:∀b,Y b→∃o,s.heap.get? b=some o) (hS:iP prog w hL Y s.heap a (dj xs)) (hn:(dj xs).length<64)
  (h:∀(h1 h':Heap) (tk c:Nat) (L3:List (Lk×Addr)),(∀b o,s.heap.get? b=some o→h1.get? b=some o)→(∀b o,h1.get? b=some o→h'.get? b=some o)→h'.get? h1.objs.size=some (seqObj "list" (bV L3).toArray c) →
   (∀q∈L3,cA prog w Y h' q.1 q.2)→L3.map (·.1)=eF xs→Q (.ref h1.objs.size) {s with heap:=h',toks:=tk}) :
  wpAny (model prog w) A (call (.builtin "sorted") [.ref a]) Q E s:=by
 obtain⟨o,es,ep,t,L,ho,hex,hd,I,hpl,pL,hLe,hk,hp⟩:=hS
 have hlen:es.size=(dj xs).length:=by
  have:=congrArg List.length hLe
  rw[ahx,ahO]at this
  rw[this,←hp.length_eq,ahx]
 have hok:iB w s.heap a es ep t:=⟨o,ho,hex,hd,⟨I.size,I.up,I.le,I.dm,I.mask,hpl⟩,pL⟩
 refine alS kind_sorted plain_sorted entry_sorted (args_sorted1 _) ?_
 unfold Builtin.«sorted»
 refine ahk (m:=checkCount "sorted" 1 1 _) (ahl ?_)
 refine ahk (kdu_collect (A:=A.in1) (Qi (prog:=prog)) hh hok (by rw[aic];omega) fun h1 tk acc hkp hacc=>?_)
 have acv:acc.toList=(i8 w a ep es).toList.map (·.2):=by
  have hlo:=(xy w a ep es).length_eq
  rw[ahO,ahO]at hlo
  apply alT
  intro i
  rcases ais i acc.size with q|q
  ·have h3:=hacc.2 i acc[i] (ai8 q)
   rw[ahP,aie,aie,h3,ai8 q]
  ·have h4:=hacc.1
   rw[ai6 (by simpa using q),ai6 (by simp;omega)]
 obtain⟨L2,vj,j8⟩:∃L2:List (Lk×Addr),(i8 w a ep es).toList=L2.map (kg hL)∧L2.Perm L:=by
  have lJ:=xy w a ep es
  rw[hLe]at lJ
  exact Ij lJ
 have acu:acc.toList=bV L2:=by
  rw[acv,vj,ahK]
  rfl
 have hk1:∀q∈L2,cA prog w Y h1 q.1 q.2:=fun q hq=>(hk q (j8.mem_iff.mp hq)).at fun b yb o e=>hkp b o e
 have hal:L2.length<64:=by
  rw[j8.length_eq]
  have:=hp.length_eq
  rw[ahx]at this
  omega
 have nd:(L2.map (·.1)).Nodup:=((j8.map (·.1)).trans hp).nodup_iff.mpr (xS .nil)
 have hrl:(bV L2).length=L2.length:=by simp[bV]
 rw[acu]
 refine ahk (aka ?_ (by rw[aic];omega))
 have lK:(h1.push (seqObj "list" (bV L2).toArray 0)).get? h1.objs.size=some (seqObj "list" (bV L2).toArray 0):=ahB _ rfl
 refine ahk (aif (ah5 slot_list_sort ⟨_,lK,rfl⟩ entry_list_sort (Qm (Y:=Y) (s:={s with heap:=h1.push (seqObj "list" (bV L2).toArray 0),toks:=tk}) (by show A.units+1+1+8<cLine;omega) lK (fun b yb=>?_) (fun q hq=>(hk1 q hq).at fun b yb o e=>ahp _ e) nd hal fun L3 a1 a2=>⟨_,rfl,?_⟩) (args_list_sort _)))
 ·obtain⟨o',e'⟩:=vg b yb
  have:=ahq (hkp b o' e')
  exact⟨by show b<(h1.push _).objs.size;rw[ahQ];exact aij this,ahw this⟩
 refine ahl ⟨_,rfl,?_⟩
 have hne:∀b o,h1.get? b=some o→b≠h1.objs.size:=fun b o e=>ahw (ahq e)
 have g1:=aiU lK (fun _=>#[])
 have g2:=aiU (ahp (seqObj "list" #[] 0) (ahp (seqObj "tuple" (bV L2).toArray 0) g1)) fun _=>(bV L3).toArray
 have kp:∀b o,h1.get? b=some o→(sortedHeap (h1.push (seqObj "list" (bV L2).toArray 0)) h1.objs.size (bV L2) (bV L3).toArray).get? b=some o:=fun b o e=>by
  have q:=ah7 (hne b o e)
  exact(aid _ _ q).trans (ahp _ (ahp _ ((aid _ _ q).trans (ahp _ e))))
 refine h h1 _ tk _ L3 hkp kp g2 (fun q hq=>(hk1 q (a1.mem_iff.mp hq)).at fun b yb o e=>kp b o e) ?_
 refine GL a2 (tY xs) fun x=>?_
 rw[((a1.trans j8).map (·.1)).mem_iff,hp.mem_iff,uQ]
 unfold dj
 rw[xW]
 simp
end
end L2
namespace L2
open PySem PySem.Spec PyProof.Rows
def kI(H:Hp) (a:Addr) (k:Lk):Prop:=∃y,H a=some (.tup [.int k.1,.ref y])∧H y=some (.tup (k.2.map V.int))
def fk(H:Hp):List Addr→List Lk→Prop
 |[],[]=>True
 |a::as,k::ks=>kI H a k∧fk H as ks
 |_,_=>False
theorem kI.mono{H H':Hp}{a:Addr}{k:Lk}(h:kI H a k) (m:∀b xs,H b=some (.tup xs)→H' b=some (.tup xs)):kI H' a k :=
 let⟨y,h1,h2⟩:=h;⟨y,m _ _ h1,m _ _ h2⟩
theorem fk.mono{H H':Hp}(m:∀b xs,H b=some (.tup xs)→H' b=some (.tup xs)):∀{as:List Addr}{ks:List Lk},fk H as ks→fk H' as ks
 |[],[],_=>trivial
 |[],_::_,h=>h.elim
 |_::_,[],h=>h.elim
 |_::_,_::_,h=>⟨h.1.mono m,fk.mono m h.2⟩
theorem fk.len{H:Hp}:∀{as:List Addr}{ks:List Lk},fk H as ks→as.length=ks.length
 |[],[],_=>rfl
 |[],_::_,h=>h.elim
 |_::_,[],h=>h.elim
 |_::_,_::_,h=>congrArg (· + 1) (fk.len h.2)
theorem fk.at{H:Hp}:∀{as:List Addr}{ks:List Lk},fk H as ks→∀{i:Nat}{a:Addr}{k:Lk},as[i]? = some a→ks[i]? = some k→kI H a k
 |[],[],_,i,_,_,h,_=>by cases i<;>cases h
 |[],_::_,h,_,_,_,_,_=>h.elim
 |_::_,[],h,_,_,_,_,_=>h.elim
 |_::_,_::_,h,0,_,_,e1,e2=>by cases e1;cases e2;exact h.1
 |_::_,_::_,h,i+1,_,_,e1,e2=>fk.at h.2 (i:=i) e1 e2
def acq(x:Lk×Addr×Value):DictEntry:=⟨hL x.1,.ref x.2.1,x.2.2⟩
def fV(a:Addr) (kvs:List (Lk×Int)) (as:List Addr):Heap→Prop:=fun h=>∃o es ep,∃xs:List (Lk×Addr×Value),h.get? a=some o∧o.ExactDict∧o.data=.dict es ep∧es.toList=xs.map acq∧xs.map (·.1)=kvs.map (·.1)∧xs.map (·.2.1)=as∧Vals (kvs.map fun kv=>V.int kv.2) (xs.map (·.2.2))
end L2
namespace L2
open PySem PySem.Spec PyProof.Rows
def isStar:Expr→Bool
 |.Starred _ _=>true
 |_=>false
theorem eV{a:Expr}{es:List Expr}{env:Env}(h:isStar a=false):starEach (a::es) env=(false,eval a env)::starEach es env:=by
 cases a<;>first|(cases h;done)|(simp only[starEach];done)
def noStar(es:List Expr):Bool:=es.all fun a=>!isStar a
theorem iE{es:List Expr}{env:Env}{pos:Pos}(h:noStar es=true):(backTo pos (starEach es env)).any (·.1)=false:=by
 induction es with
 |nil=>simp only[starEach];rfl
 |cons a es ih =>
  have h:(!isStar a&&noStar es)=true:=h
  rw[ah4]at h
  rw[eV (by simpa using h.1)]
  have:=ih h.2
  simpa[backTo]using this
theorem oz{a:Expr}{env:Env}(h:isStar a=false):starEach [a] env=[(false,eval a env)]:=by
 rw[eV h];simp only[starEach]
theorem AF{a b:Expr}{env:Env}(h:isStar a=false) (g:isStar b=false):starEach [a,b] env=[(false,eval a env),(false,eval b env)]:=by
 rw[eV h,oz g]
theorem AE{a:Expr}{env:Env}{pos:Pos}(h:isStar a=false):((backTo pos (starEach [a] env)).all (fun x=>!x.1)&&(backToKw pos (keywordEach [] env)).all (fun x=>x.1.isSome)
   && decide ([a].length+([]:List Keyword).length+(if([]:List Keyword).isEmpty then 0 else 1)<30))=true:=by
 rw[oz h];simp[backTo,backToKw,keywordEach]
inductive D where
 |aG|bl (b:Bool)|int (i:Int)|str (x:Str)|ty (n:String)|tup (l:List D)|lst (l:List D)|ref (k:Nat)|ck (l:List Int)|fn (x:Str) (n:Nat)|exc (x:Str)|jf|dct (ks:List (Int×Int))|gm (kvs:List (Lk×Int))|lam (k:Nat) (e:Expr) (ns:List Str) (l:List D)
inductive Cell where
 |lst (l:List D)
mutual
def noRef:D→Bool
 |.tup l=>bK l
 |.lst l=>bK l
 |.ref _=>false
 |.aG=>true
 |.bl _=>true
 |.int _=>true
 |.str _=>true
 |.ty _=>true
 |.ck _=>true
 |.fn _ _=>true
 |.exc _=>true
 |.jf=>true
 |.dct _=>true
 |.gm _=>true
 |.lam _ _ _ _=>false
def bK:List D→Bool
 |[]=>true
 |d::l=>noRef d&&bK l
end
theorem uL:∀{l m:List D},bK (l++m)=(bK l&&bK m)
 |[],m=>by simp[bK]
 |d::l,m=>by simp[bK,uL (l:=l),Bool.and_assoc]
theorem Jb:∀{l:List D}{i:Nat}{d:D},bK l=true→noRef d=true→bK (l.set i d)=true
 |[],i,d,h,g=>h
 |b::l,0,d,h,g=>by simp_all[bK]
 |b::l,i+1,d,h,g=>by
  simp only[bK,ah4]at h
  simp only[alx,bK,ah4]
  exact⟨h.1,Jb h.2 g⟩
theorem gS:∀{l:List D},bK l=true↔∀d∈l,noRef d=true
 |[]=>by simp[bK]
 |d::l=>by simp[bK,gS (l:=l)]
theorem XF{l:List Int}:bK (l.map D.int)=true:=gS.mpr fun d h=>by
 obtain⟨i,_,rfl⟩:=ahs.mp h
 rfl
inductive R (α:Type) where
 |ok (a:α) (c:List Cell)
 |bad
def R.bind{α β:Type}(r:R α) (f:α→List Cell→R β):R β:=match r with
 |.ok a c=>f a c
 |.bad=>.bad
@[simp] theorem R.aC{α β:Type}{a:α}{c:List Cell}{f:α→List Cell→R β}:(R.ok a c).bind f=f a c:=rfl
@[simp] theorem R.ahc{α β:Type}{f:α→List Cell→R β}:(R.bad:R α).bind f=.bad:=rfl
def J1:List Str:=["greatest_among","web_of","other_web","turned_at","pairs_web","field_web","net_web"]
def Zo(x:Str):Str:=x++".<locals>."++"<lambda>"
def LW(c:Addr) (q:Str):Heap→Prop:=fun h=>h.CodeRec (.ref c) q
def Zp(a:Addr) (o:Obj):Heap→Prop:=fun h=>h.get? a=some o
def afn(e:Expr) (o:Obj) (q:Str) (c:Addr) (cl:List (Str×Addr)):Prop:=match e with
 |.Lambda params body scope _=>∃pm ctv,o=PySem.W.kla_obj "<lambda>" q params body scope cl pm c ctv
 |_=>False
def aar:HO→Bool
 |.fu _=>true
 |_=>false
def tP(H:Hp) (cl:List (Str×Addr)):List Str→List V→Prop
 |[],xs=>xs=[]
 |x::ns,xs=>∃v r c oc u,xs=v::r∧cl.lookup x=some c∧H c=some (.fF oc (.own 0))∧oc.data=.cell (some u)∧RelV v u∧tP H cl ns r
def aft(cl:List (Str×Addr)) (ns:List Str):Prop:=(∀x y c,cl.lookup x=some c→cl.lookup y=some c→x=y)∧∀x c,cl.lookup x=some c→x∈ns
def TabAt(H:Hp) (P:Addr) (q:Str):Prop:=∃ps,H P=some (.fu ps)∧TriplesOk ps.toList∧∀pos cv,codeAmong pos ps.toList=some cv→∃c,cv=.ref c∧H c=some (.ext (LW c q))
def vR(K:PySem.W.Frag) (H:Hp):Prop:=∀x∈J1,∀c P,PySem.W.tabIn K x=some (c,P)→TabAt H P (Zo x)
theorem tP.mono{H H':Hp}{cl:List (Str×Addr)}:∀{ns:List Str}{xs:List V},(∀c o,H c=some (.fF o (.own 0))→H' c=some (.fF o (.own 0)))→tP H cl ns xs→tP H' cl ns xs
 |[],_,_,h=>h
 |x::ns,xs,k,h=>by
  obtain⟨v,r,c,oc,u,e,h0,h1,h2,h3,h4⟩:=h
  exact⟨v,r,c,oc,u,e,h0,k _ _ h1,h2,h3,tP.mono k h4⟩
theorem TabAt.mono{H H':Hp}{P:Addr}{q:Str}(h:TabAt H P q) (k1:∀ps,H P=some (.fu ps)→H' P=some (.fu ps)) (k2:∀c φ,H c=some (.ext φ)→H' c=some (.ext φ)):TabAt H' P q:=by
 obtain⟨ps,h1,h2,h3⟩:=h
 exact⟨ps,k1 ps h1,h2,fun pos cv e=>let⟨c,e1,e2⟩:=h3 pos cv e;⟨c,e1,k2 _ _ e2⟩⟩
theorem vR.mono{K:PySem.W.Frag}{H H':Hp}(h:vR K H) (k1:∀P ps,H P=some (.fu ps)→H' P=some (.fu ps)) (k2:∀c φ,H c=some (.ext φ)→H' c=some (.ext φ)):vR K H':=fun x hx c P e=>(h x hx c P e).mono (k1 P) k2
def p8(K:PySem.W.Frag) (ρ:List Addr) (H:Hp) (a:Addr) (xs:List V):Prop:=(Rd H a (.lst xs)∧a∉ρ)∨bw K (fun _=>none) a xs
mutual
def Rel(K:PySem.W.Frag) (ρ:List Addr) (H:Hp):D→V→Prop
 |.aG,v=>v=.aG
 |.bl b,v=>v=.bl b
 |.int i,v=>v=.int i
 |.str x,v=>v=.str x
 |.ty n,v=>v=.ty n
 |.tup l,v=>∃a xs,v=.ref a∧H a=some (.tup xs)∧aL K ρ H l xs
 |.lst l,v=>∃a xs,v=.ref a∧(H a=some (.lst xs)∧a∉ρ)∧aL K ρ H l xs
 |.ref k,v=>∃a,v=.ref a∧ρ[k]? = some a
 |.ck l,v=>∃a,v=.ref a∧p8 K ρ H a (l.map V.int)
 |.fn x n,v=>∃a,v=.ref a∧PySem.W.nsIn K mainGlobals x=some (some (.ref a))
 |.jf,v=>∃a,v=.ref a∧H a=some (.ext (acB a))
 |.dct ks,v=>∃a kvs,v=.ref a∧H a=some (.dT kvs)∧∀p:Int×Int,((kvs.any fun kv=>decide (kv.1=[Sum.inl p.1,Sum.inl p.2]))=decide (p∈ks))
 |.gm kvs,v=>∃a as,v=.ref a∧H a=some (.ext (fV a kvs as))∧fk H as (kvs.map (·.1))
 |.exc x,v=>∃a C,v=.ref a∧PySem.W.nsIn K mainGlobals x=some (some (.ref C))∧H a=some (.ext (acf a C))
 |.lam _ e ns l,v=>∃a o q c cl xs,v=.ref a∧H a=some (.ext (Zp a o))∧afn e o q c cl∧H c=some (.ext (LW c q))∧aft cl ns∧tP H cl ns xs∧aL K ρ H l xs
def aL(K:PySem.W.Frag) (ρ:List Addr) (H:Hp):List D→List V→Prop
 |[],xs=>xs=[]
 |d::l,xs=>∃x r,xs=x::r∧Rel K ρ H d x∧aL K ρ H l r
end
theorem p8.sql{K:PySem.W.Frag}{ρ:List Addr}{H:Hp}{a:Addr}{xs:List V}(h:p8 K ρ H a xs):bw K H a xs:=by
 rcases h with⟨h,_⟩|(h|h)
 ·exact .inl h
 ·rcases h with h|⟨o,h⟩<;>cases h
 ·exact .inr h
def afu(K:PySem.W.Frag) (ρ:List Addr) (H:Hp) (a:Addr):Cell→Prop
 |.lst l=>bK l=true∧∃xs,H a=some (.lst xs)∧aL K ρ H l xs
structure Wd (K:PySem.W.Frag) (ρ:List Addr) (H:Hp) (c:List Cell):Prop where
 nd:ρ.Nodup
 len:ρ.length=c.length
 fO:∀(k:Nat) (a:Addr) (cl:Cell),ρ[k]? = some a→c[k]? = some cl→afu K ρ H a cl
 tab:vR K H
structure Ext (ρ:List Addr) (H:Hp) (ρ':List Addr) (H':Hp):Prop where
 pre:∀(k:Nat) (a:Addr),ρ[k]? = some a→ρ'[k]? = some a
 keep:∀a o,H a=some o→a∉ρ→aar o=false→H' a=some o∧a∉ρ'
theorem Ext.refl{ρ:List Addr}{H:Hp}:Ext ρ H ρ H:=⟨fun _ _ h=>h,fun _ _ h n _=>⟨h,n⟩⟩
theorem Ext.trans{ρ aO dP:List Addr}{H H1 H2:Hp}(x:Ext ρ H aO H1) (y:Ext aO H1 dP H2):Ext ρ H dP H2 :=
 ⟨fun k a h=>y.pre k a (x.pre k a h),fun a o h n t=>let⟨h1,n1⟩:=x.keep a o h n t;y.keep a o h1 n1 t⟩
section
variable {K:PySem.W.Frag}{ρ ρ':List Addr}{H H':Hp}{c c':List Cell}
theorem Wd.at'(W:Wd K ρ H c) {a:Addr}(h:a∈ρ):∃xs,H a=some (.lst xs):=by
 obtain⟨k,hk,e⟩:=ajA.mp h
 have hc:k<c.length:=by rw[←W.len];exact hk
 have q:=W.fO k a c[k] (by rw[ahy hk,e]) (ahy hc)
 cases hcl:c[k]with
 |lst l=>rw[hcl]at q;obtain⟨_,xs,h,_⟩:=q;exact⟨xs,h⟩
theorem Wd.XA(W:Wd K ρ H c) {a:Addr}{xs:List V}(h:H a=some (.tup xs)):a∉ρ:=fun m=>by
 obtain⟨ys,e⟩:=W.at' m
 rw[e]at h;cases h
theorem Wd.nil(W:Wd K ρ H c) {a:Addr}(h:H a=none):a∉ρ:=fun m=>by
 obtain⟨ys,e⟩:=W.at' m
 rw[e]at h;cases h
theorem t7(W:Wd K ρ H c) (x:Ext ρ H ρ' H') {a:Addr}{xs:List V}(h:H a=some (.tup xs)):H' a=some (.tup xs):=(x.keep a _ h (W.XA h) rfl).1
theorem BP(x:Ext ρ H ρ' H') {a:Addr}{xs:List V}(h:H a=some (.lst xs)∧a∉ρ):H' a=some (.lst xs)∧a∉ρ':=x.keep a _ h.1 h.2 rfl
theorem Hu(x:Ext ρ H ρ' H') {a:Addr}{xs:List V}(h:p8 K ρ H a xs):p8 K ρ' H' a xs:=by
 rcases h with⟨h,n⟩|h
 ·rcases h with h|⟨o,h⟩
  ·exact .inl ⟨.inl (x.keep a _ h n rfl).1,(x.keep a _ h n rfl).2⟩
  ·exact .inl ⟨.inr ⟨o,(x.keep a _ h n rfl).1⟩,(x.keep a _ h n rfl).2⟩
 ·exact .inr h
mutual
theorem Rel.mono(W:Wd K ρ H c) (x:Ext ρ H ρ' H'):∀(d:D) (v:V),Rel K ρ H d v→Rel K ρ' H' d v
 |.aG,v,h=>h
 |.bl b,v,h=>h
 |.int i,v,h=>h
 |.str y,v,h=>h
 |.ty n,v,h=>h
 |.tup l,v,h=>by
  obtain⟨a,xs,e,s,r⟩:=h
  exact⟨a,xs,e,t7 W x s,aL.mono W x l xs r⟩
 |.lst l,v,h=>by
  obtain⟨a,xs,e,s,r⟩:=h
  exact⟨a,xs,e,BP x s,aL.mono W x l xs r⟩
 |.ref k,v,h=>by
  obtain⟨a,e,s⟩:=h
  exact⟨a,e,x.pre k a s⟩
 |.ck l,v,h=>by
  obtain⟨a,e,s⟩:=h
  exact⟨a,e,Hu x s⟩
 |.fn a n,v,h=>h
 |.jf,v,h=>by
  obtain⟨a,e,q⟩:=h
  exact⟨a,e,(x.keep a _ q (fun m=>by obtain⟨ys,z⟩:=W.at' m;rw[z]at q;cases q) rfl).1⟩
 |.dct ks,v,h=>by
  obtain⟨a,kvs,e,q,z⟩:=h
  exact⟨a,kvs,e,(x.keep a _ q (fun m=>by obtain⟨ys,z⟩:=W.at' m;rw[z]at q;cases q) rfl).1,z⟩
 |.gm kvs,v,h=>by
  obtain⟨a,as,e,q,z⟩:=h
  exact⟨a,as,e,(x.keep a _ q (fun m=>by obtain⟨ys,z⟩:=W.at' m;rw[z]at q;cases q) rfl).1,z.mono fun b xs=>t7 W x⟩
 |.exc y,v,h=>by
  obtain⟨a,C,e,n,q⟩:=h
  exact⟨a,C,e,n,(x.keep a _ q (fun m=>by obtain⟨ys,z⟩:=W.at' m;rw[z]at q;cases q) rfl).1⟩
 |.lam _ y ns l,v,h=>by
  obtain⟨a,o,q,c,cl,xs,e,h1,h2,h3,h4,h5,h6⟩:=h
  have nr:∀(b:Addr) (u:HO),H b=some u→(∀ys,u≠.lst ys)→b∉ρ:=fun b u q n m=>by obtain⟨ys,z⟩:=W.at' m;rw[z]at q;exact n ys (ahJ q).symm
  exact⟨a,o,q,c,cl,xs,e,(x.keep a _ h1 (nr a _ h1 fun _ z=>nomatch z) rfl).1,h2,(x.keep c _ h3 (nr c _ h3 fun _ z=>nomatch z) rfl).1,h4,h5.mono (fun b o z=>(x.keep b _ z (nr b _ z fun _ z=>nomatch z) rfl).1),aL.mono W x l xs h6⟩
theorem aL.mono(W:Wd K ρ H c) (x:Ext ρ H ρ' H'):∀(l:List D) (xs:List V),aL K ρ H l xs→aL K ρ' H' l xs
 |[],xs,h=>h
 |d::l,xs,h=>by
  obtain⟨y,r,e,h1,h2⟩:=h
  exact⟨y,r,e,Rel.mono W x d y h1,aL.mono W x l r h2⟩
end
theorem aL.length:∀{l:List D}{xs:List V},aL K ρ H l xs→xs.length=l.length
 |[],xs,h=>by cases(show xs=[]from h);rfl
 |d::l,xs,h=>by
  obtain⟨y,r,rfl,h1,h2⟩:=h
  simp only[ahu,aL.length h2]
theorem aL.get:∀{l:List D}{xs:List V}{i:Nat}{d:D},aL K ρ H l xs→l[i]? = some d→∃x,xs[i]? = some x∧Rel K ρ H d x
 |[],_,_,_,_,e=>by cases e
 |_::l,_,0,_,h,e=>by
  obtain⟨y,r,rfl,h1,h2⟩:=h
  cases e
  exact⟨y,rfl,h1⟩
 |_::l,_,i+1,_,h,e=>by
  obtain⟨y,r,rfl,h1,h2⟩:=h
  exact aL.get (i:=i) h2 e
theorem aL.append:∀{l m:List D}{xs ys:List V},aL K ρ H l xs→aL K ρ H m ys→aL K ρ H (l++m) (xs++ys)
 |[],m,xs,ys,h,g=>by cases(show xs=[]from h);exact g
 |d::l,m,xs,ys,h,g=>by
  obtain⟨y,r,rfl,h1,h2⟩:=h
  exact⟨y,r++ys,rfl,h1,aL.append h2 g⟩
theorem aL.set:∀{l:List D}{xs:List V}{d:D}{x:V}(i:Nat),aL K ρ H l xs→Rel K ρ H d x→aL K ρ H (l.set i d) (xs.set i x)
 |[],xs,d,x,i,h,g=>by cases(show xs=[]from h);exact rfl
 |b::l,xs,d,x,0,h,g=>by
  obtain⟨y,r,rfl,h1,h2⟩:=h
  exact⟨x,r,rfl,g,h2⟩
 |b::l,xs,d,x,i+1,h,g=>by
  obtain⟨y,r,rfl,h1,h2⟩:=h
  exact⟨y,r.set i x,rfl,h1,aL.set i h2 g⟩
theorem aL.take:∀{l:List D}{xs:List V}(n:Nat),aL K ρ H l xs→aL K ρ H (l.take n) (xs.take n)
 |l,xs,0,h=>by simp only[List.take_zero];exact rfl
 |[],xs,n+1,h=>by cases(show xs=[]from h);exact rfl
 |d::l,xs,n+1,h=>by
  obtain⟨y,r,rfl,h1,h2⟩:=h
  exact⟨y,r.take n,rfl,h1,aL.take n h2⟩
theorem aL.drop:∀{l:List D}{xs:List V}(n:Nat),aL K ρ H l xs→aL K ρ H (l.drop n) (xs.drop n)
 |l,xs,0,h=>h
 |[],xs,n+1,h=>by cases(show xs=[]from h);exact rfl
 |d::l,xs,n+1,h=>by
  obtain⟨y,r,rfl,h1,h2⟩:=h
  exact aL.drop n h2
theorem aL.ints{l:List Int}:aL K ρ H (l.map D.int) (l.map V.int):=by
 induction l with
 |nil=>exact rfl
 |cons a l ih=>exact⟨_,_,rfl,rfl,ih⟩
theorem aL.lC:∀{l:List Int}{xs:List V},aL K ρ H (l.map D.int) xs→xs=l.map V.int
 |[],xs,h=>h
 |a::l,xs,h=>by
  obtain⟨y,r,rfl,h1,h2⟩:=h
  cases(show y=V.int a from h1)
  rw[aL.lC h2];rfl
theorem aL.F3:∀{l:List Bool}{xs:List V},aL K ρ H (l.map D.bl) xs→xs=l.map V.bl
 |[],xs,h=>h
 |a::l,xs,h=>by
  obtain⟨y,r,rfl,h1,h2⟩:=h
  cases(show y=V.bl a from h1)
  rw[aL.F3 h2];rfl
theorem Ext.fresh{p:Addr}{o:HO}(W:Wd K ρ H c) (h:H p=none):Ext ρ H ρ (upd H p o) :=
 ⟨fun _ _ e=>e,fun a u e n _=>⟨by rw[bR (eH e h)];exact e,n⟩⟩
theorem Wd.fresh{p:Addr}{o:HO}(W:Wd K ρ H c) (h:H p=none):Wd K ρ (upd H p o) c :=
 ⟨W.nd,W.len,fun k a cl e1 e2=>by
  have q:=W.fO k a cl e1 e2
  cases cl with
  |lst l =>
   obtain⟨nr,xs,e,r⟩:=q
   exact⟨nr,xs,by rw[bR (eH e h)];exact e,aL.mono W (Ext.fresh W h) l xs r⟩,
  W.tab.mono (fun P ps e=>by rw[bR (eH e h)];exact e) (fun b φ e=>by rw[bR (eH e h)];exact e)⟩
theorem Ext.cell{p:Addr}{o:HO}(W:Wd K ρ H c) (h:H p=none):Ext ρ H (ρ++[p]) (upd H p o) :=
 ⟨fun k a e=>by rw[ah1 (ahz.mp e).1];exact e,fun a u e n _=>⟨by rw[bR (eH e h)];exact e,by
  rw[ahZ]
  rintro (z|z)
  ·exact n z
  ·exact eH e h (by simpa using z)⟩⟩
theorem Wd.cell{p:Addr}{l:List D}{xs:List V}(W:Wd K ρ H c) (h:H p=none) (nr:bK l=true) (r:aL K ρ H l xs):Wd K (ρ++[p]) (upd H p (.lst xs)) (c++[.lst l]):=by
 have X:=Ext.cell (o:=.lst xs) W h
 refine⟨?_,by simp[W.len],fun k a cl e1 e2=>?_,W.tab.mono (fun P ps e=>by rw[bR (eH e h)];exact e) (fun b φ e=>by rw[bR (eH e h)];exact e)⟩
 ·rw[ak0]
  refine⟨W.nd,by simp,?_⟩
  intro a ha b hb
  rw[aiz]at hb
  subst hb
  exact fun z=>W.nil h (z▸ha)
 ·by_cases hk:k<c.length
  ·rw[ah1 hk]at e2
   rw[ah1 (by rw[W.len];exact hk)]at e1
   have q:=W.fO k a cl e1 e2
   cases cl with
   |lst l' =>
    obtain⟨jY,ys,e,r'⟩:=q
    exact⟨jY,ys,by rw[bR (eH e h)];exact e,aL.mono W X l' ys r'⟩
  ·have hk':k=c.length:=by
    have:=(ahz.mp e2).1
    simp at this
    omega
   subst hk'
   rw[aip (aho _),ajM]at e2
   rw[aip (by rw[W.len];exact aho _),W.len,ajM]at e1
   cases e1;cases e2
   exact⟨nr,xs,f7,aL.mono W X l xs r⟩
theorem Ext.write{k:Nat}{p:Addr}{o:HO}(h:ρ[k]? = some p):Ext ρ H ρ (upd H p o) :=
 ⟨fun _ _ e=>e,fun a u e n _=>⟨by rw[bR (fun z=>n (by rw[z];exact ahL h))];exact e,n⟩⟩
theorem Wd.write{k:Nat}{p:Addr}{l:List D}{xs:List V}(W:Wd K ρ H c) (h:ρ[k]? = some p) (nr:bK l=true) (r:aL K ρ H l xs):Wd K ρ (upd H p (.lst xs)) (c.set k (.lst l)):=by
 have X:=Ext.write (H:=H) (o:=.lst xs) h
 obtain⟨ys,hy⟩:=W.at' (ahL h)
 refine⟨W.nd,by simp[W.len],fun j a cl e1 e2=>?_,W.tab.mono (fun P ps e=>by rw[bR (Jg e hy fun z=>nomatch z)];exact e) (fun b φ e=>by rw[bR (Jg e hy fun z=>nomatch z)];exact e)⟩
 by_cases hj:j=k
 ·subst hj
  rw[h]at e1;cases e1
  have hl:j<c.length:=by rw[←W.len];exact(ahz.mp h).1
  rw[aiw hl]at e2
  cases e2
  exact⟨nr,xs,f7,aL.mono W X l xs r⟩
 ·rw[aiI (ah7 hj)]at e2
  have q:=W.fO j a cl e1 e2
  have hap:a≠p:=by
   intro e
   subst e
   have h1:=(ahz.mp h)
   have h2:=(ahz.mp e1)
   exact hj ((aiv W.nd (h₀:=h2.1) (h₁:=h1.1)).mp (h2.2.trans h1.2.symm))
  cases cl with
  |lst l' =>
   obtain⟨jY,ys,e,r'⟩:=q
   exact⟨jY,ys,by rw[bR hap];exact e,aL.mono W X l' ys r'⟩
mutual
theorem Rel.low(h:∀a,a∈ρ'→a∈ρ):∀(d:D) (v:V),noRef d=true→Rel K ρ H d v→Rel K ρ' H d v
 |.aG,v,_,r=>r
 |.bl b,v,_,r=>r
 |.int i,v,_,r=>r
 |.str y,v,_,r=>r
 |.ty n,v,_,r=>r
 |.tup l,v,n,r=>by
  obtain⟨a,xs,e,s,r⟩:=r
  exact⟨a,xs,e,s,aL.low h l xs n r⟩
 |.lst l,v,n,r=>by
  obtain⟨a,xs,e,s,r⟩:=r
  exact⟨a,xs,e,⟨s.1,fun q=>s.2 (h a q)⟩,aL.low h l xs n r⟩
 |.ref k,v,n,r=>by cases n
 |.ck l,v,n,r=>by
  obtain⟨a,e,s⟩:=r
  refine⟨a,e,?_⟩
  rcases s with⟨s,z⟩|s
  ·exact .inl ⟨s,fun q=>z (h a q)⟩
  ·exact .inr s
 |.fn a m,v,n,r=>r
 |.exc y,v,n,r=>r
 |.jf,v,n,r=>r
 |.dct _,v,n,r=>r
 |.gm _,v,n,r=>r
 |.lam _ _ _ _,v,n,r=>by cases n
theorem aL.low(h:∀a,a∈ρ'→a∈ρ):∀(l:List D) (xs:List V),bK l=true→aL K ρ H l xs→aL K ρ' H l xs
 |[],xs,_,r=>r
 |d::l,xs,n,r=>by
  obtain⟨y,ys,e,h1,h2⟩:=r
  have n:(noRef d&&bK l)=true:=n
  rw[ah4]at n
  exact⟨y,ys,e,Rel.low h d y n.1 h1,aL.low h l ys n.2 h2⟩
end
theorem Wd.cut{n:Nat}(W:Wd K ρ H c) (hn:n≤c.length):Wd K (ρ.take n) H (c.take n):=by
 have sub:∀a,a∈ρ.take n→a∈ρ:=fun a h=>ahR h
 refine⟨W.nd.sublist (ajS _ _),by simp[W.len],fun k a cl e1 e2=>?_,W.tab⟩
 rw[akb]at e1 e2
 split at e1
 ·rename_i hk
  rw[if_pos hk]at e2
  have q:=W.fO k a cl e1 e2
  cases cl with
  |lst l =>
   obtain⟨nr,xs,e,r⟩:=q
   exact⟨nr,xs,e,aL.low sub l xs nr r⟩
 ·cases e1
theorem Ext.cut{n:Nat}(x:Ext ρ H ρ' H') (hn:ρ.length≤n):Ext ρ H (ρ'.take n) H' :=
 ⟨fun k a e=>by rw[akb,if_pos (ahD (ahz.mp e).1 hn)];exact x.pre k a e,fun a o e z t=>let⟨h1,h2⟩:=x.keep a o e z t;⟨h1,fun q=>h2 (ahR q)⟩⟩
theorem Ext.len(W:Wd K ρ H c) (W':Wd K ρ' H' c') (x:Ext ρ H ρ' H'):c.length≤c'.length:=by
 rw[←W.len,←W'.len]
 by_cases h:ρ.length≤ρ'.length
 ·exact h
 ·exfalso
  have h':ρ'.length<ρ.length:=Nat.lt_of_not_le h
  have e:=x.pre ρ'.length ρ[ρ'.length] (ahy h')
  rw[ai6 (aho _)]at e
  cases e
end
abbrev Ev:=List (Option D)
def post{α β:Type}(K:PySem.W.Frag) (Rl:List Addr→Hp→α→β→Prop) (r:R α) (ρ:List Addr) (H:Hp) (Q:β→Hp→Prop):Prop:=match r with
 |.ok a c=>∀ρ' H' b,Wd K ρ' H' c→Ext ρ H ρ' H'→Rl ρ' H' a b→Q b H'
 |.bad=>False
structure dW (K:PySem.W.Frag) (ρ:List Addr) (H:Hp) (e:Ev) (σ:St):Prop where
 get:∀(i:Nat) (d:D),e[i]? = some (some d)→∃v,σ[i]? = some (some v)∧Rel K ρ H d v
 len:e.length=σ.length
def tD{α β:Type}(K:PySem.W.Frag) (Rl:List Addr→Hp→α→β→Prop) (d:Ev→List Cell→R α):St→Hp→(β→Hp→Prop)→Prop :=
 fun σ H Q=>∃ρ e c,Wd K ρ H c∧dW K ρ H e σ∧post K Rl (d e c) ρ H Q
section
variable {α β γ δ:Type}{K:PySem.W.Frag}{ρ ρ':List Addr}{H H':Hp}{c:List Cell}{e:Ev}{σ:St}{Rl:List Addr→Hp→α→β→Prop}{Rm:List Addr→Hp→γ→δ→Prop}
theorem dW.mono(V:dW K ρ H e σ) (W:Wd K ρ H c) (x:Ext ρ H ρ' H'):dW K ρ' H' e σ :=
 ⟨fun i d h=>let⟨v,h1,h2⟩:=V.get i d h;⟨v,h1,Rel.mono W x d v h2⟩,V.len⟩
theorem dW.set(V:dW K ρ H e σ) {d:D}{v:L2.V}(r:Rel K ρ H d v) (i:Nat):dW K ρ H (e.set i (some d)) (σ.set i (some v)):=by
 refine⟨fun j b h=>?_,by simp[V.len]⟩
 by_cases hj:j=i
 ·subst hj
  have hl:j<e.length:=by
   have:=(ahz.mp h).1
   simpa using this
  rw[aiw hl]at h
  cases h
  exact⟨v,by rw[aiw (by rw[←V.len];exact hl)],r⟩
 ·rw[aiI (ah7 hj)]at h ⊢
  exact V.get j b h
theorem post.ext{r:R α}{Q:β→Hp→Prop}(p:post K Rl r ρ H Q) (x:Ext ρ H ρ' H'):post K Rl r ρ' H' Q:=by
 cases r with
 |ok a c=>exact fun dP H2 b W y r=>p dP H2 b W (x.trans y) r
 |bad=>exact p
theorem post.bind{r:R α}{f:α→List Cell→R γ}{Q:δ→Hp→Prop}{S:β→Hp→Prop}(p:post K Rm (r.bind f) ρ H Q)
  (h:∀a c1 ρ' H' b,r=.ok a c1→Wd K ρ' H' c1→Ext ρ H ρ' H'→Rl ρ' H' a b→post K Rm (f a c1) ρ' H' Q→S b H'):post K Rl r ρ H S:=by
 cases r with
 |ok a c1=>exact fun ρ' H' b W x r=>h a c1 ρ' H' b rfl W x r (post.ext (r:=f a c1) p x)
 |bad=>exact p
theorem post.here{a:α}{b:β}{Q:β→Hp→Prop}(p:post K Rl (.ok a c) ρ H Q) (W:Wd K ρ H c) (r:Rl ρ H a b):Q b H:=p ρ H b W Ext.refl r
end
abbrev bx(X:Cx) (e:Expr) (d:Ev→List Cell→R D):Prop:=PE X e (tD X.K (Rel X.K) d)
abbrev iR(X:Cx) (e:Expr) (d:Ev→List Cell→R Bool):Prop:=PT X e (tD X.K (fun _ _ a b=>a=b) d)
abbrev tK(X:Cx) (e:Expr) (d:Ev→List Cell→R Bool):Prop:=PW X e (tD X.K (fun _ _ a b=>a=b) d)
abbrev g8(X:Cx) (es:List Expr) (d:Ev→List Cell→R (List D)):Prop:=PA X es (tD X.K (aL X.K) d)
section
variable {X:Cx}{e:Expr}{es:List Expr}{st:Stmt}{sts:List Stmt}
theorem PE.imp{t t':TE}(h:PE X e t) (i:∀σ H Q,t' σ H Q→t σ H Q):PE X e t':=fun pins s σ H Q I q=>h pins s σ H Q I (i _ _ _ q)
theorem PT.imp{t t':TT}(h:PT X e t) (i:∀σ H Q,t' σ H Q→t σ H Q):PT X e t':=fun pins s σ H Q I q=>h pins s σ H Q I (i _ _ _ q)
theorem PW.imp{t t':TT}(h:PW X e t) (i:∀σ H Q,t' σ H Q→t σ H Q):PW X e t':=fun wh pins s σ H Q I q=>h wh pins s σ H Q I (i _ _ _ q)
theorem PA.imp{t t':TA}(h:PA X es t) (i:∀σ H Q,t' σ H Q→t σ H Q):PA X es t':=fun pos pins s σ H Q I q=>h pos pins s σ H Q I (i _ _ _ q)
theorem PS.imp{t t':TS}(h:PS X st t) (i:∀D σ H,t' D σ H→t D σ H):PS X st t':=fun pins s σ H D I q=>h pins s σ H D I (i _ _ _ q)
theorem gG.imp{t t':TS}(h:gG X sts t) (i:∀D σ H,t' D σ H→t D σ H):gG X sts t':=fun pins s σ H D I q=>h pins s σ H D I (i _ _ _ q)
end
def ak(i:Nat):Ev→List Cell→R D:=fun e c=>match e[i]? with
 |some (some d)=>.ok d c
 |_=>.bad
def dC(d:D):Ev→List Cell→R D:=fun _ c=>.ok d c
section
variable {X:Cx}
theorem av(i:Nat) {x:Str}{pos:Pos}(hN:X.N[i]? = some x:=by rfl) (hv:zD X.env.scope x:=by first|exact Or.inl rfl|exact Or.inr (Or.inl rfl)|exact Or.inr (Or.inr rfl)) (hd:(x==("__debug__":Str))=false:=by decide)
  (hcd:(x==("__classdict__":Str))=false:=by decide):bx X (.Name x pos) (ak i):=(Il hN hv hd hcd).imp fun σ H Q h=>by
 obtain⟨ρ,e,c,W,V,p⟩:=h
 unfold ak at p
 cases q:e[i]? with
 |none=>rw[q]at p;exact p.elim
 |some o =>
  rw[q]at p
  cases o with
  |none=>exact p.elim
  |some d =>
   obtain⟨v,hv,r⟩:=V.get i d q
   exact⟨v,hv,p.here W r⟩
theorem uH{e:Expr}{v:V}{d:D}(h:PE X e (tC v)) (r:∀ρ H,Rel X.K ρ H d v):bx X e (dC d):=h.imp fun σ H Q h=>by
 obtain⟨ρ,e,c,W,V,p⟩:=h
 exact post.here (r:=r ρ H) p W
theorem aX{i j pos}:bx X (.Constant (.int i) j pos) (dC (.int i)):=uH UD fun _ _=>rfl
theorem i7{b j pos}:bx X (.Constant (.bool b) j pos) (dC (.bl b)):=uH UN fun _ _=>rfl
theorem i6{j pos}:bx X (.Constant .none j pos) (dC .aG):=uH UB fun _ _=>rfl
theorem iZ{x:Str}{n:String}{pos:Pos}(hg:Gl X x) (hm:X.mg x=none) (hv:bootBuiltins x=some (.type n)) (hn:x≠"__name__":=by decide) (hd:(x==("__debug__":Str))=false:=by decide):bx X (.Name x pos) (dC (.ty n)):=uH (Uv hg hm hv hn hd) fun _ _=>rfl
theorem xu{x:Str}{i:Int}{t:Tok}{pos:Pos}(hg:Gl X x) (hm:X.mg x=some (.int i t)) (hd:(x==("__debug__":Str))=false:=by decide):bx X (.Name x pos) (dC (.int i)):=uH (UG (v:=.int i) hg hm ⟨t,rfl⟩ hd) fun _ _=>rfl
end
end L2
namespace L2
open PySem PySem.Spec PyProof.Rows
def au(f:D→D→List Cell→R D) (a b:Ev→List Cell→R D):Ev→List Cell→R D:=fun e c=>(a e c).bind fun x c=>(b e c).bind fun y c=>f x y c
def r2(K:PySem.W.Frag) (f:D→D→List Cell→R D):R2:=fun v u H Q=>∃ρ x y c,Wd K ρ H c∧Rel K ρ H x v∧Rel K ρ H y u∧post K (Rel K) (f x y c) ρ H Q
def r1(K:PySem.W.Frag) (f:D→List Cell→R D):V→Hp→VK→Prop:=fun v H Q=>∃ρ x c,Wd K ρ H c∧Rel K ρ H x v∧post K (Rel K) (f x c) ρ H Q
def rN(K:PySem.W.Frag) (f:List D→List Cell→R D):List V→Hp→VK→Prop:=fun vs H Q=>∃ρ xs c,Wd K ρ H c∧aL K ρ H xs vs∧post K (Rel K) (f xs c) ρ H Q
def aF(f:List D→List Cell→R D) (a:Ev→List Cell→R (List D)):Ev→List Cell→R D:=fun e c=>(a e c).bind fun xs c=>f xs c
section
variable {X:Cx}{a b:Expr}{da db dd:Ev→List Cell→R D}{pos:Pos}{K:PySem.W.Frag}{σ:St}{H:Hp}{Q:VK}{f:D→D→List Cell→R D}
theorem wC(h:tD K (Rel K) (au f da db) σ H Q):tD K (Rel K) da σ H fun v H1=>tD K (Rel K) db σ H1 fun u H2=>r2 K f v u H2 Q:=by
 obtain⟨ρ,e,c,W,V,p⟩:=h
 refine⟨ρ,e,c,W,V,post.bind p fun x c1 aO H1 v _ W1 X1 r1 p1=>⟨aO,e,c1,W1,V.mono W X1,post.bind p1 fun y c2 dP H2 u _ W2 X2 r2 p2=>⟨dP,x,y,c2,W2,Rel.mono W1 X2 _ _ r1,r2,p2⟩⟩⟩
theorem G4{g:List D→List Cell→R D}{ds:Ev→List Cell→R (List D)}(h:tD K (Rel K) (aF g ds) σ H Q):tD K (aL K) ds σ H fun vs H1=>rN K g vs H1 Q:=by
 obtain⟨ρ,e,c,W,V,p⟩:=h
 exact⟨ρ,e,c,W,V,post.bind p fun x c1 aO H1 v _ W1 X1 r1 p1=>⟨aO,x,c1,W1,r1,p1⟩⟩
theorem bC{op:Operator}(ho:bP X (binaryOp op) (r2 X.K f)) (ha:bx X a da) (hb:bx X b db):bx X (.BinOp a op b pos) (au f da db):=(Uy ho ha hb).imp fun σ H Q h=>wC h
theorem iH{op:CmpOp}(ho:bP X (compareOp op) (r2 X.K f)) (ha:bx X a da) (hb:bx X b db) (hm:behindInMarks op b=false:=by first|exact IZ _|rfl):bx X (.Compare a [op] [b] pos) (au f da db):=(UK ho ha hb hm).imp fun σ H Q h=>wC h
theorem bZ(hr:tL X (r2 X.K f)) (ha:bx X a da) (hb:bx X b db) (hs:Na b:=by exact fun _ _=>rfl):bx X (.Subscript a b pos) (au f da db):=(UC hr ha hb hs).imp fun σ H Q h=>wC h
end
def aq:Ev→List Cell→R (List D):=fun _ c=>.ok [] c
def ao(a:Ev→List Cell→R D) (r:Ev→List Cell→R (List D)):Ev→List Cell→R (List D):=fun e c=>(a e c).bind fun x c=>(r e c).bind fun xs c=>.ok (x::xs) c
def bQ(a:Ev→List Cell→R (List D)):Ev→List Cell→R D:=fun e c=>(a e c).bind fun xs c=>if xs.length≤sizeLine then .ok (.tup xs) c else .bad
def cH(a:Ev→List Cell→R (List D)):Ev→List Cell→R D:=fun e c=>(a e c).bind fun xs c=>if xs.length≤sizeLine then .ok (.lst xs) c else .bad
def fh(a:Ev→List Cell→R (List D)):Ev→List Cell→R D:=fun e c=>(a e c).bind fun xs c=>if xs.length≤sizeLine∧bK xs=true then .ok (.ref c.length) (c++[.lst xs])else .bad
section
variable {X:Cx}{a:Expr}{es:List Expr}{da:Ev→List Cell→R D}{ds:Ev→List Cell→R (List D)}{pos:Pos}{K:PySem.W.Frag}{ρ:List Addr}{H:Hp}{c:List Cell}{Q:VK}{xs:List D}{vs:List V}
theorem aB:g8 X [] aq:=jX.imp fun σ H Q h=>by
 obtain⟨ρ,e,c,W,V,p⟩:=h
 exact post.here (b:=[]) p W rfl
theorem ay(ha:bx X a da) (hr:g8 X es ds) (hs:starEach (a::es) X.env=(false,eval a X.env)::starEach es X.env:=by exact eV rfl):g8 X (a::es) (ao da ds):=(jr ha hr hs).imp fun σ H Q h=>by
 obtain⟨ρ,e,c,W,V,p⟩:=h
 refine⟨ρ,e,c,W,V,post.bind p fun x c1 aO H1 v _ W1 X1 r1 p1=>⟨aO,e,c1,W1,V.mono W X1,post.bind p1 fun y c2 dP H2 u _ W2 X2 r2 p2=>?_⟩⟩
 exact p2.here W2 ⟨v,u,rfl,Rel.mono W1 X2 _ _ r1,r2⟩
theorem xQ(W:Wd K ρ H c) (r:aL K ρ H xs vs) (p:post K (Rel K) (.ok (.tup xs) c) ρ H Q):∀q,H q=none→Q (.ref q) (upd H q (.tup vs)):=fun q hq =>
 p ρ _ _ (W.fresh hq) (Ext.fresh W hq) ⟨q,vs,rfl,f7,aL.mono W (Ext.fresh W hq) _ _ r⟩
theorem nh(W:Wd K ρ H c) (r:aL K ρ H xs vs) (p:post K (Rel K) (.ok (.lst xs) c) ρ H Q):∀q,H q=none→Q (.ref q) (upd H q (.lst vs)):=fun q hq =>
 p ρ _ _ (W.fresh hq) (Ext.fresh W hq) ⟨q,vs,rfl,⟨f7,W.nil hq⟩,aL.mono W (Ext.fresh W hq) _ _ r⟩
theorem Bu(W:Wd K ρ H c) (nr:bK xs=true) (r:aL K ρ H xs vs) (p:post K (Rel K) (.ok (.ref c.length) (c++[.lst xs])) ρ H Q):∀q,H q=none→Q (.ref q) (upd H q (.lst vs)):=fun q hq =>
 p (ρ++[q]) _ _ (W.cell hq nr r) (Ext.cell W hq) ⟨q,rfl,by rw[aip (by rw[W.len];exact aho _),W.len,ajM];rfl⟩
theorem ie{x1}(h:g8 X es ds):bx X (.Tuple es x1 pos) (bQ ds):=(Uw h).imp fun σ H Q h=>by
 obtain⟨ρ,e,c,W,V,p⟩:=h
 refine⟨ρ,e,c,W,V,post.bind p fun x c1 aO H1 v _ W1 X1 r1 p1=>?_⟩
 split at p1
 ·rename_i hl
  exact⟨by rw[r1.length];exact hl,xQ W1 r1 p1⟩
 ·exact p1.elim
theorem jW(h:g8 X es ds):bx X (.List es pos) (cH ds):=(Im h).imp fun σ H Q h=>by
 obtain⟨ρ,e,c,W,V,p⟩:=h
 refine⟨ρ,e,c,W,V,post.bind p fun x c1 aO H1 v _ W1 X1 r1 p1=>?_⟩
 split at p1
 ·rename_i hl
  exact⟨by rw[r1.length];exact hl,nh W1 r1 p1⟩
 ·exact p1.elim
theorem nc(h:g8 X es ds):bx X (.List es pos) (fh ds):=(Im h).imp fun σ H Q h=>by
 obtain⟨ρ,e,c,W,V,p⟩:=h
 refine⟨ρ,e,c,W,V,post.bind p fun x c1 aO H1 v _ W1 X1 r1 p1=>?_⟩
 split at p1
 ·rename_i hl
  exact⟨by rw[r1.length];exact hl.1,Bu W1 hl.2 r1 p1⟩
 ·exact p1.elim
end
def bu:D→D→List Cell→R D:=fun x y c=>match x,y with
 |.int i,.int j=>.ok (.int (i+j)) c
 |.str a,.str b=>if a.length+b.length≤sizeLine then .ok (.str (a++b)) c else .bad
 |.tup l,.tup m=>if l.length≠0∧l.length+m.length≤sizeLine then .ok (.tup (l++m)) c else .bad
 |_,_=>.bad
def ia:D→D→List Cell→R D:=fun x y c=>match x,y with
 |.int i,.int j=>.ok (.int (i-j)) c
 |_,_=>.bad
def dF:D→D→List Cell→R D:=fun x y c=>match x,y with
 |.int i,.int j=>if(-(2^64)<i∧i<2^64)∨(-(2^64)<j∧j<2^64)then .ok (.int (i*j)) c else .bad
 |_,_=>.bad
def cL:D→D→List Cell→R D:=fun x y c=>match x,y with
 |.int i,.int j=>if 0<j∧j<1073741824 then .ok (.int (i/j)) c else .bad
 |_,_=>.bad
def cK:D→D→List Cell→R D:=fun x y c=>match x,y with
 |.int i,.int j=>if 0<j then .ok (.int (i % j)) c else .bad
 |_,_=>.bad
def rB:D→D→List Cell→R D:=fun x y c=>match x,y with
 |.int i,.int j=>if 0≤j∧j≤1000000∧i.natAbs<2^64 then .ok (.int (i^j.toNat)) c else .bad
 |_,_=>.bad
def sG(p:Int→Int→Bool):D→D→List Cell→R D:=fun x y c=>match x,y with
 |.int i,.int j=>.ok (.bl (p i j)) c
 |_,_=>.bad
section
variable {X:Cx}
theorem eG:bP X (binaryOp .Add) (r2 X.K bu):=by
 intro pins s σ H v u vv uu Q I rv ru h
 obtain⟨ρ,x,y,c,W,rx,ry,p⟩:=h
 unfold bu at p
 split at p
 ·cases rx;cases ry
  exact Vs pins s σ H _ _ vv uu Q I rv ru ⟨_,_,rfl,rfl,p.here W rfl⟩
 ·split at p
  ·rename_i hl
   cases rx;cases ry
   exact Vr pins s σ H _ _ vv uu Q I rv ru ⟨_,_,rfl,rfl,hl,p.here W rfl⟩
  ·exact p.elim
 ·split at p
  ·rename_i hl
   obtain⟨a,xs,rfl,sa,ra⟩:=rx
   obtain⟨b,ys,rfl,sb,rb⟩:=ry
   refine IE pins s σ H _ _ vv uu Q I rv ru ⟨a,b,xs,ys,rfl,rfl,bX.of sa,bX.of sb,fun z=>hl.1 ?_,by rw[ra.length,rb.length];exact hl.2,fun z=>?_,fun _=>xQ W (ra.append rb) p⟩
   ·rw[←ra.length,z];rfl
   ·refine p.here W ⟨a,xs++ys,rfl,by rw[z,ajg];exact sa,ra.append rb⟩
  ·exact p.elim
 ·exact p.elim
theorem xE:bP X (binaryOp .Sub) (r2 X.K ia):=by
 intro pins s σ H v u vv uu Q I rv ru h
 obtain⟨ρ,x,y,c,W,rx,ry,p⟩:=h
 unfold ia at p
 split at p
 ·cases rx;cases ry
  exact Vc pins s σ H _ _ vv uu Q I rv ru ⟨_,_,rfl,rfl,p.here W rfl⟩
 ·exact p.elim
theorem ng:bP X (binaryOp .Mult) (r2 X.K dF):=by
 intro pins s σ H v u vv uu Q I rv ru h
 obtain⟨ρ,x,y,c,W,rx,ry,p⟩:=h
 unfold dF at p
 split at p
 ·split at p
  ·rename_i hl
   cases rx;cases ry
   exact Vg pins s σ H _ _ vv uu Q I rv ru ⟨_,_,rfl,rfl,hl,p.here W rfl⟩
  ·exact p.elim
 ·exact p.elim
theorem kY:bP X (binaryOp .FloorDiv) (r2 X.K cL):=by
 intro pins s σ H v u vv uu Q I rv ru h
 obtain⟨ρ,x,y,c,W,rx,ry,p⟩:=h
 unfold cL at p
 split at p
 ·split at p
  ·rename_i hl
   cases rx;cases ry
   exact Vm pins s σ H _ _ vv uu Q I rv ru ⟨_,_,rfl,rfl,hl,p.here W rfl⟩
  ·exact p.elim
 ·exact p.elim
theorem kX:bP X (binaryOp .Mod) (r2 X.K cK):=by
 intro pins s σ H v u vv uu Q I rv ru h
 obtain⟨ρ,x,y,c,W,rx,ry,p⟩:=h
 unfold cK at p
 split at p
 ·split at p
  ·rename_i hl
   cases rx;cases ry
   exact Vh pins s σ H _ _ vv uu Q I rv ru ⟨_,_,rfl,rfl,hl,p.here W rfl⟩
  ·exact p.elim
 ·exact p.elim
theorem IS:bP X (binaryOp .Pow) (r2 X.K rB):=by
 intro pins s σ H v u vv uu Q I rv ru h
 obtain⟨ρ,x,y,c,W,rx,ry,p⟩:=h
 unfold rB at p
 split at p
 ·split at p
  ·rename_i hl
   cases rx;cases ry
   exact Vd pins s σ H _ _ vv uu Q I rv ru ⟨_,_,rfl,rfl,hl,p.here W rfl⟩
  ·exact p.elim
 ·exact p.elim
theorem Bp{f:Value→Value→Sem Value}{q:Int→Int→Bool}(h:bP X f (kT fun i j=>.bl (q i j))):bP X f (r2 X.K (sG q)):=by
 intro pins s σ H v u vv uu Q I rv ru hh
 obtain⟨ρ,x,y,c,W,rx,ry,p⟩:=hh
 unfold sG at p
 split at p
 ·cases rx;cases ry
  exact h pins s σ H _ _ vv uu Q I rv ru ⟨_,_,rfl,rfl,p.here W rfl⟩
 ·exact p.elim
abbrev gJ:=sG fun i j=>decide (i<j)
abbrev gY:=sG fun i j=>decide (j<i)
abbrev K9:=sG fun i j=>decide (j≤i)
theorem uK:bP X (compareOp .Lt) (r2 X.K gJ):=Bp Vi
theorem xH:bP X (compareOp .Gt) (r2 X.K gY):=Bp Vk
theorem Wr:bP X (compareOp .GtE) (r2 X.K K9):=Bp Vl
end
def EA:D→D→Option Bool
 |.aG,.aG=>some true|.aG,.int _=>some false|.int _,.aG=>some false|.aG,.bl _=>some false|.bl _,.aG=>some false|.aG,.str _=>some false|.str _,.aG=>some false
 |.int i,.int j=>some (decide (i=j))|.bl a,.bl b=>some (decide (a=b))|.str x,.str y=>some (decide (x=y))
 |.int _,.str _=>some false|.str _,.int _=>some false|.bl _,.str _=>some false|.str _,.bl _=>some false
 |_,_=>none
def bG:D→D→List Cell→R D:=fun x y c=>match EA x y with
 |some b=>.ok (.bl b) c
 |none=>.bad
def eL:D→D→List Cell→R D:=fun x y c=>match EA x y with
 |some b=>.ok (.bl (!b)) c
 |none=>.bad
def fE:D→Bool
 |.aG=>true
 |_=>false
def ja:D→D→List Cell→R D:=fun x y c=>match y with
 |.aG=>.ok (.bl (fE x)) c
 |_=>.bad
def lz:D→D→List Cell→R D:=fun x y c=>match y with
 |.aG=>.ok (.bl (!fE x)) c
 |_=>.bad
section
variable {X:Cx}{K:PySem.W.Frag}{ρ:List Addr}{H:Hp}{c:List Cell}
theorem Lz{x y:D}{v u:V}{b:Bool}(rx:Rel K ρ H x v) (ry:Rel K ρ H y u) (h:EA x y=some b):AL v u=true∧decide (v=u)=b:=by
 cases x<;>cases y<;>first
  |(cases rx;cases ry;cases h;refine⟨rfl,?_⟩;simp;done)
  |(cases h;done)
theorem fQ:bP X (compareOp .Eq) (r2 X.K bG):=by
 intro pins s σ H v u vv uu Q I rv ru h
 obtain⟨ρ,x,y,c,W,rx,ry,p⟩:=h
 unfold bG at p
 split at p
 ·rename_i b hb
  obtain⟨h1,h2⟩:=Lz rx ry hb
  exact Vn pins s σ H _ _ vv uu Q I rv ru ⟨h1,by rw[h2];exact p.here W rfl⟩
 ·exact p.elim
theorem oU:bP X (compareOp .NotEq) (r2 X.K eL):=by
 intro pins s σ H v u vv uu Q I rv ru h
 obtain⟨ρ,x,y,c,W,rx,ry,p⟩:=h
 unfold eL at p
 split at p
 ·rename_i b hb
  obtain⟨h1,h2⟩:=Lz rx ry hb
  exact Vf pins s σ H _ _ vv uu Q I rv ru ⟨h1,by rw[h2];exact p.here W rfl⟩
 ·exact p.elim
theorem Kh{x:D}{v:V}(rx:Rel K ρ H x v):decide (v=.aG)=fE x:=by
 cases x<;>first
  |(cases rx;rfl;done)
  |(cases rx;simp[fE];done)
  |(obtain⟨a,xs,rfl,_⟩:=rx;simp[fE];done)
  |(obtain⟨a,rfl,_⟩:=rx;simp[fE];done)
  |(obtain⟨a,o,q,c,cl,xs,rfl,_⟩:=rx;simp[fE];done)
theorem xF:bP X (compareOp .Is) (r2 X.K ja):=by
 intro pins s σ H v u vv uu Q I rv ru h
 obtain⟨ρ,x,y,c,W,rx,ry,p⟩:=h
 unfold ja at p
 split at p
 ·cases ry
  exact Vj pins s σ H _ _ vv uu Q I rv ru ⟨rfl,by rw[Kh rx];exact p.here W rfl⟩
 ·exact p.elim
theorem IV:bP X (compareOp .IsNot) (r2 X.K lz):=by
 intro pins s σ H v u vv uu Q I rv ru h
 obtain⟨ρ,x,y,c,W,rx,ry,p⟩:=h
 unfold lz at p
 split at p
 ·cases ry
  exact Ve pins s σ H _ _ vv uu Q I rv ru ⟨rfl,by rw[Kh rx];exact p.here W rfl⟩
 ·exact p.elim
end
def gv(c:List Cell):D→Option (List D)
 |.tup l=>some l
 |.lst l=>some l
 |.ck l=>some (l.map D.int)
 |.ref k=>match c[k]? with
  |some (.lst l)=>some l
  |none=>none
 |_=>none
def aH:D→D→List Cell→R D:=fun x y c=>match y with
 |.int i=>match gv c x with
  |some l=>match cY l i with
   |some d=>.ok d c
   |none=>.bad
  |none=>.bad
 |_=>.bad
section
variable {X:Cx}{K:PySem.W.Frag}{ρ:List Addr}{H:Hp}{c:List Cell}
theorem wO{x:D}{v:V}{l:List D}(W:Wd K ρ H c) (rx:Rel K ρ H x v) (h:gv c x=some l):∃a xs,v=.ref a∧(bw K H a xs∨bX K H a xs)∧aL K ρ H l xs:=by
 cases x with
 |tup m =>
  cases h
  obtain⟨a,xs,e,s,r⟩:=rx
  exact⟨a,xs,e,.inr (bX.of s),r⟩
 |lst m =>
  cases h
  obtain⟨a,xs,e,s,r⟩:=rx
  exact⟨a,xs,e,.inl (bw.of s.1),r⟩
 |ck m =>
  cases h
  obtain⟨a,e,s⟩:=rx
  exact⟨a,_,e,.inl s.sql,aL.ints⟩
 |ref k =>
  obtain⟨a,e,s⟩:=rx
  unfold gv at h
  dsimp only at h
  cases hc:c[k]? with
  |none=>rw[hc]at h;cases h
  |some cl =>
   cases cl with
   |lst m =>
    rw[hc]at h;cases h
    obtain⟨_,xs,hx,r⟩:=W.fO k a _ s hc
    exact⟨a,xs,e,.inl (bw.of hx),r⟩
 |_=>cases h
theorem aey{l:List D}{xs:List V}{i:Int}{d:D}(r:aL K ρ H l xs) (h:cY l i=some d):∃v,cY xs i=some v∧Rel K ρ H d v:=by
 unfold cY at h ⊢
 rw[r.length]
 cases e:gC l.length i with
 |none=>rw[e]at h;cases h
 |some j =>
  rw[e]at h
  exact r.get (i:=j) h
theorem cg:tL X (r2 X.K aH):=by
 intro value slice pins s σ H v u vv uu Q I rv ru h hs
 obtain⟨ρ,x,y,c,W,rx,ry,p⟩:=h
 unfold aH at p
 split at p
 ·split at p
  ·rename_i l hl
   split at p
   ·rename_i d hd
    cases ry
    obtain⟨a,xs,rfl,sq,r⟩:=wO W rx hl
    obtain⟨w,hw,rw'⟩:=aey r hd
    rcases sq with sq|sq
    ·exact aah value slice pins s σ H _ _ vv uu Q I rv ru ⟨a,xs,_,w,rfl,rfl,sq,hw,p.here W rw'⟩ hs
    ·exact aag value slice pins s σ H _ _ vv uu Q I rv ru ⟨a,xs,_,w,rfl,rfl,sq,hw,p.here W rw'⟩ hs
   ·exact p.elim
  ·exact p.elim
 ·exact p.elim
end
end L2
namespace L2
open PySem PySem.Spec PyProof.Rows
def wA(c:List Cell):D→Option Bool
 |.aG=>some false
 |.bl b=>some b
 |.int i=>some (i != 0)
 |.tup l=>some (!l.isEmpty)
 |.lst l=>some (!l.isEmpty)
 |.ref k=>match c[k]? with
  |some (.lst l)=>some (!l.isEmpty)
  |none=>none
 |_=>none
def vF(a:Ev→List Cell→R D):Ev→List Cell→R Bool:=fun e c=>(a e c).bind fun x c=>match wA c x with
 |some b=>.ok b c
 |none=>.bad
def aI(a:Ev→List Cell→R D):Ev→List Cell→R Bool:=fun e c=>(a e c).bind fun x c=>match x with
 |.bl b=>.ok b c
 |_=>.bad
def gp(a b:Ev→List Cell→R Bool):Ev→List Cell→R Bool:=fun e c=>(a e c).bind fun x c=>if x=true then b e c else .ok false c
def jE(a b:Ev→List Cell→R Bool):Ev→List Cell→R Bool:=fun e c=>(a e c).bind fun x c=>if x=true then .ok true c else b e c
def e7(a:Ev→List Cell→R Bool):Ev→List Cell→R Bool:=fun e c=>(a e c).bind fun x c=>.ok (!x) c
def jg(a b:Ev→List Cell→R D):Ev→List Cell→R D:=fun e c=>(a e c).bind fun x c=>match x with
 |.bl k=>if k=true then b e c else .ok (.bl false) c
 |_=>.bad
def ki(a:Ev→List Cell→R D):Ev→List Cell→R D:=fun e c=>(a e c).bind fun x c=>match x with
 |.bl k=>.ok (.bl (!k)) c
 |_=>.bad
def vH(t:Ev→List Cell→R Bool) (a b:Ev→List Cell→R D):Ev→List Cell→R D:=fun e c=>(t e c).bind fun x c=>if x=true then a e c else b e c
section
variable {X:Cx}{a b c':Expr}{da db:Ev→List Cell→R D}{ta tb:Ev→List Cell→R Bool}{pos:Pos}{rest:List Expr}
theorem Pf{K:PySem.W.Frag}{ρ:List Addr}{H:Hp}{c:List Cell}{x:D}{v:V}{k:Bool}(W:Wd K ρ H c) (rx:Rel K ρ H x v) (h:wA c x=some k):Ge K v H k:=by
 have emp:∀{l:List D}{xs:List V},aL K ρ H l xs→l.isEmpty=xs.isEmpty:=fun{l xs} r=>by
  have:=r.length
  cases l<;>cases xs<;>simp_all
 cases x with
 |aG=>cases rx;cases h;exact rfl
 |bl b=>cases rx;cases h;exact rfl
 |int i=>cases rx;cases h;exact rfl
 |tup l =>
  obtain⟨a,xs,rfl,s,r⟩:=rx
  cases h
  exact .inr (.inl ⟨xs,bX.of s,by rw[emp r]⟩)
 |lst l =>
  obtain⟨a,xs,rfl,s,r⟩:=rx
  cases h
  exact .inl ⟨xs,bw.of s.1,by rw[emp r]⟩
 |ref j =>
  obtain⟨a,rfl,s⟩:=rx
  unfold wA at h
  dsimp only at h
  cases hc:c[j]? with
  |none=>rw[hc]at h;cases h
  |some cl =>
   cases cl with
   |lst m =>
    rw[hc]at h;cases h
    obtain⟨_,xs,hx,r⟩:=W.fO j a _ s hc
    exact .inl ⟨xs,bw.of hx,by rw[emp r]⟩
 |_=>cases h
theorem UP(ha:bx X a da) (he:∀whole,isTrue a X.env whole=(do let v ←whole;standAt a.pos;holding [v] (truthy v)):=by intro _;rfl):iR X a (vF da):=(SX ha he).imp fun σ H Q h=>by
 obtain⟨ρ,e,c,W,V,p⟩:=h
 refine⟨ρ,e,c,W,V,post.bind p fun x c1 aO H1 v _ W1 X1 r1 p1=>?_⟩
 split at p1
 ·rename_i k hk
  exact⟨k,Pf W1 r1 hk,p1.here W1 rfl⟩
 ·exact p1.elim
theorem MM(h:tD X.K (fun _ _ a b=>a=b) (aI da) σ H Q):tD X.K (Rel X.K) da σ H fun x H'=>∃k,x=.bl k∧Q k H':=by
 obtain⟨ρ,e,c,W,V,p⟩:=h
 refine⟨ρ,e,c,W,V,post.bind p fun x c1 aO H1 v _ W1 X1 r1 p1=>?_⟩
 cases x with
 |bl k=>cases r1;exact⟨k,rfl,p1.here W1 rfl⟩
 |_=>exact p1.elim
theorem iI(ha:bx X a da) (he:∀whole,isTrue a X.env whole=(do let v ←whole;standAt a.pos;holding [v] (truthy v)):=by intro _;rfl):iR X a (aI da):=(SW ha he).imp fun σ H Q h=>MM h
theorem cE{op:CmpOp}{f:D→D→List Cell→R D}(ho:bP X (compareOp op) (r2 X.K f)) (ha:bx X a da) (hb:bx X b db) (hm:behindInMarks op b=false:=by first|exact IZ _|rfl):iR X (.Compare a [op] [b] pos) (aI (au f da db)) :=
 (S0 ho ha hb hm).imp fun σ H Q h=>wC (Q:=fun x H'=>∃k,x=.bl k∧Q k H') (MM h)
theorem uJ(ha:iR X a ta):tK X (.BoolOp .And [a] pos) ta:=SQ ha
theorem Bb(ha:iR X a ta):tK X (.BoolOp .Or [a] pos) ta:=SN ha
theorem uI(ha:iR X a ta) (hb:tK X (.BoolOp .And (b::rest) pos) tb):tK X (.BoolOp .And (a::b::rest) pos) (gp ta tb):=(SR ha hb).imp fun σ H Q h=>by
 obtain⟨ρ,e,c,W,V,p⟩:=h
 refine⟨ρ,e,c,W,V,post.bind p fun x c1 aO H1 v _ W1 X1 r1 p1=>?_⟩
 cases r1
 cases x with
 |true=>exact pF ⟨aO,e,c1,W1,V.mono W X1,p1⟩
 |false=>exact pG (post.here (a:=false) p1 W1 rfl)
theorem xq(ha:iR X a ta) (hb:tK X (.BoolOp .Or (b::rest) pos) tb):tK X (.BoolOp .Or (a::b::rest) pos) (jE ta tb):=(SO ha hb).imp fun σ H Q h=>by
 obtain⟨ρ,e,c,W,V,p⟩:=h
 refine⟨ρ,e,c,W,V,post.bind p fun x c1 aO H1 v _ W1 X1 r1 p1=>?_⟩
 cases r1
 cases x with
 |true=>exact pF (post.here (a:=true) p1 W1 rfl)
 |false=>exact pG ⟨aO,e,c1,W1,V.mono W X1,p1⟩
theorem rD(ha:iR X a ta):iR X (.UnaryOp .Not a pos) (e7 ta):=(SY ha).imp fun σ H Q h=>by
 obtain⟨ρ,e,c,W,V,p⟩:=h
 refine⟨ρ,e,c,W,V,post.bind p fun x c1 aO H1 v _ W1 X1 r1 p1=>?_⟩
 cases r1
 exact p1.here W1 rfl
theorem oO{op}(h:bx X a da):bx X (.BoolOp op [a] pos) da:=Uz h
theorem oQ(ha:bx X a da) (hb:bx X (.BoolOp .And (b::rest) pos) db):bx X (.BoolOp .And (a::b::rest) pos) (jg da db):=(UO ha hb).imp fun σ H Q h=>by
 obtain⟨ρ,e,c,W,V,p⟩:=h
 refine⟨ρ,e,c,W,V,post.bind p fun x c1 aO H1 v _ W1 X1 r1 p1=>?_⟩
 cases x with
 |bl k =>
  cases r1
  refine⟨k,rfl,?_⟩
  cases k with
  |true=>exact pF ⟨aO,e,c1,W1,V.mono W X1,p1⟩
  |false=>exact pG (post.here (a:=D.bl false) p1 W1 rfl)
 |_=>exact p1.elim
theorem xr(ha:bx X a da):bx X (.UnaryOp .Not a pos) (ki da):=(UA ha).imp fun σ H Q h=>by
 obtain⟨ρ,e,c,W,V,p⟩:=h
 refine⟨ρ,e,c,W,V,post.bind p fun x c1 aO H1 v _ W1 X1 r1 p1=>?_⟩
 cases x with
 |bl k=>cases r1;exact⟨k,rfl,p1.here W1 rfl⟩
 |_=>exact p1.elim
theorem UT(ht:iR X c' ta) (ha:bx X a da) (hb:bx X b db):bx X (.IfExp c' a b pos) (vH ta da db):=(UE ht ha hb).imp fun σ H Q h=>by
 obtain⟨ρ,e,c,W,V,p⟩:=h
 refine⟨ρ,e,c,W,V,post.bind p fun x c1 aO H1 v _ W1 X1 r1 p1=>?_⟩
 cases r1
 cases x with
 |true=>exact pF ⟨aO,e,c1,W1,V.mono W X1,p1⟩
 |false=>exact pG ⟨aO,e,c1,W1,V.mono W X1,p1⟩
end
inductive Fl where
 |nx (e:Ev)|rt (d:D)|bk (e:Ev)|ct (e:Ev)
abbrev aa:=List Cell
abbrev af:=Ev→List Cell→R D
abbrev ah:=Ev→List Cell→R Fl
abbrev ai:=Ev→List Cell→R Bool
abbrev aj:=Ev→List Cell→R (List D)
inductive FV where
 |nx (σ:St)|rt (v:V)|bk (σ:St)|ct (σ:St)
def iQ(K:PySem.W.Frag) (ρ:List Addr) (H:Hp):Fl→FV→Prop
 |.nx e,f=>∃σ,f=.nx σ∧dW K ρ H e σ
 |.rt d,f=>∃v,f=.rt v∧Rel K ρ H d v
 |.bk e,f=>∃σ,f=.bk σ∧dW K ρ H e σ
 |.ct e,f=>∃σ,f=.ct σ∧dW K ρ H e σ
def En(Z:Ends):FV→Hp→Prop
 |.nx σ,H=>Z.nx σ H
 |.rt v,H=>Z.rt v H
 |.bk σ,H=>Z.bk σ H
 |.ct σ,H=>Z.ct σ H
def G5(K:PySem.W.Frag) (d:ah):TS:=fun Z σ H=>tD K (iQ K) d σ H (En Z)
abbrev jJ(X:Cx) (st:Stmt) (d:ah):Prop:=PS X st (G5 X.K d)
abbrev cy(X:Cx) (st:List Stmt) (d:ah):Prop:=gG X st (G5 X.K d)
def bL:ah:=fun e c=>.ok (.nx e) c
def aD(a b:ah):ah:=fun e c=>(a e c).bind fun f c=>match f with
 |.nx e=>b e c
 |f=>.ok f c
def aU(a:af):ah:=fun e c=>(a e c).bind fun x c=>.ok (.rt x) c
def cJ(a:af):ah:=fun e c=>(a e c).bind fun _ c=>.ok (.nx e) c
def br(t:ai) (a b:ah):ah:=fun e c=>(t e c).bind fun x c=>if x=true then a e c else b e c
def aE(i:Nat) (a:af):ah:=fun e c=>(a e c).bind fun x c=>.ok (.nx (e.set i (some x))) c
def AU:ah:=fun _ _=>.bad
section
variable {X:Cx}{st:Stmt}{rest:List Stmt}{t u:ah}{e:Expr}{da:af}{pos:Pos}
theorem dX:cy X [] bL:=S3.imp fun Z σ H h=>by
 obtain⟨ρ,e,c,W,V,p⟩:=h
 exact p.here W ⟨σ,rfl,V⟩
theorem aT(h1:jJ X st t) (h2:cy X rest u):cy X (st::rest) (aD t u):=(A1 h1 h2).imp fun Z σ H h=>by
 obtain⟨ρ,e,c,W,V,p⟩:=h
 refine⟨ρ,e,c,W,V,post.bind p fun f c1 aO H1 b _ W1 X1 r1 p1=>?_⟩
 cases f with
 |nx e1=>obtain⟨σ1,rfl,V1⟩:=r1;exact⟨aO,e1,c1,W1,V1,p1⟩
 |rt d=>obtain⟨v,rfl,V1⟩:=r1;exact post.here (Q:=En Z) (show post X.K (iQ X.K) (.ok (Fl.rt d) c1) aO H1 (En Z)from p1) W1 ⟨_,rfl,V1⟩
 |bk e1=>obtain⟨σ1,rfl,V1⟩:=r1;exact post.here (Q:=En Z) (show post X.K (iQ X.K) (.ok (Fl.bk e1) c1) aO H1 (En Z)from p1) W1 ⟨_,rfl,V1⟩
 |ct e1=>obtain⟨σ1,rfl,V1⟩:=r1;exact post.here (Q:=En Z) (show post X.K (iQ X.K) (.ok (Fl.ct e1) c1) aO H1 (En Z)from p1) W1 ⟨_,rfl,V1⟩
theorem aW(h1:jJ X st t):cy X [st] t:=HW h1
theorem Rt:jJ X st AU:=fun _ _ _ _ _ _ h=>by
 obtain⟨ρ,e,c,W,V,p⟩:=h
 exact p.elim
theorem bT(he:bx X e da):jJ X (.Return (some e) pos) (aU da):=(S6 he).imp fun Z σ H h=>by
 obtain⟨ρ,e,c,W,V,p⟩:=h
 refine⟨ρ,e,c,W,V,post.bind p fun x c1 aO H1 v _ W1 X1 r1 p1=>p1.here W1 ⟨v,rfl,r1⟩⟩
theorem jR(he:bx X e da) (hs:swapsWith e none pos.line X.env=pure false:=by rfl):jJ X (.Expr e pos) (cJ da):=(S8 he hs).imp fun Z σ H h=>by
 obtain⟨ρ,e,c,W,V,p⟩:=h
 refine⟨ρ,e,c,W,V,post.bind p fun x c1 aO H1 v _ W1 X1 r1 p1=>p1.here W1 ⟨σ,rfl,V.mono W X1⟩⟩
theorem c7{c':Expr}{a b:List Stmt}{tc:ai}(hc:iR X c' tc) (ha:cy X a t) (hb:cy X b u):jJ X (.If c' a b pos) (br tc t u):=(S7 hc ha hb).imp fun Z σ H h=>by
 obtain⟨ρ,e,c,W,V,p⟩:=h
 refine⟨ρ,e,c,W,V,post.bind p fun x c1 aO H1 v _ W1 X1 r1 p1=>?_⟩
 cases r1
 cases x with
 |true=>exact pF ⟨aO,e,c1,W1,V.mono W X1,p1⟩
 |false=>exact pG ⟨aO,e,c1,W1,V.mono W X1,p1⟩
theorem bI{i:Nat}{x:Str}{pos':Pos}(he:bx X e da) (hN:X.N.Nodup:=by decide +kernel) (hi:X.N[i]? = some x:=by rfl) (hx:Loc X.env.scope x:=by first|exact Or.inl rfl|exact Or.inr rfl) (hs:swapsWith e (some (.Name x pos')) pos.line X.env=pure false:=by rfl)
  (hf:X.fn x=true∨X.env.scope.names.lookup x=some .local:=by first|exact .inl rfl|exact .inr rfl):jJ X (.Assign [.Name x pos'] e pos) (aE i da):=(HX hN hi hx he hs).imp fun Z σ H h=>by
 obtain⟨ρ,e,c,W,V,p⟩:=h
 refine⟨ρ,e,c,W,V,post.bind p fun x c1 aO H1 v _ W1 X1 r1 p1=>p1.here W1 ⟨_,rfl,(V.mono W X1).set r1 i⟩⟩
end
abbrev Gd:=D→Ev→aa→R Ev
def wH(K:PySem.W.Frag) (g:Gd):TG:=fun v σ H Q=>∃ρ x e c,Wd K ρ H c∧dW K ρ H e σ∧Rel K ρ H x v∧post K (fun ρ H e σ=>dW K ρ H e σ) (g x e c) ρ H Q
def PV(K:PySem.W.Frag) (g:List D→Ev→aa→R Ev):mS:=fun vs σ H Q=>∃ρ xs e c,Wd K ρ H c∧dW K ρ H e σ∧aL K ρ H xs vs∧post K (fun ρ H e σ=>dW K ρ H e σ) (g xs e c) ρ H Q
abbrev nY(X:Cx) (e:Expr) (g:Gd):Prop:=PG X e (wH X.K g)
abbrev zH(X:Cx) (es:List Expr) (g:List D→Ev→aa→R Ev):Prop:=nX X es (PV X.K g)
def az(i:Nat):Gd:=fun x e c=>.ok (e.set i (some x)) c
def gk:List D→Ev→aa→R Ev:=fun xs e c=>match xs with
 |[]=>.ok e c
 |_=>.bad
def cV(g:Gd) (r:List D→Ev→aa→R Ev):List D→Ev→aa→R Ev:=fun xs e c=>match xs with
 |x::xs=>(g x e c).bind fun e c=>r xs e c
 |_=>.bad
def fU(n:Nat) (g:List D→Ev→aa→R Ev):Gd:=fun x e c=>match x with
 |.tup l=>if l.length=n then g l e c else .bad
 |_=>.bad
theorem PG.imp{X:Cx}{e:Expr}{t t':TG}(h:PG X e t) (i:∀v σ H Q,t' v σ H Q→t v σ H Q):PG X e t':=fun pins s σ H x u Q I r q=>h pins s σ H x u Q I r (i _ _ _ _ q)
theorem nX.imp{X:Cx}{es:List Expr}{t t':mS}(h:nX X es t) (i:∀v σ H Q,t' v σ H Q→t v σ H Q):nX X es t':=fun pins s σ H x u Q I r q=>h pins s σ H x u Q I r (i _ _ _ _ q)
section
variable {X:Cx}{pos:Pos}
theorem bO{i:Nat}{x:Str}(hN:X.N.Nodup:=by decide +kernel) (hi:X.N[i]? = some x:=by rfl) (hx:Loc X.env.scope x:=by first|exact Or.inl rfl|exact Or.inr rfl) (hf:X.fn x=true∨X.env.scope.names.lookup x=some .local:=by first|exact .inl rfl|exact .inr rfl):nY X (.Name x pos) (az i) :=
 (A7 hN hi hx hf).imp fun v σ H Q h=>by
  obtain⟨ρ,x,e,c,W,V,r,p⟩:=h
  exact p.here W (V.set r i)
theorem yk:zH X [] gk:=Ih.imp fun v σ H Q h=>by
 obtain⟨ρ,xs,e,c,W,V,r,p⟩:=h
 cases xs with
 |nil=>exact⟨r,p.here W V⟩
 |cons x xs=>exact p.elim
theorem nJ{e:Expr}{es:List Expr}{g:Gd}{u:List D→Ev→aa→R Ev}(h1:nY X e g) (h2:zH X es u) (hs:(assignEach (e::es) X.env).map (·.2)=assign e X.env::(assignEach es X.env).map (·.2):=by rfl):zH X (e::es) (cV g u) :=
 (A6 h1 h2 hs).imp fun v σ H Q h=>by
  obtain⟨ρ,xs,e,c,W,V,r,p⟩:=h
  cases xs with
  |nil=>exact p.elim
  |cons x xs =>
   obtain⟨y,ys,rfl,rx,rs⟩:=r
   exact⟨y,ys,rfl,ρ,x,e,c,W,V,rx,post.bind p fun e1 c1 aO H1 σ1 _ W1 X1 V1 p1=>⟨aO,xs,e1,c1,W1,V1,aL.mono W X1 _ _ rs,p1⟩⟩
theorem ym{es:List Expr}{k:Nat}{g:List D→Ev→aa→R Ev}{n:Nat}(h:zH X es g) (hc:X.calm=true:=by rfl) (hn:(assignEach es X.env).length=n:=by rfl) (hst:(assignEach es X.env).findIdx? (·.1)=none:=by rfl):nY X (.Tuple es k pos) (fU n g) :=
 (Ii hc h hn hst).imp fun v σ H Q h=>by
  obtain⟨ρ,x,e,c,W,V,r,p⟩:=h
  cases x with
  |tup l =>
   obtain⟨a,xs,rfl,s,rs⟩:=r
   unfold fU at p
   dsimp only at p
   split at p
   ·rename_i hl
    exact⟨a,xs,rfl,bX.of s,rs.length.trans hl,ρ,l,e,c,W,V,rs,p⟩
   ·exact p.elim
  |_=>exact p.elim
def ic(a:af) (g:Gd):ah:=fun e c=>(a e c).bind fun x c=>(g x e c).bind fun e c=>.ok (.nx e) c
theorem qq{tg e:Expr}{da:af}{g:Gd}(he:bx X e da) (hg:nY X tg g) (hs:swapsWithSole [tg] e pos.line X.env=pure false:=by rfl) (hw:swappedStores [tg] e X.env=pure none:=by rfl)
  (h1:(assignEach [tg] X.env).map (·.2)=[assign tg X.env]:=by rfl):jJ X (.Assign [tg] e pos) (ic da g):=(Tc he hg hs hw h1).imp fun Z σ H h=>by
 obtain⟨ρ,e,c,W,V,p⟩:=h
 refine⟨ρ,e,c,W,V,post.bind p fun x c1 aO H1 v _ W1 X1 r1 p1=>⟨aO,x,e,c1,W1,V.mono W X1,r1,post.bind p1 fun e2 c2 dP H2 σ2 _ W2 X2 V2 p2=>p2.here W2 ⟨σ2,rfl,V2⟩⟩⟩
def kP:D→D→D→aa→R Unit:=fun o i v c=>match o,i with
 |.ref k,.int i=>match c[k]? with
  |some (.lst l)=>match gC l.length i with
   |some j=>if noRef v=true then .ok () (c.set k (.lst (l.set j v)))else .bad
   |none=>.bad
  |none=>.bad
 |_,_=>.bad
def iy(o i:af):Gd:=fun x e c=>(o e c).bind fun o c=>(i e c).bind fun i c=>(kP o i x c).bind fun _ c=>.ok e c
theorem sd{o i:Expr}{dO di:af}(ho:bx X o dO) (hi:bx X i di)
  (ha:∀v,assign (.Subscript o i pos) X.env v=(do
   let ov ←holding [v] (eval o X.env)
   let iv ←holding [v,ov] (eval i X.env)
   standAt pos
   holding [v,ov,iv] (setItem ov iv v)
   release [v,ov,iv] []):=by intro _;rfl):nY X (.Subscript o i pos) (iy dO di):=(Uu ho hi set_list ha).imp fun v σ H Q h=>by
 obtain⟨ρ,x,e,c,W,V,rx,p⟩:=h
 refine⟨ρ,e,c,W,V,post.bind p fun o c1 aO H1 ov _ W1 X1 r1 p1=>⟨aO,e,c1,W1,V.mono W X1,post.bind p1 fun i c2 dP H2 iv _ W2 X2 r2 p2=>?_⟩⟩
 have V2:=(V.mono W X1).mono W1 X2
 have RQ:=Rel.mono W (X1.trans X2) _ _ rx
 have ro:=Rel.mono W1 X2 _ _ r1
 unfold kP at p2
 split at p2
 ·rename_i k i _ _
  split at p2
  ·rename_i l hl
   split at p2
   ·rename_i j hj
    split at p2
    ·rename_i hv
     obtain⟨a,rfl,ha⟩:=ro
     cases r2
     obtain⟨nr,ys,hy,rl⟩:=W2.fO k a _ ha hl
     refine⟨a,ys,i,j,rfl,rfl,hy,by rw[rl.length];exact hj,?_⟩
     exact p2 dP _ σ (W2.write ha (Jb nr hv) (rl.set j RQ)) (Ext.write ha) (V2.mono W2 (Ext.write ha))
    ·exact p2.elim
   ·exact p2.elim
  ·exact p2.elim
 ·exact p2.elim
end
end L2
namespace L2
open PySem PySem.Spec PyProof.Rows
structure Src where
 items:List D
 stays:aa→Prop
def JS(K:PySem.W.Frag) (ρ:List Addr) (H:Hp) (s:Src) (J:It):Prop :=
 ∀ρ' H' c',Wd K ρ' H' c'→Ext ρ H ρ' H'→s.stays c'→∀i:Nat,
  (∀d,s.items[i]? = some d→J.go i H'∧∀x H2,J.qe i H' x H2→Wd K ρ' H2 c'∧Ext ρ' H' ρ' H2∧Rel K ρ' H2 d x)∧(i=s.items.length→J.stop i H')
def G6(K:PySem.W.Frag) (d:Ev→aa→R Src):TI:=tD K (JS K) d
abbrev PId(X:Cx) (tg iter:Expr) (d:Ev→aa→R Src):Prop:=PI X tg iter (G6 X.K d)
theorem PI.imp{X:Cx}{tg iter:Expr}{t t':TI}(h:PI X tg iter t) (i:∀σ H Q,t' σ H Q→t σ H Q):PI X tg iter t':=fun pins s σ H Q I q=>h pins s σ H Q I (i _ _ _ q)
def cS(a:af):Ev→aa→R Src:=fun e c=>(a e c).bind fun x c=>match x with
 |.lst l=>.ok ⟨l,fun _=>True⟩ c
 |.ck l=>.ok ⟨l.map D.int,fun _=>True⟩ c
 |.ref k=>match c[k]? with
  |some (.lst l)=>.ok ⟨l,fun c=>c[k]? = some (.lst l)⟩ c
  |none=>.bad
 |_=>.bad
def jD(a:af):Ev→aa→R Src:=fun e c=>(a e c).bind fun x c=>match x with
 |.tup l=>.ok ⟨l,fun _=>True⟩ c
 |_=>.bad
def aM(lo hi:Int):List D:=(List.range (hi-lo).toNat).map fun(i:Nat)=>D.int (lo+(i:Int))
def bh(a:aj):Ev→aa→R Src:=fun e c=>(a e c).bind fun xs c=>match xs with
 |[.int j]=>if -(2^62)≤j∧j<2^62 then .ok ⟨aM 0 j,fun _=>True⟩ c else .bad
 |_=>.bad
def ff(a:aj):Ev→aa→R Src:=fun e c=>(a e c).bind fun xs c=>match xs with
 |[.int i,.int j]=>if -(2^62)≤i∧i<2^62∧-(2^62)≤j∧j<2^62 then .ok ⟨aM i j,fun _=>True⟩ c else .bad
 |_=>.bad
section
variable {X:Cx}{tg:Expr}{K:PySem.W.Frag}{ρ:List Addr}{H:Hp}
theorem Df{l:List D}{a:Addr}{st:aa→Prop}(h:∀ρ' H' c',Wd K ρ' H' c'→Ext ρ H ρ' H'→st c'→∃xs,bw K H' a xs∧aL K ρ' H' l xs):JS K ρ H ⟨l,st⟩ (Gp K a):=by
 intro ρ' H' c' W E s i
 obtain⟨xs,q,r⟩:=h ρ' H' c' W E s
 refine⟨fun d hd=>?_,fun e=>⟨xs,q,by rw[r.length];exact ai2 e.symm⟩⟩
 obtain⟨x,hx,rx⟩:=r.get hd
 refine⟨⟨xs,x,q,hx⟩,fun y H2 hy=>?_⟩
 obtain⟨rfl,hy⟩:=hy
 have:=hy xs q
 rw[hx]at this;cases this
 exact⟨W,Ext.refl,rx⟩
theorem Z8{l:List D}{a:Addr}{st:aa→Prop}(h:∀ρ' H' c',Wd K ρ' H' c'→Ext ρ H ρ' H'→st c'→∃xs,bX K H' a xs∧aL K ρ' H' l xs):JS K ρ H ⟨l,st⟩ (Gn K a):=by
 intro ρ' H' c' W E s i
 obtain⟨xs,q,r⟩:=h ρ' H' c' W E s
 refine⟨fun d hd=>?_,fun e=>⟨xs,q,by rw[r.length];exact ai2 e.symm⟩⟩
 obtain⟨x,hx,rx⟩:=r.get hd
 refine⟨⟨xs,x,q,hx⟩,fun y H2 hy=>?_⟩
 obtain⟨rfl,hy⟩:=hy
 have:=hy xs q
 rw[hx]at this;cases this
 exact⟨W,Ext.refl,rx⟩
theorem jS{lo hi:Int}{i:Nat}{d:D}(h:(aM lo hi)[i]? = some d):i<(hi-lo).toNat∧d=.int (lo+i):=by
 unfold aM at h
 rw[ahP]at h
 cases q:(List.range (hi-lo).toNat)[i]? with
 |none=>rw[q]at h;cases h
 |some j =>
  rw[q]at h
  have h1:=(ahz.mp q)
  obtain⟨h2,h3⟩:=h1
  rw[ak1]at h3
  subst h3
  cases h
  exact⟨by simpa using h2,rfl⟩
theorem J8{lo hi:Int}{st:aa→Prop}:JS K ρ H ⟨aM lo hi,st⟩ (vV lo (hi-lo).toNat):=by
 intro ρ' H' c' W E s i
 refine⟨fun d hd=>?_,fun e=>?_⟩
 ·obtain⟨h1,rfl⟩:=jS hd
  refine⟨h1,fun x H2 hy=>?_⟩
  obtain⟨rfl,rfl⟩:=hy
  exact⟨W,Ext.refl,rfl⟩
 ·have:(aM lo hi).length=(hi-lo).toNat:=by simp[aM]
  show(hi-lo).toNat≤i
  rw[e]
  exact ai2 this.symm
theorem lF{l:Expr}{dl:af}(hl:bx X l dl):PId X tg l (cS dl):=(Ut hl).imp fun σ H Q h=>by
 obtain⟨ρ,e,c,W,V,p⟩:=h
 refine⟨ρ,e,c,W,V,post.bind p fun x c1 aO H1 v _ W1 X1 r1 p1=>?_⟩
 cases x with
 |lst l =>
  obtain⟨a,xs,rfl,s,rs⟩:=r1
  exact⟨a,rfl,⟨xs,bw.of s.1⟩,p1.here W1 (Df fun ρ' H' c' W' E _=>⟨xs,bw.of (BP E s).1,aL.mono W1 E _ _ rs⟩)⟩
 |ck l =>
  obtain⟨a,rfl,s⟩:=r1
  exact⟨a,rfl,⟨_,s.sql⟩,p1.here W1 (Df fun ρ' H' c' W' E _=>⟨_,(Hu E s).sql,aL.ints⟩)⟩
 |ref k =>
  obtain⟨a,rfl,ha⟩:=r1
  dsimp only at p1
  split at p1
  ·rename_i l hl
   obtain⟨_,xs,hx,rs⟩:=W1.fO k a _ ha hl
   refine⟨a,rfl,⟨xs,bw.of hx⟩,p1.here W1 (Df fun ρ' H' c' W' E st=>?_)⟩
   obtain⟨_,ys,hy,rs'⟩:=W'.fO k a _ (E.pre k a ha) st
   exact⟨ys,bw.of hy,rs'⟩
  ·exact p1.elim
 |_=>exact p1.elim
theorem u5{l:Expr}{dl:af}(hl:bx X l dl):PId X tg l (jD dl):=(Uq hl).imp fun σ H Q h=>by
 obtain⟨ρ,e,c,W,V,p⟩:=h
 refine⟨ρ,e,c,W,V,post.bind p fun x c1 aO H1 v _ W1 X1 r1 p1=>?_⟩
 cases x with
 |tup l =>
  obtain⟨a,xs,rfl,s,rs⟩:=r1
  exact⟨a,rfl,⟨xs,bX.of s⟩,p1.here W1 (Z8 fun ρ' H' c' W' E _=>⟨xs,bX.of (t7 W1 E s),aL.mono W1 E _ _ rs⟩)⟩
 |_=>exact p1.elim
theorem eg{a:Expr}{da:aj}{p pos:Pos}(ha:g8 X [a] da) (hm:X.mg "range"=none) (hg:Gl X "range":=by rfl) (hs:starEach [a] X.env=[(false,eval a X.env)]:=by exact oz rfl):PId X tg (.Call (.Name "range" p) [a] [] pos) (bh da) :=
 (Us hg hm ha hs).imp fun σ H Q h=>by
  obtain⟨ρ,e,c,W,V,p⟩:=h
  refine⟨ρ,e,c,W,V,post.bind p fun x c1 aO H1 v _ W1 X1 r1 p1=>?_⟩
  split at p1
  ·rename_i j _
   split at p1
   ·rename_i hj
    obtain⟨y,ys,rfl,ry,rs⟩:=r1
    cases ry;cases rs
    refine⟨j,rfl,hj.1,hj.2,p1.here W1 ?_⟩
    have:=J8 (K:=X.K) (ρ:=aO) (H:=H1) (lo:=0) (hi:=j) (st:=fun _=>True)
    rw[Int.sub_zero]at this
    exact this
   ·exact p1.elim
  ·exact p1.elim
theorem nA{a b:Expr}{da:aj}{p pos:Pos}(ha:g8 X [a,b] da) (hm:X.mg "range"=none) (hg:Gl X "range":=by rfl) (hs:starEach [a,b] X.env=[(false,eval a X.env),(false,eval b X.env)]:=by exact AF rfl rfl) (hs2:starEach [b] X.env=[(false,eval b X.env)]:=by exact oz rfl):PId X tg (.Call (.Name "range" p) [a,b] [] pos) (ff da) :=
 (Ur hg hm ha hs hs2).imp fun σ H Q h=>by
  obtain⟨ρ,e,c,W,V,p⟩:=h
  refine⟨ρ,e,c,W,V,post.bind p fun x c1 aO H1 v _ W1 X1 r1 p1=>?_⟩
  split at p1
  ·rename_i i j _
   split at p1
   ·rename_i hj
    obtain⟨y,ys,rfl,ry,z,zs,rfl,rz,rs⟩:=r1
    cases ry;cases rz;cases rs
    exact⟨i,j,rfl,hj,p1.here W1 J8⟩
   ·exact p1.elim
  ·exact p1.elim
theorem Z7{l m:List D}{a b:Addr}{st:aa→Prop}(h:∀ρ' H' c',Wd K ρ' H' c'→Ext ρ H ρ' H'→st c'→∃xs ys,bX K H' a xs∧bX K H' b ys∧aL K ρ' H' l xs∧aL K ρ' H' m ys):JS K ρ H ⟨List.zipWith (fun x y=>.tup [x,y]) l m,st⟩ (zJ (bX K) a b):=by
 intro ρ' H' c' W E s i
 obtain⟨xs,ys,q1,q2,r1,r2⟩:=h ρ' H' c' W E s
 refine⟨fun d hd=>?_,fun e=>⟨xs,ys,q1,q2,?_⟩⟩
 ·have hd:(List.zipWith (fun x y=>D.tup [x,y]) l m)[i]? = some d:=hd
  rw[alU]at hd
  cases e1:l[i]? with
  |none=>rw[e1]at hd;cases hd
  |some x =>
   cases e2:m[i]? with
   |none=>rw[e1,e2]at hd;cases hd
   |some y =>
    rw[e1,e2]at hd
    cases hd
    obtain⟨v,hv,rv⟩:=r1.get e1
    obtain⟨u,hu,ru⟩:=r2.get e2
    refine⟨⟨xs,ys,v,u,q1,q2,hv,hu⟩,fun z H2 hz=>?_⟩
    obtain⟨t,v',u',rfl,ht,rfl,hz⟩:=hz
    obtain⟨z1,z2⟩:=hz xs ys q1 q2
    rw[hv]at z1;rw[hu]at z2
    cases z1;cases z2
    exact⟨W.fresh ht,Ext.fresh W ht,t,[v,u],rfl,f7,v,[u],rfl,Rel.mono W (Ext.fresh W ht) _ _ rv,u,[],rfl,Rel.mono W (Ext.fresh W ht) _ _ ru,rfl⟩
 ·have e:i=(List.zipWith (fun x y=>D.tup [x,y]) l m).length:=e
  rw[alV]at e
  rw[r1.length,r2.length]
  omega
open Classical in
def bS(st:aa→Prop) (g:Gd) (b:ah):List D→ah
 |[],e,c=>if st c then .ok (.nx e) c else .bad
 |x::xs,e,c=>if st c then(g x e c).bind fun e c=>(b e c).bind fun f c=>match f with
   |.nx e=>bS st g b xs e c
   |.ct e=>bS st g b xs e c
   |.bk e=>.ok (.nx e) c
   |.rt d=>.ok (.rt d) c
  else .bad
def b9(s:Ev→aa→R Src) (g:Gd) (b:ah):ah:=fun e c=>(s e c).bind fun s c=>bS s.stays g b s.items e c
theorem gc{iter:Expr}{body:List Stmt}{ds:Ev→aa→R Src}{g:Gd}{db:ah}{pos:Pos}(hi:PId X tg iter ds) (hg:nY X tg g) (hb:cy X body db) (hp:PassesOwn (model X.prog X.w) X.A X.env X.xe:=by exact ak2) (hc:X.calm=true:=by rfl)
  (hs:∀x,foldedSetIterable iter X.env x=pure x:=by intro _;rfl):jJ X (.For tg iter body [] pos) (b9 ds g db):=(HY hp hc hi hg hb hs).imp fun Z σ H h=>by
 obtain⟨ρ,e,c,W,V,p⟩:=h
 refine⟨ρ,e,c,W,V,post.bind p fun s c1 aO H1 J _ W1 X1 j1 p1=>?_⟩
 refine⟨fun i m σ H=>∃ρ e c,Wd X.K ρ H c∧Ext aO H1 ρ H∧dW X.K ρ H e σ∧i≤s.items.length∧m=s.items.length-i∧post X.K (iQ X.K) (bS s.stays g db (s.items.drop i) e c) ρ H (En Z),
  ⟨_,aO,e,c1,W1,Ext.refl,V.mono W X1,ahY _,rfl,p1⟩,?_⟩
 rintro i m σ2 H2 ⟨dP,e2,c2,W2,X2,V2,hi2,rfl,p2⟩
 by_cases hl:i<s.items.length
 ·rw[akX hl]at p2
  unfold bS at p2
  split at p2
  ·rename_i hst
   obtain⟨go,yl⟩:=(j1 dP H2 c2 W2 X2 hst i).1 _ (ahy hl)
   refine .inr ⟨go,fun σ' H'=>∃ρ e c,Wd X.K ρ H' c∧Ext aO H1 ρ H'∧dW X.K ρ H' e σ'∧i+1≤s.items.length∧post X.K (iQ X.K) (bS s.stays g db (s.items.drop (i+1)) e c) ρ H' (En Z),?_,fun x H3 hy=>?_⟩
   ·rintro σ' H' ⟨ρ,e,c,w,x,v,l,q⟩
    exact⟨s.items.length-(i+1),by omega,ρ,e,c,w,x,v,l,rfl,q⟩
   ·obtain⟨W3,X3,r3⟩:=yl x H3 hy
    refine⟨dP,_,e2,c2,W3,V2.mono W2 X3,r3,post.bind (post.ext p2 X3) fun e4 c4 zM H4 NX _ W4 X4 V4 p4=>?_⟩
    refine⟨zM,e4,c4,W4,V4,post.bind p4 fun f c5 iV H5 b _ W5 X5 r5 p5=>?_⟩
    have vQ:=((X2.trans X3).trans X4).trans X5
    cases f with
    |nx e1=>obtain⟨σ1,rfl,V1⟩:=r5;exact⟨iV,e1,c5,W5,vQ,V1,hl,p5⟩
    |ct e1=>obtain⟨σ1,rfl,V1⟩:=r5;exact⟨iV,e1,c5,W5,vQ,V1,hl,p5⟩
    |bk e1=>obtain⟨σ1,rfl,V1⟩:=r5;exact post.here (Q:=En Z) (show post X.K (iQ X.K) (.ok (Fl.nx e1) c5) iV H5 (En Z)from p5) W5 ⟨_,rfl,V1⟩
    |rt d=>obtain⟨v,rfl,V1⟩:=r5;exact post.here (Q:=En Z) (show post X.K (iQ X.K) (.ok (Fl.rt d) c5) iV H5 (En Z)from p5) W5 ⟨_,rfl,V1⟩
  ·exact p2.elim
 ·obtain rfl:i=s.items.length:=by omega
  rw[alW (aho _)]at p2
  unfold bS at p2
  split at p2
  ·rename_i hst
   exact .inl ⟨(j1 dP H2 c2 W2 X2 hst _).2 rfl,post.here (Q:=En Z) p2 W2 ⟨σ2,rfl,V2⟩⟩
  ·exact p2.elim
def jo(t:ai) (b:ah):Nat→ah
 |0,_,_=>.bad
 |n+1,e,c=>(t e c).bind fun k c=>if k=true then(b e c).bind fun f c=>match f with
   |.nx e=>jo t b n e c
   |.ct e=>jo t b n e c
   |.bk e=>.ok (.nx e) c
   |.rt d=>.ok (.rt d) c
  else .ok (.nx e) c
theorem Rq{n:Nat}{c':Expr}{body:List Stmt}{dt:ai}{db:ah}{pos:Pos}(ht:iR X c' dt) (hb:cy X body db) (hp:PassesOwn (model X.prog X.w) X.A X.env X.xe:=by exact ak2):jJ X (.While c' body [] pos) (jo dt db n):=(S4 hp ht hb).imp fun Z σ H h=>by
 obtain⟨ρ,e,c,W,V,p⟩:=h
 refine⟨fun m σ H=>∃ρ e c,Wd X.K ρ H c∧dW X.K ρ H e σ∧post X.K (iQ X.K) (jo dt db m e c) ρ H (En Z),⟨n,ρ,e,c,W,V,p⟩,?_⟩
 rintro m σ2 H2 ⟨dP,e2,c2,W2,V2,p2⟩
 cases m with
 |zero=>exact p2.elim
 |succ m =>
  unfold jo at p2
  refine⟨dP,e2,c2,W2,V2,post.bind p2 fun k c3 tR H3 b _ W3 X3 r3 p3=>?_⟩
  cases r3
  cases k with
  |true =>
   refine pF ⟨fun σ H=>∃ρ e c,Wd X.K ρ H c∧dW X.K ρ H e σ∧post X.K (iQ X.K) (jo dt db m e c) ρ H (En Z),fun σ' H' q=>⟨m,aiy _,q⟩,?_⟩
   refine⟨tR,e2,c3,W3,V2.mono W2 X3,post.bind p3 fun f c5 iV H5 b _ W5 X5 r5 p5=>?_⟩
   cases f with
   |nx e1=>obtain⟨σ1,rfl,V1⟩:=r5;exact⟨iV,e1,c5,W5,V1,p5⟩
   |ct e1=>obtain⟨σ1,rfl,V1⟩:=r5;exact⟨iV,e1,c5,W5,V1,p5⟩
   |bk e1=>obtain⟨σ1,rfl,V1⟩:=r5;exact post.here (Q:=En Z) (show post X.K (iQ X.K) (.ok (Fl.nx e1) c5) iV H5 (En Z)from p5) W5 ⟨_,rfl,V1⟩
   |rt d=>obtain⟨v,rfl,V1⟩:=r5;exact post.here (Q:=En Z) (show post X.K (iQ X.K) (.ok (Fl.rt d) c5) iV H5 (En Z)from p5) W5 ⟨_,rfl,V1⟩
  |false=>exact pG (post.here (Q:=En Z) (show post X.K (iQ X.K) (.ok (Fl.nx e2) c3) tR H3 (En Z)from p3) W3 ⟨_,rfl,V2.mono W2 X3⟩)
end
end L2
namespace L2
open PySem PySem.Spec PyProof.Rows
def dS(pick:List (Option Nat)) (e:Ev):Ev:=pick.map fun o=>o.bind fun j=>(e[j]?).bind id
open Classical in
def bM(st:aa→Prop) (g:Gd) (t:ai) (el:af):List D→Ev→List D→aa→R (List D)
 |[],e,acc,c=>if st c then .ok acc c else .bad
 |x::xs,e,acc,c=>if st c then(g x e c).bind fun e c=>(t e c).bind fun k c=>if k=true then(el e c).bind fun y c=>bM st g t el xs e (acc++[y]) c else bM st g t el xs e acc c else .bad
def aZ(s:Ev→aa→R Src) (pick:List (Option Nat)) (g:Gd) (t:ai) (el:af):af:=fun e c=>(s e c).bind fun s c =>
 if s.items.length<sizeLine then(bM s.stays g t el s.items (dS pick e) [] c).bind fun l c=>.ok (.lst l) c else .bad
def bg:ai:=fun _ c=>.ok true c
abbrev zG(X:Cx) (ifs:List Expr) (t:ai):Prop:=qa X ifs (tD X.K (fun _ _ a b=>a=b) t)
section
variable {X:Cx}{N':List Str}{pick:List (Option Nat)}{scope:Scope}{tg elt iter:Expr}{ifs:List Expr}{pos:Pos}{ds:Ev→aa→R Src}{g:Gd}{dt:ai}{de:af}
theorem fy:zG X [] bg:=fun pins s σ H Q I h=>by
 obtain⟨ρ,e,c,W,V,p⟩:=h
 exact Ul pins s σ H Q I (post.here (b:=true) p W rfl)
theorem jq{c':Expr}(h:iR X c' dt):zG X [c'] dt:=Uk h
theorem dW.picked{K:PySem.W.Frag}{ρ:List Addr}{H:Hp}{e:Ev}{σ:St}(V:dW K ρ H e σ):dW K ρ H (dS pick e) (kO pick σ):=by
 refine⟨fun i d h=>?_,by simp[dS,kO]⟩
 unfold dS at h
 unfold kO
 rw[ahP]at h ⊢
 cases q:pick[i]? with
 |none=>rw[q]at h;cases h
 |some o =>
  rw[q]at h
  cases o with
  |none=>cases h
  |some j =>
   have h':(e[j]?).bind id=some d:=ahJ h
   cases q2:e[j]? with
   |none=>rw[q2]at h';cases h'
   |some z =>
    rw[q2]at h'
    have h'':z=some d:=h'
    subst h''
    obtain⟨v,hv,r⟩:=V.get j d q2
    exact⟨v,by simp[hv],r⟩
theorem adW{K:PySem.W.Frag}{aO:List Addr}{H1:Hp}{c1:aa}{e:Ev}{σ:St}{s:Src}{J:It}{Q:VK}(W1:Wd K aO H1 c1) (V1:dW K aO H1 e σ) (j1:JS K aO H1 s J) (hn:s.items.length<sizeLine)
  (p1:post K (Rel K) ((bM s.stays g dt de s.items e [] c1).bind fun l c=>.ok (.lst l) c) aO H1 Q):NU J (wH K g) (tD K (fun _ _ a b=>a=b) dt) (tD K (Rel K) de) Q σ H1:=by
 refine⟨fun i m σ ys H=>∃ρ e acc c,Wd K ρ H c∧Ext aO H1 ρ H∧dW K ρ H e σ∧aL K ρ H acc ys∧acc.length≤i∧i≤s.items.length∧m=s.items.length-i∧post K (Rel K) ((bM s.stays g dt de (s.items.drop i) e acc c).bind fun l c=>.ok (.lst l) c) ρ H Q,
  ⟨_,aO,e,[],c1,W1,Ext.refl,V1,rfl,aho _,ahY _,rfl,p1⟩,?_⟩
 rintro i m σ2 ys H2 ⟨dP,e2,acc,c2,W2,X2,V2,r2,ha,hi2,rfl,p2⟩
 refine⟨by rw[r2.length];omega,?_⟩
 by_cases hl:i<s.items.length
 ·rw[akX hl]at p2
  unfold bM at p2
  split at p2
  ·rename_i hst
   obtain⟨go,yl⟩:=(j1 dP H2 c2 W2 X2 hst i).1 _ (ahy hl)
   refine .inr ⟨go,fun σ' ys' H'=>∃ρ e acc c,Wd K ρ H' c∧Ext aO H1 ρ H'∧dW K ρ H' e σ'∧aL K ρ H' acc ys'∧acc.length≤i+1∧i+1≤s.items.length∧post K (Rel K) ((bM s.stays g dt de (s.items.drop (i+1)) e acc c).bind fun l c=>.ok (.lst l) c) ρ H' Q,?_,fun x H3 hy=>?_⟩
   ·rintro σ' ys' H' ⟨ρ,e,acc,c,w,x,v,r,a,l,q⟩
    exact⟨s.items.length-(i+1),by omega,ρ,e,acc,c,w,x,v,r,a,l,rfl,q⟩
   ·obtain⟨W3,X3,r3⟩:=yl x H3 hy
    have assoc:∀{α β γ:Type}(r:R α) (f:α→aa→R β) (g:β→aa→R γ),(r.bind f).bind g=r.bind fun a c=>(f a c).bind g:=fun r f g=>by cases r<;>rfl
    rw[assoc]at p2
    refine⟨dP,_,e2,c2,W3,V2.mono W2 X3,r3,post.bind (post.ext p2 X3) fun e4 c4 zM H4 NX _ W4 X4 V4 p4=>?_⟩
    rw[assoc]at p4
    refine⟨zM,e4,c4,W4,V4,post.bind p4 fun k c5 iV H5 b _ W5 X5 r5 p5=>?_⟩
    cases r5
    have vQ:=((X2.trans X3).trans X4).trans X5
    have HU:=aL.mono W2 ((X3.trans X4).trans X5) _ _ r2
    cases k with
    |true =>
     refine pF ?_
     rw[if_pos rfl,assoc]at p5
     refine⟨iV,e4,c5,W5,V4.mono W4 X5,post.bind p5 fun y c6 NY H6 v _ W6 X6 r6 p6=>?_⟩
     refine⟨NY,e4,acc++[y],c6,W6,vQ.trans X6,(V4.mono W4 X5).mono W5 X6,(aL.mono W5 X6 _ _ HU).append ⟨v,[],rfl,r6,rfl⟩,by simp;exact ha,hl,p6⟩
    |false =>
     refine pG ?_
     rw[if_neg ahG]at p5
     exact⟨iV,e4,acc,c5,W5,vQ,V4.mono W4 X5,HU,Nat.le_succ_of_le ha,hl,p5⟩
  ·exact p2.elim
 ·obtain rfl:i=s.items.length:=by omega
  rw[alW (aho _)]at p2
  unfold bM at p2
  split at p2
  ·rename_i hst
   exact .inl ⟨(j1 dP H2 c2 W2 X2 hst _).2 rfl,nh W2 r2 p2⟩
  ·exact p2.elim
theorem LS{σ:St}{H:Hp}{Q:VK}{K:PySem.W.Frag}(h:tD K (Rel K) (aZ ds pick g dt de) σ H Q):AB (G6 K ds) pick (wH K g) (tD K (fun _ _ a b=>a=b) dt) (tD K (Rel K) de) σ H Q:=by
 obtain⟨ρ,e,c,W,V,p⟩:=h
 refine⟨ρ,e,c,W,V,post.bind p fun s c1 aO H1 J _ W1 X1 j1 p1=>?_⟩
 split at p1
 ·rename_i hn
  exact adW W1 (V.mono W X1).picked j1 hn p1
 ·exact p1.elim
theorem eY(S:cz X N' pick scope) (hit:PId X tg iter ds)
  (hg:∀cl C s₀ H₀ ex pn,nY (fN X N' scope cl C s₀ H₀ ex pn) tg g) (hi:∀cl C s₀ H₀ ex pn,zG (fN X N' scope cl C s₀ H₀ ex pn) ifs dt) (he:∀cl C s₀ H₀ ex pn,bx (fN X N' scope cl C s₀ H₀ ex pn) elt de)
  (hc:X.calm=true:=by rfl) (hs:∀x,foldedSetIterable iter X.env x=pure x:=by intro _;rfl) :
  bx X (.ListComp elt [⟨tg,iter,ifs,0⟩] scope pos) (aZ ds pick g dt de):=(UJ S hc hit hg hi he hs).imp fun σ H Q h=>LS h
theorem kQ{i:Nat}{y:Str}{py spos:Pos}(S:cz X N' pick scope) (hit:PId X tg iter ds)
  (hg:∀cl C s₀ H₀ ex pn,nY (fN X N' scope cl C s₀ H₀ ex pn) tg g) (hi:∀cl C s₀ H₀ ex pn,zG (fN X N' scope cl C s₀ H₀ ex pn) ifs dt) (he:∀cl C s₀ H₀ ex pn,bx (fN X N' scope cl C s₀ H₀ ex pn) elt de)
  (hsw:swapsWith (.ListComp elt [⟨tg,iter,ifs,0⟩] scope pos) (some (.Name y py)) spos.line X.env=pure true:=by rfl) (hN:X.N.Nodup:=by decide +kernel) (hy:X.N[i]? = some y:=by rfl) (hl:X.env.scope.names.lookup y=some .local:=by rfl)
  (hc:X.calm=true:=by rfl) (hs:∀x,foldedSetIterable iter X.env x=pure x:=by intro _;rfl) :
  jJ X (.Assign [.Name y py] (.ListComp elt [⟨tg,iter,ifs,0⟩] scope pos) spos) (aE i (aZ ds pick g dt de)):=(S5 (g:=wH X.K g) (tt:=tD X.K (fun _ _ a b=>a=b) dt) (te:=tD X.K (Rel X.K) de) hsw hN hy hl S hc hit hg hi he hs).imp fun Z σ H h=>by
 refine LS (g:=g) (dt:=dt) (de:=de) ?_
 obtain⟨ρ,e,c,W,V,p⟩:=h
 refine⟨ρ,e,c,W,V,post.bind p fun x c1 aO H1 v _ W1 X1 r1 p1=>p1.here W1 ⟨_,rfl,(V.mono W X1).set r1 i⟩⟩
end
def cC(K:PySem.W.Frag) (n:Nat) (m:List D→aa→R D):Sp:=fun vs H Q _=>∃ρ xs c,Wd K ρ H c∧aL K ρ H xs vs∧xs.length=n∧post K (Rel K) (m xs c) ρ H Q
def aA(n:Nat) (m:List D→aa→R D) (a:aj):af:=fun e c=>(a e c).bind fun xs c=>if xs.length=n then m xs c else .bad
def cB(n:Nat) (xs:List D):Ev:=xs.map some++List.replicate (n-xs.length) none
def dM(own:Bool) (n:Nat) (v:D) (c:aa):R D:=match v with
 |.ref k=>match c[k]? with
  |some (.lst l)=>if n≤k then(if own=true then .ok (.ref n) (c.take n++[.lst l])else .ok (.lst l) (c.take n))else .bad
  |none=>.bad
 |v=>if noRef v=true then .ok v (c.take n)else .bad
def bW(n:Nat) (own:Bool) (d:ah):List D→aa→R D:=fun xs c=>(d (cB n xs) c).bind fun f c'=>match f with
 |.rt v=>dM own c.length v c'
 |.nx _=>dM own c.length .aG c'
 |_=>.bad
section
variable {P:Program}{w:World}{K:PySem.W.Frag}{mg:Str→Option Value}{base:Heap}
theorem Lw{own:Bool}{ρ aO:List Addr}{H H1:Hp}{c c1:aa}{v:D}{x:V}{Q:VK}(W:Wd K ρ H c) (W1:Wd K aO H1 c1) (X1:Ext ρ H aO H1) (r:Rel K aO H1 v x) (p:post K (Rel K) (dM own c.length v c1) ρ H Q):Q x H1:=by
 have hn:=Ext.len W W1 X1
 have Wc:=W1.cut hn
 have Xc:=X1.cut (n:=c.length) (ai2 W.len)
 unfold dM at p
 split at p
 ·rename_i k
  split at p
  ·rename_i l hl
   split at p
   ·rename_i hk
    obtain⟨a,rfl,ha⟩:=r
    obtain⟨nr,xs,hx,rl⟩:=W1.fO k a _ ha hl
    have na:a∉aO.take c.length:=by
     intro h
     obtain⟨j,hj,e⟩:=ajA.mp h
     have hj2:j<c.length:=by simp at hj;omega
     rw[aj3]at e
     have hk1:=ahz.mp ha
     have hjl:j<aO.length:=by simp at hj;omega
     have:=(aiv W1.nd (h₀:=hjl) (h₁:=hk1.1)).mp (e.trans hk1.2.symm)
     omega
    have sub:∀b,b∈aO.take c.length→b∈aO:=fun b h=>ahR h
    split at p
    ·have lr:(aO.take c.length).length=c.length:=by simp[W1.len];omega
     refine p (aO.take c.length++[a]) H1 (.ref a) ?_ ?_ ⟨a,rfl,?_⟩
     ·refine⟨?_,by simp[W1.len],fun j b cl e1 e2=>?_,W1.tab⟩
      ·rw[ak0]
       refine⟨Wc.nd,by simp,?_⟩
       intro y hy z hz
       rw[aiz]at hz
       subst hz
       exact fun q=>na (q▸hy)
      ·by_cases hj:j<c.length
       ·rw[ah1 (by rw[lr];exact hj)]at e1
        rw[ah1 (by simp;omega)]at e2
        have q:=Wc.fO j b cl e1 e2
        cases cl with
        |lst l' =>
         obtain⟨jY,ys,hy,r'⟩:=q
         refine⟨jY,ys,hy,aL.low (ρ:=aO) (fun z hz=>?_) l' ys jY ?_⟩
         ·rcases ahZ.mp hz with hz|hz
          ·exact sub z hz
          ·rw[aiz]at hz;subst hz;exact ahL ha
         ·have e1':aO[j]? = some b:=by rw[akb,if_pos hj]at e1;exact e1
          have e2':c1[j]? = some (.lst l'):=by rw[akb,if_pos hj]at e2;exact e2
          obtain⟨_,zs,hz,rz⟩:=W1.fO j b _ e1' e2'
          rw[hy]at hz;cases hz
          exact rz
       ·have hj':j=c.length:=by
         have:=(ahz.mp e1).1
         rw[ahW,lr]at this
         simp at this
         omega
        subst hj'
        rw[aip (by rw[lr];exact aho _),lr,ajM]at e1
        rw[aip (by simp;omega),show c.length-(List.take c.length c1).length=0 by simp;omega]at e2
        cases e1;cases e2
        refine⟨nr,xs,hx,aL.low (ρ:=aO) (fun z hz=>?_) l xs nr rl⟩
        rcases ahZ.mp hz with hz|hz
        ·exact sub z hz
        ·rw[aiz]at hz;subst hz;exact ahL ha
     ·refine⟨fun j b e=>?_,fun b o e z t=>?_⟩
      ·have q:=Xc.pre j b e
       rw[ah1 (ahz.mp q).1];exact q
      ·obtain⟨h1,h2⟩:=X1.keep b o e z t
       refine⟨h1,fun q=>h2 ?_⟩
       rcases ahZ.mp q with q|q
       ·exact sub b q
       ·rw[aiz]at q;subst q;exact ahL ha
     ·rw[aip (by rw[lr];exact aho _),lr,ajM];rfl
    ·exact p (aO.take c.length) H1 (.ref a) Wc Xc ⟨a,xs,rfl,⟨hx,na⟩,aL.low sub l xs nr rl⟩
   ·exact p.elim
  ·exact p.elim
 ·split at p
  ·rename_i hv
   exact p _ H1 x Wc Xc (Rel.low (fun b h=>ahR h) _ _ hv r)
  ·exact p.elim
theorem dW.start{ρ:List Addr}{H:Hp}{xs:List D}{vs:List V}{N:List Str}(r:aL K ρ H xs vs):dW K ρ H (cB N.length xs) (start N vs):=by
 have hl:=r.length
 refine⟨fun i d h=>?_,by simp[cB,L2.start,hl]⟩
 unfold cB at h
 unfold L2.start
 by_cases hi:i<xs.length
 ·rw[ah1 (by simpa using hi),ahP]at h
  cases q:xs[i]? with
  |none=>rw[q]at h;cases h
  |some x =>
   rw[q]at h
   cases h
   obtain⟨v,hv,rv⟩:=r.get q
   exact⟨v,by rw[ah1 (by simp[hl];exact hi),ahP,hv];rfl,rv⟩
 ·rw[aip (by simpa using ali hi)]at h
  have:=ahL h
  rw[List.mem_replicate]at this
  cases this.2
theorem dR{x qual:Str}{st:Stmt}{f:Addr}{fd:FuncData}{N ps:List Str}{k n m:Nat}{own:Bool}{d:ah}(F:nZ K x qual st f fd) (S:cM N ps (bf st)) (hN:N.length=n) (hm:ps.length=m)
  (hb:∀(cdv:Value) (A:Around) (outer:List Env) (s:Shared) (H:Hp) (E:XK),e8 k (A.deeper (envOfC qual (bf st) s.heap.objs.size f cdv))→cy (nQ bU P w K mg base N qual (bf st) f cdv A outer s H E).rG (cG st) d) :
  bY P w K mg base bU (k+1) f fd ps (cC K m (bW n own d)):=by
 subst hN;subst hm
 refine F.ok S (fun vs H Q E h=>?_) (fun cdv A outer s H vs Q E hr h=>⟨_,hb cdv A outer s H E hr,?_⟩)
 ·obtain⟨ρ,xs,c,W,r,hl,p⟩:=h
  exact r.length.trans hl
 ·obtain⟨ρ,xs,c,W,r,hl,p⟩:=h
  refine⟨ρ,cB N.length xs,c,W,dW.start r,post.bind p fun fl c1 aO H1 b _ W1 X1 r1 p1=>?_⟩
  cases fl with
  |nx e1 =>
   obtain⟨σ1,rfl,V1⟩:=r1
   exact Lw (v:=.aG) (x:=.aG) (H1:=H1) W W1 X1 rfl (by
    unfold bW at p;exact id (α:=post K (Rel K) (dM own c.length .aG c1) ρ H Q) (by
     rename_i he;rw[he]at p;exact p))
  |rt d =>
   obtain⟨v,rfl,V1⟩:=r1
   exact Lw (v:=d) (x:=v) (H1:=H1) W W1 X1 V1 (by
    unfold bW at p;rename_i he;rw[he]at p;exact p)
  |bk e1=>exact p1.elim
  |ct e1=>exact p1.elim
end
end L2
namespace L2
open PySem PySem.Spec PyProof.Rows
section
variable {X:Cx}
theorem bz{x:Str}{st:Stmt}{ps:List Str}{f:Addr}{fd:FuncData}{k n:Nat}{m:List D→aa→R D}{e:Expr}{es:List Expr}{da:aj}{p pos:Pos}(D:Def X.K X.mg x st ps f fd) (G:bY X.prog X.w X.K X.mg X.base bU k f fd ps (cC X.K n m)) (hr:e8 k X.A) (ha:g8 X (e::es) da) (hg:Gl X x:=by rfl)
  (hdb:(x==("__debug__":Str))=false:=by decide) (he:starEach (e::es) X.env=(false,eval e X.env)::starEach es X.env:=by exact eV rfl) (hpl:(backTo pos (starEach es X.env)).any (·.1)=false:=by exact iE rfl) :
  bx X (.Call (.Name x p) (e::es) [] pos) (aA n m da):=(UH D G hr ha hg hdb he hpl).imp fun σ H Q h=>by
 obtain⟨ρ,e,c,W,V,q⟩:=h
 refine⟨ρ,e,c,W,V,post.bind q fun xs c1 aO H1 vs _ W1 X1 r1 p1=>?_⟩
 split at p1
 ·rename_i hl
  exact⟨aO,xs,c1,W1,by rw[ajg];exact r1,hl,p1⟩
 ·exact p1.elim
theorem bF{id:String}{x:Str}{p pos:Pos}{e:Expr}{es:List Expr}{da:aj}{f:List D→aa→R D}(hc:cZ X (.builtin id) (rN X.K f)) (hm:X.mg x=none) (hv:bootBuiltins x=some (.builtin id)) (ha:g8 X (e::es) da) (hg:Gl X x:=by rfl) (hn:x≠"__name__":=by decide) (hdb:(x==("__debug__":Str))=false:=by decide)
  (he:starEach (e::es) X.env=(false,eval e X.env)::starEach es X.env:=by exact eV rfl) (hpl:(backTo pos (starEach es X.env)).any (·.1)=false:=by exact iE rfl):bx X (.Call (.Name x p) (e::es) [] pos) (aF f da):=(A9 hc hg hm hv ha hn hdb he hpl).imp fun σ H Q h=>G4 h
theorem kU{T:String}{x:Str}{p pos:Pos}{e:Expr}{es:List Expr}{da:aj}{f:List D→aa→R D}(hc:cZ X (.type T) (rN X.K f)) (hm:X.mg x=none) (hv:bootBuiltins x=some (.type T)) (ha:g8 X (e::es) da) (hg:Gl X x:=by rfl) (hn:x≠"__name__":=by decide) (hdb:(x==("__debug__":Str))=false:=by decide)
  (he:starEach (e::es) X.env=(false,eval e X.env)::starEach es X.env:=by exact eV rfl) (hpl:(backTo pos (starEach es X.env)).any (·.1)=false:=by exact iE rfl):bx X (.Call (.Name x p) (e::es) [] pos) (aF f da):=(uF hc hg hm hv ha hn hdb he hpl).imp fun σ H Q h=>G4 h
end
def aN:List D→aa→R D:=fun xs c=>match xs with
 |[x]=>match gv c x with
  |some l=>.ok (.int l.length) c
  |none=>match x with
   |.str z=>if z.length≤sizeLine then .ok (.int z.length) c else .bad
   |_=>.bad
 |_=>.bad
def GO:D→Option String
 |.aG=>some "NoneType"
 |.bl _=>some "bool"
 |.int _=>some "int"
 |.str _=>some "str"
 |.tup _=>some "tuple"
 |.lst _=>some "list"
 |.ref _=>some "list"
 |_=>none
def b7:List D→aa→R D:=fun xs c=>match xs with
 |[.jf,.ty T]=>if T∈["bool","int","str","list","tuple","dict"]then .ok (.bl (ud "dict" T)) c else .bad
 |[x,.ty T]=>match GO x with
  |some n=>if T∈["bool","int","str","list","tuple","dict"]then .ok (.bl (ud n T)) c else .bad
  |none=>.bad
 |_=>.bad
def nT:List D→Option (List Bool)
 |[]=>some []
 |.bl b::l=>(nT l).map (b :: ·)
 |_=>none
def gi:List D→Option (List Int)
 |[]=>some []
 |.int i::l=>(gi l).map (i :: ·)
 |_=>none
theorem zz(l:List Bool):nT (l.map D.bl)=some l:=by
 induction l with
 |nil=>rfl
 |cons a l ih=>simp[nT,ih]
theorem Dh(l:List Int):gi (l.map D.int)=some l:=by
 induction l with
 |nil=>rfl
 |cons a l ih=>simp[gi,ih]
theorem zA:∀{l:List D}{bs:List Bool},nT l=some bs→l=bs.map D.bl
 |[],bs,h=>by cases h;rfl
 |d::l,bs,h=>by
  cases d with
  |bl b =>
   unfold nT at h
   cases q:nT l with
   |none=>rw[q]at h;cases h
   |some r=>rw[q]at h;cases h;rw[zA q];rfl
  |_=>cases h
theorem lD:∀{l:List D}{bs:List Int},gi l=some bs→l=bs.map D.int
 |[],bs,h=>by cases h;rfl
 |d::l,bs,h=>by
  cases d with
  |int b =>
   unfold gi at h
   cases q:gi l with
   |none=>rw[q]at h;cases h
   |some r=>rw[q]at h;cases h;rw[lD q];rfl
  |_=>cases h
def oN(f:List Bool→Bool):List D→aa→R D:=fun xs c=>match xs with
 |[.lst l]=>match nT l with
  |some bs=>.ok (.bl (f bs)) c
  |none=>.bad
 |_=>.bad
def nV:=oN fun bs=>bs.all id
def jj:=oN fun bs=>bs.any id
def rK:List D→aa→R D:=fun xs c=>match xs with
 |[.int i,.int j]=>.ok (.int (if j>i then j else i)) c
 |_=>.bad
def fB:List D→aa→R D:=fun xs c=>match xs with
 |[.int i,.int j]=>.ok (.int (if j<i then j else i)) c
 |_=>.bad
def fK:Int→List Int→Int
 |a,[]=>a
 |a,b::l=>fK (if b<a then b else a) l
def eU:List D→aa→R D:=fun xs c=>match xs with
 |[x]=>match gv c x with
  |some l=>.ok (.tup l) c
  |none=>.bad
 |_=>.bad
section
variable {X:Cx}{K:PySem.W.Frag}{ρ:List Addr}{H:Hp}{c:aa}
theorem dN:cZ X (.builtin "len") (rN X.K aN):=by
 intro pins s σ H vs us Q I rv h
 obtain⟨ρ,xs,c,W,rx,p⟩:=h
 unfold aN at p
 split at p
 ·rename_i x
  obtain⟨v,r,rfl,hx,hr⟩:=rx
  cases hr
  split at p
  ·rename_i l hl
   obtain⟨a,ys,rfl,sq,r⟩:=wO W hx hl
   exact aed pins s σ H _ us Q I rv ⟨a,ys,rfl,sq,by rw[r.length];exact p.here W rfl⟩
  ·split at p
   ·split at p
    ·rename_i hz
     cases hx
     exact aec pins s σ H _ us Q I rv ⟨_,rfl,hz,p.here W rfl⟩
    ·exact p.elim
   ·exact p.elim
 ·exact p.elim
theorem O7{x:D}{v:V}{n:String}(W:Wd K ρ H c) (rx:Rel K ρ H x v) (h:GO x=some n):tyName H v n:=by
 cases x with
 |aG=>cases rx;cases h;exact rfl
 |bl b=>cases rx;cases h;exact rfl
 |int b=>cases rx;cases h;exact rfl
 |str b=>cases rx;cases h;exact rfl
 |tup l=>obtain⟨a,xs,rfl,s,r⟩:=rx;cases h;exact .inr (.inl ⟨rfl,xs,s⟩)
 |lst l=>obtain⟨a,xs,rfl,s,r⟩:=rx;cases h;exact .inl ⟨rfl,.inl ⟨xs,s.1⟩⟩
 |ref k =>
  obtain⟨a,rfl,s⟩:=rx
  cases h
  obtain⟨xs,e⟩:=W.at' (ahL s)
  exact .inl ⟨rfl,.inl ⟨xs,e⟩⟩
 |_=>cases h
theorem ji:cZ X (.builtin "isinstance") (rN X.K b7):=by
 intro pins s σ H vs us Q I rv h
 obtain⟨ρ,xs,c,W,rx,p⟩:=h
 unfold b7 at p
 split at p
 ·split at p
  ·rename_i hT
   obtain⟨v,r,rfl,⟨a,rfl,hH⟩,u,r',rfl,hu,hr⟩:=rx
   cases hr
   cases hu
   obtain⟨u1,u2,rfl,r1,r2⟩:=Vals.two rv
   cases r1;cases r2
   obtain⟨hp,_,_⟩:=I.hok a _ hH
   exact aii akn I.gh hp (J4 (n:="dict") (by simp) hT) (fun z=>nomatch z) fun tk=>⟨.bl _,H,I.tok _,rfl,p.here W rfl⟩
  ·exact p.elim
 ·split at p
  ·rename_i n hn
   split at p
   ·rename_i hT
    obtain⟨v,r,rfl,hx,u,r',rfl,hu,hr⟩:=rx
    cases hr
    cases hu
    exact aee pins s σ H _ us Q I rv ⟨v,n,_,rfl,O7 W hx hn,hT,p.here W rfl⟩
   ·exact p.elim
  ·exact p.elim
 ·exact p.elim
theorem MI(hc:X.calm=true:=by rfl):cZ X (.builtin "all") (rN X.K nV):=by
 intro pins s σ H vs us Q I rv h
 obtain⟨ρ,xs,c,W,rx,p⟩:=h
 unfold nV oN at p
 split at p
 ·split at p
  ·rename_i bs hb
   obtain⟨v,r,rfl,⟨a,ys,rfl,s1,r1⟩,hr⟩:=rx
   cases hr
   rw[zA hb]at r1
   cases r1.F3
   exact aeg hc pins s σ H _ us Q I rv ⟨a,bs,rfl,bw.of s1.1,p.here W rfl⟩
  ·exact p.elim
 ·exact p.elim
theorem MH(hc:X.calm=true:=by rfl):cZ X (.builtin "any") (rN X.K jj):=by
 intro pins s σ H vs us Q I rv h
 obtain⟨ρ,xs,c,W,rx,p⟩:=h
 unfold jj oN at p
 split at p
 ·split at p
  ·rename_i bs hb
   obtain⟨v,r,rfl,⟨a,ys,rfl,s1,r1⟩,hr⟩:=rx
   cases hr
   rw[zA hb]at r1
   cases r1.F3
   exact aef hc pins s σ H _ us Q I rv ⟨a,bs,rfl,bw.of s1.1,p.here W rfl⟩
  ·exact p.elim
 ·exact p.elim
theorem ad4(hc:X.calm=true:=by rfl):cZ X (.builtin "max") (rN X.K rK):=by
 intro pins s σ H vs us Q I rv h
 obtain⟨ρ,xs,c,W,rx,p⟩:=h
 unfold rK at p
 split at p
 ·obtain⟨v,r,rfl,hx,u,r',rfl,hu,hr⟩:=rx
  cases hr;cases hx;cases hu
  exact aea hc pins s σ H _ us Q I rv ⟨_,_,rfl,p.here W rfl⟩
 ·exact p.elim
theorem sH(hc:X.calm=true:=by rfl):cZ X (.builtin "min") (rN X.K fB):=by
 intro pins s σ H vs us Q I rv h
 obtain⟨ρ,xs,c,W,rx,p⟩:=h
 unfold fB at p
 split at p
 ·obtain⟨v,r,rfl,hx,u,r',rfl,hu,hr⟩:=rx
  cases hr;cases hx;cases hu
  exact ad9 hc pins s σ H _ us Q I rv ⟨_,_,rfl,p.here W rfl⟩
 ·exact p.elim
theorem nS:cZ X (.type "tuple") (rN X.K eU):=by
 intro pins s σ H vs us Q I rv h
 obtain⟨ρ,xs,c,W,rx,p⟩:=h
 unfold eU at p
 split at p
 ·rename_i x
  obtain⟨v,r,rfl,hx,hr⟩:=rx
  cases hr
  split at p
  ·rename_i l hl
   obtain⟨a,ys,rfl,sq,r⟩:=wO W hx hl
   refine ad8 pins s σ H _ us Q I rv ⟨a,ys,rfl,?_⟩
   rcases sq with sq|sq
   ·exact .inl ⟨sq,xQ W r p⟩
   ·refine .inr ⟨sq,?_⟩
    cases x with
    |tup m=>cases hl;exact p.here W hx
    |lst m =>
     obtain⟨b,zs,e,s1,_⟩:=hx
     cases e
     exfalso
     rcases sq with sq|⟨o,its,n,hk,hcl,_⟩
     ·rcases sq with sq|⟨o,sq⟩<;>(rw[s1.1]at sq;cases sq)
     ·have:=I.bs a o (I.ok.mod.pB a o hk)
      rw[s1.1]at this
      cases this.2
    |ck m =>
     exfalso
     obtain⟨b,e,s1⟩:=hx
     cases e
     obtain⟨i1,_,pl,_⟩:=I.list s1.sql
     obtain⟨i2,_,pt,_⟩:=I.tuple sq
     obtain⟨o1,e1,c1,_⟩:=pl.isList
     obtain⟨o2,e2,c2,_⟩:=pt
     rw[e1]at e2;cases e2
     rw[c1]at c2
     exact absurd c2 (by decide)
    |ref k =>
     exfalso
     obtain⟨b,e,s1⟩:=hx
     cases e
     obtain⟨zs,hz⟩:=W.at' (ahL s1)
     rcases sq with sq|⟨o,its,n,hk,hcl,_⟩
     ·rcases sq with sq|⟨o,sq⟩<;>(rw[hz]at sq;cases sq)
     ·have:=I.bs a o (I.ok.mod.pB a o hk)
      rw[hz]at this
      cases this.2
    |_=>cases hl
  ·exact p.elim
 ·exact p.elim
theorem MT(l:List Int) (a:Int):∀k,k<(a::l).length→(a::l).getD (argBest (fun i j=>decide ((a::l).getD i 0<(a::l).getD j 0)) k) 0=fK a (l.take k)
 |0,_=>rfl
 |k+1,h=>by
  have ih:=MT l a k (ak3 h)
  have hk:k<l.length:=by simpa using h
  have step:∀(l:List Int) (k:Nat) (a:Int) (hk:k<l.length),fK a (l.take (k+1))=if l[k]<fK a (l.take k)then l[k]else fK a (l.take k):=by
   intro l
   induction l with
   |nil=>intro k a hk;cases hk
   |cons b l ihl =>
    intro k a hk
    cases k with
    |zero=>simp[fK]
    |succ k =>
     have:=ihl k (if b<a then b else a) (by simpa using hk)
     simpa[fK]using this
  rw[step l k a hk]
  unfold argBest
  rw[ih]
  have e:(a::l).getD (k+1) 0=l[k]:=by simp[List.getD,hk]
  rw[e]
  by_cases hc:l[k]<fK a (l.take k)
  ·rw[if_pos (by simpa using hc),if_pos hc,e]
  ·rw[if_neg (by simpa using hc),if_neg hc,ih]
end
def lS(o a:af):af:=fun e c=>(o e c).bind fun x c=>match x with
 |.ref k=>(a e c).bind fun y c=>match c[k]? with
  |some (.lst l)=>if l.length<sizeLine∧noRef y=true then .ok .aG (c.set k (.lst (l++[y])))else .bad
  |none=>.bad
 |_=>.bad
theorem Iq{X:Cx}{o e:Expr}{dO da:af}{apos cpos:Pos}(ho:bx X o dO) (ha:bx X e da)
  (hbase:attributeBase o "append" X.env (eval o X.env)=eval o X.env:=by rfl)
  (hfew:((backTo cpos (starEach [e] X.env)).all (fun x=>!x.1)&&(backToKw cpos (keywordEach [] X.env)).all (fun x=>x.1.isSome)
   && decide ([e].length+([]:List Keyword).length+(if([]:List Keyword).isEmpty then 0 else 1)<30))=true:=by exact AE rfl)
  (hline:(apos.endLine==cpos.line)=true:=by rfl) (hs:starEach [e] X.env=(false,eval e X.env)::starEach [] X.env:=by exact eV rfl) (hplain:(backTo cpos (starEach [] X.env)).any (·.1)=false:=by exact iE rfl) :
  bx X (.Call (.Attribute o "append" apos) [e] [] cpos) (lS dO da) :=
 (xo akc PySem.F.slot_list_append PySem.F.type_list_append YO ho (jr ha jX hs) hbase hfew hline hs hplain).imp fun σ H Q h=>by
  obtain⟨ρ,e,c,W,V,p⟩:=h
  refine⟨ρ,e,c,W,V,post.bind p fun x c1 aO H1 v _ W1 X1 r1 p1=>?_⟩
  cases x with
  |ref k =>
   obtain⟨a,rfl,ha⟩:=r1
   obtain⟨xs,hx⟩:=W1.at' (ahL ha)
   refine⟨.inl ⟨rfl,xs,bw.of hx⟩,aO,e,c1,W1,V.mono W X1,post.bind p1 fun y c2 dP H2 u _ W2 X2 r2 p2=>?_⟩
   split at p2
   ·rename_i l hl
    split at p2
    ·rename_i hh
     obtain⟨nr,ys,hy,rl⟩:=W2.fO k a _ (X2.pre k a ha) hl
     refine⟨a,ys,u,rfl,rfl,hy,by rw[rl.length];exact hh.1,?_⟩
     refine p2 dP _ .aG (W2.write (X2.pre k a ha) (by rw[uL,nr];simp[bK,hh.2]) (rl.append ⟨u,[],rfl,r2,rfl⟩)) (Ext.write (X2.pre k a ha)) rfl
    ·exact p2.elim
   ·exact p2.elim
  |_=>exact p1.elim
end L2
namespace L2
open PySem
section
variable (e:Ev) (c:aa) (a b d:af) (ta tb:ai) (s t:ah) (l:aj) (g:Gd) (gs:List D→Ev→aa→R Ev)
@[simp] theorem bD(i:Nat):ak i e c=match e[i]? with|some (some d)=>.ok d c|_=>.bad:=rfl
@[simp] theorem eT(d:D):dC d e c=.ok d c:=rfl
@[simp] theorem dB(f:D→D→aa→R D):au f a b e c=(a e c).bind fun x c=>(b e c).bind fun y c=>f x y c:=rfl
@[simp] theorem jn(f:List D→aa→R D):aF f l e c=(l e c).bind fun xs c=>f xs c:=rfl
@[simp] theorem bA:aq e c=.ok [] c:=rfl
@[simp] theorem bE:ao a l e c=(a e c).bind fun x c=>(l e c).bind fun xs c=>.ok (x::xs) c:=rfl
@[simp] theorem kK:bQ l e c=(l e c).bind fun xs c=>if xs.length≤sizeLine then .ok (.tup xs) c else .bad:=rfl
@[simp] theorem kL:cH l e c=(l e c).bind fun xs c=>if xs.length≤sizeLine then .ok (.lst xs) c else .bad:=rfl
@[simp] theorem afI:fh l e c=(l e c).bind fun xs c=>if xs.length≤sizeLine∧bK xs=true then .ok (.ref c.length) (c++[.lst xs])else .bad:=rfl
@[simp] theorem jL:aI a e c=(a e c).bind fun x c=>match x with|.bl b=>.ok b c|_=>.bad:=rfl
@[simp] theorem afy:vF a e c=(a e c).bind fun x c=>match wA c x with|some b=>.ok b c|none=>.bad:=rfl
@[simp] theorem tU:gp ta tb e c=(ta e c).bind fun x c=>if x=true then tb e c else .ok false c:=rfl
@[simp] theorem Ob:jE ta tb e c=(ta e c).bind fun x c=>if x=true then .ok true c else tb e c:=rfl
@[simp] theorem afD:e7 ta e c=(ta e c).bind fun x c=>.ok (!x) c:=rfl
@[simp] theorem Oj:jg a b e c=(a e c).bind fun x c=>match x with|.bl k=>if k=true then b e c else .ok (.bl false) c|_=>.bad:=rfl
@[simp] theorem Oc:ki a e c=(a e c).bind fun x c=>match x with|.bl k=>.ok (.bl (!k)) c|_=>.bad:=rfl
@[simp] theorem Oi:vH ta a b e c=(ta e c).bind fun x c=>if x=true then a e c else b e c:=rfl
@[simp] theorem x_call(n:Nat) (m:List D→aa→R D):aA n m l e c=(l e c).bind fun xs c=>if xs.length=n then m xs c else .bad:=rfl
@[simp] theorem afE:bL e c=.ok (.nx e) c:=rfl
@[simp] theorem afU:AU e c=.bad:=rfl
@[simp] theorem iW:aD s t e c=(s e c).bind fun f c=>match f with|.nx e=>t e c|f=>.ok f c:=rfl
@[simp] theorem wj:aU a e c=(a e c).bind fun x c=>.ok (.rt x) c:=rfl
@[simp] theorem tT:cJ a e c=(a e c).bind fun _ c=>.ok (.nx e) c:=rfl
@[simp] theorem kM:br ta s t e c=(ta e c).bind fun x c=>if x=true then s e c else t e c:=rfl
@[simp] theorem gr(i:Nat):aE i a e c=(a e c).bind fun x c=>.ok (.nx (e.set i (some x))) c:=rfl
@[simp] theorem Am:ic a g e c=(a e c).bind fun x c=>(g x e c).bind fun e c=>.ok (.nx e) c:=rfl
@[simp] theorem Gy(i:Nat) (x:D):az i x e c=.ok (e.set i (some x)) c:=rfl
@[simp] theorem afP:gk [] e c=.ok e c:=rfl
@[simp] theorem afQ(x:D) (xs:List D):cV g gs (x::xs) e c=(g x e c).bind fun e c=>gs xs e c:=rfl
@[simp] theorem afO(n:Nat) (xs:List D):fU n gs (.tup xs) e c=if xs.length=n then gs xs e c else .bad:=rfl
@[simp] theorem Aj(x:D):iy a b x e c=(a e c).bind fun o c=>(b e c).bind fun i c=>(kP o i x c).bind fun _ c=>.ok e c:=rfl
@[simp] theorem jm(sr:Ev→aa→R Src):b9 sr g s e c=(sr e c).bind fun q c=>bS q.stays g s q.items e c:=rfl
@[simp] theorem iX(n:Nat) (own:Bool) (xs:List D):bW n own s xs c=(s (cB n xs) c).bind fun f c'=>match f with
 |.rt v=>dM own c.length v c'
 |.nx _=>dM own c.length .aG c'
 |_=>.bad:=rfl
@[simp] theorem afz(n:Nat) (xs:List D):cB n xs=xs.map some++List.replicate (n-xs.length) none:=rfl
@[simp] theorem f6(sr:Ev→aa→R Src) (pick:List (Option Nat)):aZ sr pick g ta a e c=(sr e c).bind fun q c =>
 if q.items.length<sizeLine then(bM q.stays g ta a q.items (dS pick e) [] c).bind fun l c=>.ok (.lst l) c else .bad:=rfl
@[simp] theorem oi:bg e c=.ok true c:=rfl
@[simp] theorem iC(i j:Int):bu (.int i) (.int j) c=.ok (.int (i+j)) c:=rfl
@[simp] theorem afV(x y:List D):bu (.tup x) (.tup y) c=if x.length≠0∧x.length+y.length≤sizeLine then .ok (.tup (x++y)) c else .bad:=rfl
@[simp] theorem Gx(i j:Int):ia (.int i) (.int j) c=.ok (.int (i-j)) c:=rfl
theorem Ah(i j:Int):dF (.int i) (.int j) c=if(-(2^64)<i∧i<2^64)∨(-(2^64)<j∧j<2^64)then .ok (.int (i*j)) c else .bad:=rfl
theorem Gz(i j:Int):cL (.int i) (.int j) c=if 0<j∧j<1073741824 then .ok (.int (i/j)) c else .bad:=rfl
theorem Of(i j:Int):cK (.int i) (.int j) c=if 0<j then .ok (.int (i % j)) c else .bad:=rfl
theorem Oa(i j:Int):rB (.int i) (.int j) c=if 0≤j∧j≤1000000∧i.natAbs<2^64 then .ok (.int (i^j.toNat)) c else .bad:=rfl
@[simp] theorem afT(p:Int→Int→Bool) (i j:Int):sG p (.int i) (.int j) c=.ok (.bl (p i j)) c:=rfl
@[simp] theorem Al(i j:Int):bG (.int i) (.int j) c=.ok (.bl (decide (i=j))) c:=rfl
@[simp] theorem afG(i j:Int):eL (.int i) (.int j) c=.ok (.bl (!decide (i=j))) c:=rfl
@[simp] theorem afS(i j:Bool):bG (.bl i) (.bl j) c=.ok (.bl (decide (i=j))) c:=rfl
@[simp] theorem Oe(i j:Bool):eL (.bl i) (.bl j) c=.ok (.bl (!decide (i=j))) c:=rfl
@[simp] theorem afR(i j:Str):bG (.str i) (.str j) c=.ok (.bl (decide (i=j))) c:=rfl
@[simp] theorem afF(i j:Str):eL (.str i) (.str j) c=.ok (.bl (!decide (i=j))) c:=rfl
@[simp] theorem x_is(x:D):ja x .aG c=.ok (.bl (fE x)) c:=rfl
@[simp] theorem afM(x:D):lz x .aG c=.ok (.bl (!fE x)) c:=rfl
@[simp] theorem agl:fE .aG=true:=rfl
@[simp] theorem n_bl(b:Bool):fE (.bl b)=false:=rfl
@[simp] theorem agn(b:Int):fE (.int b)=false:=rfl
@[simp] theorem agk(b:Str):fE (.str b)=false:=rfl
@[simp] theorem agj(b:List D):fE (.tup b)=false:=rfl
@[simp] theorem agm(b:List D):fE (.lst b)=false:=rfl
@[simp] theorem wk(xs:List D) (i:Int):aH (.tup xs) (.int i) c=match cY xs i with|some d=>.ok d c|none=>.bad:=rfl
@[simp] theorem g9(xs:List D) (i:Int):aH (.lst xs) (.int i) c=match cY xs i with|some d=>.ok d c|none=>.bad:=rfl
@[simp] theorem Og(xs:List D):aN [.tup xs] c=.ok (.int xs.length) c:=rfl
@[simp] theorem Ai(xs:List D):aN [.lst xs] c=.ok (.int xs.length) c:=rfl
@[simp] theorem afL(xs:List Int):aN [.ck xs] c=.ok (.int xs.length) c:=by
 show R.ok (D.int ((xs.map D.int).length:Nat)) c=_
 rw[ahx]
@[simp] theorem afH(i j:Int):rK [.int i,.int j] c=.ok (.int (if j>i then j else i)) c:=rfl
@[simp] theorem tS(i j:Int):fB [.int i,.int j] c=.ok (.int (if j<i then j else i)) c:=rfl
@[simp] theorem af5:noRef .aG=true:=rfl
@[simp] theorem r_bl(b:Bool):noRef (.bl b)=true:=rfl
@[simp] theorem af7(b:Int):noRef (.int b)=true:=rfl
@[simp] theorem af4(b:Str):noRef (.str b)=true:=rfl
@[simp] theorem Sh(b:List D):noRef (.tup b)=bK b:=by simp[noRef]
@[simp] theorem Si(b:List D):noRef (.lst b)=bK b:=by simp[noRef]
@[simp] theorem af6:bK []=true:=by simp[bK]
@[simp] theorem af8(d:D) (b:List D):bK (d::b)=(noRef d&&bK b):=by simp[bK]
@[simp] theorem q_bl(own:Bool) (n:Nat) (b:Bool):dM own n (.bl b) c=.ok (.bl b) (c.take n):=rfl
@[simp] theorem agc(own:Bool) (n:Nat):dM own n .aG c=.ok .aG (c.take n):=rfl
@[simp] theorem age(own:Bool) (n:Nat) (b:Int):dM own n (.int b) c=.ok (.int b) (c.take n):=rfl
@[simp] theorem agb(own:Bool) (n:Nat) (b:Str):dM own n (.str b) c=.ok (.str b) (c.take n):=rfl
@[simp] theorem aga(own:Bool) (n:Nat) (b:List D):dM own n (.tup b) c=if bK b=true then .ok (.tup b) (c.take n)else .bad:=by
 show(if noRef (.tup b)=true then R.ok (D.tup b) (c.take n)else R.bad)=_
 rw[Sh]
@[simp] theorem agd(own:Bool) (n:Nat) (b:List D):dM own n (.lst b) c=if bK b=true then .ok (.lst b) (c.take n)else .bad:=by
 show(if noRef (.lst b)=true then R.ok (D.lst b) (c.take n)else R.bad)=_
 rw[Si]
@[simp] theorem gP:bh l e c=(l e c).bind fun xs c=>match xs with
 |[.int j]=>if -(2^62)≤j∧j<2^62 then .ok ⟨aM 0 j,fun _=>True⟩ c else .bad
 |_=>.bad:=rfl
@[simp] theorem mU:ff l e c=(l e c).bind fun xs c=>match xs with
 |[.int i,.int j]=>if -(2^62)≤i∧i<2^62∧-(2^62)≤j∧j<2^62 then .ok ⟨aM i j,fun _=>True⟩ c else .bad
 |_=>.bad:=rfl
@[simp] theorem afB:cS a e c=(a e c).bind fun x c=>match x with
 |.lst l=>.ok ⟨l,fun _=>True⟩ c
 |.ck l=>.ok ⟨l.map D.int,fun _=>True⟩ c
 |.ref k=>match c[k]? with
  |some (.lst l)=>.ok ⟨l,fun c=>c[k]? = some (.lst l)⟩ c
  |none=>.bad
 |_=>.bad:=rfl
@[simp] theorem afA:jD a e c=(a e c).bind fun x c=>match x with
 |.tup l=>.ok ⟨l,fun _=>True⟩ c
 |_=>.bad:=rfl
end
section
variable (g:Gd) (s:ah) (t:ai) (a:af) (e:Ev) (c:aa)
@[simp] theorem ag4:bS (fun _=>True) g s [] e c=.ok (.nx e) c:=by simp[bS]
@[simp] theorem pP(x:D) (xs:List D):bS (fun _=>True) g s (x::xs) e c=(g x e c).bind fun e c=>(s e c).bind fun f c=>match f with
   |.nx e=>bS (fun _=>True) g s xs e c
   |.ct e=>bS (fun _=>True) g s xs e c
   |.bk e=>.ok (.nx e) c
   |.rt d=>.ok (.rt d) c:=by
 conv=>lhs;unfold bS
 exact if_pos trivial
@[simp] theorem aha(acc:List D):bM (fun _=>True) g t a [] e acc c=.ok acc c:=by simp[bM]
@[simp] theorem gZ(x:D) (xs acc:List D):bM (fun _=>True) g t a (x::xs) e acc c=(g x e c).bind fun e c=>(t e c).bind fun k c=>if k=true then(a e c).bind fun y c=>bM (fun _=>True) g t a xs e (acc++[y]) c else bM (fun _=>True) g t a xs e acc c:=by
 conv=>lhs;unfold bM
 exact if_pos trivial
end
@[simp] theorem gz{α:Type}(a:α) (l:List α):(a::l)[0]? = some a:=rfl
@[simp] theorem gs{α:Type}(a:α) (l:List α) (n:Nat):(a::l)[n+1]? = l[n]?:=rfl
@[simp] theorem at0{α:Type}(a:α) (l:List α):cY (a::l) 0=some a:=by simp[cY,gC]
@[simp] theorem lV{α:Type}(a b:α) (l:List α):cY (a::b::l) 1=some b:=by
 unfold cY gC
 rw[if_pos (by decide),if_pos (by simp;omega)]
 rfl
@[simp] theorem at2{α:Type}(a b d:α) (l:List α):cY (a::b::d::l) 2=some d:=by
 unfold cY gC
 rw[if_pos (by decide),if_pos (by simp;omega)]
 rfl
@[simp] theorem at3{α:Type}(a b d f:α) (l:List α):cY (a::b::d::f::l) 3=some f:=by
 unfold cY gC
 rw[if_pos (by decide),if_pos (by simp;omega)]
 rfl
@[simp] theorem at4{α:Type}(a b d f h:α) (l:List α):cY (a::b::d::f::h::l) 4=some h:=by
 unfold cY gC
 rw[if_pos (by decide),if_pos (by simp;omega)]
 rfl
theorem b8{n:Nat}(h:n≤1000):n≤sizeLine:=ahN h (by decide)
@[simp] theorem sl0:(0:Nat)≤sizeLine:=ahY _
@[simp] theorem sl1:(1:Nat)≤sizeLine:=by decide
@[simp] theorem sl2:(2:Nat)≤sizeLine:=by decide
@[simp] theorem sl3:(3:Nat)≤sizeLine:=by decide
@[simp] theorem sl4:(4:Nat)≤sizeLine:=by decide
@[simp] theorem sl5:(5:Nat)≤sizeLine:=by decide
@[simp] theorem sl6:(6:Nat)≤sizeLine:=by decide
@[simp] theorem st0:(0:Nat)<sizeLine:=by decide
@[simp] theorem st1:(1:Nat)<sizeLine:=by decide
@[simp] theorem st2:(2:Nat)<sizeLine:=by decide
@[simp] theorem st3:(3:Nat)<sizeLine:=by decide
@[simp] theorem Hr:(4:Nat)<sizeLine:=by decide
@[simp] theorem oA:(5:Nat)<sizeLine:=by decide
@[simp] theorem agQ(i:Int) (c:aa):b7 [.int i,.ty "int"] c=.ok (.bl true) c:=rfl
@[simp] theorem agR(i:Int) (c:aa):b7 [.int i,.ty "bool"] c=.ok (.bl false) c:=rfl
@[simp] theorem agO(i:Int) (c:aa):b7 [.int i,.ty "str"] c=.ok (.bl false) c:=rfl
@[simp] theorem agN(i:Int) (c:aa):b7 [.int i,.ty "tuple"] c=.ok (.bl false) c:=rfl
@[simp] theorem agP(i:Int) (c:aa):b7 [.int i,.ty "list"] c=.ok (.bl false) c:=rfl
@[simp] theorem agV(i:Bool) (c:aa):b7 [.bl i,.ty "int"] c=.ok (.bl true) c:=rfl
@[simp] theorem agW(i:Bool) (c:aa):b7 [.bl i,.ty "bool"] c=.ok (.bl true) c:=rfl
@[simp] theorem agT(i:Bool) (c:aa):b7 [.bl i,.ty "str"] c=.ok (.bl false) c:=rfl
@[simp] theorem agS(i:Bool) (c:aa):b7 [.bl i,.ty "tuple"] c=.ok (.bl false) c:=rfl
@[simp] theorem agU(i:Bool) (c:aa):b7 [.bl i,.ty "list"] c=.ok (.bl false) c:=rfl
@[simp] theorem agB(i:Str) (c:aa):b7 [.str i,.ty "int"] c=.ok (.bl false) c:=rfl
@[simp] theorem agC(i:Str) (c:aa):b7 [.str i,.ty "bool"] c=.ok (.bl false) c:=rfl
@[simp] theorem agz(i:Str) (c:aa):b7 [.str i,.ty "str"] c=.ok (.bl true) c:=rfl
@[simp] theorem agy(i:Str) (c:aa):b7 [.str i,.ty "tuple"] c=.ok (.bl false) c:=rfl
@[simp] theorem agA(i:Str) (c:aa):b7 [.str i,.ty "list"] c=.ok (.bl false) c:=rfl
@[simp] theorem agG(c:aa):b7 [.aG,.ty "int"] c=.ok (.bl false) c:=rfl
@[simp] theorem agH(c:aa):b7 [.aG,.ty "bool"] c=.ok (.bl false) c:=rfl
@[simp] theorem agE(c:aa):b7 [.aG,.ty "str"] c=.ok (.bl false) c:=rfl
@[simp] theorem agD(c:aa):b7 [.aG,.ty "tuple"] c=.ok (.bl false) c:=rfl
@[simp] theorem agF(c:aa):b7 [.aG,.ty "list"] c=.ok (.bl false) c:=rfl
@[simp] theorem agw(i:List D) (c:aa):b7 [.tup i,.ty "int"] c=.ok (.bl false) c:=rfl
@[simp] theorem agx(i:List D) (c:aa):b7 [.tup i,.ty "bool"] c=.ok (.bl false) c:=rfl
@[simp] theorem agu(i:List D) (c:aa):b7 [.tup i,.ty "str"] c=.ok (.bl false) c:=rfl
@[simp] theorem agt(i:List D) (c:aa):b7 [.tup i,.ty "tuple"] c=.ok (.bl true) c:=rfl
@[simp] theorem agv(i:List D) (c:aa):b7 [.tup i,.ty "list"] c=.ok (.bl false) c:=rfl
@[simp] theorem agL(i:List D) (c:aa):b7 [.lst i,.ty "int"] c=.ok (.bl false) c:=rfl
@[simp] theorem agM(i:List D) (c:aa):b7 [.lst i,.ty "bool"] c=.ok (.bl false) c:=rfl
@[simp] theorem agJ(i:List D) (c:aa):b7 [.lst i,.ty "str"] c=.ok (.bl false) c:=rfl
@[simp] theorem agI(i:List D) (c:aa):b7 [.lst i,.ty "tuple"] c=.ok (.bl false) c:=rfl
@[simp] theorem agK(i:List D) (c:aa):b7 [.lst i,.ty "list"] c=.ok (.bl true) c:=rfl
section
variable (c:aa) {i j:Int}
theorem BI(h1:-18446744073709551616<i) (h2:i<18446744073709551616):dF (.int i) (.int j) c=.ok (.int (i*j)) c:=by
 rw[Ah,if_pos];exact .inl ⟨by omega,by omega⟩
theorem mul_r(h1:-18446744073709551616<j) (h2:j<18446744073709551616):dF (.int i) (.int j) c=.ok (.int (i*j)) c:=by
 rw[Ah,if_pos];exact .inr ⟨by omega,by omega⟩
theorem sD(h1:0<j) (h2:j<1073741824):cL (.int i) (.int j) c=.ok (.int (i/j)) c:=by
 rw[Gz,if_pos ⟨h1,h2⟩]
theorem nj(h1:0<j):cK (.int i) (.int j) c=.ok (.int (i % j)) c:=by
 rw[Of,if_pos h1]
theorem HZ(h1:0≤j) (h2:j≤1000000) (h3:i.natAbs<18446744073709551616):rB (.int i) (.int j) c=.ok (.int (i^j.toNat)) c:=by
 rw[Oa,if_pos ⟨h1,h2,h3⟩]
end
section
variable {g:Gd}{s:ah}{t:ai}{a:af}
theorem nR{c:aa}(inv:Ev→Prop) (F:D→Bool) (G:D→D):∀(items:List D) (e:Ev) (acc:List D),inv e →
  (∀x∈items,∀e,inv e→∃e',g x e c=.ok e' c∧inv e'∧t e' c=.ok (F x) c∧(F x=true→a e' c=.ok (G x) c)) →
  bM (fun _=>True) g t a items e acc c=.ok (acc++(items.filter F).map G) c
 |[],e,acc,_,_=>by simp
 |x::xs,e,acc,hi,h=>by
  obtain⟨e',h1,h2,h3,h4⟩:=h x ahS e hi
  rw[gZ,h1,R.aC,h3,R.aC]
  cases hF:F x with
  |true =>
   rw[if_pos rfl,h4 hF,R.aC,nR inv F G xs e' _ h2 fun y hy=>h y (ahT _ hy)]
   simp[hF]
  |false =>
   rw[if_neg ahG,nR inv F G xs e' _ h2 fun y hy=>h y (ahT _ hy)]
   simp[hF]
theorem vo{c:aa}(inv:Ev→Prop) (P:D→Option D):∀(items:List D) (e:Ev),inv e →
  (∀x∈items,∀e,inv e→∃e' e'',g x e c=.ok e' c∧inv e''∧s e' c=match P x with|none=>.ok (.nx e'') c|some v=>.ok (.rt v) c) →
  match items.findSome? P with|none=>∃e',inv e'∧bS (fun _=>True) g s items e c=.ok (.nx e') c|some v=>bS (fun _=>True) g s items e c=.ok (.rt v) c
 |[],e,hi,_=>⟨e,hi,by simp⟩
 |x::xs,e,hi,h=>by
  obtain⟨e',e'',h1,h2,h3⟩:=h x ahS e hi
  have ih:=vo inv P xs e'' h2 fun y hy=>h y (ahT _ hy)
  rw[List.findSome?_cons,pP,h1,R.aC,h3]
  cases hP:P x with
  |some v=>simp
  |none=>simpa using ih
theorem Li(inv:Ev→Prop):∀(items:List D) (e:Ev) (c:aa),inv e →
  (∀x∈items,∀e c,inv e→∃e' e'' c' c'',g x e c=.ok e' c'∧s e' c'=.ok (.nx e'') c''∧inv e'') →
  ∃e' c',inv e'∧bS (fun _=>True) g s items e c=.ok (.nx e') c'
 |[],e,c,hi,_=>⟨e,c,hi,by simp⟩
 |x::xs,e,c,hi,h=>by
  obtain⟨e',e'',c',c'',h1,h2,h3⟩:=h x ahS e c hi
  obtain⟨e3,c3,i3,h4⟩:=Li inv xs e'' c'' h3 fun y hy=>h y (ahT _ hy)
  exact⟨e3,c3,i3,by rw[pP,h1,R.aC,h2];exact h4⟩
theorem Lh(inv:Ev→aa→Prop):∀(items:List D) (e:Ev) (c:aa),inv e c →
  (∀x∈items,∀e c,inv e c→∃e' e'' c' c'',g x e c=.ok e' c'∧s e' c'=.ok (.nx e'') c''∧inv e'' c'') →
  ∃e' c',inv e' c'∧bS (fun _=>True) g s items e c=.ok (.nx e') c'
 |[],e,c,hi,_=>⟨e,c,hi,by simp⟩
 |x::xs,e,c,hi,h=>by
  obtain⟨e',e'',c',c'',h1,h2,h3⟩:=h x ahS e c hi
  obtain⟨e3,c3,i3,h4⟩:=Lh inv xs e'' c'' h3 fun y hy=>h y (ahT _ hy)
  exact⟨e3,c3,i3,by rw[pP,h1,R.aC,h2];exact h4⟩
end
theorem o5{lo hi:Int}{d:D}(h:d∈aM lo hi):∃i:Int,d=.int i∧lo≤i∧i<hi:=by
 unfold aM at h
 obtain⟨k,hk,rfl⟩:=ahs.mp h
 have:=ahn.mp hk
 exact⟨lo+k,rfl,by omega,by omega⟩
theorem dY{lo hi:Int}:(aM lo hi).length=(hi-lo).toNat:=by simp[aM]
end L2
namespace L2
open PySem PySem.Spec PyProof.Rows
def c8(c:aa):D→Option (List D)
 |.lst l=>some l
 |.ref k=>match c[k]? with
  |some (.lst l)=>some l
  |none=>none
 |_=>none
def ue(c:aa):D→aa→Prop
 |.ref k=>fun c'=>c'[k]? = c[k]?
 |_=>fun _=>True
def pT:D→D→aa→R D:=fun x y c=>match c8 c x,c8 c y with
 |some l,some m=>if l.length+m.length≤sizeLine then .ok (.lst (l++m)) c else .bad
 |_,_=>.bad
def cutD(xs:List D) (lo hi:Option Int):List D:=(xs.drop (HT.fH xs.length 0 lo)).take (HT.fH xs.length xs.length hi-HT.fH xs.length 0 lo)
def nO(a:af) (lo hi:Ev→aa→R (Option Int)):af:=fun e c=>(a e c).bind fun x c=>(lo e c).bind fun l c=>(hi e c).bind fun u c=>match c8 c x with
 |some xs=>.ok (.lst (cutD xs l u)) c
 |none=>.bad
def nP:Ev→aa→R (Option Int):=fun _ c=>.ok none c
def lR(a:af):Ev→aa→R (Option Int):=fun e c=>(a e c).bind fun x c=>match x with
 |.int i=>.ok (some i) c
 |_=>.bad
def vE(a:aj):Ev→aa→R Src:=fun e c=>(a e c).bind fun xs c=>match xs with
 |[.tup l,.tup m]=>.ok ⟨List.zipWith (fun x y=>.tup [x,y]) l m,fun _=>True⟩ c
 |[x,y]=>match c8 c x,c8 c y with
  |some l,some m=>.ok ⟨List.zipWith (fun x y=>.tup [x,y]) l m,fun c'=>ue c x c'∧ue c y c'⟩ c
  |_,_=>.bad
 |_=>.bad
section
variable {X:Cx}{K:PySem.W.Frag}{ρ ρ':List Addr}{H H':Hp}{c c':aa}
theorem nt{x:D}{v:V}{l:List D}(W:Wd K ρ H c) (rx:Rel K ρ H x v) (h:c8 c x=some l):∃a xs,v=.ref a∧H a=some (.lst xs)∧aL K ρ H l xs:=by
 cases x with
 |lst m =>
  cases h
  obtain⟨a,xs,e,s,r⟩:=rx
  exact⟨a,xs,e,s.1,r⟩
 |ref k =>
  obtain⟨a,e,s⟩:=rx
  unfold c8 at h
  dsimp only at h
  cases hc:c[k]? with
  |none=>rw[hc]at h;cases h
  |some cl =>
   cases cl with
   |lst m =>
    rw[hc]at h;cases h
    obtain⟨_,xs,hx,r⟩:=W.fO k a _ s hc
    exact⟨a,xs,e,hx,r⟩
 |_=>cases h
theorem Jx{x:D}{v:V}{l:List D}(W:Wd K ρ H c) (W':Wd K ρ' H' c') (E:Ext ρ H ρ' H') (rx:Rel K ρ H x v) (h:c8 c x=some l) (st:ue c x c') {a:Addr}(e:v=.ref a):∃xs,bw K H' a xs∧aL K ρ' H' l xs:=by
 have RS:=Rel.mono W E x v rx
 have h':c8 c' x=some l:=by
  cases x with
  |lst m=>exact h
  |ref k =>
   have st:c'[k]? = c[k]?:=st
   unfold c8 at h ⊢
   dsimp only at h ⊢
   rw[st];exact h
  |_=>cases h
 obtain⟨b,xs,e2,hx,r⟩:=nt W' RS h'
 rw[e]at e2;cases e2
 exact⟨xs,bw.of hx,r⟩
theorem Wx:bP X (binaryOp .Add) (r2 X.K pT):=by
 intro pins s σ H v u vv uu Q I rv ru h
 obtain⟨ρ,x,y,c,W,rx,ry,p⟩:=h
 unfold pT at p
 split at p
 ·rename_i l m hl hm
  split at p
  ·rename_i hz
   obtain⟨a,xs,rfl,ha,ra⟩:=nt W rx hl
   obtain⟨b,ys,rfl,hb,rb⟩:=nt W ry hm
   exact Vp pins s σ H _ _ vv uu Q I rv ru ⟨a,b,xs,ys,rfl,rfl,ha,hb,by rw[ra.length,rb.length];exact hz,nh W (ra.append rb) p⟩
  ·exact p.elim
 ·exact p.elim
abbrev zF(X:Cx) (e:Option Expr) (d:Ev→aa→R (Option Int)):Prop:=PO X e (tD X.K (fun _ _ a b=>a=b) d)
theorem PO.imp{e:Option Expr}{t t':TO}(h:PO X e t) (i:∀σ H Q,t' σ H Q→t σ H Q):PO X e t':=fun pins s σ H Q I q=>h pins s σ H Q I (i _ _ _ q)
theorem A3:zF X none nP:=Tp.imp fun σ H Q h=>by
 obtain⟨ρ,e,c,W,Vv,p⟩:=h
 exact p.here W rfl
theorem A2{e:Expr}{d:af}(h:bx X e d):zF X (some e) (lR d):=(To h).imp fun σ H Q h=>by
 obtain⟨ρ,e,c,W,Vv,p⟩:=h
 refine⟨ρ,e,c,W,Vv,post.bind p fun x c1 aO H1 v _ W1 X1 r1 p1=>?_⟩
 cases x with
 |int i=>cases r1;exact⟨i,rfl,p1.here W1 rfl⟩
 |_=>exact p1.elim
theorem ac9{l:List D}{xs:List V}{lo hi:Option Int}(r:aL K ρ H l xs):aL K ρ H (cutD l lo hi) (sF xs lo hi):=by
 unfold cutD sF
 rw[r.length]
 exact(r.drop _).take _
theorem Ba{e:Expr}{lo hi:Option Expr}{p2 pos:Pos}{da:af}{dl dh:Ev→aa→R (Option Int)}(he:bx X e da) (hl:zF X lo dl) (hh:zF X hi dh):bx X (.Subscript e (.Slice lo hi none p2) pos) (nO da dl dh) :=
 (Ux QE he hl hh).imp fun σ H Q h=>by
  obtain⟨ρ,e,c,W,Vv,p⟩:=h
  refine⟨ρ,e,c,W,Vv,post.bind p fun x c1 aO H1 v _ W1 X1 r1 p1=>⟨aO,e,c1,W1,Vv.mono W X1,post.bind p1 fun l c2 dP H2 l' _ W2 X2 r2 p2=>⟨dP,e,c2,W2,(Vv.mono W X1).mono W1 X2,post.bind p2 fun u c3 tR H3 u' _ W3 X3 r3 p3=>?_⟩⟩⟩
  cases r2;cases r3
  have rx:=Rel.mono W1 (X2.trans X3) _ _ r1
  split at p3
  ·rename_i xs hs
   obtain⟨a,ys,rfl,ha,r⟩:=nt W3 rx hs
   exact⟨a,ys,rfl,bw.of ha,nh W3 (ac9 r) p3⟩
  ·exact p3.elim
theorem PI.or{tg iter:Expr}{t t':TI}(h:PI X tg iter t) (h':PI X tg iter t'):PI X tg iter (fun σ H R=>t σ H R∨t' σ H R):=fun pins s σ H R I q=>q.elim (h pins s σ H R I) (h' pins s σ H R I)
theorem Z6{l m:List D}{a b:Addr}{st:aa→Prop}(h:∀ρ' H' c',Wd K ρ' H' c'→Ext ρ H ρ' H'→st c'→∃xs ys,bw K H' a xs∧bw K H' b ys∧aL K ρ' H' l xs∧aL K ρ' H' m ys):JS K ρ H ⟨List.zipWith (fun x y=>.tup [x,y]) l m,st⟩ (zJ (bw K) a b):=by
 intro ρ' H' c' W E s i
 obtain⟨xs,ys,q1,q2,r1,r2⟩:=h ρ' H' c' W E s
 refine⟨fun d hd=>?_,fun e=>⟨xs,ys,q1,q2,?_⟩⟩
 ·have hd:(List.zipWith (fun x y=>D.tup [x,y]) l m)[i]? = some d:=hd
  rw[alU]at hd
  cases e1:l[i]? with
  |none=>rw[e1]at hd;cases hd
  |some x =>
   cases e2:m[i]? with
   |none=>rw[e1,e2]at hd;cases hd
   |some y =>
    rw[e1,e2]at hd
    cases hd
    obtain⟨v,hv,rv⟩:=r1.get e1
    obtain⟨u,hu,ru⟩:=r2.get e2
    refine⟨⟨xs,ys,v,u,q1,q2,hv,hu⟩,fun z H2 hz=>?_⟩
    obtain⟨t,v',u',rfl,ht,rfl,hz⟩:=hz
    obtain⟨z1,z2⟩:=hz xs ys q1 q2
    rw[hv]at z1;rw[hu]at z2
    cases z1;cases z2
    exact⟨W.fresh ht,Ext.fresh W ht,t,[v,u],rfl,f7,v,[u],rfl,Rel.mono W (Ext.fresh W ht) _ _ rv,u,[],rfl,Rel.mono W (Ext.fresh W ht) _ _ ru,rfl⟩
 ·have e:i=(List.zipWith (fun x y=>D.tup [x,y]) l m).length:=e
  rw[alV]at e
  rw[r1.length,r2.length]
  omega
theorem aaA{es:List Expr}{k:Nat}{pt:Pos}{a b:Expr}{da:aj}{p pos:Pos}(ha:g8 X [a,b] da) (hm:X.mg "zip"=none) (hg:Gl X "zip":=by rfl) (hs:starEach [a,b] X.env=[(false,eval a X.env),(false,eval b X.env)]:=by exact AF rfl rfl) (hs2:starEach [b] X.env=[(false,eval b X.env)]:=by exact oz rfl) :
  PId X (.Tuple es k pt) (.Call (.Name "zip" p) [a,b] [] pos) (vE da):=((Um hg hm ha hs hs2).or (Uo hg hm ha hs hs2)).imp fun σ H Q h=>by
 obtain⟨ρ,e,c,W,Vv,p⟩:=h
 cases hd:da e c with
 |bad=>unfold vE at p;rw[hd]at p;exact p.elim
 |ok xs c1 =>
  have p0:=p
  unfold vE at p0
  rw[hd,R.aC]at p0
  split at p0
  ·left
   refine⟨ρ,e,c,W,Vv,?_⟩
   rw[hd]
   intro aO H1 vs W1 X1 r1
   obtain⟨y,ys,rfl,ry,z,zs,rfl,rz,rs⟩:=r1
   cases rs
   obtain⟨a1,xs,rfl,s1,t1⟩:=ry
   obtain⟨a2,ys,rfl,s2,t2⟩:=rz
   exact⟨a1,a2,rfl,⟨xs,ys,bX.of s1,bX.of s2⟩,post.here (post.ext p0 X1) W1 (Z7 fun ρ' H' c' W' E _=>⟨xs,ys,bX.of (t7 W1 E s1),bX.of (t7 W1 E s2),aL.mono W1 E _ _ t1,aL.mono W1 E _ _ t2⟩)⟩
  ·rename_i x y _
   split at p0
   ·rename_i l m hl hm'
    right
    refine⟨ρ,e,c,W,Vv,?_⟩
    rw[hd]
    intro aO H1 vs W1 X1 r1
    obtain⟨v,ys,rfl,ry,u,zs,rfl,rz,rs⟩:=r1
    cases rs
    obtain⟨a1,xs,rfl,s1,t1⟩:=nt W1 ry hl
    obtain⟨a2,ys,rfl,s2,t2⟩:=nt W1 rz hm'
    refine⟨a1,a2,rfl,⟨xs,ys,bw.of s1,bw.of s2⟩,post.here (post.ext p0 X1) W1 (Z6 fun ρ' H' c' W' E st=>?_)⟩
    obtain⟨xs',q1,q2⟩:=Jx W1 W' E ry hl st.1 rfl
    obtain⟨ys',q3,q4⟩:=Jx W1 W' E rz hm' st.2 rfl
    exact⟨xs',ys',q1,q3,q2,q4⟩
   ·exact p0.elim
  ·exact p0.elim
end
section
variable (e:Ev) (c:aa) (a:af) (lo hi:Ev→aa→R (Option Int)) (l:aj)
@[simp] theorem N7:nO a lo hi e c=(a e c).bind fun x c=>(lo e c).bind fun l c=>(hi e c).bind fun u c=>match c8 c x with
 |some xs=>.ok (.lst (cutD xs l u)) c
 |none=>.bad:=rfl
@[simp] theorem Od:nP e c=.ok none c:=rfl
@[simp] theorem afC:lR a e c=(a e c).bind fun x c=>match x with
 |.int i=>.ok (some i) c
 |_=>.bad:=rfl
@[simp] theorem afx:vE l e c=(l e c).bind fun xs c=>match xs with
 |[.tup l,.tup m]=>.ok ⟨List.zipWith (fun x y=>.tup [x,y]) l m,fun _=>True⟩ c
 |[x,y]=>match c8 c x,c8 c y with
  |some l,some m=>.ok ⟨List.zipWith (fun x y=>.tup [x,y]) l m,fun c'=>ue c x c'∧ue c y c'⟩ c
  |_,_=>.bad
 |_=>.bad:=rfl
@[simp] theorem agr(x:List D):c8 c (.lst x)=some x:=rfl
end
section
variable {g:Gd}{s:ah}{t:ai}{a:af}
theorem aez{dO da:af}{e:Ev}{c:aa}{acc:List D}{y:D}(ho:dO e (c++[.lst acc])=.ok (.ref c.length) (c++[.lst acc])) (ha:da e (c++[.lst acc])=.ok y (c++[.lst acc])) (hy:noRef y=true) (hl:acc.length+1≤1000000) :
  lS dO da e (c++[.lst acc])=.ok .aG (c++[.lst (acc++[y])]):=by
 have h1:acc.length<sizeLine:=ahD (by omega:acc.length<1000000) (by decide)
 unfold lS
 rw[ho,R.aC]
 dsimp only
 rw[ha,R.aC]
 have e1:(c++[Cell.lst acc])[c.length]? = some (.lst acc):=by simp
 have e2:(c++[Cell.lst acc]).set c.length (.lst (acc++[y]))=c++[.lst (acc++[y])]:=by simp
 rw[e1]
 dsimp only
 rw[if_pos ⟨h1,hy⟩,e2]
end
end L2
namespace L2
open PySem PySem.Spec PyProof.Rows
mutual
def eo:D→Option PyData
 |.aG=>some .none
 |.bl b=>some (.bool b)
 |.int i=>some (.int i)
 |.str x=>if PyData.strOk x=true then some (.str x)else none
 |.tup l=>match eZ l with
  |some r=>some (.tuple r)
  |none=>none
 |.lst l=>match eZ l with
  |some r=>some (.list r)
  |none=>none
 |.ty _=>none
 |.ref _=>none
 |.ck _=>none
 |.fn _ _=>none
 |.exc _=>none
 |.jf=>none
 |.dct _=>none
 |.gm _=>none
 |.lam _ _ _ _=>none
def eZ:List D→Option (List PyData)
 |[]=>some []
 |d::l=>match eo d,eZ l with
  |some a,some r=>some (a::r)
  |_,_=>none
end
def eB(c:aa):D→Option PyData
 |.ref k=>match c[k]? with
  |some (.lst l)=>match eZ l with
   |some r=>some (.list r)
   |none=>none
  |none=>none
 |d=>eo d
def jd:D→D→aa→R D:=fun x y c=>match eB c x,eB c y with
 |some p,some q=>if p.depth≤64∧q.depth≤64 then .ok (.bl (p.eqv q)) c else .bad
 |_,_=>.bad
def oY:D→D→aa→R D:=fun x y c=>match eB c x,eB c y with
 |some p,some q=>if p.depth≤64∧q.depth≤64 then .ok (.bl (!p.eqv q)) c else .bad
 |_,_=>.bad
def inD:D→D→aa→R D:=fun x y c=>match eB c x,eB c y with
 |some p,some (.list ys)=>if p.depth≤62 then .ok (.bl (ys.any fun z=>z.eqv p)) c else .bad
 |some p,some (.tuple ys)=>if p.depth≤62 then .ok (.bl (ys.any fun z=>z.eqv p)) c else .bad
 |_,_=>.bad
def iJ:D→D→aa→R D:=fun x y c=>match eB c x,eB c y with
 |some p,some (.list ys)=>if p.depth≤62 then .ok (.bl (!ys.any fun z=>z.eqv p)) c else .bad
 |some p,some (.tuple ys)=>if p.depth≤62 then .ok (.bl (!ys.any fun z=>z.eqv p)) c else .bad
 |_,_=>.bad
section
variable {X:Cx}{pins:List (Addr×Obj)}{σ:St}{ρ:List Addr}{H:Hp}{s:Shared}{c:aa}
mutual
theorem gQ(I:Inv X pins σ H s):∀(d:D) (v:V) (u:Value) (p:PyData),Rel X.K ρ H d v→RelV v u→eo d=some p→(∃as,Reads s.heap u p as)∧p.canLay0=true
 |.aG,v,u,p,r,ru,e=>by
  cases r;cases ru;cases e
  exact⟨⟨_,.none⟩,by simp[PyData.canLay0]⟩
 |.bl b,v,u,p,r,ru,e=>by
  cases r;cases ru;cases e
  exact⟨⟨_,.bool b⟩,by simp[PyData.canLay0]⟩
 |.int i,v,u,p,r,ru,e=>by
  cases r;obtain⟨t,rfl⟩:=ru;cases e
  exact⟨⟨_,.int i t⟩,by simp[PyData.canLay0]⟩
 |.str x,v,u,p,r,ru,e=>by
  cases r;obtain⟨t,rfl⟩:=ru
  unfold eo at e
  split at e
  ·rename_i hx
   cases e
   exact⟨⟨_,.str x t⟩,by simpa[PyData.canLay0]using hx⟩
  ·cases e
 |.tup l,v,u,p,r,ru,e=>by
  obtain⟨a,xs,rfl,ha,rs⟩:=r
  cases ru
  unfold eo at e
  split at e
  ·rename_i q hq
   cases e
   obtain⟨its,vs,⟨o,h1,h2,n,h3⟩,_⟩:=I.tuple (bX.of ha)
   obtain⟨⟨as,ra⟩,hc⟩:=w6 I l xs its q rs vs hq
   exact⟨⟨_,.tuple h1 h2 h3 (by simpa using ra)⟩,by simpa[PyData.canLay0]using hc⟩
  ·cases e
 |.lst l,v,u,p,r,ru,e=>by
  obtain⟨a,xs,rfl,ha,rs⟩:=r
  cases ru
  unfold eo at e
  split at e
  ·rename_i q hq
   cases e
   obtain⟨its,vs,pl,_⟩:=I.list (bw.of ha.1)
   obtain⟨o,h1,h2,n,h3⟩:=pl.isList
   obtain⟨⟨as,ra⟩,hc⟩:=w6 I l xs its q rs vs hq
   exact⟨⟨_,.list h1 h2 h3 (by simpa using ra)⟩,by simpa[PyData.canLay0]using hc⟩
  ·cases e
 |.ty _,v,u,p,r,ru,e=>by simp[eo]at e
 |.ref _,v,u,p,r,ru,e=>by simp[eo]at e
 |.ck _,v,u,p,r,ru,e=>by simp[eo]at e
 |.fn _ _,v,u,p,r,ru,e=>by simp[eo]at e
 |.exc _,v,u,p,r,ru,e=>by simp[eo]at e
 |.jf,v,u,p,r,ru,e=>by simp[eo]at e
 |.dct _,v,u,p,r,ru,e=>by simp[eo]at e
 |.gm _,v,u,p,r,ru,e=>by simp[eo]at e
 |.lam _ _ _ _,v,u,p,r,ru,e=>by simp[eo]at e
theorem w6(I:Inv X pins σ H s):∀(l:List D) (vs:List V) (us:List Value) (ps:List PyData),aL X.K ρ H l vs→Vals vs us→eZ l=some ps→(∃as,ReadsAll s.heap us ps as)∧PyData.canLayAll0 ps=true
 |[],vs,us,ps,r,ru,e=>by
  cases r;cases ru;cases e
  exact⟨⟨_,.nil⟩,by simp[PyData.canLayAll0]⟩
 |d::l,vs,us,ps,r,ru,e=>by
  obtain⟨x,xs,rfl,r1,r2⟩:=r
  cases ru with
  |cons q1 q2 =>
   unfold eZ at e
   split at e
   ·rename_i a r e1 e2
    cases e
    obtain⟨⟨as,ra⟩,ca⟩:=gQ I d x _ a r1 q1 e1
    obtain⟨⟨bs,rb⟩,cb⟩:=w6 I l xs _ r r2 q2 e2
    exact⟨⟨_,.cons ra rb⟩,by simp[PyData.canLayAll0,ca,cb]⟩
   ·cases e
end
theorem iY(I:Inv X pins σ H s) (W:Wd X.K ρ H c) {d:D}{v:V}{u:Value}{p:PyData}(r:Rel X.K ρ H d v) (ru:RelV v u) (e:eB c d=some p):(∃as,Reads s.heap u p as)∧p.canLay0=true:=by
 cases d with
 |ref k =>
  unfold eB at e
  dsimp only at e
  cases hc:c[k]? with
  |none=>rw[hc]at e;cases e
  |some cl =>
   cases cl with
   |lst l =>
    rw[hc]at e
    dsimp only at e
    split at e
    ·rename_i q hq
     cases e
     obtain⟨a,rfl,s1⟩:=r
     cases ru
     obtain⟨_,xs,hx,rs⟩:=W.fO k a _ s1 hc
     obtain⟨its,vs,pl,_⟩:=I.list (bw.of hx)
     obtain⟨o,h1,h2,n,h3⟩:=pl.isList
     obtain⟨⟨as,ra⟩,hc⟩:=w6 I l xs its q rs vs hq
     exact⟨⟨_,.list h1 h2 h3 (by simpa using ra)⟩,by simpa[PyData.canLay0]using hc⟩
    ·cases e
 |aG=>exact gQ I _ v u p r ru e
 |bl b=>exact gQ I _ v u p r ru e
 |int b=>exact gQ I _ v u p r ru e
 |str b=>exact gQ I _ v u p r ru e
 |tup b=>exact gQ I _ v u p r ru e
 |lst b=>exact gQ I _ v u p r ru e
 |ty b=>exact gQ I _ v u p r ru e
 |ck b=>exact gQ I _ v u p r ru e
 |fn b n=>exact gQ I _ v u p r ru e
 |exc b=>exact gQ I _ v u p r ru e
 |dct b=>exact gQ I _ v u p r ru e
 |gm b=>exact gQ I _ v u p r ru e
 |jf=>exact gQ I _ v u p r ru e
 |lam k y ns l=>exact gQ I _ v u p r ru e
theorem Bo(hu:X.A.units+64<cLine):bP X (compareOp .Eq) (r2 X.K jd):=by
 intro pins s σ H v u vv uu Q I rv ru h
 obtain⟨ρ,x,y,c,W,rx,ry,p⟩:=h
 unfold jd at p
 split at p
 ·rename_i a b ha hb
  split at p
  ·rename_i hd
   obtain⟨⟨as,ra⟩,ca⟩:=iY I W rx rv ha
   obtain⟨⟨bs,rb⟩,cb⟩:=iY I W ry ru hb
   exact PySem.SeqAt.compareEq_shaped ra rb (by simp[PySem.SeqAt.shaped,ca,hd.1]) (by simp[PySem.SeqAt.shaped,cb,hd.2]) hu ⟨.bl _,H,I,rfl,p.here W rfl⟩
  ·exact p.elim
 ·exact p.elim
theorem VX(hu:X.A.units+64<cLine):bP X (compareOp .NotEq) (r2 X.K oY):=by
 intro pins s σ H v u vv uu Q I rv ru h
 obtain⟨ρ,x,y,c,W,rx,ry,p⟩:=h
 unfold oY at p
 split at p
 ·rename_i a b ha hb
  split at p
  ·rename_i hd
   obtain⟨⟨as,ra⟩,ca⟩:=iY I W rx rv ha
   obtain⟨⟨bs,rb⟩,cb⟩:=iY I W ry ru hb
   exact PySem.SeqAt.compareNe_shaped ra rb (by simp[PySem.SeqAt.shaped,ca,hd.1]) (by simp[PySem.SeqAt.shaped,cb,hd.2]) hu ⟨.bl _,H,I,rfl,p.here W rfl⟩
  ·exact p.elim
 ·exact p.elim
theorem x9{A:Around}{p:PyData}{ys:List PyData}(hu:A.units+64<cLine) (hd:p.depth≤62):A.units+1+min (PyData.depthAll ys) p.depth<cLine:=by
 have:=Nat.min_le_right (PyData.depthAll ys) p.depth
 omega
theorem xG(hu:X.A.units+64<cLine):bP X (compareOp .In) (r2 X.K inD):=by
 intro pins s σ H v u vv uu Q I rv ru h
 obtain⟨ρ,x,y,c,W,rx,ry,p⟩:=h
 unfold inD at p
 split at p
 ·rename_i a ys ha hb
  split at p
  ·rename_i hd
   obtain⟨⟨as,ra⟩,ca⟩:=iY I W rx rv ha
   obtain⟨⟨bs,rb⟩,cb⟩:=iY I W ry ru hb
   exact PySem.SeqAt.in_list_reads rb ra (by simpa[PyData.canLay0]using cb) ca (x9 hu hd) ⟨.bl _,H,I,rfl,p.here W rfl⟩
  ·exact p.elim
 ·rename_i a ys ha hb
  split at p
  ·rename_i hd
   obtain⟨⟨as,ra⟩,ca⟩:=iY I W rx rv ha
   obtain⟨⟨bs,rb⟩,cb⟩:=iY I W ry ru hb
   exact PySem.SeqAt.in_tuple_reads rb ra (by simpa[PyData.canLay0]using cb) ca (x9 hu hd) ⟨.bl _,H,I,rfl,p.here W rfl⟩
  ·exact p.elim
 ·exact p.elim
theorem IU(hu:X.A.units+64<cLine):bP X (compareOp .NotIn) (r2 X.K iJ):=by
 intro pins s σ H v u vv uu Q I rv ru h
 obtain⟨ρ,x,y,c,W,rx,ry,p⟩:=h
 unfold iJ at p
 split at p
 ·rename_i a ys ha hb
  split at p
  ·rename_i hd
   obtain⟨⟨as,ra⟩,ca⟩:=iY I W rx rv ha
   obtain⟨⟨bs,rb⟩,cb⟩:=iY I W ry ru hb
   exact PySem.SeqAt.notIn_list_reads rb ra (by simpa[PyData.canLay0]using cb) ca (x9 hu hd) ⟨.bl _,H,I,rfl,p.here W rfl⟩
  ·exact p.elim
 ·rename_i a ys ha hb
  split at p
  ·rename_i hd
   obtain⟨⟨as,ra⟩,ca⟩:=iY I W rx rv ha
   obtain⟨⟨bs,rb⟩,cb⟩:=iY I W ry ru hb
   exact PySem.SeqAt.notIn_tuple_reads rb ra (by simpa[PyData.canLay0]using cb) ca (x9 hu hd) ⟨.bl _,H,I,rfl,p.here W rfl⟩
  ·exact p.elim
 ·exact p.elim
end
theorem gW{A:Around}{k:Nat}(hr:e8 k A):A.units+64<cLine:=by have:=hr.un;omega
section
variable (c:aa)
@[simp] theorem ag7:eo .aG=some .none:=by simp only[eo]
@[simp] theorem ag9(b:Bool):eo (.bl b)=some (.bool b):=by simp only[eo]
@[simp] theorem ag8(i:Int):eo (.int i)=some (.int i):=by simp only[eo]
@[simp] theorem ag6:eZ []=some []:=by simp only[eZ]
end
end L2
namespace L2
open PySem PySem.Spec PyProof.Rows
def vP:D→D→aa→R D:=fun x y c=>match x,y with
 |.int i,.int j=>.ok (.int (Builtin.bitAnd i j)) c
 |_,_=>.bad
section
variable {X:Cx}
theorem WA:bP X (binaryOp .BitAnd) (r2 X.K vP):=by
 intro pins s σ H v u vv uu Q I rv ru h
 obtain⟨ρ,x,y,c,W,rx,ry,p⟩:=h
 unfold vP at p
 split at p
 ·cases rx;cases ry
  exact Vq pins s σ H _ _ vv uu Q I rv ru ⟨_,_,rfl,rfl,p.here W rfl⟩
 ·exact p.elim
end
end L2
namespace L2
open PySem PySem.Spec PyProof.Rows
section
variable {X:Cx}{P:Str→Hp→Prop}{st:Stmt}{sts rest:List Stmt}{e:Expr}{a b d u:Xd}{t:ah}{pos:Pos}
structure XCls (K:PySem.W.Frag) (mg:Str→Option Value) (x:Str) (bm:List Value) (newId:String):Prop where
 ex:∃C,PySem.W.nsIn K mainGlobals x=some (some (.ref C))∧mg x=some (.ref C)∧∀h,K.In h→OwnCls x C bm newId mg h
end
end L2
namespace PySem.W
open PySem PySem.Spec PySem.Calls PyProof.Rows Builtin Builtin.ObjectAttr Builtin.Getset_descriptor
structure afs (K:Frag) (C:Addr):Prop where
 ga:findIn K (.ref C) "__getattribute__"=some (some (.builtin "BaseException.__getattribute__"))
 gn:findIn K (.ref C) "__getattr__"=some none
 cl:findIn K (.ref C) "__class__"=some (some (.builtin "object.__class__"))
 ob:mroIn K C (.type "object")=some true
 be:subIn K (.ref C) (.type "BaseException")=some true
 cc:(clsIn K C).isSome=true
end PySem.W
namespace L2
open PySem PySem.Spec PyProof.Rows
structure afj (k:Nat) (A:Around):Prop where
 dp:A.depth+3*k+5<recursionLimit
 un:A.units+16*k+200<cLine
structure ahj (P:Program) (w:World) (K:PySem.W.Frag) (mg:Str→Option Value) (base:Heap) (k:Nat) (f:Addr) (fd:FuncData) (ps:List Str) (sp:Sp):Prop where
 len:∀vs H Q E,sp vs H Q E→vs.length=ps.length
 run:∀(A:Around) (outer:List Env) (s:Shared) (H:Hp) (args:Args) (us:List Value) (vs:List V) (Q:VK) (E:XK),afj k A→vY P w K mg base A outer s H→BindsTo s fd args (ps.zip us)→Vals vs us→sp vs H Q E →
  codeAny (model P w) A (.call (.ref f) args) (CR bU outer P w H s Q E) s
structure XTab (K:PySem.W.Frag) (T:List Str):Prop where
 cls:∀x∈T,∀C,PySem.W.nsIn K mainGlobals x=some (some (.ref C))→PySem.W.afs K C∧PySem.W.kitOne K (.ref C) (.type "ValueError")=some true
 two:∀x∈T,∀y∈T,∀C C',PySem.W.nsIn K mainGlobals x=some (some (.ref C))→PySem.W.nsIn K mainGlobals y=some (some (.ref C'))→PySem.W.kitOne K (.ref C) (.ref C')=some (x==y)
open PySem.SeqAt
section
variable {X:Cx}
def SE:V→List V→Hp→VK→Prop:=fun x vs H Q=>∃l,∃bs:List Bool,x=.ref l∧vs=[.bl true]∧H l=some (.lst (bs.map V.bl))∧Q (.int (bs.countP id:Nat)) H
theorem Vals.ML:∀{bs:List Bool}{us:List Value},Vals (bs.map V.bl) us→us=bs.map Value.bool
 |[],_,.nil=>rfl
 |b::bs,_,.cons r t=>by cases r;rw[Vals.ML t];rfl
def eqT:Value→Bool
 |.bool b=>b
 |_=>false
theorem acm(bs:List Bool):(bs.map Value.bool).countP eqT=bs.countP id:=by
 induction bs with
 |nil=>rfl
 |cons b bs ih=>rw[ahv,akd,akd,ih];rfl
theorem acn{A:Around}{s:Shared}(bs:List Bool):∀y,y∈(bs.map Value.bool).toArray→EqAt A s y (.bool true) (eqT y):=fun y hy=>by
 rw[List.mem_toArray,ahs]at hy
 obtain⟨b,_,rfl⟩:=hy
 have:=EqAt.bool_bool (A:=A) (s:=s) b true
 cases b<;>exact this
theorem YN:zI X "list.count" SE:=by
 intro pins s σ H x vs v us Q I rx rv h
 obtain⟨l,bs,rfl,rfl,hH,q⟩:=h
 cases rx
 obtain⟨u,rfl,ru⟩:=rv.one
 cases ru
 obtain⟨z,its,n,r,hl,e⟩:=I.nq hH
 cases r.ML
 refine ai0 F.slot_list_count ⟨_,e,rfl⟩ F.entry_list_count (F.args_list_count_2 _ _) (list_countAt l (bs.map Value.bool).toArray n none #[] (.bool true) eqT) ⟨e,acn bs,?_⟩
 refine⟨.int (bs.countP id:Nat),H,I.tok _,⟨s.toks,?_⟩,q⟩
 rw[List.toList_toArray,acm]
end
end L2
namespace L2
open PySem PySem.Spec PyProof.Rows
def iN(o a:af):af:=fun e c=>(o e c).bind fun x c=>match x with
 |.lst l=>(a e c).bind fun y c=>match y,nT l with
  |.bl true,some bs=>.ok (.int (bs.countP id:Nat)) c
  |_,_=>.bad
 |_=>.bad
theorem aL.MK{K:PySem.W.Frag}{ρ:List Addr}{H:Hp}:∀{bs:List Bool}{xs:List V},aL K ρ H (bs.map D.bl) xs→xs=bs.map V.bl
 |[],_,h=>h
 |b::bs,_,h=>by
  obtain⟨x,r,rfl,h1,h2⟩:=h
  cases h1
  rw[aL.MK h2];rfl
section
variable {X:Cx}
theorem Ip{o e:Expr}{dO da:af}{apos cpos:Pos}(ho:bx X o dO) (ha:bx X e da)
  (hbase:attributeBase o "count" X.env (eval o X.env)=eval o X.env:=by rfl)
  (hfew:((backTo cpos (starEach [e] X.env)).all (fun x=>!x.1)&&(backToKw cpos (keywordEach [] X.env)).all (fun x=>x.1.isSome)
   && decide ([e].length+([]:List Keyword).length+(if([]:List Keyword).isEmpty then 0 else 1)<30))=true:=by exact AE rfl)
  (hline:(apos.endLine==cpos.line)=true:=by rfl) (hs:starEach [e] X.env=(false,eval e X.env)::starEach [] X.env:=by exact eV rfl) (hplain:(backTo cpos (starEach [] X.env)).any (·.1)=false:=by exact iE rfl) :
  bx X (.Call (.Attribute o "count" apos) [e] [] cpos) (iN dO da) :=
 (xo akc PySem.F.slot_list_count PySem.F.type_list_count YN ho (jr ha jX hs) hbase hfew hline hs hplain).imp fun σ H Q h=>by
  obtain⟨ρ,e,c,W,V,p⟩:=h
  refine⟨ρ,e,c,W,V,post.bind p fun x c1 aO H1 v _ W1 X1 r1 p1=>?_⟩
  cases x with
  |lst l =>
   obtain⟨a,xs,rfl,hx,rl⟩:=r1
   refine⟨.inl ⟨rfl,xs,bw.of hx.1⟩,aO,e,c1,W1,V.mono W X1,post.bind p1 fun y c2 dP H2 u _ W2 X2 r2 p2=>?_⟩
   split at p2
   ·rename_i bs hb _
    cases r2
    rw[zA hb]at rl
    cases rl.MK
    exact⟨a,bs,rfl,rfl,(X2.keep a _ hx.1 hx.2 rfl).1,p2.here W2 rfl⟩
   ·exact p2.elim
  |_=>exact p1.elim
end
end L2
namespace L2
open PySem PySem.Spec PyProof.Rows
def zx:D→D→aa→R D:=fun x y c=>match x,y with
 |.tup l,.tup m=>if l.length+m.length≤sizeLine then .ok (.tup (l++m)) c else .bad
 |_,_=>.bad
section
variable {X:Cx}
theorem Vo:bP X (binaryOp .Add) (fun x y H Q=>∃a b ys,x=.ref a∧y=.ref b∧bX X.K H a []∧bX X.K H b ys∧Q (.ref b) H):=by
 intro pins s σ H x y v u Q I rx ry h
 obtain⟨a,b,ys,rfl,rfl,ha,hb,q⟩:=h
 cases rx
 cases ry
 obtain⟨its,r1,p1,_⟩:=I.tuple ha
 obtain⟨its2,r2,p2,_⟩:=I.tuple hb
 cases r1
 obtain⟨⟨cls,dd,data,sl⟩,ho,hc,n,hd⟩:=id p1
 obtain⟨⟨adZ,dd2,data2,sl2⟩,ho2,hc2,n2,hd2⟩:=id p2
 simp only at hc hd hc2 hd2
 subst hc hd hc2 hd2
 exact aks ⟨_,ho,rfl⟩ ⟨_,ho2,rfl⟩ akt aku akv akw (akx _ _)
   (tuple_addW0 a b [].toArray its2.toArray n n2 dd dd2 sl sl2 rfl) ⟨ho,ho2,⟨.ref b,H,I,rfl,q⟩⟩
theorem Ww:bP X (binaryOp .Add) (r2 X.K zx):=by
 intro pins s σ H v u vv uu Q I rv ru h
 obtain⟨ρ,x,y,c,W,rx,ry,p⟩:=h
 unfold zx at p
 split at p
 ·rename_i l m
  split at p
  ·rename_i hl
   obtain⟨a,xs,rfl,sa,ra⟩:=rx
   obtain⟨b,ys,rfl,sb,rb⟩:=ry
   by_cases hz:xs=[]
   ·subst hz
    have:l=[]:=by have:=ra.length;exact akY.mp (by simpa using this.symm)
    subst this
    exact Vo pins s σ H _ _ vv uu Q I rv ru ⟨a,b,ys,rfl,rfl,bX.of sa,bX.of sb,p.here W ⟨b,ys,rfl,sb,rb⟩⟩
   ·refine IE pins s σ H _ _ vv uu Q I rv ru ⟨a,b,xs,ys,rfl,rfl,bX.of sa,bX.of sb,hz,by rw[ra.length,rb.length];exact hl,fun z=>?_,fun _=>xQ W (ra.append rb) p⟩
    refine p.here W ⟨a,xs++ys,rfl,by rw[z,ajg];exact sa,ra.append rb⟩
  ·exact p.elim
 ·exact p.elim
end
end L2
namespace L2
open PySem PySem.Spec PyProof.Rows
def rA:D→D→aa→R D:=fun x y c=>match x,y with
 |.lst l,.int k=>if -(2^63)≤k∧k<2^63∧l.length*k.toNat≤sizeLine then .ok (.lst (List.replicate k.toNat l).flatten) c else .bad
 |_,_=>.bad
theorem aL.rep{K:PySem.W.Frag}{ρ:List Addr}{H:Hp}{l:List D}{xs:List V}(r:aL K ρ H l xs):∀n:Nat,aL K ρ H (List.replicate n l).flatten (List.replicate n xs).flatten
 |0=>rfl
 |n+1=>by
  rw[aiG,aiG,aiK,aiK]
  exact aL.append r (aL.rep r n)
theorem VT{X:Cx}:bP X (binaryOp .Mult) (r2 X.K rA):=by
 intro pins s σ H v u vv uu Q I rv ru h
 obtain⟨ρ,x,y,c,W,rx,ry,p⟩:=h
 unfold rA at p
 split at p
 ·split at p
  ·rename_i hl
   obtain⟨a,xs,rfl,sa,ra⟩:=rx
   cases ry
   exact ID pins s σ H _ _ vv uu Q I rv ru ⟨a,_,xs,rfl,rfl,sa.1,hl.1,hl.2.1,by rw[ra.length];exact hl.2.2,nh W (aL.rep ra _) p⟩
  ·exact p.elim
 ·exact p.elim
section
variable (e:Ev) (c:aa) (l:aj)
@[simp] theorem N9(m:List D) (k:Int):rA (.lst m) (.int k) c=if -(2^63)≤k∧k<2^63∧m.length*k.toNat≤sizeLine then .ok (.lst (List.replicate k.toNat m).flatten) c else .bad:=rfl
end
end L2
namespace L2
open PySem PySem.Spec PyProof.Rows
def jU:D→D→aa→R D:=fun x y c=>match x,y with
 |.lst l,.int k=>if -(2^63)≤k∧k<2^63∧l.length*k.toNat≤sizeLine∧bK l=true then .ok (.ref c.length) (c++[.lst (List.replicate k.toNat l).flatten])else .bad
 |_,_=>.bad
theorem Jc{l:List D}(h:bK l=true):∀n:Nat,bK (List.replicate n l).flatten=true
 |0=>by simp
 |n+1=>by rw[aiG,aiK,uL,h,Jc h n];rfl
theorem IQ{X:Cx}:bP X (binaryOp .Mult) (r2 X.K jU):=by
 intro pins s σ H v u vv uu Q I rv ru h
 obtain⟨ρ,x,y,c,W,rx,ry,p⟩:=h
 unfold jU at p
 split at p
 ·split at p
  ·rename_i hl
   obtain⟨a,xs,rfl,sa,ra⟩:=rx
   cases ry
   exact ID pins s σ H _ _ vv uu Q I rv ru ⟨a,_,xs,rfl,rfl,sa.1,hl.1,hl.2.1,by rw[ra.length];exact hl.2.2.1,Bu W (Jc hl.2.2.2 _) (aL.rep ra _) p⟩
  ·exact p.elim
 ·exact p.elim
def eE(o a:af):af:=fun e c=>(o e c).bind fun x c=>match x with
 |.ref k=>(a e c).bind fun y c=>match y with
  |.lst m=>match c[k]? with
   |some (.lst l)=>if l.length+m.length≤sizeLine∧bK m=true then .ok .aG (c.set k (.lst (l++m)))else .bad
   |none=>.bad
  |_=>.bad
 |_=>.bad
theorem uG{X:Cx}{o e:Expr}{dO da:af}{apos cpos:Pos}(ho:bx X o dO) (ha:bx X e da)
  (hbase:attributeBase o "extend" X.env (eval o X.env)=eval o X.env:=by rfl)
  (hfew:((backTo cpos (starEach [e] X.env)).all (fun x=>!x.1)&&(backToKw cpos (keywordEach [] X.env)).all (fun x=>x.1.isSome)
   && decide ([e].length+([]:List Keyword).length+(if([]:List Keyword).isEmpty then 0 else 1)<30))=true:=by exact AE rfl)
  (hline:(apos.endLine==cpos.line)=true:=by rfl) (hs:starEach [e] X.env=(false,eval e X.env)::starEach [] X.env:=by exact eV rfl) (hplain:(backTo cpos (starEach [] X.env)).any (·.1)=false:=by exact iE rfl) :
  bx X (.Call (.Attribute o "extend" apos) [e] [] cpos) (eE dO da) :=
 (xo akc PySem.F.slot_list_extend PySem.F.type_list_extend YM ho (jr ha jX hs) hbase hfew hline hs hplain).imp fun σ H Q h=>by
  obtain⟨ρ,e,c,W,V,p⟩:=h
  refine⟨ρ,e,c,W,V,post.bind p fun x c1 aO H1 v _ W1 X1 r1 p1=>?_⟩
  cases x with
  |ref k =>
   obtain⟨a,rfl,ha⟩:=r1
   obtain⟨xs,hx⟩:=W1.at' (ahL ha)
   refine⟨.inl ⟨rfl,xs,bw.of hx⟩,aO,e,c1,W1,V.mono W X1,post.bind p1 fun y c2 dP H2 u _ W2 X2 r2 p2=>?_⟩
   cases y with
   |lst m =>
    obtain⟨b,zs,rfl,sb,rb⟩:=r2
    dsimp only at p2
    split at p2
    ·rename_i l hl
     split at p2
     ·rename_i hh
      obtain⟨nr,ys,hy,rl⟩:=W2.fO k a _ (X2.pre k a ha) hl
      refine⟨a,b,ys,zs,rfl,rfl,hy,sb.1,by rw[rl.length,rb.length];exact hh.1,?_⟩
      refine p2 dP _ .aG (W2.write (X2.pre k a ha) (by rw[uL,nr,hh.2];rfl) (rl.append rb)) (Ext.write (X2.pre k a ha)) rfl
     ·exact p2.elim
    ·exact p2.elim
   |_=>exact p2.elim
  |_=>exact p1.elim
section
variable (e:Ev) (c:aa) (o a:af)
@[simp] theorem N8(m:List D) (k:Int):jU (.lst m) (.int k) c=if -(2^63)≤k∧k<2^63∧m.length*k.toNat≤sizeLine∧bK m=true then .ok (.ref c.length) (c++[.lst (List.replicate k.toNat m).flatten])else .bad:=rfl
end
theorem DU{α:Type}{st:aa→Prop}{g:Gd}{s:ah}(C:Nat→aa) (E:Nat→α→Ev):∀(items:List D) (k:Nat) (v:α),(∀i,i≤items.length→st (C (k+i))) →
  (∀i x,items[i]? = some x→∀v,∃e',g x (E (k+i) v) (C (k+i))=.ok e' (C (k+i))∧∃v',s e' (C (k+i))=.ok (.nx (E (k+i+1) v')) (C (k+i+1))) →
  ∃v',bS st g s items (E k v) (C k)=.ok (.nx (E (k+items.length) v')) (C (k+items.length))
 |[],k,v,hst,_=>⟨v,by
   have:=hst 0 (aho _)
   rw[ai4]at this
   unfold bS
   rw[if_pos this];rfl⟩
 |x::xs,k,v,hst,h=>by
  obtain⟨e',h1,v',h2⟩:=h 0 x rfl v
  obtain⟨v2,h3⟩:=DU C E xs (k+1) v' (fun i hi=>by
   have:=hst (i+1) (by simp only[ahu];omega)
   rwa[show k+(i+1)=k+1+i by omega]at this) (fun i y hy v=>by
   have:=h (i+1) y (by simpa using hy) v
   rwa[show k+(i+1)=k+1+i by omega]at this)
  refine⟨v2,?_⟩
  unfold bS
  rw[if_pos (by have:=hst 0 (ahY _);exact this)]
  rw[ai4]at h1 h2
  rw[h1,R.aC,h2]
  simp only[R.aC]
  rw[h3,ahu,show k+(xs.length+1)=k+1+xs.length by omega]
theorem Lg{α:Type}{g:Gd}{s:ah}(C:Nat→aa) (E:Nat→α→Ev) {N:Int}{n:Nat}(hN:N=n) (v:α)
  (h:∀i,i<n→∀v,∃e',g (.int (i:Nat)) (E i v) (C i)=.ok e' (C i)∧∃v',s e' (C i)=.ok (.nx (E (i+1) v')) (C (i+1))) :
  ∃v',bS (fun _=>True) g s (aM 0 N) (E 0 v) (C 0)=.ok (.nx (E n v')) (C n):=by
 have hl:(aM 0 N).length=n:=by rw[dY];omega
 have:=DU (st:=fun _=>True) C E (aM 0 N) 0 v (fun _ _=>trivial) (fun i x hx v=>by
  obtain⟨h1,rfl⟩:=jS hx
  rw[ahM,ajs]
  exact h i (by omega) v)
 rwa[hl,ahM]at this
end L2
namespace L2
open PySem PySem.Spec PyProof.Rows
abbrev nD(ns:List Nat):List D:=ns.map fun n:Nat=>D.int n
section
variable {X:Cx}
theorem jt(ns:List Nat):bK (nD ns)=true:=by
 have e:nD ns=(ns.map fun n:Nat=>(n:Int)).map D.int:=by simp[nD]
 rw[e];exact XF
end
end L2
namespace L2
open PySem PySem.Spec PyProof.Rows
theorem Qf{a b:Expr}{env:Env}{pos:Pos}(h:isStar a=false) (g:isStar b=false):((backTo pos (starEach [a,b] env)).all (fun x=>!x.1)&&(backToKw pos (keywordEach [] env)).all (fun x=>x.1.isSome)
   && decide ([a,b].length+([]:List Keyword).length+(if([]:List Keyword).isEmpty then 0 else 1)<30))=true:=by
 rw[AF h g];simp[backTo,backToKw,keywordEach]
section
variable {X:Cx}
def Sz:V→List V→Hp→VK→Prop:=fun x vs H Q=>∃l xs y,∃i:Int,x=.ref l∧vs=[.int i,y]∧H l=some (.lst xs)∧(0≤i∧i≤xs.length)∧xs.length<sizeLine∧Q .aG (upd H l (.lst (xs.take i.toNat++y::xs.drop i.toNat)))
theorem YL:zI X "list.insert" Sz:=by
 intro pins s σ H x vs v us Q I rx rv h
 obtain⟨l,xs,y,i,rfl,rfl,hH,hi,hz,q⟩:=h
 cases rx
 cases rv with
 |cons r0 rr =>
  cases rr with
  |cons ru rr =>
   cases rr
   obtain⟨t,rfl⟩:=r0
   rename_i u
   obtain⟨z,its,n,r,hl,e⟩:=I.nq hH
   have hsl:sizeLine<2^62:=by decide
   have hfit:¬(!Builtin.List.listFitsIndex i)=true:=by
    have:Builtin.List.listFitsIndex i=true:=by
     unfold Builtin.List.listFitsIndex
     simp only[ah4,decide_eq_true_eq]
     omega
    rw[this];decide
   refine ai0 F.slot_list_insert ⟨_,e,rfl⟩ F.entry_list_insert (F.args_list_insert_3 _ _ _) (AutoSeq1.list_insert_list_int_val_1 l its.toArray n i t u hfit (by rw[aht];omega)) ⟨e,?_⟩
   refine⟨.aG,_,I.BQ (its':=its.take i.toNat++u::its.drop i.toNat) hH e ?_ ((r.take i.toNat).append (.cons ru (r.drop i.toNat))) ?_,rfl,q⟩
   ·have hk:(if i<0 then(i+(its.toArray.size:Int)).toNat else min i.toNat its.toArray.size)=i.toNat:=by
     rw[if_neg (by omega),aht];omega
    show(its.toArray.extract 0 (if i<0 then(i+(its.toArray.size:Int)).toNat else min i.toNat its.toArray.size)).push u++its.toArray.extract (if i<0 then(i+(its.toArray.size:Int)).toNat else min i.toNat its.toArray.size)=_
    rw[hk]
    apply alR.mp
    simp[List.extract_eq_take_drop,ajN]
   ·simp only[ahW,ajh,ahu,ale];omega
def vG(o a b:af):af:=fun e c=>(o e c).bind fun x c=>match x with
 |.ref k=>(a e c).bind fun i c=>(b e c).bind fun y c=>match i,c[k]? with
  |.int i,some (.lst l)=>if(0≤i∧i≤l.length)∧l.length<sizeLine∧noRef y=true then .ok .aG (c.set k (.lst (l.take i.toNat++y::l.drop i.toNat)))else .bad
  |_,_=>.bad
 |_=>.bad
theorem XC{l:List D}(h:bK l=true) (n:Nat):bK (l.take n)=true:=gS.mpr fun d hd=>gS.mp h d (ahR hd)
theorem XG{l:List D}(h:bK l=true) (n:Nat):bK (l.drop n)=true:=gS.mpr fun d hd=>gS.mp h d (akG hd)
theorem US{o a b:Expr}{dO da db:af}{apos cpos:Pos}(ho:bx X o dO) (ha:bx X a da) (hb:bx X b db)
  (hbase:attributeBase o "insert" X.env (eval o X.env)=eval o X.env:=by rfl)
  (hfew:((backTo cpos (starEach [a,b] X.env)).all (fun x=>!x.1)&&(backToKw cpos (keywordEach [] X.env)).all (fun x=>x.1.isSome)
   && decide ([a,b].length+([]:List Keyword).length+(if([]:List Keyword).isEmpty then 0 else 1)<30))=true:=by exact Qf rfl rfl)
  (hline:(apos.endLine==cpos.line)=true:=by rfl) (hs:starEach [a,b] X.env=(false,eval a X.env)::starEach [b] X.env:=by exact eV rfl) (hs2:starEach [b] X.env=(false,eval b X.env)::starEach [] X.env:=by exact eV rfl) (hplain:(backTo cpos (starEach [b] X.env)).any (·.1)=false:=by exact iE rfl) :
  bx X (.Call (.Attribute o "insert" apos) [a,b] [] cpos) (vG dO da db) :=
 (xo akc PySem.F.slot_list_insert PySem.F.type_list_insert YL ho (jr ha (jr hb jX hs2) hs) hbase hfew hline hs hplain).imp fun σ H Q h=>by
  obtain⟨ρ,e,c,W,V,p⟩:=h
  refine⟨ρ,e,c,W,V,post.bind p fun x c1 aO H1 v _ W1 X1 r1 p1=>?_⟩
  cases x with
  |ref k =>
   obtain⟨ad,rfl,hk⟩:=r1
   obtain⟨xs,hx⟩:=W1.at' (ahL hk)
   refine⟨.inl ⟨rfl,xs,bw.of hx⟩,aO,e,c1,W1,V.mono W X1,post.bind p1 fun i c2 dP H2 ui _ W2 X2 r2 p2=>⟨dP,e,c2,W2,(V.mono W X1).mono W1 X2,post.bind p2 fun y c3 tR H3 u _ W3 X3 r3 p3=>?_⟩⟩
   split at p3
   ·rename_i i' l hl _
    split at p3
    ·rename_i hh
     cases r2
     obtain⟨nr,ys,hy,rl⟩:=W3.fO k ad _ (X3.pre k ad (X2.pre k ad hk)) hl
     refine⟨ad,ys,u,i',rfl,rfl,hy,by rw[rl.length];exact hh.1,by rw[rl.length];exact hh.2.1,?_⟩
     refine p3 tR _ .aG (W3.write (X3.pre k ad (X2.pre k ad hk)) ?_ ((rl.take _).append ⟨u,_,rfl,r3,rl.drop _⟩)) (Ext.write (X3.pre k ad (X2.pre k ad hk))) rfl
     rw[uL,XC nr]
     simp[bK,hh.2.2,XG nr]
    ·exact p3.elim
   ·exact p3.elim
  |_=>exact p1.elim
def pA:List D→aa→R D:=fun xs c=>match xs with
 |[x]=>match gv c x with
  |some l=>if bK l=true then .ok (.ref c.length) (c++[.lst l])else .bad
  |none=>.bad
 |_=>.bad
theorem ad5:cZ X (.type "list") (rN X.K pA):=by
 intro pins s σ H vs us Q I rv h
 obtain⟨ρ,xs,c,W,rx,p⟩:=h
 unfold pA at p
 split at p
 ·rename_i x
  obtain⟨v,r,rfl,hx,hr⟩:=rx
  cases hr
  split at p
  ·rename_i l hl
   split at p
   ·rename_i nr
    obtain⟨a,ys,rfl,sq,r⟩:=wO W hx hl
    exact aeb pins s σ H _ us Q I rv ⟨a,ys,rfl,sq,Bu W nr r p⟩
   ·exact p.elim
  ·exact p.elim
 ·exact p.elim
end
@[simp] theorem Oh(o a b:af) (e:Ev) (c:aa):vG o a b e c=(o e c).bind fun x c=>match x with
 |.ref k=>(a e c).bind fun i c=>(b e c).bind fun y c=>match i,c[k]? with
  |.int i,some (.lst l)=>if(0≤i∧i≤l.length)∧l.length<sizeLine∧noRef y=true then .ok .aG (c.set k (.lst (l.take i.toNat++y::l.drop i.toNat)))else .bad
  |_,_=>.bad
 |_=>.bad:=rfl
end L2
namespace L2
open PySem PySem.Spec PyProof.Rows
mutual
def fq(c:aa) (n:Nat):D→Option D
 |.ref k=>match c[k]? with
  |some (.lst l)=>if n≤k then some (.lst l)else none
  |none=>none
 |.lst l=>match mW c n l with
  |some m=>some (.lst m)
  |none=>none
 |.tup l=>match mW c n l with
  |some m=>some (.tup m)
  |none=>none
 |.aG=>some .aG
 |.bl b=>some (.bl b)
 |.int i=>some (.int i)
 |.str x=>some (.str x)
 |.ty x=>some (.ty x)
 |.ck x=>some (.ck x)
 |.fn x m=>some (.fn x m)
 |.exc x=>some (.exc x)
 |.jf=>some .jf
 |.dct ks=>some (.dct ks)
 |.gm ks=>some (.gm ks)
 |.lam _ _ _ _=>none
def mW(c:aa) (n:Nat):List D→Option (List D)
 |[]=>some []
 |d::l=>match fq c n d,mW c n l with
  |some a,some m=>some (a::m)
  |_,_=>none
end
section
variable {K:PySem.W.Frag}{aO:List Addr}{H1:Hp}{c1:aa}{n:Nat}
mutual
theorem G2(W1:Wd K aO H1 c1):∀(d:D) (v:V) (d':D),Rel K aO H1 d v→fq c1 n d=some d'→Rel K (aO.take n) H1 d' v
 |.ref k,v,d',r,h=>by
  unfold fq at h
  split at h
  ·rename_i l hl
   split at h
   ·rename_i hk
    cases h
    obtain⟨a,rfl,ha⟩:=r
    obtain⟨nr,xs,hx,rl⟩:=W1.fO k a _ ha hl
    refine⟨a,xs,rfl,⟨hx,fun q=>?_⟩,aL.low (fun b h=>ahR h) l xs nr rl⟩
    obtain⟨j,hj,e⟩:=ajA.mp q
    rw[aj3]at e
    have hk1:=ahz.mp ha
    have hjl:j<aO.length:=by simp at hj;omega
    have:=(aiv W1.nd (h₀:=hjl) (h₁:=hk1.1)).mp (e.trans hk1.2.symm)
    simp at hj
    omega
   ·cases h
  ·cases h
 |.lst l,v,d',r,h=>by
  unfold fq at h
  split at h
  ·rename_i m hm
   cases h
   obtain⟨a,xs,rfl,s,rl⟩:=r
   exact⟨a,xs,rfl,⟨s.1,fun q=>s.2 (ahR q)⟩,Ay W1 l xs m rl hm⟩
  ·cases h
 |.tup l,v,d',r,h=>by
  unfold fq at h
  split at h
  ·rename_i m hm
   cases h
   obtain⟨a,xs,rfl,s,rl⟩:=r
   exact⟨a,xs,rfl,s,Ay W1 l xs m rl hm⟩
  ·cases h
 |.aG,v,d',r,h=>by unfold fq at h;cases h;exact Rel.low (fun b h=>ahR h) _ _ rfl r
 |.bl b,v,d',r,h=>by unfold fq at h;cases h;exact Rel.low (fun b h=>ahR h) _ _ rfl r
 |.int i,v,d',r,h=>by unfold fq at h;cases h;exact Rel.low (fun b h=>ahR h) _ _ rfl r
 |.str x,v,d',r,h=>by unfold fq at h;cases h;exact Rel.low (fun b h=>ahR h) _ _ rfl r
 |.ty x,v,d',r,h=>by unfold fq at h;cases h;exact Rel.low (fun b h=>ahR h) _ _ rfl r
 |.ck x,v,d',r,h=>by unfold fq at h;cases h;exact Rel.low (fun b h=>ahR h) _ _ rfl r
 |.fn x m,v,d',r,h=>by unfold fq at h;cases h;exact Rel.low (fun b h=>ahR h) _ _ rfl r
 |.exc x,v,d',r,h=>by unfold fq at h;cases h;exact Rel.low (fun b h=>ahR h) _ _ rfl r
 |.jf,v,d',r,h=>by unfold fq at h;cases h;exact Rel.low (fun b h=>ahR h) _ _ rfl r
 |.dct ks,v,d',r,h=>by unfold fq at h;cases h;exact Rel.low (fun b h=>ahR h) _ _ rfl r
 |.gm ks,v,d',r,h=>by unfold fq at h;cases h;exact Rel.low (fun b h=>ahR h) _ _ rfl r
 |.lam _ _ _ _,v,d',r,h=>by unfold fq at h;cases h
theorem Ay(W1:Wd K aO H1 c1):∀(l:List D) (xs:List V) (m:List D),aL K aO H1 l xs→mW c1 n l=some m→aL K (aO.take n) H1 m xs
 |[],xs,m,r,h=>by unfold mW at h;cases h;exact r
 |d::l,xs,m,r,h=>by
  unfold mW at h
  split at h
  ·rename_i a m' ha hm
   cases h
   obtain⟨y,ys,rfl,r1,r2⟩:=r
   exact⟨y,ys,rfl,G2 W1 d y a r1 ha,Ay W1 l ys m' r2 hm⟩
  ·cases h
end
end
def kc(n:Nat) (v:D) (c:aa):R D:=match fq c n v with
 |some d=>.ok d (c.take n)
 |none=>.bad
def lP(n:Nat) (d:ah):List D→aa→R D:=fun xs c=>(d (cB n xs) c).bind fun f c'=>match f with
 |.rt v=>kc c.length v c'
 |.nx _=>kc c.length .aG c'
 |_=>.bad
theorem Lx{K:PySem.W.Frag}{ρ aO:List Addr}{H H1:Hp}{c c1:aa}{v:D}{x:V}{Q:VK}(W:Wd K ρ H c) (W1:Wd K aO H1 c1) (X1:Ext ρ H aO H1) (r:Rel K aO H1 v x) (p:post K (Rel K) (kc c.length v c1) ρ H Q):Q x H1:=by
 have hn:=Ext.len W W1 X1
 have Wc:=W1.cut hn
 have Xc:=X1.cut (n:=c.length) (ai2 W.len)
 unfold kc at p
 split at p
 ·rename_i d hd
  exact p _ H1 x Wc Xc (G2 W1 v x d r hd)
 ·exact p.elim
section
variable {P:Program}{w:World}{K:PySem.W.Frag}{mg:Str→Option Value}{base:Heap}
theorem DV{x qual:Str}{st:Stmt}{f:Addr}{fd:FuncData}{N ps:List Str}{k n m:Nat}{d:ah}(F:nZ K x qual st f fd) (S:cM N ps (bf st)) (hN:N.length=n) (hm:ps.length=m)
  (hb:∀(cdv:Value) (A:Around) (outer:List Env) (s:Shared) (H:Hp) (E:XK),e8 k (A.deeper (envOfC qual (bf st) s.heap.objs.size f cdv))→cy (nQ bU P w K mg base N qual (bf st) f cdv A outer s H E).rG (cG st) d) :
  bY P w K mg base bU (k+1) f fd ps (cC K m (lP n d)):=by
 subst hN;subst hm
 refine F.ok S (fun vs H Q E h=>?_) (fun cdv A outer s H vs Q E hr h=>⟨_,hb cdv A outer s H E hr,?_⟩)
 ·obtain⟨ρ,xs,c,W,r,hl,p⟩:=h
  exact r.length.trans hl
 ·obtain⟨ρ,xs,c,W,r,hl,p⟩:=h
  refine⟨ρ,cB N.length xs,c,W,dW.start r,post.bind p fun fl c1 aO H1 b _ W1 X1 r1 p1=>?_⟩
  cases fl with
  |nx e1 =>
   obtain⟨σ1,rfl,V1⟩:=r1
   exact Lx (v:=.aG) (x:=.aG) (H1:=H1) W W1 X1 rfl (by unfold lP at p;rename_i he;rw[he]at p;exact p)
  |rt d =>
   obtain⟨v,rfl,V1⟩:=r1
   exact Lx (v:=d) (x:=v) (H1:=H1) W W1 X1 V1 (by unfold lP at p;rename_i he;rw[he]at p;exact p)
  |bk e1=>exact p1.elim
  |ct e1=>exact p1.elim
end
@[simp] theorem Ak(n:Nat) (d:ah) (xs:List D) (c:aa):lP n d xs c=(d (cB n xs) c).bind fun f c'=>match f with
 |.rt v=>kc c.length v c'
 |.nx _=>kc c.length .aG c'
 |_=>.bad:=rfl
end L2
namespace L2
open PySem PySem.Spec PyProof.Rows
section
variable {X:Cx}{e sx:Expr}{te:TE}{lo hi:Option Expr}{tl th ts:TO}{pos p2:Pos}
def insI(x:Int):List Int→List Int
 |[]=>[x]
 |y::l=>if x≤y then x::y::l else y::insI x l
def fD:List Int→List Int
 |[]=>[]
 |x::l=>insI x (fD l)
theorem Di(x:Int):∀l,(insI x l).Perm (x::l)
 |[]=>.refl _
 |y::l=>by
  unfold insI
  split
  ·exact .refl _
  ·exact((Di x l).cons y).trans (List.Perm.swap _ _ _)
theorem j6:∀l,(fD l).Perm l
 |[]=>.refl _
 |x::l=>(Di x _).trans ((j6 l).cons x)
theorem Ko(x:Int):∀{l:List Int},l.Pairwise (·≤·)→(insI x l).Pairwise (·≤·)
 |[],_=>by simp[insI]
 |y::l,h=>by
  obtain⟨h1,h2⟩:=air.mp h
  unfold insI
  split
  ·rename_i hx
   exact air.mpr ⟨fun b hb=>by
    rcases ahm.mp hb with rfl|hb
    ·exact hx
    ·exact Int.le_trans hx (h1 b hb),h⟩
  ·refine air.mpr ⟨fun b hb=>?_,Ko x h2⟩
   rcases ahm.mp ((Di x l).mem_iff.mp hb)with rfl|hb
   ·omega
   ·exact h1 b hb
theorem rX:∀l:List Int,(fD l).Pairwise (·≤·)
 |[]=>.nil
 |x::l=>Ko x (rX l)
theorem ug:∀{l m:List Int},l.Perm m→l.Pairwise (·≤·)→m.Pairwise (·≤·)→l=m
 |[],m,p,_,_=>by have:=p.length_eq;cases m with|nil=>rfl|cons a m=>simp at this
 |x::l,[],p,_,_=>by have:=p.length_eq;simp at this
 |x::l,y::m,p,h1,h2=>by
  obtain⟨a1,a2⟩:=air.mp h1
  obtain⟨b1,b2⟩:=air.mp h2
  have e:x=y:=by
   have u:x≤y:=by
    rcases ahm.mp (p.mem_iff.mpr (ahS (a:=y) (l:=m)))with e|q
    ·omega
    ·exact a1 y q
   have v:y≤x:=by
    rcases ahm.mp (p.mem_iff.mp (ahS (a:=x) (l:=l)))with e|q
    ·omega
    ·exact b1 x q
   omega
  subst e
  rw[ug ((List.perm_cons _).mp p) a2 b2]
def Sk(X:Cx):List V→Hp→VK→Prop:=fun xs H Q=>∃a ns,xs=[.ref a]∧bw X.K H a (ns.map V.int)∧ns.length<64∧∀p,H p=none→Q (.ref p) (upd H p (.lst ((fD ns).map V.int)))
theorem Gq:∀{ns:List Int}{us:List Value},IntsAre us ns→Vals (ns.map V.int) us
 |[],_,.nil=>.nil
 |n::ns,_,.cons _ t r=>.cons ⟨t,rfl⟩ (Gq r)
theorem adL:cZ X (.builtin "sorted") (Sk X):=by
 intro pins s σ H xs us Q I rv h
 obtain⟨a,ns,rfl,sq,hn,q⟩:=h
 obtain⟨u,rfl,ru⟩:=ahV rv
 cases ru
 obtain⟨its,ri,pl,hz⟩:=I.list sq
 have hl:=ri.length
 have DH:IntsAre its ns:=intsAre_of ri
 refine sorted_ints pl.isList DH (by rw[←hl];simpa using hn) fun out zs i1 i2 i3=>?_
 have hzs:zs=fD ns:=ug (i2.trans (j6 ns).symm) i3 (rX ns)
 subst hzs
 have hf:H (s.heap.objs.size+1)=none:=I.hok.fresh (ai1 _)
 have hne:∀b o,s.heap.get? b=some o→s.heap.objs.size≠b∧s.heap.objs.size+1≠b:=fun b o e=>⟨ah0 (ahq e),ah0 (aij (ahq e))⟩
 have hsz:((s.heap.push (seqObj "list" #[] 0)).update s.heap.objs.size (Obj.mapSeq (· ++ its.toArray))).objs.size=s.heap.objs.size+1:=by rw[ajL,ahQ]
 have lK:(((s.heap.push (seqObj "list" #[] 0)).update s.heap.objs.size (Obj.mapSeq (· ++ its.toArray))).push (seqObj "list" its.toArray 0)).get? (s.heap.objs.size+1)=some (seqObj "list" its.toArray 0):=by
  rw[←hsz];exact ahB _ rfl
 have g1:=aiU lK (fun _=>#[])
 have g2:=aiU (ahp (seqObj "list" #[] 0) (ahp (seqObj "tuple" its.toArray 0) g1)) fun _=>out
 refine⟨.ref (s.heap.objs.size+1),upd H (s.heap.objs.size+1) (.lst ((fD ns).map V.int)),I.laid (t':=s.toks) (fun b o e=>?_) (ai1 _) ⟨?_,out.toList,_,Gq i1,by rw[ak4];exact g2⟩,rfl,q _ hf⟩
 ·obtain⟨n1,n2⟩:=hne b o e
  exact(aid _ _ n2).trans (ahp _ (ahp _ ((aid _ _ n2).trans (ahp _ ((aid _ _ n1).trans (ahp _ e))))))
 ·have:=(j6 ns).length_eq
  rw[ahx,this,aic];omega
def mY:List D→aa→R D:=fun xs c=>match xs with
 |[x]=>match c8 c x with
  |some l=>match gi l with
   |some ns=>if ns.length<64 then .ok (.lst ((fD ns).map D.int)) c else .bad
   |none=>.bad
  |none=>.bad
 |_=>.bad
theorem Fe:cZ X (.builtin "sorted") (rN X.K mY):=by
 intro pins s σ H vs us Q I rv h
 obtain⟨ρ,xs,c,W,rx,p⟩:=h
 unfold mY at p
 split at p
 ·obtain⟨v,r',rfl,hx,hr⟩:=rx
  cases hr
  split at p
  ·rename_i l hl
   split at p
   ·rename_i ns hn
    split at p
    ·rename_i hb
     obtain⟨a,ys,rfl,ha',rl⟩:=nt W hx hl
     rw[lD hn]at rl
     cases rl.lC
     exact adL pins s σ H _ us Q I rv ⟨a,ns,rfl,bw.of ha',hb,nh W aL.ints p⟩
    ·exact p.elim
   ·exact p.elim
  ·exact p.elim
 ·exact p.elim
def oK(i j:Int):List Int:=(List.range (j-i).toNat).map fun k:Nat=>i+(k:Int)
theorem O0{f:Nat→Int}{acc:Array Value}{n:Nat}(h:ItemsOf (fun k v=>∃t,v=.int (f k) t) acc n):Vals (((List.range n).map f).map V.int) acc.toList:=by
 have hl:acc.toList.length=n:=by rw[ahO];exact h.1
 have key:∀(us:List Value) (o:Nat),(∀(k:Nat) (u:Value),us[k]? = some u→∃t,u=.int (f (o+k)) t)→Vals (((List.range' o us.length).map f).map V.int) us:=by
  intro us
  induction us with
  |nil=>intro o _;exact .nil
  |cons u us ih =>
   intro o hu
   rw[ahu,List.range'_succ]
   obtain⟨t,e⟩:=hu 0 u rfl
   refine .cons ⟨t,e⟩ (ih (o+1) fun k v hv=>?_)
   have:=hu (k+1) v (by simpa using hv)
   rwa[show o+(k+1)=o+1+k by omega]at this
 have:=key acc.toList 0 fun k u hu=>by
  have:=h.2 k u (by rw[←aie];exact hu)
  rwa[ahM]
 rwa[hl,←List.range_eq_range']at this
def Sw(X:Cx):List V→Hp→VK→Prop:=fun xs H Q=>∃p i j,xs=[.ref p]∧H p=some (.rm i j)∧(0≤i∧i<j∧j<1000)∧∀l,H l=none→Q (.ref l) (upd H l (.lst ((oK i j).map V.int)))
theorem adQ(hc:X.calm=true:=by rfl):cZ X (.type "list") (Sw X):=by
 intro pins s σ H xs us Q I rv h
 obtain⟨p,i,j,rfl,hH,hb,q⟩:=h
 obtain⟨u,rfl,ru⟩:=ahV rv
 cases ru
 obtain⟨t,u,v,hr⟩:=I.hok p _ hH
 have hn:Builtin.Range.rangeSize i j 1=((j-i).toNat:Nat):=by
  unfold Builtin.Range.rangeSize
  rw[if_pos (by decide),if_pos hb.2.1,Int.ediv_one]
  omega
 have hsm:Builtin.Range.small i j 1=true:=small_one (by omega) (by omega) (by omega) (by omega)
 refine call_list_range (I.ok.hd hc) hr hsm hn (by omega) fun h' tk acc c' kp hg hit=>?_
 have u9:ItemsOf (fun k v=>∃t,v=Value.int ((fun k:Nat=>i+(k:Int)) k) t) acc (j-i).toNat:=⟨hit.1,fun k v hv=>by
  have:=hit.2 k v hv
  simpa using this⟩
 refine⟨.ref s.heap.objs.size,upd H s.heap.objs.size (.lst ((oK i j).map V.int)),I.laid (t':=tk) kp (aho _) ⟨?_,acc.toList,c',O0 u9,by rw[ak4];exact hg⟩,rfl,q _ (I.hok.fresh (aho _))⟩
 simp only[oK,ahx,ajE]
 rw[aic];omega
end
end L2
namespace L2
open PySem PySem.Spec PyProof.Rows PySem.SeqAt
open AutoSeq1 (wpAny_loadPart')
section
variable {X:Cx}
theorem abG{prog:Program}{w:World}{A:Around}{E:Value→Shared→Prop}{s:Shared}{t:Addr}{us:List Value}{Q:List Value→Shared→Prop}(ht:IsTup s.heap t us.toArray) (hz:us.length≤sizeLine)
  (q:Q us {s with heap:=(s.heap.push (seqObj "list" #[] 0)).update s.heap.objs.size (Obj.mapSeq (· ++ us.toArray))}):wpAny (model prog w) A (collect (.ref t)) Q E s:=by
 obtain⟨o,h1,h2,n,h3⟩:=ht
 have k1:(s.heap.push (seqObj "list" #[] 0)).get? t=some o:=ahp _ h1
 have Bv:(s.heap.push (seqObj "list" #[] 0)).get? s.heap.objs.size=some (seqObj "list" #[] 0):=ahB _ rfl
 unfold collect
 refine ahk (wpAny_runValue (ajp entry_proto_collect' ?_))
 show wpAny _ _ (do again (.builtin "list.__iadd__" ⟨[←newList [],.ref t],[]⟩)) _ _ s
 refine ahk (aka (ahl ⟨Code.quiet_builtin _ (by decide +kernel),ajp entry_list_iadd' ?_⟩))
 show wpAny _ _ (Builtin.List.listExtendWith (.ref s.heap.objs.size) (.ref t) (.ref s.heap.objs.size)) _ _ {s with heap:=s.heap.push (seqObj "list" #[] 0)}
 unfold Builtin.List.listExtendWith
 refine ahk (wpAny_typeOf (T:="tuple") ⟨o,k1,h2⟩ ?_)
 have tt:(Value.type "tuple"==Value.type "tuple")=true:=rfl
 rw[if_pos (by rw[tt];simp)]
 refine ahk (listItems_at k1 h3 (ahk (listItems_at Bv rfl ?_)))
 rw[if_neg (by simp)]
 refine ahk (aj9 Bv rfl ?_ (ahY _) (by show(#[]++us.toArray).size≤sizeLine+1;rw[Array.size_append,aht];simp only[aht,ahH];omega))
 refine ahl ?_
 show wpAny (model prog w) A (load s.heap.objs.size >>= _) Q E _
 refine ahk (wpAny_load (aiU Bv _) ?_)
 show wpAny _ _ (pure ((#[]:Array Value)++us.toArray).toList) Q E _
 have eu:((#[]:Array Value)++us.toArray).toList=us:=by simp
 rw[eu]
 exact ahl q
theorem Ql{prog:Program}{w:World}{A:Around}{E:Value→Shared→Prop}{s:Shared}{l:Addr}{vs:List Value}{ns:List Int}{Q:Value→Shared→Prop}(hl:IsTup s.heap l vs.toArray) (hI:IntsAre vs ns) (h64:vs.length<64)
  (h:∀(out:Array Value) (ns':List Int),IntsAre out.toList ns'→ns'.Perm ns→ns'.Pairwise (·≤·)→Q (.ref (s.heap.objs.size+1)) {s with heap:=sortedAll s.heap vs out}) :
  wpAny (model prog w) A (call (.builtin "sorted") [.ref l]) Q E s:=by
 have hz:vs.length≤sizeLine:=by rw[aic];omega
 have e1:((s.heap.push (seqObj "list" #[] 0)).update s.heap.objs.size (Obj.mapSeq (· ++ vs.toArray))).objs.size=s.heap.objs.size+1:=by
  rw[ajL,size_push']
 have e2:(((s.heap.push (seqObj "list" #[] 0)).update s.heap.objs.size (Obj.mapSeq (· ++ vs.toArray))).push (seqObj "list" vs.toArray 0)).get? (s.heap.objs.size+1)=some (seqObj "list" vs.toArray 0):=by
  rw[←e1];exact ahB _ rfl
 refine alS kind_sorted plain_sorted entry_sorted (args_sorted1 _) ?_
 unfold Builtin.«sorted»
 refine ahk (m:=checkCount "sorted" 1 1 _) (ahl (ahk (abG hl hz (ahk (aka ?_)))))
 show wpAny _ _ _ _ _ {s with heap:=((s.heap.push (seqObj "list" #[] 0)).update s.heap.objs.size (Obj.mapSeq (· ++ vs.toArray))).push (seqObj "list" vs.toArray 0)}
 rw[e1]
 refine ahk (aif (ah5 slot_list_sort ⟨_,e2,rfl⟩ entry_list_sort (list_sort_tree e2 hI h64 fun out ns' a1 a2 a3=>⟨_,rfl,ahl ⟨_,rfl,h out ns' a1 a2 a3⟩⟩) (args_list_sort _)))
def Sj(X:Cx):List V→Hp→VK→Prop:=fun xs H Q=>∃a ns,xs=[.ref a]∧bX X.K H a (ns.map V.int)∧ns.length<64∧∀p,H p=none→Q (.ref p) (upd H p (.lst ((fD ns).map V.int)))
theorem adK:cZ X (.builtin "sorted") (Sj X):=by
 intro pins s σ H xs us Q I rv h
 obtain⟨a,ns,rfl,sq,hn,q⟩:=h
 obtain⟨u,rfl,ru⟩:=ahV rv
 cases ru
 obtain⟨its,ri,pl,hz⟩:=I.tuple sq
 have hl:=ri.length
 have DH:IntsAre its ns:=intsAre_of ri
 refine Ql pl DH (by rw[←hl];simpa using hn) fun out zs i1 i2 i3=>?_
 have hzs:zs=fD ns:=ug (i2.trans (j6 ns).symm) i3 (rX ns)
 subst hzs
 have hf:H (s.heap.objs.size+1)=none:=I.hok.fresh (ai1 _)
 have hsz:((s.heap.push (seqObj "list" #[] 0)).update s.heap.objs.size (Obj.mapSeq (· ++ its.toArray))).objs.size=s.heap.objs.size+1:=by rw[ajL,ahQ]
 have lK:(((s.heap.push (seqObj "list" #[] 0)).update s.heap.objs.size (Obj.mapSeq (· ++ its.toArray))).push (seqObj "list" its.toArray 0)).get? (s.heap.objs.size+1)=some (seqObj "list" its.toArray 0):=by
  rw[←hsz];exact ahB _ rfl
 have g1:=aiU lK (fun _=>#[])
 have g2:=aiU (ahp (seqObj "list" #[] 0) (ahp (seqObj "tuple" its.toArray 0) g1)) fun _=>out
 refine⟨.ref (s.heap.objs.size+1),upd H (s.heap.objs.size+1) (.lst ((fD ns).map V.int)),I.laid (t':=s.toks) (fun b o e=>?_) (ai1 _) ⟨?_,out.toList,_,Gq i1,by rw[ak4];exact g2⟩,rfl,q _ hf⟩
 ·have n1:s.heap.objs.size≠b:=ah0 (ahq e)
  have n2:s.heap.objs.size+1≠b:=ah0 (aij (ahq e))
  exact(aid _ _ n2).trans (ahp _ (ahp _ ((aid _ _ n2).trans (ahp _ ((aid _ _ n1).trans (ahp _ e))))))
 ·have:=(j6 ns).length_eq
  rw[ahx,this,aic];omega
def mX:List D→aa→R D:=fun xs c=>match xs with
 |[.tup l]=>match gi l with
  |some ns=>if ns.length<64 then .ok (.lst ((fD ns).map D.int)) c else .bad
  |none=>.bad
 |_=>.bad
theorem ad1:cZ X (.builtin "sorted") (rN X.K mX):=by
 intro pins s σ H vs us Q I rv h
 obtain⟨ρ,xs,c,W,rx,p⟩:=h
 unfold mX at p
 split at p
 ·obtain⟨v,r',rfl,hx,hr⟩:=rx
  cases hr
  split at p
  ·rename_i ns hn
   split at p
   ·rename_i hb
    obtain⟨a,ys,rfl,ha',rl⟩:=hx
    rw[lD hn]at rl
    cases rl.lC
    exact adK pins s σ H _ us Q I rv ⟨a,ns,rfl,bX.of ha',hb,nh W aL.ints p⟩
   ·exact p.elim
  ·exact p.elim
 ·exact p.elim
def So:List V→Hp→VK→Prop:=fun xs H Q=>∃j,xs=[.int j]∧∀p,H p=none→Q (.ref p) (upd H p (.rm 0 j))
theorem adP:cZ X (.type "range") So:=by
 intro pins s σ H xs us Q I rv h
 obtain⟨j,rfl,q⟩:=h
 obtain⟨u,rfl,ru⟩:=ahV rv
 obtain⟨t,rfl⟩:=ru
 refine call_range_1 ⟨.ref s.heap.objs.size,upd H s.heap.objs.size (.rm 0 j),I.laid (t':=s.toks+1+1) (fun b o e=>ahp _ e) (aho _) ?_,rfl,q _ (I.hok.fresh (aho _))⟩
 exact⟨_,_,_,ahB _ rfl⟩
def pQ(a:aj):af:=fun e c=>(a e c).bind fun xs c=>match xs with
 |[.int j]=>if 0<j∧j<1000 then .ok (.lst ((oK 0 j).map D.int)) c else .bad
 |_=>.bad
theorem UR{a:Expr}{da:aj}{p1 p2 q1 q2:Pos}(ha:g8 X [a] da) (hm:X.mg "list"=none) (hm2:X.mg "range"=none) (hg:Gl X "list":=by rfl) (DA:Gl X "range":=by rfl) (hc:X.calm=true:=by rfl)
  (he:starEach [a] X.env=(false,eval a X.env)::starEach [] X.env:=by exact eV rfl) (hb:(backTo q2 (starEach [] X.env)).any (·.1)=false:=by exact iE rfl):bx X (.Call (.Name "list" p1) [.Call (.Name "range" p2) [a] [] q2] [] q1) (pQ da):=by
 have hr:PE X (.Call (.Name "range" p2) [a] [] q2) _:=uF adP DA hm2 (by decide +kernel) ha (by decide) (by decide) he hb
 refine(uF (adQ hc) hg hm (by decide +kernel) (jr hr jX (eV rfl)) (by decide) (by decide) (by exact eV rfl) (by exact iE rfl)).imp fun σ H Q h=>?_
 obtain⟨ρ,e,c,W,V,p⟩:=h
 refine⟨ρ,e,c,W,V,post.bind p fun xs c1 aO H1 vs ex W1 X1 r1 p1=>?_⟩
 clear ex
 split at p1
 ·rename_i j
  obtain⟨v,r,rfl,hx,hr2⟩:=r1
  cases hr2;cases hx
  split at p1
  ·rename_i hb
   refine⟨j,rfl,fun p hp=>⟨p,0,j,rfl,f7,⟨Int.le_refl _,hb.1,hb.2⟩,fun l hl=>?_⟩⟩
   exact nh (W1.fresh hp) aL.ints (post.ext p1 (Ext.fresh W1 hp)) l hl
  ·exact p1.elim
 ·exact p1.elim
end
section
variable (o a:af) (b:aj) (e:Ev) (c:aa)
@[simp] theorem afJ:pQ b e c=(b e c).bind fun xs c=>match xs with
 |[.int j]=>if 0<j∧j<1000 then .ok (.lst ((oK 0 j).map D.int)) c else .bad
 |_=>.bad:=rfl
end
end L2
namespace L2
open PySem PySem.Spec PyProof.Rows
def afl(H:Hp) (ts:List Addr):Prop:=∀b,H b=none∨(∃o xs,H b=some (.fF o (.lst xs)))∨(b∈ts∧H b=some (.fu #[]))
theorem Zn{P:Program}{w:World}{K:PySem.W.Frag}{mg mb:Str→Option Value}{k:Nat}{fa a:Addr}{fd:FuncData}{x:Str}{sp:Sp}{s₁:Shared}{vs:List Value}{ns:List Int}{ts:List (Addr×Addr)}
  (KX:K.In s₁.heap) (hns:s₁.heap.Ns mainGlobals mg) (hb:s₁.heap.Ns builtinsNs mb) (hbb:∀x:Str,x≠"__name__"→mb x=bootBuiltins x) (hlim:s₁.heap.NoLimit)
  (hbm:∃bm ob,mg "__builtins__"=some (.ref bm)∧bm≠builtinsNs∧s₁.heap.get? bm=some ob∧ob.cls=.type "module"∧ob.dict=some builtinsNs∧ob.data=.plain) (hg:s₁.gens=#[])
  (ha:s₁.heap.get? a=some {cls:=.type "list",data:=.seq vs.toArray}) (hi:IntsAre vs ns) (hl:ns.length≤sizeLine) (hr:e8 k callerA)
  (DF:∀q∈ts,PySem.W.codeHdIn K q.1 q.2=true∧s₁.heap.get? q.2=some (PySem.W.tabObj #[])) (hKt:PySem.W.noTabs K=true)
  (F:∀base:Heap,K.In base→base.Ns mainGlobals mg→bY P w K mg base bU k fa fd [x] sp) (hbind:∀(s:Shared) (u:Value),BindsTo s fd ⟨[u],[]⟩ [(x,u)])
  (rY:∀H:Hp,(∀q∈ts,H q.2=some (.fu #[]))→bw K H a (ns.map V.int)→sp [.ref a] H (fun v _=>v=.bl true) fun _ _ _=>False) :
  codeAny (model P w) callerA (.call (.ref fa) ⟨[.ref a],[]⟩) (fun r s'=>r=.ok (.ret (.bool true))∧OldK s₁.heap s'.heap∧s'.os=s₁.os∧AllBare s'.gens) s₁:=by
 have rv:=GI hi
 have Ze:=hi.length
 have nC:∀b,b∈ts.map (·.2)→s₁.heap.get? b=some (PySem.W.tabObj #[]):=fun b h=>by
  obtain⟨q,hq,rfl⟩:=ahs.mp h
  exact(DF q hq).2
 have nat:a∉ts.map (·.2):=fun h=>by have:=nC a h;rw[ha]at this;cases this
 have core:∀H:Hp,afl H (ts.map (·.2))→(∀q∈ts,H q.2=some (.fu #[]))→bw K H a (ns.map V.int)→d7 P w H s₁.heap→(∀b,H b≠none→b=a∨b∈ts.map (·.2))→(H a≠none→K.lookup a=none) →
   codeAny (model P w) callerA (.call (.ref fa) ⟨[.ref a],[]⟩) (fun r s'=>r=.ok (.ret (.bool true))∧OldK s₁.heap s'.heap∧s'.os=s₁.os∧AllBare s'.gens) s₁:=by
  intro H hO hT hS hok hA hK
  have F7:∀{b:Addr}{o:Obj},s₁.heap.get? b=some o→H b=none→(lM s₁.heap H).get? b=some o:=fun e n=>aa6 e n
  have XH:∀{b:Addr}{o:Obj},s₁.heap.get? b=some o→o.cls≠.type "list"→o.cls≠.none→H b=none:=fun{b o} e d1 d2=>by
   cases q:H b with
   |none=>rfl
   |some u =>
    rcases hA b (by rw[q];simp)with e'|e'
    ·subst e'
     rw[ha]at e;cases e
     exact absurd rfl d1
    ·rw[nC b e']at e;cases e
     exact absurd rfl d2
  have uM:∀{b:Addr}{o:Obj}{es:Array DictEntry}{ep:Nat},s₁.heap.get? b=some o→o.data=.dict es ep→H b=none:=fun{b o es ep} e d=>by
   cases q:H b with
   |none=>rfl
   |some u =>
    rcases hA b (by rw[q];simp)with e'|e'
    ·subst e'
     rw[ha]at e;cases e
     have d':Data.seq vs.toArray _=Data.dict es ep:=d
     cases d'
    ·rw[nC b e']at e;cases e
     have d':Data.fields #[]=Data.dict es ep:=d
     cases d'
  have xN:∀{b:Addr}{m:Str→Option Value},s₁.heap.Ns b m→(lM s₁.heap H).Ns b m:=fun{b m} ⟨o,es,ep,e,d,r⟩=>⟨o,es,ep,F7 e (uM e d),d,r⟩
  have K5:K.In (lM s₁.heap H):=fun b o e=>F7 (KX b o e) (by
   cases q:H b with
   |none=>rfl
   |some u =>
    rcases hA b (by rw[q];simp)with e'|e'
    ·subst e'
     rw[hK (by rw[q];simp)]at e;cases e
    ·have h1:=KX b o e
     rw[nC b e']at h1;cases h1
     have h2:=aiL.mp hKt (b,_) (PySem.W.mem_of_lookupK e)
     exact absurd (show false=true from h2) ahG)
  have hM:Mod K mg (lM s₁.heap H):=⟨K5,xN hns,⟨mb,xN hb,hbb⟩,let⟨mc,h1,h2⟩:=hlim;⟨mc,xN h1,h2⟩,let⟨bm,ob,b1,b2,b3,b4,b5⟩:=hbm;⟨bm,ob,b1,b2,F7 b3 (XH b3 (by rw[b4];simp) (by rw[b4];simp)),b4,b5⟩⟩
  have e0:vY P w K mg (lM s₁.heap H) callerA [] s₁ H:=⟨rfl,hM,fun b o e=>VO e,ai2 (aa5 _ _),trivial,fun b hb=>absurd (show b∈([]:List Addr)from hb) (by simp),hok,.of_eq hg⟩
  refine ajv ((F _ K5 (xN hns)).run callerA [] s₁ H ⟨[.ref a],[]⟩ [.ref a] [.ref a] _ _ hr e0 (hbind s₁ (.ref a)) (.cons rfl .nil) (rY H hT hS)) fun r s' h=>?_
  cases r with
  |error e=>exact False.elim h
  |ok fl =>
   cases fl with
   |next=>exact False.elim h
   |brk=>exact False.elim h
   |cont=>exact False.elim h
   |ret u =>
    obtain⟨v,H',os,bare,un,KN,r',q⟩:=h
    have q':v=.bl true:=q
    subst q'
    obtain rfl:u=Value.bool true:=r'
    have main:∀b o,s₁.heap.get? b=some o→s'.heap.get? b=some o∨(b∈ts.map (·.2)∧o=PySem.W.tabObj #[]∧∃ps,s'.heap.get? b=some (PySem.W.tabObj ps)):=fun b o e=>by
     rcases hO b with z|⟨ob,xs,z⟩|⟨hm,z⟩
     ·exact .inl (un.keep b o e z (by intro z;exact absurd (show b∈([]:List Addr)from z) (by simp)) (by simp))
     ·have z2:=un.j9 b ob _ z
      obtain⟨e1,_⟩:=hok b _ z
      obtain⟨e2,_⟩:=KN b _ z2
      rw[e]at e1;cases e1
      exact .inl e2
     ·obtain⟨more,z2⟩:=un.jN b _ z
      have e2:s'.heap.get? b=some (PySem.W.tabObj (#[]++more)):=KN b _ z2
      have e1:=nC b hm
      rw[e]at e1;cases e1
      exact .inr ⟨hm,rfl,_,e2⟩
    refine⟨rfl,⟨fun b o e=>?_,fun b o e=>?_⟩,os,bare⟩
    ·rcases main b o e with z|⟨hm,rfl,ps,z⟩
     ·exact .inl z
     ·obtain⟨q,hq,rfl⟩:=ahs.mp hm
      have hC:=PySem.W.codeHd_of_K KX (DF q hq).1
      exact .inr (.inl ⟨(hC.tab (DF q hq).2).isCodeTable,rfl,#[],ps,rfl,by rw[Array.empty_append];exact z⟩)
    ·rcases main b o e with z|⟨_,_,ps,z⟩
     ·exact⟨o,z⟩
     ·exact⟨_,z⟩
 have afW:∀(H:Hp) b,H b=some (.fu #[])→b∈ts.map (·.2)→eS P w H s₁.heap b (.fu #[]):=fun H b _ h=>nC b h
 cases hk:K.lookup a with
 |some o =>
  have e:=KX a o hk
  rw[ha]at e
  cases e
  let H:Hp:=fun b=>if b∈ts.map (·.2)then some (.fu #[])else none
  refine core H (fun b=>?_) (fun q hq=>if_pos (alX hq)) (.inr ⟨_,vs.toArray,_,hk,rfl,rfl,rfl,by rw[aht,Ze];exact hl,by simpa using rv⟩) (fun b u z=>?_) (fun b z=>?_) fun z=>absurd (if_neg nat) z
  ·by_cases hb:b∈ts.map (·.2)
   ·exact .inr (.inr ⟨hb,if_pos hb⟩)
   ·exact .inl (if_neg hb)
  ·by_cases hb:b∈ts.map (·.2)
   ·have z':=(if_pos hb).symm.trans z
    cases z'
    exact nC b hb
   ·have z':=(if_neg hb).symm.trans z
    cases z'
  ·by_cases hb:b∈ts.map (·.2)
   ·exact .inr hb
   ·exact absurd (if_neg hb) z
 |none =>
  let H:Hp:=fun b=>if b∈ts.map (·.2)then some (.fu #[])else if b=a then some (.fF {cls:=.type "list",data:=.seq vs.toArray} (.lst (ns.map V.int)))else none
  have Ha:H a=some (.fF {cls:=.type "list",data:=.seq vs.toArray} (.lst (ns.map V.int))):=(if_neg nat).trans (if_pos rfl)
  refine core H (fun b=>?_) (fun q hq=>if_pos (alX hq)) (.inl (.inr ⟨_,Ha⟩)) (fun b u z=>?_) (fun b z=>?_) fun _=>hk
  ·by_cases hb:b∈ts.map (·.2)
   ·exact .inr (.inr ⟨hb,if_pos hb⟩)
   ·by_cases hb2:b=a
    ·exact .inr (.inl ⟨_,_,(if_neg hb).trans (if_pos hb2)⟩)
    ·exact .inl ((if_neg hb).trans (if_neg hb2))
  ·by_cases hb:b∈ts.map (·.2)
   ·have z':=(if_pos hb).symm.trans z
    cases z'
    exact nC b hb
   ·by_cases hb2:b=a
    ·have z':=((if_neg hb).trans (if_pos hb2)).symm.trans z
     cases z'
     subst hb2
     exact⟨ha,by rw[ahx];exact hl,vs,_,rv,ha⟩
    ·have z':=((if_neg hb).trans (if_neg hb2)).symm.trans z
     cases z'
  ·by_cases hb:b∈ts.map (·.2)
   ·exact .inr hb
   ·by_cases hb2:b=a
    ·exact .inl hb2
    ·exact absurd ((if_neg hb).trans (if_neg hb2)) z
def Az(K:PySem.W.Frag) (ts:List (Addr×Addr)):Bool:=J1.all fun x=>match PySem.W.tabIn K x with
 |some q=>decide (q∈ts)
 |none=>true
theorem Pp{K:PySem.W.Frag}{H:Hp}{ts:List (Addr×Addr)}(h:Az K ts=true) (hT:∀q∈ts,H q.2=some (.fu #[])):vR K H:=fun x hx c P e=>by
 have:=aiL.mp h x hx
 rw[e]at this
 exact⟨#[],hT (c,P) (of_decide_eq_true this),trivial,fun pos cv z=>by cases z⟩
theorem Ow{l:PySem.W.OpenLaw}{n k:Nat}{q:Program}{loose:List Str}{XP:(Str→Option Value)→Heap→Prop}{YP:World→Heap→Prop}{d:DefRec}{K:Params→PySem.W.Frag}{x:Str}{m:List D→aa→R D}{ts:List (Addr×Addr)}
  (hn:l.most=some n) (hn2:n≤sizeLine) (hdf:d.params.defaults=[]) (hr:e8 k callerA)
  (hY:∀(w:World) (h:Heap),YP w h→(K w.params).In h∧∀q∈ts,h.get? q.2=some (PySem.W.tabObj #[]))
  (hK:∀p,(ts.all fun q=>PySem.W.codeHdIn (K p) q.1 q.2)=true∧PySem.W.noTabs (K p)=true∧Az (K p) ts=true)
  (F:∀(w:World) (mg:Str→Option Value) (fa:Addr) (h:Heap),(K w.params).In h→h.Ns mainGlobals mg→mg d.name=some (.ref fa) →
   ∃fd:FuncData,(∀(s:Shared) (u:Value),BindsTo s fd ⟨[u],[]⟩ [(x,u)]) ∧
    ∀base:Heap,(K w.params).In base→base.Ns mainGlobals mg→bY l.prog w (K w.params) mg base bU k fa fd [x] (cC (K w.params) 1 m))
  (hm:∀ns:List Int,ns.length≤n→∃c,m [.ck ns] []=.ok (.bl true) c) :
  PySem.W.WalkO q loose XP YP l.row.toRowW d [] (fun f vs=>PySem.call f vs):=by
 refine NV.aex hn hdf fun w s₀ s₁ mg mb fa o pm cd doc a vs ns G Y ho hd hcd hmg hobj hints hlen hg=>?_
 obtain⟨KX,hT⟩:=hY w _ Y
 obtain⟨fd,hb,hF⟩:=F w mg fa _ KX G.T.g hmg
 obtain⟨k1,k2,k3⟩:=hK w.params
 refine Zn (ts:=ts) KX G.T.g G.T.b G.T.builtins G.T.nolimit G.T.bmain hg hobj hints (ahN hlen hn2) hr (fun q hq=>⟨aiL.mp k1 q hq,hT q hq⟩) k2 hF hb fun H h1 h2=>?_
 obtain⟨c,hc⟩:=hm ns hlen
 refine⟨[],[.ck ns],[],⟨.nil,rfl,fun k a cl e=>(by cases e),Pp k3 h1⟩,⟨.ref a,[],rfl,⟨a,rfl,?_⟩,rfl⟩,rfl,?_⟩
 ·rcases h2 with hS|hS
  ·exact .inl ⟨hS,by simp⟩
  ·exact .inr (.inr hS)
 ·rw[hc]
  exact fun ρ' H' b _ _ r=>r
end L2
namespace L2
open PySem PySem.Spec PyProof.Rows
structure GdN (L:Nat) (l:List (Nat×Int)):Prop where
 nd:(l.map (·.1)).Nodup
 lt:∀p∈l,p.1<L
def x8:HO→Bool
 |.dK _=>true
 |.fF _ (.dK _)=>true
 |_=>false
section
variable {K:PySem.W.Frag}{ρ:List Addr}{H H':Hp}{c:aa}
theorem Qj(k:∀a o,H a=some o→x8 o=false→H' a=some o) {a:Addr}{xs:List V}(h:p8 K ρ H a xs):p8 K ρ H' a xs:=by
 rcases h with⟨h,n⟩|h
 ·rcases h with h|⟨o,h⟩
  ·exact .inl ⟨.inl (k a _ h rfl),n⟩
  ·exact .inl ⟨.inr ⟨o,k a _ h rfl⟩,n⟩
 ·exact .inr h
mutual
theorem Rel.nd(k:∀a o,H a=some o→x8 o=false→H' a=some o):∀(d:D) (v:V),Rel K ρ H d v→Rel K ρ H' d v
 |.aG,v,h=>h
 |.bl b,v,h=>h
 |.int i,v,h=>h
 |.str y,v,h=>h
 |.ty n,v,h=>h
 |.tup l,v,h=>by
  obtain⟨a,xs,e,s,r⟩:=h
  exact⟨a,xs,e,k a _ s rfl,aL.nd k l xs r⟩
 |.lst l,v,h=>by
  obtain⟨a,xs,e,s,r⟩:=h
  exact⟨a,xs,e,⟨k a _ s.1 rfl,s.2⟩,aL.nd k l xs r⟩
 |.ref _,v,h=>h
 |.ck l,v,h=>by
  obtain⟨a,e,s⟩:=h
  exact⟨a,e,Qj k s⟩
 |.fn a n,v,h=>h
 |.jf,v,h=>by
  obtain⟨a,e,q⟩:=h
  exact⟨a,e,k a _ q rfl⟩
 |.dct ks,v,h=>by
  obtain⟨a,kvs,e,q,z⟩:=h
  exact⟨a,kvs,e,k a _ q rfl,z⟩
 |.gm ks,v,h=>by
  obtain⟨a,as,e,q,z⟩:=h
  exact⟨a,as,e,k a _ q rfl,z.mono fun b xs q=>k b _ q rfl⟩
 |.exc y,v,h=>by
  obtain⟨a,C,e,n,q⟩:=h
  exact⟨a,C,e,n,k a _ q rfl⟩
 |.lam _ y ns l,v,h=>by
  obtain⟨a,o,q,c,cl,xs,e,h1,h2,h3,h4,h5,h6⟩:=h
  exact⟨a,o,q,c,cl,xs,e,k a _ h1 rfl,h2,k c _ h3 rfl,h4,h5.mono (fun b o z=>k b _ z rfl),aL.nd k l xs h6⟩
theorem aL.nd(k:∀a o,H a=some o→x8 o=false→H' a=some o):∀(l:List D) (xs:List V),aL K ρ H l xs→aL K ρ H' l xs
 |[],xs,h=>h
 |d::l,xs,h=>by
  obtain⟨y,r,e,h1,h2⟩:=h
  exact⟨y,r,e,Rel.nd k d y h1,aL.nd k l r h2⟩
end
theorem Wd.XW(W:Wd K ρ H c) (k:∀a o,H a=some o→x8 o=false→H' a=some o):Wd K ρ H' c :=
 ⟨W.nd,W.len,fun i a cl e1 e2=>by
  have q:=W.fO i a cl e1 e2
  cases cl with
  |lst l =>
   obtain⟨nr,xs,h,r⟩:=q
   exact⟨nr,xs,k a _ h rfl,aL.nd k l xs r⟩,W.tab.mono (fun P ps e=>k P _ e rfl) fun c φ e=>k c _ e rfl⟩
end
end L2
namespace L2
open PySem PySem.Spec PyProof.Rows
theorem Ti{α β:Type}{K:PySem.W.Frag}{Rl:List Addr→Hp→α→β→Prop}{r:R α}{ρ aO:List Addr}{H H1:Hp}{Q:β→Hp→Prop}(x:Ext ρ H aO H1) (p:post K Rl r ρ H Q):post K Rl r aO H1 Q:=by
 cases r with
 |ok a c=>exact fun ρ' H' b W X R=>p ρ' H' b W (x.trans X) R
 |bad=>exact p
theorem Q9:10000<sizeLine:=by decide
end L2
namespace L2
open PySem PySem.Spec PyProof.Rows
def fL:Int→List Int→Int
 |a,[]=>a
 |a,b::l=>fL (if b>a then b else a) l
theorem MU(l:List Int) (a:Int):∀k,k<(a::l).length→(a::l).getD (argBest (fun i j=>decide ((a::l).getD i 0>(a::l).getD j 0)) k) 0=fL a (l.take k)
 |0,_=>rfl
 |k+1,h=>by
  have ih:=MU l a k (ak3 h)
  have hk:k<l.length:=by simpa using h
  have step:∀(l:List Int) (k:Nat) (a:Int) (hk:k<l.length),fL a (l.take (k+1))=if l[k]>fL a (l.take k)then l[k]else fL a (l.take k):=by
   intro l
   induction l with
   |nil=>intro k a hk;cases hk
   |cons b l ihl =>
    intro k a hk
    cases k with
    |zero=>simp[fL]
    |succ k =>
     have:=ihl k (if b>a then b else a) (by simpa using hk)
     simpa[fL]using this
  rw[step l k a hk]
  unfold argBest
  rw[ih]
  have e:(a::l).getD (k+1) 0=l[k]:=by simp[List.getD,hk]
  rw[e]
  by_cases hc:l[k]>fL a (l.take k)
  ·rw[if_pos (by simpa using hc),if_pos hc,e]
  ·rw[if_neg (by simpa using hc),if_neg hc,ih]
def uR:List D→aa→R D:=fun xs c=>match xs with
 |[.lst l]=>match gi l with
  |some (a::r)=>.ok (.int (fL a r)) c
  |_=>.bad
 |_=>.bad
section
variable {X:Cx}
theorem ad3(hc:X.calm=true:=by rfl):cZ X (.builtin "max") (rN X.K uR):=by
 intro pins s σ H vs us Q I rv h
 obtain⟨ρ,xs,c,W,rx,p⟩:=h
 unfold uR at p
 split at p
 ·split at p
  ·rename_i a r hb
   obtain⟨v,r',rfl,⟨b,ys,rfl,s1,r1⟩,hr⟩:=rx
   cases hr
   rw[lD hb]at r1
   cases r1.lC
   obtain⟨u,rfl,ru⟩:=ahV rv
   cases ru
   obtain⟨its,ri,pt,hz⟩:=I.list (bw.of s1.1)
   have pI:b≠s.heap.objs.size:=by obtain⟨o,e,_⟩:=pt.isList;exact ahw (ahq e)
   have hl:=ri.length
   have val:∀i v,its.toArray[i]? = some v→∃t,v=Value.int ((a::r).getD i 0) t:=fun i v hv=>by
    obtain⟨x,hx,rx⟩:=qj ri hv
    rw[ahP]at hx
    cases q:(a::r)[i]? with
    |none=>rw[q]at hx;cases hx
    |some z =>
     rw[q]at hx
     cases hx
     obtain⟨t,rfl⟩:=rx
     exact⟨t,by rw[ahr,q];rfl⟩
   refine call_max_walk (aje pt.isList ⟨s.heap.objs.size,_,_,its.toArray.size,_,_,_,rfl,ajB (A:=X.A.in1) (I.ok.hd hc) s.heap.objs.size b pI its.toArray,⟨⟨_,ahB _ rfl,rfl,rfl⟩,?_⟩,fun d hd=>?_,?_,CmpOf.ints_gt (fun i=>(a::r).getD i 0) val,fun v h' tk hP kp=>?_⟩)
   ·obtain⟨o,e,q⟩:=pt.isList;exact⟨o,ahp _ e,q⟩
   ·rw[ahQ]
    rcases ahm.mp hd with rfl|hd
    ·exact aiy _
    ·rw[aiz]at hd
     subst hd
     obtain⟨o,e,_⟩:=pt.isList
     exact aij (ahq e)
   ·rw[aht,←hl];simp
   ·have I1:Inv X pins σ H {s with heap:=h',toks:=tk}:=zC I kp
    obtain⟨t,rfl⟩:=val _ _ hP
    have hs:its.toArray.size-1=r.length:=by rw[aht,←hl];simp
    rw[hs,MU r a r.length (by simp),aiD]
    exact⟨.int (fL a r),H,I1,⟨t,rfl⟩,p.here W rfl⟩
  ·exact p.elim
 ·exact p.elim
end
end L2
namespace L2
open PySem PySem.Spec PyProof.Rows
def AJ(P:Program) (w:World) (a:Addr) (n:Nat):Heap→Prop:=fun h=>∃o S,h.get? a=some o∧o.SetObjOf (intKind P w) S n
def kh(ns:List Int):Nat:=(firstMet (fun i=>ns.getD i 0) ns.length).length
theorem GJ:∀{ns:List Int}{us:List Value},Vals (ns.map V.int) us→IntsAre us ns
 |[],_,.nil=>.nil
 |n::ns,_,.cons ⟨t,e⟩ r=>by subst e;exact .cons _ _ (GJ r)
section
variable {X:Cx}
def Sn(X:Cx):List V→Hp→VK→Prop:=fun xs H Q=>∃a ns,xs=[.ref a]∧bw X.K H a (ns.map V.int)∧ns.length+1<scanBound∧∀p,H p=none→Q (.ref p) (upd H p (.ext (AJ X.prog X.w p (kh ns))))
theorem adO(hc:X.calm=true:=by rfl):cZ X (.type "set") (Sn X):=by
 intro pins s σ H xs us Q I rv h
 obtain⟨a,ns,rfl,sq,hb,q⟩:=h
 obtain⟨u,rfl,ru⟩:=ahV rv
 cases ru
 obtain⟨its,ri,pl,hz⟩:=I.list sq
 have hl:its.length=ns.length:=by have:=ri.length;simpa using this.symm
 refine call_set_list (I.ok.hd hc) pl.isList (GJ (by simpa using ri)) (by simpa[hl]using hb) fun h' tk hS kp=>?_
 have hf:H s.heap.objs.size=none:=I.hok.fresh (aho _)
 have hn:(firstMet (fun i=>ns.getD i 0) its.toArray.size).length=kh ns:=by unfold kh;rw[aht,hl]
 obtain⟨o,ho,hso⟩:=hS.objOf
 rw[hn]at hso
 refine⟨.ref s.heap.objs.size,upd H s.heap.objs.size (.ext (AJ X.prog X.w s.heap.objs.size (kh ns))),I.laid (t':=tk) (fun b u e=>kp b u (ahq e) e) (aho _) ?_,rfl,q _ hf⟩
 exact⟨⟨o,_,ho,hso⟩,⟨o,ho⟩,fun h1 h2 ⟨o,S,ho,hs⟩ k=>⟨o,S,k o ho,hs⟩⟩
def Sv(X:Cx):List V→Hp→VK→Prop:=fun xs H Q=>∃a n,xs=[.ref a]∧H a=some (.ext (AJ X.prog X.w a n))∧(n:Int)<2^63∧Q (.int (n:Nat)) H
theorem adR:cZ X (.builtin "len") (Sv X):=by
 intro pins s σ H xs us Q I rv h
 obtain⟨a,n,rfl,hH,hn,q⟩:=h
 obtain⟨u,rfl,ru⟩:=ahV rv
 cases ru
 obtain⟨⟨o,S,ho,hso⟩,_,_⟩:=I.hok a _ hH
 obtain⟨hex,es,ep,t,hd,_,_,he,hf⟩:=hso
 subst he
 exact call_len_set ho hex hd hf hn ⟨.int _,H,I.tok _,⟨_,rfl⟩,q⟩
def kj(a:aj):af:=fun e c=>(a e c).bind fun xs c=>match xs with
 |[x]=>match c8 c x with
  |some l=>match gi l with
   |some ns=>if ns.length<1000 then .ok (.int (kh ns)) c else .bad
   |none=>.bad
  |none=>.bad
 |_=>.bad
theorem acA(ns:List Int):kh ns≤ns.length:=firstMet_length_le _ _
theorem Io{e:Expr}{da:aj}{p1 p2 q1 q2:Pos}(ha:g8 X [e] da) (hm:X.mg "len"=none) (hm2:X.mg "set"=none) (hg:Gl X "len":=by rfl) (DA:Gl X "set":=by rfl) (hc:X.calm=true:=by rfl)
  (he:starEach [e] X.env=(false,eval e X.env)::starEach [] X.env:=by exact eV rfl):bx X (.Call (.Name "len" p1) [.Call (.Name "set" p2) [e] [] q2] [] q1) (kj da):=by
 have Ds:PE X (.Call (.Name "set" p2) [e] [] q2) _:=uF (adO hc) DA hm2 (by decide +kernel) ha (by decide) (by decide) he (by exact iE rfl)
 refine(A9 adR hg hm (by decide +kernel) (jr Ds jX (eV rfl)) (by decide) (by decide) (by exact eV rfl) (by exact iE rfl)).imp fun σ H Q h=>?_
 obtain⟨ρ,e,c,W,V,p⟩:=h
 refine⟨ρ,e,c,W,V,post.bind p fun xs c1 aO H1 vs ex W1 X1 r1 p1=>?_⟩
 clear ex
 split at p1
 ·rename_i x
  obtain⟨v,r,rfl,hx,hr⟩:=r1
  cases hr
  split at p1
  ·rename_i l hl
   split at p1
   ·rename_i ns hn
    split at p1
    ·rename_i hb
     obtain⟨a,ys,rfl,ha',rl⟩:=nt W1 hx hl
     rw[lD hn]at rl
     cases rl.lC
     refine⟨a,ns,rfl,bw.of ha',by unfold scanBound;omega,fun q hq=>?_⟩
     refine⟨q,kh ns,rfl,f7,?_,?_⟩
     ·have:=acA ns;omega
     ·exact p1 aO _ _ (W1.fresh hq) (Ext.fresh W1 hq) rfl
    ·exact p1.elim
   ·exact p1.elim
  ·exact p1.elim
 ·exact p1.elim
def uP:List D→aa→R D:=fun xs c=>match xs with
 |[.lst l]=>match gi l with
  |some (a::r)=>.ok (.int (fK a r)) c
  |_=>.bad
 |_=>.bad
theorem ad2(hc:X.calm=true:=by rfl):cZ X (.builtin "min") (rN X.K uP):=by
 intro pins s σ H vs us Q I rv h
 obtain⟨ρ,xs,c,W,rx,p⟩:=h
 unfold uP at p
 split at p
 ·split at p
  ·rename_i a r hb
   obtain⟨v,r',rfl,⟨b,ys,rfl,s1,r1⟩,hr⟩:=rx
   cases hr
   rw[lD hb]at r1
   cases r1.lC
   obtain⟨u,rfl,ru⟩:=ahV rv
   cases ru
   obtain⟨its,ri,pt,hz⟩:=I.list (bw.of s1.1)
   have pI:b≠s.heap.objs.size:=by obtain⟨o,e,_⟩:=pt.isList;exact ahw (ahq e)
   have hl:=ri.length
   have val:∀i v,its.toArray[i]? = some v→∃t,v=Value.int ((a::r).getD i 0) t:=fun i v hv=>by
    obtain⟨x,hx,rx⟩:=qj ri hv
    rw[ahP]at hx
    cases q:(a::r)[i]? with
    |none=>rw[q]at hx;cases hx
    |some z =>
     rw[q]at hx
     cases hx
     obtain⟨t,rfl⟩:=rx
     exact⟨t,by rw[ahr,q];rfl⟩
   refine call_min_walk (aje pt.isList ⟨s.heap.objs.size,_,_,its.toArray.size,_,_,_,rfl,ajB (A:=X.A.in1) (I.ok.hd hc) s.heap.objs.size b pI its.toArray,⟨⟨_,ahB _ rfl,rfl,rfl⟩,?_⟩,fun d hd=>?_,?_,CmpOf.ints_lt (fun i=>(a::r).getD i 0) val,fun v h' tk hP kp=>?_⟩)
   ·obtain⟨o,e,q⟩:=pt.isList;exact⟨o,ahp _ e,q⟩
   ·rw[ahQ]
    rcases ahm.mp hd with rfl|hd
    ·exact aiy _
    ·rw[aiz]at hd
     subst hd
     obtain⟨o,e,_⟩:=pt.isList
     exact aij (ahq e)
   ·rw[aht,←hl];simp
   ·have I1:Inv X pins σ H {s with heap:=h',toks:=tk}:=zC I kp
    obtain⟨t,rfl⟩:=val _ _ hP
    have hs:its.toArray.size-1=r.length:=by rw[aht,←hl];simp
    rw[hs,MT r a r.length (by simp),aiD]
    exact⟨.int (fK a r),H,I1,⟨t,rfl⟩,p.here W rfl⟩
  ·exact p.elim
 ·exact p.elim
end
@[simp] theorem afK(a:aj) (e:Ev) (c:aa):kj a e c=(a e c).bind fun xs c=>match xs with
 |[x]=>match c8 c x with
  |some l=>match gi l with
   |some ns=>if ns.length<1000 then .ok (.int (kh ns)) c else .bad
   |none=>.bad
  |none=>.bad
 |_=>.bad:=rfl
end L2
namespace L2
open PySem PySem.Spec PyProof.Rows
section
variable {prog:Program}{w:World}{A:Around}{s:Shared}{E:Value→Shared→Prop}
set_option maxHeartbeats 3200000 in
end
end L2
namespace L2
open PySem PySem.Spec PyProof.Rows
def bN:D→Option (List Int)
 |.tup [.int i,.int j]=>if 0≤i∧i<8∧0≤j∧j<8 then some [i,j]else none
 |_=>none
section
variable {X:Cx}
theorem GH:∀{ys:List Addr}{us:List Value},Vals (ys.map V.ref) us→us=ys.map Value.ref
 |[],_,.nil=>rfl
 |y::ys,_,.cons e r=>by cases e;rw[GH r];rfl
end
end L2
namespace L2
open PySem PySem.Spec PyProof.Rows
section
variable {X:Cx}{es':List Expr}{kt:Nat}{pt:Pos}
theorem Ig{a:Expr}{ta:TA}{p pos:Pos}(hg:Gl X "enumerate") (hm:X.mg "enumerate"=none) (ha:PA X [a] ta) (hs:starEach [a] X.env=[(false,eval a X.env)]:=by rfl) :
  PI X (.Tuple es' kt pt) (.Call (.Name "enumerate" p) [a] [] pos) (Ks (bw X.K) ta):=by
 intro pins s σ H R I h
 refine Call_ (nu I hg hm boot_enumerate (ajf (bB (ha pos pins s σ H _ I h) fun us s1 ⟨vs,H1,I1,r1,q1⟩=>?_) hs rfl))
 obtain⟨a1,e,⟨xs,q1⟩,q⟩:=q1
 subst e
 cases r1 with
 |cons r rr =>
  cases rr
  cases r
  obtain⟨us,ru,pu,lu⟩:=I1.list q1
  refine call_enumerate_list pu.isList fun h' hz t1 _ kp=>wpAny_pyIter_enum hz ?_
  generalize hn:s1.heap.objs.size=n at hz t1
  refine⟨n+1,_,_,_,H1,rfl,I1.kept (t':=s1.toks) kp,Pc Hx a1 (n+1) n (ah0 (aiy _)),⟨⟨_,hz⟩,t1⟩,fun b hb=>?_,q⟩
  refine zN I1 hn b ?_
  simp only[ahm,ahE,or_false]at hb
  rcases hb with rfl|rfl<;>simp
end
def EZ(a:aj):Ev→aa→R Src:=fun e c=>(a e c).bind fun xs c=>match xs with
 |[.lst l]=>.ok ⟨l.mapIdx fun i x=>.tup [.int i,x],fun _=>True⟩ c
 |_=>.bad
section
variable {X:Cx}{K:PySem.W.Frag}{ρ:List Addr}{H:Hp}
theorem Z9{l:List D}{a:Addr}{st:aa→Prop}(h:∀ρ' H' c',Wd K ρ' H' c'→Ext ρ H ρ' H'→st c'→∃xs,bw K H' a xs∧aL K ρ' H' l xs):JS K ρ H ⟨l.mapIdx fun i x=>.tup [.int i,x],st⟩ (tM (bw K) a):=by
 intro ρ' H' c' W E s i
 obtain⟨xs,q,r⟩:=h ρ' H' c' W E s
 refine⟨fun d hd=>?_,fun e=>⟨xs,q,?_⟩⟩
 ·have hd:(l.mapIdx fun i x=>D.tup [.int i,x])[i]? = some d:=hd
  rw[List.getElem?_mapIdx]at hd
  cases e1:l[i]? with
  |none=>rw[e1]at hd;cases hd
  |some x =>
   rw[e1]at hd
   cases hd
   obtain⟨v,hv,rv⟩:=r.get e1
   refine⟨⟨xs,v,q,hv⟩,fun z H2 hz=>?_⟩
   obtain⟨t,v',rfl,ht,rfl,hz⟩:=hz
   have z1:=hz xs q
   rw[hv]at z1
   cases z1
   exact⟨W.fresh ht,Ext.fresh W ht,t,[.int i,v],rfl,f7,.int i,[v],rfl,rfl,v,[],rfl,Rel.mono W (Ext.fresh W ht) _ _ rv,rfl⟩
 ·have e:i=(l.mapIdx fun i x=>D.tup [.int i,x]).length:=e
  rw[List.length_mapIdx]at e
  rw[r.length];exact e
theorem aaB{es:List Expr}{k:Nat}{pt:Pos}{a:Expr}{da:aj}{p pos:Pos}(ha:g8 X [a] da) (hm:X.mg "enumerate"=none) (hg:Gl X "enumerate":=by rfl) (hs:starEach [a] X.env=[(false,eval a X.env)]:=by exact oz rfl) :
  PId X (.Tuple es k pt) (.Call (.Name "enumerate" p) [a] [] pos) (EZ da):=(Ig hg hm ha hs).imp fun σ H Q h=>by
 obtain⟨ρ,e,c,W,V,p⟩:=h
 refine⟨ρ,e,c,W,V,post.bind p fun x c1 aO H1 v _ W1 X1 r1 p1=>?_⟩
 split at p1
 ·obtain⟨y,ys,rfl,ry,rs⟩:=r1
  cases rs
  obtain⟨a1,xs,rfl,s1,t1⟩:=ry
  exact⟨a1,rfl,⟨xs,bw.of s1.1⟩,p1.here W1 (Z9 fun ρ' H' c' W' E _=>⟨xs,bw.of (BP E s1).1,aL.mono W1 E _ _ t1⟩)⟩
 ·exact p1.elim
end
end L2
namespace L2
open PySem PySem.Spec PyProof.Rows
section
variable {prog:Program}{w:World}{A:Around}{E:Value→Shared→Prop}{s:Shared}
theorem abg{Y:Addr→Prop}{k:Lk}{x:Addr}{Q:Int→Shared→Prop}(hu:A.units+8<cLine) (hx:cA prog w Y s.heap k x) (h:Q (hL k) {s with toks:=s.toks+(k.2.length+3)}):wpAny (model prog w) A (pyHash (.ref x)) Q E s:=by
 have hTy:=hx.typeIs
 obtain⟨o,n,t,y,_,_,h1,h2,h3,h4⟩:=hx
 unfold pyHash
 first|unfold pyHashByItsType|skip
 first|refine ahk (wpAny_cRoomFor_or (.inr (by omega)) ?_)|skip
 refine ahk (aiA hTy aiB.lookup ?_)
 show wpAny _ _ (if(some (Value.builtin "tuple.__hash__")==some Value.none)=true then _ else _) Q E s
 rw[if_neg (by rw[beq_builtin_none];exact ahG)]
 refine ahk (aiA hTy aiB.lookup ?_)
 show wpAny _ _ (callSpecialIfBoundUnlessNone? (.ref x) "__hash__" _ >>= _) Q E s
 refine ahk (alI hTy aiB (ah5 aiB hTy F.entry_tuple_hash ?_ (F.args_tuple_hash_1 _)))
 show wpAny _ _ (Builtin.Tuple.tupleItemsOf (.ref x) >>= _) _ _ s
 refine ahk (aiS h1 h3 ?_)
 refine ahk ?_
 rw[←aiR]
 simp only[aix,aiN]
 refine ahk (ahk ((intKind prog w).pyHash (k:=k.1) (by simp[intKind,Value.isInt]) ?_))
 first
  |refine ahl ?_
  |refine ahk (ahl (ahl ?_))
 dsimp only
 refine ahk (ahk ((tupleKind (intKind prog w)).pyHash (k:=k.2) (by show A.units+1<cLine;omega) h4 ?_))
 first
  |refine ahl ?_
  |refine ahk (ahl (ahl ?_))
 refine ahl ?_
 show wpAny _ _ (retInt (Builtin.Tuple.tupleHashOf [hashInt k.1,L2.hT k.2])) _ _ _
 refine wpAny_ret_mkInt ?_
 show wpAny _ _ (if(decide (-(2:Int)^63≤Builtin.Tuple.tupleHashOf [hashInt k.1,L2.hT k.2])&&decide (Builtin.Tuple.tupleHashOf [hashInt k.1,L2.hT k.2]<2^63))=true then _ else _) Q E _
 have et:s.toks+(k.2.length+3)=s.toks+1+(k.2.length+1)+1:=by omega
 rw[et]at h
 unfold hL reduceHash at h
 by_cases hr:(decide (-(2:Int)^63≤Builtin.Tuple.tupleHashOf [hashInt k.1,L2.hT k.2])&&decide (Builtin.Tuple.tupleHashOf [hashInt k.1,L2.hT k.2]<2^63))=true
 ·rw[if_pos hr]
  rw[if_pos hr]at h
  exact ahl h
 ·rw[if_neg hr]
  rw[if_neg hr]at h
  exact ahk (aiM (ahl h))
end
def BV(P:Program) (w:World):HeapKind P w Lk where
 is:=cA P w (fun _=>True)
 hash:=hL
 draws:=fun k=>k.2.length+3
 room:=fun A=>A.units+8<cLine
 inj:=fun a b=>a.inj b
 keeps:=fun{h h'}{k}{a d}{o es ep} x ho hd hs=>by
  obtain⟨o',n,t,y,_,_,h1,h2,h3,h4⟩:=x
  have hne:a≠d:=by
   rintro rfl
   obtain rfl:o'=o:=ahJ (h1.symm.trans ho)
   rw[hd]at h3;exact nomatch h3
  exact⟨o',n,t,y,trivial,trivial,(hs.2 a hne).trans h1,h2,h3,h4.keeps ho hd hs⟩
 pyHash:=fun hu hk h=>abg hu hk h
 eqBool:=fun hu hx hy h=>EB hu hx hy h
 quiet:=fun hk h=>A0 hk h
section
variable {X:Cx}{pins:List (Addr×Obj)}{σ:St}{H:Hp}{s:Shared}{a:Addr}{k:Lk}
theorem HM{v:V}{i:Int}{t:Tok}(h:RelV v (.int i t)):v=.int i:=by
 cases v with
 |int j=>obtain⟨t2,e⟩:=(show ∃t2,Value.int i t=Value.int j t2 from h);cases e;rfl
 |aG=>exact nomatch (show Value.int i t=Value.none from h)
 |bl b=>exact nomatch (show Value.int i t=Value.bool b from h)
 |str x=>obtain⟨t2,e⟩:=(show ∃t2,Value.int i t=Value.str x t2 from h);cases e
 |g7 x=>obtain⟨t2,e⟩:=(show ∃t2,Value.int i t=Value.bytes x t2 from h);cases e
 |nL x=>obtain⟨t2,e⟩:=(show ∃t2,Value.int i t=Value.float x t2 from h);cases e
 |ref a=>exact nomatch (show Value.int i t=Value.ref a from h)
 |ty n=>exact nomatch (show Value.int i t=Value.type n from h)
theorem Sf{v:V}{y:Addr}(h:RelV v (.ref y)):v=.ref y:=by
 cases v with
 |ref a=>cases(show Value.ref y=Value.ref a from h);rfl
 |aG=>exact nomatch (show Value.ref y=Value.none from h)
 |bl b=>exact nomatch (show Value.ref y=Value.bool b from h)
 |int x=>obtain⟨t2,e⟩:=(show ∃t2,Value.ref y=Value.int x t2 from h);cases e
 |str x=>obtain⟨t2,e⟩:=(show ∃t2,Value.ref y=Value.str x t2 from h);cases e
 |g7 x=>obtain⟨t2,e⟩:=(show ∃t2,Value.ref y=Value.bytes x t2 from h);cases e
 |nL x=>obtain⟨t2,e⟩:=(show ∃t2,Value.ref y=Value.float x t2 from h);cases e
 |ty n=>exact nomatch (show Value.ref y=Value.type n from h)
theorem ajj{P:Program}{w:World}:∀{ks:List Int}{us:List Value},Vals (ks.map V.int) us→ItemsAre (intKind P w) ks us
 |[],_,r=>by rw[aky]at r;cases r;exact .nil
 |k::ks,_,r=>by
  rw[ahv]at r
  cases r with
  |cons h t =>
   obtain⟨t',rfl⟩:=h
   exact .cons (by simp[intKind,Value.isInt]) (ajj t)
theorem Kn{P:Program}{w:World}:∀{xs:List V}{ks:List Int}{us:List Value},Vals xs us→ItemsAre (intKind P w) ks us→xs=ks.map V.int
 |_,_,_,.nil,.nil=>rfl
 |_,_,_,.cons h t,.cons q r=>by
  obtain⟨t',rfl⟩:=aiV q
  rw[Kn t r,HM h]
  rfl
theorem uX{Y:Addr→Prop}(ok:d7 X.prog X.w H s.heap) (hY:∀b xs,H b=some (.tup xs)→Y b) (h:kI H a k):cA X.prog X.w Y s.heap k a:=by
 obtain⟨y,h1,h2⟩:=h
 obtain⟨_,its,hv,o,g1,g2,⟨n,g3⟩,_⟩:=ok a _ h1
 obtain⟨_,its2,hv2,o2,k1,k2,⟨n2,k3⟩,_⟩:=ok y _ h2
 cases hv with
 |cons r1 r2 =>
  cases r2 with
  |cons r3 r4 =>
   cases r4
   obtain⟨t,rfl⟩:=r1
   cases r3
   exact⟨o,n,t,y,hY _ _ h1,hY _ _ h2,g1,g2,g3,o2,its2.toArray,n2,k1,k2,k3,by simpa using ajj hv2⟩
theorem JH{h:Heap}(ok:d7 X.prog X.w H h) (z:cA X.prog X.w (fun b=>∃xs,H b=some (.tup xs)) h k a):kI H a k:=by
 obtain⟨o,n,t,y,⟨xs,y1⟩,⟨ys,y2⟩,h1,h2,h3,o2,it2,n2,g1,g2,g3,g4⟩:=z
 obtain⟨_,its,hv,o',q1,_,⟨n',q3⟩,_⟩:=ok a _ y1
 rw[h1]at q1;cases q1
 rw[h3]at q3
 injection q3 with e _
 have e:=congrArg Array.toList e
 simp only at e
 subst e
 obtain⟨_,its2,hv2,o3,r1,_,⟨n3,r3⟩,_⟩:=ok y _ y2
 rw[g1]at r1;cases r1
 rw[g3]at r3
 injection r3 with e2 _
 subst e2
 have hy:=Kn hv2 (by simpa using g4)
 subst hy
 refine⟨y,?_,y2⟩
 rw[y1]
 cases hv with
 |cons a1 b1 =>
  cases b1 with
  |cons a2 b2 =>
   cases b2
   rw[HM a1,Sf a2]
end
def jQ(w:World) (a:Addr) (L0:List (Lk×Addr)):Heap→Prop:=fun h=>∃o es ep t,∃L:List (Lk×Addr),h.get? a=some o∧o.ExactSet∧o.data=.set es ep t∧jI t es∧t.plain=true∧t.led = !fX w∧es.toList=L.map (kg hL)∧L.Perm L0
def Gj(H:Hp) (L0:List (Lk×Addr)):Prop:=∀q∈L0,kI H q.2 q.1
section
variable {X:Cx}
def HS(X:Cx):List V→Hp→VK→Prop:=fun xs H Q=>∃a ys ks,xs=[.ref a]∧bw X.K H a (ys.map V.ref)∧H a≠none∧(∀zs,H a≠some (.tup zs))∧fk H ys ks∧(dj ks).length<64∧∀p L0,H p=none→Gj H L0→(L0.map (·.1)).Perm (dj ks)→Q (.ref p) (upd H p (.ext (jQ X.w p L0)))
theorem adN(hu:X.A.units+64<cLine) (hc:X.calm=true:=by rfl):cZ X (.type "set") (HS X):=by
 intro pins s σ H xs us Q I rv h
 obtain⟨a,ys,ks,rfl,sq,hne,hnt,hp,h64,q⟩:=h
 obtain⟨u,rfl,ru⟩:=ahV rv
 cases ru
 obtain⟨its,ri,pl,hz⟩:=I.list sq
 have hl:=hp.len
 refine Ri (Y:=fun b=>∃xs,H b=some (.tup xs)) (xs:=ks) (ys:=ys) hl (I.ok.hd hc) pl.isList (by simpa using GH ri) (fun j hj=>?_) (fun b hb=>?_) h64 (by show X.A.units+1+1+1+8<cLine;omega) fun h' tk hS kp=>?_
 ·exact uX (s:=s) I.hok (fun b xs e=>⟨xs,e⟩) (hp.at (ahy (by omega)) (ahy hj))
 ·obtain⟨xs,e⟩:=hb
  obtain⟨_,its,hv,o,g1,_⟩:=I.hok b _ e
  exact⟨ahq g1,fun z=>hnt xs (z▸e)⟩
 ·have hf:H s.heap.objs.size=none:=I.hok.fresh (aho _)
  obtain⟨o,es,ep,t,L,ho,hex,hd,IT,hpl,pL,hL',hk,aaQ⟩:=hS
  have nv:∀b u,s.heap.get? b=some u→h'.get? b=some u:=fun b u e=>kp b u (ahq e) e
  have I2:Inv X pins σ H {s with heap:=h',toks:=tk}:=I.kept nv
  refine⟨.ref s.heap.objs.size,upd H s.heap.objs.size (.ext (jQ X.w s.heap.objs.size L)),I.laid (t':=tk) nv (aho _) ?_,rfl,q _ L hf (fun z hz=>JH I2.hok (hk z hz)) aaQ⟩
  exact⟨⟨o,es,ep,t,L,ho,hex,hd,IT,hpl,pL,hL',.refl _⟩,⟨o,ho⟩,fun h1 h2 ⟨o,es,ep,t,L,ho,r⟩ k=>⟨o,es,ep,t,L,k o ho,r⟩⟩
def HR(X:Cx):List V→Hp→VK→Prop:=fun xs H Q=>∃a L0 ks,xs=[.ref a]∧H a=some (.ext (jQ X.w a L0))∧Gj H L0∧(L0.map (·.1)).Perm (dj ks)∧(dj ks).length<64∧∀p ys,H p=none→fk H ys (eF ks)→Q (.ref p) (upd H p (.lst (ys.map V.ref)))
theorem HN:∀ys:List Addr,Vals (ys.map V.ref) (ys.map Value.ref)
 |[]=>.nil
 |y::ys=>.cons rfl (HN ys)
theorem JD{H:Hp}:∀(L:List (Lk×Addr)),Gj H L→fk H (L.map (·.2)) (L.map (·.1))
 |[],_=>trivial
 |q::L,h=>⟨h q (.head _),JD L fun z hz=>h z (.tail _ hz)⟩
theorem adM(hu:X.A.units+64<cLine) (hc:X.calm=true:=by rfl):cZ X (.builtin "sorted") (HR X):=by
 intro pins s σ H xs us Q I rv h
 obtain⟨a,L0,ks,rfl,hH,lI,lJ,h64,q⟩:=h
 obtain⟨u,rfl,ru⟩:=ahV rv
 cases ru
 obtain⟨⟨o,es,ep,t,L,ho,hex,hd,IT,hpl,pL,hL',j8⟩,_,_⟩:=I.hok a _ hH
 have hS:iP X.prog X.w hL (fun b=>∃xs,H b=some (.tup xs)) s.heap a (dj ks):=⟨o,es,ep,t,L,ho,hex,hd,IT,hpl,pL,hL',fun z hz=>uX (s:=s) I.hok (fun b xs e=>⟨xs,e⟩) (lI z (j8.mem_iff.mp hz)),(j8.map _).trans lJ⟩
 refine Qk (xs:=ks) (I.ok.hd hc) (by omega) (fun b hb=>?_) hS h64 fun h1 h' tk c L3 k1 k2 hp hk hs=>?_
 ·obtain⟨xs,e⟩:=hb
  obtain⟨_,its,hv,o,g1,_⟩:=I.hok b _ e
  exact⟨o,g1⟩
 ·have I1:Inv X pins σ H {s with heap:=h1,toks:=tk}:=I.kept k1
  have I2:Inv X pins σ H {s with heap:=h',toks:=tk}:=I.kept fun b o e=>k2 b o (k1 b o e)
  have hf:H h1.objs.size=none:=I1.hok.fresh (aho _)
  have hl3:=JD L3 fun z hz=>JH I2.hok (hk z hz)
  rw[hs]at hl3
  have hlen:L3.length<64:=by
   have e1:=congrArg List.length hs
   rw[ahx]at e1
   have:(eF ks).length=(dj ks).length:=by
    refine alY ((alZ ?_ (xS .nil)).mpr fun x=>?_)
    ·exact(tY ks).imp fun{a b} h e=>by subst e;rw[pe]at h;cases h
    ·rw[uQ]
     first|unfold dj|skip
     rw[xW]
     simp
   omega
  refine⟨.ref h1.objs.size,upd H h1.objs.size (.lst ((L3.map (·.2)).map V.ref)),I1.laid (t':=tk) k2 (aho _) ⟨?_,bV L3,c,?_,hp⟩,rfl,q _ _ hf hl3⟩
  ·simp only[ahx]
   rw[aic];omega
  ·have:=HN (L3.map (·.2))
   rw[ahK]at this ⊢
   unfold bV
   rw[ahK]at this
   exact this
def fz(k:Lk):D:=.tup [.int k.1,.tup (k.2.map D.int)]
def rR:D→Option Lk
 |.tup [.int c,.tup l]=>match gi l with
  |some ns=>some (c,ns)
  |none=>none
 |_=>none
def pq:List D→Option (List Lk)
 |[]=>some []
 |d::l=>match rR d,pq l with
  |some k,some ks=>some (k::ks)
  |_,_=>none
theorem JI{d:D}{k:Lk}(h:rR d=some k):d=fz k:=by
 unfold rR at h
 split at h
 ·split at h
  ·rename_i c l ns hn
   cases h
   rw[lD hn]
   rfl
  ·cases h
 ·cases h
theorem JJ(k:Lk):rR (fz k)=some k:=by
 unfold fz rR
 dsimp only
 rw[Dh]
theorem JE:∀{l:List D}{ks:List Lk},pq l=some ks→l=ks.map fz
 |[],ks,h=>by cases h;rfl
 |d::l,ks,h=>by
  unfold pq at h
  split at h
  ·rename_i k rk h1 h2
   cases h
   rw[JI h1,JE h2]
   rfl
  ·cases h
theorem JF:∀ks:List Lk,pq (ks.map fz)=some ks
 |[]=>rfl
 |k::ks=>by
  rw[ahv]
  unfold pq
  rw[JJ,JF ks]
theorem JG{K:PySem.W.Frag}{ρ:List Addr}{H:Hp}{k:Lk}{v:V}(r:Rel K ρ H (fz k) v):∃a,v=.ref a∧kI H a k:=by
 obtain⟨a,xs,rfl,ha,rl⟩:=r
 obtain⟨x1,r1,rfl,e1,rl⟩:=rl
 obtain⟨x2,r2,rfl,e2,rl⟩:=rl
 cases(show x1=V.int k.1 from e1)
 cases(show r2=[]from rl)
 obtain⟨y,ys,rfl,hy,ry⟩:=e2
 have:=aL.lC ry
 subst this
 exact⟨a,rfl,y,ha,hy⟩
theorem JC{K:PySem.W.Frag}{ρ:List Addr}{H:Hp}:∀{ks:List Lk}{vs:List V},aL K ρ H (ks.map fz) vs→∃ys:List Addr,vs=ys.map V.ref∧fk H ys ks
 |[],vs,r=>⟨[],r,trivial⟩
 |k::ks,vs,r=>by
  rw[ahv]at r
  obtain⟨x,r',rfl,e,rl⟩:=r
  obtain⟨a,rfl,ha⟩:=JG e
  obtain⟨ys,rfl,hy⟩:=JC rl
  exact⟨a::ys,rfl,ha,hy⟩
theorem LA{a:Addr}{kvs:List (Lk×Int)}{as:List Addr}{pins:List (Addr×Obj)}{σ:St}{H:Hp}{s:Shared}(I:Inv X pins σ H s) (h:H a=some (.ext (fV a kvs as))) (hk:fk H as (kvs.map (·.1))) (nd:(kvs.map (·.1)).Nodup) :
  ∃xs:List (Lk×Addr×Value),s.heap.DictOfH (BV X.prog X.w) a xs∧xs.map (·.1)=kvs.map (·.1)∧xs.map (·.2.1)=as∧Vals (kvs.map fun kv=>V.int kv.2) (xs.map (·.2.2)):=by
 obtain⟨⟨o,es,ep,xs,ho,hex,hd,he,e1,e2,hv⟩,_,_⟩:=I.hok a _ h
 refine⟨xs,⟨o,es,ep,ho,hex,hd,he,fun x hx=>?_,by rw[e1];exact nd⟩,e1,e2,hv⟩
 obtain⟨i,hi,rfl⟩:=aiq hx
 refine uX (s:=s) I.hok (fun _ _ _=>trivial) (hk.at (i:=i) ?_ ?_)
 ·rw[←e2,ahP,ahy hi];rfl
 ·rw[←e1,ahP,ahy hi];rfl
def G8:TE:=fun _ H Q=>∀p,H p=none→Q (.ref p) (upd H p (.ext (fV p [] [])))
theorem UI{pos:Pos}:PE X (.Dict [] [] pos) G8:=fun pins s σ H Q I h =>
 wpAny_Dict_empty ⟨.ref s.heap.objs.size,_,I.laid (a:=s.heap.objs.size) (o:=.ext (fV s.heap.objs.size [] [])) (t':=s.toks) (fun _ _ q=>ahp _ q) (aho _)
  ⟨⟨_,#[],0,[],ahB _ rfl,⟨rfl,rfl,rfl⟩,rfl,rfl,rfl,rfl,.nil⟩,⟨_,ahB _ rfl⟩,fun h1 h2 ⟨o,es,ep,xs,ho,r⟩ k=>⟨o,es,ep,xs,k o ho,r⟩⟩,rfl,h _ (I.hok.fresh (aho _))⟩
def HF(td ty tv:TE):TS:=fun D σ H=>tv σ H fun v H1=>td σ H1 fun x H2=>ty σ H2 fun y H3=>∃a kvs as b k n,x=.ref a∧v=.int n∧y=.ref b∧H3 a=some (.ext (fV a kvs as))∧fk H3 as (kvs.map (·.1))∧(kvs.map (·.1)).Nodup∧k∉kvs.map (·.1)∧kvs.length<1000∧kI H3 b k∧D.nx σ (upd H3 a (.ext (fV a (kvs++[(k,n)]) (as++[b]))))
theorem S9{o i value:Expr}{pos pos':Pos}{td ty tv:TE}(hu:X.A.units+64<cLine) (ho:PE X o td) (hi:PE X i ty) (hv:PE X value tv) (hs:swapsWith value (some (.Subscript o i pos')) pos.line X.env=pure false) :
  PS X (.Assign [.Subscript o i pos'] value pos) (HF td ty tv):=by
 intro pins s σ H D I h
 refine wpAny_Assign_Subscript (bB (hv pins s σ H _ I h) fun r s1 ⟨v,H1,I1,rv,q1⟩=>bB (ho pins s1 σ H1 _ I1 q1) fun u s2 ⟨x,H2,I2,rx,q2⟩=>bB (hi pins s2 σ H2 _ I2 q2) fun iv s3 ⟨y,H3,I3,ry,a,kvs,as,b,k,n,ex,ev,ey,ha,hk,nd,hnk,hl,hb,q3⟩=>?_) hs
 subst ex ev ey
 obtain rfl:u=Value.ref a:=rx
 obtain rfl:iv=Value.ref b:=ry
 obtain⟨t,rfl⟩:=rv
 obtain⟨xs,dd,e1,e2,vv⟩:=LA I3 ha hk nd
 have hxl:xs.length=kvs.length:=by have:=congrArg List.length e1;simpa using this
 have sl:10000<sizeLine:=Q9
 have hno:atKey xs k=none:=by
  refine atKey_none_of_get fun j p hj=>hnk ?_
  rw[←e1]
  exact ahs.mpr ⟨(k,p),ahL hj,rfl⟩
 refine wpAny_setItem_heap (knd:=BV X.prog X.w) (k:=k) (by show X.A.units+1+8<cLine;omega) (uX (s:=s3) I3.hok (fun _ _ _=>trivial) hb) dd (fun h' LI lG=>?_) (by omega)
 rw[storedH_new hno]at LI
 obtain⟨o',es,ep,ho',hex,hd',he',_,_⟩:=LI
 have new:eS X.prog X.w (upd H3 a (.ext (fV a (kvs++[(k,n)]) (as++[b])))) h' a (.ext (fV a (kvs++[(k,n)]) (as++[b]))):=⟨⟨o',es,ep,xs++[(k,b,Value.int n t)],ho',hex,hd',he',?_,?_,?_⟩,⟨_,ho'⟩,fun h1 h2 ⟨o,es,ep,xs,ho,r⟩ k=>⟨o,es,ep,xs,k o ho,r⟩⟩
 ·exact⟨σ,_,ac8 I3 (by rw[ha];exact True.intro) lG ⟨_,ho'⟩ new,q3⟩
 ·rw[aiC,aiC,e1];rfl
 ·rw[aiC,e2];rfl
 ·rw[aiC,aiC]
  exact Paired.snoc vv (show ∃t',Value.int n t=Value.int n t' from⟨t,rfl⟩)
end
def pD:D→D→aa→R D:=fun x y c=>match x,rR y with
 |.gm kvs,some k=>match kvs.find? (fun kv=>decide (kv.1=k))with
  |some kv=>if(kvs.map (·.1)).Nodup then .ok (.int kv.2) c else .bad
  |none=>.bad
 |_,_=>.bad
section
variable {X:Cx}
theorem ab0{kvs:List (Lk×Int)}{k:Lk}{kv:Lk×Int}(nd:(kvs.map (·.1)).Nodup) (h:kvs.find? (fun kv=>decide (kv.1=k))=some kv) {xs:List (Lk×Addr×Value)}(e1:xs.map (·.1)=kvs.map (·.1)) (vv:Vals (kvs.map fun kv=>V.int kv.2) (xs.map (·.2.2))):∃p t,atKey xs k=some p∧p.2=.int kv.2 t:=by
 have hm:=alA h
 have hk:kv.1=k:=by have:=alw h;simpa using this
 obtain⟨i,hi,e⟩:=aiq hm
 have hxl:xs.length=kvs.length:=by have:=congrArg List.length e1;simpa using this
 have hx:xs[i]? = some (k,(xs[i]'(by omega)).2):=by
  rw[ahy (by omega)]
  have q:(xs.map (·.1))[i]'(by simp;omega)=(kvs.map (·.1))[i]'(by simpa using hi):=by simp only[e1]
  simp only[ak5]at q
  rw[e,hk]at q
  rw[←q]
 obtain⟨u,hu,ru⟩:=Vals.get vv (i:=i) (x:=V.int kv.2) (by rw[ahP,ahy hi,e];rfl)
 rw[ahP,hx]at hu
 cases hu
 obtain⟨t,et⟩:=ru
 exact⟨_,t,atKey_of_get (by rw[e1];exact nd) hx,et⟩
theorem aai(hu:X.A.units+64<cLine):tL X (r2 X.K pD):=by
 intro value slice pins s σ H v u vv uu Q I rv ru h hs
 obtain⟨ρ,x,y,c,W,rx,ry,p⟩:=h
 unfold pD at p
 split at p
 ·rename_i kvs k hk
  split at p
  ·rename_i kv hf
   split at p
   ·rename_i nd
    have ey:=JI hk
    subst ey
    obtain⟨a,as,rfl,ha,hl⟩:=rx
    obtain⟨b,rfl,hb⟩:=JG ry
    cases rv
    cases ru
    obtain⟨xs,dd,e1,e2,vs⟩:=LA I ha hl nd
    obtain⟨pr,t,hp,et⟩:=ab0 nd hf e1 vs
    have hT:s.TypeIs (.ref a) "dict":=dd.typeIs
    have fin:wpAny (model X.prog X.w) X.A (subscripted slice false (.ref a) (.ref b)) (fun r s₃=>wpAny (model X.prog X.w) X.A (letTemporaryGo value (.ref a) r >>= fun _=>pure r) (EP X pins σ Q) X.xe s₃) X.xe s:=by
     rw[hs]
     refine wpAny_operating (wpAny_getItem_heap (knd:=BV X.prog X.w) (k:=k) (by show X.A.units+1+8<cLine;omega) (uX (s:=s) I.hok (fun _ _ _=>trivial) hb) dd hp ?_)
     rw[et]
     exact ahk (wpAny_letTemporaryGo (ahl ⟨.int kv.2,H,I.tok _,⟨t,rfl⟩,p ρ H _ W Ext.refl rfl⟩))
    unfold subscriptTail
    refine ahk ?_
    rw[getitemInPython_of_ne hT.not_modules]
    refine ahk (aiA hT PySem.F.slot_dict_getitem.lookup ?_)
    first
     |exact ahl (ahk fin)
     |exact ahk (ahl (ahk fin))
     |exact ahk fin
   ·exact p.elim
  ·exact p.elim
 ·exact p.elim
end
end L2
namespace L2
open PySem PySem.Spec PyProof.Rows
theorem abM{Sq:Hp→Addr→List V→Prop}{a:Addr}{xs:List V}{g:TG}{tb:TS}{D:Ends}{σ:St}{H:Hp}(Pv:Nat→St→Hp→Prop) (h0:Pv 0 σ H) (hl:∀i σ H,i≤xs.length→Pv i σ H→Sq H a xs)
  (hs:∀i x t σ H,xs[i]? = some x→Pv i σ H→H t=none→g (.ref t) σ (upd H t (.tup [.int i,x])) fun σ2 H2=>tb {D with nx:=Pv (i+1),ct:=Pv (i+1),bk:=D.nx} σ2 H2) (hd:∀σ H,Pv xs.length σ H→D.nx σ H) :
  ∃W:Nat→Nat→St→Hp→Prop,(∃m,W 0 m σ H)∧∀i m σ H,W i m σ H →
   ((tM Sq a).stop i H∧D.nx σ H)∨((tM Sq a).go i H∧∃N:St→Hp→Prop,(∀σ' H',N σ' H'→∃m',m'<m∧W (i+1) m' σ' H')∧∀x H',(tM Sq a).qe i H x H'→g x σ H' fun σ2 H2=>tb {D with nx:=N,ct:=N,bk:=D.nx} σ2 H2):=by
 refine⟨fun i m σ H=>m=xs.length-i∧i≤xs.length∧Pv i σ H,⟨xs.length,by simp,ahY _,h0⟩,?_⟩
 rintro i m σ H ⟨rfl,hi,p⟩
 have q:=hl i σ H hi p
 by_cases hlt:i<xs.length
 ·refine .inr ⟨⟨xs,xs[i],q,by simp[hlt]⟩,Pv (i+1),fun σ' H' p'=>⟨xs.length-(i+1),by omega,rfl,hlt,p'⟩,fun x H' y=>?_⟩
  obtain⟨t,x',rfl,ht,rfl,hx⟩:=y
  exact hs i x' t σ H (hx xs q) p ht
 ·have e:i=xs.length:=by omega
  subst e
  exact .inl ⟨⟨xs,q,rfl⟩,hd σ H p⟩
def fR(ks:List Lk):List (Lk×Int):=ks.mapIdx fun i k=>(k,(i:Int))
theorem uZ(ks:List Lk):(fR ks).map (·.1)=ks:=by
 unfold fR
 refine aim (by simp) fun i h1 h2=>?_
 simp
theorem J2(ks:List Lk):(fR ks).length=ks.length:=by simp[fR]
theorem Zq{ks:List Lk}{i:Nat}{k:Lk}(h:ks[i]? = some k):fR (ks.take (i+1))=fR (ks.take i)++[(k,(i:Int))]:=by
 have hi:=(ahz.mp h).1
 rw[al0,h]
 unfold fR
 rw[Option.toList_some,List.mapIdx_append]
 simp
 omega
def uA:ah:=fun e c=>match e[2]? with
 |some (some (D.lst l))=>match pq l with
  |some ks=>if(dj ks).length<64∧e.length=6 then .ok (.nx [e.getD 0 none,e.getD 1 none,e.getD 2 none,some (.gm (fR (eF ks))),none,none]) c else .bad
  |none=>.bad
 |_=>.bad
def RkP(H0:Hp) (a:Addr) (s0 s1 s2:Option V) (ks:List Lk) (ys:List Addr) (i:Nat) (σ:St) (H:Hp):Prop :=
 ∃x y,(∀b o,H0 b=some o→b≠a→H b=some o)∧σ=[s0,s1,s2,some (.ref a),x,y]∧H a=some (.ext (fV a (fR (ks.take i)) (ys.take i)))
theorem JX{α:Type}{l:List α}(h:l.length=6):∃a b d f g k,l=[a,b,d,f,g,k]:=by
 match l,h with
 |[a,b,d,f,g,k],_=>exact⟨a,b,d,f,g,k,rfl⟩
theorem fk.take{H:Hp}:∀{as:List Addr}{ks:List Lk}(n:Nat),fk H as ks→fk H (as.take n) (ks.take n)
 |[],[],n,_=>by simp;exact trivial
 |[],_::_,_,h=>h.elim
 |_::_,[],_,h=>h.elim
 |_::_,_::_,0,_=>trivial
 |_::_,_::_,n+1,h=>⟨h.1,fk.take n h.2⟩
theorem Hs(ks:List Lk):(eF ks).Nodup:=(tY ks).imp fun{a b} h e=>by subst e;rw[pe]at h;cases h
theorem Qg(ks:List Lk):(eF ks).length=(dj ks).length :=
 alY ((alZ (Hs ks) (xS .nil)).mpr fun x=>by
  rw[uQ]
  first|unfold dj|skip
  rw[xW]
  simp)
abbrev Px(X:Cx):TE:=wJ (HR X) (wI (wJ (HS X) (wI (qm 2) wG)) wG)
theorem Rr{X:Cx}{A B:Stmt}{rest:List Stmt}{dr:ah}(hA:PS X A (AD G8 (vn 3))) (hB:PS X B (G7 (Ks (bw X.K) (wI (Px X) wG)) (Lb X.K 2 (DR (vn 4) (DR (vn 5) Lc))) (HF (qm 3) (qm 5) (qm 4)))) (hr:cy X rest dr):cy X (A::B::rest) (aD uA dr) :=
 (A1 hA (A1 hB hr)).imp fun Z σ H h=>by
  obtain⟨ρ,e,c,W,VV,p⟩:=h
  unfold aD uA at p
  cases he:e[2]? with
  |none=>rw[he]at p;exact p.elim
  |some od =>
   cases od with
   |none=>rw[he]at p;exact p.elim
   |some d =>
    cases d with
    |lst l =>
     rw[he]at p
     dsimp only at p
     cases hk:pq l with
     |none=>rw[hk]at p;exact p.elim
     |some ks =>
      rw[hk]at p
      dsimp only at p
      by_cases r9:(dj ks).length<64∧e.length=6
      ·rw[if_pos r9]at p
       have el:=JE hk
       subst el
       obtain⟨v2,hv2,rd⟩:=VV.get 2 _ he
       obtain⟨e0,e1,e2,e3,e4,e5,rfl⟩:=JX r9.2
       obtain⟨s0,s1,s2,s3,s4,s5,rfl⟩:=JX (VV.len.symm.trans r9.2)
       cases he
       cases hv2
       obtain⟨b,ws,rfl,hb,rl⟩:=id rd
       obtain⟨zs,rfl,hz⟩:=JC rl
       intro a ha
       have M1:∀u o,H u=some o→upd H a (.ext (fV a [] [])) u=some o:=fun u o z=>by rw[bR (fun y=>by rw[y,ha]at z;cases z)];exact z
       refine⟨.ref b,rfl,b,zs,ks,rfl,bw.of (M1 b _ hb.1),by rw[M1 b _ hb.1];simp,fun xs z=>(by rw[M1 b _ hb.1]at z;cases z),hz.mono fun u xs z=>M1 u _ z,r9.1,fun q L0 hq lI lJ=>?_⟩
       have M2:∀u o,upd H a (.ext (fV a [] [])) u=some o→upd (upd H a (.ext (fV a [] []))) q (.ext (jQ X.w q L0)) u=some o:=fun u o z=>by rw[bR (fun y=>by rw[y,hq]at z;cases z)];exact z
       refine⟨q,L0,ks,rfl,f7,fun z hz=>(lI z hz).mono fun u xs z=>M2 u _ z,lJ,r9.1,fun r ys hr' hp=>?_⟩
       have M3:∀u o,upd (upd H a (.ext (fV a [] []))) q (.ext (jQ X.w q L0)) u=some o→upd (upd (upd H a (.ext (fV a [] []))) q (.ext (jQ X.w q L0))) r (.lst (ys.map V.ref)) u=some o:=fun u o z=>by rw[bR (fun y=>by rw[y,hr']at z;cases z)];exact z
       have vf:upd (upd (upd H a (.ext (fV a [] []))) q (.ext (jQ X.w q L0))) r (.lst (ys.map V.ref)) r=some (.lst (ys.map V.ref)):=f7
       have yg:upd (upd (upd H a (.ext (fV a [] []))) q (.ext (jQ X.w q L0))) r (.lst (ys.map V.ref)) a=some (.ext (fV a [] [])):=M3 _ _ (M2 _ _ f7)
       have hp3:=hp.mono fun u xs z=>M3 u _ z
       have hM:∀u o,H u=some o→upd (upd (upd H a (.ext (fV a [] []))) q (.ext (jQ X.w q L0))) r (.lst (ys.map V.ref)) u=some o:=fun u o z=>M3 u o (M2 u o (M1 u o z))
       generalize upd (upd (upd H a (.ext (fV a [] []))) q (.ext (jQ X.w q L0))) r (.lst (ys.map V.ref))=H2 at vf yg hp3 hM
       have hyl:=hp3.len
       have hba:r≠a:=fun z=>by rw[z,yg]at vf;cases vf
       have GV:∀{y:Addr}{xs:List V},H2 y=some (.tup xs)→y≠a:=fun{y xs} hy z=>by rw[z,yg]at hy;cases hy
       have hnd:=Hs ks
       have hsl:=Qg ks
       refine⟨r,rfl,⟨_,bw.of vf⟩,abM (xs:=ys.map V.ref) (RkP H2 a s0 s1 (some (.ref b)) (eF ks) ys) ⟨s4,s5,fun b o h _=>h,rfl,?_⟩ (fun i σ H' _ q=>?_) (fun i x t σ H' hxi q ht=>?_) (fun σ H' q=>?_)⟩
       ·simpa[fR]using yg
       ·obtain⟨_,_,M,_⟩:=q
        exact bw.of (M r _ vf hba)
       ·obtain⟨x4,x5,M,rfl,hd⟩:=q
        rw[ahP]at hxi
        cases u6:ys[i]? with
        |none=>rw[u6]at hxi;cases hxi
        |some y =>
         rw[u6]at hxi
         cases hxi
         have hi:i<(eF ks).length:=by rw[←hyl];exact(ahz.mp u6).1
         have hki:(eF ks)[i]? = some (eF ks)[i]:=ahy hi
         have hlk:=hp3.at u6 hki
         have tm:∀z xs,H2 z=some (.tup xs)→upd H' t (.tup [.int i,.ref y]) z=some (.tup xs):=fun z xs hz=>by
          have h':=M z _ hz (GV hz)
          rw[bR (fun w=>by rw[w,ht]at h';cases h')]
          exact h'
         have hat:a≠t:=fun w=>by rw[←w,hd]at ht;cases ht
         refine⟨t,[.int i,.ref y],rfl,bX.of f7,rfl,.int i,[.ref y],rfl,.ref y,[],rfl,rfl,?_⟩
         refine⟨.int i,rfl,.ref a,rfl,.ref y,rfl,a,fR ((eF ks).take i),ys.take i,y,(eF ks)[i],i,rfl,rfl,rfl,by rw[bR hat];exact hd,?_,?_,?_,?_,hlk.mono tm,?_⟩
         ·rw[uZ];exact(hp3.take i).mono tm
         ·rw[uZ];exact hnd.sublist (ajS _ _)
         ·rw[uZ]
          intro hm
          obtain⟨j,hj,ej⟩:=aiq hm
          simp at hj
          rw[aj3]at ej
          have:=(aiv hnd).mp ej
          omega
         ·rw[J2,ajh];omega
         ·refine⟨_,_,fun z o hz Kz=>?_,rfl,?_⟩
          ·have h':=M z o hz Kz
           rw[bR Kz,bR (fun w=>by rw[w,ht]at h';cases h')]
           exact h'
          ·rw[f7,Zq hki,al0,u6]
           rfl
       ·obtain⟨x4,x5,M,rfl,hd⟩:=q
        rw[ahx,hyl,aiD,←hyl,aiD]at hd
        have K4:∀u o,H u=some o→H' u=some o:=fun u o z=>M u o (hM u o z) (fun w=>by rw[w,ha]at z;cases z)
        have E:Ext ρ H ρ H':=⟨fun _ _ z=>z,fun u o z n _=>⟨K4 u o z,n⟩⟩
        refine⟨ρ,[e0,e1,some (.lst (ks.map fz)),some (.gm (fR (eF ks))),none,none],c,W.XW (fun u o z _=>K4 u o z),⟨fun i g hg=>?_,rfl⟩,Ti E p⟩
        match i,hg with
        |0,hg =>
         obtain⟨v,hv,r⟩:=VV.get 0 g hg
         exact⟨v,hv,Rel.mono W E _ _ r⟩
        |1,hg =>
         obtain⟨v,hv,r⟩:=VV.get 1 g hg
         exact⟨v,hv,Rel.mono W E _ _ r⟩
        |2,hg =>
         cases hg
         exact⟨.ref b,rfl,Rel.mono W E _ _ rd⟩
        |3,hg =>
         cases hg
         refine⟨.ref a,rfl,a,ys,rfl,hd,?_⟩
         rw[uZ]
         exact hp3.mono fun z xs hz=>M z _ hz (GV hz)
        |4,hg=>cases hg
        |5,hg=>cases hg
        |(n+6),hg=>simp at hg
      ·rw[if_neg r9]at p
       exact p.elim
    |_=>rw[he]at p;exact p.elim
section
variable {prog:Program}{w:World}{A:Around}{E:Value→Shared→Prop}{s:Shared}
theorem aby{x y:List Int}{a b:Addr}{P:PySem.Fin→Shared→Prop}(hx:IsTupleKey (intKind prog w) s.heap x a) (hy:IsTupleKey (intKind prog w) s.heap y b) (h:P (.done (.ret (.bool (cI y x)))) s) :
  wpAny (model prog w) A (Builtin.«tuple.__gt__» ⟨[.ref a,.ref b],[]⟩) P E s:=by
 have hTb:=hy.typeIs
 obtain⟨oa,xs,na,hoa,_,hda,Dz⟩:=hx
 obtain⟨ob,ys,nb,hob,_,hdb,hib⟩:=hy
 show wpAny _ _ (isInstance (.ref b) (.type "tuple") >>= _) _ _ s
 refine ahk (aiO hTb ajJ ?_)
 simp only[ah2,ahC,if_false]
 refine ahk (aiS hoa hda ?_)
 refine ahk (aiS hob hdb ?_)
 refine ahk ?_
 refine ajI _
  (fun rest r s'=>r.1=none∧s'=s∧∃x' y' xs' ys',rest=List.zip xs' ys'∧ItemsAre (intKind prog w) x' xs'∧ItemsAre (intKind prog w) y' ys'∧cI y' x'=cI y x∧decide (xs'.length>ys'.length)=decide (xs.size>ys.size))
  _ ?_ ?_ _ _ ⟨rfl,rfl,x,y,xs.toList,ys.toList,rfl,Dz,hib,rfl,by simp⟩
 ·rintro ⟨u,v⟩ rest r s' ⟨hr,rfl,x',y',xs',ys',hz,hx',hy',lN,hlen⟩
  cases hx' with
  |nil=>simp at hz
  | @cons k1 u' x'' Ae h1 Dn =>
   cases hy' with
   |nil=>simp at hz
   | @cons k2 v' Ac z9 h2 Dm =>
    simp only[akK,akR,ajq]at hz
    obtain⟨⟨rfl,rfl⟩,rfl⟩:=hz
    refine ahk ((intKind prog w).eqBool (a:=k1) (b:=k2) h1 h2 ?_)
    by_cases hk:k1=k2
    ·subst hk
     rw[decide_eq_true rfl]
     simp only[ah2,ahC,if_false]
     refine ahl ⟨rfl,rfl,x'',Ac,Ae,z9,rfl,Dn,Dm,?_,by simpa using hlen⟩
     rw[←lN]
     simp[cI]
    ·rw[decide_eq_false hk]
     simp only[ai7,if_true]
     have hf:cI y x=decide (k1>k2):=by
      rw[←lN]
      unfold cI
      rw[if_neg (fun e:k2=k1=>hk e.symm)]
     rw[hf]at h
     obtain⟨t1,rfl⟩:=aiV h1
     obtain⟨t2,rfl⟩:=aiV h2
     refine ahk (aiM (ahk (show wpAny _ _ (compareOp .Gt (.int k1 t1) (.int k2 t2)) _ _ _ from gt_int ?_)))
     exact ahk (ahl (ahl (ahl h)))
 ·rintro ⟨r1,r2⟩ s' ⟨hr,rfl,x',y',xs',ys',hz,hx',hy',lN,hlen⟩
  simp only at hr
  subst hr
  refine ahl ?_
  have nG:decide (xs.size>ys.size)=cI y x:=by
   rw[←lN,←hlen]
   cases hx' with
   |nil =>
    cases hy' with
    |nil=>simp[cI]
    |cons _ _=>simp[cI]
   |cons _ _ =>
    cases hy' with
    |nil=>simp[cI]
    |cons _ _=>simp at hz
  show P (.done (.ret (.bool (decide (xs.size>ys.size))))) s'
  rw[nG];exact h
theorem abx{x y:List Int}{a b:Addr}{Q:Value→Shared→Prop}(hu:A.units<cLine) (hx:IsTupleKey (intKind prog w) s.heap x a) (hy:IsTupleKey (intKind prog w) s.heap y b) (h:Q (.bool (cI y x)) s) :
  wpAny (model prog w) A (compareOp .Gt (.ref a) (.ref b)) Q E s :=
 show wpAny _ _ (richCompare .Gt _ _) _ _ _ from akT (op:=.Gt) hx.typeIs hy.typeIs F.slot_tuple_gt
   (ah5 F.slot_tuple_gt hx.typeIs F.entry_tuple_gt (aby hx hy ⟨_,rfl,(fun e=>nomatch e),h⟩) (F.args_tuple_gt_2 _ _)) hu
end
def pN:D→D→aa→R D:=fun x y c=>match x,y with
 |.tup l,.tup m=>match gi l,gi m with
  |some a,some b=>.ok (.bl (cI b a)) c
  |_,_=>.bad
 |_,_=>.bad
theorem Wq{X:Cx}(hu:X.A.units+64<cLine):bP X (compareOp .Gt) (r2 X.K pN):=by
 intro pins s σ H v u vv uu Q I rv ru h
 obtain⟨ρ,x,y,c,W,rx,ry,p⟩:=h
 unfold pN at p
 split at p
 ·split at p
  ·rename_i l m a b h1 h2
   rw[lD h1]at rx
   rw[lD h2]at ry
   obtain⟨a1,xs,rfl,ha,ra⟩:=rx
   obtain⟨b1,ys,rfl,hb,rb⟩:=ry
   have e1:=aL.lC ra
   have e2:=aL.lC rb
   subst e1 e2
   cases rv
   cases ru
   obtain⟨_,its,hv,o,g1,g2,⟨n,g3⟩,_⟩:=I.hok a1 _ ha
   obtain⟨_,its2,hv2,o2,k1,k2,⟨n2,k3⟩,_⟩:=I.hok b1 _ hb
   exact abx (x:=a) (y:=b) (by omega) ⟨o,its.toArray,n,g1,g2,g3,by simpa using ajj hv⟩ ⟨o2,its2.toArray,n2,k1,k2,k3,by simpa using ajj hv2⟩ ⟨.bl _,H,I,rfl,p.here W rfl⟩
  ·exact p.elim
 ·exact p.elim
def E5:af:=fun _ _=>.bad
theorem UQ{X:Cx}{e:Expr}:bx X e E5:=by
 intro pins s σ H Q I h
 obtain⟨ρ,e,c,W,V,p⟩:=h
 exact p.elim
end L2
namespace Ev
open PySem L2 PyProof.Rows
def top(i:Nat):Stmt:=PySem.Challenge.pw_evenwebs_k62_first_orders.main.body.getD i (.Pass ⟨0,0,0,0⟩)
abbrev qA:Stmt:=top 18
abbrev qv:Stmt:=top 19
abbrev qB:Stmt:=top 20
abbrev qY:Stmt:=top 21
abbrev rj:Stmt:=top 22
abbrev qX:Stmt:=top 23
abbrev qw:Stmt:=top 24
abbrev qZ:Stmt:=top 25
abbrev qW:Stmt:=top 26
abbrev qz:Stmt:=top 27
abbrev qV:Stmt:=top 28
abbrev qx:Stmt:=top 29
abbrev qy:Stmt:=top 30
abbrev qR:Stmt:=top 32
abbrev qI:Stmt:=top 33
abbrev qE:Stmt:=top 34
abbrev qK:Stmt:=top 35
abbrev qN:Stmt:=top 36
abbrev qF:Stmt:=top 37
abbrev qL:Stmt:=top 38
abbrev qJ:Stmt:=top 39
abbrev qM:Stmt:=top 40
abbrev qD:Stmt:=top 41
abbrev qT:Stmt:=top 42
abbrev qS:Stmt:=top 43
abbrev qH:Stmt:=top 44
abbrev qC:Stmt:=top 45
abbrev qG:Stmt:=top 46
abbrev qO:Stmt:=top 47
abbrev qP:Stmt:=top 48
abbrev qQ:Stmt:=top 49
abbrev qU:Stmt:=top 50
def vM:ah :=
 (aU (aF eU (ao (aZ (jD (ak 0)) [none,some 1] (az 0) bg (au bu (ak 1) (ak 0))) aq)))
def uT:List D→aa→R D:=bW 2 false vM
def vL:ah :=
 (aU (au zx (ak 0) (aF eU (ao (aZ (jD (ak 1)) [none,some 0] (az 0) bg (aA 2 uT (ao (ak 0) (ao (aF aN (ao (ak 1) aq)) aq)))) aq))))
def xX:List D→aa→R D:=bW 2 false vL
def vN:ah :=
 (aU (bQ (ao (au aH (ak 1) (ak 2)) (ao (aF eU (ao (aF mY (ao (aZ (jD (au aH (ak 0) (ak 2))) [none,some 1] (az 0) bg (au aH (ak 1) (ak 0))) aq)) aq)) aq))))
def uU:List D→aa→R D:=bW 3 false vN
def tF:ah :=
 (aD (aE 2 (aZ (bh (ao (aF aN (ao (ak 0) aq)) aq)) [none,some 0,some 1] (az 0) bg (aA 3 uU (ao (ak 1) (ao (ak 2) (ao (ak 0) aq)))))) (aD uA (aU (aZ (cS (ak 2)) [none,some 3] (az 0) bg (au pD (ak 1) (ak 0))))))
def nk:List D→aa→R D:=bW 6 false tF
def tG:ah :=
 (aD (aE 1 (au cL (aF aN (ao (ak 0) aq)) (dC (.int 2)))) (aU (au jd (aF mY (ao (nO (ak 0) nP (lR (ak 1))) aq)) (aF mY (ao (nO (ak 0) (lR (ak 1)) nP) aq)))))
def jz:List D→aa→R D:=bW 2 false tG
def tE:ah :=
 (aD (aE 2 (ak 1)) (aD (aE 3 (aA 2 nk (ao (ak 0) (ao (ak 2) aq)))) (aD (jo (gp (aI (aA 1 jz (ao (ak 3) aq))) (aI (au gY (kj (ao (ak 3) aq)) (kj (ao (ak 2) aq))))) (aD (aE 2 (ak 3)) (aE 3 (aA 2 nk (ao (ak 0) (ao (ak 2) aq))))) 40) (aU (ak 3)))))
def j4:List D→aa→R D:=bW 4 false tE
def sI:ah :=
 (aD (aE 3 (au bu (aF uR (ao (ak 0) aq)) (dC (.int 1)))) (aU (aZ (EZ (ao (ak 0) aq)) [none,none,some 3,some 1,some 2] (fU 2 (cV (az 0) (cV (az 1) gk))) bg (vH (aI (au inD (ak 0) (bQ (ao (ak 3) (ao (ak 4) aq))))) (ak 2) (ak 1)))))
def rL:List D→aa→R D:=bW 4 false sI
def vO:ah :=
 (aU (au jd (aZ (jD (au aH (ak 0) (ak 1))) [none,some 2] (az 0) (aI (au eL (ak 0) (ak 1))) (ak 0)) (aZ (jD (au aH (ak 0) (ak 2))) [none,some 1] (az 0) (aI (au eL (ak 0) (ak 1))) (ak 0))))
def rQ:List D→aa→R D:=bW 3 false vO
def tu:ah :=
 (aD (aE 2 (au cL (aF aN (ao (ak 0) aq)) (dC (.int 2)))) (aD (b9 (bh (ao (ak 2) aq)) (az 3) (br (e7 (aI (aF nV (ao (aZ (bh (ao (ak 2) aq)) [none,some 0,some 3,some 1] (az 0) (aI (au bG (au aH (ak 3) (ak 0)) (au aH (ak 3) (ak 2)))) (aA 3 rQ (ao (ak 1) (ao (ak 2) (ao (ak 0) aq))))) aq)))) (aU (ak 3)) bL)) (aU (dC .aG))))
def jy:List D→aa→R D:=bW 4 false tu
def sM:ah :=
 (aD (aE 1 (au cL (aF aN (ao (ak 0) aq)) (dC (.int 2)))) (aD (aE 2 (fh aq)) (aD (b9 (bh (ao (ak 1) aq)) (az 3) (aD (aE 4 (aZ (bh (ao (ak 1) aq)) [none,some 0,some 3,some 1] (az 0) (aI (au bG (au aH (ak 1) (au bu (ak 3) (ak 0))) (au aH (ak 1) (ak 2)))) (ak 0))) (cJ (lS (ak 2) (aF uP (ao (aZ (cS (ak 4)) [none,some 2] (az 0) (aI (au iJ (ak 0) (ak 1))) (ak 0)) aq)))))) (aU (aF eU (ao (ak 2) aq))))))
def uS:List D→aa→R D:=bW 5 false sM
def jF(m:List D→aa→R D):ah :=
 (aD (aE 2 (aA 2 j4 (ao (ak 0) (ao (ak 1) aq)))) (aD (br (e7 (aI (aA 1 jz (ao (ak 2) aq)))) (aU (dC .aG)) bL) (aD (aE 3 (aA 2 jy (ao (ak 0) (ao (ak 2) aq)))) (aD (br (aI (au ja (ak 3) (dC .aG))) (aU (aA 1 uS (ao (ak 2) aq))) bL) (aD (b9 (ff (ao (au cL (aF aN (ao (ak 0) aq)) (dC (.int 2))) (ao (aF aN (ao (ak 0) aq)) aq))) (az 4) (br (aI (au bG (au aH (ak 2) (ak 4)) (au aH (ak 2) (ak 3)))) (aD (aE 5 (aA 2 m (ao (ak 0) (ao (aA 3 rL (ao (ak 2) (ao (ak 3) (ao (ak 4) aq)))) aq)))) (br (aI (au lz (ak 5) (dC .aG))) (aU (ak 5)) bL)) bL)) (aU (dC .aG)))))))
def iM:Nat→List D→aa→R D
 |0=>fun _ _=>.bad
 |k+1=>bW 6 false (jF (iM k))
def sJ:ah :=
 (br (jE (aI (au gY (aF aN (ao (ak 0) aq)) (ak 2))) (gp (aI (au gY (aF aN (ao (ak 0) aq)) (ak 1))) (e7 (aI E5)))) AU bL)
def jv:List D→aa→R D:=bW 3 false sJ
def sL:ah :=
 (aD (cJ (aA 3 jv (ao (ak 0) (ao (dC (.int 12)) (ao (dC (.int 28)) aq))))) (aD (cJ (aA 3 jv (ao (ak 1) (ao (dC (.int 12)) (ao (dC (.int 28)) aq))))) (aD (br (aI (au eL (aF aN (ao (ak 0) aq)) (aF aN (ao (ak 1) aq)))) (aU (dC .aG)) bL) (aU (aA 2 (iM 14) (ao (aA 2 xX (ao (ak 0) (ao (ak 1) aq))) (ao (au rA (cH (ao (dC (.int 0)) aq)) (au dF (dC (.int 2)) (aF aN (ao (ak 0) aq)))) aq)))))))
def gU:List D→aa→R D:=bW 2 false sL
def pY:ah :=
 (aD (br (aI (au gJ (ak 1) (aF aN (ao (ak 0) aq)))) (aU (au aH (ak 0) (ak 1))) bL) (aU (dC (.int 0))))
def rP:List D→aa→R D:=bW 2 false pY
def pX:ah :=
 (aD (br (aI (au K9 (ak 0) (au rB (dC (.int 10)) (dC (.int 18))))) (aU (fh (ao (au ia (ak 0) (au rB (dC (.int 10)) (dC (.int 18)))) aq))) bL) (aD (aE 1 (dC (.int 0))) (aD (b9 (bh (ao (dC (.int 64)) aq)) (az 2) (aD (aE 3 (au cK (au dF (au bu (au bu (au cK (ak 0) (dC (.int 2147483629))) (au dF (dC (.int 7919)) (ak 2))) (dC (.int 1))) (dC (.int 48271))) (dC (.int 2147483647)))) (aD (aE 3 (au cK (au bu (au bu (au dF (ak 3) (ak 3)) (au dF (dC (.int 69621)) (ak 2))) (dC (.int 7))) (dC (.int 2147483587)))) (aE 1 (au bu (au dF (ak 1) (dC (.int 2147483587))) (ak 3)))))) (aU (fh (ao (ak 1) aq))))))
def rM:List D→aa→R D:=bW 4 true pX
def pW:ah :=
 (aD (aE 2 (au cK (au aH (ak 0) (dC (.int 0))) (ak 1))) (aD (ic (au cL (au aH (ak 0) (dC (.int 0))) (ak 1)) (iy (ak 0) (dC (.int 0)))) (aU (ak 2))))
def aY:List D→aa→R D:=bW 3 false pW
def sS:ah :=
 (aD (aE 2 (fh aq)) (aD (b9 (bh (ao (ak 1) aq)) (az 3) (cJ (vG (ak 2) (aA 2 aY (ao (ak 0) (ao (au bu (ak 3) (dC (.int 1))) aq))) (ak 3)))) (aU (aF eU (ao (ak 2) aq)))))
def ig:List D→aa→R D:=bW 4 false sS
def sW:ah :=
 (aD (aE 2 (aZ (bh (ao (ak 0) aq)) [none,some 0] (az 0) bg (au jU (cH (ao (dC (.bl false)) aq)) (ak 1)))) (aD (b9 (cS (ak 1)) (fU 2 (cV (az 3) (cV (az 4) gk))) (aD (ic (dC (.bl true)) (iy (au aH (ak 2) (ak 3)) (ak 4))) (ic (dC (.bl true)) (iy (au aH (ak 2) (ak 4)) (ak 3))))) (aU (ak 2))))
def jw:List D→aa→R D:=lP 5 sW
def sP:ah :=
 (aD (aE 2 (au bu (dC (.int 1)) (aA 2 aY (ao (ak 0) (ao (ak 1) aq))))) (aD (aE 3 (au bu (dC (.int 1)) (aA 2 aY (ao (ak 0) (ao (dC (.int 5)) aq))))) (aD (aE 4 (fh aq)) (aD (b9 (bh (ao (ak 2) aq)) (az 5) (cJ (eE (ak 4) (aZ (ff (ao (au bu (ak 5) (dC (.int 1))) (ao (ak 2) aq))) [none,some 5,some 3,some 0] (az 0) (aI (au gJ (aA 2 aY (ao (ak 3) (ao (dC (.int 6)) aq))) (ak 2))) (bQ (ao (ak 1) (ao (ak 0) aq))))))) (aU (aA 2 jw (ao (ak 2) (ao (ak 4) aq))))))))
def k7:List D→aa→R D:=bW 6 false sP
def sU:ah :=
 (aD (aE 2 (fh aq)) (aD (b9 (bh (ao (ak 0) aq)) (az 3) (b9 (ff (ao (au bu (ak 3) (dC (.int 1))) (ao (ak 0) aq))) (az 4) (br (aI (aF jj (ao (aZ (cS (au aH (ak 1) (ak 3))) [none,some 1,some 4] (az 0) bg (au inD (ak 0) (au aH (ak 1) (ak 2)))) aq))) (cJ (lS (ak 2) (bQ (ao (ak 3) (ao (ak 4) aq))))) bL))) (aU (ak 2))))
def j3:List D→aa→R D:=bW 5 false sU
def sR:ah :=
 (aD (aE 2 (aA 2 aY (ao (ak 0) (ao (dC (.int 6)) aq)))) (aD (aE 3 (au bu (dC (.int 1)) (aA 2 aY (ao (ak 0) (ao (ak 1) aq))))) (aD (aE 4 (fh aq)) (aD (br (aI (au bG (ak 2) (dC (.int 0)))) (aD (aE 5 (aZ (ff (ao (dC (.int 1)) (ao (au bu (au cL (ak 3) (dC (.int 2))) (dC (.int 1))) aq))) [none,some 0] (az 0) (aI (au bG (aA 2 aY (ao (ak 1) (ao (dC (.int 2)) aq))) (dC (.int 1)))) (ak 0))) (b9 (cS (ak 5)) (az 6) (cJ (eE (ak 4) (aZ (bh (ao (ak 3) aq)) [none,some 3,some 6] (az 0) bg (bQ (ao (ak 0) (ao (au cK (au bu (ak 0) (ak 2)) (ak 1)) aq)))))))) (br (aI (au bG (ak 2) (dC (.int 1)))) (aD (aE 7 (au aH (cH (ao (dC (.int 2)) (ao (dC (.int 3)) (ao (dC (.int 4)) (ao (dC (.int 5)) aq))))) (aA 2 aY (ao (ak 0) (ao (dC (.int 4)) aq))))) (aD (aE 8 (fh aq)) (aD (b9 (bh (ao (ak 7) aq)) (az 9) (cJ (eE (ak 8) (aZ (ff (ao (au bu (ak 9) (dC (.int 1))) (ao (ak 7) aq))) [none,some 9] (az 0) bg (cH (ao (ak 1) (ao (ak 0) aq))))))) (aD (aE 3 (aF fB (ao (aF aN (ao (ak 8) aq)) (ao (ak 1) aq)))) (aE 4 (aA 2 j3 (ao (ak 3) (ao (ak 8) aq)))))))) (br (aI (au gJ (ak 2) (dC (.int 4)))) (aD (aE 10 (au bu (dC (.int 1)) (aA 2 aY (ao (ak 0) (ao (aF fB (ao (dC (.int 4)) (ao (ak 1) aq))) aq))))) (aD (aE 11 (au bu (dC (.int 1)) (aA 2 aY (ao (ak 0) (ao (aF fB (ao (dC (.int 4)) (ao (au cL (ak 1) (ak 10)) aq))) aq))))) (aD (aE 3 (au dF (ak 10) (ak 11))) (aD (aE 8 (aZ (bh (ao (ak 3) aq)) [none,some 11] (az 0) bg (cH (ao (au cL (ak 0) (ak 1)) aq)))) (aD (br (aI (au bG (ak 2) (dC (.int 2)))) (aE 8 (aZ (bh (ao (ak 3) aq)) [none,some 11] (az 0) bg (cH (ao (au cL (ak 0) (ak 1)) (ao (au bu (dC (.int 10)) (au cK (ak 0) (ak 1))) aq))))) bL) (aE 4 (aA 2 j3 (ao (ak 3) (ao (ak 8) aq))))))))) (br (aI (au bG (ak 2) (dC (.int 4)))) (aD (aE 3 (aF fB (ao (ak 1) (ao (au aH (cH (ao (dC (.int 5)) (ao (dC (.int 13)) aq))) (aA 2 aY (ao (ak 0) (ao (dC (.int 2)) aq)))) aq)))) (aD (aE 12 (aZ (ff (ao (dC (.int 1)) (ao (ak 3) aq))) [none,some 3] (az 0) bg (au cK (au dF (ak 0) (ak 0)) (ak 1)))) (b9 (bh (ao (ak 3) aq)) (az 9) (cJ (eE (ak 4) (aZ (ff (ao (au bu (ak 9) (dC (.int 1))) (ao (ak 3) aq))) [none,some 9,some 12,some 3] (az 0) (aI (au inD (au cK (au ia (ak 0) (ak 1)) (ak 3)) (ak 2))) (bQ (ao (ak 1) (ao (ak 0) aq))))))))) (aD (aE 3 (aF fB (ao (dC (.int 8)) (ao (ak 1) aq)))) (aD (b9 (bh (ao (ak 3) aq)) (az 9) (cJ (eE (ak 4) (aZ (ff (ao (au bu (ak 9) (dC (.int 1))) (ao (ak 3) aq))) [none,some 9] (az 0) (aI (au inD (au ia (ak 0) (ak 1)) (bQ (ao (dC (.int 1)) (ao (dC (.int 2)) (ao (dC (.int 4)) aq)))))) (bQ (ao (ak 1) (ao (ak 0) aq))))))) (aE 4 (aZ (cS (ak 4)) [none,none] (fU 2 (cV (az 0) (cV (az 1) gk))) (aI (au bG (au vP (ak 0) (ak 1)) (ak 0))) (bQ (ao (ak 0) (ao (ak 1) aq))))))))))) (aU (aA 2 jw (ao (ak 3) (ao (ak 4) aq))))))))
def k8:List D→aa→R D:=bW 13 false sR
def sV:ah :=
 (aD (aE 2 (aF aN (ao (ak 0) aq))) (aD (aE 3 (aZ (bh (ao (ak 2) aq)) [none,some 2] (az 0) bg (au jU (cH (ao (dC (.bl false)) aq)) (ak 1)))) (aD (b9 (bh (ao (ak 2) aq)) (az 4) (b9 (bh (ao (ak 2) aq)) (az 5) (ic (au aH (au aH (ak 0) (ak 4)) (ak 5)) (iy (au aH (ak 3) (au aH (ak 1) (ak 4))) (au aH (ak 1) (ak 5)))))) (aU (ak 3)))))
def iL:List D→aa→R D:=lP 6 sV
def sO:ah :=
 (aD (aE 3 (aZ (cS (ak 0)) [none] (az 0) bg (aF pA (ao (ak 0) aq)))) (aD (ic (ki (au aH (au aH (ak 3) (ak 1)) (ak 2))) (iy (au aH (ak 3) (ak 1)) (ak 2))) (aD (ic (ki (au aH (au aH (ak 3) (ak 2)) (ak 1))) (iy (au aH (ak 3) (ak 2)) (ak 1))) (aU (ak 3)))))
def jZ:List D→aa→R D:=lP 4 sO
def sZ:ah :=
 (aD (aE 1 (aF aN (ao (ak 0) aq))) (aU (aZ (bh (ao (ak 1) aq)) [none,some 1,some 0] (az 0) bg (aZ (bh (ao (ak 1) aq)) [none,some 0,some 2] (az 0) bg (jg (au eL (ak 1) (ak 0)) (ki (au aH (au aH (ak 2) (ak 1)) (ak 0))))))))
def k9:List D→aa→R D:=bW 2 false sZ
def sY:ah :=
 (aD (br (aI (au gJ (aA 2 aY (ao (ak 0) (ao (dC (.int 5)) aq))) (dC (.int 2)))) (aE 2 (aA 2 k7 (ao (ak 0) (ao (ak 1) aq)))) (aE 2 (aA 2 k8 (ao (ak 0) (ao (ak 1) aq))))) (aD (aE 3 (aF aN (ao (ak 2) aq))) (aD (br (aI (au bG (aA 2 aY (ao (ak 0) (ao (dC (.int 3)) aq))) (dC (.int 0)))) (aE 2 (aA 1 k9 (ao (ak 2) aq))) bL) (aD (br (gp (aI (au gY (ak 3) (dC (.int 1)))) (aI (au bG (aA 2 aY (ao (ak 0) (ao (dC (.int 4)) aq))) (dC (.int 0))))) (aD (aE 4 (aA 2 aY (ao (ak 0) (ao (ak 3) aq)))) (aE 2 (aA 3 jZ (ao (ak 2) (ao (ak 4) (ao (au cK (au bu (au bu (ak 4) (dC (.int 1))) (aA 2 aY (ao (ak 0) (ao (au ia (ak 3) (dC (.int 1))) aq)))) (ak 3)) aq)))))) bL) (aU (aA 2 iL (ao (ak 2) (ao (aA 2 ig (ao (ak 0) (ao (ak 3) aq))) aq))))))))
def jx:List D→aa→R D:=bW 5 false sY
def sQ:ah :=
 (aU (aF eU (ao (aZ (cS (ak 0)) [none,some 0] (az 0) bg (aF eU (ao (aZ (bh (ao (aF aN (ao (ak 1) aq)) aq)) [none,some 0] (az 0) (aI (au aH (ak 1) (ak 0))) (ak 0)) aq))) aq)))
def gA:List D→aa→R D:=bW 1 false sQ
def sN:ah :=
 (aU (jg (aF b7 (ao (ak 0) (ao (dC (.ty "int")) aq))) (ki (aF b7 (ao (ak 0) (ao (dC (.ty "bool")) aq))))))
def xY:List D→aa→R D:=bW 1 false sN
def lT(m:List D→aa→R D):ah :=
 (aD (br (aI (au ja (ak 1) (dC .aG))) (aU (au ja (ak 0) (dC .aG))) bL) (aD (br (aI (aF b7 (ao (ak 1) (ao (dC (.ty "bool")) aq)))) (aU (jg (aF b7 (ao (ak 0) (ao (dC (.ty "bool")) aq))) (au bG (ak 0) (ak 1)))) bL) (aD (br (aI (aF b7 (ao (ak 1) (ao (dC (.ty "int")) aq)))) (aU (jg (aA 1 xY (ao (ak 0) aq)) (au bG (ak 0) (ak 1)))) bL) (aD (br (aI (aF b7 (ao (ak 1) (ao (dC (.ty "str")) aq)))) (aU (jg (aF b7 (ao (ak 0) (ao (dC (.ty "str")) aq))) (au bG (ak 0) (ak 1)))) bL) (aD (br (jE (aI (au eL (aF b7 (ao (ak 1) (ao (dC (.ty "tuple")) aq))) (aF b7 (ao (ak 0) (ao (dC (.ty "tuple")) aq))))) (aI (au eL (aF b7 (ao (ak 1) (ao (dC (.ty "list")) aq))) (aF b7 (ao (ak 0) (ao (dC (.ty "list")) aq)))))) (aU (dC (.bl false))) bL) (aU (jg (au bG (aF aN (ao (ak 0) aq)) (aF aN (ao (ak 1) aq))) (aF nV (ao (aZ (vE (ao (ak 0) (ao (ak 1) aq))) [none,none] (fU 2 (cV (az 0) (cV (az 1) gk))) bg (aA 2 m (ao (ak 0) (ao (ak 1) aq)))) aq)))))))))
def gy:Nat→List D→aa→R D
 |0=>fun _ _=>.bad
 |k+1=>bW 2 false (lT (gy k))
def sX:ah :=
 (aD (aE 3 (aF aN (ao (ak 0) aq))) (aD (b9 (bh (ao (ak 3) aq)) (az 4) (br (aI (aF jj (ao (aZ (bh (ao (ak 4) aq)) [none,some 0,some 4,some 1,some 2] (az 0) bg (au eL (au aH (au aH (ak 1) (ak 2)) (ak 0)) (au aH (au aH (ak 3) (au aH (ak 4) (ak 2))) (au aH (ak 4) (ak 0))))) aq))) (aU (dC (.bl false))) bL)) (aU (dC (.bl true)))))
def uV:List D→aa→R D:=bW 5 false sX
def kC(m:List D→aa→R D):ah :=
 (aD (aE 3 (aF aN (ao (ak 2) aq))) (aD (br (aI (au bG (ak 3) (aF aN (ao (ak 0) aq)))) (aU (aF eU (ao (ak 2) aq))) bL) (aD (b9 (bh (ao (aF aN (ao (ak 0) aq)) aq)) (az 4) (aD (aE 5 (jg (au iJ (ak 4) (ak 2)) (au bG (iN (au aH (ak 0) (ak 3)) (dC (.bl true))) (iN (au aH (ak 1) (ak 4)) (dC (.bl true)))))) (br (gp (vF (ak 5)) (aI (au jd (aZ (cS (ak 2)) [none,some 1,some 4] (az 0) bg (au aH (au aH (ak 1) (ak 2)) (ak 0))) (nO (au aH (ak 0) (ak 3)) nP (lR (ak 3)))))) (aD (aE 6 (aA 3 m (ao (ak 0) (ao (ak 1) (ao (au pT (ak 2) (cH (ao (ak 4) aq))) aq))))) (br (aI (au lz (ak 6) (dC .aG))) (aU (ak 6)) bL)) bL))) (aU (dC .aG)))))
def gV:Nat→List D→aa→R D
 |0=>fun _ _=>.bad
 |k+1=>bW 7 false (kC (gV k))
def nU:ah :=
 (aD (aE 1 (aA 2 jx (ao (ak 0) (ao (dC (.int 12)) aq)))) (aD (aE 2 (aA 2 ig (ao (ak 0) (ao (aF aN (ao (ak 1) aq)) aq)))) (aD (aE 3 (aA 2 iL (ao (ak 1) (ao (ak 2) aq)))) (aD (aE 4 (aA 2 gU (ao (aA 1 gA (ao (ak 1) aq)) (ao (aA 1 gA (ao (ak 3) aq)) aq)))) (aD (br (jE (e7 (aI (aF b7 (ao (ak 4) (ao (dC (.ty "tuple")) aq))))) (jE (aI (au oY (aF mX (ao (ak 4) aq)) (pQ (ao (aF aN (ao (ak 1) aq)) aq)))) (aI (au pN (ak 4) (ak 2))))) (aU (dC (.bl false))) bL) (aU (aA 3 uV (ao (ak 1) (ao (ak 3) (ao (ak 4) aq))))))))))
def rO:List D→aa→R D:=bW 5 false nU
def pZ:ah :=
 (aD (b9 (bh (ao (aF rK (ao (dC (.int 1)) (ao (aF fB (ao (aF aN (ao (ak 0) aq)) (ao (dC (.int 8)) aq))) aq))) aq)) (az 1) (aD (aE 2 (aA 1 rM (ao (aA 2 rP (ao (ak 0) (ao (ak 1) aq))) aq))) (aD (aE 3 (aA 2 jx (ao (ak 2) (ao (dC (.int 8)) aq)))) (aD (aE 4 (aA 2 iL (ao (ak 3) (ao (aA 2 ig (ao (ak 2) (ao (aF aN (ao (ak 3) aq)) aq))) aq)))) (aD (br (aI (au bG (aA 2 aY (ao (ak 2) (ao (dC (.int 3)) aq))) (dC (.int 0)))) (aE 4 (aA 2 jx (ao (ak 2) (ao (dC (.int 8)) aq)))) bL) (aD (aE 5 (dC .aG)) (aD (br (aI (au bG (aF aN (ao (ak 3) aq)) (aF aN (ao (ak 4) aq)))) (aE 5 (aA 3 (gV 10) (ao (ak 3) (ao (ak 4) (ao (cH aq) aq))))) bL) (aD (br (e7 (aI (aA 2 (gy 3) (ao (aA 2 gU (ao (aA 1 gA (ao (ak 3) aq)) (ao (aA 1 gA (ao (ak 4) aq)) aq))) (ao (ak 5) aq))))) (aU (dC (.bl false))) bL) (br (gp (aI (au gJ (ak 1) (dC (.int 2)))) (e7 (aI (aA 1 rO (ao (ak 2) aq))))) (aU (dC (.bl false))) bL))))))))) (aU (au ja (aA 2 gU (ao (bQ (ao (bQ aq) aq)) (ao (bQ (ao (bQ aq) (ao (bQ aq) aq))) aq))) (dC .aG))))
def uW:List D→aa→R D:=bW 6 false pZ
end Ev
namespace Ev
open PySem L2 PyProof.Rows
set_option genInjectivity false in
set_option genSizeOfSpec false in
structure Tx (K:PySem.W.Frag) (mg:Str→Option Value) where
 l5:Addr
 D4:FuncData
 EJ:Def K mg "moved_on" qA ["row","many"] l5 D4
 X8:PySem.W.nsIn K mainGlobals "moved_on"=some (some (.ref l5))
 lW:Addr
 DX:FuncData
 EG:Def K mg "side_by_side" qv ["one","other"] lW DX
 XX:PySem.W.nsIn K mainGlobals "side_by_side"=some (some (.ref lW))
 l6:Addr
 D5:FuncData
 EK:Def K mg "look_of" qB ["both","colours","place"] l6 D5
 Yb:PySem.W.nsIn K mainGlobals "look_of"=some (some (.ref l6))
 mP:Addr
 Es:FuncData
 zp:Def K mg "finer_colours" qY ["both","colours"] mP Es
 Yz:PySem.W.nsIn K mainGlobals "finer_colours"=some (some (.ref mP))
 mR:Addr
 Eu:FuncData
 zq:Def K mg "are_shared" rj ["colours"] mR Eu
 YB:PySem.W.nsIn K mainGlobals "are_shared"=some (some (.ref mR))
 mO:Addr
 Er:FuncData
 EX:Def K mg "finest_colours" qX ["both","colours"] mO Er
 Yy:PySem.W.nsIn K mainGlobals "finest_colours"=some (some (.ref mO))
 lX:Addr
 DY:FuncData
 EH:Def K mg "set_apart" qw ["colours","one","other"] lX DY
 XY:PySem.W.nsIn K mainGlobals "set_apart"=some (some (.ref lX))
 mQ:Addr
 Et:FuncData
 EY:Def K mg "are_twins" qZ ["web","one","other"] mQ Et
 YA:PySem.W.nsIn K mainGlobals "are_twins"=some (some (.ref mQ))
 mL:Addr
 Ep:FuncData
 EW:Def K mg "first_open" qW ["both","colours"] mL Ep
 Yx:PySem.W.nsIn K mainGlobals "first_open"=some (some (.ref mL))
 l0:Addr
 D3:FuncData
 EI:Def K mg "order_by" qz ["colours"] l0 D3
 X7:PySem.W.nsIn K mainGlobals "order_by"=some (some (.ref l0))
 kG:Addr
 yy:FuncData
 zo:Def K mg "first_order" qV ["both","colours"] kG yy
 Yw:PySem.W.nsIn K mainGlobals "first_order"=some (some (.ref kG))
 lY:Addr
 DZ:FuncData
 zh:Def K mg "require_few" qx ["web","most","most_even"] lY DZ
 XZ:PySem.W.nsIn K mainGlobals "require_few"=some (some (.ref lY))
 lZ:Addr
 D0:FuncData
 vA:Def K mg "order_to" qy ["one","other"] lZ D0
 X0:PySem.W.nsIn K mainGlobals "order_to"=some (some (.ref lZ))
 mH:Addr
 Ek:FuncData
 EU:Def K mg "_law_cell_at" qR ["script","k"] mH Ek
 Ys:PySem.W.nsIn K mainGlobals "_law_cell_at"=some (some (.ref mH))
 mq:Addr
 Eb:FuncData
 EO:Def K mg "_law_pot" qI ["cell"] mq Eb
 Yj:PySem.W.nsIn K mainGlobals "_law_pot"=some (some (.ref mq))
 l9:Addr
 D8:FuncData
 fW:Def K mg "_law_take" qE ["pot","far"] l9 D8
 Ye:PySem.W.nsIn K mainGlobals "_law_take"=some (some (.ref l9))
 mz:Addr
 Ed:FuncData
 vB:Def K mg "_law_order" qK ["pot","wide"] mz Ed
 Yl:PySem.W.nsIn K mainGlobals "_law_order"=some (some (.ref mz))
 mE:Addr
 Eh:FuncData
 zl:Def K mg "_law_joined" qN ["many","wanted"] mE Eh
 Yo:PySem.W.nsIn K mainGlobals "_law_joined"=some (some (.ref mE))
 mh:Addr
 D9:FuncData
 EN:Def K mg "_law_scattered" qF ["pot","most"] mh D9
 Yg:PySem.W.nsIn K mainGlobals "_law_scattered"=some (some (.ref mh))
 mC:Addr
 Ef:FuncData
 zk:Def K mg "_law_near" qL ["many","marks"] mC Ef
 Ym:PySem.W.nsIn K mainGlobals "_law_near"=some (some (.ref mC))
 mw:Addr
 Ec:FuncData
 ER:Def K mg "_law_plain" qJ ["pot","most"] mw Ec
 Yk:PySem.W.nsIn K mainGlobals "_law_plain"=some (some (.ref mw))
 mD:Addr
 Eg:FuncData
 vC:Def K mg "_law_moved" qM ["table","order"] mD Eg
 Yn:PySem.W.nsIn K mainGlobals "_law_moved"=some (some (.ref mD))
 l8:Addr
 D7:FuncData
 EM:Def K mg "_law_toggled" qD ["table","one","other"] l8 D7
 Yd:PySem.W.nsIn K mainGlobals "_law_toggled"=some (some (.ref l8))
 mK:Addr
 Em:FuncData
 EV:Def K mg "_law_about" qT ["table"] mK Em
 Yu:PySem.W.nsIn K mainGlobals "_law_about"=some (some (.ref mK))
 mJ:Addr
 El:FuncData
 vD:Def K mg "_law_built" qS ["pot","most"] mJ El
 Yt:PySem.W.nsIn K mainGlobals "_law_built"=some (some (.ref mJ))
 mj:Addr
 Ea:FuncData
 sE:Def K mg "_law_rows" qH ["table"] mj Ea
 Yi:PySem.W.nsIn K mainGlobals "_law_rows"=some (some (.ref mj))
 l7:Addr
 D6:FuncData
 EL:Def K mg "_law_whole" qC ["found"] l7 D6
 Yc:PySem.W.nsIn K mainGlobals "_law_whole"=some (some (.ref l7))
 kD:Addr
 yw:FuncData
 zj:Def K mg "_law_same" qG ["found","due"] kD yw
 Yh:PySem.W.nsIn K mainGlobals "_law_same"=some (some (.ref kD))
 mF:Addr
 Ei:FuncData
 ES:Def K mg "_law_is_led" qO ["one","other","order"] mF Ei
 Yp:PySem.W.nsIn K mainGlobals "_law_is_led"=some (some (.ref mF))
 kE:Addr
 yx:FuncData
 zm:Def K mg "_law_first_order" qP ["one","other","images"] kE yx
 Yq:PySem.W.nsIn K mainGlobals "_law_first_order"=some (some (.ref kE))
 mG:Addr
 Ej:FuncData
 ET:Def K mg "_law_far_right" qQ ["pot"] mG Ej
 Yr:PySem.W.nsIn K mainGlobals "_law_far_right"=some (some (.ref mG))
 kF:Addr
 Eo:FuncData
 LK:Def K mg "law" qU ["script"] kF Eo
 Yv:PySem.W.nsIn K mainGlobals "law"=some (some (.ref kF))
 BF:mg "all"=none
 BE:mg "any"=none
 xU:mg "bool"=none
 BD:mg "enumerate"=none
 BC:mg "int"=none
 iK:mg "isinstance"=none
 cW:mg "len"=none
 uN:mg "list"=none
 BB:mg "max"=none
 ni:mg "min"=none
 cO:mg "range"=none
 xT:mg "set"=none
 rH:mg "sorted"=none
 BA:mg "str"=none
 i9:mg "tuple"=none
 Jm:mg "zip"=none
 uc:Tok
 DQ:mg "MOST_EVEN_LED"=some (.int 28 uc)
 ua:Tok
 DP:mg "MOST_LED"=some (.int 12 ua)
section
variable {P:Program}{w:World}{K:PySem.W.Frag}{mg:Str→Option Value}{base:Heap}
theorem RD:cM ["row","many"] ["row","many"] (bf qA):=⟨rfl,rfl,rfl,by decide +kernel,rfl,by decide +kernel,by decide +kernel⟩
theorem Vx(T:Tx K mg):bY P w K mg base bU 1 T.l5 T.D4 ["row","many"] (cC K 2 uT) :=
 dR (k:=0) T.EJ.fn RD rfl rfl fun cdv A outer s H E hr=>by
  show cy _ _ vM
  unfold vM
  exact(aW (bT (kU nS T.i9 ait (ay (eY (N':=["place","many"]) (pick:=[none,some 1]) (cz.of rfl rfl) (u5 (av 0)) (fun _ _ _ _ _ _=>(bO (i:=0) (hN:=(by decide +kernel:List.Nodup (["place","many"]:List Str))))) (fun _ _ _ _ _ _=>fy) (fun _ _ _ _ _ _=>(bC eG (av 1) (av 0)))) aB))))
theorem Ry:cM ["one","other"] ["one","other"] (bf qv):=⟨rfl,rfl,rfl,by decide +kernel,rfl,by decide +kernel,by decide +kernel⟩
theorem Vt(T:Tx K mg):bY P w K mg base bU 2 T.lW T.DX ["one","other"] (cC K 2 xX) :=
 dR (k:=1) T.EG.fn Ry rfl rfl fun cdv A outer s H E hr=>by
  show cy _ _ vL
  unfold vL
  exact(aW (bT (bC Ww (av 0) (kU nS T.i9 ait (ay (eY (N':=["row","one"]) (pick:=[none,some 0]) (cz.of rfl rfl) (u5 (av 1)) (fun _ _ _ _ _ _=>(bO (i:=0) (hN:=(by decide +kernel:List.Nodup (["row","one"]:List Str))))) (fun _ _ _ _ _ _=>fy) (fun _ _ _ _ _ _=>(bz T.EJ (Vx T) (hr.mono (by decide)) (ay (av 0) (ay (bF dN T.cW ahF (ay (av 1) aB)) aB))))) aB)))))
theorem RG:cM ["both","colours","place"] ["both","colours","place"] (bf qB):=⟨rfl,rfl,rfl,by decide +kernel,rfl,by decide +kernel,by decide +kernel⟩
theorem Vy(T:Tx K mg):bY P w K mg base bU 1 T.l6 T.D5 ["both","colours","place"] (cC K 3 uU) :=
 dR (k:=0) T.EK.fn RG rfl rfl fun cdv A outer s H E hr=>by
  show cy _ _ vN
  unfold vN
  exact(aW (bT (ie (ay (bZ cg (av 1) (av 2)) (ay (kU nS T.i9 ait (ay (bF Fe T.rH (by decide +kernel) (ay (eY (N':=["near","colours"]) (pick:=[none,some 1]) (cz.of rfl rfl) (u5 (bZ cg (av 0) (av 2))) (fun _ _ _ _ _ _=>(bO (i:=0) (hN:=(by decide +kernel:List.Nodup (["near","colours"]:List Str))))) (fun _ _ _ _ _ _=>fy) (fun _ _ _ _ _ _=>(bZ cg (av 1) (av 0)))) aB)) aB)) aB)))))
theorem ux:cM ["both","colours","looks","numbered","number","look"] ["both","colours"] (bf qY):=⟨rfl,rfl,rfl,by decide +kernel,rfl,by decide +kernel,by decide +kernel⟩
theorem IM(T:Tx K mg):bY P w K mg base bU 2 T.mP T.Es ["both","colours"] (cC K 2 nk) :=
 dR (k:=1) T.zp.fn ux rfl rfl fun cdv A outer s H E hr=>by
  have hu:=ak3 (aaL hr)
  show cy _ _ tF
  unfold tF
  refine aT (kQ (i:=2) (hN:=ux.nd) (N':=["place","both","colours"]) (pick:=[none,some 0,some 1]) (cz.of rfl rfl) (eg (ay (bF dN T.cW ahF (ay (av 0) aB)) aB) T.cO) (fun _ _ _ _ _ _=>(bO (i:=0) (hN:=(by decide +kernel:List.Nodup (["place","both","colours"]:List Str))))) (fun _ _ _ _ _ _=>fy) (fun _ _ _ _ _ _=>(bz T.EK (Vy T) (hr.mono (by decide)) (ay (av 1) (ay (av 2) (ay (av 0) aB)))))) ?_
  exact(Rr (HX (i:=3) ux.nd rfl (by first|exact Or.inl rfl|exact Or.inr rfl) UI) (HY ak2 rfl (Ig rfl T.BD (jr (A9 (adM (gW hr)) rfl T.rH (by decide +kernel) (jr (uF (adN (gW hr)) rfl T.xT (by decide +kernel) (jr (pv 2) jX (eV rfl)) (by decide) (by decide) (eV rfl) (iE rfl)) jX (eV rfl)) (by decide) (by decide) (eV rfl) (iE rfl)) jX (eV rfl)) (oz rfl)) (Ii rfl (A6 (A7 (i:=4) ux.nd rfl (by first|exact Or.inl rfl|exact Or.inr rfl)) (A6 (A7 (i:=5) ux.nd rfl (by first|exact Or.inl rfl|exact Or.inr rfl)) Ih))) (HW (S9 (gW hr) (pv 3) (pv 5) (pv 4) rfl))) (aW (bT (eY (N':=["look","numbered"]) (pick:=[none,some 3]) (cz.of rfl rfl) (lF (av 2)) (fun _ _ _ _ _ _=>(bO (i:=0) (hN:=(by decide +kernel:List.Nodup (["look","numbered"]:List Str))))) (fun _ _ _ _ _ _=>fy) (fun _ _ _ _ _ _=>(bZ (aai (gW hr)) (av 1) (av 0)))))))
theorem HD:cM ["colours","many"] ["colours"] (bf rj):=⟨rfl,rfl,rfl,by decide +kernel,rfl,by decide +kernel,by decide +kernel⟩
theorem IP(T:Tx K mg):bY P w K mg base bU 1 T.mR T.Eu ["colours"] (cC K 1 jz) :=
 dR (k:=0) T.zq.fn HD rfl rfl fun cdv A outer s H E hr=>by
  show cy _ _ tG
  unfold tG
  refine aT (bI (i:=1) (bC kY (bF dN T.cW ahF (ay (av 0) aB)) aX) (hN:=HD.nd)) ?_
  exact(aW (bT (iH (Bo (gW hr)) (bF Fe T.rH (by decide +kernel) (ay (Ba (av 0) A3 (A2 (av 1))) aB)) (bF Fe T.rH (by decide +kernel) (ay (Ba (av 0) (A2 (av 1)) A3) aB)))))
theorem uw:cM ["both","colours","coarse","fine"] ["both","colours"] (bf qX):=⟨rfl,rfl,rfl,by decide +kernel,rfl,by decide +kernel,by decide +kernel⟩
theorem VL(T:Tx K mg):bY P w K mg base bU 3 T.mO T.Er ["both","colours"] (cC K 2 j4) :=
 dR (k:=2) T.EX.fn uw rfl rfl fun cdv A outer s H E hr=>by
  show cy _ _ tE
  unfold tE
  refine aT (bI (i:=2) (av 1) (hN:=uw.nd)) ?_
  refine aT (bI (i:=3) (bz T.zp (IM T) (hr.mono (by decide)) (ay (av 0) (ay (av 2) aB))) (hN:=uw.nd)) ?_
  refine aT (Rq (n:=40) (PW.pt (uI (iI (bz T.zq (IP T) (hr.mono (by decide)) (ay (av 3) aB))) (uJ (cE xH (Io (ay (av 3) aB) T.cW T.xT) (Io (ay (av 2) aB) T.cW T.xT))))) (aT (bI (i:=2) (av 3) (hN:=uw.nd)) (aW (bI (i:=3) (bz T.zp (IM T) (hr.mono (by decide)) (ay (av 0) (ay (av 2) aB))) (hN:=uw.nd))))) ?_
  exact(aW (bT (av 3)))
theorem Hz:cM ["colours","one","other","fresh"] ["colours","one","other"] (bf qw):=⟨rfl,rfl,rfl,by decide +kernel,rfl,by decide +kernel,by decide +kernel⟩
theorem Vu(T:Tx K mg):bY P w K mg base bU 1 T.lX T.DY ["colours","one","other"] (cC K 3 rL) :=
 dR (k:=0) T.EH.fn Hz rfl rfl fun cdv A outer s H E hr=>by
  show cy _ _ sI
  unfold sI
  refine aT (bI (i:=3) (bC eG (bF ad3 T.BB boot_max (ay (av 0) aB)) aX) (hN:=Hz.nd)) ?_
  exact(aW (bT (eY (N':=["place","colour","fresh","one","other"]) (pick:=[none,none,some 3,some 1,some 2]) (cz.of rfl rfl) (aaB (ay (av 0) aB) T.BD) (fun _ _ _ _ _ _=>(ym (n:=2) (nJ (bO (i:=0) (hN:=(by decide +kernel:List.Nodup (["place","colour","fresh","one","other"]:List Str)))) (nJ (bO (i:=1) (hN:=(by decide +kernel:List.Nodup (["place","colour","fresh","one","other"]:List Str)))) yk)))) (fun _ _ _ _ _ _=>fy) (fun _ _ _ _ _ _=>(UT (cE (xG (gW hr)) (av 0) (ie (ay (av 3) (ay (av 4) aB)))) (av 2) (av 1))))))
theorem RM:cM ["web","one","other"] ["web","one","other"] (bf qZ):=⟨rfl,rfl,rfl,by decide +kernel,rfl,by decide +kernel,by decide +kernel⟩
theorem VM(T:Tx K mg):bY P w K mg base bU 1 T.mQ T.Et ["web","one","other"] (cC K 3 rQ) :=
 dR (k:=0) T.EY.fn RM rfl rfl fun cdv A outer s H E hr=>by
  show cy _ _ vO
  unfold vO
  exact(aW (bT (iH (Bo (gW hr)) (eY (N':=["near","other"]) (pick:=[none,some 2]) (cz.of rfl rfl) (u5 (bZ cg (av 0) (av 1))) (fun _ _ _ _ _ _=>(bO (i:=0) (hN:=(by decide +kernel:List.Nodup (["near","other"]:List Str))))) (fun _ _ _ _ _ _=>(jq (cE oU (av 0) (av 1)))) (fun _ _ _ _ _ _=>(av 0))) (eY (N':=["near","one"]) (pick:=[none,some 1]) (cz.of rfl rfl) (u5 (bZ cg (av 0) (av 2))) (fun _ _ _ _ _ _=>(bO (i:=0) (hN:=(by decide +kernel:List.Nodup (["near","one"]:List Str))))) (fun _ _ _ _ _ _=>(jq (cE oU (av 0) (av 1)))) (fun _ _ _ _ _ _=>(av 0))))))
theorem AO:cM ["both","colours","many","one"] ["both","colours"] (bf qW):=⟨rfl,rfl,rfl,by decide +kernel,rfl,by decide +kernel,by decide +kernel⟩
theorem VJ(T:Tx K mg):bY P w K mg base bU 2 T.mL T.Ep ["both","colours"] (cC K 2 jy) :=
 dR (k:=1) T.EW.fn AO rfl rfl fun cdv A outer s H E hr=>by
  show cy _ _ tu
  unfold tu
  refine aT (bI (i:=2) (bC kY (bF dN T.cW ahF (ay (av 0) aB)) aX) (hN:=AO.nd)) ?_
  refine aT (gc (eg (ay (av 2) aB) T.cO) (bO (i:=3) (hN:=AO.nd)) (aW (c7 (rD (iI (bF MI T.BF boot_all (ay (eY (N':=["other","both","one","colours"]) (pick:=[none,some 0,some 3,some 1]) (cz.of rfl rfl) (eg (ay (av 2) aB) T.cO) (fun _ _ _ _ _ _=>(bO (i:=0) (hN:=(by decide +kernel:List.Nodup (["other","both","one","colours"]:List Str))))) (fun _ _ _ _ _ _=>(jq (cE fQ (bZ cg (av 3) (av 0)) (bZ cg (av 3) (av 2))))) (fun _ _ _ _ _ _=>(bz T.EY (VM T) (hr.mono (by decide)) (ay (av 1) (ay (av 2) (ay (av 0) aB)))))) aB)))) (aW (bT (av 3))) dX))) ?_
  exact(aW (bT i6))
theorem uh:cM ["colours","many","order","place","there"] ["colours"] (bf qz):=⟨rfl,rfl,rfl,by decide +kernel,rfl,by decide +kernel,by decide +kernel⟩
theorem Vw(T:Tx K mg):bY P w K mg base bU 1 T.l0 T.D3 ["colours"] (cC K 1 uS) :=
 dR (k:=0) T.EI.fn uh rfl rfl fun cdv A outer s H E hr=>by
  show cy _ _ sM
  unfold sM
  refine aT (bI (i:=1) (bC kY (bF dN T.cW ahF (ay (av 0) aB)) aX) (hN:=uh.nd)) ?_
  refine aT (bI (i:=2) (nc aB) (hN:=uh.nd)) ?_
  refine aT (gc (eg (ay (av 1) aB) T.cO) (bO (i:=3) (hN:=uh.nd)) (aT (kQ (i:=4) (hN:=uh.nd) (N':=["other","colours","place","many"]) (pick:=[none,some 0,some 3,some 1]) (cz.of rfl rfl) (eg (ay (av 1) aB) T.cO) (fun _ _ _ _ _ _=>(bO (i:=0) (hN:=(by decide +kernel:List.Nodup (["other","colours","place","many"]:List Str))))) (fun _ _ _ _ _ _=>(jq (cE fQ (bZ cg (av 1) (bC eG (av 3) (av 0))) (bZ cg (av 1) (av 2))))) (fun _ _ _ _ _ _=>(av 0))) (aW (jR (Iq (av 2) (bF ad2 T.ni ai9 (ay (eY (N':=["other","order"]) (pick:=[none,some 2]) (cz.of rfl rfl) (lF (av 4)) (fun _ _ _ _ _ _=>(bO (i:=0) (hN:=(by decide +kernel:List.Nodup (["other","order"]:List Str))))) (fun _ _ _ _ _ _=>(jq (cE (IU (gW hr)) (av 0) (av 1)))) (fun _ _ _ _ _ _=>(av 0))) aB))))))) ?_
  exact(aW (bT (kU nS T.i9 ait (ay (av 2) aB))))
theorem uv:cM ["both","colours","fine","one","other","order"] ["both","colours"] (bf qV):=⟨rfl,rfl,rfl,by decide +kernel,rfl,by decide +kernel,by decide +kernel⟩
theorem IL(T:Tx K mg):∀j:Nat,bY P w K mg base bU (4+j) T.kG T.yy ["both","colours"] (cC K 2 (iM j))
 |0=>⟨fun vs H Q E h=>by obtain⟨_,_,_,_,_,_,p⟩:=h;exact p.elim,fun A outer s H args us vs Q E hr he hb hv h=>by obtain⟨_,_,_,_,_,_,p⟩:=h;exact p.elim⟩
 |j+1=>dR (k:=4+j) T.zo.fn uv rfl rfl fun cdv A outer s H E hr=>by
  have ih:bY P w K mg base bU (4+j) T.kG T.yy ["both","colours"] (cC K 2 (iM j)):=IL T j
  show cy _ _ (jF (iM j))
  unfold jF
  generalize iM j=m at ih ⊢
  refine aT (bI (i:=2) (bz T.EX (VL T) (hr.mono (by omega)) (ay (av 0) (ay (av 1) aB))) (hN:=uv.nd)) ?_
  refine aT (c7 (rD (iI (bz T.zq (IP T) (hr.mono (by omega)) (ay (av 2) aB)))) (aW (bT i6)) dX) ?_
  refine aT (bI (i:=3) (bz T.EW (VJ T) (hr.mono (by omega)) (ay (av 0) (ay (av 2) aB))) (hN:=uv.nd)) ?_
  refine aT (c7 (cE xF (av 3) i6) (aW (bT (bz T.EI (Vw T) (hr.mono (by omega)) (ay (av 2) aB)))) dX) ?_
  refine aT (gc (nA (ay (bC kY (bF dN T.cW ahF (ay (av 0) aB)) aX) (ay (bF dN T.cW ahF (ay (av 0) aB)) aB)) T.cO) (bO (i:=4) (hN:=uv.nd)) (aW (c7 (cE fQ (bZ cg (av 2) (av 4)) (bZ cg (av 2) (av 3))) (aT (bI (i:=5) (bz T.zo ih (hr.mono (by omega)) (ay (av 0) (ay (bz T.EH (Vu T) (hr.mono (by omega)) (ay (av 2) (ay (av 3) (ay (av 4) aB)))) aB))) (hN:=uv.nd)) (aW (c7 (cE IV (av 5) i6) (aW (bT (av 5))) dX))) dX))) ?_
  exact(aW (bT i6))
theorem Rz:cM ["web","most","most_even"] ["web","most","most_even"] (bf qx):=⟨rfl,rfl,rfl,by decide +kernel,rfl,by decide +kernel,by decide +kernel⟩
theorem IF(T:Tx K mg):bY P w K mg base bU 1 T.lY T.DZ ["web","most","most_even"] (cC K 3 jv) :=
 dR (k:=0) T.zh.fn Rz rfl rfl fun cdv A outer s H E hr=>by
  show cy _ _ sJ
  unfold sJ
  exact(aW (c7 (PW.pt (xq (cE xH (bF dN T.cW ahF (ay (av 0) aB)) (av 2)) (Bb (PW.pt (uI (cE xH (bF dN T.cW ahF (ay (av 0) aB)) (av 1)) (uJ (rD (iI UQ)))))))) (aW Rt) dX))
theorem RC:cM ["one","other"] ["one","other"] (bf qy):=⟨rfl,rfl,rfl,by decide +kernel,rfl,by decide +kernel,by decide +kernel⟩
theorem Bj(T:Tx K mg):bY P w K mg base bU 19 T.lZ T.D0 ["one","other"] (cC K 2 gU) :=
 dR (k:=18) T.vA.fn RC rfl rfl fun cdv A outer s H E hr=>by
  show cy _ _ sL
  unfold sL
  refine aT (jR (bz T.zh (IF T) (hr.mono (by decide)) (ay (av 0) (ay (xu rfl T.DP) (ay (xu rfl T.DQ) aB))))) ?_
  refine aT (jR (bz T.zh (IF T) (hr.mono (by decide)) (ay (av 1) (ay (xu rfl T.DP) (ay (xu rfl T.DQ) aB))))) ?_
  refine aT (c7 (cE oU (bF dN T.cW ahF (ay (av 0) aB)) (bF dN T.cW ahF (ay (av 1) aB))) (aW (bT i6)) dX) ?_
  exact(aW (bT (bz T.zo (IL T 14) (hr.mono (by decide)) (ay (bz T.EG (Vt T) (hr.mono (by decide)) (ay (av 0) (ay (av 1) aB))) (ay (bC VT (jW (ay aX aB)) (bC ng aX (bF dN T.cW ahF (ay (av 0) aB)))) aB)))))
theorem RK:cM ["script","k"] ["script","k"] (bf qR):=⟨rfl,rfl,rfl,by decide +kernel,rfl,by decide +kernel,by decide +kernel⟩
theorem VG(T:Tx K mg):bY P w K mg base bU 1 T.mH T.Ek ["script","k"] (cC K 2 rP) :=
 dR (k:=0) T.EU.fn RK rfl rfl fun cdv A outer s H E hr=>by
  show cy _ _ pY
  unfold pY
  refine aT (c7 (cE uK (av 1) (bF dN T.cW ahF (ay (av 0) aB))) (aW (bT (bZ cg (av 0) (av 1)))) dX) ?_
  exact(aW (bT aX))
theorem qt:cM ["cell","number","j","more"] ["cell"] (bf qI):=⟨rfl,rfl,rfl,by decide +kernel,rfl,by decide +kernel,by decide +kernel⟩
theorem VC(T:Tx K mg):bY P w K mg base bU 1 T.mq T.Eb ["cell"] (cC K 1 rM) :=
 dR (k:=0) T.EO.fn qt rfl rfl fun cdv A outer s H E hr=>by
  show cy _ _ pX
  unfold pX
  refine aT (c7 (cE Wr (av 0) (bC IS aX aX)) (aW (bT (nc (ay (bC xE (av 0) (bC IS aX aX)) aB)))) dX) ?_
  refine aT (bI (i:=1) aX (hN:=qt.nd)) ?_
  refine aT (gc (eg (ay aX aB) T.cO) (bO (i:=2) (hN:=qt.nd)) (aT (bI (i:=3) (bC kX (bC ng (bC eG (bC eG (bC kX (av 0) aX) (bC ng aX (av 2))) aX) aX) aX) (hN:=qt.nd)) (aT (bI (i:=3) (bC kX (bC eG (bC eG (bC ng (av 3) (av 3)) (bC ng aX (av 2))) aX) aX) (hN:=qt.nd)) (aW (bI (i:=1) (bC eG (bC ng (av 1) aX) (av 3)) (hN:=qt.nd)))))) ?_
  exact(aW (bT (nc (ay (av 1) aB))))
theorem HB:cM ["pot","far","found"] ["pot","far"] (bf qE):=⟨rfl,rfl,rfl,by decide +kernel,rfl,by decide +kernel,by decide +kernel⟩
theorem gx(T:Tx K mg):bY P w K mg base bU 1 T.l9 T.D8 ["pot","far"] (cC K 2 aY) :=
 dR (k:=0) T.fW.fn HB rfl rfl fun cdv A outer s H E hr=>by
  show cy _ _ pW
  unfold pW
  refine aT (bI (i:=2) (bC kX (bZ cg (av 0) aX) (av 1)) (hN:=HB.nd)) ?_
  refine aT (qq (bC kY (bZ cg (av 0) aX) (av 1)) (sd (av 0) aX)) ?_
  exact(aW (bT (av 2)))
theorem AM:cM ["pot","wide","found","k"] ["pot","wide"] (bf qK):=⟨rfl,rfl,rfl,by decide +kernel,rfl,by decide +kernel,by decide +kernel⟩
theorem Bk(T:Tx K mg):bY P w K mg base bU 2 T.mz T.Ed ["pot","wide"] (cC K 2 ig) :=
 dR (k:=1) T.vB.fn AM rfl rfl fun cdv A outer s H E hr=>by
  show cy _ _ sS
  unfold sS
  refine aT (bI (i:=2) (nc aB) (hN:=AM.nd)) ?_
  refine aT (gc (eg (ay (av 1) aB) T.cO) (bO (i:=3) (hN:=AM.nd)) (aW (jR (US (av 2) (bz T.fW (gx T) (hr.mono (by decide)) (ay (av 0) (ay (bC eG (av 3) aX) aB))) (av 3))))) ?_
  exact(aW (bT (kU nS T.i9 ait (ay (av 2) aB))))
theorem wR:cM ["many","wanted","found","one","other"] ["many","wanted"] (bf qN):=⟨rfl,rfl,rfl,by decide +kernel,rfl,by decide +kernel,by decide +kernel⟩
theorem IJ(T:Tx K mg):bY P w K mg base bU 1 T.mE T.Eh ["many","wanted"] (cC K 2 jw) :=
 DV (k:=0) T.zl.fn wR rfl rfl fun cdv A outer s H E hr=>by
  show cy _ _ sW
  unfold sW
  refine aT (kQ (i:=2) (hN:=wR.nd) (N':=["place","many"]) (pick:=[none,some 0]) (cz.of rfl rfl) (eg (ay (av 0) aB) T.cO) (fun _ _ _ _ _ _=>(bO (i:=0) (hN:=(by decide +kernel:List.Nodup (["place","many"]:List Str))))) (fun _ _ _ _ _ _=>fy) (fun _ _ _ _ _ _=>(bC IQ (jW (ay i7 aB)) (av 1)))) ?_
  refine aT (gc (lF (av 1)) (ym (n:=2) (nJ (bO (i:=3) (hN:=wR.nd)) (nJ (bO (i:=4) (hN:=wR.nd)) yk))) (aT (qq i7 (sd (bZ cg (av 2) (av 3)) (av 4))) (aW (qq i7 (sd (bZ cg (av 2) (av 4)) (av 3)))))) ?_
  exact(aW (bT (av 2)))
theorem um:cM ["pot","most","many","dense","wanted","one"] ["pot","most"] (bf qF):=⟨rfl,rfl,rfl,by decide +kernel,rfl,by decide +kernel,by decide +kernel⟩
theorem VB(T:Tx K mg):bY P w K mg base bU 2 T.mh T.D9 ["pot","most"] (cC K 2 k7) :=
 dR (k:=1) T.EN.fn um rfl rfl fun cdv A outer s H E hr=>by
  show cy _ _ sP
  unfold sP
  refine aT (bI (i:=2) (bC eG aX (bz T.fW (gx T) (hr.mono (by decide)) (ay (av 0) (ay (av 1) aB)))) (hN:=um.nd)) ?_
  refine aT (bI (i:=3) (bC eG aX (bz T.fW (gx T) (hr.mono (by decide)) (ay (av 0) (ay aX aB)))) (hN:=um.nd)) ?_
  refine aT (bI (i:=4) (nc aB) (hN:=um.nd)) ?_
  refine aT (gc (eg (ay (av 2) aB) T.cO) (bO (i:=5) (hN:=um.nd)) (aW (jR (uG (av 4) (eY (N':=["other","one","dense","pot"]) (pick:=[none,some 5,some 3,some 0]) (cz.of rfl rfl) (nA (ay (bC eG (av 5) aX) (ay (av 2) aB)) T.cO) (fun _ _ _ _ _ _=>(bO (i:=0) (hN:=(by decide +kernel:List.Nodup (["other","one","dense","pot"]:List Str))))) (fun _ _ _ _ _ _=>(jq (cE uK (bz T.fW (gx T) (hr.mono (by decide)) (ay (av 3) (ay aX aB))) (av 2)))) (fun _ _ _ _ _ _=>(ie (ay (av 1) (ay (av 0) aB))))))))) ?_
  exact(aW (bT (bz T.zl (IJ T) (hr.mono (by decide)) (ay (av 2) (ay (av 4) aB)))))
theorem wQ:cM ["many","marks","found","one","other"] ["many","marks"] (bf qL):=⟨rfl,rfl,rfl,by decide +kernel,rfl,by decide +kernel,by decide +kernel⟩
theorem II(T:Tx K mg):bY P w K mg base bU 1 T.mC T.Ef ["many","marks"] (cC K 2 j3) :=
 dR (k:=0) T.zk.fn wQ rfl rfl fun cdv A outer s H E hr=>by
  show cy _ _ sU
  unfold sU
  refine aT (bI (i:=2) (nc aB) (hN:=wQ.nd)) ?_
  refine aT (gc (eg (ay (av 0) aB) T.cO) (bO (i:=3) (hN:=wQ.nd)) (aW (gc (nA (ay (bC eG (av 3) aX) (ay (av 0) aB)) T.cO) (bO (i:=4) (hN:=wQ.nd)) (aW (c7 (iI (bF MH T.BE boot_any (ay (eY (N':=["mark","marks","other"]) (pick:=[none,some 1,some 4]) (cz.of rfl rfl) (lF (bZ cg (av 1) (av 3))) (fun _ _ _ _ _ _=>(bO (i:=0) (hN:=(by decide +kernel:List.Nodup (["mark","marks","other"]:List Str))))) (fun _ _ _ _ _ _=>fy) (fun _ _ _ _ _ _=>(iH (xG (gW hr)) (av 0) (bZ cg (av 1) (av 2))))) aB))) (aW (jR (Iq (av 2) (ie (ay (av 3) (ay (av 4) aB)))))) dX))))) ?_
  exact(aW (bT (av 2)))
theorem eX:cM ["pot","most","way","many","wanted","steps","step","things","marks","one","high","wide","squares"] ["pot","most"] (bf qJ):=⟨rfl,rfl,rfl,by decide +kernel,rfl,by decide +kernel,by decide +kernel⟩
theorem VD(T:Tx K mg):bY P w K mg base bU 2 T.mw T.Ec ["pot","most"] (cC K 2 k8) :=
 dR (k:=1) T.ER.fn eX rfl rfl fun cdv A outer s H E hr=>by
  show cy _ _ sR
  unfold sR
  refine aT (bI (i:=2) (bz T.fW (gx T) (hr.mono (by decide)) (ay (av 0) (ay aX aB))) (hN:=eX.nd)) ?_
  refine aT (bI (i:=3) (bC eG aX (bz T.fW (gx T) (hr.mono (by decide)) (ay (av 0) (ay (av 1) aB)))) (hN:=eX.nd)) ?_
  refine aT (bI (i:=4) (nc aB) (hN:=eX.nd)) ?_
  refine aT (c7 (cE fQ (av 2) aX) (aT (kQ (i:=5) (hN:=eX.nd) (N':=["step","pot"]) (pick:=[none,some 0]) (cz.of rfl rfl) (nA (ay aX (ay (bC eG (bC kY (av 3) aX) aX) aB)) T.cO) (fun _ _ _ _ _ _=>(bO (i:=0) (hN:=(by decide +kernel:List.Nodup (["step","pot"]:List Str))))) (fun _ _ _ _ _ _=>(jq (cE fQ (bz T.fW (gx T) (hr.mono (by decide)) (ay (av 1) (ay aX aB))) aX))) (fun _ _ _ _ _ _=>(av 0))) (aW (gc (lF (av 5)) (bO (i:=6) (hN:=eX.nd)) (aW (jR (uG (av 4) (eY (N':=["k","many","step"]) (pick:=[none,some 3,some 6]) (cz.of rfl rfl) (eg (ay (av 3) aB) T.cO) (fun _ _ _ _ _ _=>(bO (i:=0) (hN:=(by decide +kernel:List.Nodup (["k","many","step"]:List Str))))) (fun _ _ _ _ _ _=>fy) (fun _ _ _ _ _ _=>(ie (ay (av 0) (ay (bC kX (bC eG (av 0) (av 2)) (av 1)) aB))))))))))) (aW (c7 (cE fQ (av 2) aX) (aT (bI (i:=7) (bZ cg (jW (ay aX (ay aX (ay aX (ay aX aB))))) (bz T.fW (gx T) (hr.mono (by decide)) (ay (av 0) (ay aX aB)))) (hN:=eX.nd)) (aT (bI (i:=8) (nc aB) (hN:=eX.nd)) (aT (gc (eg (ay (av 7) aB) T.cO) (bO (i:=9) (hN:=eX.nd)) (aW (jR (uG (av 8) (eY (N':=["other","one"]) (pick:=[none,some 9]) (cz.of rfl rfl) (nA (ay (bC eG (av 9) aX) (ay (av 7) aB)) T.cO) (fun _ _ _ _ _ _=>(bO (i:=0) (hN:=(by decide +kernel:List.Nodup (["other","one"]:List Str))))) (fun _ _ _ _ _ _=>fy) (fun _ _ _ _ _ _=>(jW (ay (av 1) (ay (av 0) aB))))))))) (aT (bI (i:=3) (bF sH T.ni ai9 (ay (bF dN T.cW ahF (ay (av 8) aB)) (ay (av 1) aB))) (hN:=eX.nd)) (aW (bI (i:=4) (bz T.zk (II T) (hr.mono (by decide)) (ay (av 3) (ay (av 8) aB))) (hN:=eX.nd))))))) (aW (c7 (cE uK (av 2) aX) (aT (bI (i:=10) (bC eG aX (bz T.fW (gx T) (hr.mono (by decide)) (ay (av 0) (ay (bF sH T.ni ai9 (ay aX (ay (av 1) aB))) aB)))) (hN:=eX.nd)) (aT (bI (i:=11) (bC eG aX (bz T.fW (gx T) (hr.mono (by decide)) (ay (av 0) (ay (bF sH T.ni ai9 (ay aX (ay (bC kY (av 1) (av 10)) aB))) aB)))) (hN:=eX.nd)) (aT (bI (i:=3) (bC ng (av 10) (av 11)) (hN:=eX.nd)) (aT (kQ (i:=8) (hN:=eX.nd) (N':=["k","wide"]) (pick:=[none,some 11]) (cz.of rfl rfl) (eg (ay (av 3) aB) T.cO) (fun _ _ _ _ _ _=>(bO (i:=0) (hN:=(by decide +kernel:List.Nodup (["k","wide"]:List Str))))) (fun _ _ _ _ _ _=>fy) (fun _ _ _ _ _ _=>(jW (ay (bC kY (av 0) (av 1)) aB)))) (aT (c7 (cE fQ (av 2) aX) (aW (kQ (i:=8) (hN:=eX.nd) (N':=["k","wide"]) (pick:=[none,some 11]) (cz.of rfl rfl) (eg (ay (av 3) aB) T.cO) (fun _ _ _ _ _ _=>(bO (i:=0) (hN:=(by decide +kernel:List.Nodup (["k","wide"]:List Str))))) (fun _ _ _ _ _ _=>fy) (fun _ _ _ _ _ _=>(jW (ay (bC kY (av 0) (av 1)) (ay (bC eG aX (bC kX (av 0) (av 1))) aB)))))) dX) (aW (bI (i:=4) (bz T.zk (II T) (hr.mono (by decide)) (ay (av 3) (ay (av 8) aB))) (hN:=eX.nd)))))))) (aW (c7 (cE fQ (av 2) aX) (aT (bI (i:=3) (bF sH T.ni ai9 (ay (av 1) (ay (bZ cg (jW (ay aX (ay aX aB))) (bz T.fW (gx T) (hr.mono (by decide)) (ay (av 0) (ay aX aB)))) aB))) (hN:=eX.nd)) (aT (bI (i:=12) (eY (N':=["k","many"]) (pick:=[none,some 3]) (cz.of rfl rfl) (nA (ay aX (ay (av 3) aB)) T.cO) (fun _ _ _ _ _ _=>(bO (i:=0) (hN:=(by decide +kernel:List.Nodup (["k","many"]:List Str))))) (fun _ _ _ _ _ _=>fy) (fun _ _ _ _ _ _=>(bC kX (bC ng (av 0) (av 0)) (av 1)))) (hN:=eX.nd)) (aW (gc (eg (ay (av 3) aB) T.cO) (bO (i:=9) (hN:=eX.nd)) (aW (jR (uG (av 4) (eY (N':=["other","one","squares","many"]) (pick:=[none,some 9,some 12,some 3]) (cz.of rfl rfl) (nA (ay (bC eG (av 9) aX) (ay (av 3) aB)) T.cO) (fun _ _ _ _ _ _=>(bO (i:=0) (hN:=(by decide +kernel:List.Nodup (["other","one","squares","many"]:List Str))))) (fun _ _ _ _ _ _=>(jq (cE (xG (gW hr)) (bC kX (bC xE (av 0) (av 1)) (av 3)) (av 2)))) (fun _ _ _ _ _ _=>(ie (ay (av 1) (ay (av 0) aB)))))))))))) (aT (bI (i:=3) (bF sH T.ni ai9 (ay aX (ay (av 1) aB))) (hN:=eX.nd)) (aT (gc (eg (ay (av 3) aB) T.cO) (bO (i:=9) (hN:=eX.nd)) (aW (jR (uG (av 4) (eY (N':=["other","one"]) (pick:=[none,some 9]) (cz.of rfl rfl) (nA (ay (bC eG (av 9) aX) (ay (av 3) aB)) T.cO) (fun _ _ _ _ _ _=>(bO (i:=0) (hN:=(by decide +kernel:List.Nodup (["other","one"]:List Str))))) (fun _ _ _ _ _ _=>(jq (cE (xG (gW hr)) (bC xE (av 0) (av 1)) (ie (ay aX (ay aX (ay aX aB))))))) (fun _ _ _ _ _ _=>(ie (ay (av 1) (ay (av 0) aB))))))))) (aW (kQ (i:=4) (hN:=eX.nd) (N':=["one","other"]) (pick:=[none,none]) (cz.of rfl rfl) (lF (av 4)) (fun _ _ _ _ _ _=>(ym (n:=2) (nJ (bO (i:=0) (hN:=(by decide +kernel:List.Nodup (["one","other"]:List Str)))) (nJ (bO (i:=1) (hN:=(by decide +kernel:List.Nodup (["one","other"]:List Str)))) yk)))) (fun _ _ _ _ _ _=>(jq (cE fQ (bC WA (av 0) (av 1)) (av 0)))) (fun _ _ _ _ _ _=>(ie (ay (av 0) (ay (av 1) aB))))))))))))))) ?_
  exact(aW (bT (bz T.zl (IJ T) (hr.mono (by decide)) (ay (av 3) (ay (av 4) aB)))))
theorem uo:cM ["table","order","many","found","one","other"] ["table","order"] (bf qM):=⟨rfl,rfl,rfl,by decide +kernel,rfl,by decide +kernel,by decide +kernel⟩
theorem Bl(T:Tx K mg):bY P w K mg base bU 1 T.mD T.Eg ["table","order"] (cC K 2 iL) :=
 DV (k:=0) T.vC.fn uo rfl rfl fun cdv A outer s H E hr=>by
  show cy _ _ sV
  unfold sV
  refine aT (bI (i:=2) (bF dN T.cW ahF (ay (av 0) aB)) (hN:=uo.nd)) ?_
  refine aT (kQ (i:=3) (hN:=uo.nd) (N':=["place","many"]) (pick:=[none,some 2]) (cz.of rfl rfl) (eg (ay (av 2) aB) T.cO) (fun _ _ _ _ _ _=>(bO (i:=0) (hN:=(by decide +kernel:List.Nodup (["place","many"]:List Str))))) (fun _ _ _ _ _ _=>fy) (fun _ _ _ _ _ _=>(bC IQ (jW (ay i7 aB)) (av 1)))) ?_
  refine aT (gc (eg (ay (av 2) aB) T.cO) (bO (i:=4) (hN:=uo.nd)) (aW (gc (eg (ay (av 2) aB) T.cO) (bO (i:=5) (hN:=uo.nd)) (aW (qq (bZ cg (bZ cg (av 0) (av 4)) (av 5)) (sd (bZ cg (av 3) (bZ cg (av 1) (av 4))) (bZ cg (av 1) (av 5)))))))) ?_
  exact(aW (bT (av 3)))
theorem HA:cM ["table","one","other","found"] ["table","one","other"] (bf qD):=⟨rfl,rfl,rfl,by decide +kernel,rfl,by decide +kernel,by decide +kernel⟩
theorem VA(T:Tx K mg):bY P w K mg base bU 1 T.l8 T.D7 ["table","one","other"] (cC K 3 jZ) :=
 DV (k:=0) T.EM.fn HA rfl rfl fun cdv A outer s H E hr=>by
  show cy _ _ sO
  unfold sO
  refine aT (kQ (i:=3) (hN:=HA.nd) (N':=["row"]) (pick:=[none]) (cz.of rfl rfl) (lF (av 0)) (fun _ _ _ _ _ _=>(bO (i:=0) (hN:=(by decide +kernel:List.Nodup (["row"]:List Str))))) (fun _ _ _ _ _ _=>fy) (fun _ _ _ _ _ _=>(kU ad5 T.uN boot_list (ay (av 0) aB)))) ?_
  refine aT (qq (xr (bZ cg (bZ cg (av 3) (av 1)) (av 2))) (sd (bZ cg (av 3) (av 1)) (av 2))) ?_
  refine aT (qq (xr (bZ cg (bZ cg (av 3) (av 2)) (av 1))) (sd (bZ cg (av 3) (av 2)) (av 1))) ?_
  exact(aW (bT (av 3)))
theorem HC:cM ["table","many"] ["table"] (bf qT):=⟨rfl,rfl,rfl,by decide +kernel,rfl,by decide +kernel,by decide +kernel⟩
theorem VH(T:Tx K mg):bY P w K mg base bU 1 T.mK T.Em ["table"] (cC K 1 k9) :=
 dR (k:=0) T.EV.fn HC rfl rfl fun cdv A outer s H E hr=>by
  show cy _ _ sZ
  unfold sZ
  refine aT (bI (i:=1) (bF dN T.cW ahF (ay (av 0) aB)) (hN:=HC.nd)) ?_
  exact(aW (bT (eY (N':=["one","many","table"]) (pick:=[none,some 1,some 0]) (cz.of rfl rfl) (eg (ay (av 1) aB) T.cO) (fun _ _ _ _ _ _=>(bO (i:=0) (hN:=(by decide +kernel:List.Nodup (["one","many","table"]:List Str))))) (fun _ _ _ _ _ _=>fy) (fun _ _ _ _ _ _=>(eY (N':=["other","one","table"]) (pick:=[none,some 0,some 2]) (cz.of rfl rfl) (eg (ay (av 1) aB) T.cO) (fun _ _ _ _ _ _=>(bO (i:=0) (hN:=(by decide +kernel:List.Nodup (["other","one","table"]:List Str))))) (fun _ _ _ _ _ _=>fy) (fun _ _ _ _ _ _=>(oQ (iH oU (av 1) (av 0)) (oO (xr (bZ cg (bZ cg (av 2) (av 1)) (av 0)))))))))))
theorem oF:cM ["pot","most","found","many","one"] ["pot","most"] (bf qS):=⟨rfl,rfl,rfl,by decide +kernel,rfl,by decide +kernel,by decide +kernel⟩
theorem Bm(T:Tx K mg):bY P w K mg base bU 3 T.mJ T.El ["pot","most"] (cC K 2 jx) :=
 dR (k:=2) T.vD.fn oF rfl rfl fun cdv A outer s H E hr=>by
  show cy _ _ sY
  unfold sY
  refine aT (c7 (cE uK (bz T.fW (gx T) (hr.mono (by decide)) (ay (av 0) (ay aX aB))) aX) (aW (bI (i:=2) (bz T.EN (VB T) (hr.mono (by decide)) (ay (av 0) (ay (av 1) aB))) (hN:=oF.nd))) (aW (bI (i:=2) (bz T.ER (VD T) (hr.mono (by decide)) (ay (av 0) (ay (av 1) aB))) (hN:=oF.nd)))) ?_
  refine aT (bI (i:=3) (bF dN T.cW ahF (ay (av 2) aB)) (hN:=oF.nd)) ?_
  refine aT (c7 (cE fQ (bz T.fW (gx T) (hr.mono (by decide)) (ay (av 0) (ay aX aB))) aX) (aW (bI (i:=2) (bz T.EV (VH T) (hr.mono (by decide)) (ay (av 2) aB)) (hN:=oF.nd))) dX) ?_
  refine aT (c7 (PW.pt (uI (cE xH (av 3) aX) (uJ (cE fQ (bz T.fW (gx T) (hr.mono (by decide)) (ay (av 0) (ay aX aB))) aX)))) (aT (bI (i:=4) (bz T.fW (gx T) (hr.mono (by decide)) (ay (av 0) (ay (av 3) aB))) (hN:=oF.nd)) (aW (bI (i:=2) (bz T.EM (VA T) (hr.mono (by decide)) (ay (av 2) (ay (av 4) (ay (bC kX (bC eG (bC eG (av 4) aX) (bz T.fW (gx T) (hr.mono (by decide)) (ay (av 0) (ay (bC xE (av 3) aX) aB)))) (av 3)) aB)))) (hN:=oF.nd)))) dX) ?_
  exact(aW (bT (bz T.vC (Bl T) (hr.mono (by decide)) (ay (av 2) (ay (bz T.vB (Bk T) (hr.mono (by decide)) (ay (av 0) (ay (av 3) aB))) aB)))))
theorem RJ:cM ["table"] ["table"] (bf qH):=⟨rfl,rfl,rfl,by decide +kernel,rfl,by decide +kernel,by decide +kernel⟩
theorem xD(T:Tx K mg):bY P w K mg base bU 1 T.mj T.Ea ["table"] (cC K 1 gA) :=
 dR (k:=0) T.sE.fn RJ rfl rfl fun cdv A outer s H E hr=>by
  show cy _ _ sQ
  unfold sQ
  exact(aW (bT (kU nS T.i9 ait (ay (eY (N':=["row","table"]) (pick:=[none,some 0]) (cz.of rfl rfl) (lF (av 0)) (fun _ _ _ _ _ _=>(bO (i:=0) (hN:=(by decide +kernel:List.Nodup (["row","table"]:List Str))))) (fun _ _ _ _ _ _=>fy) (fun _ _ _ _ _ _=>(kU nS T.i9 ait (ay (eY (N':=["k","row"]) (pick:=[none,some 0]) (cz.of rfl rfl) (eg (ay (bF dN T.cW ahF (ay (av 1) aB)) aB) T.cO) (fun _ _ _ _ _ _=>(bO (i:=0) (hN:=(by decide +kernel:List.Nodup (["k","row"]:List Str))))) (fun _ _ _ _ _ _=>(jq (iI (bZ cg (av 1) (av 0))))) (fun _ _ _ _ _ _=>(av 0))) aB)))) aB))))
theorem RH:cM ["found"] ["found"] (bf qC):=⟨rfl,rfl,rfl,by decide +kernel,rfl,by decide +kernel,by decide +kernel⟩
theorem Vz(T:Tx K mg):bY P w K mg base bU 1 T.l7 T.D6 ["found"] (cC K 1 xY) :=
 dR (k:=0) T.EL.fn RH rfl rfl fun cdv A outer s H E hr=>by
  show cy _ _ sN
  unfold sN
  exact(aW (bT (oQ (bF ji T.iK ain (ay (av 0) (ay (iZ rfl T.BC boot_int) aB))) (oO (xr (bF ji T.iK ain (ay (av 0) (ay (iZ rfl T.xU boot_bool) aB))))))))
theorem RI:cM ["found","due"] ["found","due"] (bf qG):=⟨rfl,rfl,rfl,by decide +kernel,rfl,by decide +kernel,by decide +kernel⟩
theorem IG(T:Tx K mg):∀j:Nat,bY P w K mg base bU (2+j) T.kD T.yw ["found","due"] (cC K 2 (gy j))
 |0=>⟨fun vs H Q E h=>by obtain⟨_,_,_,_,_,_,p⟩:=h;exact p.elim,fun A outer s H args us vs Q E hr he hb hv h=>by obtain⟨_,_,_,_,_,_,p⟩:=h;exact p.elim⟩
 |j+1=>dR (k:=2+j) T.zj.fn RI rfl rfl fun cdv A outer s H E hr=>by
  have ih:bY P w K mg base bU (2+j) T.kD T.yw ["found","due"] (cC K 2 (gy j)):=IG T j
  show cy _ _ (lT (gy j))
  unfold lT
  generalize gy j=m at ih ⊢
  refine aT (c7 (cE xF (av 1) i6) (aW (bT (iH xF (av 0) i6))) dX) ?_
  refine aT (c7 (iI (bF ji T.iK ain (ay (av 1) (ay (iZ rfl T.xU boot_bool) aB)))) (aW (bT (oQ (bF ji T.iK ain (ay (av 0) (ay (iZ rfl T.xU boot_bool) aB))) (oO (iH fQ (av 0) (av 1)))))) dX) ?_
  refine aT (c7 (iI (bF ji T.iK ain (ay (av 1) (ay (iZ rfl T.BC boot_int) aB)))) (aW (bT (oQ (bz T.EL (Vz T) (hr.mono (by omega)) (ay (av 0) aB)) (oO (iH fQ (av 0) (av 1)))))) dX) ?_
  refine aT (c7 (iI (bF ji T.iK ain (ay (av 1) (ay (iZ rfl T.BA boot_str) aB)))) (aW (bT (oQ (bF ji T.iK ain (ay (av 0) (ay (iZ rfl T.BA boot_str) aB))) (oO (iH fQ (av 0) (av 1)))))) dX) ?_
  refine aT (c7 (PW.pt (xq (cE oU (bF ji T.iK ain (ay (av 1) (ay (iZ rfl T.i9 ait) aB))) (bF ji T.iK ain (ay (av 0) (ay (iZ rfl T.i9 ait) aB)))) (Bb (cE oU (bF ji T.iK ain (ay (av 1) (ay (iZ rfl T.uN boot_list) aB))) (bF ji T.iK ain (ay (av 0) (ay (iZ rfl T.uN boot_list) aB))))))) (aW (bT i7)) dX) ?_
  exact(aW (bT (oQ (iH fQ (bF dN T.cW ahF (ay (av 0) aB)) (bF dN T.cW ahF (ay (av 1) aB))) (oO (bF MI T.BF boot_all (ay (eY (N':=["one","other"]) (pick:=[none,none]) (cz.of rfl rfl) (aaA (ay (av 0) (ay (av 1) aB)) T.Jm) (fun _ _ _ _ _ _=>(ym (n:=2) (nJ (bO (i:=0) (hN:=(by decide +kernel:List.Nodup (["one","other"]:List Str)))) (nJ (bO (i:=1) (hN:=(by decide +kernel:List.Nodup (["one","other"]:List Str)))) yk)))) (fun _ _ _ _ _ _=>fy) (fun _ _ _ _ _ _=>(bz T.zj ih (hr.mono (by omega)) (ay (av 0) (ay (av 1) aB))))) aB))))))
theorem AN:cM ["one","other","order","many","p"] ["one","other","order"] (bf qO):=⟨rfl,rfl,rfl,by decide +kernel,rfl,by decide +kernel,by decide +kernel⟩
theorem VE(T:Tx K mg):bY P w K mg base bU 1 T.mF T.Ei ["one","other","order"] (cC K 3 uV) :=
 dR (k:=0) T.ES.fn AN rfl rfl fun cdv A outer s H E hr=>by
  show cy _ _ sX
  unfold sX
  refine aT (bI (i:=3) (bF dN T.cW ahF (ay (av 0) aB)) (hN:=AN.nd)) ?_
  refine aT (gc (eg (ay (av 3) aB) T.cO) (bO (i:=4) (hN:=AN.nd)) (aW (c7 (iI (bF MH T.BE boot_any (ay (eY (N':=["q","one","p","other","order"]) (pick:=[none,some 0,some 4,some 1,some 2]) (cz.of rfl rfl) (eg (ay (av 4) aB) T.cO) (fun _ _ _ _ _ _=>(bO (i:=0) (hN:=(by decide +kernel:List.Nodup (["q","one","p","other","order"]:List Str))))) (fun _ _ _ _ _ _=>fy) (fun _ _ _ _ _ _=>(iH oU (bZ cg (bZ cg (av 1) (av 2)) (av 0)) (bZ cg (bZ cg (av 3) (bZ cg (av 4) (av 2))) (bZ cg (av 4) (av 0)))))) aB))) (aW (bT i7)) dX))) ?_
  exact(aW (bT i7))
theorem uq:cM ["one","other","images","k","image","good","found"] ["one","other","images"] (bf qP):=⟨rfl,rfl,rfl,by decide +kernel,rfl,by decide +kernel,by decide +kernel⟩
theorem IK(T:Tx K mg):∀j:Nat,bY P w K mg base bU (1+j) T.kE T.yx ["one","other","images"] (cC K 3 (gV j))
 |0=>⟨fun vs H Q E h=>by obtain⟨_,_,_,_,_,_,p⟩:=h;exact p.elim,fun A outer s H args us vs Q E hr he hb hv h=>by obtain⟨_,_,_,_,_,_,p⟩:=h;exact p.elim⟩
 |j+1=>dR (k:=1+j) T.zm.fn uq rfl rfl fun cdv A outer s H E hr=>by
  have ih:bY P w K mg base bU (1+j) T.kE T.yx ["one","other","images"] (cC K 3 (gV j)):=IK T j
  show cy _ _ (kC (gV j))
  unfold kC
  generalize gV j=m at ih ⊢
  refine aT (bI (i:=3) (bF dN T.cW ahF (ay (av 2) aB)) (hN:=uq.nd)) ?_
  refine aT (c7 (cE fQ (av 3) (bF dN T.cW ahF (ay (av 0) aB))) (aW (bT (kU nS T.i9 ait (ay (av 2) aB)))) dX) ?_
  refine aT (gc (eg (ay (bF dN T.cW ahF (ay (av 0) aB)) aB) T.cO) (bO (i:=4) (hN:=uq.nd)) (aT (bI (i:=5) (oQ (iH (IU (gW hr)) (av 4) (av 2)) (oO (iH fQ (Ip (bZ cg (av 0) (av 3)) i7) (Ip (bZ cg (av 1) (av 4)) i7)))) (hN:=uq.nd)) (aW (c7 (PW.pt (uI (UP (av 5)) (uJ (cE (Bo (gW hr)) (eY (N':=["old","other","image"]) (pick:=[none,some 1,some 4]) (cz.of rfl rfl) (lF (av 2)) (fun _ _ _ _ _ _=>(bO (i:=0) (hN:=(by decide +kernel:List.Nodup (["old","other","image"]:List Str))))) (fun _ _ _ _ _ _=>fy) (fun _ _ _ _ _ _=>(bZ cg (bZ cg (av 1) (av 2)) (av 0)))) (Ba (bZ cg (av 0) (av 3)) A3 (A2 (av 3))))))) (aT (bI (i:=6) (bz T.zm ih (hr.mono (by omega)) (ay (av 0) (ay (av 1) (ay (bC Wx (av 2) (jW (ay (av 4) aB))) aB)))) (hN:=uq.nd)) (aW (c7 (cE IV (av 6) i6) (aW (bT (av 6))) dX))) dX)))) ?_
  exact(aW (bT i6))
theorem ur:cM ["pot","one","order","other","found"] ["pot"] (bf qQ):=⟨rfl,rfl,rfl,by decide +kernel,rfl,by decide +kernel,by decide +kernel⟩
theorem VF(T:Tx K mg):bY P w K mg base bU 20 T.mG T.Ej ["pot"] (cC K 1 rO) :=
 dR (k:=19) T.ET.fn ur rfl rfl fun cdv A outer s H E hr=>by
  show cy _ _ nU
  unfold nU
  refine aT (bI (i:=1) (bz T.vD (Bm T) (hr.mono (by decide)) (ay (av 0) (ay aX aB))) (hN:=ur.nd)) ?_
  refine aT (bI (i:=2) (bz T.vB (Bk T) (hr.mono (by decide)) (ay (av 0) (ay (bF dN T.cW ahF (ay (av 1) aB)) aB))) (hN:=ur.nd)) ?_
  refine aT (bI (i:=3) (bz T.vC (Bl T) (hr.mono (by decide)) (ay (av 1) (ay (av 2) aB))) (hN:=ur.nd)) ?_
  refine aT (bI (i:=4) (bz T.vA (Bj T) (hr.mono (by decide)) (ay (bz T.sE (xD T) (hr.mono (by decide)) (ay (av 1) aB)) (ay (bz T.sE (xD T) (hr.mono (by decide)) (ay (av 3) aB)) aB))) (hN:=ur.nd)) ?_
  refine aT (c7 (PW.pt (xq (rD (iI (bF ji T.iK ain (ay (av 4) (ay (iZ rfl T.i9 ait) aB))))) (xq (cE (VX (gW hr)) (bF ad1 T.rH (by decide +kernel) (ay (av 4) aB)) (UR (ay (bF dN T.cW ahF (ay (av 1) aB)) aB) T.uN T.cO)) (Bb (cE (Wq (gW hr)) (av 4) (av 2)))))) (aW (bT i7)) dX) ?_
  exact(aW (bT (bz T.ES (VE T) (hr.mono (by decide)) (ay (av 1) (ay (av 3) (ay (av 4) aB))))))
theorem m7:cM ["script","k","pot","one","other","due"] ["script"] (bf qU):=⟨rfl,rfl,rfl,by decide +kernel,rfl,by decide +kernel,by decide +kernel⟩
theorem VI(T:Tx K mg):bY P w K mg base bU 21 T.kF T.Eo ["script"] (cC K 1 uW) :=
 dR (k:=20) T.LK.fn m7 rfl rfl fun cdv A outer s H E hr=>by
  show cy _ _ pZ
  unfold pZ
  refine aT (gc (eg (ay (bF ad4 T.BB boot_max (ay aX (ay (bF sH T.ni ai9 (ay (bF dN T.cW ahF (ay (av 0) aB)) (ay aX aB))) aB))) aB) T.cO) (bO (i:=1) (hN:=m7.nd)) (aT (bI (i:=2) (bz T.EO (VC T) (hr.mono (by decide)) (ay (bz T.EU (VG T) (hr.mono (by decide)) (ay (av 0) (ay (av 1) aB))) aB)) (hN:=m7.nd)) (aT (bI (i:=3) (bz T.vD (Bm T) (hr.mono (by decide)) (ay (av 2) (ay aX aB))) (hN:=m7.nd)) (aT (bI (i:=4) (bz T.vC (Bl T) (hr.mono (by decide)) (ay (av 3) (ay (bz T.vB (Bk T) (hr.mono (by decide)) (ay (av 2) (ay (bF dN T.cW ahF (ay (av 3) aB)) aB))) aB))) (hN:=m7.nd)) (aT (c7 (cE fQ (bz T.fW (gx T) (hr.mono (by decide)) (ay (av 2) (ay aX aB))) aX) (aW (bI (i:=4) (bz T.vD (Bm T) (hr.mono (by decide)) (ay (av 2) (ay aX aB))) (hN:=m7.nd))) dX) (aT (bI (i:=5) i6 (hN:=m7.nd)) (aT (c7 (cE fQ (bF dN T.cW ahF (ay (av 3) aB)) (bF dN T.cW ahF (ay (av 4) aB))) (aW (bI (i:=5) (bz T.zm (IK T 10) (hr.mono (by decide)) (ay (av 3) (ay (av 4) (ay (jW aB) aB)))) (hN:=m7.nd))) dX) (aT (c7 (rD (iI (bz T.zj (IG T 3) (hr.mono (by decide)) (ay (bz T.vA (Bj T) (hr.mono (by decide)) (ay (bz T.sE (xD T) (hr.mono (by decide)) (ay (av 3) aB)) (ay (bz T.sE (xD T) (hr.mono (by decide)) (ay (av 4) aB)) aB))) (ay (av 5) aB))))) (aW (bT i7)) dX) (aW (c7 (PW.pt (uI (cE uK (av 1) aX) (uJ (rD (iI (bz T.ET (VF T) (hr.mono (by decide)) (ay (av 2) aB))))))) (aW (bT i7)) dX)))))))))) ?_
  exact(aW (bT (iH xF (bz T.vA (Bj T) (hr.mono (by decide)) (ay (ie (ay (ie aB) aB)) (ay (ie (ay (ie aB) (ay (ie aB) aB))) aB))) i6)))
end
end Ev
namespace Ev
open PySem L2
theorem cF{s t:ah}{e e':Ev}{c c':aa}(h:s e c=.ok (.nx e') c'):aD s t e c=t e' c':=by rw[iW,h];rfl
theorem gT{i:Int}(h:0≤i):∃n:Nat,i=n:=⟨i.toNat,by omega⟩
theorem nK{g:Gd}{s:ah}(inv:Nat→Ev→aa→Prop):∀(items:List D) (k:Nat) (e:Ev) (c:aa),inv k e c →
  (∀i x,items[i]? = some x→∀e c,inv (k+i) e c→∃e' e'' c' c'',g x e c=.ok e' c'∧s e' c'=.ok (.nx e'') c''∧inv (k+i+1) e'' c'') →
  ∃e' c',inv (k+items.length) e' c'∧bS (fun _=>True) g s items e c=.ok (.nx e') c'
 |[],k,e,c,hi,_=>⟨e,c,hi,by simp⟩
 |x::xs,k,e,c,hi,h=>by
  obtain⟨e',e'',c',c'',h1,h2,h3⟩:=h 0 x rfl e c hi
  obtain⟨e3,c3,i3,h4⟩:=nK inv xs (k+1) e'' c'' h3 fun i y hy e c hi=>by
   have:=h (i+1) y (by simpa using hy) e c (by rwa[show k+(i+1)=k+1+i by omega])
   rwa[show k+(i+1)+1=k+1+i+1 by omega]at this
  exact⟨e3,c3,by rwa[ahu,show k+(xs.length+1)=k+1+xs.length by omega],by rw[pP,h1,R.aC,h2];exact h4⟩
def ez(j:Nat) (n:Nat) (c:aa):Prop:=c.length=n∧j<n∧∃p:Int,c[j]? = some (.lst [.int p])
theorem ez.set{j n:Nat}{c:aa}(h:ez j n c) (p:Int):ez j n (c.set j (.lst [.int p])):=by
 obtain⟨h1,h2,_⟩:=h
 exact⟨by simp[h1],h2,p,by rw[aiw (by omega)]⟩
theorem jO{j n:Nat}{c:aa}{cD:Int}(h:ez j n c) (h0:0<cD) (h1:cD<1073741824) :
  ∃(x:Int) (c':aa),0≤x∧x<cD∧ez j n c'∧aY [.ref j,.int cD] c=.ok (.int x) c':=by
 obtain⟨hl,hj,p,hp⟩:=id h
 refine⟨p % cD,c.set j (.lst [.int (p/cD)]),ajG _ (by omega),ajH _ h0,h.set _,?_⟩
 have e1:aH (.ref j) (.int 0) c=.ok (.int p) c:=by
  unfold aH gv
  simp[hp]
 have e2:kP (.ref j) (.int 0) (.int (p/cD)) c=.ok () (c.set j (.lst [.int (p/cD)])):=by
  unfold kP
  simp[hp,gC]
 have e3:(c.set j (.lst [.int (p/cD)])).take c.length=c.set j (.lst [.int (p/cD)]):=by
  rw[ajN];simp
 simp(disch:=omega) [aY,pW,e1,nj,sD,e2,e3]
theorem Tf(cell:Int) (c:aa):∃p:Int,rM [.int cell] c=.ok (.ref c.length) (c++[.lst [.int p]]):=by
 by_cases h:10^18≤cell
 ·refine⟨cell-10^18,?_⟩
  simp(disch:=omega) [rM,pX,HZ,h]
  rw[if_pos (by simpa using h)]
  simp[dM]
 ·obtain⟨e',c',⟨⟨q,v1,v2,rfl⟩,rfl⟩,hf⟩:=Lh (g:=az 2) (s:=(aD (aE 3 (au cK (au dF (au bu (au bu (au cK (ak 0) (dC (.int 2147483629))) (au dF (dC (.int 7919)) (ak 2))) (dC (.int 1))) (dC (.int 48271))) (dC (.int 2147483647)))) (aD (aE 3 (au cK (au bu (au bu (au dF (ak 3) (ak 3)) (au dF (dC (.int 69621)) (ak 2))) (dC (.int 7))) (dC (.int 2147483587)))) (aE 1 (au bu (au dF (ak 1) (dC (.int 2147483587))) (ak 3))))))
   (fun e c'=>(∃q v1 v2,e=[some (.int cell),some (.int q),v1,v2])∧c'=c) (aM 0 64) [some (.int cell),some (.int 0),none,none] c ⟨⟨0,none,none,rfl⟩,rfl⟩ (fun x hx e c' ⟨⟨q,v1,v2,he⟩,hc⟩=>by
    obtain⟨i,rfl,i0,i1⟩:=o5 hx
    subst he;subst hc
    have b0:0≤(cell % 2147483629+7919*i+1)*48271 % 2147483647:=ajG _ (by decide)
    have b1:(cell % 2147483629+7919*i+1)*48271 % 2147483647<2147483647:=ajH _ (by decide)
    generalize hm:(cell % 2147483629+7919*i+1)*48271 % 2147483647=m at b0 b1
    refine⟨_,[some (.int cell),some (.int (q*2147483587+(m*m+69621*i+7) % 2147483587)),some (.int i),some (.int ((m*m+69621*i+7) % 2147483587))],_,_,rfl,by simp(disch:=omega) [nj,BI,mul_r,hm],⟨⟨_,_,_,rfl⟩,rfl⟩⟩)
  refine⟨q,?_⟩
  have hh:¬(1000000000000000000≤cell):=by simpa using h
  simp(disch:=omega) [rM,pX,HZ,hh]
  rw[hf]
  simp[dM]
theorem ad0(ns:List Int) (k:Int) (h:0≤k) (c:aa):∃x:Int,rP [.ck ns,.int k] c=.ok (.int x) c:=by
 by_cases q:k<ns.length
 ·have hk:k.toNat<ns.length:=by omega
  refine⟨ns[k.toNat],?_⟩
  have e:aH (.ck ns) (.int k) c=.ok (.int ns[k.toNat]) c:=by
   show(match cY (ns.map D.int) k with|some d=>R.ok d c|none=>R.bad)=_
   have:cY (ns.map D.int) k=some (.int ns[k.toNat]):=by
    have:=lU (xs:=ns.map D.int) (j:=k.toNat) (v:=.int ns[k.toNat]) (by simp[hk])
    rw[Int.toNat_of_nonneg h]at this
    exact this
   rw[this]
  simp[rP,pY,q,e]
 ·exact⟨0,by simp[rP,pY,q]⟩
theorem take2{j:Nat}{c:aa}{p cD:Int}(hp:c[j]? = some (.lst [.int p])) (h0:0<cD) (h1:cD<1073741824):aY [.ref j,.int cD] c=.ok (.int (p % cD)) (c.set j (.lst [.int (p/cD)])):=by
 have hj:j<c.length:=(ahz.mp hp).1
 have e1:aH (.ref j) (.int 0) c=.ok (.int p) c:=by
  unfold aH gv
  simp[hp]
 have e2:kP (.ref j) (.int 0) (.int (p/cD)) c=.ok () (c.set j (.lst [.int (p/cD)])):=by
  unfold kP
  simp[hp,gC]
 have e3:(c.set j (.lst [.int (p/cD)])).take c.length=c.set j (.lst [.int (p/cD)]):=by
  rw[ajN];simp
 simp(disch:=omega) [aY,pW,e1,nj,sD,e2,e3]
def PO(j n:Nat) (os:List Nat) (c:aa):Prop:=c.length=n+1∧j<n∧(∃p:Int,c[j]? = some (.lst [.int p]))∧c[n]? = some (.lst (nD os))
theorem aav(os:List Nat) (i k:Nat):(os.take i++k::os.drop i).Perm (k::os):=by
 refine akV.trans ?_
 rw[ajo]
def rE:ah:=(cJ (vG (ak 2) (aA 2 aY (ao (ak 0) (ao (au bu (ak 3) (dC (.int 1))) aq))) (ak 3)))
theorem U5{j n k:Nat}{os:List Nat}{c:aa}(hP:PO j n os c) (hk:os.length=k) (hk':k<1000) (a1:Option D) :
  ∃os' c',PO j n os' c'∧os'.Perm (k::os)∧rE [some (.ref j),a1,some (.ref n),some (.int k)] c=.ok (.nx [some (.ref j),a1,some (.ref n),some (.int k)]) c':=by
 obtain⟨h1,h2,⟨p,h3⟩,h4⟩:=hP
 have hs:=b8 (n:=1000) (by decide)
 have ht:=take2 (cD:=(k:Int)+1) h3 (by omega) (by omega)
 have x0:=ajG p (show(k:Int)+1≠0 by omega)
 have x1:=ajH p (show(0:Int)<(k:Int)+1 by omega)
 generalize p % ((k:Int)+1)=x at ht x0 x1
 obtain⟨i,rfl⟩:=gT x0
 generalize hc1:c.set j (.lst [.int (p/((k:Int)+1))])=c1 at ht
 have l1:c1.length=n+1:=by rw[←hc1];simp[h1]
 have q1:c1[n]? = some (.lst (nD os)):=by rw[←hc1,aiI (by omega)];exact h4
 have q0:c1[j]? = some (.lst [.int (p/((k:Int)+1))]):=by rw[←hc1,aiw (by omega)]
 refine⟨os.take i++k::os.drop i,c1.set n (.lst (nD (os.take i++k::os.drop i))),⟨by simp[l1],h2,⟨_,by rw[aiI (by omega)];exact q0⟩,by rw[aiw (by omega)]⟩,aav os i k,?_⟩
 have e:nD (os.take i++k::os.drop i)=(nD os).take i ++ .int k::(nD os).drop i:=by simp[nD,List.map_take,List.map_drop]
 have hin:vG (ak 2) (aA 2 aY (ao (ak 0) (ao (au bu (ak 3) (dC (.int 1))) aq))) (ak 3) [some (.ref j),a1,some (.ref n),some (.int k)] c=.ok .aG (c1.set n (.lst (nD (os.take i++k::os.drop i)))):=by
  rw[Oh]
  simp only[bD,gz,gs,R.aC,x_call,bE,dB,eT,bA,iC,ahu,ahH,if_pos,ht,q1]
  rw[if_pos ⟨⟨by omega,by rw[ahx];omega⟩,by rw[ahx];omega,rfl⟩,aiZ,e]
 unfold rE
 rw[tT,hin]
 rfl
theorem U7{j n:Nat}{q:Int}{c c3:aa}{l:List D}{v:Option D}(hn:c.length=n) (b:-4611686018427387904≤q∧q<4611686018427387904) (hf:bS (fun _=>True) (az 3) rE (aM 0 q) [some (.ref j),some (.int q),some (.ref n),none] (c++[.lst []])=.ok (.nx [some (.ref j),some (.int q),some (.ref n),v]) c3)
  (ht:eU [.ref n] c3=.ok (.tup l) c3) (nr:bK l=true):ig [.ref j,.int q] c=.ok (.tup l) (c3.take n):=by
 have hb:sS=aD (aE 2 (fh aq)) (aD (b9 (bh (ao (ak 1) aq)) (az 3) rE) (aU (aF eU (ao (ak 2) aq)))):=rfl
 have e0:(aE 2 (fh aq)) [some (.ref j),some (.int q),none,none] c=.ok (.nx [some (.ref j),some (.int q),some (.ref n),none]) (c++[.lst []]):=by simp[hn]
 have e1:(b9 (bh (ao (ak 1) aq)) (az 3) rE) [some (.ref j),some (.int q),some (.ref n),none] (c++[.lst []])=.ok (.nx [some (.ref j),some (.int q),some (.ref n),v]) c3:=by
  simp only[jm,gP,bE,bD,gz,gs,bA,R.aC]
  rw[if_pos (by omega)]
  exact hf
 have e2:(aU (aF eU (ao (ak 2) aq))) [some (.ref j),some (.int q),some (.ref n),v] c3=.ok (.rt (.tup l)) c3:=by simp[ht]
 rw[ig,iX,hb]
 have es:cB 4 [D.ref j,.int q]=[some (.ref j),some (.int q),none,none]:=rfl
 rw[es,cF e0,cF e1,e2]
 have jY:noRef (.tup l)=true:=nr
 simp only[R.aC]
 unfold dM
 dsimp only
 rw[if_pos jY,hn]
theorem Bc{j n m:Nat}{c:aa}(hP:ez j n c) (hm:m<1000):∃os c',os.Perm (List.range m)∧ez j n c'∧ig [.ref j,.int (m:Int)] c=.ok (.tup (nD os)) c':=by
 obtain⟨hl,hj,p,hp⟩:=hP
 have hlen:(aM 0 (m:Int)).length=m:=by rw[dY];omega
 obtain⟨e',c3,⟨os,v,rfl,P3,hp3⟩,hf⟩:=nK (g:=az 3) (s:=rE) (fun k e c=>∃os v,e=[some (.ref j),some (.int (m:Int)),some (.ref n),v]∧PO j n os c∧os.Perm (List.range k))
  (aM 0 (m:Int)) 0 [some (.ref j),some (.int (m:Int)),some (.ref n),none] (c++[.lst []]) ⟨[],none,rfl,⟨by simp[hl],hj,⟨p,by rw[ah1 (by omega)];exact hp⟩,by rw[aip (by omega),hl];simp⟩,.refl _⟩ (fun i x hx e c ⟨os,v,he,P1,hp1⟩=>by
   subst he
   have hi:i<(aM 0 (m:Int)).length:=(ahz.mp hx).1
   obtain⟨hlt,rfl⟩:=jS hx
   rw[ajs]
   rw[ahM]at hp1 ⊢
   have j7:os.length=i:=by have:=hp1.length_eq;simpa using this
   obtain⟨UZ,c2,P2,hp2,h2⟩:=U5 P1 j7 (by omega) (some (.int (m:Int)))
   refine⟨_,_,_,_,rfl,h2,UZ,_,rfl,P2,?_⟩
   rw[akN]
   exact hp2.trans ((hp1.cons i).trans (akO i _).symm))
 rw[hlen,ahM]at hp3
 obtain⟨l3,_,⟨p3,q3⟩,q4⟩:=P3
 refine⟨os,c3.take n,hp3,⟨by rw[ajh];omega,hj,p3,by rw[akr hj];exact q3⟩,?_⟩
 exact U7 hl (by omega) hf (by unfold eU;dsimp only;rw[show gv c3 (.ref n)=some (nD os) by unfold gv;dsimp only;rw[q4]]) (jt os)
def cN(n m:Nat):List D:=(List.range m).map fun r=>.ref (n+r)
theorem xg{n m r:Nat}(h:r<m):cY (cN n m) (r:Int)=some (.ref (n+r)):=lU (by simp[cN,h])
def bJ(m:Nat) (f:Nat→Nat→Bool) (i:Nat):List D:=(List.range m).map fun k=>.bl (f i k)
def dJ(m:Nat) (f:Nat→Nat→Bool):aa:=(List.range m).map fun i=>.lst (bJ m f i)
def aQ(m:Nat) (f:Nat→Nat→Bool):D:=.lst ((List.range m).map fun i=>.lst (bJ m f i))
def fG(f:Nat→Nat→Bool) (a b:Nat) (v:Bool):Nat→Nat→Bool:=fun i k=>if i=a∧k=b then v else f i k
theorem RY(m:Nat) (f:Nat→Nat→Bool) (i:Nat):(bJ m f i).length=m:=by simp[bJ]
theorem RZ{m k:Nat}(f:Nat→Nat→Bool) (i:Nat) (h:k<m):(bJ m f i)[k]? = some (.bl (f i k)):=by simp[bJ,h]
theorem AY(m:Nat) (f:Nat→Nat→Bool) (i:Nat):bK (bJ m f i)=true:=gS.mpr fun d hd=>by
 obtain⟨k,_,rfl⟩:=ahs.mp hd
 rfl
theorem DM{m i:Nat}(f:Nat→Nat→Bool) (c:aa) (h:i<m):(c++dJ m f)[c.length+i]? = some (.lst (bJ m f i)):=by
 rw[aip (by omega)]
 simp[dJ,h]
theorem abA{m a b:Nat}(f:Nat→Nat→Bool) (v:Bool) (c:aa) (ha:a<m):(c++dJ m f).set (c.length+a) (.lst ((bJ m f a).set b (.bl v)))=c++dJ m (fG f a b v):=by
 rw[List.set_append_right _ _ (by omega)]
 congr 1
 rw[Nat.add_sub_cancel_left]
 apply aim
 ·simp[dJ]
 ·intro i h1 h2
  rw[al1]
  simp only[dJ,ak5,ak1]
  by_cases e:a=i
  ·subst e
   rw[if_pos rfl]
   congr 1
   apply aim
   ·simp[bJ]
   ·intro k h3 h4
    rw[al1]
    simp only[bJ,ak5,ak1,fG]
    by_cases e2:b=k
    ·subst e2;simp
    ·rw[if_neg e2,if_neg (fun z=>e2 z.2.symm)]
  ·rw[if_neg e]
   congr 1
   unfold bJ
   refine ah6 fun k _=>?_
   unfold fG
   rw[if_neg (fun z=>e z.1.symm)]
theorem yj{m a b:Nat}(f:Nat→Nat→Bool) (v:Bool) (c:aa) (ha:a<m) (hb:b<m):kP (.ref (c.length+a)) (.int (b:Int)) (.bl v) (c++dJ m f)=.ok () (c++dJ m (fG f a b v)):=by
 have h:=DM f c ha
 have p:=abA (b:=b) f v c ha
 have hl:=RY m f a
 unfold kP
 simp[h,gC,hl,hb,noRef,p]
theorem abW(n:Nat):(List.replicate n [D.bl false]).flatten=(List.range n).map fun _=>D.bl false:=by
 induction n with
 |zero=>rfl
 |succ n ih=>rw[aiG,aiK,ih,ake,ahv,ahK];rfl
def pO:af:=(au jU (cH (ao (dC (.bl false)) aq)) (ak 1))
theorem abC{q:Int}{m:Nat}(hq:q=m) (hm:m<1000) (v:Option D) (c:aa):pO [v,some (.int q)] c=.ok (.ref c.length) (c++[.lst ((List.range m).map fun _=>.bl false)]):=by
 have hs:=b8 (n:=1000) (by decide)
 have h1:(1:Nat)≤sizeLine:=b8 (by decide)
 have e:(List.replicate q.toNat [D.bl false]).flatten=(List.range m).map fun _=>D.bl false:=by rw[abW,hq,aiZ]
 unfold pO
 simp only[dB,kL,bE,eT,bA,R.aC,bD,gz,gs,ahu,ahH]
 rw[if_pos h1]
 simp only[R.aC,N8,e]
 rw[if_pos ⟨by omega,by omega,by simp only[ahu,ahH];omega,rfl⟩]
theorem E6{q:Int}{m:Nat}(hq:q=m) (hm:m<1000):∀(items:List D) (v:Option D) (acc:List D) (c:aa),bM (fun _=>True) (az 0) bg pO items [v,some (.int q)] acc c=.ok (acc++cN c.length items.length) (c++(List.range items.length).map fun _=>.lst ((List.range m).map fun _=>.bl false))
 |[],v,acc,c=>by simp[cN]
 |x::xs,v,acc,c=>by
  rw[gZ]
  have h1:az 0 x [v,some (.int q)] c=.ok [some x,some (.int q)] c:=rfl
  rw[h1,R.aC,oi,R.aC,if_pos rfl,abC hq hm,R.aC,E6 hq hm xs]
  have e1:acc++[D.ref c.length]++cN (c++[Cell.lst ((List.range m).map fun _=>.bl false)]).length xs.length=acc++cN c.length (x::xs).length:=by
   rw[ahX,ahW,ahu,ahH]
   congr 1
   unfold cN
   rw[ahu,ake,ahv,ahK]
   simp only[al2,ahI,ai4]
   congr 1
   refine ah6 fun r _=>?_
   simp only[Function.comp]
   congr 1;omega
  have e2:c++[Cell.lst ((List.range m).map fun _=>D.bl false)]++(List.range xs.length).map (fun _=>Cell.lst ((List.range m).map fun _=>D.bl false))=c++(List.range (x::xs).length).map (fun _=>Cell.lst ((List.range m).map fun _=>D.bl false)):=by
   rw[ahX]
   congr 1
   rw[ahu,ake,ahv,ahK]
   rfl
  rw[e1,e2]
theorem G1(c:aa) (n m:Nat) (f:Nat→Nat→Bool):∀l:List Nat,(∀i∈l,c[n+i]? = some (.lst (bJ m f i)))→mW c n (l.map fun i=>.ref (n+i))=some (l.map fun i=>.lst (bJ m f i))
 |[],_=>rfl
 |i::l,h=>by
  have ih:=G1 c n m f l fun k hk=>h k (.tail _ hk)
  rw[ahv,ahv,mW,ih]
  have:fq c n (.ref (n+i))=some (.lst (bJ m f i)):=by
   unfold fq
   rw[h i (.head _)]
   dsimp only
   rw[if_pos (by omega)]
  rw[this]
theorem Ey(c:aa) (m:Nat) (f:Nat→Nat→Bool):kc c.length (.lst (cN c.length m)) (c++dJ m f)=.ok (aQ m f) c:=by
 unfold kc fq cN
 rw[G1 _ _ m f (List.range m) fun i hi=>DM f c (ahn.mp hi)]
 simp[aQ]
def bN(p:Nat×Nat):D:=.tup [.int p.1,.int p.2]
def Gi(m:Nat) (ps:List (Nat×Nat)):Prop:=∀p∈ps,p.1<m∧p.2<m
def gB(ps:List (Nat×Nat)):Nat→Nat→Bool:=fun i k=>ps.any fun p=>(p.1==i&&p.2==k)||(p.2==i&&p.1==k)
theorem join_snoc(ps:List (Nat×Nat)) (p:Nat×Nat):gB (ps++[p])=fG (fG (gB ps) p.1 p.2 true) p.2 p.1 true:=by
 funext i k
 unfold gB fG
 rw[List.any_append]
 by_cases h1:i=p.2∧k=p.1
 ·rw[if_pos h1];simp[h1.1,h1.2]
 ·rw[if_neg h1]
  by_cases h2:i=p.1∧k=p.2
  ·rw[if_pos h2];simp[h2.1,h2.2]
  ·rw[if_neg h2]
   have e1:(p.1==i&&p.2==k)=false:=by
    cases q:(p.1==i&&p.2==k)with
    |false=>rfl
    |true=>simp at q;exact absurd ⟨q.1.symm,q.2.symm⟩ h2
   have e2:(p.2==i&&p.1==k)=false:=by
    cases q:(p.2==i&&p.1==k)with
    |false=>rfl
    |true=>simp at q;exact absurd ⟨q.1.symm,q.2.symm⟩ h1
   simp[e1,e2]
def rW:ah:=(aD (ic (dC (.bl true)) (iy (au aH (ak 2) (ak 3)) (ak 4))) (ic (dC (.bl true)) (iy (au aH (ak 2) (ak 4)) (ak 3))))
theorem aab{m a b:Nat}{f:Nat→Nat→Bool}{c:aa}(a0 a1:Option D) (ha:a<m) (hb:b<m) :
  rW [a0,a1,some (.lst (cN c.length m)),some (.int a),some (.int b)] (c++dJ m f)=.ok (.nx [a0,a1,some (.lst (cN c.length m)),some (.int a),some (.int b)]) (c++dJ m (fG (fG f a b true) b a true)):=by
 have h1:∀c',aH (.lst (cN c.length m)) (.int a) c'=.ok (.ref (c.length+a)) c':=fun c'=>by rw[g9,xg ha]
 have h2:∀c',aH (.lst (cN c.length m)) (.int b) c'=.ok (.ref (c.length+b)) c':=fun c'=>by rw[g9,xg hb]
 have s1:=yj f true c ha hb
 have s2:=yj (fG f a b true) true c hb ha
 unfold rW
 simp only[iW,Am,eT,R.aC,Aj,dB,bD,gz,gs,h1,h2,s1,s2]
theorem aac{m:Nat}{ps:List (Nat×Nat)}{c:aa}(hp:Gi m ps) (st:aa→Prop) (hst:∀R:aa,st (c++R)) (a0 a1:Option D) :
  ∃v w,bS st (fU 2 (cV (az 3) (cV (az 4) gk))) rW (ps.map bN) [a0,a1,some (.lst (cN c.length m)),none,none] (c++dJ m fun _ _=>false)=.ok (.nx [a0,a1,some (.lst (cN c.length m)),v,w]) (c++dJ m (gB ps)):=by
 obtain⟨v',hf⟩:=DU (α:=Option D×Option D) (st:=st) (g:=(fU 2 (cV (az 3) (cV (az 4) gk)))) (s:=rW) (fun i=>c++dJ m (gB (ps.take i))) (fun _ v=>[a0,a1,some (.lst (cN c.length m)),v.1,v.2]) (ps.map bN) 0 (none,none) (fun i _=>hst _) (fun i x hx v=>by
  rw[ahM]
  have hi:i<ps.length:=by have:=(ahz.mp hx).1;simpa using this
  have ex:x=bN ps[i]:=by
   rw[ahP,ahy hi]at hx
   cases hx;rfl
  subst ex
  have hq:=hp _ (ail hi)
  have hs:=aab (m:=m) (a:=ps[i].1) (b:=ps[i].2) (f:=gB (ps.take i)) (c:=c) a0 a1 hq.1 hq.2
  rw[←join_snoc,←alJ hi]at hs
  refine⟨[a0,a1,some (.lst (cN c.length m)),some (.int ps[i].1),some (.int ps[i].2)],?_,(some (.int ps[i].1),some (.int ps[i].2)),hs⟩
  simp[bN])
 have e0:gB (ps.take 0)=fun _ _=>false:=by funext i k;rfl
 rw[ahM,ahx,aiD,e0]at hf
 exact⟨v'.1,v'.2,hf⟩
theorem aad{q:Int}{c c':aa}{l:List D}(a1:Option D) (b1:-4611686018427387904≤q∧q<4611686018427387904) (hl:(aM 0 q).length<sizeLine) (hc:bM (fun _=>True) (az 0) bg pO (aM 0 q) [none,some (.int q)] [] c=.ok l c') :
  (aE 2 (aZ (bh (ao (ak 0) aq)) [none,some 0] (az 0) bg (au jU (cH (ao (dC (.bl false)) aq)) (ak 1)))) [some (.int q),a1,none,none,none] c=.ok (.nx [some (.int q),a1,some (.lst l),none,none]) c':=by
 unfold pO at hc
 simp only[gr,f6,gP,bE,bD,gz,gs,bA,R.aC]
 rw[if_pos (by omega)]
 simp only[R.aC]
 rw[if_pos hl]
 have:dS [none,some 0] [some (D.int q),a1,none,none,none]=[none,some (.int q)]:=rfl
 rw[this,hc]
 rfl
theorem aae{q:Int}{X:D}{c c1 c2:aa}{l:List D}{v w:Option D}{W:D}{s0 s1 s2:ah}(e0:s0 [some (.int q),some X,none,none,none] c=.ok (.nx [some (.int q),some X,some (.lst l),none,none]) c1)
  (e1:s1 [some (.int q),some X,some (.lst l),none,none] c1=.ok (.nx [some (.int q),some X,some (.lst l),v,w]) c2) (e2:s2 [some (.int q),some X,some (.lst l),v,w] c2=.ok (.rt (.lst l)) c2) (hx:kc c.length (.lst l) c2=.ok W c) :
  lP 5 (aD s0 (aD s1 s2)) [.int q,X] c=.ok W c:=by
 rw[Ak]
 have e3:cB 5 [D.int q,X]=[some (.int q),some X,none,none,none]:=rfl
 rw[e3,cF e0,cF e1,e2]
 exact hx
theorem J9{m:Nat}{ps:List (Nat×Nat)}{X:D}{c:aa}(hp:Gi m ps) (hm:m<1000) (hX:(∃k,X=.ref k∧c[k]? = some (.lst (ps.map bN)))∨X=.lst (ps.map bN)):jw [.int (m:Int),X] c=.ok (aQ m (gB ps)) c:=by
 have hs:=b8 (n:=1000) (by decide)
 have hrl:(aM 0 (m:Int)).length=m:=by rw[dY];omega
 have hc:=E6 (q:=(m:Int)) (m:=m) rfl hm (aM 0 (m:Int)) none [] c
 rw[hrl,ahI]at hc
 have hg:(List.range m).map (fun _=>Cell.lst ((List.range m).map fun _=>D.bl false))=dJ m fun _ _=>false:=rfl
 rw[hg]at hc
 have Dp:∃st:aa→Prop,(∀R:aa,st (c++R))∧∀(a0 a2:Option D) (R:aa),cS (ak 1) [a0,some X,a2,none,none] (c++R)=.ok ⟨ps.map bN,st⟩ (c++R):=by
  rcases hX with⟨k,rfl,hk⟩|rfl
  ·have hkl:k<c.length:=(ahz.mp hk).1
   have KP:∀R:aa,(c++R)[k]? = some (.lst (ps.map bN)):=fun R=>by rw[ah1 hkl];exact hk
   refine⟨fun c'=>c'[k]? = some (.lst (ps.map bN)),KP,fun a0 a2 Rc=>?_⟩
   unfold cS
   simp only[bD,gz,gs,R.aC,KP]
  ·exact⟨fun _=>True,fun _=>trivial,fun a0 a2 R=>rfl⟩
 obtain⟨st,hst,hd⟩:=Dp
 obtain⟨v,w,hf⟩:=aac (m:=m) (c:=c) hp st hst (some (.int (m:Int))) (some X)
 have e1:(b9 (cS (ak 1)) (fU 2 (cV (az 3) (cV (az 4) gk))) rW) [some (.int (m:Int)),some X,some (.lst (cN c.length m)),none,none] (c++dJ m fun _ _=>false)=.ok (.nx [some (.int (m:Int)),some X,some (.lst (cN c.length m)),v,w]) (c++dJ m (gB ps)):=by
  rw[jm,hd]
  exact hf
 have hb:sW=aD (aE 2 (aZ (bh (ao (ak 0) aq)) [none,some 0] (az 0) bg (au jU (cH (ao (dC (.bl false)) aq)) (ak 1)))) (aD (b9 (cS (ak 1)) (fU 2 (cV (az 3) (cV (az 4) gk))) rW) (aU (ak 2))):=rfl
 rw[jw,hb]
 exact aae (aad (some X) (by omega) (by rw[hrl];omega) hc) e1 rfl (Ey c m _)
theorem AA{m i:Nat}(f:Nat→Nat→Bool) (h:i<m):cY ((List.range m).map fun i=>D.lst (bJ m f i)) (i:Int)=some (.lst (bJ m f i)):=lU (by simp[h])
theorem uD{m k:Nat}(f:Nat→Nat→Bool) (i:Nat) (h:k<m):cY (bJ m f i) (k:Int)=some (.bl (f i k)):=lU (RZ f i h)
theorem Jo{os:List Nat}{i:Nat}(h:i<os.length):cY (nD os) (i:Int)=some (.int (os[i]:Nat)):=lU (by simp[nD,h])
theorem Dj{os:List Nat}{a:Nat}(h:os.idxOf a<os.length):os[os.idxOf a]=a:=by
 have:a∈os:=ajO.mp h
 exact ajP h
theorem Dk{os:List Nat}(hn:os.Nodup) {i:Nat}(h:i<os.length):os.idxOf os[i]=i:=by
 have h1:os.idxOf os[i]<os.length:=ajO.mpr (ail h)
 have h2:os[os.idxOf os[i]]=os[i]:=Dj h1
 exact(aiv hn).mp h2
def d8(os:List Nat) (f:Nat→Nat→Bool) (i k:Nat):Nat→Nat→Bool:=fun a b=>if os.idxOf a<i∨(os.idxOf a=i∧os.idxOf b<k)then(if os.idxOf b<os.length then f (os.idxOf a) (os.idxOf b)else false)else false
theorem YC{os:List Nat}(hn:os.Nodup) (f:Nat→Nat→Bool) {i k:Nat}(hi:i<os.length) (hk:k<os.length):fG (d8 os f i k) os[i] os[k] (f i k)=d8 os f i (k+1):=by
 funext a b
 unfold fG d8
 by_cases h:a=os[i]∧b=os[k]
 ·rw[if_pos h,h.1,h.2,Dk hn hi,Dk hn hk]
  rw[if_pos (by omega),if_pos hk]
 ·rw[if_neg h]
  by_cases ha:os.idxOf a=i
  ·by_cases hb:os.idxOf b=k
   ·have ea:os[i]=a:=by
     have:=Dj (os:=os) (a:=a) (by omega)
     simpa[ha]using this
    have eb:os[k]=b:=by
     have:=Dj (os:=os) (a:=b) (by omega)
     simpa[hb]using this
    exact absurd ⟨ea.symm,eb.symm⟩ h
   ·have e:(os.idxOf a<i∨(os.idxOf a=i∧os.idxOf b<k))↔(os.idxOf a<i∨(os.idxOf a=i∧os.idxOf b<k+1)):=by omega
    simp only[e]
  ·have e:(os.idxOf a<i∨(os.idxOf a=i∧os.idxOf b<k))↔(os.idxOf a<i∨(os.idxOf a=i∧os.idxOf b<k+1)):=by omega
   simp only[e]
theorem YD{os:List Nat}(f:Nat→Nat→Bool) (i:Nat):∀a b,d8 os f i os.length a b=d8 os f (i+1) 0 a b:=fun a b=>by
 unfold d8
 by_cases hb:os.idxOf b<os.length
 ·have e:(os.idxOf a<i∨(os.idxOf a=i∧os.idxOf b<os.length))↔(os.idxOf a<i+1∨(os.idxOf a=i+1∧os.idxOf b<0)):=by omega
  simp only[e]
 ·simp only[if_neg hb,ite_self]
def uO:ah:=(ic (au aH (au aH (ak 0) (ak 4)) (ak 5)) (iy (au aH (ak 3) (au aH (ak 1) (ak 4))) (au aH (ak 1) (ak 5))))
theorem YK{os:List Nat}(hn:os.Nodup) {m i k:Nat}(hm:os.length=m) (f:Nat→Nat→Bool) {c:aa}(hlt:∀x∈os,x<m) (hi:i<m) (hk:k<m) (a2:Option D) :
  uO [some (aQ m f),some (.tup (nD os)),a2,some (.lst (cN c.length m)),some (.int i),some (.int k)] (c++dJ m (d8 os f i k))=.ok (.nx [some (aQ m f),some (.tup (nD os)),a2,some (.lst (cN c.length m)),some (.int i),some (.int k)]) (c++dJ m (d8 os f i (k+1))):=by
 have Du:os[i]<m:=hlt _ (ail (by omega))
 have hok:os[k]<m:=hlt _ (ail (by omega))
 have h1:∀c',aH (aQ m f) (.int (i:Int)) c'=.ok (.lst (bJ m f i)) c':=fun c'=>by unfold aQ;rw[g9,AA f hi]
 have h2:∀c',aH (.lst (bJ m f i)) (.int (k:Int)) c'=.ok (.bl (f i k)) c':=fun c'=>by rw[g9,uD f i hk]
 have h3:∀c',aH (.tup (nD os)) (.int (i:Int)) c'=.ok (.int (os[i]:Nat)) c':=fun c'=>by rw[wk,Jo (by omega)]
 have h4:∀c',aH (.tup (nD os)) (.int (k:Int)) c'=.ok (.int (os[k]:Nat)) c':=fun c'=>by rw[wk,Jo (by omega)]
 have h5:∀c',aH (.lst (cN c.length m)) (.int (os[i]:Nat)) c'=.ok (.ref (c.length+os[i])) c':=fun c'=>by rw[g9,xg Du]
 have s1:=yj (d8 os f i k) (f i k) c Du hok
 rw[YC hn f (by omega) (by omega)]at s1
 unfold uO
 simp only[Am,R.aC,Aj,dB,bD,gz,gs,h1,h2,h3,h4,h5,s1]
def oZ:ah:=b9 (bh (ao (ak 2) aq)) (az 5) uO
theorem YJ{q:Int}{T O:D}{c c':aa}{l:List D}{a4 v v':Option D}(b:-4611686018427387904≤q∧q<4611686018427387904) (h:bS (fun _=>True) (az 5) uO (aM 0 q) [some T,some O,some (.int q),some (.lst l),a4,v] c=.ok (.nx [some T,some O,some (.int q),some (.lst l),a4,v']) c') :
  oZ [some T,some O,some (.int q),some (.lst l),a4,v] c=.ok (.nx [some T,some O,some (.int q),some (.lst l),a4,v']) c':=by
 unfold oZ
 simp only[jm,gP,bE,bD,gz,gs,bA,R.aC]
 rw[if_pos (by omega)]
 exact h
theorem YI{os:List Nat}(hn:os.Nodup) {m i:Nat}(hm:os.length=m) (hm':m<1000) (f:Nat→Nat→Bool) {c:aa}(hlt:∀x∈os,x<m) (hi:i<m) (v:Option D) :
  ∃v',oZ [some (aQ m f),some (.tup (nD os)),some (.int (m:Int)),some (.lst (cN c.length m)),some (.int i),v] (c++dJ m (d8 os f i 0))=.ok (.nx [some (aQ m f),some (.tup (nD os)),some (.int (m:Int)),some (.lst (cN c.length m)),some (.int i),v']) (c++dJ m (d8 os f (i+1) 0)):=by
 obtain⟨v',hf⟩:=Lg (g:=az 5) (s:=uO) (fun k=>c++dJ m (d8 os f i k)) (fun _ v=>[some (aQ m f),some (.tup (nD os)),some (.int (m:Int)),some (.lst (cN c.length m)),some (.int i),v]) (N:=(m:Int)) (n:=m) rfl v (fun k hk v=>by
  exact⟨_,rfl,some (.int k),YK hn hm f hlt hi hk (some (.int (m:Int)))⟩)
 have e:d8 os f i m=d8 os f (i+1) 0:=by
  funext a b
  rw[←hm];exact YD f i a b
 rw[e]at hf
 exact⟨v',YJ (by omega) hf⟩
theorem aio(m:Nat) (f:Nat→Nat→Bool) (c:aa):aN [aQ m f] c=.ok (.int (m:Int)) c:=by
 unfold aN aQ
 simp[gv]
theorem YH{q:Int}{T O W:D}{c c1 c2:aa}{l:List D}{v w:Option D}{s0 s1 s2 s3:ah}(e0:s0 [some T,some O,none,none,none,none] c=.ok (.nx [some T,some O,some (.int q),none,none,none]) c) (e1:s1 [some T,some O,some (.int q),none,none,none] c=.ok (.nx [some T,some O,some (.int q),some (.lst l),none,none]) c1)
  (e2:s2 [some T,some O,some (.int q),some (.lst l),none,none] c1=.ok (.nx [some T,some O,some (.int q),some (.lst l),v,w]) c2) (e3:s3 [some T,some O,some (.int q),some (.lst l),v,w] c2=.ok (.rt (.lst l)) c2) (hx:kc c.length (.lst l) c2=.ok W c) :
  lP 6 (aD s0 (aD s1 (aD s2 s3))) [T,O] c=.ok W c:=by
 rw[Ak]
 have es:cB 6 [T,O]=[some T,some O,none,none,none,none]:=rfl
 rw[es,cF e0,cF e1,cF e2,e3]
 exact hx
theorem YF{q:Int}{T O:D}{c c':aa}{l:List D}(b1:-4611686018427387904≤q∧q<4611686018427387904) (hl:(aM 0 q).length<sizeLine) (hc:bM (fun _=>True) (az 0) bg pO (aM 0 q) [none,some (.int q)] [] c=.ok l c') :
  (aE 3 (aZ (bh (ao (ak 2) aq)) [none,some 2] (az 0) bg (au jU (cH (ao (dC (.bl false)) aq)) (ak 1)))) [some T,some O,some (.int q),none,none,none] c=.ok (.nx [some T,some O,some (.int q),some (.lst l),none,none]) c':=by
 unfold pO at hc
 simp only[gr,f6,gP,bE,bD,gz,gs,bA,R.aC]
 rw[if_pos (by omega)]
 simp only[R.aC]
 rw[if_pos hl]
 have:dS [none,some 2] [some T,some O,some (D.int q),none,none,none]=[none,some (.int q)]:=rfl
 rw[this,hc]
 rfl
theorem YG{q:Int}{T O:D}{c c':aa}{l:List D}{u v:Option D}(b:-4611686018427387904≤q∧q<4611686018427387904) (h:bS (fun _=>True) (az 4) oZ (aM 0 q) [some T,some O,some (.int q),some (.lst l),none,none] c=.ok (.nx [some T,some O,some (.int q),some (.lst l),u,v]) c') :
  (b9 (bh (ao (ak 2) aq)) (az 4) oZ) [some T,some O,some (.int q),some (.lst l),none,none] c=.ok (.nx [some T,some O,some (.int q),some (.lst l),u,v]) c':=by
 simp only[jm,gP,bE,bD,gz,gs,bA,R.aC]
 rw[if_pos (by omega)]
 exact h
theorem BJ{os:List Nat}{m:Nat}(hp:os.Perm (List.range m)) (hm:m<1000) (f:Nat→Nat→Bool) (c:aa):iL [aQ m f,.tup (nD os)] c=.ok (aQ m (d8 os f m 0)) c:=by
 have hs:=b8 (n:=1000) (by decide)
 have hn:os.Nodup:=hp.nodup_iff.mpr ajK
 have hl:os.length=m:=by have:=hp.length_eq;simpa using this
 have hlt:∀x∈os,x<m:=fun x hx=>ahn.mp (hp.mem_iff.mp hx)
 have hrl:(aM 0 (m:Int)).length=m:=by rw[dY];omega
 have hc:=E6 (q:=(m:Int)) (m:=m) rfl hm (aM 0 (m:Int)) none [] c
 rw[hrl,ahI]at hc
 have hg:(List.range m).map (fun _=>Cell.lst ((List.range m).map fun _=>D.bl false))=dJ m (d8 os f 0 0):=by
  unfold dJ bJ
  refine ah6 fun i _=>?_
  congr 1
  refine ah6 fun k _=>?_
  simp[d8]
 rw[hg]at hc
 obtain⟨v',hf⟩:=Lg (α:=Option D×Option D) (g:=az 4) (s:=oZ) (fun i=>c++dJ m (d8 os f i 0)) (fun _ v=>[some (aQ m f),some (.tup (nD os)),some (.int (m:Int)),some (.lst (cN c.length m)),v.1,v.2]) (N:=(m:Int)) (n:=m) rfl (none,none) (fun i hi v=>by
  obtain⟨w,hw⟩:=YI hn hl hm f hlt hi v.2 (c:=c)
  exact⟨_,rfl,(some (.int i),w),hw⟩)
 have e0:(aE 2 (aF aN (ao (ak 0) aq))) [some (aQ m f),some (.tup (nD os)),none,none,none,none] c=.ok (.nx [some (aQ m f),some (.tup (nD os)),some (.int (m:Int)),none,none,none]) c:=by
  have:=aio m f c
  generalize aQ m f=T at *
  generalize (m:Int)=q at *
  simp[this]
 have hb:sV=aD (aE 2 (aF aN (ao (ak 0) aq))) (aD (aE 3 (aZ (bh (ao (ak 2) aq)) [none,some 2] (az 0) bg (au jU (cH (ao (dC (.bl false)) aq)) (ak 1)))) (aD (b9 (bh (ao (ak 2) aq)) (az 4) oZ) (aU (ak 3)))):=rfl
 rw[iL,hb]
 exact YH e0 (YF (by omega) (by rw[hrl];omega) hc) (YG (by omega) hf) rfl (Ey c m _)
def zu:af:=(aF pA (ao (ak 0) aq))
theorem LQ(m:Nat) (f:Nat→Nat→Bool):∀(l:List Nat) (v:Option D) (acc:List D) (c:aa),bM (fun _=>True) (az 0) bg zu (l.map fun i=>.lst (bJ m f i)) [v] acc c=.ok (acc++cN c.length l.length) (c++l.map fun i=>.lst (bJ m f i))
 |[],v,acc,c=>by simp[cN]
 |i::l,v,acc,c=>by
  rw[ahv,gZ]
  have h1:az 0 (.lst (bJ m f i)) [v] c=.ok [some (.lst (bJ m f i))] c:=rfl
  have h2:zu [some (.lst (bJ m f i))] c=.ok (.ref c.length) (c++[.lst (bJ m f i)]):=by
   unfold zu
   simp only[jn,bE,bD,gz,bA,R.aC]
   unfold pA
   dsimp only[gv]
   rw[if_pos (AY m f i)]
  rw[h1,R.aC,oi,R.aC,if_pos rfl,h2,R.aC,LQ m f l]
  have e1:acc++[D.ref c.length]++cN (c++[Cell.lst (bJ m f i)]).length l.length=acc++cN c.length (i::l).length:=by
   rw[ahX,ahW,ahu,ahH]
   congr 1
   unfold cN
   rw[ahu,ake,ahv,ahK]
   simp only[al2,ahI,ai4]
   congr 1
   refine ah6 fun r _=>?_
   simp only[Function.comp]
   congr 1;omega
  rw[e1,ahX]
  rfl
def t8(f:Nat→Nat→Bool) (a b:Nat):Nat→Nat→Bool:=fG (fG f a b (!f a b)) b a (!fG f a b (!f a b) b a)
theorem abB{m a b:Nat}(f:Nat→Nat→Bool) (c:aa) (ha:a<m) (hb:b<m):aH (.ref (c.length+a)) (.int (b:Int)) (c++dJ m f)=.ok (.bl (f a b)) (c++dJ m f):=by
 unfold aH gv
 dsimp only
 rw[DM f c ha]
 dsimp only
 rw[uD f a hb]
theorem G3{m a b:Nat}(f:Nat→Nat→Bool) {c:aa}{i j:Nat}{a0:Option D}{e:Ev}(he:e[3]? = some (some (.lst (cN c.length m)))) (hi:e[i]? = some (some (.int (a:Int)))) (hj:e[j]? = some (some (.int (b:Int)))) (ha:a<m) (hb:b<m) :
  ic (ki (au aH (au aH (ak 3) (ak i)) (ak j))) (iy (au aH (ak 3) (ak i)) (ak j)) e (c++dJ m f)=.ok (.nx e) (c++dJ m (fG f a b (!f a b))):=by
 have h1:∀c',aH (.lst (cN c.length m)) (.int (a:Int)) c'=.ok (.ref (c.length+a)) c':=fun c'=>by rw[g9,xg ha]
 have h2:=abB f c ha hb
 have s1:=yj f (!f a b) c ha hb
 simp only[Am,Oc,dB,bD,he,hi,hj,R.aC,h1,h2,Aj,s1]
theorem Ph{m a b:Nat}(ha:a<m) (hb:b<m) (hm:m<1000) (f:Nat→Nat→Bool) (c:aa):jZ [aQ m f,.int (a:Int),.int (b:Int)] c=.ok (aQ m (t8 f a b)) c:=by
 have hs:=b8 (n:=1000) (by decide)
 have hc:=LQ m f (List.range m) none [] c
 rw[ajE,ahI]at hc
 have hb':sO=aD (aE 3 (aZ (cS (ak 0)) [none] (az 0) bg (aF pA (ao (ak 0) aq)))) (aD (ic (ki (au aH (au aH (ak 3) (ak 1)) (ak 2))) (iy (au aH (ak 3) (ak 1)) (ak 2))) (aD (ic (ki (au aH (au aH (ak 3) (ak 2)) (ak 1))) (iy (au aH (ak 3) (ak 2)) (ak 1))) (aU (ak 3)))):=rfl
 have e0:(aE 3 (aZ (cS (ak 0)) [none] (az 0) bg (aF pA (ao (ak 0) aq)))) [some (aQ m f),some (.int (a:Int)),some (.int (b:Int)),none] c=.ok (.nx [some (aQ m f),some (.int (a:Int)),some (.int (b:Int)),some (.lst (cN c.length m))]) (c++dJ m f):=by
  unfold zu at hc
  rw[gr,f6]
  unfold cS aQ
  simp only[bD,gz,R.aC]
  rw[if_pos (by rw[ahx,ajE];omega)]
  have:∀T A B:Option D,dS [none] [T,A,B,none]=[none]:=fun _ _ _=>rfl
  rw[this,hc]
  rfl
 have e1:=G3 f (c:=c) (m:=m) (i:=1) (j:=2) (a0:=none) (e:=[some (aQ m f),some (.int (a:Int)),some (.int (b:Int)),some (.lst (cN c.length m))]) rfl rfl rfl ha hb
 have e2:=G3 (fG f a b (!f a b)) (c:=c) (m:=m) (i:=2) (j:=1) (a0:=none) (e:=[some (aQ m f),some (.int (a:Int)),some (.int (b:Int)),some (.lst (cN c.length m))]) rfl rfl rfl hb ha
 rw[jZ,hb',Ak]
 have es:cB 4 [aQ m f,.int (a:Int),.int (b:Int)]=[some (aQ m f),some (.int (a:Int)),some (.int (b:Int)),none]:=rfl
 rw[es,cF e0,cF e1,cF e2]
 exact Ey c m (t8 f a b)
def jG(f:Nat→Nat→Bool):Nat→Nat→Bool:=fun i k=>!decide (i=k) && !f i k
def tH:af:=(jg (au eL (ak 1) (ak 0)) (ki (au aH (au aH (ak 2) (ak 1)) (ak 0))))
def p7:af:=aZ (bh (ao (ak 1) aq)) [none,some 0,some 2] (az 0) bg tH
theorem yu(l:List D):l.filter (fun _=>true)=l:=by simp
theorem wW{β:Type}(m:Nat) (F:D→β):(aM 0 (m:Int)).map F=(List.range m).map fun i:Nat=>F (.int (i:Int)):=by
 unfold aM
 rw[ahK,show((m:Int)-0).toNat=m by omega]
 refine ah6 fun i _=>?_
 simp
theorem afd{m i:Nat}(f:Nat→Nat→Bool) (hi:i<m) (c:aa):bM (fun _=>True) (az 0) bg tH (aM 0 (m:Int)) [none,some (.int (i:Int)),some (aQ m f)] [] c=.ok (bJ m (jG f) i) c:=by
 have h1:∀c',aH (aQ m f) (.int (i:Int)) c'=.ok (.lst (bJ m f i)) c':=fun c'=>by unfold aQ;rw[g9,AA f hi]
 have:=nR (c:=c) (g:=az 0) (t:=bg) (a:=tH) (fun e=>∃v,e=[v,some (.int (i:Int)),some (aQ m f)]) (fun _=>true) (fun d=>match d with|.int k=>.bl (jG f i k.toNat)|d=>d) (aM 0 (m:Int)) [none,some (.int (i:Int)),some (aQ m f)] [] ⟨_,rfl⟩ (fun d hd e ⟨v,he⟩=>by
  subst he
  obtain⟨k',rfl,k0,k1⟩:=o5 hd
  obtain⟨k,rfl⟩:=gT k0
  have h2:∀c',aH (.lst (bJ m f i)) (.int (k:Int)) c'=.ok (.bl (f i k)) c':=fun c'=>by rw[g9,uD f i (by omega)]
  refine⟨_,rfl,⟨_,rfl⟩,rfl,fun _=>?_⟩
  show tH [some (.int (k:Int)),some (.int (i:Int)),some (aQ m f)] c=_
  generalize aQ m f=T at *
  unfold tH
  by_cases e:i=k
  ·subst e
   simp[jG]
  ·have e':¬(i:Int)=k:=by omega
   simp[e',jG,e,h1,h2])
 rw[this,ahI,yu,wW]
 congr 1
theorem afg{q i:Int}{T a0:Option D}{c:aa}{l:List D}(b:-4611686018427387904≤q∧q<4611686018427387904) (hl:(aM 0 q).length<sizeLine) (h:bM (fun _=>True) (az 0) bg tH (aM 0 q) [none,some (.int i),T] [] c=.ok l c):p7 [some (.int i),some (.int q),T] c=.ok (.lst l) c:=by
 unfold p7
 simp only[f6,gP,bE,bD,gz,gs,bA,R.aC]
 rw[if_pos (by omega)]
 simp only[R.aC]
 rw[if_pos hl]
 have:dS [none,some 0,some 2] [some (D.int i),some (.int q),T]=[none,some (.int i),T]:=by cases T<;>rfl
 rw[this,h]
 rfl
theorem afc{m:Nat}(f:Nat→Nat→Bool) (hm:m<1000) (c:aa):bM (fun _=>True) (az 0) bg p7 (aM 0 (m:Int)) [none,some (.int (m:Int)),some (aQ m f)] [] c=.ok ((List.range m).map fun i=>.lst (bJ m (jG f) i)) c:=by
 have hs:=b8 (n:=1000) (by decide)
 have:=nR (c:=c) (g:=az 0) (t:=bg) (a:=p7) (fun e=>∃v,e=[v,some (.int (m:Int)),some (aQ m f)]) (fun _=>true) (fun d=>match d with|.int k=>.lst (bJ m (jG f) k.toNat)|d=>d) (aM 0 (m:Int)) [none,some (.int (m:Int)),some (aQ m f)] [] ⟨_,rfl⟩ (fun d hd e ⟨v,he⟩=>by
  subst he
  obtain⟨k',rfl,k0,k1⟩:=o5 hd
  obtain⟨k,rfl⟩:=gT k0
  refine⟨_,rfl,⟨_,rfl⟩,rfl,fun _=>?_⟩
  exact afg (a0:=none) (by omega) (by rw[dY];omega) (afd f (by omega) c))
 rw[this,ahI,yu,wW]
 congr 1
theorem afe{q:Int}{T:D}{c:aa}{l:List D}(b:-4611686018427387904≤q∧q<4611686018427387904) (hl:(aM 0 q).length<sizeLine) (hn:aN [T] c=.ok (.int q) c) (h:bM (fun _=>True) (az 0) bg p7 (aM 0 q) [none,some (.int q),some T] [] c=.ok l c) (nr:bK l=true):k9 [T] c=.ok (.lst l) c:=by
 have hb:sZ=aD (aE 1 (aF aN (ao (ak 0) aq))) (aU (aZ (bh (ao (ak 1) aq)) [none,some 1,some 0] (az 0) bg p7)):=rfl
 have e1:(aU (aZ (bh (ao (ak 1) aq)) [none,some 1,some 0] (az 0) bg p7)) [some T,some (.int q)] c=.ok (.rt (.lst l)) c:=by
  simp only[wj,f6,gP,bE,bD,gz,gs,bA,R.aC]
  rw[if_pos (by omega)]
  simp only[R.aC]
  rw[if_pos hl]
  have:dS [none,some 1,some 0] [some T,some (D.int q)]=[none,some (.int q),some T]:=rfl
  rw[this,h]
  rfl
 have e0:(aE 1 (aF aN (ao (ak 0) aq))) [some T,none] c=.ok (.nx [some T,some (.int q)]) c:=by simp[hn]
 rw[k9,iX,hb]
 have es:cB 2 [T]=[some T,none]:=rfl
 rw[es,cF e0,e1]
 have jY:noRef (.lst l)=true:=nr
 simp only[R.aC]
 unfold dM
 dsimp only
 rw[if_pos jY,aiD]
theorem afa{m:Nat}(f:Nat→Nat→Bool) (hm:m<1000) (c:aa):k9 [aQ m f] c=.ok (aQ m (jG f)) c:=by
 have hs:=b8 (n:=1000) (by decide)
 refine afe (by omega) (by rw[dY];omega) (aio m f c) (afc f hm c) (gS.mpr fun d hd=>?_)
 obtain⟨i,_,rfl⟩:=ahs.mp hd
 exact AY m _ i
def cR(m:Nat) (f:Nat→Nat→Bool) (i:Nat):List Nat:=(List.range m).filter fun k=>f i k
def oH(m:Nat) (f:Nat→Nat→Bool):D:=.tup ((List.range m).map fun i=>.tup (nD (cR m f i)))
def rq:ai:=(aI (au aH (ak 1) (ak 0)))
theorem R9{m i:Nat}(f:Nat→Nat→Bool) (c:aa):bM (fun _=>True) (az 0) rq (ak 0) (aM 0 (m:Int)) [none,some (.lst (bJ m f i))] [] c=.ok (nD (cR m f i)) c:=by
 have:=nR (c:=c) (g:=az 0) (t:=rq) (a:=ak 0) (fun e=>∃v,e=[v,some (.lst (bJ m f i))]) (fun d=>match d with|.int k=>f i k.toNat|_=>false) id (aM 0 (m:Int)) [none,some (.lst (bJ m f i))] [] ⟨_,rfl⟩ (fun d hd e ⟨v,he⟩=>by
  subst he
  obtain⟨k',rfl,k0,k1⟩:=o5 hd
  obtain⟨k,rfl⟩:=gT k0
  have h2:aH (.lst (bJ m f i)) (.int (k:Int)) c=.ok (.bl (f i k)) c:=by rw[g9,uD f i (by omega)]
  refine⟨_,rfl,⟨_,rfl⟩,?_,fun _=>rfl⟩
  show rq [some (.int (k:Int)),some (.lst (bJ m f i))] c=_
  unfold rq
  simp only[jL,dB,bD,gz,gs,R.aC,h2,aiZ])
 rw[this,ahI,List.map_id]
 congr 1
 unfold aM cR nD
 rw[al3,show((m:Int)-0).toNat=m by omega]
 have e:((fun d:D=>match d with|.int k=>f i k.toNat|_=>false) ∘ fun k:Nat=>D.int (0+(k:Int)))=fun k=>f i k:=by
  funext k
  simp
 rw[e]
 refine ah6 fun k _=>?_
 simp
def oM:af:=(aF eU (ao (aZ (bh (ao (aF aN (ao (ak 1) aq)) aq)) [none,some 0] (az 0) (aI (au aH (ak 1) (ak 0))) (ak 0)) aq))
theorem R8{q:Int}{T:D}{r l:List D}{c:aa}(hn:aN [T] c=.ok (.int q) c) (b:-4611686018427387904≤q∧q<4611686018427387904) (hl:(aM 0 q).length<sizeLine) (h:bM (fun _=>True) (az 0) rq (ak 0) (aM 0 q) [none,some (.lst r)] [] c=.ok l c) :
  oM [some (.lst r),some T] c=.ok (.tup l) c:=by
 unfold rq at h
 unfold oM
 simp only[jn,bE,f6,gP,bD,gz,gs,bA,R.aC,hn]
 rw[if_pos (by omega)]
 simp only[R.aC]
 rw[if_pos hl]
 have:dS [none,some 0] [some (D.lst r),some T]=[none,some (.lst r)]:=rfl
 rw[this,h]
 rfl
theorem R6{m:Nat}(f:Nat→Nat→Bool) (hm:m<1000) (c:aa):bM (fun _=>True) (az 0) bg oM ((List.range m).map fun i=>.lst (bJ m f i)) [none,some (aQ m f)] [] c=.ok ((List.range m).map fun i=>.tup (nD (cR m f i))) c:=by
 have hs:=b8 (n:=1000) (by decide)
 have hlen:=aio m f c
 have key:∀(l:List Nat) (v:Option D) (acc:List D),bM (fun _=>True) (az 0) bg oM (l.map fun i=>.lst (bJ m f i)) [v,some (aQ m f)] acc c=.ok (acc++l.map fun i=>.tup (nD (cR m f i))) c:=by
  intro l
  induction l with
  |nil=>intro v acc;simp
  |cons i l ih =>
   intro v acc
   have h1:az 0 (.lst (bJ m f i)) [v,some (aQ m f)] c=.ok [some (.lst (bJ m f i)),some (aQ m f)] c:=rfl
   have h2:oM [some (.lst (bJ m f i)),some (aQ m f)] c=.ok (.tup (nD (cR m f i))) c:=R8 hlen (by omega) (by rw[dY];omega) (R9 f c)
   rw[ahv,gZ,h1,R.aC,oi,R.aC,if_pos rfl,h2,R.aC,ih,ahX]
   rfl
 have:=key (List.range m) none []
 rwa[ahI]at this
theorem wU{m:Nat}(f:Nat→Nat→Bool) (hm:m<1000) (c:aa):gA [aQ m f] c=.ok (oH m f) c:=by
 have hs:=b8 (n:=1000) (by decide)
 have h:=R6 f hm c
 have hb:sQ=aU (aF eU (ao (aZ (cS (ak 0)) [none,some 0] (az 0) bg oM) aq)):=rfl
 rw[gA,iX,hb]
 have es:cB 1 [aQ m f]=[some (aQ m f)]:=rfl
 have nr:noRef (oH m f)=true:=by
  unfold oH noRef
  refine gS.mpr fun d hd=>?_
  obtain⟨i,_,rfl⟩:=ahs.mp hd
  unfold noRef
  exact jt _
 have e1:(aU (aF eU (ao (aZ (cS (ak 0)) [none,some 0] (az 0) bg oM) aq))) [some (aQ m f)] c=.ok (.rt (oH m f)) c:=by
  have hd:cS (ak 0) [some (aQ m f)] c=.ok ⟨(List.range m).map fun i=>.lst (bJ m f i),fun _=>True⟩ c:=rfl
  have hp:dS [none,some 0] [some (aQ m f)]=[none,some (aQ m f)]:=rfl
  simp only[wj,jn,bE,f6,hd,bA,R.aC]
  rw[if_pos (by rw[ahx,ajE];omega),hp,h]
  rfl
 rw[es,e1]
 simp only[R.aC]
 unfold oH at nr ⊢
 unfold dM
 dsimp only
 rw[if_pos nr,aiD]
def PW(j n:Nat) (ps:List (Nat×Nat)) (c:aa):Prop:=c.length=n+1∧j<n∧(∃p:Int,c[j]? = some (.lst [.int p]))∧c[n]? = some (.lst (ps.map bN))
theorem PW.turn{j n:Nat}{ps:List (Nat×Nat)}{c:aa}(h:PW j n ps c) (p:Int):PW j n ps (c.set j (.lst [.int p])):=by
 obtain⟨h1,h2,_,h4⟩:=h
 exact⟨by simp[h1],h2,⟨p,by rw[aiw (by omega)]⟩,by rw[aiI (by omega)];exact h4⟩
theorem PW.plus{j n:Nat}{ps qs:List (Nat×Nat)}{c:aa}(h:PW j n ps c):PW j n (ps++qs) (c.set n (.lst (ps.map bN++qs.map bN))):=by
 obtain⟨h1,h2,⟨q,h3⟩,h4⟩:=h
 exact⟨by simp[h1],h2,⟨q,by rw[aiI (by omega)];exact h3⟩,by rw[aiw (by omega),aiC]⟩
def dz(m:Nat) (ps:List (Nat×Nat)):Prop:=∀p∈ps,p.1<m∧p.2<m∧p.1≠p.2
def uy:ai:=(aI (au gJ (aA 2 aY (ao (ak 3) (ao (dC (.int 6)) aq))) (ak 2)))
def uz:af:=(bQ (ao (ak 1) (ao (ak 0) aq)))
theorem AQ{j n m a:Nat}{ps:List (Nat×Nat)}{eO:Int}(ha:a<m):∀(ks:List Nat) (v:Option D) (acc:List D) (c:aa),(∀k∈ks,a<k∧k<m)→PW j n ps c →
  ∃(qs:List (Nat×Nat)) (c':aa),PW j n ps c'∧dz m qs∧qs.length≤ks.length∧bM (fun _=>True) (az 0) uy uz (ks.map fun k:Nat=>.int (k:Int)) [v,some (.int (a:Int)),some (.int eO),some (.ref j)] acc c=.ok (acc++qs.map bN) c'
 |[],v,acc,c,_,hP=>⟨[],c,hP,fun p hp=>(by cases hp),aho _,by simp⟩
 |k::ks,v,acc,c,hk,hP=>by
  obtain⟨p,hp⟩:=hP.2.2.1
  have ht:=take2 (cD:=6) hp (by decide) (by decide)
  have jB:=hP.turn (p/6)
  generalize c.set j (.lst [.int (p/6)])=c1 at ht jB
  have hkk:=hk k (.head _)
  have h2:(2:Nat)≤sizeLine:=b8 (by decide)
  have hT:uy [some (.int (k:Int)),some (.int (a:Int)),some (.int eO),some (.ref j)] c=.ok (decide (p % 6<eO)) c1:=by
   unfold uy
   simp only[jL,dB,x_call,bE,bD,gz,gs,eT,bA,R.aC,ahu,ahH,if_pos,ht]
   simp
  have hE:uz [some (.int (k:Int)),some (.int (a:Int)),some (.int eO),some (.ref j)] c1=.ok (bN (a,k)) c1:=by
   unfold uz
   simp only[kK,bE,bD,gz,gs,bA,R.aC,ahu,ahH]
   rw[if_pos h2]
   rfl
  have h1:az 0 (.int (k:Int)) [v,some (.int (a:Int)),some (.int eO),some (.ref j)] c=.ok [some (.int (k:Int)),some (.int (a:Int)),some (.int eO),some (.ref j)] c:=rfl
  by_cases hq:p % 6<eO
  ·obtain⟨qs,c',P',n',l',h'⟩:=AQ (eO:=eO) ha ks (some (.int (k:Int))) (acc++[bN (a,k)]) c1 (fun z hz=>hk z (.tail _ hz)) jB
   refine⟨(a,k)::qs,c',P',fun q hq=>?_,by simp only[ahu];omega,?_⟩
   ·rcases ahm.mp hq with rfl|hq
    ·exact⟨ha,hkk.2,ahw hkk.1⟩
    ·exact n' q hq
   ·rw[ahv,gZ,h1,R.aC,hT,R.aC,if_pos (decide_eq_true hq),hE,R.aC,h',ahX]
    rfl
  ·obtain⟨qs,c',P',n',l',h'⟩:=AQ (eO:=eO) ha ks (some (.int (k:Int))) acc c1 (fun z hz=>hk z (.tail _ hz)) jB
   refine⟨qs,c',P',n',by simp only[ahu];omega,?_⟩
   rw[ahv,gZ,h1,R.aC,hT,R.aC,if_neg (by simpa using hq),h']
theorem wV(a m:Nat):aM ((a:Int)+1) (m:Int)=(List.range' (a+1) (m-(a+1))).map fun k:Nat=>.int (k:Int):=by
 unfold aM
 rw[show((m:Int)-((a:Int)+1)).toNat=m-(a+1) by omega,al4,ahK]
 refine ah6 fun k _=>?_
 show D.int _=D.int _
 congr 1
theorem XD(ps:List (Nat×Nat)):bK (ps.map bN)=true:=gS.mpr fun d hd=>by
 obtain⟨p,_,rfl⟩:=ahs.mp hd
 rfl
theorem zf{j n:Nat}{ps qs:List (Nat×Nat)}{c c1:aa}{e:Ev}{dc:af}(h4:e[4]? = some (some (.ref n))) (hc:dc e c=.ok (.lst (qs.map bN)) c1) (hP:PW j n ps c1) (hl:ps.length+qs.length≤100000) :
  cJ (eE (ak 4) dc) e c=.ok (.nx e) (c1.set n (.lst (ps.map bN++qs.map bN))):=by
 have hs:100000≤sizeLine:=by decide
 have:eE (ak 4) dc e c=.ok .aG (c1.set n (.lst (ps.map bN++qs.map bN))):=by
  unfold eE
  simp only[bD,h4,R.aC,hc]
  rw[hP.2.2.2]
  dsimp only
  rw[if_pos ⟨by simp only[ahx];omega,XD qs⟩]
 rw[tT,this]
 rfl
def qu:ah:=(cJ (eE (ak 4) (aZ (ff (ao (au bu (ak 5) (dC (.int 1))) (ao (ak 2) aq))) [none,some 5,some 3,some 0] (az 0) (aI (au gJ (aA 2 aY (ao (ak 3) (ao (dC (.int 6)) aq))) (ak 2))) (bQ (ao (ak 1) (ao (ak 0) aq))))))
theorem Rx{q a:Int}{v0 v1 v3 v4:Option D}{c:aa}{l:List D}{c':aa}(ba:-4611686018427387904≤a+1∧a+1<4611686018427387904) (bq:-4611686018427387904≤q∧q<4611686018427387904) (hl:(aM (a+1) q).length<sizeLine) (h:bM (fun _=>True) (az 0) uy uz (aM (a+1) q) [none,some (.int a),v3,v0] [] c=.ok l c') :
  (aZ (ff (ao (au bu (ak 5) (dC (.int 1))) (ao (ak 2) aq))) [none,some 5,some 3,some 0] (az 0) (aI (au gJ (aA 2 aY (ao (ak 3) (ao (dC (.int 6)) aq))) (ak 2))) (bQ (ao (ak 1) (ao (ak 0) aq)))) [v0,v1,some (.int q),v3,v4,some (.int a)] c=.ok (.lst l) c':=by
 unfold uy uz at h
 simp only[f6,mU,bE,dB,bD,eT,gz,gs,bA,R.aC,iC]
 rw[if_pos ⟨by omega,by omega,by omega,by omega⟩]
 simp only[R.aC]
 rw[if_pos hl]
 have:dS [none,some 5,some 3,some 0] [v0,v1,some (D.int q),v3,v4,some (.int a)]=[none,some (.int a),v3,v0]:=by cases v0<;>cases v3<;>rfl
 rw[this,h]
 rfl
theorem Rw{j n m a:Nat}{ps:List (Nat×Nat)}{eO:Int}{c:aa}(hP:PW j n ps c) (hp:dz m ps) (ha:a<m) (hm:m<64) (hl:ps.length≤64*64) (v1:Option D) :
  ∃ps' c',PW j n ps' c'∧dz m ps'∧ps'.length≤ps.length+m∧qu [some (.ref j),v1,some (.int (m:Int)),some (.int eO),some (.ref n),some (.int (a:Int))] c=.ok (.nx [some (.ref j),v1,some (.int (m:Int)),some (.int eO),some (.ref n),some (.int (a:Int))]) c':=by
 have hs:=b8 (n:=1000) (by decide)
 obtain⟨qs,c1,P1,n1,l1,h1⟩:=AQ (ps:=ps) (eO:=eO) ha (List.range' (a+1) (m-(a+1))) none [] c (fun k hk=>by
  have:=akf.mp hk
  obtain⟨i,hi,rfl⟩:=this
  omega) hP
 rw[←wV,ahI]at h1
 rw[aja]at l1
 have hc:=Rx (v1:=v1) (v4:=some (.ref n)) (by omega) (by omega) (by rw[dY];omega) h1
 refine⟨ps++qs,_,P1.plus,fun p gj=>?_,by rw[ahW];omega,zf (j:=j) rfl hc P1 (by omega)⟩
 rcases ahZ.mp gj with h|h
 ·exact hp p h
 ·exact n1 p h
theorem RE{j n m:Nat}{eO:Int}{c:aa}(hP:PW j n [] c) (hm:m<64) (v1 v5:Option D) :
  ∃ps' c' v,PW j n ps' c'∧dz m ps'∧bS (fun _=>True) (az 5) qu (aM 0 (m:Int)) [some (.ref j),v1,some (.int (m:Int)),some (.int eO),some (.ref n),v5] c=.ok (.nx [some (.ref j),v1,some (.int (m:Int)),some (.int eO),some (.ref n),v]) c':=by
 have hlen:(aM 0 (m:Int)).length=m:=by rw[dY];omega
 obtain⟨e',c',⟨ps',v,rfl,P',gj,hl'⟩,hf⟩:=nK (g:=az 5) (s:=qu) (fun k e c=>∃ps' v,e=[some (.ref j),v1,some (.int (m:Int)),some (.int eO),some (.ref n),v]∧PW j n ps' c∧dz m ps'∧ps'.length≤k*m)
  (aM 0 (m:Int)) 0 [some (.ref j),v1,some (.int (m:Int)),some (.int eO),some (.ref n),v5] c ⟨[],v5,rfl,hP,fun p hp=>(by cases hp),by simp⟩ (fun i x hx e c ⟨ps1,v,he,P1,hp1,hl1⟩=>by
   subst he
   have hi:i<(aM 0 (m:Int)).length:=(ahz.mp hx).1
   obtain⟨hlt,rfl⟩:=jS hx
   rw[ajs]
   rw[ahM]at hl1 ⊢
   have hb:i*m≤64*64:=ajb (by omega) (by omega)
   obtain⟨ps2,c2,P2,hp2,hl2,h2⟩:=Rw (eO:=eO) P1 hp1 (a:=i) (by omega) hm (by omega) v1
   exact⟨_,_,_,_,rfl,h2,ps2,_,rfl,P2,hp2,by rw[aji];omega⟩)
 exact⟨ps',c',v,P',gj,hf⟩
theorem dz.isIn{m:Nat}{ps:List (Nat×Nat)}(h:dz m ps):Gi m ps:=fun p hp=>⟨(h p hp).1,(h p hp).2.1⟩
theorem RL{j n:Nat}{most y z:Int}{c c1 c2 c3 c4:aa}{W:D}{v:Option D}(t1:aY [.ref j,.int most] c=.ok (.int y) c1) (t2:aY [.ref j,.int 5] c1=.ok (.int z) c2) (hn:c2.length=n)
  (hb:-4611686018427387904≤1+y∧1+y<4611686018427387904) (hf:bS (fun _=>True) (az 5) qu (aM 0 (1+y)) [some (.ref j),some (.int most),some (.int (1+y)),some (.int (1+z)),some (.ref n),none] (c2++[.lst []])=.ok (.nx [some (.ref j),some (.int most),some (.int (1+y)),some (.int (1+z)),some (.ref n),v]) c3)
  (hw:jw [.int (1+y),.ref n] c3=.ok W c3) (hx:dM false c.length W c3=.ok W c4):k7 [.ref j,.int most] c=.ok W c4:=by
 have hb':sP=aD (aE 2 (au bu (dC (.int 1)) (aA 2 aY (ao (ak 0) (ao (ak 1) aq))))) (aD (aE 3 (au bu (dC (.int 1)) (aA 2 aY (ao (ak 0) (ao (dC (.int 5)) aq))))) (aD (aE 4 (fh aq)) (aD (b9 (bh (ao (ak 2) aq)) (az 5) qu) (aU (aA 2 jw (ao (ak 2) (ao (ak 4) aq))))))):=rfl
 have e0:(aE 2 (au bu (dC (.int 1)) (aA 2 aY (ao (ak 0) (ao (ak 1) aq))))) [some (.ref j),some (.int most),none,none,none,none] c=.ok (.nx [some (.ref j),some (.int most),some (.int (1+y)),none,none,none]) c1:=by simp[t1]
 have e1:(aE 3 (au bu (dC (.int 1)) (aA 2 aY (ao (ak 0) (ao (dC (.int 5)) aq))))) [some (.ref j),some (.int most),some (.int (1+y)),none,none,none] c1=.ok (.nx [some (.ref j),some (.int most),some (.int (1+y)),some (.int (1+z)),none,none]) c2:=by simp[t2]
 have e2:(aE 4 (fh aq)) [some (.ref j),some (.int most),some (.int (1+y)),some (.int (1+z)),none,none] c2=.ok (.nx [some (.ref j),some (.int most),some (.int (1+y)),some (.int (1+z)),some (.ref n),none]) (c2++[.lst []]):=by simp[hn]
 have e3:(b9 (bh (ao (ak 2) aq)) (az 5) qu) [some (.ref j),some (.int most),some (.int (1+y)),some (.int (1+z)),some (.ref n),none] (c2++[.lst []])=.ok (.nx [some (.ref j),some (.int most),some (.int (1+y)),some (.int (1+z)),some (.ref n),v]) c3:=by
  simp only[jm,gP,bE,bD,gz,gs,bA,R.aC]
  rw[if_pos (by omega)]
  exact hf
 have e4:(aU (aA 2 jw (ao (ak 2) (ao (ak 4) aq)))) [some (.ref j),some (.int most),some (.int (1+y)),some (.int (1+z)),some (.ref n),v] c3=.ok (.rt W) c3:=by simp[hw]
 rw[k7,iX,hb']
 have es:cB 6 [D.ref j,.int most]=[some (.ref j),some (.int most),none,none,none,none]:=rfl
 rw[es,cF e0,cF e1,cF e2,cF e3,e4]
 exact hx
theorem Po(m:Nat) (f:Nat→Nat→Bool):noRef (aQ m f)=true:=by
 unfold aQ noRef
 refine gS.mpr fun d hd=>?_
 obtain⟨i,_,rfl⟩:=ahs.mp hd
 exact AY m f i
theorem Ex(m:Nat) (f:Nat→Nat→Bool) (n:Nat) (c:aa):dM false n (aQ m f) c=.ok (aQ m f) (c.take n):=by
 have nr:=Po m f
 unfold aQ at nr ⊢
 unfold dM
 dsimp only
 rw[if_pos nr]
theorem PW.rC{j n:Nat}{ps:List (Nat×Nat)}{c:aa}(h:PW j n ps c):ez j n (c.take n):=by
 obtain⟨l3,hj,⟨p3,q3⟩,_⟩:=h
 exact⟨by rw[ajh];omega,hj,p3,by rw[akr hj];exact q3⟩
theorem PW.start{j n:Nat}{c:aa}(h:ez j n c):PW j n [] (c++[.lst []]):=by
 obtain⟨hl,hj,p,hp⟩:=h
 exact⟨by simp[hl],hj,⟨p,by rw[ah1 (by omega)];exact hp⟩,by rw[aip (by omega),hl];simp⟩
theorem Rv{j n:Nat}{c:aa}{most:Int}(hP:ez j n c) (h0:0<most) (h1:most<60):∃(m:Nat) (ps:List (Nat×Nat)) (c':aa),1≤m∧(m:Int)≤most∧dz m ps∧ez j n c'∧k7 [.ref j,.int most] c=.ok (aQ m (gB ps)) c':=by
 obtain⟨y,c1,y0,y1,P1,t1⟩:=jO hP h0 (by omega)
 obtain⟨z,c2,z0,z1,P2,t2⟩:=jO (cD:=5) P1 (by decide) (by decide)
 obtain⟨m,hm⟩:=gT (i:=1+y) (by omega)
 obtain⟨ps,c3,v,P3,hp3,hf⟩:=RE (m:=m) (eO:=1+z) (PW.start P2) (by omega) (some (.int most)) none
 have hw:=J9 (m:=m) (X:=.ref n) (c:=c3) hp3.isIn (by omega) (.inl ⟨n,rfl,P3.2.2.2⟩)
 rw[←hm]at hf hw
 exact⟨m,ps,c3.take n,by omega,by omega,hp3,P3.rC,RL t1 t2 P2.1 (by omega) hf hw (by rw[hP.1];exact Ex m _ n c3)⟩
def cU(M:List (List Int)):List D:=M.map fun l=>.lst (l.map D.int)
theorem Jr{M:List (List Int)}{i:Nat}(h:i<M.length):cY (cU M) (i:Int)=some (.lst (M[i].map D.int)):=lU (by simp[cU,h])
theorem Kp(l:List Int) (y:Int) (c:aa):∃b,inD (.int y) (.lst (l.map D.int)) c=.ok (.bl b) c:=by
 have hd:∀l:List Int,eZ (l.map D.int)=some (l.map PyData.int):=fun l=>by
  induction l with
  |nil=>rfl
  |cons n ns ih=>simp[eZ,eo,ih]
 have h1:eB c (.int y)=some (.int y):=rfl
 have h2:eB c (.lst (l.map D.int))=some (.list (l.map PyData.int)):=by
  show(match eZ (l.map D.int)with|some r=>some (PyData.list r)|none=>none)=_
  rw[hd]
 refine⟨(l.map PyData.int).any fun z=>z.eqv (.int y),?_⟩
 unfold inD
 rw[h1,h2]
 dsimp only
 rw[if_pos (by simp[PyData.depth])]
def xO:af:=(au inD (ak 0) (au aH (ak 1) (ak 2)))
theorem IW{X:D}{M:List (List Int)}{o:Nat}{c:aa}(hX:c8 c X=some (cU M)) (ho:o<M.length):∀(l:List Int) (v:Option D) (acc:List D),∃bs:List Bool,bM (fun _=>True) (az 0) bg xO (l.map D.int) [v,some X,some (.int (o:Int))] acc c=.ok (acc++bs.map D.bl) c
 |[],v,acc=>⟨[],by simp⟩
 |y::l,v,acc=>by
  obtain⟨b,hb⟩:=Kp M[o] y c
  have hix:aH X (.int (o:Int)) c=.ok (.lst (M[o].map D.int)) c:=by
   have hs:gv c X=some (cU M):=by
    cases X with
    |lst l=>exact hX
    |ref k=>exact hX
    |_=>cases hX
   unfold aH
   dsimp only
   rw[hs]
   dsimp only
   rw[Jr ho]
  have h2:xO [some (.int y),some X,some (.int (o:Int))] c=.ok (.bl b) c:=by
   unfold xO
   simp only[dB,bD,gz,gs,R.aC,hix,hb]
  have h1:az 0 (.int y) [v,some X,some (.int (o:Int))] c=.ok [some (.int y),some X,some (.int (o:Int))] c:=rfl
  obtain⟨bs,h⟩:=IW hX ho l (some (.int y)) (acc++[.bl b])
  refine⟨b::bs,?_⟩
  rw[ahv,gZ,h1,R.aC,oi,R.aC,if_pos rfl,h2,R.aC,h,ahX]
  rfl
def xP:af:=(aZ (cS (au aH (ak 1) (ak 3))) [none,some 1,some 4] (az 0) bg (au inD (ak 0) (au aH (ak 1) (ak 2))))
def oW:ah:=br (aI (aF jj (ao xP aq))) (cJ (lS (ak 2) (bQ (ao (ak 3) (ao (ak 4) aq))))) bL
theorem Xn{X:D}{M:List (List Int)}{a b:Nat}{c:aa}(hX:c8 c X=some (cU M)) (ha:a<M.length) (hb:b<M.length) (hs:∀l∈M,l.length<1000) (v0 v2:Option D):∃t,(aI (aF jj (ao xP aq))) [v0,some X,v2,some (.int (a:Int)),some (.int (b:Int))] c=.ok t c:=by
 have hsz:=b8 (n:=1000) (by decide)
 obtain⟨bs,h⟩:=IW hX hb M[a] none []
 rw[ahI]at h
 have hix:aH X (.int (a:Int)) c=.ok (.lst (M[a].map D.int)) c:=by
  have hs:gv c X=some (cU M):=by
   cases X with
   |lst l=>exact hX
   |ref k=>exact hX
   |_=>cases hX
  unfold aH
  dsimp only
  rw[hs]
  dsimp only
  rw[Jr ha]
 have hc:xP [v0,some X,v2,some (.int (a:Int)),some (.int (b:Int))] c=.ok (.lst (bs.map D.bl)) c:=by
  unfold xO at h
  unfold xP
  rw[f6]
  unfold cS
  simp only[dB,bD,gz,gs,R.aC,hix]
  have hl:=hs _ (ail ha)
  rw[if_pos (by rw[ahx];omega)]
  have:dS [none,some 1,some 4] [v0,some X,v2,some (D.int (a:Int)),some (.int (b:Int))]=[none,some X,some (.int (b:Int))]:=rfl
  rw[this,h]
  rfl
 refine⟨bs.any id,?_⟩
 have hany:jj [.lst (bs.map D.bl)] c=.ok (.bl (bs.any id)) c:=by
  unfold jj oN
  dsimp only
  rw[zz]
 simp only[jL,jn,bE,hc,bA,R.aC,hany]
theorem Y0{X:D}{l:List D}{c:aa}(h:c8 c X=some l) (Rc:aa):c8 (c++Rc) X=some l:=by
 cases X with
 |lst m=>exact h
 |ref k =>
  unfold c8 at h ⊢
  dsimp only at h ⊢
  have hk:k<c.length:=by
   rcases ais k c.length with q|q
   ·exact q
   ·rw[ai6 q]at h;cases h
  rw[ah1 hk];exact h
 |_=>cases h
theorem Xo{X:D}{M:List (List Int)}{a b m:Nat}{ps:List (Nat×Nat)}{c:aa}(hX:c8 c X=some (cU M)) (hM:m≤M.length) (hs:∀l∈M,l.length<1000) (hab:a<b) (hb:b<m) (hp:dz m ps) (hl:ps.length<100000) (v0:Option D) :
  ∃ps',dz m ps'∧ps'.length≤ps.length+1∧oW [v0,some X,some (.ref c.length),some (.int (a:Int)),some (.int (b:Int))] (c++[.lst (ps.map bN)])=.ok (.nx [v0,some X,some (.ref c.length),some (.int (a:Int)),some (.int (b:Int))]) (c++[.lst (ps'.map bN)]):=by
 have h2:(2:Nat)≤sizeLine:=b8 (by decide)
 obtain⟨t,ht⟩:=Xn (a:=a) (b:=b) (Y0 hX [.lst (ps.map bN)]) (by omega) (by omega) hs v0 (some (.ref c.length))
 cases t with
 |false=>exact⟨ps,hp,by omega,by unfold oW;rw[kM,ht];simp⟩
 |true =>
  refine⟨ps++[(a,b)],fun q hq=>?_,by simp,?_⟩
  ·rcases ahZ.mp hq with hq|hq
   ·exact hp q hq
   ·rw[aiz]at hq
    subst hq
    exact⟨by show a<m;omega,hb,by show a≠b;omega⟩
  ·have ha:=aez (c:=c) (acc:=ps.map bN) (y:=bN (a,b)) (dO:=ak 2) (da:=bQ (ao (ak 3) (ao (ak 4) aq))) (e:=[v0,some X,some (.ref c.length),some (.int (a:Int)),some (.int (b:Int))]) (by simp) (by
    simp only[kK,bE,bD,gz,gs,bA,R.aC,ahu,ahH]
    rw[if_pos h2]
    rfl) rfl (by rw[ahx];omega)
   unfold oW
   rw[kM,ht]
   simp only[R.aC,if_true]
   rw[tT,ha,aiC]
   rfl
theorem R3{a m i:Nat}{x:D}(h:(aM ((a:Int)+1) (m:Int))[i]? = some x):a+1+i<m∧x=.int ((a+1+i:Nat):Int):=by
 have hi:i<(aM ((a:Int)+1) (m:Int)).length:=(ahz.mp h).1
 rw[dY]at hi
 obtain⟨_,rfl⟩:=jS h
 exact⟨by omega,by congr 1⟩
theorem Xq{X:D}{M:List (List Int)}{a m:Nat}{ps:List (Nat×Nat)}{c:aa}(hX:c8 c X=some (cU M)) (hM:m≤M.length) (hs:∀l∈M,l.length<1000) (hp:dz m ps) (hl:ps.length+m<100000) (v0 v4:Option D) :
  ∃ps' v,dz m ps'∧ps'.length≤ps.length+m∧bS (fun _=>True) (az 4) oW (aM ((a:Int)+1) (m:Int)) [v0,some X,some (.ref c.length),some (.int (a:Int)),v4] (c++[.lst (ps.map bN)])=.ok (.nx [v0,some X,some (.ref c.length),some (.int (a:Int)),v]) (c++[.lst (ps'.map bN)]):=by
 have hlen:(aM ((a:Int)+1) (m:Int)).length≤m:=by rw[dY];omega
 obtain⟨e',c',⟨ps',v,rfl,rfl,gj,hl'⟩,hf⟩:=nK (g:=az 4) (s:=oW) (fun k e c'=>∃ps' v,e=[v0,some X,some (.ref c.length),some (.int (a:Int)),v]∧c'=c++[.lst (ps'.map bN)]∧dz m ps'∧ps'.length≤ps.length+k)
  (aM ((a:Int)+1) (m:Int)) 0 [v0,some X,some (.ref c.length),some (.int (a:Int)),v4] (c++[.lst (ps.map bN)]) ⟨ps,v4,rfl,rfl,hp,by omega⟩ (fun i x hx e c' ⟨ps1,v,he,hc,hp1,hl1⟩=>by
   subst he;subst hc
   have hi:i<(aM ((a:Int)+1) (m:Int)).length:=(ahz.mp hx).1
   obtain⟨hlt,rfl⟩:=R3 hx
   obtain⟨ps2,hp2,hl2,h2⟩:=Xo (a:=a) (b:=a+1+i) hX hM hs (by omega) hlt hp1 (by omega) v0
   exact⟨_,_,_,_,rfl,h2,ps2,_,rfl,rfl,hp2,by omega⟩)
 exact⟨ps',v,gj,by omega,hf⟩
def oV:ah:=b9 (ff (ao (au bu (ak 3) (dC (.int 1))) (ao (ak 0) aq))) (az 4) oW
theorem Xs{q a:Int}{X:Option D}{c c':aa}{v2 v4 v:Option D}(ba:-4611686018427387904≤a+1∧a+1<4611686018427387904) (bq:-4611686018427387904≤q∧q<4611686018427387904) (h:bS (fun _=>True) (az 4) oW (aM (a+1) q) [some (.int q),X,v2,some (.int a),v4] c=.ok (.nx [some (.int q),X,v2,some (.int a),v]) c') :
  oV [some (.int q),X,v2,some (.int a),v4] c=.ok (.nx [some (.int q),X,v2,some (.int a),v]) c':=by
 unfold oV
 simp only[jm,mU,bE,dB,bD,eT,gz,gs,bA,R.aC,iC]
 rw[if_pos ⟨by omega,by omega,by omega,by omega⟩]
 exact h
theorem Xp{X:D}{M:List (List Int)}{m:Nat}{c:aa}(hX:c8 c X=some (cU M)) (hM:m≤M.length) (hs:∀l∈M,l.length<1000) (hm:m<64) :
  ∃ps u v,dz m ps∧bS (fun _=>True) (az 3) oV (aM 0 (m:Int)) [some (.int (m:Int)),some X,some (.ref c.length),none,none] (c++[.lst []])=.ok (.nx [some (.int (m:Int)),some X,some (.ref c.length),u,v]) (c++[.lst (ps.map bN)]):=by
 have hlen:(aM 0 (m:Int)).length=m:=by rw[dY];omega
 obtain⟨e',c',⟨ps',u,v,rfl,rfl,gj,hl'⟩,hf⟩:=nK (g:=az 3) (s:=oV) (fun k e c'=>∃ps' u v,e=[some (.int (m:Int)),some X,some (.ref c.length),u,v]∧c'=c++[.lst (ps'.map bN)]∧dz m ps'∧ps'.length≤k*m)
  (aM 0 (m:Int)) 0 [some (.int (m:Int)),some X,some (.ref c.length),none,none] (c++[.lst []]) ⟨[],none,none,rfl,rfl,fun p hp=>(by cases hp),by simp⟩ (fun i x hx e c' ⟨ps1,u,v,he,hc,hp1,hl1⟩=>by
   subst he;subst hc
   have hi:i<(aM 0 (m:Int)).length:=(ahz.mp hx).1
   obtain⟨hlt,rfl⟩:=jS hx
   rw[ajs]
   rw[ahM]at hl1 ⊢
   have hb:i*m≤64*64:=ajb (by omega) (by omega)
   obtain⟨ps2,w,hp2,hl2,h2⟩:=Xq (a:=i) hX hM hs hp1 (by omega) (some (.int (m:Int))) v
   exact⟨_,_,_,_,rfl,Xs (by omega) (by omega) h2,ps2,_,_,rfl,rfl,hp2,by rw[aji];omega⟩)
 exact⟨ps',u,v,gj,hf⟩
theorem Xr{q:Int}{X:D}{c c3:aa}{u v:Option D}{l:List D}(b:-4611686018427387904≤q∧q<4611686018427387904) (hf:bS (fun _=>True) (az 3) oV (aM 0 q) [some (.int q),some X,some (.ref c.length),none,none] (c++[.lst []])=.ok (.nx [some (.int q),some X,some (.ref c.length),u,v]) (c++[.lst l])) :
  j3 [.int q,X] c=.ok (.lst l) c:=by
 have hb':sU=aD (aE 2 (fh aq)) (aD (b9 (bh (ao (ak 0) aq)) (az 3) oV) (aU (ak 2))):=rfl
 have e0:(aE 2 (fh aq)) [some (.int q),some X,none,none,none] c=.ok (.nx [some (.int q),some X,some (.ref c.length),none,none]) (c++[.lst []]):=by simp
 have e1:(b9 (bh (ao (ak 0) aq)) (az 3) oV) [some (.int q),some X,some (.ref c.length),none,none] (c++[.lst []])=.ok (.nx [some (.int q),some X,some (.ref c.length),u,v]) (c++[.lst l]):=by
  simp only[jm,gP,bE,bD,gz,gs,bA,R.aC]
  rw[if_pos (by omega)]
  exact hf
 rw[j3,iX,hb']
 have es:cB 5 [D.int q,X]=[some (.int q),some X,none,none,none]:=rfl
 rw[es,cF e0,cF e1]
 simp[dM]
theorem Jf{X:D}{M:List (List Int)}{m:Nat}{c:aa}(hX:c8 c X=some (cU M)) (hM:m≤M.length) (hs:∀l∈M,l.length<1000) (hm:m<64):∃ps,dz m ps∧j3 [.int (m:Int),X] c=.ok (.lst (ps.map bN)) c:=by
 obtain⟨ps,u,v,hp,hf⟩:=Xp hX hM hs hm
 exact⟨ps,hp,Xr (c3:=c) (by omega) hf⟩
def uf:ai:=(aI (au bG (aA 2 aY (ao (ak 1) (ao (dC (.int 2)) aq))) (dC (.int 1))))
theorem AG{j n:Nat}{ps:List (Nat×Nat)}:∀(ks:List Nat) (v:Option D) (acc:List D) (c:aa),PW j n ps c →
  ∃(ss:List Nat) (c':aa),PW j n ps c'∧(∀x∈ss,x∈ks)∧ss.length≤ks.length∧bM (fun _=>True) (az 0) uf (ak 0) (ks.map fun k:Nat=>.int (k:Int)) [v,some (.ref j)] acc c=.ok (acc++nD ss) c'
 |[],v,acc,c,hP=>⟨[],c,hP,fun x hx=>(by cases hx),aho _,by simp⟩
 |k::ks,v,acc,c,hP=>by
  obtain⟨p,hp⟩:=hP.2.2.1
  have ht:=take2 (cD:=2) hp (by decide) (by decide)
  have jB:=hP.turn (p/2)
  generalize c.set j (.lst [.int (p/2)])=c1 at ht jB
  have hT:uf [some (.int (k:Int)),some (.ref j)] c=.ok (decide (p % 2=1)) c1:=by
   unfold uf
   simp only[jL,dB,x_call,bE,bD,gz,gs,eT,bA,R.aC,ahu,ahH,if_pos,ht]
   simp
  have h1:az 0 (.int (k:Int)) [v,some (.ref j)] c=.ok [some (.int (k:Int)),some (.ref j)] c:=rfl
  have h2:ak 0 [some (.int (k:Int)),some (.ref j)] c1=.ok (.int (k:Int)) c1:=rfl
  by_cases hq:p % 2=1
  ·obtain⟨ss,c',P',n',l',h'⟩:=AG ks (some (.int (k:Int))) (acc++[.int (k:Int)]) c1 jB
   refine⟨k::ss,c',P',fun x hx=>?_,by simp only[ahu];omega,?_⟩
   ·rcases ahm.mp hx with rfl|hx
    ·exact .head _
    ·exact .tail _ (n' x hx)
   ·rw[ahv,gZ,h1,R.aC,hT,R.aC,if_pos (decide_eq_true hq),h2,R.aC,h',ahX]
    rfl
  ·obtain⟨ss,c',P',n',l',h'⟩:=AG ks (some (.int (k:Int))) acc c1 jB
   refine⟨ss,c',P',fun x hx=>.tail _ (n' x hx),by simp only[ahu];omega,?_⟩
   rw[ahv,gZ,h1,R.aC,hT,R.aC,if_neg (by simpa using hq),h']
def qh:af:=(bQ (ao (ak 0) (ao (au cK (au bu (ak 0) (ak 2)) (ak 1)) aq)))
def om(m s:Nat):List (Nat×Nat):=(List.range m).map fun k=>(k,(k+s) % m)
theorem OW{m s:Nat}(h1:1≤s) (h2:s<m):dz m (om m s):=fun p hp=>by
 obtain⟨k,hk,rfl⟩:=ahs.mp hp
 have hk:=ahn.mp hk
 refine⟨hk,aiQ _ (by omega),fun e=>?_⟩
 dsimp only at e
 rcases ais (k+s) m with q|q
 ·rw[akg q]at e;omega
 ·rw[al5 q,akg (by omega)]at e;omega
theorem OX{m s:Nat}(hm:1≤m) (c:aa):bM (fun _=>True) (az 0) bg qh (aM 0 (m:Int)) [none,some (.int (m:Int)),some (.int (s:Int))] [] c=.ok ((om m s).map bN) c:=by
 have h2:(2:Nat)≤sizeLine:=b8 (by decide)
 have:=nR (c:=c) (g:=az 0) (t:=bg) (a:=qh) (fun e=>∃v,e=[v,some (.int (m:Int)),some (.int (s:Int))]) (fun _=>true) (fun d=>match d with|.int k=>bN (k.toNat,(k.toNat+s) % m)|d=>d) (aM 0 (m:Int)) [none,some (.int (m:Int)),some (.int (s:Int))] [] ⟨_,rfl⟩ (fun d hd e ⟨v,he⟩=>by
  subst he
  obtain⟨k',rfl,k0,k1⟩:=o5 hd
  obtain⟨k,rfl⟩:=gT k0
  have hmod:cK (.int ((k:Int)+(s:Int))) (.int (m:Int)) c=.ok (.int (((k+s) % m:Nat):Int)) c:=by
   rw[nj c (by omega)]
   congr 2
  refine⟨_,rfl,⟨_,rfl⟩,rfl,fun _=>?_⟩
  show qh [some (.int (k:Int)),some (.int (m:Int)),some (.int (s:Int))] c=_
  unfold qh
  simp only[kK,bE,bD,gz,gs,dB,iC,bA,R.aC,hmod,ahu,ahH]
  rw[if_pos h2]
  rfl)
 rw[this,ahI,yu,wW]
 congr 1
 unfold om
 rw[ahK]
 rfl
def qi:af:=(aZ (bh (ao (ak 3) aq)) [none,some 3,some 6] (az 0) bg qh)
theorem OV{q s:Int}{a0 a1 a2 a4 a5 a7 a8 a9 aR aS aP:Option D}{c:aa}{l:List D}(b:-4611686018427387904≤q∧q<4611686018427387904) (hl:(aM 0 q).length<sizeLine) (h:bM (fun _=>True) (az 0) bg qh (aM 0 q) [none,some (.int q),some (.int s)] [] c=.ok l c) :
  qi [a0,a1,a2,some (.int q),a4,a5,some (.int s),a7,a8,a9,aR,aS,aP] c=.ok (.lst l) c:=by
 unfold qi
 simp only[f6,gP,bE,bD,gz,gs,bA,R.aC]
 rw[if_pos (by omega)]
 simp only[R.aC]
 rw[if_pos hl]
 have:dS [none,some 3,some 6] [a0,a1,a2,some (D.int q),a4,a5,some (.int s),a7,a8,a9,aR,aS,aP]=[none,some (.int q),some (.int s)]:=rfl
 rw[this,h]
 rfl
theorem GG{j n m:Nat}(hm:1≤m) (hm':m<64) {a1 a2 a5 a7 a8 a9 aR aS aP:Option D}:∀(ss:List Nat) (ps:List (Nat×Nat)) (v:Option D) (c:aa),(∀s∈ss,1≤s∧s<m)→PW j n ps c→dz m ps→ps.length+ss.length*m≤90000 →
  ∃ps' c' v',PW j n ps' c'∧dz m ps'∧bS (fun _=>True) (az 6) (cJ (eE (ak 4) qi)) (nD ss) [some (.ref j),a1,a2,some (.int (m:Int)),some (.ref n),a5,v,a7,a8,a9,aR,aS,aP] c=.ok (.nx [some (.ref j),a1,a2,some (.int (m:Int)),some (.ref n),a5,v',a7,a8,a9,aR,aS,aP]) c'
 |[],ps,v,c,_,hP,hp,_=>⟨ps,c,v,hP,hp,by simp⟩
 |s::ss,ps,v,c,hss,hP,hp,hl=>by
  have hs:=b8 (n:=1000) (by decide)
  obtain⟨s1,s2⟩:=hss s (.head _)
  have hc:=OV (a0:=some (.ref j)) (a1:=a1) (a2:=a2) (a4:=some (.ref n)) (a5:=a5) (a7:=a7) (a8:=a8) (a9:=a9) (aR:=aR) (aS:=aS) (aP:=aP) (q:=(m:Int)) (s:=(s:Int)) (c:=c) (by omega) (by rw[dY];omega) (OX hm c)
  have hwl:(om m s).length=m:=by simp[om]
  rw[ahu,aji]at hl
  have hx:=zf (j:=j) (n:=n) (ps:=ps) (qs:=om m s) (dc:=qi) (e:=[some (.ref j),a1,a2,some (.int (m:Int)),some (.ref n),a5,some (.int (s:Int)),a7,a8,a9,aR,aS,aP]) rfl hc hP (by omega)
  obtain⟨ps',c',v',P',gj,h'⟩:=GG hm hm' (a1:=a1) (a2:=a2) (a5:=a5) (a7:=a7) (a8:=a8) (a9:=a9) (aR:=aR) (aS:=aS) (aP:=aP) ss (ps++om m s) (some (.int (s:Int))) _ (fun z hz=>hss z (.tail _ hz)) hP.plus (fun p hq=>(ahZ.mp hq).elim (hp p) (OW s1 s2 p)) (by rw[ahW];omega)
  refine⟨ps',c',v',P',gj,?_⟩
  have hg:az 6 (.int (s:Int)) [some (.ref j),a1,a2,some (.int (m:Int)),some (.ref n),a5,v,a7,a8,a9,aR,aS,aP] c=.ok [some (.ref j),a1,a2,some (.int (m:Int)),some (.ref n),a5,some (.int (s:Int)),a7,a8,a9,aR,aS,aP] c:=rfl
  show bS (fun _=>True) (az 6) (cJ (eE (ak 4) qi)) (.int (s:Int)::nD ss) _ c=_
  rw[pP,hg,R.aC,hx]
  exact h'
theorem wz{t:ai}{E:List (Option D)}{a m:Nat}{c:aa}(ha:a<m) (ht:∀k:Nat,a<k→k<m→∃b,t (some (.int (k:Int))::some (.int (a:Int))::E) c=.ok b c):∀(ks:List Nat) (v:Option D) (acc:List D),(∀k∈ks,a<k∧k<m) →
  ∃qs:List (Nat×Nat),dz m qs∧qs.length≤ks.length∧bM (fun _=>True) (az 0) t (bQ (ao (ak 1) (ao (ak 0) aq))) (ks.map fun k:Nat=>.int (k:Int)) (v::some (.int (a:Int))::E) acc c=.ok (acc++qs.map bN) c
 |[],v,acc,_=>⟨[],fun p hp=>(by cases hp),aho _,by simp⟩
 |k::ks,v,acc,hk=>by
  have hkk:=hk k (.head _)
  have h2:(2:Nat)≤sizeLine:=b8 (by decide)
  obtain⟨b,hb⟩:=ht k hkk.1 hkk.2
  have h1:az 0 (.int (k:Int)) (v::some (.int (a:Int))::E) c=.ok (some (.int (k:Int))::some (.int (a:Int))::E) c:=rfl
  have hE:(bQ (ao (ak 1) (ao (ak 0) aq))) (some (.int (k:Int))::some (.int (a:Int))::E) c=.ok (bN (a,k)) c:=by
   simp only[kK,bE,bD,gz,gs,bA,R.aC,ahu,ahH]
   rw[if_pos h2]
   rfl
  cases b with
  |true =>
   obtain⟨qs,n',l',h'⟩:=wz ha ht ks (some (.int (k:Int))) (acc++[bN (a,k)]) (fun z hz=>hk z (.tail _ hz))
   refine⟨(a,k)::qs,fun q hq=>?_,by simp only[ahu];omega,?_⟩
   ·rcases ahm.mp hq with rfl|hq
    ·exact⟨ha,hkk.2,ahw hkk.1⟩
    ·exact n' q hq
   ·rw[ahv,gZ,h1,R.aC,hb,R.aC,if_pos rfl,hE,R.aC,h',ahX]
    rfl
  |false =>
   obtain⟨qs,n',l',h'⟩:=wz ha ht ks (some (.int (k:Int))) acc (fun z hz=>hk z (.tail _ hz))
   refine⟨qs,n',by simp only[ahu];omega,?_⟩
   rw[ahv,gZ,h1,R.aC,hb,R.aC,if_neg (by decide),h']
theorem Ga{t:ai}{m:Nat}{c:aa}{st:aa→Prop}(hst:st c) (ht:∀a b:Nat,∃x,t [some (.int (a:Int)),some (.int (b:Int))] c=.ok x c):∀(ps:List (Nat×Nat)) (v w:Option D) (acc:List D),dz m ps →
  ∃qs:List (Nat×Nat),dz m qs∧bM st (fU 2 (cV (az 0) (cV (az 1) gk))) t (bQ (ao (ak 0) (ao (ak 1) aq))) (ps.map bN) [v,w] acc c=.ok (acc++qs.map bN) c
 |[],v,w,acc,_=>⟨[],fun p hp=>(by cases hp),by unfold bM;simp[hst]⟩
 |p::ps,v,w,acc,hp=>by
  have h2:(2:Nat)≤sizeLine:=b8 (by decide)
  obtain⟨b,hb⟩:=ht p.1 p.2
  have h1:(fU 2 (cV (az 0) (cV (az 1) gk))) (bN p) [v,w] c=.ok [some (.int (p.1:Int)),some (.int (p.2:Int))] c:=by simp[bN]
  have hE:(bQ (ao (ak 0) (ao (ak 1) aq))) [some (.int (p.1:Int)),some (.int (p.2:Int))] c=.ok (bN p) c:=by
   simp only[kK,bE,bD,gz,gs,bA,R.aC,ahu,ahH]
   rw[if_pos h2]
   rfl
  have gj:dz m ps:=fun q hq=>hp q (.tail _ hq)
  rw[ahv]
  unfold bM
  rw[if_pos hst,h1,R.aC,hb,R.aC]
  cases b with
  |true =>
   obtain⟨qs,n',h'⟩:=Ga hst ht ps (some (.int (p.1:Int))) (some (.int (p.2:Int))) (acc++[bN p]) gj
   refine⟨p::qs,fun q hq=>?_,?_⟩
   ·rcases ahm.mp hq with rfl|hq
    ·exact hp _ (.head _)
    ·exact n' q hq
   ·rw[if_pos rfl,hE,R.aC,h',ahX]
    rfl
  |false =>
   obtain⟨qs,n',h'⟩:=Ga hst ht ps (some (.int (p.1:Int))) (some (.int (p.2:Int))) acc gj
   exact⟨qs,n',by rw[if_neg (by decide),h']⟩
theorem K8{j n m:Nat}{g:Gd}{B:ah}{E:Option D→Ev}(hm:m<64) (hE:∀x v c,g x (E v) c=.ok (E (some x)) c)
  (hB:∀(a:Nat) (ps:List (Nat×Nat)) (c:aa),a<m→PW j n ps c→ps.length≤64*64→∃(qs:List (Nat×Nat)) (c':aa),dz m qs∧qs.length≤m∧PW j n (ps++qs) c'∧B (E (some (.int (a:Int)))) c=.ok (.nx (E (some (.int (a:Int))))) c')
  {c:aa}(hP:PW j n [] c) (v:Option D):∃ps' c' v',PW j n ps' c'∧dz m ps'∧ps'.length≤64*64∧bS (fun _=>True) g B (aM 0 (m:Int)) (E v) c=.ok (.nx (E v')) c':=by
 obtain⟨e',c',⟨ps',v',rfl,P',gj,hl'⟩,hf⟩:=nK (g:=g) (s:=B) (fun k e c=>∃ps' v',e=E v'∧PW j n ps' c∧dz m ps'∧ps'.length≤k*m)
  (aM 0 (m:Int)) 0 (E v) c ⟨[],v,rfl,hP,fun p hp=>(by cases hp),by simp⟩ (fun i x hx e c ⟨ps1,v1,he,P1,hp1,hl1⟩=>by
   subst he
   have hi:i<(aM 0 (m:Int)).length:=(ahz.mp hx).1
   rw[dY]at hi
   obtain⟨hlt,rfl⟩:=jS hx
   rw[ajs]
   rw[ahM]at hl1 ⊢
   have hb:i*m≤64*64:=ajb (by omega) (by omega)
   obtain⟨qs,c2,hq,hql,P2,h2⟩:=hB i ps1 c (by omega) P1 (by omega)
   refine⟨_,_,_,_,hE _ _ _,h2,ps1++qs,_,rfl,P2,fun p hp=>(ahZ.mp hp).elim (hp1 p) (hq p),?_⟩
   rw[ahW,aji];omega)
 have hb:(aM 0 (m:Int)).length*m≤64*64:=ajb (by rw[dY];omega) (by omega)
 rw[ahM]at hl'
 exact⟨ps',c',v',P',gj,by omega,hf⟩
def tW:ai:=(aI (au inD (au ia (ak 0) (ak 1)) (bQ (ao (dC (.int 1)) (ao (dC (.int 2)) (ao (dC (.int 4)) aq))))))
theorem aay(x:Int) (c:aa):inD (.int x) (.tup [.int 1,.int 2,.int 4]) c=.ok (.bl ([PyData.int 1,.int 2,.int 4].any fun z=>z.eqv (.int x))) c:=by
 have h1:eB c (.int x)=some (.int x):=rfl
 have h2:eB c (.tup [.int 1,.int 2,.int 4])=some (.tuple [.int 1,.int 2,.int 4]):=by
  simp[eB,eo,eZ]
 unfold inD
 rw[h1,h2]
 dsimp only
 rw[if_pos (by simp[PyData.depth])]
theorem Ox{a k:Nat}(c:aa):∃b,tW [some (.int (k:Int)),some (.int (a:Int))] c=.ok b c:=by
 have h3:(3:Nat)≤sizeLine:=b8 (by decide)
 refine⟨[PyData.int 1,.int 2,.int 4].any fun z=>z.eqv (.int ((k:Int)-(a:Int))),?_⟩
 unfold tW
 simp only[jL,dB,bD,gz,gs,Gx,kK,bE,eT,bA,R.aC,ahu,ahH]
 rw[if_pos h3]
 simp only[R.aC,aay]
def wm:af:=(aZ (ff (ao (au bu (ak 9) (dC (.int 1))) (ao (ak 3) aq))) [none,some 9] (az 0) tW (bQ (ao (ak 1) (ao (ak 0) aq))))
theorem Oz{q a:Int}{a0 a1 a2 a4 a5 a6 a7 a8 aR aS aP:Option D}{c:aa}{l:List D}(ba:-4611686018427387904≤a+1∧a+1<4611686018427387904) (b:-4611686018427387904≤q∧q<4611686018427387904) (hl:(aM (a+1) q).length<sizeLine) (h:bM (fun _=>True) (az 0) tW (bQ (ao (ak 1) (ao (ak 0) aq))) (aM (a+1) q) [none,some (.int a)] [] c=.ok l c) :
  wm [a0,a1,a2,some (.int q),a4,a5,a6,a7,a8,some (.int a),aR,aS,aP] c=.ok (.lst l) c:=by
 unfold wm
 simp only[f6,mU,bE,dB,bD,eT,gz,gs,bA,R.aC,iC]
 rw[if_pos ⟨by omega,by omega,by omega,by omega⟩]
 simp only[R.aC]
 rw[if_pos hl]
 have:dS [none,some 9] [a0,a1,a2,some (D.int q),a4,a5,a6,a7,a8,some (.int a),aR,aS,aP]=[none,some (.int a)]:=rfl
 rw[this,h]
 rfl
theorem OA{j n m:Nat}(hm:m<64) {a1 a2 a5 a6 a7 a8 aR aS aP:Option D}{c:aa}(hP:PW j n [] c) (v:Option D):∃ps' c' v',PW j n ps' c'∧dz m ps'∧ps'.length≤64*64 ∧
  bS (fun _=>True) (az 9) (cJ (eE (ak 4) wm)) (aM 0 (m:Int)) [some (.ref j),a1,a2,some (.int (m:Int)),some (.ref n),a5,a6,a7,a8,v,aR,aS,aP] c=.ok (.nx [some (.ref j),a1,a2,some (.int (m:Int)),some (.ref n),a5,a6,a7,a8,v',aR,aS,aP]) c' :=
 K8 (E:=fun v=>[some (.ref j),a1,a2,some (.int (m:Int)),some (.ref n),a5,a6,a7,a8,v,aR,aS,aP]) hm (fun _ _ _=>rfl) (fun a ps c ha hP hl=>by
  have hs:=b8 (n:=1000) (by decide)
  obtain⟨qs,hq,ql,h⟩:=wz (t:=tW) (E:=[]) (c:=c) ha (fun k _ _=>Ox c) (List.range' (a+1) (m-(a+1))) none [] (fun k hk=>by
   obtain⟨i,hi,rfl⟩:=akf.mp hk
   omega)
  rw[←wV,ahI]at h
  rw[aja]at ql
  have hc:=Oz (a0:=some (.ref j)) (a1:=a1) (a2:=a2) (a4:=some (.ref n)) (a5:=a5) (a6:=a6) (a7:=a7) (a8:=a8) (aR:=aR) (aS:=aS) (aP:=aP) (by omega) (by omega) (by rw[dY];omega) h
  exact⟨qs,_,hq,by omega,hP.plus,zf (j:=j) rfl hc hP (by omega)⟩) hP v
def tX:ai:=(aI (au inD (au cK (au ia (ak 0) (ak 1)) (ak 3)) (ak 2)))
theorem OE{a k:Nat}{q:Int}(hq:0<q) (l:List Int) (c:aa):∃b,tX [some (.int (k:Int)),some (.int (a:Int)),some (.lst (l.map D.int)),some (.int q)] c=.ok b c:=by
 obtain⟨b,hb⟩:=Kp l (((k:Int)-(a:Int)) % q) c
 have hm:cK (.int ((k:Int)-(a:Int))) (.int q) c=.ok (.int (((k:Int)-(a:Int)) % q)) c:=nj c hq
 refine⟨b,?_⟩
 unfold tX
 simp only[jL,dB,bD,gz,gs,Gx,R.aC,hm,hb]
def wo:af:=(aZ (ff (ao (au bu (ak 9) (dC (.int 1))) (ao (ak 3) aq))) [none,some 9,some 12,some 3] (az 0) tX (bQ (ao (ak 1) (ao (ak 0) aq))))
theorem OF{q a:Int}{a0 a1 a2 a4 a5 a6 a7 a8 aR aS aP:Option D}{c:aa}{l:List D}(ba:-4611686018427387904≤a+1∧a+1<4611686018427387904) (b:-4611686018427387904≤q∧q<4611686018427387904) (hl:(aM (a+1) q).length<sizeLine) (h:bM (fun _=>True) (az 0) tX (bQ (ao (ak 1) (ao (ak 0) aq))) (aM (a+1) q) [none,some (.int a),aP,some (.int q)] [] c=.ok l c) :
  wo [a0,a1,a2,some (.int q),a4,a5,a6,a7,a8,some (.int a),aR,aS,aP] c=.ok (.lst l) c:=by
 unfold wo
 simp only[f6,mU,bE,dB,bD,eT,gz,gs,bA,R.aC,iC]
 rw[if_pos ⟨by omega,by omega,by omega,by omega⟩]
 simp only[R.aC]
 rw[if_pos hl]
 have:dS [none,some 9,some 12,some 3] [a0,a1,a2,some (D.int q),a4,a5,a6,a7,a8,some (.int a),aR,aS,aP]=[none,some (.int a),aP,some (.int q)]:=by cases aP<;>rfl
 rw[this,h]
 rfl
theorem OG{j n m:Nat}(h1:1≤m) (hm:m<64) {a1 a2 a5 a6 a7 a8 aR aS:Option D}(sq:List Int) {c:aa}(hP:PW j n [] c) (v:Option D):∃ps' c' v',PW j n ps' c'∧dz m ps'∧ps'.length≤64*64 ∧
  bS (fun _=>True) (az 9) (cJ (eE (ak 4) wo)) (aM 0 (m:Int)) [some (.ref j),a1,a2,some (.int (m:Int)),some (.ref n),a5,a6,a7,a8,v,aR,aS,some (.lst (sq.map D.int))] c=.ok (.nx [some (.ref j),a1,a2,some (.int (m:Int)),some (.ref n),a5,a6,a7,a8,v',aR,aS,some (.lst (sq.map D.int))]) c' :=
 K8 (E:=fun v=>[some (.ref j),a1,a2,some (.int (m:Int)),some (.ref n),a5,a6,a7,a8,v,aR,aS,some (.lst (sq.map D.int))]) hm (fun _ _ _=>rfl) (fun a ps c ha hP hl=>by
  have hs:=b8 (n:=1000) (by decide)
  obtain⟨qs,hq,ql,h⟩:=wz (t:=tX) (E:=[some (.lst (sq.map D.int)),some (.int (m:Int))]) (c:=c) ha (fun k _ _=>OE (by omega) sq c) (List.range' (a+1) (m-(a+1))) none [] (fun k hk=>by
   obtain⟨i,hi,rfl⟩:=akf.mp hk
   omega)
  rw[←wV,ahI]at h
  rw[aja]at ql
  have hc:=OF (a0:=some (.ref j)) (a1:=a1) (a2:=a2) (a4:=some (.ref n)) (a5:=a5) (a6:=a6) (a7:=a7) (a8:=a8) (aR:=aR) (aS:=aS) (aP:=some (.lst (sq.map D.int))) (by omega) (by omega) (by rw[dY];omega) h
  exact⟨qs,_,hq,by omega,hP.plus,zf (j:=j) rfl hc hP (by omega)⟩) hP v
def jk(j n:Nat) (most:Int) (B:ah) (E:Ev) (c:aa):Prop :=
 ∃(m:Nat) (ps:List (Nat×Nat)) (X:D) (c':aa) (E':Ev),1≤m∧(m:Int)≤most∧dz m ps∧ez j n (c'.take n)∧E'[3]? = some (some (.int (m:Int)))∧E'[4]? = some (some X)∧((∃k,X=.ref k∧c'[k]? = some (.lst (ps.map bN)))∨X=.lst (ps.map bN))∧B E c=.ok (.nx E') c'
theorem jk.yes{j n:Nat}{most:Int}{s s':ah}{t:ai}{E:Ev}{c:aa}(ht:t E c=.ok true c) (h:jk j n most s E c):jk j n most (br t s s') E c:=by
 obtain⟨m,ps,X,c',E',h1,h2,h3,h4,h5,h6,h7,h8⟩:=h
 exact⟨m,ps,X,c',E',h1,h2,h3,h4,h5,h6,h7,by rw[kM,ht,R.aC,if_pos rfl];exact h8⟩
theorem jk.no{j n:Nat}{most:Int}{s s':ah}{t:ai}{E:Ev}{c:aa}(ht:t E c=.ok false c) (h:jk j n most s' E c):jk j n most (br t s s') E c:=by
 obtain⟨m,ps,X,c',E',h1,h2,h3,h4,h5,h6,h7,h8⟩:=h
 exact⟨m,ps,X,c',E',h1,h2,h3,h4,h5,h6,h7,by rw[kM,ht,R.aC,if_neg (by decide)];exact h8⟩
theorem PW.take{j n:Nat}{ps:List (Nat×Nat)}{c:aa}{cD:Int}(h:PW j n ps c) (h0:0<cD) (h1:cD<1073741824):∃(x:Int) (c':aa),0≤x∧x<cD∧PW j n ps c'∧aY [.ref j,.int cD] c=.ok (.int x) c':=by
 obtain⟨p,hp⟩:=h.2.2.1
 exact⟨p % cD,_,ajG _ (by omega),ajH _ h0,h.turn _,take2 hp h0 h1⟩
theorem R0(k:Nat):aM 1 ((k:Int)+1)=(List.range' 1 k).map fun i:Nat=>.int (i:Int):=by
 unfold aM
 rw[show((k:Int)+1-1).toNat=k by omega,al4,ahK]
 refine ah6 fun i _=>?_
 show D.int _=D.int _
 congr 1
def Av:ah:=(aE 5 (aZ (ff (ao (dC (.int 1)) (ao (au bu (au cL (ak 3) (dC (.int 2))) (dC (.int 1))) aq))) [none,some 0] (az 0) uf (ak 0)))
theorem OY{q r:Int}{a0 a1 a2 a4 a5 a6 a7 a8 a9 aR aS aP:Option D}{c c':aa}{l:List D}(hr:cL (.int q) (.int 2) c=.ok (.int r) c) (b:-4611686018427387904≤r+1∧r+1<4611686018427387904) (hl:(aM 1 (r+1)).length<sizeLine) (h:bM (fun _=>True) (az 0) uf (ak 0) (aM 1 (r+1)) [none,a0] [] c=.ok l c') :
  Av [a0,a1,a2,some (.int q),a4,a5,a6,a7,a8,a9,aR,aS,aP] c=.ok (.nx [a0,a1,a2,some (.int q),a4,some (.lst l),a6,a7,a8,a9,aR,aS,aP]) c':=by
 unfold Av
 simp only[gr,f6,mU,bE,dB,bD,eT,gz,gs,bA,R.aC,hr,iC]
 rw[if_pos ⟨by omega,by omega,by omega,by omega⟩]
 simp only[R.aC]
 rw[if_pos hl]
 have:dS [none,some 0] [a0,a1,a2,some (D.int q),a4,a5,a6,a7,a8,a9,aR,aS,aP]=[none,a0]:=by cases a0<;>rfl
 rw[this,h]
 rfl
def Au:ah:=aD Av (b9 (cS (ak 5)) (az 6) (cJ (eE (ak 4) qi)))
theorem Ov{j n m:Nat}{most:Int}{c:aa}{a2:Option D}(hm:1≤m) (hm':(m:Int)≤most) (h6:most<60) (hP:PW j n [] c):jk j n most Au [some (.ref j),some (.int most),a2,some (.int (m:Int)),some (.ref n),none,none,none,none,none,none,none,none] c:=by
 have hs:=b8 (n:=1000) (by decide)
 obtain⟨ss,c1,P1,hss,hsl,h1⟩:=AG (j:=j) (n:=n) (ps:=[]) (List.range' 1 (m/2)) none [] c hP
 rw[←R0,ahI]at h1
 rw[aja]at hsl
 have hd:cL (.int (m:Int)) (.int 2) c=.ok (.int ((m/2:Nat):Int)) c:=by
  rw[sD c (by decide) (by decide),show((m/2:Nat):Int)=(m:Int)/2 by omega]
 have e0:=OY (a1:=some (.int most)) (a2:=a2) (a4:=some (.ref n)) (a5:=none) (a6:=none) (a7:=none) (a8:=none) (a9:=none) (aR:=none) (aS:=none) (aP:=none) hd (by omega) (by rw[dY];omega) h1
 have hb:ss.length*m≤64*64:=ajb (by omega) (by omega)
 obtain⟨ps,c2,v,P2,hp2,h2⟩:=GG (j:=j) (n:=n) hm (by omega) (a1:=some (.int most)) (a2:=a2) (a5:=some (.lst (nD ss))) (a7:=none) (a8:=none) (a9:=none) (aR:=none) (aS:=none) (aP:=none) ss [] none c1 (fun s hs=>by
  obtain⟨i,hi,rfl⟩:=akf.mp (hss s hs)
  omega) P1 (fun p hp=>(by cases hp)) (by simp only[ahH];omega)
 have Dq:cS (ak 5) [some (.ref j),some (.int most),a2,some (.int (m:Int)),some (.ref n),some (.lst (nD ss)),none,none,none,none,none,none,none] c1=.ok ⟨nD ss,fun _=>True⟩ c1:=rfl
 refine⟨m,ps,.ref n,c2,[some (.ref j),some (.int most),a2,some (.int (m:Int)),some (.ref n),some (.lst (nD ss)),v,none,none,none,none,none,none],hm,hm',hp2,P2.rC,rfl,rfl,.inl ⟨n,rfl,P2.2.2.2⟩,?_⟩
 unfold Au
 rw[cF e0,jm,Dq]
 exact h2
theorem XE(M:List (List Int)):bK (cU M)=true:=gS.mpr fun d hd=>by
 obtain⟨l,_,rfl⟩:=ahs.mp hd
 unfold noRef
 refine gS.mpr fun d hd=>?_
 obtain⟨i,_,rfl⟩:=ahs.mp hd
 rfl
theorem YR(M N:List (List Int)):cU (M++N)=cU M++cU N:=by simp[cU]
theorem Jp(M:List (List Int)):(cU M).length=M.length:=by simp[cU]
theorem ab9{c:aa}{xs ys:List D}{e:Ev}{dc:af}{i:Nat}(hi:e[i]? = some (some (.ref c.length))) (hc:dc e (c++[.lst xs])=.ok (.lst ys) (c++[.lst xs])) (hl:xs.length+ys.length≤100000) (nr:bK ys=true) :
  cJ (eE (ak i) dc) e (c++[.lst xs])=.ok (.nx e) (c++[.lst (xs++ys)]):=by
 have hs:100000≤sizeLine:=by decide
 have hg:(c++[Cell.lst xs])[c.length]? = some (.lst xs):=by simp
 have Ds:(c++[Cell.lst xs]).set c.length (.lst (xs++ys))=c++[.lst (xs++ys)]:=by simp
 have:eE (ak i) dc e (c++[.lst xs])=.ok .aG (c++[.lst (xs++ys)]):=by
  unfold eE
  simp only[bD,hi,R.aC,hc]
  rw[hg]
  dsimp only
  rw[if_pos ⟨by omega,nr⟩,Ds]
 rw[tT,this]
 rfl
def oj:af:=(aZ (ff (ao (au bu (ak 9) (dC (.int 1))) (ao (ak 7) aq))) [none,some 9] (az 0) bg (cH (ao (ak 1) (ao (ak 0) aq))))
theorem GD{a:Nat}{c:aa}:∀(ks:List Nat) (v:Option D) (acc:List D),bM (fun _=>True) (az 0) bg (cH (ao (ak 1) (ao (ak 0) aq))) (ks.map fun k:Nat=>.int (k:Int)) [v,some (.int (a:Int))] acc c=.ok (acc++cU (ks.map fun k:Nat=>[(a:Int),(k:Int)])) c
 |[],v,acc=>by simp[cU]
 |k::ks,v,acc=>by
  have h2:(2:Nat)≤sizeLine:=b8 (by decide)
  have h1:az 0 (.int (k:Int)) [v,some (.int (a:Int))] c=.ok [some (.int (k:Int)),some (.int (a:Int))] c:=rfl
  have hE:(cH (ao (ak 1) (ao (ak 0) aq))) [some (.int (k:Int)),some (.int (a:Int))] c=.ok (.lst ([(a:Int),(k:Int)].map D.int)) c:=by
   simp only[kL,bE,bD,gz,gs,bA,R.aC,ahu,ahH]
   rw[if_pos h2]
   rfl
  rw[ahv,gZ,h1,R.aC,oi,R.aC,if_pos rfl,hE,R.aC,GD ks,ahX]
  rfl
theorem OP{q a:Int}{a0 a1 a2 a3 a4 a5 a6 a8 aR aS aP:Option D}{c:aa}{l:List D}(ba:-4611686018427387904≤a+1∧a+1<4611686018427387904) (b:-4611686018427387904≤q∧q<4611686018427387904) (hl:(aM (a+1) q).length<sizeLine) (h:bM (fun _=>True) (az 0) bg (cH (ao (ak 1) (ao (ak 0) aq))) (aM (a+1) q) [none,some (.int a)] [] c=.ok l c) :
  oj [a0,a1,a2,a3,a4,a5,a6,some (.int q),a8,some (.int a),aR,aS,aP] c=.ok (.lst l) c:=by
 unfold oj
 simp only[f6,mU,bE,dB,bD,eT,gz,gs,bA,R.aC,iC]
 rw[if_pos ⟨by omega,by omega,by omega,by omega⟩]
 simp only[R.aC]
 rw[if_pos hl]
 have:dS [none,some 9] [a0,a1,a2,a3,a4,a5,a6,some (D.int q),a8,some (.int a),aR,aS,aP]=[none,some (.int a)]:=rfl
 rw[this,h]
 rfl
theorem OQ{t:Nat}(ht:2≤t) (ht':t≤5) {a0 a1 a2 a3 a4 a5 a6 aR aS aP:Option D}(c:aa):∃(M:List (List Int)) (v:Option D),1≤M.length∧M.length≤25∧(∀l∈M,l.length<1000) ∧
  bS (fun _=>True) (az 9) (cJ (eE (ak 8) oj)) (aM 0 (t:Int)) [a0,a1,a2,a3,a4,a5,a6,some (.int (t:Int)),some (.ref c.length),none,aR,aS,aP] (c++[.lst []])=.ok (.nx [a0,a1,a2,a3,a4,a5,a6,some (.int (t:Int)),some (.ref c.length),v,aR,aS,aP]) (c++[.lst (cU M)]):=by
 have hs:=b8 (n:=1000) (by decide)
 have hlen:(aM 0 (t:Int)).length=t:=by rw[dY];omega
 obtain⟨e',c',⟨M,v,rfl,rfl,h1,h2,h3⟩,hf⟩:=nK (g:=az 9) (s:=cJ (eE (ak 8) oj)) (fun k e c'=>∃(M:List (List Int)) (v:Option D),e=[a0,a1,a2,a3,a4,a5,a6,some (.int (t:Int)),some (.ref c.length),v,aR,aS,aP]∧c'=c++[.lst (cU M)]∧(1≤k→1≤M.length)∧M.length≤k*t∧(∀l∈M,l.length<1000))
  (aM 0 (t:Int)) 0 [a0,a1,a2,a3,a4,a5,a6,some (.int (t:Int)),some (.ref c.length),none,aR,aS,aP] (c++[.lst []]) ⟨[],none,rfl,rfl,fun h=>absurd h (by omega),by simp,fun l hl=>(by cases hl)⟩ (fun i x hx e c' ⟨M,v,he,hc,g1,g2,g3⟩=>by
   subst he;subst hc
   have hi:=(ahz.mp hx).1
   obtain⟨hlt,rfl⟩:=jS hx
   rw[ajs]
   rw[ahM]at g1 g2 ⊢
   rw[hlen]at hi
   have hb:i*t≤5*5:=ajb (by omega) ht'
   have hC:=GD (a:=i) (c:=c++[.lst (cU M)]) (List.range' (i+1) (t-(i+1))) none []
   rw[←wV,ahI]at hC
   have Dp:=OP (a0:=a0) (a1:=a1) (a2:=a2) (a3:=a3) (a4:=a4) (a5:=a5) (a6:=a6) (a8:=some (.ref c.length)) (aR:=aR) (aS:=aS) (aP:=aP) (by omega) (by omega) (by rw[dY];omega) hC
   have hx:=ab9 (i:=8) (e:=[a0,a1,a2,a3,a4,a5,a6,some (.int (t:Int)),some (.ref c.length),some (.int (i:Int)),aR,aS,aP]) rfl Dp (by rw[Jp,Jp,ahx,aja];omega) (XE _)
   rw[←YR]at hx
   refine⟨_,_,_,_,rfl,hx,_,_,rfl,rfl,fun _=>?_,?_,fun l hl=>?_⟩
   ·rw[ahW,ahx,aja]
    rcases alr i with q|q
    ·omega
    ·have:=g1 q;omega
   ·rw[ahW,ahx,aja,aji];omega
   ·rcases ahZ.mp hl with h|h
    ·exact g3 l h
    ·obtain⟨k,_,rfl⟩:=ahs.mp h
     simp)
 rw[hlen,ahM]at h1 h2
 have hb:t*t≤5*5:=ajb ht' ht'
 exact⟨M,v,h1 (by omega),by omega,h3,hf⟩
def As:ah:=aD (aE 7 (au aH (cH (ao (dC (.int 2)) (ao (dC (.int 3)) (ao (dC (.int 4)) (ao (dC (.int 5)) aq))))) (aA 2 aY (ao (ak 0) (ao (dC (.int 4)) aq))))) (aD (aE 8 (fh aq)) (aD (b9 (bh (ao (ak 7) aq)) (az 9) (cJ (eE (ak 8) oj))) (aD (aE 3 (aF fB (ao (aF aN (ao (ak 8) aq)) (ao (ak 1) aq)))) (aE 4 (aA 2 j3 (ao (ak 3) (ao (ak 8) aq)))))))
theorem OT{x t:Int}{j:Nat}{a1 a2 a3 a4 a5 a6 a7 a8 a9 aR aS aP:Option D}{c c1:aa}(h:aY [.ref j,.int 4] c=.ok (.int x) c1) (ht:cY [D.int 2,.int 3,.int 4,.int 5] x=some (.int t)) :
  (aE 7 (au aH (cH (ao (dC (.int 2)) (ao (dC (.int 3)) (ao (dC (.int 4)) (ao (dC (.int 5)) aq))))) (aA 2 aY (ao (ak 0) (ao (dC (.int 4)) aq))))) [some (.ref j),a1,a2,a3,a4,a5,a6,a7,a8,a9,aR,aS,aP] c=.ok (.nx [some (.ref j),a1,a2,a3,a4,a5,a6,some (.int t),a8,a9,aR,aS,aP]) c1:=by
 have h4:(4:Nat)≤sizeLine:=b8 (by decide)
 simp only[gr,dB,kL,bE,eT,bA,x_call,bD,gz,gs,R.aC,ahu,ahH]
 rw[if_pos h4]
 simp only[R.aC,if_pos,h,g9,ht]
 rfl
theorem OR{q:Int}{a0 a1 a2 a3 a4 a5 a6 a8 a9 v aR aS aP:Option D}{c c':aa}(b:-4611686018427387904≤q∧q<4611686018427387904) (h:bS (fun _=>True) (az 9) (cJ (eE (ak 8) oj)) (aM 0 q) [a0,a1,a2,a3,a4,a5,a6,some (.int q),a8,a9,aR,aS,aP] c=.ok (.nx [a0,a1,a2,a3,a4,a5,a6,some (.int q),a8,v,aR,aS,aP]) c') :
  (b9 (bh (ao (ak 7) aq)) (az 9) (cJ (eE (ak 8) oj))) [a0,a1,a2,a3,a4,a5,a6,some (.int q),a8,a9,aR,aS,aP] c=.ok (.nx [a0,a1,a2,a3,a4,a5,a6,some (.int q),a8,v,aR,aS,aP]) c':=by
 simp only[jm,gP,bE,bD,gz,gs,bA,R.aC]
 rw[if_pos (by omega)]
 exact h
theorem OS{most L q:Int}{k:Nat}{a0 a2 a3 a4 a5 a6 a7 a9 aR aS aP:Option D}{c:aa}(hL:aN [.ref k] c=.ok (.int L) c) (hq:(if most<L then most else L)=q) :
  (aE 3 (aF fB (ao (aF aN (ao (ak 8) aq)) (ao (ak 1) aq)))) [a0,some (.int most),a2,a3,a4,a5,a6,a7,some (.ref k),a9,aR,aS,aP] c=.ok (.nx [a0,some (.int most),a2,some (.int q),a4,a5,a6,a7,some (.ref k),a9,aR,aS,aP]) c:=by
 simp only[gr,jn,bE,bD,gz,gs,bA,R.aC,hL,tS,hq]
 rfl
theorem GF{q:Int}{X W:D}{a0 a1 a2 a4 a5 a6 a7 a9 aR aS aP:Option D}{c:aa}(h:j3 [.int q,X] c=.ok W c) :
  (aE 4 (aA 2 j3 (ao (ak 3) (ao (ak 8) aq)))) [a0,a1,a2,some (.int q),a4,a5,a6,a7,some X,a9,aR,aS,aP] c=.ok (.nx [a0,a1,a2,some (.int q),some W,a5,a6,a7,some X,a9,aR,aS,aP]) c:=by
 simp only[gr,x_call,bE,bD,gz,gs,bA,R.aC,ahu,ahH,if_pos,h]
 rfl
theorem PW.Th{j n:Nat}{ps:List (Nat×Nat)}{c:aa}(h:PW j n ps c) (Rc:aa):ez j n ((c++Rc).take n):=by
 have:=h.rC
 rwa[List.take_append_of_le_length (by have:=h.1;omega)]
theorem Ou{j n:Nat}{most:Int}{c:aa}{a2 a3:Option D}(h0:0<most) (h6:most<60) (hP:PW j n [] c):jk j n most As [some (.ref j),some (.int most),a2,a3,some (.ref n),none,none,none,none,none,none,none,none] c:=by
 obtain⟨x,c1,x0,x1,P1,t1⟩:=hP.take (cD:=4) (by decide) (by decide)
 have hx:∃t:Nat,2≤t∧t≤5∧cY [D.int 2,.int 3,.int 4,.int 5] x=some (.int (t:Int)):=by
  have:x=0∨x=1∨x=2∨x=3:=by omega
  rcases this with rfl|rfl|rfl|rfl
  ·exact⟨2,by decide,by decide,rfl⟩
  ·exact⟨3,by decide,by decide,rfl⟩
  ·exact⟨4,by decide,by decide,rfl⟩
  ·exact⟨5,by decide,by decide,rfl⟩
 obtain⟨t,ht,ht',hx⟩:=hx
 have e0:=OT (a1:=some (.int most)) (a2:=a2) (a3:=a3) (a4:=some (.ref n)) (a5:=none) (a6:=none) (a7:=none) (a8:=none) (a9:=none) (aR:=none) (aS:=none) (aP:=none) t1 hx
 have e1:(aE 8 (fh aq)) [some (.ref j),some (.int most),a2,a3,some (.ref n),none,none,some (.int (t:Int)),none,none,none,none,none] c1=.ok (.nx [some (.ref j),some (.int most),a2,a3,some (.ref n),none,none,some (.int (t:Int)),some (.ref c1.length),none,none,none,none]) (c1++[.lst []]):=by
  generalize (t:Int)=q
  simp
 obtain⟨M,v,M1,M2,M3,hf⟩:=OQ ht ht' (a0:=some (.ref j)) (a1:=some (.int most)) (a2:=a2) (a3:=a3) (a4:=some (.ref n)) (a5:=none) (a6:=none) (aR:=none) (aS:=none) (aP:=none) c1
 have e2:=OR (by omega) hf
 have hL:aN [.ref c1.length] (c1++[.lst (cU M)])=.ok (.int (M.length:Int)) (c1++[.lst (cU M)]):=by
  unfold aN
  simp[gv,cU]
 obtain⟨m,hm⟩:=gT (i:=if most<(M.length:Int)then most else(M.length:Int)) (by split<;>omega)
 have hm1:1≤m∧(m:Int)≤most∧m≤M.length:=by split at hm<;>omega
 have e3:=OS (a0:=some (.ref j)) (a2:=a2) (a3:=a3) (a4:=some (.ref n)) (a5:=none) (a6:=none) (a7:=some (.int (t:Int))) (a9:=v) (aR:=none) (aS:=none) (aP:=none) hL hm
 obtain⟨ps,hp,hnr⟩:=Jf (X:=.ref c1.length) (M:=M) (m:=m) (c:=c1++[.lst (cU M)]) (by simp[c8]) hm1.2.2 M3 (by omega)
 have e4:=GF (a0:=some (.ref j)) (a1:=some (.int most)) (a2:=a2) (a4:=some (.ref n)) (a5:=none) (a6:=none) (a7:=some (.int (t:Int))) (a9:=v) (aR:=none) (aS:=none) (aP:=none) hnr
 refine⟨m,ps,.lst (ps.map bN),c1++[.lst (cU M)],[some (.ref j),some (.int most),a2,some (.int (m:Int)),some (.lst (ps.map bN)),none,none,some (.int (t:Int)),some (.ref c1.length),v,none,none,none],hm1.1,hm1.2.1,hp,P1.Th _,rfl,rfl,.inr rfl,?_⟩
 unfold As
 rw[cF e0,cF e1,cF e2,cF e3,e4]
theorem Jq{E:List (Option D)}{a:af}{m:Nat}{c:aa}(G:Nat→List Int) (h:∀k:Nat,k<m→a (some (.int (k:Int))::E) c=.ok (.lst ((G k).map D.int)) c):bM (fun _=>True) (az 0) bg a (aM 0 (m:Int)) (none::E) [] c=.ok (cU ((List.range m).map G)) c:=by
 have:=nR (c:=c) (g:=az 0) (t:=bg) (a:=a) (fun e=>∃v,e=v::E) (fun _=>true) (fun d=>match d with|.int k=>.lst ((G k.toNat).map D.int)|d=>d) (aM 0 (m:Int)) (none::E) [] ⟨_,rfl⟩ (fun d hd e ⟨v,he⟩=>by
  subst he
  obtain⟨k',rfl,k0,k1⟩:=o5 hd
  obtain⟨k,rfl⟩:=gT k0
  exact⟨_,rfl,⟨_,rfl⟩,rfl,fun _=>h k (by omega)⟩)
 rw[this,ahI,yu,wW]
 congr 1
 unfold cU
 rw[ahK]
 rfl
theorem OL{w:Int}(h1:0<w) (h2:w<100) (k:Int) (c:aa):(cH (ao (au cL (ak 0) (ak 1)) aq)) [some (.int k),some (.int w)] c=.ok (.lst ([k/w].map D.int)) c:=by
 have hl:(1:Nat)≤sizeLine:=b8 (by decide)
 have hd:cL (.int k) (.int w) c=.ok (.int (k/w)) c:=sD c h1 (by omega)
 simp only[kL,bE,dB,bD,gz,gs,bA,R.aC,hd,ahu,ahH]
 rw[if_pos hl]
 rfl
theorem OJ{w:Int}(h1:0<w) (h2:w<100) (k:Int) (c:aa):(cH (ao (au cL (ak 0) (ak 1)) (ao (au bu (dC (.int 10)) (au cK (ak 0) (ak 1))) aq))) [some (.int k),some (.int w)] c=.ok (.lst ([k/w,10+k % w].map D.int)) c:=by
 have hl:(2:Nat)≤sizeLine:=b8 (by decide)
 have hd:cL (.int k) (.int w) c=.ok (.int (k/w)) c:=sD c h1 (by omega)
 have hm:cK (.int k) (.int w) c=.ok (.int (k % w)) c:=nj c h1
 simp only[kL,bE,dB,bD,eT,gz,gs,bA,R.aC,hd,hm,iC,ahu,ahH]
 rw[if_pos hl]
 rfl
def Ar:ah:=aD (aE 10 (au bu (dC (.int 1)) (aA 2 aY (ao (ak 0) (ao (aF fB (ao (dC (.int 4)) (ao (ak 1) aq))) aq))))) (aD (aE 11 (au bu (dC (.int 1)) (aA 2 aY (ao (ak 0) (ao (aF fB (ao (dC (.int 4)) (ao (au cL (ak 1) (ak 10)) aq))) aq))))) (aD (aE 3 (au dF (ak 10) (ak 11))) (aD (aE 8 (aZ (bh (ao (ak 3) aq)) [none,some 11] (az 0) bg (cH (ao (au cL (ak 0) (ak 1)) aq)))) (aD (br (aI (au bG (ak 2) (dC (.int 2)))) (aE 8 (aZ (bh (ao (ak 3) aq)) [none,some 11] (az 0) bg (cH (ao (au cL (ak 0) (ak 1)) (ao (au bu (dC (.int 10)) (au cK (ak 0) (ak 1))) aq))))) bL) (aE 4 (aA 2 j3 (ao (ak 3) (ao (ak 8) aq))))))))
theorem OO{most f x:Int}{j:Nat}{a2 a3 a4 a5 a6 a7 a8 a9 aR aS aP:Option D}{c c1:aa}(hf:(if most<4 then most else 4)=f) (h:aY [.ref j,.int f] c=.ok (.int x) c1) :
  (aE 10 (au bu (dC (.int 1)) (aA 2 aY (ao (ak 0) (ao (aF fB (ao (dC (.int 4)) (ao (ak 1) aq))) aq))))) [some (.ref j),some (.int most),a2,a3,a4,a5,a6,a7,a8,a9,aR,aS,aP] c=.ok (.nx [some (.ref j),some (.int most),a2,a3,a4,a5,a6,a7,a8,a9,some (.int (1+x)),aS,aP]) c1:=by
 simp only[gr,dB,eT,x_call,jn,bE,bD,gz,gs,bA,R.aC,tS,hf,ahu,ahH,if_pos,h,iC]
 rfl
theorem OM{most hi r f x:Int}{j:Nat}{a2 a3 a4 a5 a6 a7 a8 a9 aS aP:Option D}{c c1:aa}(hr:cL (.int most) (.int hi) c=.ok (.int r) c) (hf:(if r<4 then r else 4)=f) (h:aY [.ref j,.int f] c=.ok (.int x) c1) :
  (aE 11 (au bu (dC (.int 1)) (aA 2 aY (ao (ak 0) (ao (aF fB (ao (dC (.int 4)) (ao (au cL (ak 1) (ak 10)) aq))) aq))))) [some (.ref j),some (.int most),a2,a3,a4,a5,a6,a7,a8,a9,some (.int hi),aS,aP] c=.ok (.nx [some (.ref j),some (.int most),a2,a3,a4,a5,a6,a7,a8,a9,some (.int hi),some (.int (1+x)),aP]) c1:=by
 simp only[gr,dB,eT,x_call,jn,bE,bD,gz,gs,bA,R.aC,hr,tS,hf,ahu,ahH,if_pos,h,iC]
 rfl
theorem ON{hi w q:Int}{a0 a1 a2 a3 a4 a5 a6 a7 a8 a9 aP:Option D}{c:aa}(h:dF (.int hi) (.int w) c=.ok (.int q) c) :
  (aE 3 (au dF (ak 10) (ak 11))) [a0,a1,a2,a3,a4,a5,a6,a7,a8,a9,some (.int hi),some (.int w),aP] c=.ok (.nx [a0,a1,a2,some (.int q),a4,a5,a6,a7,a8,a9,some (.int hi),some (.int w),aP]) c:=by
 simp only[gr,dB,bD,gz,gs,R.aC,h]
 rfl
theorem GC{q w:Int}{a:af}{l:List D}{a0 a1 a2 a4 a5 a6 a7 a8 a9 aR aP:Option D}{c:aa}(b:-4611686018427387904≤q∧q<4611686018427387904) (hl:(aM 0 q).length<sizeLine) (h:bM (fun _=>True) (az 0) bg a (aM 0 q) [none,some (.int w)] [] c=.ok l c) :
  (aE 8 (aZ (bh (ao (ak 3) aq)) [none,some 11] (az 0) bg a)) [a0,a1,a2,some (.int q),a4,a5,a6,a7,a8,a9,aR,some (.int w),aP] c=.ok (.nx [a0,a1,a2,some (.int q),a4,a5,a6,a7,some (.lst l),a9,aR,some (.int w),aP]) c:=by
 simp only[gr,f6,gP,bE,bD,gz,gs,bA,R.aC]
 rw[if_pos (by omega)]
 simp only[R.aC]
 rw[if_pos hl]
 have:dS [none,some 11] [a0,a1,a2,some (D.int q),a4,a5,a6,a7,a8,a9,aR,some (.int w),aP]=[none,some (.int w)]:=rfl
 rw[this,h]
 rfl
theorem GB{y:Int}{a0 a1 a3 a4 a5 a6 a7 a8 a9 aR aS aP:Option D}{c:aa}:(aI (au bG (ak 2) (dC (.int 2)))) [a0,a1,some (.int y),a3,a4,a5,a6,a7,a8,a9,aR,aS,aP] c=.ok (decide (y=2)) c:=by
 simp only[jL,dB,bD,gz,gs,eT,R.aC,Al]
theorem GA{j n:Nat}{most y:Int}{c:aa}{a3:Option D}(h0:0<most) (h6:most<60) (hP:PW j n [] c):jk j n most Ar [some (.ref j),some (.int most),some (.int y),a3,some (.ref n),none,none,none,none,none,none,none,none] c:=by
 have hs:=b8 (n:=1000) (by decide)
 obtain⟨f,hf⟩:∃f:Int,(if most<4 then most else 4)=f:=⟨_,rfl⟩
 have hf':0<f∧f≤4∧f≤most:=by split at hf<;>omega
 obtain⟨x,c1,x0,x1,P1,t1⟩:=hP.take (cD:=f) hf'.1 (by omega)
 have e0:=OO (a2:=some (.int y)) (a3:=a3) (a4:=some (.ref n)) (a5:=none) (a6:=none) (a7:=none) (a8:=none) (a9:=none) (aR:=none) (aS:=none) (aP:=none) hf t1
 obtain⟨hi,hhi⟩:=gT (i:=1+x) (by omega)
 rw[hhi]at e0
 have hr:cL (.int most) (.int (hi:Int)) c1=.ok (.int (most/(hi:Int))) c1:=sD c1 (by omega) (by omega)
 obtain⟨r,hr'⟩:∃r:Int,most/(hi:Int)=r:=⟨_,rfl⟩
 have hr1:0<r:=by
  have:=Int.le_ediv_of_mul_le (a:=1) (b:=most) (c:=(hi:Int)) (by omega) (by omega)
  omega
 have hr2:(hi:Int)*r≤most:=by
  rw[←hr']
  exact Int.mul_ediv_self_le (by omega)
 rw[hr']at hr
 obtain⟨g,hg⟩:∃g:Int,(if r<4 then r else 4)=g:=⟨_,rfl⟩
 have hg':0<g∧g≤4∧g≤r:=by split at hg<;>omega
 obtain⟨z,c2,z0,z1,P2,t2⟩:=P1.take (cD:=g) hg'.1 (by omega)
 have e1:=OM (a2:=some (.int y)) (a3:=a3) (a4:=some (.ref n)) (a5:=none) (a6:=none) (a7:=none) (a8:=none) (a9:=none) (aS:=none) (aP:=none) hr hg t2
 obtain⟨w,hw⟩:=gT (i:=1+z) (by omega)
 rw[hw]at e1
 have hm0:((hi*w:Nat):Int)=(hi:Int)*(w:Int):=by simp
 have hmul:dF (.int (hi:Int)) (.int (w:Int)) c2=.ok (.int ((hi*w:Nat):Int)) c2:=by rw[hm0];exact BI c2 (by omega) (by omega)
 have hm1:(hi:Int)*(w:Int)≤most:=Int.le_trans (Int.mul_le_mul_of_nonneg_left (by omega) (by omega)) hr2
 rw[←hm0]at hm1
 have hm2:1≤hi*w:=Nat.mul_pos (by omega) (by omega)
 clear hm0
 generalize hi*w=m at *
 have e2:=ON (a0:=some (.ref j)) (a1:=some (.int most)) (a2:=some (.int y)) (a3:=a3) (a4:=some (.ref n)) (a5:=none) (a6:=none) (a7:=none) (a8:=none) (a9:=none) (aP:=none) hmul
 have hA:=Jq (E:=[some (.int (w:Int))]) (m:=m) (c:=c2) (fun k:Nat=>[(k:Int)/(w:Int)]) (fun k _=>OL (w:=(w:Int)) (by omega) (by omega) (k:Int) c2)
 have hB:=Jq (E:=[some (.int (w:Int))]) (m:=m) (c:=c2) (fun k:Nat=>[(k:Int)/(w:Int),10+(k:Int) % (w:Int)]) (fun k _=>OJ (w:=(w:Int)) (by omega) (by omega) (k:Int) c2)
 have e3:=GC (a0:=some (.ref j)) (a1:=some (.int most)) (a2:=some (.int y)) (a4:=some (.ref n)) (a5:=none) (a6:=none) (a7:=none) (a8:=none) (a9:=none) (aR:=some (.int (hi:Int))) (aP:=none) (by omega) (by rw[dY];omega) hA
 have e4:∃M:List (List Int),M.length=m∧(∀l∈M,l.length<1000)∧(br (aI (au bG (ak 2) (dC (.int 2)))) (aE 8 (aZ (bh (ao (ak 3) aq)) [none,some 11] (az 0) bg (cH (ao (au cL (ak 0) (ak 1)) (ao (au bu (dC (.int 10)) (au cK (ak 0) (ak 1))) aq))))) bL) [some (.ref j),some (.int most),some (.int y),some (.int (m:Int)),some (.ref n),none,none,none,some (.lst (cU ((List.range m).map fun k:Nat=>[(k:Int)/(w:Int)]))),none,some (.int (hi:Int)),some (.int (w:Int)),none] c2=.ok (.nx [some (.ref j),some (.int most),some (.int y),some (.int (m:Int)),some (.ref n),none,none,none,some (.lst (cU M)),none,some (.int (hi:Int)),some (.int (w:Int)),none]) c2:=by
  by_cases hy:y=2
  ·refine⟨(List.range m).map fun k:Nat=>[(k:Int)/(w:Int),10+(k:Int) % (w:Int)],by simp,fun l hl=>?_,?_⟩
   ·obtain⟨k,_,rfl⟩:=ahs.mp hl
    simp
   ·have hb:=GC (a0:=some (.ref j)) (a1:=some (.int most)) (a2:=some (.int y)) (a4:=some (.ref n)) (a5:=none) (a6:=none) (a7:=none) (a8:=some (.lst (cU ((List.range m).map fun k:Nat=>[(k:Int)/(w:Int)])))) (a9:=none) (aR:=some (.int (hi:Int))) (aP:=none) (by omega) (by rw[dY];omega) hB
    rw[kM,GB,R.aC,if_pos (decide_eq_true hy)]
    exact hb
  ·refine⟨(List.range m).map fun k:Nat=>[(k:Int)/(w:Int)],by simp,fun l hl=>?_,?_⟩
   ·obtain⟨k,_,rfl⟩:=ahs.mp hl
    simp
   ·rw[kM,GB,R.aC,if_neg (by simpa using hy)]
    rfl
 obtain⟨M,hM,M3,e4⟩:=e4
 obtain⟨ps,hp,hnr⟩:=Jf (X:=.lst (cU M)) (M:=M) (m:=m) (c:=c2) rfl (by omega) M3 (by omega)
 have e5:=GF (a0:=some (.ref j)) (a1:=some (.int most)) (a2:=some (.int y)) (a4:=some (.ref n)) (a5:=none) (a6:=none) (a7:=none) (a9:=none) (aR:=some (.int (hi:Int))) (aS:=some (.int (w:Int))) (aP:=none) hnr
 refine⟨m,ps,.lst (ps.map bN),c2,[some (.ref j),some (.int most),some (.int y),some (.int (m:Int)),some (.lst (ps.map bN)),none,none,none,some (.lst (cU M)),none,some (.int (hi:Int)),some (.int (w:Int)),none],hm2,by omega,hp,P2.rC,rfl,rfl,.inr rfl,?_⟩
 unfold Ar
 rw[cF e0,cF e1,cF e2,cF e3,cF e4,e5]
def Aq:ah:=aD (aE 3 (aF fB (ao (ak 1) (ao (au aH (cH (ao (dC (.int 5)) (ao (dC (.int 13)) aq))) (aA 2 aY (ao (ak 0) (ao (dC (.int 2)) aq)))) aq)))) (aD (aE 12 (aZ (ff (ao (dC (.int 1)) (ao (ak 3) aq))) [none,some 3] (az 0) bg (au cK (au dF (ak 0) (ak 0)) (ak 1)))) (b9 (bh (ao (ak 3) aq)) (az 9) (cJ (eE (ak 4) wo))))
theorem OI{most x f q:Int}{j:Nat}{a2 a3 a4 a5 a6 a7 a8 a9 aR aS aP:Option D}{c c1:aa}(h:aY [.ref j,.int 2] c=.ok (.int x) c1) (hx:cY [D.int 5,.int 13] x=some (.int f)) (hq:(if f<most then f else most)=q) :
  (aE 3 (aF fB (ao (ak 1) (ao (au aH (cH (ao (dC (.int 5)) (ao (dC (.int 13)) aq))) (aA 2 aY (ao (ak 0) (ao (dC (.int 2)) aq)))) aq)))) [some (.ref j),some (.int most),a2,a3,a4,a5,a6,a7,a8,a9,aR,aS,aP] c=.ok (.nx [some (.ref j),some (.int most),a2,some (.int q),a4,a5,a6,a7,a8,a9,aR,aS,aP]) c1:=by
 have h2:(2:Nat)≤sizeLine:=b8 (by decide)
 simp only[gr,jn,dB,kL,bE,eT,bA,x_call,bD,gz,gs,R.aC,ahu,ahH]
 rw[if_pos h2]
 simp only[R.aC,if_pos,h,g9,hx,tS,hq]
 rfl
theorem Ht{q:Int}(h0:0<q) (c:aa):∀(l:List Int) (v:Option D) (acc:List D),(∀x∈l,-1000<x∧x<1000)→bM (fun _=>True) (az 0) bg (au cK (au dF (ak 0) (ak 0)) (ak 1)) (l.map D.int) [v,some (.int q)] acc c=.ok (acc++(l.map fun x=>x*x % q).map D.int) c
 |[],v,acc,_=>by simp
 |x::l,v,acc,hb=>by
  have hx:=hb x (.head _)
  have h1:az 0 (.int x) [v,some (.int q)] c=.ok [some (.int x),some (.int q)] c:=rfl
  have h2:dF (.int x) (.int x) c=.ok (.int (x*x)) c:=BI c (by omega) (by omega)
  have h3:cK (.int (x*x)) (.int q) c=.ok (.int (x*x % q)) c:=nj c h0
  have hE:(au cK (au dF (ak 0) (ak 0)) (ak 1)) [some (.int x),some (.int q)] c=.ok (.int (x*x % q)) c:=by
   simp only[dB,bD,gz,gs,R.aC,h2,h3]
  rw[ahv,gZ,h1,R.aC,oi,R.aC,if_pos rfl,hE,R.aC,Ht h0 c l _ _ (fun z hz=>hb z (.tail _ hz)),ahX]
  rfl
theorem OH{q:Int}{l:List D}{a0 a1 a2 a4 a5 a6 a7 a8 a9 aR aS aP:Option D}{c:aa}(b:-4611686018427387904≤q∧q<4611686018427387904) (hl:(aM 1 q).length<sizeLine) (h:bM (fun _=>True) (az 0) bg (au cK (au dF (ak 0) (ak 0)) (ak 1)) (aM 1 q) [none,some (.int q)] [] c=.ok l c) :
  (aE 12 (aZ (ff (ao (dC (.int 1)) (ao (ak 3) aq))) [none,some 3] (az 0) bg (au cK (au dF (ak 0) (ak 0)) (ak 1)))) [a0,a1,a2,some (.int q),a4,a5,a6,a7,a8,a9,aR,aS,aP] c=.ok (.nx [a0,a1,a2,some (.int q),a4,a5,a6,a7,a8,a9,aR,aS,some (.lst l)]) c:=by
 simp only[gr,f6,mU,bE,eT,bD,gz,gs,bA,R.aC]
 rw[if_pos ⟨by omega,by omega,by omega,by omega⟩]
 simp only[R.aC]
 rw[if_pos hl]
 have:dS [none,some 3] [a0,a1,a2,some (D.int q),a4,a5,a6,a7,a8,a9,aR,aS,aP]=[none,some (.int q)]:=rfl
 rw[this,h]
 rfl
theorem JA{q:Int}{B:ah}{a0 a1 a2 a4 a5 a6 a7 a8 a9 aR aS aP:Option D}{F:Fl}{c c':aa}(b:-4611686018427387904≤q∧q<4611686018427387904) (h:bS (fun _=>True) (az 9) B (aM 0 q) [a0,a1,a2,some (.int q),a4,a5,a6,a7,a8,a9,aR,aS,aP] c=.ok F c') :
  (b9 (bh (ao (ak 3) aq)) (az 9) B) [a0,a1,a2,some (.int q),a4,a5,a6,a7,a8,a9,aR,aS,aP] c=.ok F c':=by
 simp only[jm,gP,bE,bD,gz,gs,bA,R.aC]
 rw[if_pos (by omega)]
 exact h
theorem R1(lo hi:Int):aM lo hi=((List.range (hi-lo).toNat).map fun k:Nat=>lo+(k:Int)).map D.int:=by
 unfold aM
 rw[ahK]
 rfl
theorem Ot{j n:Nat}{most:Int}{c:aa}{a2 a3:Option D}(h0:0<most) (h6:most<60) (hP:PW j n [] c):jk j n most Aq [some (.ref j),some (.int most),a2,a3,some (.ref n),none,none,none,none,none,none,none,none] c:=by
 have hs:=b8 (n:=1000) (by decide)
 obtain⟨x,c1,x0,x1,P1,t1⟩:=hP.take (cD:=2) (by decide) (by decide)
 have hx:∃f:Int,0<f∧f≤13∧cY [D.int 5,.int 13] x=some (.int f):=by
  have:x=0∨x=1:=by omega
  rcases this with rfl|rfl
  ·exact⟨5,by decide,by decide,rfl⟩
  ·exact⟨13,by decide,by decide,rfl⟩
 obtain⟨f,f0,f1,hx⟩:=hx
 obtain⟨m,hm⟩:=gT (i:=if f<most then f else most) (by split<;>omega)
 have hm1:1≤m∧(m:Int)≤most∧m<64:=by split at hm<;>omega
 have e0:=OI (a2:=a2) (a3:=a3) (a4:=some (.ref n)) (a5:=none) (a6:=none) (a7:=none) (a8:=none) (a9:=none) (aR:=none) (aS:=none) (aP:=none) t1 hx hm
 have hq:=Ht (q:=(m:Int)) (by omega) c1 ((List.range ((m:Int)-1).toNat).map fun k:Nat=>1+(k:Int)) none [] (fun x hx=>by
  obtain⟨k,hk,rfl⟩:=ahs.mp hx
  have:=ahn.mp hk
  omega)
 rw[←R1,ahI]at hq
 have e1:=OH (a0:=some (.ref j)) (a1:=some (.int most)) (a2:=a2) (a4:=some (.ref n)) (a5:=none) (a6:=none) (a7:=none) (a8:=none) (a9:=none) (aR:=none) (aS:=none) (aP:=none) (by omega) (by rw[dY];omega) hq
 generalize (((List.range ((m:Int)-1).toNat).map fun k:Nat=>1+(k:Int)).map fun x=>x*x % (m:Int))=sq at e1
 obtain⟨ps,c2,v,P2,hp2,hpl,hf⟩:=OG (j:=j) (n:=n) hm1.1 hm1.2.2 (a1:=some (.int most)) (a2:=a2) (a5:=none) (a6:=none) (a7:=none) (a8:=none) (aR:=none) (aS:=none) sq P1 none
 have e2:=JA (by omega) hf
 refine⟨m,ps,.ref n,c2,[some (.ref j),some (.int most),a2,some (.int (m:Int)),some (.ref n),none,none,none,none,v,none,none,some (.lst (sq.map D.int))],hm1.1,hm1.2.1,hp2,P2.rC,rfl,rfl,.inl ⟨n,rfl,P2.2.2.2⟩,?_⟩
 unfold Aq
 rw[cF e0,cF e1,e2]
def qg:ai:=(aI (au bG (au vP (ak 0) (ak 1)) (ak 0)))
def Ao:ah:=aD (aE 3 (aF fB (ao (dC (.int 8)) (ao (ak 1) aq)))) (aD (b9 (bh (ao (ak 3) aq)) (az 9) (cJ (eE (ak 4) wm))) (aE 4 (aZ (cS (ak 4)) [none,none] (fU 2 (cV (az 0) (cV (az 1) gk))) qg (bQ (ao (ak 0) (ao (ak 1) aq))))))
theorem OD{most q:Int}{a0 a2 a3 a4 a5 a6 a7 a8 a9 aR aS aP:Option D}{c:aa}(hq:(if most<8 then most else 8)=q) :
  (aE 3 (aF fB (ao (dC (.int 8)) (ao (ak 1) aq)))) [a0,some (.int most),a2,a3,a4,a5,a6,a7,a8,a9,aR,aS,aP] c=.ok (.nx [a0,some (.int most),a2,some (.int q),a4,a5,a6,a7,a8,a9,aR,aS,aP]) c:=by
 simp only[gr,jn,bE,eT,bD,gz,gs,bA,R.aC,tS,hq]
 rfl
theorem OB(a b:Nat) (c:aa):∃x,qg [some (.int (a:Int)),some (.int (b:Int))] c=.ok x c :=
 ⟨decide (Builtin.bitAnd (a:Int) (b:Int)=(a:Int)),by
  have h:vP (.int (a:Int)) (.int (b:Int)) c=.ok (.int (Builtin.bitAnd (a:Int) (b:Int))) c:=rfl
  generalize Builtin.bitAnd (a:Int) (b:Int)=z at *
  unfold qg
  simp only[jL,dB,bD,gz,gs,R.aC,h,Al]⟩
theorem OC{n:Nat}{ds l:List D}{a0 a1 a2 a3 a5 a6 a7 a8 a9 aR aS aP:Option D}{c:aa}(hn:c[n]? = some (.lst ds)) (hl:ds.length<sizeLine) (h:bM (fun c'=>c'[n]? = some (.lst ds)) (fU 2 (cV (az 0) (cV (az 1) gk))) qg (bQ (ao (ak 0) (ao (ak 1) aq))) ds [none,none] [] c=.ok l c) :
  (aE 4 (aZ (cS (ak 4)) [none,none] (fU 2 (cV (az 0) (cV (az 1) gk))) qg (bQ (ao (ak 0) (ao (ak 1) aq))))) [a0,a1,a2,a3,some (.ref n),a5,a6,a7,a8,a9,aR,aS,aP] c=.ok (.nx [a0,a1,a2,a3,some (.lst l),a5,a6,a7,a8,a9,aR,aS,aP]) c:=by
 rw[gr,f6]
 unfold cS
 simp only[bD,gz,gs,R.aC,hn]
 rw[if_pos hl]
 have:dS [none,none] [a0,a1,a2,a3,some (D.ref n),a5,a6,a7,a8,a9,aR,aS,aP]=[none,none]:=rfl
 rw[this,h]
 rfl
theorem Oq{j n:Nat}{most:Int}{c:aa}{a2 a3:Option D}(h0:0<most) (h6:most<60) (hP:PW j n [] c):jk j n most Ao [some (.ref j),some (.int most),a2,a3,some (.ref n),none,none,none,none,none,none,none,none] c:=by
 have hs:100000<sizeLine:=by decide
 obtain⟨m,hm⟩:=gT (i:=if most<8 then most else 8) (by split<;>omega)
 have hm1:1≤m∧(m:Int)≤most∧m<64:=by split at hm<;>omega
 have e0:=OD (a0:=some (.ref j)) (a2:=a2) (a3:=a3) (a4:=some (.ref n)) (a5:=none) (a6:=none) (a7:=none) (a8:=none) (a9:=none) (aR:=none) (aS:=none) (aP:=none) (c:=c) hm
 obtain⟨ps,c2,v,P2,hp2,hpl,hf⟩:=OA (j:=j) (n:=n) hm1.2.2 (a1:=some (.int most)) (a2:=a2) (a5:=none) (a6:=none) (a7:=none) (a8:=none) (aR:=none) (aS:=none) (aP:=none) hP none
 have e1:=JA (by omega) hf
 obtain⟨qs,hq,h2⟩:=Ga (t:=qg) (m:=m) (c:=c2) (st:=fun c'=>c'[n]? = some (.lst (ps.map bN))) P2.2.2.2 (fun a b=>OB a b c2) ps none none [] hp2
 rw[ahI]at h2
 have e2:=OC (a0:=some (.ref j)) (a1:=some (.int most)) (a2:=a2) (a3:=some (.int (m:Int))) (a5:=none) (a6:=none) (a7:=none) (a8:=none) (a9:=v) (aR:=none) (aS:=none) (aP:=none) P2.2.2.2 (by rw[ahx];omega) h2
 refine⟨m,qs,.lst (qs.map bN),c2,[some (.ref j),some (.int most),a2,some (.int (m:Int)),some (.lst (qs.map bN)),none,none,none,none,v,none,none,none],hm1.1,hm1.2.1,hq,P2.rC,rfl,rfl,.inr rfl,?_⟩
 unfold Ao
 rw[cF e0,cF e1,e2]
def xj:ah:=br (aI (au bG (ak 2) (dC (.int 0)))) Au (br (aI (au bG (ak 2) (dC (.int 1)))) As (br (aI (au gJ (ak 2) (dC (.int 4)))) Ar (br (aI (au bG (ak 2) (dC (.int 4)))) Aq Ao)))
theorem Ui{j n m:Nat}{most y:Int}{c:aa}(y0:0≤y) (y1:y<6) (hm:1≤m) (hm':(m:Int)≤most) (h6:most<60) (hP:PW j n [] c):jk j n most xj [some (.ref j),some (.int most),some (.int y),some (.int (m:Int)),some (.ref n),none,none,none,none,none,none,none,none] c:=by
 have h0:0<most:=by omega
 unfold xj
 have:y=0∨y=1∨y=2∨y=3∨y=4∨y=5:=by omega
 rcases this with rfl|rfl|rfl|rfl|rfl|rfl
 ·exact .yes rfl (Ov hm hm' h6 hP)
 ·exact .no rfl (.yes rfl (Ou h0 h6 hP))
 ·exact .no rfl (.no rfl (.yes rfl (GA h0 h6 hP)))
 ·exact .no rfl (.no rfl (.yes rfl (GA h0 h6 hP)))
 ·exact .no rfl (.no rfl (.no rfl (.yes rfl (Ot h0 h6 hP))))
 ·exact .no rfl (.no rfl (.no rfl (.no rfl (Oq h0 h6 hP))))
theorem Uj{j n:Nat}{most y x q:Int}{c c1 c2 c3 c4:aa}{E':Ev}{W X:D}(t1:aY [.ref j,.int 6] c=.ok (.int y) c1) (t2:aY [.ref j,.int most] c1=.ok (.int x) c2) (hn:c2.length=n)
  (hB:xj [some (.ref j),some (.int most),some (.int y),some (.int (1+x)),some (.ref n),none,none,none,none,none,none,none,none] (c2++[.lst []])=.ok (.nx E') c3) (h3:E'[3]? = some (some (.int q))) (h4:E'[4]? = some (some X)) (hw:jw [.int q,X] c3=.ok W c3) (hx:dM false c.length W c3=.ok W c4):k8 [.ref j,.int most] c=.ok W c4:=by
 have hb':sR=aD (aE 2 (aA 2 aY (ao (ak 0) (ao (dC (.int 6)) aq)))) (aD (aE 3 (au bu (dC (.int 1)) (aA 2 aY (ao (ak 0) (ao (ak 1) aq))))) (aD (aE 4 (fh aq)) (aD xj (aU (aA 2 jw (ao (ak 3) (ao (ak 4) aq))))))):=rfl
 have e0:(aE 2 (aA 2 aY (ao (ak 0) (ao (dC (.int 6)) aq)))) [some (.ref j),some (.int most),none,none,none,none,none,none,none,none,none,none,none] c=.ok (.nx [some (.ref j),some (.int most),some (.int y),none,none,none,none,none,none,none,none,none,none]) c1:=by simp[t1]
 have e1:(aE 3 (au bu (dC (.int 1)) (aA 2 aY (ao (ak 0) (ao (ak 1) aq))))) [some (.ref j),some (.int most),some (.int y),none,none,none,none,none,none,none,none,none,none] c1=.ok (.nx [some (.ref j),some (.int most),some (.int y),some (.int (1+x)),none,none,none,none,none,none,none,none,none]) c2:=by simp[t2]
 have e2:(aE 4 (fh aq)) [some (.ref j),some (.int most),some (.int y),some (.int (1+x)),none,none,none,none,none,none,none,none,none] c2=.ok (.nx [some (.ref j),some (.int most),some (.int y),some (.int (1+x)),some (.ref n),none,none,none,none,none,none,none,none]) (c2++[.lst []]):=by simp[hn]
 have e4:(aU (aA 2 jw (ao (ak 3) (ao (ak 4) aq)))) E' c3=.ok (.rt W) c3:=by
  simp only[wj,x_call,bE,bD,h3,h4,bA,R.aC,ahu,ahH,if_pos,hw]
 rw[k8,iX,hb']
 have es:cB 13 [D.ref j,.int most]=[some (.ref j),some (.int most),none,none,none,none,none,none,none,none,none,none,none]:=rfl
 rw[es,cF e0,cF e1,cF e2,cF hB,e4]
 exact hx
theorem Uh{j n:Nat}{c:aa}{most:Int}(hP:ez j n c) (h0:0<most) (h1:most<60):∃(m:Nat) (ps:List (Nat×Nat)) (c':aa),1≤m∧(m:Int)≤most∧dz m ps∧ez j n c'∧k8 [.ref j,.int most] c=.ok (aQ m (gB ps)) c':=by
 obtain⟨y,c1,y0,y1,P1,t1⟩:=jO (cD:=6) hP (by decide) (by decide)
 obtain⟨x,c2,x0,x1,P2,t2⟩:=jO P1 h0 (by omega)
 obtain⟨k,hk⟩:=gT (i:=1+x) (by omega)
 obtain⟨m,ps,X,c3,E',m1,m2,hp,P3,q3,q4,hX,hB⟩:=Ui (j:=j) (n:=n) (m:=k) y0 y1 (by omega) (by omega) h1 (PW.start P2)
 rw[←hk]at hB
 have hw:=J9 (m:=m) (X:=X) (c:=c3) hp.isIn (by omega) hX
 exact⟨m,ps,c3.take n,m1,m2,hp,P3,Uj t1 t2 P2.1 hB q3 q4 hw (by rw[hP.1];exact Ex m _ n c3)⟩
def jH(f:Nat→Nat→Bool):Prop:=(∀i,f i i=false)∧∀i k,f i k=f k i
theorem aaa{m:Nat}{ps:List (Nat×Nat)}(h:dz m ps):jH (gB ps):=by
 refine⟨fun i=>?_,fun i k=>?_⟩
 ·unfold gB
  rw[alb]
  intro p hp
  have:=(h p hp).2.2
  simp only[ajU,ah4,beq_iff_eq]
  omega
 ·unfold gB
  congr 1
  funext p
  rw[Bool.or_comm]
  congr 1<;>rw[Bool.and_comm]
theorem afb{f:Nat→Nat→Bool}(h:jH f):jH (jG f):=by
 refine⟨fun i=>by simp[jG],fun i k=>?_⟩
 unfold jG
 rw[h.2 i k]
 congr 2
 exact decide_eq_decide.mpr ⟨Eq.symm,Eq.symm⟩
theorem Pj{f:Nat→Nat→Bool}(h:jH f) {a b:Nat}(hab:a≠b):jH (t8 f a b):=by
 have e:∀i k,t8 f a b i k=if(i=b∧k=a)∨(i=a∧k=b)then !f a b else f i k:=fun i k=>by
  unfold t8
  have e1:fG f a b (!f a b) b a=f a b:=by
   unfold fG
   rw[if_neg (fun z=>hab z.2),h.2 b a]
  rw[e1]
  unfold fG
  by_cases h1:i=b∧k=a
  ·rw[if_pos h1,if_pos (.inl h1)]
  ·rw[if_neg h1]
   by_cases h2:i=a∧k=b
   ·rw[if_pos h2,if_pos (.inr h2)]
   ·rw[if_neg h2,if_neg (fun z=>z.elim h1 h2)]
 refine⟨fun i=>?_,fun i k=>?_⟩
 ·rw[e,if_neg (by omega),h.1 i]
 ·rw[e,e,h.2 i k]
  by_cases h1:(i=b∧k=a)∨(i=a∧k=b)
  ·rw[if_pos h1,if_pos (by omega)]
  ·rw[if_neg h1,if_neg (by omega)]
theorem BH{f:Nat→Nat→Bool}(h:jH f) {os:List Nat}{m:Nat}(hm:os.length=m):jH (d8 os f m 0):=by
 have e:∀a b,d8 os f m 0 a b=if os.idxOf a<m∧os.idxOf b<m then f (os.idxOf a) (os.idxOf b)else false:=fun a b=>by
  unfold d8
  rw[hm]
  by_cases h1:os.idxOf a<m
  ·rw[if_pos (.inl h1)]
   by_cases h2:os.idxOf b<m
   ·rw[if_pos h2,if_pos ⟨h1,h2⟩]
   ·rw[if_neg h2,if_neg (fun z=>h2 z.2)]
  ·rw[if_neg (by omega),if_neg (fun z=>h1 z.1)]
 refine⟨fun i=>?_,fun i k=>?_⟩
 ·rw[e,h.1];simp
 ·rw[e,e,h.2]
  by_cases h1:os.idxOf i<m∧os.idxOf k<m
  ·rw[if_pos h1,if_pos ⟨h1.2,h1.1⟩]
  ·rw[if_neg h1,if_neg (fun z=>h1 ⟨z.2,z.1⟩)]
theorem aes{j:Nat}{x most:Int}{W:D}{a2 a3 a4:Option D}{c c1 c2:aa}(t:aY [.ref j,.int 5] c=.ok (.int x) c1) (hs:x<2→k7 [.ref j,.int most] c1=.ok W c2) (hp:¬x<2→k8 [.ref j,.int most] c1=.ok W c2) :
  (br (aI (au gJ (aA 2 aY (ao (ak 0) (ao (dC (.int 5)) aq))) (dC (.int 2)))) (aE 2 (aA 2 k7 (ao (ak 0) (ao (ak 1) aq)))) (aE 2 (aA 2 k8 (ao (ak 0) (ao (ak 1) aq))))) [some (.ref j),some (.int most),a2,a3,a4] c=.ok (.nx [some (.ref j),some (.int most),some W,a3,a4]) c2:=by
 by_cases hx:x<2
 ·have:=hs hx
  simp[t,hx,this]
 ·have:=hp hx
  simp[t,hx,this]
theorem aer{j:Nat}{x:Int}{T T':D}{a1 a3 a4:Option D}{c c1:aa}(t:aY [.ref j,.int 3] c=.ok (.int x) c1) (hs:x=0→k9 [T] c1=.ok T' c1) (hp:¬x=0→T'=T) :
  (br (aI (au bG (aA 2 aY (ao (ak 0) (ao (dC (.int 3)) aq))) (dC (.int 0)))) (aE 2 (aA 1 k9 (ao (ak 2) aq))) bL) [some (.ref j),a1,some T,a3,a4] c=.ok (.nx [some (.ref j),a1,some T',a3,a4]) c1:=by
 by_cases hx:x=0
 ·have:=hs hx
  simp[t,hx,this]
 ·have:=hp hx
  simp[t,hx,this]
theorem aep{q:Int}{a0 a1 a2 a4:Option D}{c:aa}(h:¬q>1):(br (gp (aI (au gY (ak 3) (dC (.int 1)))) (aI (au bG (aA 2 aY (ao (ak 0) (ao (dC (.int 4)) aq))) (dC (.int 0))))) (aD (aE 4 (aA 2 aY (ao (ak 0) (ao (ak 3) aq)))) (aE 2 (aA 3 jZ (ao (ak 2) (ao (ak 4) (ao (au cK (au bu (au bu (ak 4) (dC (.int 1))) (aA 2 aY (ao (ak 0) (ao (au ia (ak 3) (dC (.int 1))) aq)))) (ak 3)) aq)))))) bL) [a0,a1,a2,some (.int q),a4] c=.ok (.nx [a0,a1,a2,some (.int q),a4]) c:=by
 simp[h]
theorem aeq{j:Nat}{q x:Int}{a1 a2 a4:Option D}{c c1:aa}(h:q>1) (t:aY [.ref j,.int 4] c=.ok (.int x) c1) (hx:¬x=0):(br (gp (aI (au gY (ak 3) (dC (.int 1)))) (aI (au bG (aA 2 aY (ao (ak 0) (ao (dC (.int 4)) aq))) (dC (.int 0))))) (aD (aE 4 (aA 2 aY (ao (ak 0) (ao (ak 3) aq)))) (aE 2 (aA 3 jZ (ao (ak 2) (ao (ak 4) (ao (au cK (au bu (au bu (ak 4) (dC (.int 1))) (aA 2 aY (ao (ak 0) (ao (au ia (ak 3) (dC (.int 1))) aq)))) (ak 3)) aq)))))) bL) [some (.ref j),a1,a2,some (.int q),a4] c=.ok (.nx [some (.ref j),a1,a2,some (.int q),a4]) c1:=by
 simp[h,t,hx]
theorem aeo{j:Nat}{q y z o:Int}{T T':D}{a1 a4:Option D}{c c1 c2 c3:aa}(h:q>1) (t:aY [.ref j,.int 4] c=.ok (.int 0) c1) (t2:aY [.ref j,.int q] c1=.ok (.int y) c2) (t3:aY [.ref j,.int (q-1)] c2=.ok (.int z) c3) (hm:cK (.int (y+1+z)) (.int q) c3=.ok (.int o) c3) (hg:jZ [T,.int y,.int o] c3=.ok T' c3) :
  (br (gp (aI (au gY (ak 3) (dC (.int 1)))) (aI (au bG (aA 2 aY (ao (ak 0) (ao (dC (.int 4)) aq))) (dC (.int 0))))) (aD (aE 4 (aA 2 aY (ao (ak 0) (ao (ak 3) aq)))) (aE 2 (aA 3 jZ (ao (ak 2) (ao (ak 4) (ao (au cK (au bu (au bu (ak 4) (dC (.int 1))) (aA 2 aY (ao (ak 0) (ao (au ia (ak 3) (dC (.int 1))) aq)))) (ak 3)) aq)))))) bL) [some (.ref j),a1,some T,some (.int q),a4] c=.ok (.nx [some (.ref j),a1,some T',some (.int q),some (.int y)]) c3:=by
 simp[h,t,t2,t3,hm,hg]
theorem aen{j:Nat}{q:Int}{T O W:D}{a1 a4:Option D}{c c1:aa}(t:ig [.ref j,.int q] c=.ok O c1) (hm:iL [T,O] c1=.ok W c1):(aU (aA 2 iL (ao (ak 2) (ao (aA 2 ig (ao (ak 0) (ao (ak 3) aq))) aq)))) [some (.ref j),a1,some T,some (.int q),a4] c=.ok (.rt W) c1:=by
 simp[t,hm]
theorem aem{j:Nat}{most:Int}{W:D}{E1 E2 E3 E4:Ev}{c c1 c2 c3 c4 c5:aa}{s0 s1 s2 s3 s4:ah}(e0:s0 [some (.ref j),some (.int most),none,none,none] c=.ok (.nx E1) c1) (e1:s1 E1 c1=.ok (.nx E2) c1) (e2:s2 E2 c1=.ok (.nx E3) c2) (e3:s3 E3 c2=.ok (.nx E4) c3) (e4:s4 E4 c3=.ok (.rt W) c4) (hx:dM false c.length W c4=.ok W c5) :
  bW 5 false (aD s0 (aD s1 (aD s2 (aD s3 s4)))) [.ref j,.int most] c=.ok W c5:=by
 rw[iX]
 have es:cB 5 [D.ref j,.int most]=[some (.ref j),some (.int most),none,none,none]:=rfl
 rw[es,cF e0,cF e1,cF e2,cF e3,e4]
 exact hx
theorem F1{j n:Nat}{c:aa}{most:Int}(hP:ez j n c) (h0:0<most) (h6:most<60):∃(m:Nat) (f:Nat→Nat→Bool) (c':aa),1≤m∧(m:Int)≤most∧jH f∧ez j n c'∧jx [.ref j,.int most] c=.ok (aQ m f) c':=by
 obtain⟨x,c1,x0,x1,P1,t1⟩:=jO (cD:=5) hP (by decide) (by decide)
 have hA:∃(m:Nat) (ps:List (Nat×Nat)) (c2:aa),1≤m∧(m:Int)≤most∧dz m ps∧ez j n c2∧(x<2→k7 [.ref j,.int most] c1=.ok (aQ m (gB ps)) c2)∧(¬x<2→k8 [.ref j,.int most] c1=.ok (aQ m (gB ps)) c2):=by
  by_cases hx:x<2
  ·obtain⟨m,ps,c2,g1,g2,g3,g4,g5⟩:=Rv P1 h0 h6
   exact⟨m,ps,c2,g1,g2,g3,g4,fun _=>g5,fun q=>absurd hx q⟩
  ·obtain⟨m,ps,c2,g1,g2,g3,g4,g5⟩:=Uh P1 h0 h6
   exact⟨m,ps,c2,g1,g2,g3,g4,fun q=>absurd q hx,fun _=>g5⟩
 obtain⟨m,ps,c2,g1,g2,g3,P2,g5,g6⟩:=hA
 have W0:=aaa g3
 have e0:=aes (a2:=none) (a3:=none) (a4:=none) t1 g5 g6
 clear g5 g6
 generalize gB ps=f at *
 have hl:=aio m f c2
 have e1:(aE 3 (aF aN (ao (ak 2) aq))) [some (.ref j),some (.int most),some (aQ m f),none,none] c2=.ok (.nx [some (.ref j),some (.int most),some (aQ m f),some (.int (m:Int)),none]) c2:=by
  generalize aQ m f=T at *
  generalize (m:Int)=q at *
  simp[hl]
 obtain⟨y,c3,y0,y1,P3,t2⟩:=jO (cD:=3) P2 (by decide) (by decide)
 have hB:∃f',jH f'∧(y=0→k9 [aQ m f] c3=.ok (aQ m f') c3)∧(¬y=0→aQ m f'=aQ m f):=by
  by_cases hy:y=0
  ·exact⟨jG f,afb W0,fun _=>afa f (by omega) c3,fun q=>absurd hy q⟩
  ·exact⟨f,W0,fun q=>absurd q hy,fun _=>rfl⟩
 obtain⟨f1,W1,g5,g6⟩:=hB
 have e2:=aer (a1:=some (.int most)) (a3:=some (.int (m:Int))) (a4:=none) t2 g5 g6
 have hC:∃f' v c4,jH f'∧ez j n c4∧(br (gp (aI (au gY (ak 3) (dC (.int 1)))) (aI (au bG (aA 2 aY (ao (ak 0) (ao (dC (.int 4)) aq))) (dC (.int 0))))) (aD (aE 4 (aA 2 aY (ao (ak 0) (ao (ak 3) aq)))) (aE 2 (aA 3 jZ (ao (ak 2) (ao (ak 4) (ao (au cK (au bu (au bu (ak 4) (dC (.int 1))) (aA 2 aY (ao (ak 0) (ao (au ia (ak 3) (dC (.int 1))) aq)))) (ak 3)) aq)))))) bL) [some (.ref j),some (.int most),some (aQ m f1),some (.int (m:Int)),none] c3=.ok (.nx [some (.ref j),some (.int most),some (aQ m f'),some (.int (m:Int)),v]) c4:=by
  by_cases hm:(m:Int)>1
  ·obtain⟨z,c4,z0,z1,P4,t3⟩:=jO (cD:=4) P3 (by decide) (by decide)
   by_cases hz:z=0
   ·subst hz
    obtain⟨u,c5,u0,u1,P5,t4⟩:=jO (cD:=(m:Int)) P4 (by omega) (by omega)
    obtain⟨v,c6,v0,v1,P6,t5⟩:=jO (cD:=(m:Int)-1) P5 (by omega) (by omega)
    obtain⟨a,rfl⟩:=gT u0
    obtain⟨d,rfl⟩:=gT v0
    have hmod:cK (.int ((a:Int)+1+(d:Int))) (.int (m:Int)) c6=.ok (.int (((a+1+d) % m:Nat):Int)) c6:=by
     rw[nj c6 (by omega)]
     congr 2
    have hne:a≠(a+1+d) % m:=by
     rcases ais (a+1+d) m with q|q
     ·rw[akg q];omega
     ·rw[al5 q,akg (by omega)];omega
    have hlt:(a+1+d) % m<m:=aiQ _ (by omega)
    exact⟨_,_,_,Pj W1 hne,P6,aeo hm t3 t4 t5 hmod (Ph (by omega) hlt (by omega) f1 c6)⟩
   ·exact⟨f1,_,c4,W1,P4,aeq hm t3 hz⟩
  ·exact⟨f1,_,c3,W1,P3,aep hm⟩
 obtain⟨f2,v,c4,W2,P4,e3⟩:=hC
 obtain⟨os,c5,ho,P5,t6⟩:=Bc (m:=m) P4 (by omega)
 have hl:os.length=m:=by have:=ho.length_eq;simpa using this
 have e4:=aen (a1:=some (.int most)) (a4:=v) t6 (BJ ho (by omega) f2 c5)
 have hb':sY=aD (br (aI (au gJ (aA 2 aY (ao (ak 0) (ao (dC (.int 5)) aq))) (dC (.int 2)))) (aE 2 (aA 2 k7 (ao (ak 0) (ao (ak 1) aq)))) (aE 2 (aA 2 k8 (ao (ak 0) (ao (ak 1) aq))))) (aD (aE 3 (aF aN (ao (ak 2) aq))) (aD (br (aI (au bG (aA 2 aY (ao (ak 0) (ao (dC (.int 3)) aq))) (dC (.int 0)))) (aE 2 (aA 1 k9 (ao (ak 2) aq))) bL) (aD (br (gp (aI (au gY (ak 3) (dC (.int 1)))) (aI (au bG (aA 2 aY (ao (ak 0) (ao (dC (.int 4)) aq))) (dC (.int 0))))) (aD (aE 4 (aA 2 aY (ao (ak 0) (ao (ak 3) aq)))) (aE 2 (aA 3 jZ (ao (ak 2) (ao (ak 4) (ao (au cK (au bu (au bu (ak 4) (dC (.int 1))) (aA 2 aY (ao (ak 0) (ao (au ia (ak 3) (dC (.int 1))) aq)))) (ak 3)) aq)))))) bL) (aU (aA 2 iL (ao (ak 2) (ao (aA 2 ig (ao (ak 0) (ao (ak 3) aq))) aq))))))):=rfl
 refine⟨m,_,c5,g1,g2,BH W2 hl,P5,?_⟩
 rw[jx,hb']
 exact aem e0 e1 e2 e3 e4 (by rw[Ex,hP.1,ajN (by rw[P5.1];omega)])
end Ev
namespace Ev
open PySem L2
def aV(rows:List (List Nat)):D:=.tup (rows.map fun r=>.tup (nD r))
theorem Oo(rows:List (List Nat)):noRef (aV rows)=true:=by
 unfold aV noRef
 refine gS.mpr fun d hd=>?_
 obtain⟨r,_,rfl⟩:=ahs.mp hd
 unfold noRef
 exact jt r
theorem oJ(n:Nat):aM 0 (n:Int)=nD (List.range n):=by
 apply alT
 intro i
 by_cases h:i<n
 ·have h1:i<(aM 0 (n:Int)).length:=by rw[dY];omega
  have:=jS (ahy h1)
  rw[ahy h1,this.2]
  simp[nD,h]
 ·rw[ai6 (by rw[dY];omega),ai6 (by simp[nD];omega)]
theorem su{α:Type}{E:List (Option D)}{t:ai}{a:af}{c:aa}(g F:α→D) (b:α→Bool):∀(l:List α) (v:Option D) (acc:List D),(∀x∈l,t (some (g x)::E) c=.ok (b x) c)→(∀x∈l,b x=true→a (some (g x)::E) c=.ok (F x) c)→bM (fun _=>True) (az 0) t a (l.map g) (v::E) acc c=.ok (acc++(l.filter b).map F) c
 |[],v,acc,_,_=>by simp
 |x::l,v,acc,h1,h2=>by
  have e1:az 0 (g x) (v::E) c=.ok (some (g x)::E) c:=rfl
  rw[ahv,gZ,e1,R.aC,h1 x (.head _),R.aC]
  cases hb:b x with
  |true =>
   rw[if_pos rfl,h2 x (.head _) hb,R.aC,su g F b l _ _ (fun z hz=>h1 z (.tail _ hz)) (fun z hz=>h2 z (.tail _ hz)),ajr hb,ahX]
   rfl
  |false =>
   rw[if_neg (by decide),su g F b l _ _ (fun z hz=>h1 z (.tail _ hz)) (fun z hz=>h2 z (.tail _ hz)),aj8 (by simp[hb])]
theorem zg:∀l:List Nat,eZ (nD l)=some (l.map fun n:Nat=>PyData.int (n:Int))
 |[]=>rfl
 |n::ns=>by
  show(match eo (.int (n:Int)),eZ (nD ns)with|some a,some r=>some (a::r)|_,_=>none)=_
  rw[zg ns]
  rfl
theorem F9(l:List Nat) (k:Nat):((l.map fun n:Nat=>PyData.int (n:Int)).any fun z=>z.eqv (.int (k:Int)))=decide (k∈l):=by
 rw[List.any_map,aiF,aj1,decide_eq_true_eq]
 refine⟨fun⟨x,hx,e⟩=>?_,fun h=>⟨k,h,?_⟩⟩
 ·have:(x:Int)=(k:Int):=by simpa[PyData.eqv]using e
  have:x=k:=by omega
  exact this▸hx
 ·simp[PyData.eqv]
theorem aax(l:List Nat) (k:Nat) (c:aa):inD (.int (k:Int)) (.tup (nD l)) c=.ok (.bl (decide (k∈l))) c:=by
 have h1:eB c (.int (k:Int))=some (.int (k:Int)):=rfl
 have h2:eB c (.tup (nD l))=some (.tuple (l.map fun n:Nat=>PyData.int (n:Int))):=by
  show(match eZ (nD l)with|some r=>some (PyData.tuple r)|none=>none)=_
  rw[zg]
 unfold inD
 rw[h1,h2]
 dsimp only
 rw[if_pos (by simp[PyData.depth]),F9]
theorem lg(w:List (List Nat)) (c:aa):aN [aV w] c=.ok (.int (w.length:Nat)) c:=by
 unfold aV
 rw[Og,ahx]
theorem aaf{w:List (List Nat)}{i:Nat}{r:List Nat}(h:w[i]? = some r) (c:aa):aH (aV w) (.int (i:Int)) c=.ok (.tup (nD r)) c:=by
 unfold aV
 rw[wk,lU (v:=.tup (nD r)) (by rw[ahP,h];rfl)]
theorem kr{m:List D→aa→R D}{d1 d2 d3:af}{e:Ev}{c:aa}{x y z v:D}(h1:d1 e c=.ok x c) (h2:d2 e c=.ok y c) (h3:d3 e c=.ok z c) (h:m [x,y,z] c=.ok v c):aA 3 m (ao d1 (ao d2 (ao d3 aq))) e c=.ok v c:=by
 simp only[x_call,bE,h1,h2,h3,bA,R.aC]
 rw[if_pos (by rfl)];exact h
theorem iA{m:List D→aa→R D}{d1 d2:af}{e:Ev}{c:aa}{x y v:D}(h1:d1 e c=.ok x c) (h2:d2 e c=.ok y c) (h:m [x,y] c=.ok v c):aA 2 m (ao d1 (ao d2 aq)) e c=.ok v c:=by
 simp only[x_call,bE,h1,h2,bA,R.aC]
 rw[if_pos (by rfl)];exact h
theorem pU{m:List D→aa→R D}{d1:af}{e:Ev}{c:aa}{x v:D}(h1:d1 e c=.ok x c) (h:m [x] c=.ok v c):aA 1 m (ao d1 aq) e c=.ok v c:=by
 simp only[x_call,bE,h1,bA,R.aC]
 rw[if_pos (by rfl)];exact h
theorem gf{n:Nat}{b:ah}{xs:List D}{c:aa}{v:D}(h:b (cB n xs) c=.ok (.rt v) c) (hv:noRef v=true) (hr:∀k,v≠.ref k):bW n false b xs c=.ok v c:=by
 rw[iX,h]
 simp only[R.aC]
 cases v<;>first|exact absurd rfl (hr _)|(unfold dM;dsimp only;rw[if_pos hv,aiD])
theorem Kq{d2:af}{e:Ev}{c:aa}{a s:Nat}{t u:ah}{d1:af}(h1:d1 e c=.ok (.int (a:Int)) c) (h2:d2 e c=.ok (.int (s:Int)) c):br (aI (au eL d1 d2)) t u e c=if a≠s then t e c else u e c:=by
 by_cases q:a=s
 ·subst q;simp[h1,h2]
 ·have q':¬((a:Int)=s):=by omega
  simp[h1,h2,q,q']
theorem GW{d1 d2:af}{e:Ev}{c:aa}{x y:D}(h1:d1 e c=.ok x c) (h2:d2 e c=.ok y c):bQ (ao d1 (ao d2 aq)) e c=.ok (.tup [x,y]) c:=by
 have:(2:Nat)≤sizeLine:=b8 (by decide)
 simp only[kK,bE,h1,h2,bA,R.aC]
 rw[if_pos (by exact this)]
theorem cQ{f:List D→aa→R D}{d1:af}{e:Ev}{c:aa}{x v:D}(h1:d1 e c=.ok x c) (h:f [x] c=.ok v c):aF f (ao d1 aq) e c=.ok v c:=by
 simp only[jn,bE,h1,bA,R.aC];exact h
theorem eW{i:Nat}{d:af}{e:Ev}{c:aa}{v:D}(h:d e c=.ok v c):aE i d e c=.ok (.nx (e.set i (some v))) c:=by rw[gr,h];rfl
theorem fJ{d:af}{e:Ev}{c:aa}{v:D}(h:d e c=.ok v c):aU d e c=.ok (.rt v) c:=by rw[wj,h];rfl
theorem vz{d:af}{e:Ev}{c c':aa}{v:D}(h:d e c=.ok v c'):cJ d e c=.ok (.nx e) c':=by rw[tT,h];rfl
theorem lO{sr:Ev→aa→R Src}{g:Gd}{s:ah}{e:Ev}{c:aa}{l:List D}{r:R Fl}(h1:sr e c=.ok ⟨l,fun _=>True⟩ c) (h2:bS (fun _=>True) g s l e c=r):b9 sr g s e c=r:=by
 rw[jm,h1];exact h2
theorem m8{d:af}{e:Ev}{c:aa}{q:Int}(h:d e c=.ok (.int q) c) (bq:-4611686018427387904≤q∧q<4611686018427387904):bh (ao d aq) e c=.ok ⟨aM 0 q,fun _=>True⟩ c:=by
 simp only[gP,bE,h,bA,R.aC]
 rw[if_pos (by omega)]
theorem bH{f:D→D→aa→R D}{d1 d2:af}{e:Ev}{c:aa}{x y:D}{r:R D}(h1:d1 e c=.ok x c) (h2:d2 e c=.ok y c) (h:f x y c=r):au f d1 d2 e c=r:=by
 rw[dB,h1]
 simp only[R.aC]
 rw[h2]
 exact h
theorem R5{d1 d2:af}{e:Ev}{c:aa}{p q:Int}(h1:d1 e c=.ok (.int p) c) (h2:d2 e c=.ok (.int q) c) (bp:-4611686018427387904≤p∧p<4611686018427387904) (bq:-4611686018427387904≤q∧q<4611686018427387904):ff (ao d1 (ao d2 aq)) e c=.ok ⟨aM p q,fun _=>True⟩ c:=by
 simp only[mU,bE,h1,h2,bA,R.aC]
 rw[if_pos ⟨by omega,by omega,by omega,by omega⟩]
@[simp] theorem agq(i:Int) (c:aa):xY [.int i] c=.ok (.bl true) c:=by simp[xY,sN]
theorem M4(c:aa) (l:List D) (f:D→Bool):nV [.lst (l.map fun x=>.bl (f x))] c=.ok (.bl (l.all f)) c:=by
 have e:(l.map fun x=>D.bl (f x))=(l.map f).map D.bl:=by simp
 unfold nV oN
 dsimp only
 rw[e,zz]
 simp[List.all_map]
theorem same_int(i:Int) (k:Nat) (c:aa):gy (k+1) [.int i,.int i] c=.ok (.bl true) c:=by simp[gy,lT]
theorem RN{l:List D}{k:Nat}{c:aa}(h:∀d∈l,gy (k+1) [d,d] c=.ok (.bl true) c) (hl:l.length<sizeLine):gy (k+2) [.tup l,.tup l] c=.ok (.bl true) c:=by
 have hc:=nR (c:=c) (g:=fU 2 (cV (az 0) (cV (az 1) gk))) (t:=bg) (a:=aA 2 (gy (k+1)) (ao (ak 0) (ao (ak 1) aq)))
  (fun e=>∃v w,e=[v,w]) (fun _=>true) (fun _=>.bl true) (l.map fun a=>.tup [a,a]) [none,none] [] ⟨_,_,rfl⟩ (fun x hx e ⟨v,w,he⟩=>by
   have:∃d∈l,x=.tup [d,d]:=by
    obtain⟨d,hd,e⟩:=ahs.mp hx
    exact⟨d,hd,e.symm⟩
   obtain⟨d,hd,rfl⟩:=this
   subst he
   refine⟨[some d,some d],by simp,⟨_,_,rfl⟩,rfl,fun _=>?_⟩
   simp[h d hd])
 have e2:((l.map fun a=>D.tup [a,a]).filter fun _=>true)=l.map fun a=>D.tup [a,a]:=by simp
 rw[e2,ahI]at hc
 have ha:=M4 c (l.map fun a=>D.tup [a,a]) (fun _=>true)
 show bW 2 false (lT (gy (k+1))) [.tup l,.tup l] c=_
 simp[lT,dS,hl]
 rw[hc]
 simp only[R.aC]
 rw[ha]
 simp
theorem qk{m i:Nat}(f:Nat→Nat→Bool) (h:i<m) (c:aa):aH (aQ m f) (.int (i:Int)) c=.ok (.lst (bJ m f i)) c:=by unfold aQ;rw[g9,AA f h]
theorem AX{m k:Nat}(f:Nat→Nat→Bool) (i:Nat) (h:k<m) (c:aa):aH (.lst (bJ m f i)) (.int (k:Int)) c=.ok (.bl (f i k)) c:=by rw[g9,uD f i h]
def wF(m:Nat) (f:Nat→Nat→Bool):List (List Nat):=(List.range m).map (cR m f)
theorem AW(m:Nat) (f:Nat→Nat→Bool):oH m f=aV (wF m f):=by
 unfold oH aV wF
 rw[ahK]
 rfl
theorem iD(m:Nat) (f:Nat→Nat→Bool):(wF m f).length=m:=by simp[wF]
theorem LO{dO:af}{e:Ev}{c:aa}{l:List Bool}(h:dO e c=.ok (.lst (l.map D.bl)) c):iN dO (dC (.bl true)) e c=.ok (.int (l.countP id:Nat)) c:=by
 unfold iN
 rw[h]
 simp only[R.aC,eT]
 rw[zz]
theorem HH(m:Nat) (f:Nat→Nat→Bool) (i:Nat):bJ m f i=((List.range m).map (f i)).map D.bl:=by
 unfold bJ
 rw[ahK]
 rfl
theorem AK{d:af}{e:Ev}{c:aa}{l:List D}(h:d e c=.ok (.lst l) c):cS d e c=.ok ⟨l,fun _=>True⟩ c:=by
 unfold cS
 rw[h]
 rfl
theorem jh{sr:Ev→aa→R Src}{pick:List (Option Nat)}{g:Gd}{t:ai}{a:af}{e:Ev}{c:aa}{items l:List D}(h1:sr e c=.ok ⟨items,fun _=>True⟩ c) (hl:items.length<sizeLine) (h2:bM (fun _=>True) g t a items (dS pick e) [] c=.ok l c):aZ sr pick g t a e c=.ok (.lst l) c:=by
 rw[f6,h1]
 simp only[R.aC]
 rw[if_pos hl,h2]
 rfl
theorem mZ{i:Nat}{d:af}{e:Ev}{c c':aa}{v:D}(h:d e c=.ok v c'):aE i d e c=.ok (.nx (e.set i (some v))) c':=by rw[gr,h];rfl
theorem ace(l:List D) (c d:aa) (h:bK l=true):dM false c.length (.tup l) (c++d)=.ok (.tup l) c:=by
 have h':noRef (.tup l)=true:=by unfold noRef;exact h
 unfold dM
 dsimp only
 rw[if_pos h',List.take_left]
theorem abT{n:Nat}{b:ah}{xs:List D}{c d:aa}{l:List D}(h:b (cB n xs) c=.ok (.rt (.tup l)) (c++d)) (nr:bK l=true):bW n false b xs c=.ok (.tup l) c:=by
 rw[iX,h]
 exact ace l c d nr
theorem dU{d:af}{e:Ev}{c:aa}{b:Bool}(h:d e c=.ok (.bl b) c):aI d e c=.ok b c:=by rw[jL,h];rfl
theorem Ez{α:Type} [DecidableEq α] {F:α→PyData}(h:∀a b,(F a).eqv (F b)=decide (a=b)):∀l l':List α,PyData.eqvAll (l.map F) (l'.map F)=decide (l=l')
 |[],[]=>rfl
 |[],_::_=>by simp[PyData.eqvAll]
 |_::_,[]=>by simp[PyData.eqvAll]
 |a::l,b::l'=>by
  rw[ahv,ahv,PyData.eqvAll,h a b,Ez h l l']
  by_cases e:a=b
  ·subst e;by_cases e':l=l'<;>simp[e']
  ·simp[e]
theorem Pd{l:List D}(c:aa):eU [.lst l] c=.ok (.tup l) c:=rfl
theorem aaz{t:ai}{d1 d2:af}{e:Ev}{c:aa}{b:Bool}{x y:D}(ht:t e c=.ok b c) (h1:d1 e c=.ok x c) (h2:d2 e c=.ok y c):vH t d1 d2 e c=.ok (if b=true then x else y) c:=by
 rw[Oi,ht]
 simp only[R.aC]
 cases b
 ·rw[if_neg (by decide),if_neg (by decide)];exact h2
 ·rw[if_pos rfl,if_pos rfl];exact h1
theorem aeu{f:D→D→aa→R D}{d1 d2:af}{e:Ev}{c c1 c2:aa}{x y:D}{r:R D}(h1:d1 e c=.ok x c1) (h2:d2 e c1=.ok y c2) (h:f x y c2=r):au f d1 d2 e c=r:=by
 rw[dB,h1]
 simp only[R.aC]
 rw[h2]
 exact h
theorem Tg{j n:Nat}{c c':aa}(hP:ez j n c) (h:c'.length=c.length):c'.take c.length=c':=by rw[←h,aiD]
structure Wk (w:List (List Nat)):Prop where
 len:w.length<64
 row:∀r∈w,Up r∧∀x∈r,x<w.length
theorem aeA{dO da:af}{e:Ev}{c:aa}{k:Nat}{acc:List D}{v:D}(h1:dO e c=.ok (.ref k) c) (h2:da e c=.ok v c) (hk:c[k]? = some (.lst acc)) (hl:acc.length+1≤1000000) (nr:noRef v=true):lS dO da e c=.ok .aG (c.set k (.lst (acc++[v]))):=by
 have hs:1000000≤sizeLine:=by decide
 unfold lS
 rw[h1]
 simp only[R.aC]
 rw[h2]
 simp only[R.aC]
 rw[hk]
 dsimp only
 rw[if_pos ⟨by omega,nr⟩]
structure Mv (m:Nat) (σ:Nat→Nat) (f g:Nat→Nat→Bool):Prop where
 lt:∀a,a<m→σ a<m
 pm:((List.range m).map σ).Perm (List.range m)
 eq:∀a b,a<m→b<m→g a b=f (σ a) (σ b)
theorem ku{m:List D→aa→R D}{d1 d2:af}{e:Ev}{c c1 c2 c3:aa}{x y v:D}(h1:d1 e c=.ok x c1) (h2:d2 e c1=.ok y c2) (h:m [x,y] c2=.ok v c3):aA 2 m (ao d1 (ao d2 aq)) e c=.ok v c3:=by
 simp only[x_call,bE,h1,h2,bA,R.aC]
 rw[if_pos (by rfl)];exact h
theorem zy{m:List D→aa→R D}{d1:af}{e:Ev}{c c1 c2:aa}{x v:D}(h1:d1 e c=.ok x c1) (h:m [x] c1=.ok v c2):aA 1 m (ao d1 aq) e c=.ok v c2:=by
 simp only[x_call,bE,h1,bA,R.aC]
 rw[if_pos (by rfl)];exact h
theorem Sa{n:Nat}{b:ah}{xs:List D}{c c':aa}{v:D}(h:b (cB n xs) c=.ok (.rt v) c') (hv:noRef v=true) (hr:∀k,v≠.ref k):bW n false b xs c=.ok v (c'.take c.length):=by
 rw[iX,h]
 simp only[R.aC]
 cases v<;>first|exact absurd rfl (hr _)|(unfold dM;dsimp only;rw[if_pos hv])
theorem F4{d:af}{e:Ev}{c c':aa}{b:Bool}(h:d e c=.ok (.bl b) c'):aI d e c=.ok b c':=by rw[jL,h];rfl
theorem oX{t:ai}{e:Ev}{c c':aa}{b:Bool}(h:t e c=.ok b c'):e7 t e c=.ok (!b) c':=by
 unfold e7;rw[h];rfl
theorem wL{m:Nat}(hm:m<60):(aM 0 (m:Int)).length<sizeLine:=by
 have:=b8 (n:=1000) (by decide)
 rw[dY];omega
theorem LP{α:Type}{E:List (Option D)}{t:ai}{a:af}{c:aa}{st:aa→Prop}(hst:st c) (g F:α→D):∀(l:List α) (v:Option D) (acc:List D),(∀x∈l,t (some (g x)::E) c=.ok true c)→(∀x∈l,a (some (g x)::E) c=.ok (F x) c)→bM st (az 0) t a (l.map g) (v::E) acc c=.ok (acc++l.map F) c
 |[],v,acc,_,_=>by unfold bM;simp[hst]
 |x::l,v,acc,h1,h2=>by
  have e1:az 0 (g x) (v::E) c=.ok (some (g x)::E) c:=rfl
  rw[ahv]
  unfold bM
  rw[if_pos hst,e1,R.aC,h1 x (by simp),R.aC,if_pos rfl,h2 x (by simp),R.aC,LP hst g F l _ _ (fun y hy=>h1 y (by simp[hy])) (fun y hy=>h2 y (by simp[hy])),ahX]
  rfl
theorem U6{t u:ai}{e:Ev}{c c1 c2:aa}(h1:t e c=.ok false c1) (h2:u e c1=.ok false c2):jE t u e c=.ok false c2:=by
 unfold jE
 rw[h1]
 simp only[R.aC]
 first
  |exact h2
  |(rw[if_neg (by decide)];exact h2)
  |(simp;exact h2)
end Ev
namespace Ev
theorem Jj{α:Type} [DecidableEq α]:∀(D L:List α),D.Nodup→(∀x∈D,x∈L)→L.length≤D.length→L.Perm D
 |[],L,_,_,h=>by
  have:L=[]:=akY.mp (by simpa using h)
  rw[this]
 |d::D,L,hn,hs,hl=>by
  have hd:=hs d (by simp)
  have hn:=aiY.mp hn
  have hp:=List.perm_cons_erase hd
  have hle:(L.erase d).length≤D.length:=by
   rw[akI hd]
   simp at hl;omega
  exact hp.trans ((Jj D (L.erase d) hn.2 (fun x hx=>(akH (fun e=>hn.1 (by rw[←e];exact hx))).mpr (hs x (by simp[hx]))) hle).cons d)
theorem Ji{α:Type} [DecidableEq α]:∀(D L:List α),D.Nodup→(∀x∈D,x∈L)→D.length≤L.length
 |[],L,_,_=>ahY _
 |d::D,L,hn,hs=>by
  have hd:=hs d (by simp)
  have hn:=aiY.mp hn
  have:=Ji D (L.erase d) hn.2 fun x hx=>(akH (fun e=>hn.1 (by rw[←e];exact hx))).mpr (hs x (by simp[hx]))
  rw[akI hd]at this
  have:0<L.length:=als hd
  simp;omega
theorem A8{m:Nat}{l:List Nat}(hn:l.Nodup) (hl:l.length=m) (hm:∀x∈l,x<m):l.Perm (List.range m) :=
 (Jj l (List.range m) hn (fun x hx=>ahn.mpr (hm x hx)) (by simp[hl])).symm
def aJ(os:List Nat) (i:Nat):Nat:=os.getD i 0
section
variable {m:Nat}{os:List Nat}
theorem gI(h:os.Perm (List.range m)):os.length=m:=by have:=h.length_eq;simpa using this
theorem gR(h:os.Perm (List.range m)) {i:Nat}(hi:i<m):aJ os i<m:=by
 have hl:=gI h
 have:os[i]'(by omega)∈os:=ail _
 have:=ahn.mp (h.mem_iff.mp this)
 simpa[aJ,ahr,show i<os.length by omega]using this
theorem m9(h:os.Perm (List.range m)) {i j:Nat}(hi:i<m) (hj:j<m) (e:aJ os i=aJ os j):i=j:=by
 have hl:=gI h
 have hn:os.Nodup:=h.nodup_iff.mpr ajK
 have:os[i]'(by omega)=os[j]'(by omega):=by simpa[aJ,ahr,show i<os.length by omega,show j<os.length by omega]using e
 exact(aiv hn).mp this
theorem Ia(h:os.Perm (List.range m)):(List.range m).map (aJ os)=os:=by
 have hl:=gI h
 refine aim (by simp[hl]) fun i h1 h2=>?_
 simp[aJ,ahr,h2]
theorem Tw(h:os.Perm (List.range m)) {x:Nat}(hx:x<m):∃i,i<m∧aJ os i=x:=by
 have:x∈(List.range m).map (aJ os):=by rw[Ia h];exact h.mem_iff.mpr (ahn.mpr hx)
 obtain⟨i,hi,e⟩:=ahs.mp this
 exact⟨i,ahn.mp hi,e⟩
theorem xh(h:os.Perm (List.range m)) (p:Nat→Bool):(List.range m).countP (fun i=>p (aJ os i))=(List.range m).countP p:=by
 have e:(List.range m).countP (fun i=>p (aJ os i))=((List.range m).map (aJ os)).countP p:=by rw[ajc];rfl
 rw[e,Ia h]
 exact h.countP_eq p
end
def gg:List Nat→List Nat→Bool
 |[],[]=>false
 |[],_::_=>true
 |_::_,[]=>false
 |a::as,b::bs=>if a=b then gg as bs else decide (a<b)
theorem BY:∀l:List Nat,gg l l=false
 |[]=>rfl
 |a::l=>by simp[gg,BY l]
theorem JV:∀{l k:List Nat},gg l k=true→gg k l=false
 |[],[],h=>by cases h
 |[],_::_,_=>rfl
 |_::_,[],h=>by cases h
 |a::l,b::k,h=>by
  unfold gg at h ⊢
  by_cases e:a=b
  ·subst e
   rw[if_pos rfl]at h ⊢
   exact JV h
  ·rw[if_neg e]at h
   rw[if_neg (fun z=>e z.symm)]
   have:=of_decide_eq_true h
   exact decide_eq_false (by omega)
theorem x6:∀{l k:List Nat}{d:Nat},l.length=k.length→d<l.length→(∀i,i<d→aJ l i=aJ k i)→aJ l d<aJ k d→gg l k=true
 |[],_,_,_,h,_,_=>by simp at h
 |_::_,[],_,h,_,_,_=>by simp at h
 |a::l,b::k,0,hl,hd,_,hlt=>by
  have hlt:a<b:=hlt
  unfold gg
  rw[if_neg (by omega)]
  exact decide_eq_true hlt
 |a::l,b::k,d+1,hl,hd,he,hlt=>by
  have e:a=b:=he 0 (by omega)
  unfold gg
  rw[if_pos e]
  exact x6 (d:=d) (by simpa using hl) (by simpa using hd) (fun i hi=>he (i+1) (by omega)) hlt
theorem BZ:∀{l k:List Nat},l.length=k.length→l≠k→∃d,d<l.length∧(∀i,i<d→aJ l i=aJ k i)∧aJ l d≠aJ k d
 |[],[],_,h=>absurd rfl h
 |[],_::_,h,_=>by simp at h
 |_::_,[],h,_=>by simp at h
 |a::l,b::k,hl,hne=>by
  by_cases e:a=b
  ·subst e
   obtain⟨d,h1,h2,h3⟩:=BZ (l:=l) (k:=k) (by simpa using hl) fun q=>hne (by rw[q])
   refine⟨d+1,by simpa using h1,fun i hi=>?_,h3⟩
   cases i with
   |zero=>rfl
   |succ i=>exact h2 i (by omega)
  ·exact⟨0,by simp,fun i hi=>by omega,e⟩
def fm(m:Nat) (P:List Nat→Prop) (os:List Nat):Prop:=P os∧∀ts,P ts→ts.length=m→gg ts os=false
theorem fm.le{m:Nat}{P:List Nat→Prop}{os:List Nat}(hl:os.length=m) (h:fm m P os) {ts:List Nat}(ht:P ts) (tl:ts.length=m) {d:Nat}(hd:d<m) (he:∀i,i<d→aJ ts i=aJ os i):aJ os d≤aJ ts d:=by
 rcases ais (aJ ts d) (aJ os d)with q|q
 ·have:=x6 (by rw[tl,hl]) (by omega) he q
  rw[h.2 ts ht tl]at this;cases this
 ·exact q
theorem fm.one{m:Nat}{P:List Nat→Prop}(hP:∀os,P os→os.length=m) {os ts:List Nat}(h:fm m P os) (g:fm m P ts):os=ts:=aia fun hne=>by
 have l1:=hP _ h.1
 have l2:=hP _ g.1
 obtain⟨d,h1,h2,h3⟩:=BZ (by rw[l1,l2]) hne
 have a:=h.le l1 g.1 l2 (d:=d) (by omega) fun i hi=>(h2 i hi).symm
 have b:=g.le l2 h.1 l1 (d:=d) (by omega) h2
 omega
theorem fm.congr{m:Nat}{P Q:List Nat→Prop}(h:∀os,P os↔Q os) {os:List Nat}(x:fm m P os):fm m Q os:=⟨(h os).mp x.1,fun ts ht=>x.2 ts ((h ts).mpr ht)⟩
def F2(m:Nat) (f f':Nat→Nat→Bool):Nat→Nat→Bool:=fun u v=>if u<m then decide (v<m)&&f u v else decide (m≤v)&&f' (u-m) (v-m)
def gF(n:Nat) (F:Nat→Nat→Bool) (c:Nat→Nat) (u d:Nat):Nat:=(List.range n).countP fun v=>F u v&&decide (c v=d)
structure fZ (m:Nat) (f f':Nat→Nat→Bool) (os:List Nat):Prop where
 pm:os.Perm (List.range m)
 eq:∀i j,i<m→j<m→f i j=f' (aJ os i) (aJ os j)
def fj(m:Nat) (c:Nat→Nat) (os:List Nat):Prop:=∀i,i<m→c i=c (m+aJ os i)
def vW(n:Nat) (F:Nat→Nat→Bool) (c c':Nat→Nat):Prop:=∀u v,u<n→v<n→(c' u=c' v↔c u=c v∧∀d,gF n F c u d=gF n F c v d)
def p9(m:Nat) (c:Nat→Nat):Prop:=∀d,(List.range m).countP (fun i=>decide (c i=d))=(List.range m).countP fun i=>decide (c (m+i)=d)
section
variable {m:Nat}{f f':Nat→Nat→Bool}{c c':Nat→Nat}{os:List Nat}
theorem HP(m:Nat) (p:Nat→Bool):(List.range (2*m)).countP p=(List.range m).countP p+(List.range m).countP fun i=>p (m+i):=by
 have e:List.range (2*m)=List.range m++(List.range m).map (m + ·):=by
  rw[show 2*m=m+m by omega,ajt]
 rw[e,ak6,ajc]
 rfl
theorem zw{α:Type}{p:α→Bool}{l:List α}(h:∀x∈l,p x=false):l.countP p=0:=al6.mpr fun x hx=>by simp[h x hx]
theorem LZ{i d:Nat}(hi:i<m):gF (2*m) (F2 m f f') c i d=(List.range m).countP fun j=>f i j&&decide (c j=d):=by
 unfold gF
 rw[HP,zw (p:=fun j=>F2 m f f' i (m+j)&&decide (c (m+j)=d)) fun j hj=>by
  unfold F2
  rw[if_pos hi]
  have:¬m+j<m:=by omega
  simp[this]]
 refine aiu fun j hj=>?_
 unfold F2
 rw[if_pos hi]
 simp[ahn.mp hj]
theorem LY{i d:Nat}:gF (2*m) (F2 m f f') c (m+i) d=(List.range m).countP fun j=>f' i j&&decide (c (m+j)=d):=by
 unfold gF
 have hi:¬m+i<m:=by omega
 rw[HP,zw (l:=List.range m) (p:=fun j=>F2 m f f' (m+i) j&&decide (c j=d)) fun j hj=>by
  unfold F2
  rw[if_neg hi]
  have:¬m≤j:=by have:=ahn.mp hj;omega
  simp[this]]
 rw[ahM]
 refine aiu fun j hj=>?_
 unfold F2
 rw[if_neg hi]
 simp
theorem fj.cn(h:fZ m f f' os) (r:fj m c os) {i:Nat}(hi:i<m) (d:Nat):gF (2*m) (F2 m f f') c i d=Ev.gF (2*m) (F2 m f f') c (m+aJ os i) d:=by
 rw[LZ hi,LY,←xh h.pm fun j=>f' (aJ os i) j&&decide (c (m+j)=d)]
 refine aiu fun j hj=>?_
 have hj:=ahn.mp hj
 rw[h.eq i j hi hj,r j hj]
theorem fj.abZ(h:fZ m f f' os) (r:fj m c os) (F:vW (2*m) (F2 m f f') c c'):fj m c' os:=fun i hi=>by
 have:=gR h.pm hi
 exact(F i (m+aJ os i) (by omega) (by omega)).mpr ⟨r i hi,fun d=>fj.cn h r hi d⟩
theorem fj.adY(h:os.Perm (List.range m)) (r:fj m c' os) (F:vW (2*m) (F2 m f f') c c'):fj m c os:=fun i hi=>by
 have:=gR h hi
 exact((F i (m+aJ os i) (by omega) (by omega)).mp (r i hi)).1
theorem fj.shr(h:os.Perm (List.range m)) (r:fj m c os):p9 m c:=fun d=>by
 rw[←xh h fun j=>decide (c (m+j)=d)]
 refine aiu fun j hj=>?_
 rw[r j (ahn.mp hj)]
def vX(n:Nat) (F:Nat→Nat→Bool) (c:Nat→Nat):Prop:=∀u v,u<n→v<n→c u=c v→∀d,gF n F c u d=gF n F c v d
theorem acj{n:Nat}{F:Nat→Nat→Bool}(h:vW n F c c') (hs:∀u v,u<n→v<n→c u=c v→c' u=c' v):vX n F c':=fun u v hu hv e d=>by
 have h1:=(h u v hu hv).mp e
 by_cases q:∃w,w<n∧c' w=d
 ·obtain⟨w,hw,rfl⟩:=q
  have key:∀x,gF n F c' x (c' w)=gF n F c x (c w):=fun x=>aiu fun y hy=>by
   have hy:=ahn.mp hy
   have:(c' y=c' w)↔(c y=c w):=⟨fun z=>((h y w hy hw).mp z).1,hs y w hy hw⟩
   simp[this]
  rw[key,key,h1.2]
 ·have z:∀x,gF n F c' x d=0:=fun x=>zw fun y hy=>by
   have:¬c' y=d:=fun e=>q ⟨y,ahn.mp hy,e⟩
   simp[this]
  rw[z,z]
def twinO(m:Nat) (f:Nat→Nat→Bool) (p q:Nat):Prop:=∀x,x<m→x≠p→x≠q→f p x=f q x
structure dI (f:Nat→Nat→Bool):Prop where
 ir:∀i,f i i=false
 sy:∀i j,f i j=f j i
theorem twinO.trans(hw:dI f) {p q r:Nat}(hp:p<m) (hq:q<m) (hr:r<m) (h1:twinO m f p q) (h2:twinO m f p r):twinO m f q r:=fun x hx KD KC=>by
 by_cases e:x=p
 ·subst e
  by_cases e2:q=r
  ·rw[e2]
  ·-- f q x and f r x,x=p: by G0 twins p,q seen from r,and p,r seen from q
   have a:=h1 r hr (fun z=>KC z.symm) (fun z=>e2 z.symm)
   have b:=h2 q hq (fun z=>KD z.symm) e2
   rw[hw.sy q x,hw.sy r x,b,a,hw.sy q r]
 ·rw[←h1 x hx e KD,h2 x hx e KC]
def gb(os:List Nat) (d e:Nat):List Nat:=(os.set d (aJ os e)).set e (aJ os d)
theorem jP(os:List Nat) (d e:Nat):(gb os d e).length=os.length:=by simp[gb]
theorem kN{d e i:Nat}(hd:d<os.length) (he:e<os.length):aJ (gb os d e) i=if i=e then aJ os d else if i=d then aJ os e else aJ os i:=by
 unfold gb aJ
 rw[ahr,aj5]
 by_cases h1:e=i
 ·subst h1
  simp[he]
 ·rw[if_neg h1,if_neg (fun z=>h1 z.symm),aj5]
  by_cases h2:d=i
  ·subst h2
   simp[hd]
  ·rw[if_neg h2,if_neg (fun z=>h2 z.symm),ahr]
theorem P9(h:os.Perm (List.range m)) {d e:Nat}(hd:d<m) (he:e<m):(gb os d e).Perm (List.range m):=by
 have hl:=gI h
 refine A8 ?_ (by rw[jP,hl]) fun x hx=>?_
 ·rw[ak7,ai5]
  intro i j hi hj hij hne
  rw[jP]at hi hj
  have e1:aJ (gb os d e) i=aJ (gb os d e) j:=by
   simpa[aJ,ahr,jP,hi,hj]using hne
  rw[kN (by omega) (by omega),kN (by omega) (by omega)]at e1
  have inj:=fun{x y:Nat}(hx:x<m) (hy:y<m) (z:aJ os x=aJ os y)=>m9 h hx hy z
  split at e1<;>split at e1<;>(try split at e1)<;>(try split at e1)<;>have:=inj (by omega) (by omega) e1<;>omega
 ·obtain⟨i,hi,rfl⟩:=aiq hx
  rw[jP]at hi
  have:(gb os d e)[i]'(by rw[jP];exact hi)=aJ (gb os d e) i:=by simp[aJ,ahr,jP,hi]
  rw[this,kN (by omega) (by omega)]
  split
  ·exact gR h hd
  ·split
   ·exact gR h he
   ·exact gR h (by omega)
end
end Ev
namespace Ev
theorem E8{α:Type}{p q:α→Bool}:∀{l:List α},(∀x∈l,p x=true→q x=true)→(∃x∈l,q x=true∧p x=false)→l.countP p<l.countP q
 |[],_,h=>by obtain⟨x,hx,_⟩:=h;simp at hx
 |a::l,hi,h=>by
  have hle:l.countP p≤l.countP q:=al7 fun x hx=>hi x (by simp[hx])
  rw[akd,akd]
  obtain⟨x,hx,hq,hp⟩:=h
  rcases ahm.mp hx with rfl|hx
  ·simp only[hq,hp];simp;omega
  ·have:=E8 (fun y hy=>hi y (by simp[hy])) ⟨x,hx,hq,hp⟩
   have h2:=hi a (by simp)
   cases e:p a<;>cases e2:q a<;>simp_all<;>omega
theorem LX{α:Type}{p q:α→Bool}{l:List α}(hi:∀x∈l,p x=true→q x=true) (h:l.countP q≤l.countP p):∀x∈l,q x=true→p x=true:=fun x hx hq=>aia fun hp=>by
 have:=E8 hi ⟨x,hx,hq,by simpa using hp⟩
 omega
def fT(c:Nat→Nat) (i:Nat):Bool:=decide (∀j,j<i→c j≠c i)
def dQ(n:Nat) (c:Nat→Nat):Nat:=(List.range n).countP (fT c)
theorem iw{c:Nat→Nat}{i:Nat}:fT c i=true↔∀j,j<i→c j≠c i:=by simp[fT]
theorem DS{c:Nat→Nat}:∀(u:Nat),∃w,w≤u∧c w=c u∧fT c w=true:=by
 intro u
 induction u using Nat.strongRecOn with
 |_ u ih =>
  by_cases h:∃j,j<u∧c j=c u
  ·obtain⟨j,hj,e⟩:=h
   obtain⟨w,h1,h2,h3⟩:=ih j hj
   exact⟨w,by omega,by rw[h2,e],h3⟩
  ·exact⟨u,by omega,rfl,iw.mpr fun j hj e=>h ⟨j,hj,e⟩⟩
theorem Kg{c:Nat→Nat}{u v:Nat}(hu:fT c u=true) (hv:fT c v=true) (e:c u=c v):u=v:=by
 rcases aiP u v with h|h|h
 ·exact absurd e (iw.mp hv u h)
 ·exact h
 ·exact absurd e.symm (iw.mp hu v h)
def zL(n:Nat) (c c':Nat→Nat):Prop:=∀u v,u<n→v<n→c' u=c' v→c u=c v
theorem XT{n:Nat}{c c':Nat→Nat}(h:zL n c c'):dQ n c≤dQ n c' :=
 al7 fun i hi q=>iw.mpr fun j hj e=>iw.mp q j hj (h j i (by have:=ahn.mp hi;omega) (ahn.mp hi) e)
theorem XS{n:Nat}{c c':Nat→Nat}(h:zL n c c') (hle:dQ n c'≤dQ n c):∀u v,u<n→v<n→c u=c v→c' u=c' v:=fun u v hu hv e=>by
 have key:=LX (l:=List.range n) (p:=fT c) (q:=fT c') (fun i hi q=>iw.mpr fun j hj e=>iw.mp q j hj (h j i (by have:=ahn.mp hi;omega) (ahn.mp hi) e)) hle
 obtain⟨u',a1,a2,a3⟩:=DS (c:=c') u
 obtain⟨v',b1,b2,b3⟩:=DS (c:=c') v
 have x1:=key u' (ahn.mpr (by omega)) a3
 have x2:=key v' (ahn.mpr (by omega)) b3
 have y1:=h u' u (by omega) hu a2
 have y2:=h v' v (by omega) hv b2
 have:u'=v':=Kg x1 x2 (by rw[y1,y2,e])
 rw[←a2,←b2,this]
theorem Jk(n:Nat) (c:Nat→Nat):dQ n c≤n:=by
 have:=List.countP_le_length (p:=fT c) (l:=List.range n)
 simpa[dQ]using this
def gM(c:Nat→Nat) (z one other:Nat):Nat→Nat:=fun i=>if i=one∨i=other then z else c i
theorem XU{m:Nat}{c:Nat→Nat}{z one other q:Nat}(hz:∀i,i<m→c i≠z) (h1:one<m) (h2:m≤other) (hq:q<m) (hne:q≠one) (e:c q=c one):dQ m c<dQ m (gM c z one other):=by
 have lV:∀i,i<m→i≠one→gM c z one other i=c i:=fun i hi hn=>by
  unfold gM;rw[if_neg (by omega)]
 have at2:gM c z one other one=z:=by unfold gM;simp
 have inc:∀i∈List.range m,fT c i=true→fT (gM c z one other) i=true:=fun i hi h=>iw.mpr fun j hj e'=>by
  have hi:=ahn.mp hi
  by_cases e1:i=one
  ·subst e1
   rw[at2,lV j (by omega) (by omega)]at e'
   exact hz j (by omega) e'
  ·rw[lV i hi e1]at e'
   by_cases e2:j=one
   ·subst e2
    rw[at2]at e'
    exact hz i hi e'.symm
   ·rw[lV j (by omega) e2]at e'
    exact iw.mp h j hj e'
 refine E8 inc ?_
 by_cases hf:fT c one=true
 ·-- G0 second of G0 ahb
  obtain⟨w,a1,a2,a3⟩:=DS (c:=fun i=>gM c z one other (if i<m then i else q)) q
  simp only[hq,if_true]at a2
  have hw:w<m:=by omega
  simp only[hw,if_true]at a2
  rw[lV q hq hne]at a2
  have hw1:w≠one:=fun x=>by
   subst x
   rw[at2]at a2
   exact hz q hq a2.symm
  rw[lV w hw hw1]at a2
  refine⟨w,ahn.mpr hw,iw.mpr fun j hj e'=>?_,?_⟩
  ·have:=iw.mp a3 j hj
   simp only[hw,show j<m by omega,if_true]at this
   exact this e'
  ·cases hx:fT c w with
   |false=>rfl
   |true=>exact absurd (Kg hx hf (by rw[a2,e])) hw1
 ·refine⟨one,ahn.mpr h1,iw.mpr fun j hj e'=>?_,by simpa using hf⟩
  rw[at2,lV j (by omega) (by omega)]at e'
  exact hz j (by omega) e'
section
variable {m:Nat}{f f':Nat→Nat→Bool}{c c':Nat→Nat}{os:List Nat}
theorem aap(hw:dI f) (dH:dI f') (pm:os.Perm (List.range m)) (r:fj m c os) (he:vX (2*m) (F2 m f f') c) (ht:∀p q,p<m→q<m→c p=c q→twinO m f p q):fZ m f f' os:=⟨pm,fun i j hi hj=>by
 by_cases ED:i=j
 ·subst ED
  rw[hw.ir,dH.ir]
 have Du:=gR pm hi
 have KO:=gR pm hj
 have hc:=he i (m+aJ os i) (by omega) (by omega) (r i hi) (c j)
 rw[LZ hi,LY]at hc
 have same:∀x,x<m→x≠i→c x=c j→f i x=f i j:=fun x hx hxi ex=>by
  by_cases exj:x=j
  ·rw[exj]
  ·rw[hw.sy i x,hw.sy i j]
   exact ht x j hx hj ex i hi (fun z=>hxi z.symm) ED
 cases e:f i j with
 |false =>
  have z:((List.range m).countP fun x=>f i x&&decide (c x=c j))=0:=zw fun x hx=>by
   have hx:=ahn.mp hx
   by_cases ex:c x=c j
   ·by_cases sA:x=i
    ·subst sA;simp[hw.ir]
    ·simp[same x hx sA ex,e]
   ·simp[ex]
  rw[z]at hc
  have:=al6.mp hc.symm (aJ os j) (ahn.mpr KO)
  rw[←r j hj]at this
  simp at this
  exact this.symm
 |true =>
  have z:((List.range m).countP fun x=>f i x&&decide (c x=c j))=(List.range m).countP fun x=>decide (x≠i)&&decide (c x=c j):=aiu fun x hx=>by
   have hx:=ahn.mp hx
   by_cases ex:c x=c j
   ·by_cases sA:x=i
    ·subst sA;simp[hw.ir]
    ·simp[same x hx sA ex,e,sA]
   ·simp[ex]
  have z2:((List.range m).countP fun x=>decide (x≠i)&&decide (c x=c j))=(List.range m).countP fun y=>decide (y≠aJ os i)&&decide (c (m+y)=c j):=by
   rw[←xh pm fun y=>decide (y≠aJ os i)&&decide (c (m+y)=c j)]
   refine aiu fun x hx=>?_
   have hx:=ahn.mp hx
   have:aJ os x=aJ os i↔x=i:=⟨fun z=>m9 pm hx hi z,fun z=>by rw[z]⟩
   rw[r x hx]
   simp[this]
  rw[z,z2]at hc
  have key:=LX (l:=List.range m) (p:=fun y=>f' (aJ os i) y&&decide (c (m+y)=c j)) (q:=fun y=>decide (y≠aJ os i)&&decide (c (m+y)=c j)) (fun y hy h=>by
   simp at h ⊢
   refine⟨fun z=>?_,h.2⟩
   rw[z,dH.ir]at h
   cases h.1) (by omega) (aJ os j) (ahn.mpr KO) (by
    have:¬aJ os j=aJ os i:=fun z=>ED (m9 pm hj hi z).symm
    simp[this,←r j hj])
  simp at key
  exact key.1.symm⟩
theorem aao(hw:dI f) (dH:dI f') (h:fZ m f f' os) {d e:Nat}(hd:d<m) (he:e<m) (t:twinO m f d e):fZ m f f' (gb os d e):=by
 have hl:=gI h.pm
 by_cases hde:d=e
 ·subst hde
  have:gb os d d=os:=by
   refine aim (by rw[jP]) fun i h1 h2=>?_
   have q:=kN (os:=os) (d:=d) (e:=d) (i:=i) (by omega) (by omega)
   have z1:(gb os d d)[i]=aJ (gb os d d) i:=by simp[aJ,ahr,h1]
   have z2:os[i]=aJ os i:=by simp[aJ,ahr,h2]
   rw[z1,z2,q]
   split
   ·rename_i x;rw[x]
   ·rfl
  rw[this];exact h
 refine⟨P9 h.pm hd he,fun i j hi hj=>?_⟩
 have ch:∀i,aJ (gb os d e) i=aJ os (if i=e then d else if i=d then e else i):=fun i=>by
  rw[kN (by omega) (by omega)]
  split
  ·rfl
  ·split<;>rfl
 have lt:∀i,i<m→(if i=e then d else if i=d then e else i)<m:=fun i hi=>by split;exact hd;split;exact he;exact hi
 rw[ch i,ch j,←h.eq _ _ (lt i hi) (lt j hj)]
 have tt:∀x,x<m→x≠d→x≠e→f d x=f e x:=t
 by_cases i1:i=e
 ·subst i1
  by_cases j1:j=i
  ·subst j1;simp[hw.ir]
  ·by_cases j2:j=d
   ·subst j2;simp[j1,hw.sy]
   ·simp[j1,j2]
    exact(tt j hj j2 j1).symm
 ·by_cases i2:i=d
  ·subst i2
   by_cases j1:j=e
   ·subst j1;simp[i1,hw.sy]
   ·by_cases j2:j=i
    ·subst j2;simp[i1,hw.ir]
    ·simp[i1,j1,j2]
     exact tt j hj j2 j1
  ·by_cases j1:j=e
   ·subst j1
    simp[i1,i2]
    rw[hw.sy i j,hw.sy i d]
    exact(tt i hi i2 i1).symm
   ·by_cases j2:j=d
    ·subst j2
     simp[i1,i2,j1]
     rw[hw.sy i j,hw.sy i e]
     exact tt i hi i2 i1
    ·simp[i1,i2,j1,j2]
theorem RX(hl:os.length=m) (r:fj m c os) {d e:Nat}(hd:d<m) (he:e<m) (hc:c d=c e):fj m c (gb os d e):=fun i hi=>by
 rw[kN (by omega) (by omega)]
 split
 ·rename_i x;subst x;rw[←hc];exact r d hd
 ·split
  ·rename_i x;subst x;rw[hc];exact r e he
  ·exact r i hi
theorem BX{l k:List Nat}(hl:l.length=k.length) (h:gg l k=true):∃d,d<l.length∧(∀i,i<d→aJ l i=aJ k i)∧aJ l d<aJ k d:=by
 obtain⟨d,h1,h2,h3⟩:=BZ hl (fun z=>by rw[z,BY]at h;cases h)
 refine⟨d,h1,h2,?_⟩
 rcases ais (aJ l d) (aJ k d)with q|q
 ·exact q
 ·have:=JV (x6 hl.symm (by omega) (fun i hi=>(h2 i hi).symm) (show aJ k d<aJ l d by omega))
  rw[this]at h;cases h
def gO(m:Nat) (f f':Nat→Nat→Bool) (c:Nat→Nat) (os:List Nat):Prop:=fZ m f f' os∧fj m c os
theorem gO.len(h:gO m f f' c os):os.length=m:=gI h.1.pm
structure iS (m:Nat) (c:Nat→Nat) (k:Nat) (os:List Nat):Prop where
 len:os.length=k
 lt:∀i,i<k→aJ os i<m
 un:∀i j,i<j→j<k→aJ os i≠aJ os j
 rs:∀i,i<k→c i=c (m+aJ os i)
 mn:∀i o,i<k→o<m→c (m+o)=c i→(∀j,j<i→aJ os j≠o)→aJ os i≤o
theorem iS.perm(h:iS m c m os):os.Perm (List.range m):=by
 have hl:=h.len
 have g:∀i (hi:i<os.length),os[i]=aJ os i:=fun i hi=>by simp[aJ,ahr,hi]
 refine A8 ?_ hl fun x hx=>?_
 ·rw[ak7,ai5]
  intro i j hi hj hij
  rw[g i hi,g j hj]
  exact h.un i j hij (by omega)
 ·obtain⟨i,hi,rfl⟩:=aiq hx
  rw[g i hi]
  exact h.lt i (by omega)
theorem iS.first(hw:dI f) (dH:dI f') (h:iS m c m os) (he:vX (2*m) (F2 m f f') c) (ht:∀p q,p<m→q<m→c p=c q→twinO m f p q):fm m (gO m f f' c) os :=
 ⟨⟨aap hw dH h.perm h.rs he ht,h.rs⟩,fun ts hts tl=>by
  cases e:gg ts os with
  |false=>rfl
  |true =>
   obtain⟨d,h1,h2,h3⟩:=BX (by rw[tl,h.len]) e
   have hd:d<m:=by omega
   have:=h.mn d (aJ ts d) hd (gR hts.1.pm hd) (hts.2 d hd).symm fun j hj z=>by
    rw[←h2 j hj]at z
    have:=m9 hts.1.pm (by omega) hd z
    omega
   omega⟩
theorem DK{l k:List Nat}{i:Nat}(h:i<l.length):aJ (l++k) i=aJ l i:=by
 simp[aJ,ahr,ah1 h]
theorem DL{l:List Nat}{a i:Nat}(h:i=l.length):aJ (l++[a]) i=a:=by
 subst h;simp[aJ,ahr]
theorem iS.more{k:Nat}(h:iS m c k os) {a:Nat}(ha:a<m) (hc:c (m+a)=c k) (hn:∀j,j<k→aJ os j≠a) (hm:∀o,o<m→c (m+o)=c k→(∀j,j<k→aJ os j≠o)→a≤o):iS m c (k+1) (os++[a]):=by
 have lo:∀i,i<k→aJ (os++[a]) i=aJ os i:=fun i hi=>DK (by rw[h.len];exact hi)
 have hi:aJ (os++[a]) k=a:=DL h.len.symm
 refine⟨by simp[h.len],fun i q=>?_,fun i j hij q=>?_,fun i q=>?_,fun i o q ho hco hno=>?_⟩
 ·by_cases e:i=k
  ·rw[e,hi];exact ha
  ·rw[lo i (by omega)];exact h.lt i (by omega)
 ·rw[lo i (by omega)]
  by_cases e:j=k
  ·rw[e,hi];exact hn i (by omega)
  ·rw[lo j (by omega)];exact h.un i j hij (by omega)
 ·by_cases e:i=k
  ·rw[e,hi,hc]
  ·rw[lo i (by omega)];exact h.rs i (by omega)
 ·by_cases e:i=k
  ·subst e
   rw[hi]
   exact hm o ho hco fun j hj=>by rw[←lo j hj];exact hno j hj
  ·rw[lo i (by omega)]
   exact h.mn i o (by omega) ho hco fun j hj=>by rw[←lo j (by omega)];exact hno j hj
theorem iS.ex{k:Nat}(h:iS m c k os) (hs:p9 m c) (hk:k<m):∃o,o<m∧c (m+o)=c k∧∀j,j<k→aJ os j≠o:=aia fun hno=>by
 have hall:∀o,o<m→c (m+o)=c k→∃j,j<k∧aJ os j=o:=fun o ho hc=>aia fun q=>hno ⟨o,ho,hc,fun j hj z=>q ⟨j,hj,z⟩⟩
 have A:((List.range m).filter fun o=>decide (c (m+o)=c k)).length≤(((List.range k).filter fun j=>decide (c j=c k)).map (aJ os)).length:=by
  refine Ji _ _ (List.Pairwise.filter _ ajK) fun o ho=>?_
  simp at ho
  obtain⟨j,hj,e⟩:=hall o ho.1 ho.2
  refine ahs.mpr ⟨j,?_,e⟩
  simp[hj]
  rw[h.rs j hj,e,ho.2]
 rw[ahx,←al8,←al8,←hs (c k)]at A
 have B:((List.range k).countP fun j=>decide (c j=c k))<(List.range m).countP fun j=>decide (c j=c k):=by
  have e:List.range m=List.range k++(List.range (m-k)).map (k + ·):=by
   rw[show m=k+(m-k) by omega,ajt]
   simp
  rw[e,ak6]
  have:0<((List.range (m-k)).map (k + ·)).countP fun j=>decide (c j=c k):=by
   rw[List.countP_pos_iff]
   exact⟨k,ahs.mpr ⟨0,ahn.mpr (by omega),by simp⟩,by simp⟩
  omega
 omega
theorem MY{z one b:Nat}(hz:∀i,i<2*m→c i≠z) (h1:one<m) (hb:b<m) (pm:os.Perm (List.range m)) (hc:c (m+b)=c one):fj m (gM c z one (m+b)) os↔fj m c os∧aJ os one=b:=by
 constructor
 ·intro r
  have key:aJ os one=b:=by
   have:=r one h1
   unfold gM at this
   rw[if_pos (Or.inl rfl)]at this
   by_cases q:m+aJ os one=m+b
   ·omega
   ·rw[if_neg (by omega)]at this
    have hl:=gR pm h1
    exact absurd this.symm (hz _ (by omega))
  refine⟨fun i hi=>?_,key⟩
  by_cases e:i=one
  ·rw[e,key,hc]
  ·have:=r i hi
   have hl:=gR pm hi
   unfold gM at this
   rw[if_neg (by omega),if_neg ?_]at this
   ·exact this
   ·rintro (q|q)
    ·omega
    ·exact e (m9 pm hi h1 (by omega))
 ·rintro ⟨r,key⟩ i hi
  unfold gM
  by_cases e:i=one
  ·rw[if_pos (Or.inl e),e,key,if_pos (Or.inr rfl)]
  ·rw[if_neg (by omega),if_neg ?_]
   ·exact r i hi
   ·rintro (q|q)
    ·omega
    ·exact e (m9 pm hi h1 (by omega))
theorem Qe(hw:dI f) (dH:dI f') {one b:Nat}(h1:one<m) (hb:b<m) (hcl:∀p q,p<one→q<m→c q=c p→twinO m f p q)
  (hop:∃q,q<m∧c q=c one∧¬twinO m f one q) (hno:∀ts,gO m f f' c ts→¬aJ ts one<b)
  (h:fm m (fun ts=>gO m f f' c ts∧aJ ts one=b) os):fm m (gO m f f' c) os:=⟨h.1.1,fun ts hts tl=>by
 cases e:gg ts os with
 |false=>rfl
 |true =>
  exfalso
  have hl:=h.1.1.len
  obtain⟨d,q1,q2,q3⟩:=BX (by rw[tl,hl]) e
  have hd:d<m:=by omega
  rcases aiP d one with hlt|heq|hgt
  ·obtain⟨i,hi,ei⟩:=Tw h.1.1.1.pm (gR hts.1.pm hd)
   have hdi:d<i:=by
    rcases aiP i d with x|x|x
    ·rw[←q2 i x]at ei
     have:=m9 hts.1.pm hi hd ei
     omega
    ·subst x;omega
    ·exact x
   have DE:c i=c d:=by rw[h.1.1.2 i hi,ei,←hts.2 d hd]
   have tw:=hcl d i hlt hi DE
   have hne:i≠one:=fun x=>by
    subst x
    obtain⟨q,a1,a2,a3⟩:=hop
    exact a3 (twinO.trans hw hd hi a1 tw (hcl d q hlt a1 (by rw[a2,DE])))
   have sw:gO m f f' c (gb os d i):=⟨aao hw dH h.1.1.1 hd hi tw,RX hl h.1.1.2 hd hi DE.symm⟩
   have lV:aJ (gb os d i) one=b:=by
    rw[kN (by omega) (by omega),if_neg (fun z=>hne z.symm),if_neg (by omega)]
    exact h.1.2
   have:=x6 (l:=gb os d i) (k:=os) (d:=d) (jP _ _ _) (by rw[jP];omega) (fun j hj=>by rw[kN (by omega) (by omega),if_neg (by omega),if_neg (by omega)]) (by
    rw[kN (by omega) (by omega),if_neg (by omega),if_pos rfl,ei]
    exact q3)
   rw[h.2 _ ⟨sw,lV⟩ (by rw[jP,hl])]at this
   cases this
  ·subst heq
   rw[h.1.2]at q3
   exact hno ts hts q3
  ·have:=h.2 ts ⟨hts,by rw[q2 one hgt];exact h.1.2⟩ tl
   rw[this]at e;cases e⟩
structure mT (m:Nat) (f f':Nat→Nat→Bool) (k:Nat) (is:List Nat):Prop where
 len:is.length=k
 lt:∀i,i<k→aJ is i<m
 un:∀i j,i<j→j<k→aJ is i≠aJ is j
 eq:∀i j,i<j→j<k→f j i=f' (aJ is j) (aJ is i)
def gq(m:Nat) (f f':Nat→Nat→Bool) (k:Nat) (is os:List Nat):Prop:=fZ m f f' os∧∀i,i<k→aJ os i=aJ is i
theorem mT.iso(hw:dI f) (dH:dI f') {is:List Nat}(h:mT m f f' m is):fZ m f f' is:=by
 have hl:=h.len
 have g:∀i (hi:i<is.length),is[i]=aJ is i:=fun i hi=>by simp[aJ,ahr,hi]
 refine⟨A8 ?_ hl fun x hx=>?_,fun i j hi hj=>?_⟩
 ·rw[ak7,ai5]
  intro i j hi hj hij
  rw[g i hi,g j hj]
  exact h.un i j hij (by omega)
 ·obtain⟨i,hi,rfl⟩:=aiq hx
  rw[g i hi]
  exact h.lt i (by omega)
 ·rcases aiP i j with x|x|x
  ·rw[hw.sy,dH.sy];exact h.eq i j x hj
  ·subst x;rw[hw.ir,dH.ir]
  ·exact h.eq j i x hi
theorem Y9{l k:List Nat}(hl:l.length=k.length) (h:∀i,i<l.length→aJ l i=aJ k i):l=k:=by
 refine aim hl fun i h1 h2=>?_
 have:=h i h1
 simpa[aJ,ahr,h1,h2]using this
theorem mT.leaf(hw:dI f) (dH:dI f') {is:List Nat}(h:mT m f f' m is):fm m (gq m f f' m is) is :=
 ⟨⟨h.iso hw dH,fun _ _=>rfl⟩,fun ts ht tl=>by
  rw[Y9 (by rw[tl,h.len]) fun i hi=>ht.2 i (by omega)]
  exact BY _⟩
structure tO (m:Nat) (f f':Nat→Nat→Bool) (k:Nat) (is:List Nat) (a:Nat):Prop where
 un:∀i,i<k→aJ is i≠a
 dg:(List.range m).countP (f k)=(List.range m).countP (f' a)
 eq:∀i,i<k→f' a (aJ is i)=f k i
theorem mT.more{k a:Nat}{is:List Nat}(h:mT m f f' k is) (ha:a<m) (hg:tO m f f' k is a):mT m f f' (k+1) (is++[a]):=by
 have lo:∀i,i<k→aJ (is++[a]) i=aJ is i:=fun i hi=>DK (by rw[h.len];exact hi)
 have hi:aJ (is++[a]) k=a:=DL h.len.symm
 refine⟨by simp[h.len],fun i q=>?_,fun i j hij q=>?_,fun i j hij q=>?_⟩
 ·by_cases e:i=k
  ·rw[e,hi];exact ha
  ·rw[lo i (by omega)];exact h.lt i (by omega)
 ·rw[lo i (by omega)]
  by_cases e:j=k
  ·rw[e,hi];exact hg.un i (by omega)
  ·rw[lo j (by omega)];exact h.un i j hij (by omega)
 ·rw[lo i (by omega)]
  by_cases e:j=k
  ·subst e
   rw[hi];exact(hg.eq i hij).symm
  ·rw[lo j (by omega)];exact h.eq i j hij (by omega)
theorem gq.good{k:Nat}{is:List Nat}(hk:k<m) (h:gq m f f' k is os):tO m f f' k is (aJ os k) :=
 ⟨fun i hi e=>by
  rw[←h.2 i hi]at e
  have:=m9 h.1.pm (by omega) hk e
  omega,by
  rw[←xh h.1.pm (f' (aJ os k))]
  exact aiu fun j hj=>by rw[h.1.eq k j hk (ahn.mp hj)],fun i hi=>by
  rw[←h.2 i hi,←h.1.eq k i hk (by omega)]⟩
theorem gq.more{k a:Nat}{is:List Nat}(hl:is.length=k):gq m f f' (k+1) (is++[a]) os↔gq m f f' k is os∧aJ os k=a:=by
 have lo:∀i,i<k→aJ (is++[a]) i=aJ is i:=fun i hi=>DK (by rw[hl];exact hi)
 have hi:aJ (is++[a]) k=a:=DL hl.symm
 constructor
 ·rintro ⟨h1,h2⟩
  exact⟨⟨h1,fun i q=>by rw[←lo i q];exact h2 i (by omega)⟩,by rw[←hi];exact h2 k (by omega)⟩
 ·rintro ⟨⟨h1,h2⟩,h3⟩
  refine⟨h1,fun i q=>?_⟩
  by_cases e:i=k
  ·rw[e,hi,h3]
  ·rw[lo i (by omega)];exact h2 i (by omega)
theorem Pe{k a:Nat}{is:List Nat}(hl:is.length=k) (hk:k<m) (hno:∀ts,gq m f f' k is ts→¬aJ ts k<a) (h:fm m (gq m f f' (k+1) (is++[a])) os):fm m (gq m f f' k is) os :=
 ⟨((gq.more hl).mp h.1).1,fun ts hts tl=>by
  cases e:gg ts os with
  |false=>rfl
  |true =>
   exfalso
   have ho:=(gq.more hl).mp h.1
   have j7:=gI ho.1.1.pm
   obtain⟨d,q1,q2,q3⟩:=BX (by rw[tl,j7]) e
   rcases aiP d k with x|x|x
   ·rw[hts.2 d x,ho.1.2 d x]at q3;omega
   ·subst x
    rw[ho.2]at q3
    exact hno ts hts q3
   ·have:=h.2 ts ((gq.more hl).mpr ⟨hts,by rw[q2 k x];exact ho.2⟩) tl
    rw[this]at e;cases e⟩
end
end Ev
namespace Ev
open PySem L2
def aK(n:Nat) (c:Nat→Nat):D:=.lst (nD ((List.range n).map c))
theorem BG(l:List Nat):nD l=(l.map fun n:Nat=>(n:Int)).map D.int:=by simp[nD]
theorem pH(l:List Nat):gi (nD l)=some (l.map fun n:Nat=>(n:Int)):=by rw[BG,Dh]
theorem E7(n:Nat) (c:Nat→Nat):noRef (aK n c)=true:=by
 unfold aK noRef
 exact jt _
theorem ko{n u:Nat}(c:Nat→Nat) (h:u<n) (cc:aa):aH (aK n c) (.int (u:Int)) cc=.ok (.int (c u:Nat)) cc:=by
 unfold aK
 rw[g9,lU (v:=.int (c u:Nat)) (by simp[nD,h])]
theorem LV(n:Nat) (c:Nat→Nat) (cc:aa):aN [aK n c] cc=.ok (.int (n:Nat)) cc:=by
 unfold aK
 rw[Ai]
 simp[nD]
theorem Km(l m:List Int):PyData.eqvAll (l.map PyData.int) (m.map PyData.int)=decide (l=m) :=
 Ez (fun a b=>by
  have:(PyData.int a).eqv (.int b)=(a==b):=by simp[PyData.eqv]
  rw[this]
  by_cases h:a=b<;>simp[h]) l m
theorem EF:∀l:List Int,eZ (l.map D.int)=some (l.map PyData.int)
 |[]=>rfl
 |n::ns=>by
  show(match eo (.int n),eZ (ns.map D.int)with|some a,some r=>some (a::r)|_,_=>none)=_
  rw[EF ns]
  rfl
theorem EE(l:List Int):(PyData.list (l.map PyData.int)).depth≤2:=by
 have:∀l:List Int,PyData.depthAll (l.map PyData.int)≤1:=fun l=>by
  induction l with
  |nil=>simp[PyData.depthAll]
  |cons a l ih=>simp[PyData.depthAll,PyData.depth];omega
 have:=this l
 simp[PyData.depth];omega
theorem Ly(l m:List Int) (cc:aa):jd (.lst (l.map D.int)) (.lst (m.map D.int)) cc=.ok (.bl (decide (l=m))) cc:=by
 have h1:∀l:List Int,eB cc (.lst (l.map D.int))=some (.list (l.map PyData.int)):=fun l=>by
  show(match eZ (l.map D.int)with|some r=>some (PyData.list r)|none=>none)=_
  rw[EF]
 unfold jd
 rw[h1 l,h1 m]
 have a:=EE l
 have b:=EE m
 dsimp only
 rw[if_pos ⟨by omega,by omega⟩,PyData.eqv,Km]
theorem up_eq{l m:List Int}:fD l=fD m↔l.Perm m :=
 ⟨fun e=>(j6 l).symm.trans ((alQ e).trans (j6 m)),fun h=>ug ((j6 l).trans (h.trans (j6 m).symm)) (rX _) (rX _)⟩
theorem zv(l:List Nat) (d:Nat):(l.map fun n:Nat=>(n:Int)).count (d:Int)=l.count d:=by
 rw[List.count,List.count,ajc]
 refine aiu fun x _=>?_
 simp
 omega
theorem LN{l:List Nat}{a:Int}(h:a<0):(l.map fun n:Nat=>(n:Int)).count a=0:=by
 rw[List.count_eq_zero]
 intro q
 obtain⟨x,_,e⟩:=ahs.mp q
 omega
theorem Ik{l m:List Nat}:((l.map fun n:Nat=>(n:Int)).Perm (m.map fun n:Nat=>(n:Int)))↔∀d:Nat,l.count d=m.count d:=by
 rw[List.perm_iff_count]
 constructor
 ·intro h d
  have:=h (d:Int)
  rwa[zv,zv]at this
 ·intro h a
  rcases Int.lt_or_le a 0 with q|q
  ·rw[LN q,LN q]
  ·obtain⟨d,rfl⟩:=Int.eq_ofNat_of_zero_le q
   rw[zv,zv,h]
theorem adU(n:Nat) (c:Nat→Nat) (d:Nat):((List.range n).map c).count d=(List.range n).countP fun i=>decide (c i=d):=by
 rw[List.count,ajc]
 refine aiu fun x _=>?_
 simp
theorem o9{α:Type}{E:List (Option D)}{a:af}{c:aa}(g F:α→D) (l:List α) (h:∀x∈l,a (some (g x)::E) c=.ok (F x) c):bM (fun _=>True) (az 0) bg a (l.map g) (none::E) [] c=.ok (l.map F) c :=
 LP (st:=fun _=>True) trivial g F l none [] (fun _ _=>rfl) h
theorem YQ(r:List Nat) (m:Nat) (hr:r.length<1000) (cc:aa):uT [.tup (nD r),.int (m:Int)] cc=.ok (.tup (nD (r.map (m + ·)))) cc:=by
 have hs:=b8 (n:=1000) (by decide)
 refine gf (fJ (cQ (jh (items:=nD r) (l:=nD (r.map (m + ·))) rfl (by simp[nD];omega) ?_) rfl)) (by unfold noRef;exact jt _) (by simp)
 have h:=o9 (E:=[some (.int (m:Int))]) (a:=au bu (ak 1) (ak 0)) (c:=cc) (fun n:Nat=>D.int (n:Int)) (fun n:Nat=>D.int ((m+n:Nat):Int)) r (fun x _=>by simp)
 have e:dS [none,some 1] (cB 2 [.tup (nD r),.int (m:Int)])=[none,some (.int (m:Int))]:=rfl
 rw[e]
 have e2:(r.map fun n:Nat=>D.int (n:Int))=nD r:=rfl
 rw[e2]at h
 rw[h]
 simp[nD,akh]
theorem Bx{m i:Nat}(f f':Nat→Nat→Bool) (hi:i<m):cR (2*m) (F2 m f f') i=cR m f i:=by
 unfold cR
 have e:List.range (2*m)=List.range m++(List.range m).map (m + ·):=by rw[show 2*m=m+m by omega,ajt]
 rw[e,al9]
 have a:(List.range m).filter (fun k=>F2 m f f' i k)=(List.range m).filter fun k=>f i k:=ak8 fun k hk=>by
  unfold F2;rw[if_pos hi];simp[ahn.mp hk]
 have b:((List.range m).map (m + ·)).filter (fun k=>F2 m f f' i k)=[]:=by
  rw[ama]
  intro k hk
  obtain⟨j,_,rfl⟩:=ahs.mp hk
  unfold F2;rw[if_pos hi];simp;omega
 rw[a,b,ajg]
theorem XO{m:Nat}(f f':Nat→Nat→Bool) (i:Nat):cR (2*m) (F2 m f f') (m+i)=(cR m f' i).map (m + ·):=by
 unfold cR
 have e:List.range (2*m)=List.range m++(List.range m).map (m + ·):=by rw[show 2*m=m+m by omega,ajt]
 have hi:¬m+i<m:=by omega
 rw[e,al9,al3]
 have a:(List.range m).filter (fun k=>F2 m f f' (m+i) k)=[]:=by
  rw[ama]
  intro k hk
  have:=ahn.mp hk
  unfold F2;rw[if_neg hi];simp;omega
 have b:(List.range m).filter ((fun k=>F2 m f f' (m+i) k) ∘ (m + ·))=(List.range m).filter fun k=>f' i k:=ak8 fun k hk=>by
  simp only[Function.comp]
  unfold F2;rw[if_neg hi];simp
 rw[a,b,ahI]
theorem Ra(m:Nat) (f f':Nat→Nat→Bool):wF (2*m) (F2 m f f')=wF m f++(wF m f').map fun r=>r.map (m + ·):=by
 unfold wF
 have e:List.range (2*m)=List.range m++(List.range m).map (m + ·):=by rw[show 2*m=m+m by omega,ajt]
 rw[e,aiC,ahK,ahK]
 congr 1
 ·exact ah6 fun i hi=>Bx f f' (ahn.mp hi)
 ·exact ah6 fun i _=>XO f f' i
theorem Bw(m:Nat) (f:Nat→Nat→Bool) (i:Nat):(cR m f i).length≤m:=by
 have:=amb (fun k=>f i k) (List.range m)
 simpa[cR]using this
theorem Rb{m:Nat}(f f':Nat→Nat→Bool) (hm:m<60) (cc:aa):xX [aV (wF m f),aV (wF m f')] cc=.ok (aV (wF (2*m) (F2 m f f'))) cc:=by
 have hs:=b8 (n:=1000) (by decide)
 have h:=o9 (E:=[some (aV (wF m f))]) (a:=aA 2 uT (ao (ak 0) (ao (aF aN (ao (ak 1) aq)) aq))) (c:=cc) (fun r:List Nat=>D.tup (nD r)) (fun r:List Nat=>D.tup (nD (r.map (m + ·)))) (wF m f') (fun r hr=>by
  obtain⟨i,_,rfl⟩:=ahs.mp hr
  have:=Bw m f' i
  refine iA rfl (cQ rfl (lg _ _)) ?_
  rw[iD]
  exact YQ _ _ (by omega) cc)
 have e2:((wF m f').map fun r:List Nat=>D.tup (nD r)).length<sizeLine:=by rw[ahx,iD];omega
 have hd:au zx (ak 0) (aF eU (ao (aZ (jD (ak 1)) [none,some 0] (az 0) bg (aA 2 uT (ao (ak 0) (ao (aF aN (ao (ak 1) aq)) aq)))) aq)) [some (aV (wF m f)),some (aV (wF m f'))] cc=.ok (aV (wF (2*m) (F2 m f f'))) cc:=by
  refine bH (x:=aV (wF m f)) (y:=.tup ((wF m f').map fun r:List Nat=>D.tup (nD (r.map (m + ·))))) rfl (cQ (jh (items:=(wF m f').map fun r:List Nat=>D.tup (nD r)) (l:=(wF m f').map fun r:List Nat=>D.tup (nD (r.map (m + ·)))) rfl e2 ?_) rfl) ?_
  ·have e:dS [none,some 0] [some (aV (wF m f)),some (aV (wF m f'))]=[none,some (aV (wF m f))]:=rfl
   rw[e,h]
  ·show(if _ then _ else _)=_
   rw[if_pos (by simp[iD];omega),Ra]
   unfold aV
   rw[aiC,ahK]
   rfl
 exact gf (fJ hd) (Oo _) (by unfold aV;simp)
def j5(n:Nat) (F:Nat→Nat→Bool) (c:Nat→Nat) (u:Nat):Lk:=((c u:Int),fD (((cR n F u).map c).map fun n:Nat=>(n:Int)))
theorem An{n i:Nat}(F:Nat→Nat→Bool) (h:i<n) (cc:aa):aH (aV (wF n F)) (.int (i:Int)) cc=.ok (.tup (nD (cR n F i))) cc :=
 aaf (by simp[wF,h]) cc
theorem XQ{n i v:Nat}{F:Nat→Nat→Bool}(h:v∈cR n F i):v<n:=ahn.mp (aiE.mp h).1
theorem Y8(k:Lk):noRef (fz k)=true:=by
 have:bK (k.2.map D.int)=true:=gS.mpr fun d hd=>by obtain⟨i,_,rfl⟩:=ahs.mp hd;rfl
 unfold fz
 simp[noRef,bK,this]
theorem Y5{n u:Nat}(F:Nat→Nat→Bool) (c:Nat→Nat) (hn:n<60) (hu:u<n) (cc:aa):uU [aV (wF n F),aK n c,.int (u:Int)] cc=.ok (fz (j5 n F c u)) cc:=by
 have hs:=b8 (n:=1000) (by decide)
 have hl:=Bw n F u
 have h:=o9 (E:=[some (aK n c)]) (a:=au aH (ak 1) (ak 0)) (c:=cc) (fun v:Nat=>D.int (v:Int)) (fun v:Nat=>D.int ((c v:Nat):Int)) (cR n F u) (fun v hv=>bH rfl rfl (ko c (XQ hv) cc))
 have e2:((cR n F u).map fun v:Nat=>D.int (v:Int))=nD (cR n F u):=rfl
 rw[e2]at h
 refine gf (fJ (GW (bH rfl rfl (ko c hu cc)) (cQ (cQ (jh (items:=nD (cR n F u)) (l:=nD ((cR n F u).map c)) ?_ (by simp[nD];omega) ?_) (v:=.lst ((fD (((cR n F u).map c).map fun n:Nat=>(n:Int))).map D.int)) ?_) rfl))) ?_ (by unfold fz;simp)
 ·unfold jD
  rw[bH (x:=aV (wF n F)) (y:=.int (u:Int)) rfl rfl (An F hu cc)]
  rfl
 ·have e:dS [none,some 1] (cB 3 [aV (wF n F),aK n c,.int (u:Int)])=[none,some (aK n c)]:=rfl
  rw[e,h]
  simp[nD,akh]
 ·unfold mY c8
  dsimp only
  rw[pH]
  dsimp only
  rw[if_pos (by simp;omega)]
 ·exact Y8 _
theorem Y6{n u v:Nat}{F:Nat→Nat→Bool}{c:Nat→Nat}:j5 n F c u=j5 n F c v↔c u=c v∧∀d,gF n F c u d=gF n F c v d:=by
 have key:∀w d,((cR n F w).map c).count d=gF n F c w d:=fun w d=>by
  unfold cR gF
  rw[List.count,ajc,List.countP_filter]
  refine aiu fun x _=>?_
  simp[and_comm]
 unfold j5
 rw[ajq,up_eq,Ik]
 simp only[key]
 constructor
 ·rintro ⟨a,b⟩;exact⟨by omega,b⟩
 ·rintro ⟨a,b⟩;exact⟨by omega,b⟩
def iu(n:Nat) (F:Nat→Nat→Bool) (c:Nat→Nat):List Lk:=(List.range n).map (j5 n F c)
def fM(n:Nat) (F:Nat→Nat→Bool) (c:Nat→Nat):Nat→Nat:=fun u=>(eF (iu n F c)).idxOf (j5 n F c u)
theorem BU{n u:Nat}{F:Nat→Nat→Bool}{c:Nat→Nat}(h:u<n):j5 n F c u∈eF (iu n F c):=uQ.mpr (ahs.mpr ⟨u,ahn.mpr h,rfl⟩)
theorem yq(n:Nat) (F:Nat→Nat→Bool) (c:Nat→Nat):vW n F c (fM n F c):=fun u v hu hv=>by
 rw[←Y6]
 constructor
 ·intro e
  have h1:=ajO.mpr (BU (F:=F) (c:=c) hu)
  have h2:=ajO.mpr (BU (F:=F) (c:=c) hv)
  have a:=ajP h1
  have b:=ajP h2
  rw[←a,←b]
  congr 1
 ·intro e
  unfold fM
  rw[e]
theorem Ll:∀(xs ns:List Lk),(xs.foldl e9 ns).length≤ns.length+xs.length
 |[],ns=>by simp
 |x::xs,ns=>by
  have:=Ll xs (e9 ns x)
  have h2:(e9 ns x).length≤ns.length+1:=by
   unfold e9
   split<;>simp
  simp only[ajx,ahu]
  omega
theorem Qh(l:List Lk):(eF l).Nodup:=(tY l).imp fun{a b} h e=>by subst e;rw[pe]at h;cases h
theorem aaj{ks:List Lk}(hn:ks.Nodup) {k:Lk}(hk:k∈ks) (cc:aa):pD (.gm (fR ks)) (fz k) cc=.ok (.int (ks.idxOf k:Nat)) cc:=by
 have hl:=ajO.mpr hk
 have hf:(fR ks).find? (fun kv=>decide (kv.1=k))=some (k,((ks.idxOf k:Nat):Int)):=by
  rw[alB]
  refine⟨by simp,ks.idxOf k,by rw[J2];exact hl,?_,fun j hj=>?_⟩
  ·unfold fR
   rw[amc,ajP hl]
  ·unfold fR
   rw[amc]
   have:ks[j]'(by omega)≠k:=fun e=>by
    have:=(aiv hn).mp ((ajP hl).trans e.symm)
    omega
   simp[this]
 unfold pD
 rw[JJ]
 dsimp only
 rw[hf]
 dsimp only
 rw[if_pos (by rw[uZ];exact hn)]
theorem Lo{n:Nat}(F:Nat→Nat→Bool) (c:Nat→Nat) (hn:n<60) (cc:aa):nk [aV (wF n F),aK n c] cc=.ok (aK n (fM n F c)) cc:=by
 have hs:=b8 (n:=1000) (by decide)
 have h1:=o9 (E:=[some (aV (wF n F)),some (aK n c)]) (a:=aA 3 uU (ao (ak 1) (ao (ak 2) (ao (ak 0) aq)))) (c:=cc) (fun v:Nat=>D.int (v:Int)) (fun v:Nat=>fz (j5 n F c v)) (List.range n) (fun v hv=>kr rfl rfl rfl (Y5 F c hn (ahn.mp hv) cc))
 have e1:((List.range n).map fun v:Nat=>D.int (v:Int))=aM 0 (n:Int):=(oJ n).symm
 have e3:((List.range n).map fun v:Nat=>fz (j5 n F c v))=(iu n F c).map fz:=by unfold iu;rw[ahK];rfl
 rw[e1,e3]at h1
 have s1:aE 2 (aZ (bh (ao (aF aN (ao (ak 0) aq)) aq)) [none,some 0,some 1] (az 0) bg (aA 3 uU (ao (ak 1) (ao (ak 2) (ao (ak 0) aq))))) (cB 6 [aV (wF n F),aK n c]) cc=.ok (.nx [some (aV (wF n F)),some (aK n c),some (.lst ((iu n F c).map fz)),none,none,none]) cc:=by
  refine eW (jh (m8 (cQ rfl (by rw[lg,iD])) (by omega)) (wL (by omega)) h1)
 have s2:uA [some (aV (wF n F)),some (aK n c),some (.lst ((iu n F c).map fz)),none,none,none] cc=.ok (.nx [some (aV (wF n F)),some (aK n c),some (.lst ((iu n F c).map fz)),some (.gm (fR (eF (iu n F c)))),none,none]) cc:=by
  unfold uA
  simp only[List.getElem?_cons_succ,List.getElem?_cons_zero]
  rw[JF]
  dsimp only
  rw[if_pos ⟨by have:=Ll (iu n F c) [];unfold dj;simp[iu]at this ⊢;omega,rfl⟩]
  rfl
 have h2:=o9 (E:=[some (.gm (fR (eF (iu n F c))))]) (a:=au pD (ak 1) (ak 0)) (c:=cc) (fun v:Nat=>fz (j5 n F c v)) (fun v:Nat=>D.int (fM n F c v:Nat)) (List.range n) (fun v hv=>bH rfl rfl (aaj (Qh _) (BU (ahn.mp hv)) cc))
 rw[e3]at h2
 have s3:aU (aZ (cS (ak 2)) [none,some 3] (az 0) bg (au pD (ak 1) (ak 0))) [some (aV (wF n F)),some (aK n c),some (.lst ((iu n F c).map fz)),some (.gm (fR (eF (iu n F c)))),none,none] cc=.ok (.rt (aK n (fM n F c))) cc:=by
  refine fJ ?_
  unfold aK
  refine jh (AK rfl) (by simp[iu];omega) (h2.trans ?_)
  simp[nD,akh]
 refine gf ?_ (E7 _ _) (by unfold aK;simp)
 unfold tF
 rw[iW,s1]
 simp only[R.aC]
 rw[iW,s2]
 simp only[R.aC]
 exact s3
end Ev
namespace Ev
open PySem L2
def jA(m:Nat) (c:Nat→Nat):List Int:=((List.range m).map c).map fun n:Nat=>(n:Int)
def kR(m:Nat) (c:Nat→Nat):List Int:=((List.range m).map fun i=>c (m+i)).map fun n:Nat=>(n:Int)
def iG(m:Nat) (c:Nat→Nat):Bool:=decide (fD (jA m c)=fD (kR m c))
theorem AI{m:Nat}{c:Nat→Nat}:iG m c=true↔p9 m c:=by
 unfold iG jA kR p9
 rw[decide_eq_true_eq,up_eq,Ik]
 simp only[adU]
theorem two_rng(m:Nat) (c:Nat→Nat):nD ((List.range (2*m)).map c)=(jA m c).map D.int++(kR m c).map D.int:=by
 have e:List.range (2*m)=List.range m++(List.range m).map (m + ·):=by rw[show 2*m=m+m by omega,ajt]
 rw[e]
 simp[jA,kR,nD,akh]
theorem rT(m:Nat) (c:Nat→Nat):(jA m c).length=m:=by simp[jA]
theorem wZ(m:Nat) (c:Nat→Nat):(kR m c).length=m:=by simp[kR]
theorem yf{m:Nat}{d:af}{e:Ev}{cc:aa}(h:d e cc=.ok (.int ((2*m:Nat):Int)) cc):au cL d (dC (.int 2)) e cc=.ok (.int (m:Int)) cc:=by
 refine bH h rfl ?_
 rw[Gz,if_pos (by omega)]
 congr 2
 omega
theorem Hv{l:List Int}(h:l.length<64) (cc:aa):mY [.lst (l.map D.int)] cc=.ok (.lst ((fD l).map D.int)) cc:=by
 unfold mY c8
 dsimp only
 rw[Dh]
 dsimp only
 rw[if_pos h]
theorem Rg{m:Nat}(c:Nat→Nat) (hm:m<30) (cc:aa):jz [aK (2*m) c] cc=.ok (.bl (iG m c)) cc:=by
 have s1:aE 1 (au cL (aF aN (ao (ak 0) aq)) (dC (.int 2))) (cB 2 [aK (2*m) c]) cc=.ok (.nx [some (aK (2*m) c),some (.int (m:Int))]) cc :=
  eW (yf (cQ rfl (LV _ _ _)))
 have c1:cutD (nD ((List.range (2*m)).map c)) none (some (m:Int))=(jA m c).map D.int:=by
  unfold cutD
  rw[two_rng]
  simp only[HT.AR,HT.AS,ahW,ahx,rT,wZ]
  rw[show min m (m+m)-0=((jA m c).map D.int).length by simp[rT],List.drop_zero,List.take_left]
 have c2:cutD (nD ((List.range (2*m)).map c)) (some (m:Int)) none=(kR m c).map D.int:=by
  unfold cutD
  rw[two_rng]
  simp only[HT.AR,HT.AS,ahW,ahx,rT,wZ]
  rw[show min m (m+m)=((jA m c).map D.int).length by simp[rT],List.drop_left]
  exact ajN (by simp[rT,wZ])
 refine gf ?_ rfl (by simp)
 unfold tG
 rw[iW,s1]
 simp only[R.aC]
 refine fJ (bH (x:=.lst ((fD (jA m c)).map D.int)) (y:=.lst ((fD (kR m c)).map D.int)) (cQ (x:=.lst ((jA m c).map D.int)) ?_ (Hv (by rw[rT];omega) cc)) (cQ (x:=.lst ((kR m c).map D.int)) ?_ (Hv (by rw[wZ];omega) cc)) (Ly _ _ cc))
 ·rw[←c1];rfl
 ·rw[←c2];rfl
theorem acz(n:Nat) (c:Nat→Nat):kh (((List.range n).map c).map fun n:Nat=>(n:Int))=dQ n c:=by
 have key:∀k,k≤n→(PyProof.Rows.firstMet (fun i=>(((List.range n).map c).map fun n:Nat=>(n:Int)).getD i 0) k).length=(List.range k).countP (fT c):=by
  intro k
  induction k with
  |zero=>intro _;rfl
  |succ k ih =>
   intro hk
   have ih:=ih (by omega)
   have val:∀j,j<n→(((List.range n).map c).map fun n:Nat=>(n:Int)).getD j 0=(c j:Int):=fun j hj=>by
    rw[ahr];simp[hj]
   rw[PyProof.Rows.firstMet_succ,akN,ak6,←ih]
   unfold PyProof.Rows.step_dedup
   rw[PyProof.Rows.firstMet_any]
   have e:(((List.range k).map fun i=>(((List.range n).map c).map fun n:Nat=>(n:Int)).getD i 0).any (· == (((List.range n).map c).map fun n:Nat=>(n:Int)).getD k 0)) = !fT c k:=by
    rw[aiF,aj1]
    constructor
    ·rintro ⟨x,hx,e⟩
     obtain⟨j,hj,rfl⟩:=ahs.mp hx
     have hj:=ahn.mp hj
     rw[val j (by omega),val k (by omega)]at e
     have e2:(c j:Int)=(c k:Int):=by simpa using e
     have e:c j=c k:=by omega
     have:fT c k=false:=by
      cases q:fT c k with
      |false=>rfl
      |true=>exact absurd e (iw.mp q j hj)
     simp[this]
    ·intro q
     have q:¬fT c k=true:=by simpa using q
     rw[iw]at q
     have:∃j,j<k∧c j=c k:=aia fun z=>q fun j hj e=>z ⟨j,hj,e⟩
     obtain⟨j,hj,e⟩:=this
     refine⟨_,ahs.mpr ⟨j,ahn.mpr hj,rfl⟩,?_⟩
     rw[val j (by omega),val k (by omega),e]
     simp
   rw[e]
   cases q:fT c k<;>simp[q]
 have:=key n (aho n)
 unfold kh dQ
 rw[←this]
 simp
theorem JW{n:Nat}(c:Nat→Nat) (hn:n<60) {d:af}{e:Ev}{cc:aa}(h:d e cc=.ok (aK n c) cc):kj (ao d aq) e cc=.ok (.int (dQ n c:Nat)) cc:=by
 unfold kj
 simp only[bE,h,bA,R.aC]
 unfold aK c8
 dsimp only
 rw[pH]
 dsimp only
 rw[if_pos (by simp;omega),acz]
end Ev
namespace Ev
open PySem L2
section
variable {m:Nat}{f f':Nat→Nat→Bool}
theorem Lm{n:Nat}{F:Nat→Nat→Bool}{c c':Nat→Nat}(h:vW n F c c'):zL n c c':=fun u v hu hv e=>((h u v hu hv).mp e).1
structure Ref (m:Nat) (f f':Nat→Nat→Bool) (c c':Nat→Nat):Prop where
 oG:∀os,fZ m f f' os→(fj m c os↔fj m c' os)
 fin:zL (2*m) c c'
theorem Ref.refl(c:Nat→Nat):Ref m f f' c c:=⟨fun _ _=>Iff.rfl,fun _ _ _ _ e=>e⟩
theorem Ref.trans{a b c:Nat→Nat}(h:Ref m f f' a b) (g:Ref m f f' b c):Ref m f f' a c :=
 ⟨fun os i=>(h.oG os i).trans (g.oG os i),fun u v hu hv e=>h.fin u v hu hv (g.fin u v hu hv e)⟩
theorem Ref.step(c:Nat→Nat):Ref m f f' c (fM (2*m) (F2 m f f') c) :=
 ⟨fun os i=>⟨fun r=>fj.abZ i r (yq _ _ _),fun r=>fj.adY i.pm r (yq _ _ _)⟩,Lm (yq _ _ _)⟩
end
def yr:ai:=(gp (aI (aA 1 jz (ao (ak 3) aq))) (aI (au gY (kj (ao (ak 3) aq)) (kj (ao (ak 2) aq)))))
def yt:ah:=(aD (aE 2 (ak 3)) (aE 3 (aA 2 nk (ao (ak 0) (ao (ak 2) aq)))))
theorem wN{n m:Nat}(hn:n=2*m) (c:Nat→Nat) (hm:m<30) (cc:aa):jz [aK n c] cc=.ok (.bl (iG m c)) cc:=by subst hn;exact Rg c hm cc
theorem Ln{n m:Nat}(hn:n=2*m) (c c':Nat→Nat) (hm:m<30) (a b:Option D) (cc:aa):yr [a,b,some (aK n c),some (aK n c')] cc=.ok (iG m c'&&decide (dQ n c<dQ n c')) cc:=by
 unfold yr
 have h1:aI (aA 1 jz (ao (ak 3) aq)) [a,b,some (aK n c),some (aK n c')] cc=.ok (iG m c') cc:=dU (pU rfl (wN hn c' hm cc))
 have h2:aI (au gY (kj (ao (ak 3) aq)) (kj (ao (ak 2) aq))) [a,b,some (aK n c),some (aK n c')] cc=.ok (decide ((dQ n c':Int)>(dQ n c:Int))) cc:=dU (bH (JW c' (by omega) rfl) (JW c (by omega) rfl) rfl)
 have h3:decide ((dQ n c':Int)>(dQ n c:Int))=decide (dQ n c<dQ n c'):=decide_eq_decide.mpr (by omega)
 rw[tU,h1]
 simp only[R.aC]
 rw[h2,h3]
 cases iG m c'<;>rfl
theorem abU{n:Nat}{W:D}(F:Nat→Nat→Bool) (hW:W=aV (wF n F)) (c c':Nat→Nat) (hn:n<60) (b:Option D) (cc:aa):yt [some W,b,some (aK n c),some (aK n c')] cc=.ok (.nx [some W,b,some (aK n c'),some (aK n (fM n F c'))]) cc:=by
 have s1:aE 2 (ak 3) [some W,b,some (aK n c),some (aK n c')] cc=.ok (.nx [some W,b,some (aK n c'),some (aK n c')]) cc:=eW rfl
 have s2:aE 3 (aA 2 nk (ao (ak 0) (ao (ak 2) aq))) [some W,b,some (aK n c'),some (aK n c')] cc=.ok (.nx [some W,b,some (aK n c'),some (aK n (fM n F c'))]) cc:=eW (iA rfl rfl (by rw[hW];exact Lo F c' hn cc))
 unfold yt
 rw[iW,s1]
 simp only[R.aC]
 exact s2
theorem abS{n m:Nat}{W:D}{f f' F:Nat→Nat→Bool}(hW:W=aV (wF n F)) (hn:n=2*m) (hF:F=F2 m f f') (hm:m<30) (b:Option D) (cc:aa):∀(k:Nat) (c:Nat→Nat),n<k+dQ n c→∃c1,Ref m f f' c c1∧¬(iG m (fM n F c1)=true∧dQ n c1<dQ n (fM n F c1)) ∧
  jo yr yt k [some W,b,some (aK n c),some (aK n (fM n F c))] cc=.ok (.nx [some W,b,some (aK n c1),some (aK n (fM n F c1))]) cc:=by
 intro k
 induction k with
 |zero=>intro c h;have:=Jk n c;omega
 |succ k ih =>
  intro c h
  by_cases q:iG m (fM n F c)=true∧dQ n c<dQ n (fM n F c)
  ·obtain⟨c1,h1,h2,h3⟩:=ih (fM n F c) (by have:=q.2;omega)
   refine⟨c1,Ref.trans (by subst hn;subst hF;exact Ref.step c) h1,h2,?_⟩
   unfold jo
   rw[Ln hn c _ hm]
   simp only[R.aC]
   rw[if_pos (by simp[q.1,q.2]),abU F hW c _ (by omega)]
   simp only[R.aC]
   exact h3
  ·refine⟨c,Ref.refl c,q,?_⟩
   unfold jo
   rw[Ln hn c _ hm]
   simp only[R.aC]
   rw[if_neg]
   intro z
   rw[ah4,decide_eq_true_eq]at z
   exact q z
theorem abY{n m:Nat}{W:D}{f f' F:Nat→Nat→Bool}(hW:W=aV (wF n F)) (hn:n=2*m) (hF:F=F2 m f f') (hm:m<18) (c:Nat→Nat) (cc:aa):∃c',Ref m f f' c c'∧(p9 m c'→vX n F c')∧j4 [W,aK n c] cc=.ok (aK n c') cc:=by
 obtain⟨c1,h1,h2,h3⟩:=abS hW hn hF (by omega) (some (aK n c)) cc 40 c (by omega)
 refine⟨fM n F c1,h1.trans (by subst hn;subst hF;exact Ref.step c1),fun hs=>?_,?_⟩
 ·have hf:=yq n F c1
  refine acj hf (XS (Lm hf) ?_)
  rcases ais (dQ n c1) (dQ n (fM n F c1))with q|q
  ·exact absurd ⟨AI.mpr hs,q⟩ h2
  ·exact q
 ·have s1:aE 2 (ak 1) (cB 4 [W,aK n c]) cc=.ok (.nx [some W,some (aK n c),some (aK n c),none]) cc:=eW rfl
  have s2:aE 3 (aA 2 nk (ao (ak 0) (ao (ak 2) aq))) [some W,some (aK n c),some (aK n c),none] cc=.ok (.nx [some W,some (aK n c),some (aK n c),some (aK n (fM n F c))]) cc:=eW (iA rfl rfl (by rw[hW];exact Lo F c (by omega) cc))
  have hb:tE=aD (aE 2 (ak 1)) (aD (aE 3 (aA 2 nk (ao (ak 0) (ao (ak 2) aq)))) (aD (jo yr yt 40) (aU (ak 3)))):=rfl
  have s4:aU (ak 3) [some W,some (aK n c),some (aK n c1),some (aK n (fM n F c1))] cc=.ok (.rt (aK n (fM n F c1))) cc:=rfl
  refine gf ?_ (E7 _ _) (by unfold aK;simp)
  rw[hb,iW,s1]
  simp only[R.aC]
  rw[iW,s2]
  simp only[R.aC]
  rw[iW,h3]
  simp only[R.aC]
  exact s4
end Ev
namespace Ev
open PySem L2
theorem Jv:∀(l:List Int) (a:Int),a≤fL a l∧∀x∈l,x≤fL a l
 |[],a=>⟨by simp[fL],by simp⟩
 |b::l,a=>by
  unfold fL
  have h:=Jv l (if b>a then b else a)
  refine⟨?_,fun x hx=>?_⟩
  ·have:=h.1;split at this<;>split<;>omega
  ·rcases ahm.mp hx with rfl|hx
   ·have:=h.1;split at this<;>split<;>omega
   ·exact h.2 x hx
theorem Ju:∀(l:List Int) (a:Int),fL a l∈a::l
 |[],a=>by simp[fL]
 |b::l,a=>by
  unfold fL
  have h:=Ju l (if b>a then b else a)
  rcases ahm.mp h with e|h
  ·rw[e];split<;>simp
  ·simp[h]
theorem Jt:∀(l:List Int) (a:Int),fK a l≤a∧∀x∈l,fK a l≤x
 |[],a=>⟨by simp[fK],by simp⟩
 |b::l,a=>by
  unfold fK
  have h:=Jt l (if b<a then b else a)
  refine⟨?_,fun x hx=>?_⟩
  ·have:=h.1;split at this<;>split<;>omega
  ·rcases ahm.mp hx with rfl|hx
   ·have:=h.1;split at this<;>split<;>omega
   ·exact h.2 x hx
theorem Js:∀(l:List Int) (a:Int),fK a l∈a::l
 |[],a=>by simp[fK]
 |b::l,a=>by
  unfold fK
  have h:=Js l (if b<a then b else a)
  rcases ahm.mp h with e|h
  ·rw[e];split<;>simp
  ·simp[h]
theorem YV{l:List Nat}(h:l≠[]) (cc:aa):∃z:Nat,(∀x∈l,x≤z)∧uR [.lst (nD l)] cc=.ok (.int (z:Int)) cc:=by
 cases l with
 |nil=>exact absurd rfl h
 |cons a l =>
  have hm:=Ju (l.map fun n:Nat=>(n:Int)) (a:Int)
  have hg:=Jv (l.map fun n:Nat=>(n:Int)) (a:Int)
  have:∃z:Nat,fL (a:Int) (l.map fun n:Nat=>(n:Int))=(z:Int):=by
   rcases ahm.mp hm with e|e
   ·exact⟨a,e⟩
   ·obtain⟨x,_,e⟩:=ahs.mp e
    exact⟨x,e.symm⟩
  obtain⟨z,hz⟩:=this
  rw[hz]at hg
  refine⟨z,fun x hx=>?_,?_⟩
  ·rcases ahm.mp hx with rfl|hx
   ·have:=hg.1;omega
   ·have:=hg.2 (x:Int) (ahs.mpr ⟨x,hx,rfl⟩);omega
  ·show(match gi (nD (a::l))with|some (a::r)=>R.ok (D.int (fL a r)) cc|_=>R.bad)=_
   rw[pH]
   show R.ok (D.int (fL (a:Int) (l.map fun n:Nat=>(n:Int)))) cc=_
   rw[hz]
theorem YS{l:List Nat}(h:l≠[]) (cc:aa):∃z:Nat,z∈l∧(∀x∈l,z≤x)∧uP [.lst (nD l)] cc=.ok (.int (z:Int)) cc:=by
 cases l with
 |nil=>exact absurd rfl h
 |cons a l =>
  have hm:=Js (l.map fun n:Nat=>(n:Int)) (a:Int)
  have hg:=Jt (l.map fun n:Nat=>(n:Int)) (a:Int)
  have:∃z:Nat,z∈a::l∧fK (a:Int) (l.map fun n:Nat=>(n:Int))=(z:Int):=by
   rcases ahm.mp hm with e|e
   ·exact⟨a,by simp,e⟩
   ·obtain⟨x,hx,e⟩:=ahs.mp e
    exact⟨x,by simp[hx],e.symm⟩
  obtain⟨z,hz1,hz⟩:=this
  rw[hz]at hg
  refine⟨z,hz1,fun x hx=>?_,?_⟩
  ·rcases ahm.mp hx with rfl|hx
   ·have:=hg.1;omega
   ·have:=hg.2 (x:Int) (ahs.mpr ⟨x,hx,rfl⟩);omega
  ·show(match gi (nD (a::l))with|some (a::r)=>R.ok (D.int (fK a r)) cc|_=>R.bad)=_
   rw[pH]
   show R.ok (D.int (fK (a:Int) (l.map fun n:Nat=>(n:Int)))) cc=_
   rw[hz]
theorem Ir{E:List (Option D)}{a:af}{cc:aa}(g h F:Nat→D):∀(l:List Nat) (v w:Option D) (acc:List D),(∀i∈l,a (some (g i)::some (h i)::E) cc=.ok (F i) cc)→bM (fun _=>True) (fU 2 (cV (az 0) (cV (az 1) gk))) bg a (l.map fun i=>.tup [g i,h i]) (v::w::E) acc cc=.ok (acc++l.map F) cc
 |[],v,w,acc,_=>by simp
 |i::l,v,w,acc,hh=>by
  have e1:fU 2 (cV (az 0) (cV (az 1) gk)) (.tup [g i,h i]) (v::w::E) cc=.ok (some (g i)::some (h i)::E) cc:=rfl
  rw[ahv,gZ,e1,R.aC,oi,R.aC,if_pos rfl,hh i (by simp),R.aC,Ir g h F l _ _ _ (fun j hj=>hh j (by simp[hj])),ahX]
  rfl
theorem aeB{n one other:Nat}(c:Nat→Nat) (h0:0<n) (hn:n<60) (cc:aa):∃z,(∀i,i<n→c i≠z)∧rL [aK n c,.int (one:Int),.int (other:Int)] cc=.ok (aK n (gM c z one other)) cc:=by
 have hs:=b8 (n:=1000) (by decide)
 obtain⟨z,hz,hm⟩:=YV (l:=(List.range n).map c) (by intro e;have:=congrArg List.length e;simp at this;omega) cc
 refine⟨z+1,fun i hi e=>?_,?_⟩
 ·have:=hz (c i) (ahs.mpr ⟨i,ahn.mpr hi,rfl⟩);omega
 have s1:aE 3 (au bu (aF uR (ao (ak 0) aq)) (dC (.int 1))) (cB 4 [aK n c,.int (one:Int),.int (other:Int)]) cc=.ok (.nx [some (aK n c),some (.int (one:Int)),some (.int (other:Int)),some (.int ((z+1:Nat):Int))]) cc :=
  eW (bH (cQ (x:=aK n c) rfl hm) rfl (by rw[iC];congr 2))
 have en:(nD ((List.range n).map c)).mapIdx (fun i x=>D.tup [.int i,x])=(List.range n).map fun i:Nat=>D.tup [.int (i:Int),.int (c i:Nat)]:=by
  refine aim (by simp[nD]) fun i h1 h2=>?_
  simp[nD]
 have h:=Ir (E:=[some (.int ((z+1:Nat):Int)),some (.int (one:Int)),some (.int (other:Int))]) (a:=vH (aI (au inD (ak 0) (bQ (ao (ak 3) (ao (ak 4) aq))))) (ak 2) (ak 1)) (cc:=cc) (fun i=>D.int (i:Int)) (fun i=>D.int (c i:Nat)) (fun i=>D.int (gM c (z+1) one other i:Nat)) (List.range n) none none [] (fun i _=>by
  have hb:aI (au inD (ak 0) (bQ (ao (ak 3) (ao (ak 4) aq)))) [some (D.int (i:Int)),some (D.int (c i:Nat)),some (.int ((z+1:Nat):Int)),some (.int (one:Int)),some (.int (other:Int))] cc=.ok (decide (i∈[one,other])) cc:=dU (bH rfl (GW rfl rfl) (aax [one,other] i cc))
  refine(aaz hb (x:=.int ((z+1:Nat):Int)) (y:=.int (c i:Nat)) rfl rfl).trans ?_
  unfold gM
  by_cases q:i=one∨i=other
  ·rw[if_pos (by simpa using q),if_pos q]
  ·rw[if_neg (by simpa using q),if_neg q])
 refine gf ?_ (E7 _ _) (by unfold aK;simp)
 unfold sI
 rw[iW,s1]
 simp only[R.aC]
 refine fJ ?_
 unfold aK
 refine jh (items:=(List.range n).map fun i:Nat=>D.tup [.int (i:Int),.int (c i:Nat)]) ?_ (by simp;omega) (h.trans ?_)
 ·unfold EZ
  rw[←en]
  rfl
 ·simp[nD]
end Ev
namespace Ev
open PySem L2
theorem ab1{m:Nat}{p q:Nat→Bool}:(List.range m).filter p=(List.range m).filter q↔∀x,x<m→p x=q x:=by
 constructor
 ·intro h x hx
  have a:x∈(List.range m).filter p↔x∈(List.range m).filter q:=by rw[h]
  rw[aiE,aiE]at a
  simp[hx]at a
  first|exact a|(rw[aiF];exact a)
 ·intro h
  exact ak8 fun x hx=>h x (ahn.mp hx)
def twB(m:Nat) (f:Nat→Nat→Bool) (a b:Nat):Bool:=decide ((cR m f a).filter (fun x=>!decide (x=b))=(cR m f b).filter fun x=>!decide (x=a))
theorem twB_iff{m a b:Nat}{f:Nat→Nat→Bool}(hw:dI f):twB m f a b=true↔twinO m f a b:=by
 unfold twB cR twinO
 rw[decide_eq_true_eq,amd,amd,ab1]
 constructor
 ·intro h x hx h1 h2
  have:=h x hx
  simpa[h1,h2]using this
 ·intro h x hx
  by_cases h1:x=a
  ·subst h1;simp[hw.ir]
  ·by_cases h2:x=b
   ·subst h2;simp[hw.ir]
   ·simp[h1,h2,h x hx h1 h2]
theorem ach(l k:List Nat) (cc:aa):jd (.lst (nD l)) (.lst (nD k)) cc=.ok (.bl (decide (l=k))) cc:=by
 rw[BG,BG,Ly]
 congr 2
 refine decide_eq_decide.mpr ⟨fun h=>?_,fun h=>by rw[h]⟩
 exact List.map_inj_right (fun x y e=>by omega) |>.mp h
theorem tw_filt{n a b:Nat}{F:Nat→Nat→Bool}{d:af}{e:Ev}{i:Nat}{cc:aa}(hn:n<60) (h1:d e cc=.ok (.tup (nD (cR n F a))) cc) (hp:dS [none,some i] e=[none,some (.int (b:Int))]):aZ (jD d) [none,some i] (az 0) (aI (au eL (ak 0) (ak 1))) (ak 0) e cc=.ok (.lst (nD ((cR n F a).filter fun x=>!decide (x=b)))) cc:=by
 have hs:=b8 (n:=1000) (by decide)
 have hl:=Bw n F a
 refine jh (items:=nD (cR n F a)) (by unfold jD;rw[h1];rfl) (by simp[nD];omega) ?_
 rw[hp]
 have h:=su (E:=[some (.int (b:Int))]) (t:=aI (au eL (ak 0) (ak 1))) (a:=ak 0) (c:=cc) (fun v:Nat=>D.int (v:Int)) (fun v:Nat=>D.int (v:Int)) (fun x=>!decide (x=b)) (cR n F a) none [] (fun x _=>by
  have:(!decide ((x:Int)=(b:Int))) = !decide (x=b):=by rw[decide_eq_decide.mpr (show((x:Int)=(b:Int))↔x=b by omega)]
  rw[←this]
  exact dU (bH rfl rfl rfl)) (fun x _ _=>rfl)
 exact h
theorem twins_ok{n a b:Nat}{W:D}(F:Nat→Nat→Bool) (hW:W=aV (wF n F)) (hn:n<60) (ha:a<n) (hb:b<n) (cc:aa):rQ [W,.int (a:Int),.int (b:Int)] cc=.ok (.bl (twB n F a b)) cc:=by
 refine gf (fJ (bH (x:=.lst (nD ((cR n F a).filter fun x=>!decide (x=b)))) (y:=.lst (nD ((cR n F b).filter fun x=>!decide (x=a)))) (tw_filt hn (bH (x:=W) (y:=.int (a:Int)) rfl rfl (by rw[hW];exact An F ha cc)) rfl) (tw_filt hn (bH (x:=W) (y:=.int (b:Int)) rfl rfl (by rw[hW];exact An F hb cc)) rfl) (ach _ _ cc))) rfl (by simp)
theorem vo{α:Type}{i:Nat}{s:ah}{cc:aa}{env:Option D→Ev}(vd:∀v x,(env v).set i (some x)=env (some x)) (g:α→D) (P:α→Bool) (V:α→D):∀(l:List α) (v:Option D),(∀x∈l,P x=true→s (env (some (g x))) cc=.ok (.rt (V x)) cc)→(∀x∈l,P x=false→s (env (some (g x))) cc=.ok (.nx (env (some (g x)))) cc) →
  (∀x,l.find? P=some x→bS (fun _=>True) (az i) s (l.map g) (env v) cc=.ok (.rt (V x)) cc)∧(l.find? P=none→∃v',bS (fun _=>True) (az i) s (l.map g) (env v) cc=.ok (.nx (env v')) cc)
 |[],v,_,_=>⟨fun x h=>by simp at h,fun _=>⟨v,by simp⟩⟩
 |x::l,v,h1,h2=>by
  have e:az i (g x) (env v) cc=.ok (env (some (g x))) cc:=by rw[Gy,vd]
  rw[ahv,pP,e,R.aC]
  cases hp:P x with
  |true =>
   rw[h1 x (by simp) hp,R.aC,List.find?_cons_of_pos hp]
   exact⟨fun y hy=>by cases hy;rfl,fun q=>by cases q⟩
  |false =>
   rw[h2 x (by simp) hp,R.aC,List.find?_cons_of_neg (by simp[hp])]
   exact vo vd g P V l _ (fun y hy=>h1 y (by simp[hy])) (fun y hy=>h2 y (by simp[hy]))
def kq(m n:Nat) (F:Nat→Nat→Bool) (c:Nat→Nat) (p:Nat):Bool:=((List.range m).filter fun q=>decide (c q=c p)).all fun q=>twB n F p q
def sj:ah:=(br (e7 (aI (aF nV (ao (aZ (bh (ao (ak 2) aq)) [none,some 0,some 3,some 1] (az 0) (aI (au bG (au aH (ak 3) (ak 0)) (au aH (ak 3) (ak 2)))) (aA 3 rQ (ao (ak 1) (ao (ak 2) (ao (ak 0) aq))))) aq)))) (aU (ak 3)) bL)
theorem nM(x y:Nat) (cc:aa):bG (.int (x:Int)) (.int (y:Int)) cc=.ok (.bl (decide (x=y))) cc:=by
 rw[Al,decide_eq_decide.mpr (show((x:Int)=(y:Int))↔x=y by omega)]
theorem foT{n m p:Nat}{W:D}(F:Nat→Nat→Bool) (hW:W=aV (wF n F)) (hn:n=2*m) (hm:m<30) (c:Nat→Nat) (hp:p<m) (cc:aa):(e7 (aI (aF nV (ao (aZ (bh (ao (ak 2) aq)) [none,some 0,some 3,some 1] (az 0) (aI (au bG (au aH (ak 3) (ak 0)) (au aH (ak 3) (ak 2)))) (aA 3 rQ (ao (ak 1) (ao (ak 2) (ao (ak 0) aq))))) aq)))) [some W,some (aK n c),some (.int (m:Int)),some (.int (p:Int))] cc=.ok (!kq m n F c p) cc:=by
 have h:=su (E:=[some W,some (.int (p:Int)),some (aK n c)]) (t:=aI (au bG (au aH (ak 3) (ak 0)) (au aH (ak 3) (ak 2)))) (a:=aA 3 rQ (ao (ak 1) (ao (ak 2) (ao (ak 0) aq)))) (c:=cc) (fun v:Nat=>D.int (v:Int)) (fun q:Nat=>D.bl (twB n F p q)) (fun q=>decide (c q=c p)) (List.range m) none [] (fun q hq=>dU (bH (bH rfl rfl (ko c (by have:=ahn.mp hq;omega) cc)) (bH rfl rfl (ko c (by omega) cc)) (nM _ _ cc))) (fun q hq _=>kr rfl rfl rfl (twins_ok F hW (by omega) (by omega) (by have:=ahn.mp hq;omega) cc))
 have e1:((List.range m).map fun v:Nat=>D.int (v:Int))=aM 0 (m:Int):=(oJ m).symm
 rw[e1,ahI]at h
 refine oX (dU (cQ (jh (m8 rfl (by omega)) (wL (by omega)) h) ?_))
 have e2:((List.range m).filter fun q=>decide (c q=c p)).map (fun q:Nat=>D.bl (twB n F p q))=(((List.range m).filter fun q=>decide (c q=c p)).map fun q:Nat=>D.int (q:Int)).map fun d=>D.bl (match d with|.int i=>twB n F p i.toNat|_=>true):=by
  rw[ahK]
  refine ah6 fun q _=>?_
  simp
 rw[e2,M4]
 unfold kq
 rw[List.all_map]
 rfl
theorem Be{n m:Nat}{f f' F:Nat→Nat→Bool}(hn:n=2*m) (hF:F=F2 m f f') (hw:dI f) (c:Nat→Nat) {p:Nat}(hp:p<m):kq m n F c p=true↔∀q,q<m→c q=c p→twinO m f p q:=by
 have tw:∀q,q<m→(twB n F p q=true↔twinO m f p q):=fun q hq=>by
  rw[←twB_iff hw]
  unfold twB
  rw[hn,hF,Bx f f' hp,Bx f f' hq]
 unfold kq
 rw[aiL]
 constructor
 ·intro h q hq e
  exact(tw q hq).mp (h q (aiE.mpr ⟨ahn.mpr hq,by simpa using e⟩))
 ·intro h q hq
  have hq:=aiE.mp hq
  have hq1:=ahn.mp hq.1
  exact(tw q hq1).mpr (h q hq1 (by simpa using hq.2))
theorem U8{n m:Nat}{W C:D}(F:Nat→Nat→Bool) (hW:W=aV (wF n F)) (hn:n=2*m) (cc:aa):aE 2 (au cL (aF aN (ao (ak 0) aq)) (dC (.int 2))) (cB 4 [W,C]) cc=.ok (.nx [some W,some C,some (.int (m:Int)),none]) cc :=
 eW (yf (cQ (x:=W) rfl (by rw[hW,lg,iD,hn])))
def kW(W C M:D) (v:Option D):Ev:=[some W,some C,some M,v]
theorem IC{n m p:Nat}{W C:D}(F:Nat→Nat→Bool) (hW:W=aV (wF n F)) (hn:n=2*m) (hm:m<30) (c:Nat→Nat) (hC:C=aK n c) (hp:p<m) (cc:aa):sj (kW W C (.int (m:Int)) (some (.int (p:Int)))) cc=.ok (if kq m n F c p=true then .nx (kW W C (.int (m:Int)) (some (.int (p:Int))))else .rt (.int (p:Int))) cc:=by
 subst hC
 have ht:=foT F hW hn hm c hp cc
 unfold sj kW
 rw[kM,ht]
 cases kq m n F c p<;>rfl
theorem cj{s t:ah}{e e':Ev}{c c':aa}{r:R Fl}(h:s e c=.ok (.nx e') c') (h2:t e' c'=r):aD s t e c=r:=by
 rw[iW,h]
 simp only[R.aC]
 exact h2
theorem oB{s t:ah}{e:Ev}{c c':aa}{v:D}(h:s e c=.ok (.rt v) c'):aD s t e c=.ok (.rt v) c':=by
 rw[iW,h]
 simp only[R.aC]
theorem IB:tu=aD (aE 2 (au cL (aF aN (ao (ak 0) aq)) (dC (.int 2)))) (aD (b9 (bh (ao (ak 2) aq)) (az 3) sj) (aU (dC .aG))):=rfl
theorem IA{m:Nat}{W C:D}{cc:aa}(hm:m<30):bh (ao (ak 2) aq) (kW W C (.int (m:Int)) none) cc=.ok ⟨aM 0 (m:Int),fun _=>True⟩ cc:=m8 rfl (by omega)
theorem Va{m:Nat}{W C:D}{cc:aa}{v:D}(h1:aE 2 (au cL (aF aN (ao (ak 0) aq)) (dC (.int 2))) (cB 4 [W,C]) cc=.ok (.nx (kW W C (.int (m:Int)) none)) cc) (hm:m<30) (h2:bS (fun _=>True) (az 3) sj (aM 0 (m:Int)) (kW W C (.int (m:Int)) none) cc=.ok (.rt v) cc) (nr:noRef v=true) (nf:∀k,v≠.ref k):jy [W,C] cc=.ok v cc:=by
 refine gf ?_ nr nf
 rw[IB]
 exact cj h1 (oB (lO (IA hm) h2))
theorem Vb{m:Nat}{W C:D}{cc:aa}{e:Ev}(h1:aE 2 (au cL (aF aN (ao (ak 0) aq)) (dC (.int 2))) (cB 4 [W,C]) cc=.ok (.nx (kW W C (.int (m:Int)) none)) cc) (hm:m<30) (h2:bS (fun _=>True) (az 3) sj (aM 0 (m:Int)) (kW W C (.int (m:Int)) none) cc=.ok (.nx e) cc):jy [W,C] cc=.ok .aG cc:=by
 refine gf ?_ rfl (by simp)
 rw[IB]
 exact cj h1 (cj (lO (IA hm) h2) (fJ rfl))
theorem U9{n m:Nat}{W C:D}{f f' F:Nat→Nat→Bool}(hW:W=aV (wF n F)) (hn:n=2*m) (hF:F=F2 m f f') (hm:m<30) (hw:dI f) (c:Nat→Nat) (hC:C=aK n c) (cc:aa) :
  (jy [W,C] cc=.ok .aG cc∧∀p q,p<m→q<m→c p=c q→twinO m f p q)∨(∃one,one<m∧jy [W,C] cc=.ok (.int (one:Int)) cc∧(∀p q,p<one→q<m→c q=c p→twinO m f p q)∧∃q,q<m∧c q=c one∧¬twinO m f one q):=by
 have hf:=vo (i:=3) (s:=sj) (cc:=cc) (env:=kW W C (.int (m:Int))) (fun v x=>rfl) (fun v:Nat=>D.int (v:Int)) (fun p=>!kq m n F c p) (fun v:Nat=>D.int (v:Int)) (List.range m) none (fun p hp h=>by
  rw[IC F hW hn hm c hC (ahn.mp hp),if_neg (by simpa using h)]) (fun p hp h=>by
  rw[IC F hW hn hm c hC (ahn.mp hp),if_pos (by simpa using h)])
 have e1:((List.range m).map fun v:Nat=>D.int (v:Int))=aM 0 (m:Int):=(oJ m).symm
 rw[e1]at hf
 have s1:=U8 (C:=C) F hW hn cc
 cases q:(List.range m).find? (fun p=>!kq m n F c p)with
 |none =>
  left
  obtain⟨v',h2⟩:=hf.2 q
  have hall:=aj4.mp q
  refine⟨Vb s1 hm h2,fun p r hp hr e=>?_⟩
  have:=hall p (ahn.mpr hp)
  simp at this
  exact(Be hn hF hw c hp).mp this r hr e.symm
 |some one =>
  right
  have h2:=hf.1 one q
  obtain⟨h3,⟨as,bs,h4,h5⟩⟩:=List.find?_eq_some_iff_append.mp q
  have hone:one<m:=ahn.mp (by rw[h4];simp)
  refine⟨one,hone,Va s1 hm h2 rfl (by simp),fun p r hp hr e=>?_,?_⟩
  ·have gj:p∈as:=by
    have a1:as.length=one:=by
     have h6:(List.range m)[as.length]? = some one:=by rw[h4];simp
     rw[aki (by
      have:=congrArg List.length h4
      simp at this;omega)]at h6
     simpa using h6
    have h7:(List.range m)[p]? = some p:=aki (by omega)
    rw[h4,ah1 (by omega)]at h7
    exact ahL h7
   have:=h5 p gj
   have this:kq m n F c p=true:=by simpa using this
   exact(Be hn hF hw c (by omega)).mp this r hr e
  ·have:¬kq m n F c one=true:=by simpa using h3
   rw[Be hn hF hw c hone]at this
   exact aia fun z=>this fun r hr e=>aia fun y=>z ⟨r,hr,e,y⟩
end Ev
namespace Ev
open PySem L2
theorem Xv{k:Nat}{l:List Nat}{cc:aa}(h:cc[k]? = some (.lst (nD l))) (x:Nat):iJ (.int (x:Int)) (.ref k) cc=.ok (.bl (!decide (x∈l))) cc:=by
 have h1:eB cc (.int (x:Int))=some (.int (x:Int)):=rfl
 have h2:eB cc (.ref k)=some (.list (l.map fun n:Nat=>PyData.int (n:Int))):=by
  unfold eB
  simp only[h]
  rw[zg]
 unfold iJ
 rw[h1,h2]
 dsimp only
 rw[if_pos (by simp[PyData.depth]),F9]
theorem BN{l:List Nat}{o:Nat}:o∈l↔∃j,j<l.length∧aJ l j=o:=by
 constructor
 ·intro h
  obtain⟨i,hi,e⟩:=aiq h
  exact⟨i,hi,by simpa[aJ,ahr,hi]using e⟩
 ·rintro ⟨j,hj,rfl⟩
  have:aJ l j=l[j]:=by simp[aJ,ahr,hj]
  rw[this];exact ail _
def xJ:ah:=(aD (aE 4 (aZ (bh (ao (ak 1) aq)) [none,some 0,some 3,some 1] (az 0) (aI (au bG (au aH (ak 1) (au bu (ak 3) (ak 0))) (au aH (ak 1) (ak 2)))) (ak 0))) (cJ (lS (ak 2) (aF uP (ao (aZ (cS (ak 4)) [none,some 2] (az 0) (aI (au iJ (ak 0) (ak 1))) (ak 0)) aq)))))
theorem Xi{n m p k:Nat}{os:List Nat}{c:Nat→Nat}{cc:aa}{w:Option D}(hn:n=2*m) (hm:m<30) (hp:p<m) (hs:p9 m c) (ho:iS m c p os) (hk:cc[k]? = some (.lst (nD os))) :
  ∃a w',iS m c (p+1) (os++[a])∧xJ [some (aK n c),some (.int (m:Int)),some (.ref k),some (.int (p:Int)),w] cc=.ok (.nx [some (aK n c),some (.int (m:Int)),some (.ref k),some (.int (p:Int)),w']) (cc.set k (.lst (nD (os++[a])))):=by
 have hsl:=b8 (n:=1000) (by decide)
 have h:=su (E:=[some (aK n c),some (.int (p:Int)),some (.int (m:Int))]) (t:=aI (au bG (au aH (ak 1) (au bu (ak 3) (ak 0))) (au aH (ak 1) (ak 2)))) (a:=ak 0) (c:=cc) (fun v:Nat=>D.int (v:Int)) (fun v:Nat=>D.int (v:Int)) (fun o=>decide (c (m+o)=c p)) (List.range m) none [] (fun q hq=>dU (bH (bH (y:=.int ((m+q:Nat):Int)) rfl (bH rfl rfl (by rw[iC];congr 2)) (ko c (by have:=ahn.mp hq;omega) cc)) (bH rfl rfl (ko c (by omega) cc)) (nM _ _ cc))) (fun _ _ _=>rfl)
 have e1:((List.range m).map fun v:Nat=>D.int (v:Int))=aM 0 (m:Int):=(oJ m).symm
 rw[e1,ahI]at h
 have s1:aE 4 (aZ (bh (ao (ak 1) aq)) [none,some 0,some 3,some 1] (az 0) (aI (au bG (au aH (ak 1) (au bu (ak 3) (ak 0))) (au aH (ak 1) (ak 2)))) (ak 0)) [some (aK n c),some (.int (m:Int)),some (.ref k),some (.int (p:Int)),w] cc=.ok (.nx [some (aK n c),some (.int (m:Int)),some (.ref k),some (.int (p:Int)),some (.lst (nD ((List.range m).filter fun o=>decide (c (m+o)=c p))))]) cc :=
  eW (jh (m8 rfl (by omega)) (wL (by omega)) h)
 have h2:=su (E:=[some (.ref k)]) (t:=aI (au iJ (ak 0) (ak 1))) (a:=ak 0) (c:=cc) (fun v:Nat=>D.int (v:Int)) (fun v:Nat=>D.int (v:Int)) (fun o=>!decide (o∈os)) ((List.range m).filter fun o=>decide (c (m+o)=c p)) none [] (fun q hq=>dU (bH rfl rfl (Xv hk q))) (fun _ _ _=>rfl)
 rw[ahI]at h2
 obtain⟨o,o1,o2,o3⟩:=ho.ex hs hp
 have Bh:∀x,x∈((List.range m).filter fun o=>decide (c (m+o)=c p)).filter (fun o=>!decide (o∈os))↔x<m∧c (m+x)=c p∧∀j,j<p→aJ os j≠x:=fun x=>by
  rw[aiE,aiE,ahn]
  have:(!decide (x∈os))=true↔∀j,j<p→aJ os j≠x:=by
   rw[ame,decide_eq_false_iff_not,BN,ho.len]
   exact⟨fun z j hj e=>z ⟨j,hj,e⟩,fun z ⟨j,hj,e⟩=>z j hj e⟩
  rw[this,decide_eq_true_eq,and_assoc]
 obtain⟨a,a1,a2,a3⟩:=YS (l:=((List.range m).filter fun o=>decide (c (m+o)=c p)).filter fun o=>!decide (o∈os)) (fun e=>by
  have:=(Bh o).mpr ⟨o1,o2,o3⟩
  rw[e]at this
  simp at this) cc
 have am:=(Bh a).mp a1
 refine⟨a,some (.lst (nD ((List.range m).filter fun o=>decide (c (m+o)=c p)))),ho.more am.1 am.2.1 am.2.2 fun x h1 h2 h3=>a2 x ((Bh x).mpr ⟨h1,h2,h3⟩),?_⟩
 unfold xJ
 refine cj s1 ?_
 have hl:(((List.range m).filter fun o=>decide (c (m+o)=c p)).map fun v:Nat=>D.int (v:Int)).length<sizeLine:=by
  have:=amb (fun o=>decide (c (m+o)=c p)) (List.range m)
  simp at this ⊢;omega
 have e3:nD (os++[a])=nD os++[.int (a:Int)]:=by simp[nD]
 rw[e3]
 refine vz (aeA rfl (cQ (jh (AK rfl) hl h2) a3) hk (by have:=ho.len;simp[nD];omega) rfl)
theorem aej{n m:Nat}{c:Nat→Nat}(hn:n=2*m) (hm:m<30) (hs:p9 m c) (cc:aa):∃os,iS m c m os∧uS [aK n c] cc=.ok (.tup (nD os)) cc:=by
 have s1:aE 1 (au cL (aF aN (ao (ak 0) aq)) (dC (.int 2))) (cB 5 [aK n c]) cc=.ok (.nx [some (aK n c),some (.int (m:Int)),none,none,none]) cc :=
  eW (yf (cQ (x:=aK n c) rfl (by rw[LV,hn])))
 have s2:aE 2 (fh aq) [some (aK n c),some (.int (m:Int)),none,none,none] cc=.ok (.nx [some (aK n c),some (.int (m:Int)),some (.ref cc.length),none,none]) (cc++[.lst []]):=rfl
 have hrl:(aM 0 (m:Int)).length=m:=by rw[dY];omega
 obtain⟨e',c3,⟨os,v,w,rfl,rfl,ho⟩,hf⟩:=nK (g:=az 3) (s:=xJ) (fun k e c'=>∃os v w,e=[some (aK n c),some (.int (m:Int)),some (.ref cc.length),v,w]∧c'=cc++[.lst (nD os)]∧iS m c k os)
  (aM 0 (m:Int)) 0 [some (aK n c),some (.int (m:Int)),some (.ref cc.length),none,none] (cc++[.lst []]) ⟨[],none,none,rfl,rfl,⟨rfl,fun i h=>by omega,fun i j h1 h2=>by omega,fun i h=>by omega,fun i o h=>by omega⟩⟩ (fun i x hx e c' ⟨os,v,w,he,hc,ho⟩=>by
   subst he;subst hc
   obtain⟨hi,hx⟩:=jS hx
   subst hx
   have hi:i<m:=by omega
   rw[ahM]at ho ⊢
   obtain⟨a,w',h1,h2⟩:=Xi (w:=w) (cc:=cc++[.lst (nD os)]) (k:=cc.length) hn hm hi hs ho (by simp)
   have e0:((0:Int)+(i:Int))=(i:Int):=by omega
   rw[e0]
   exact⟨_,_,_,_,rfl,h2,os++[a],some (.int (i:Int)),w',rfl,by simp,h1⟩)
 rw[hrl,ahM]at ho
 refine⟨os,ho,?_⟩
 have hb:sM=aD (aE 1 (au cL (aF aN (ao (ak 0) aq)) (dC (.int 2)))) (aD (aE 2 (fh aq)) (aD (b9 (bh (ao (ak 1) aq)) (az 3) xJ) (aU (aF eU (ao (ak 2) aq))))):=rfl
 have hr:bh (ao (ak 1) aq) [some (aK n c),some (.int (m:Int)),some (.ref cc.length),none,none] (cc++[.lst []])=.ok ⟨aM 0 (m:Int),fun _=>True⟩ (cc++[.lst []]):=m8 rfl (by omega)
 have s4:aU (aF eU (ao (ak 2) aq)) [some (aK n c),some (.int (m:Int)),some (.ref cc.length),v,w] (cc++[.lst (nD os)])=.ok (.rt (.tup (nD os))) (cc++[.lst (nD os)]):=by
  refine fJ (cQ rfl ?_)
  unfold eU gv
  simp
 refine abT (d:=[.lst (nD os)]) ?_ (jt os)
 rw[hb]
 exact cj s1 (cj s2 (cj (lO hr hf) s4))
end Ev
namespace Ev
open PySem L2
theorem HJ{m b:Nat}{l1 l2:List Nat}(h:List.range m=l1++b::l2):b<m∧∀a,a<b→a∈l1:=by
 have hb:b<m:=ahn.mp (by rw[h];simp)
 refine⟨hb,fun a ha=>?_⟩
 have a1:l1.length=b:=by
  have h6:(List.range m)[l1.length]? = some b:=by rw[h];simp
  rw[aki (by have:=congrArg List.length h;simp at this;omega)]at h6
  simpa using h6
 have h7:(List.range m)[a]? = some a:=aki (by omega)
 rw[h,ah1 (by omega)]at h7
 exact ahL h7
theorem DT{α β:Type}{i:Nat}{s:ah}{cc:aa}{env:Option D→β→Ev}(vd:∀v w x,(env v w).set i (some x)=env (some x) w) (g:α→D) (N:α→Prop) (H:α→D→Prop):∀(l:List α) (v:Option D) (w:β),
  (∀b∈l,∀w,(∃w',s (env (some (g b)) w) cc=.ok (.nx (env (some (g b)) w')) cc∧N b)∨(∃x,s (env (some (g b)) w) cc=.ok (.rt x) cc∧H b x)) →
  ((∀b∈l,N b)∧∃v' w',bS (fun _=>True) (az i) s (l.map g) (env v w) cc=.ok (.nx (env v' w')) cc)∨(∃l1 b l2 x,l=l1++b::l2∧(∀a∈l1,N a)∧H b x∧bS (fun _=>True) (az i) s (l.map g) (env v w) cc=.ok (.rt x) cc)
 |[],v,w,_=>.inl ⟨fun b hb=>by simp at hb,v,w,by simp⟩
 |b::l,v,w,h=>by
  have e:az i (g b) (env v w) cc=.ok (env (some (g b)) w) cc:=by rw[Gy,vd]
  rw[ahv,pP,e,R.aC]
  rcases h b (by simp) w with⟨w',h1,h2⟩|⟨x,h1,h2⟩
  ·rw[h1,R.aC]
   dsimp only
   rcases DT vd g N H l (some (g b)) w' fun a ha=>h a (by simp[ha])with⟨h3,v',w'',h4⟩|⟨l1,a,l2,x,h3,h4,h5,h6⟩
   ·exact .inl ⟨fun a ha=>by
     rcases ahm.mp ha with rfl|ha
     ·exact h2
     ·exact h3 a ha,v',w'',h4⟩
   ·refine .inr ⟨b::l1,a,l2,x,by rw[h3];rfl,fun y hy=>?_,h5,h6⟩
    rcases ahm.mp hy with rfl|hy
    ·exact h2
    ·exact h4 y hy
  ·rw[h1,R.aC]
   exact .inr ⟨[],b,l,x,rfl,fun y hy=>by simp at hy,h2,rfl⟩
def iz(W C F O:D) (v w:Option D):Ev:=[some W,some C,some F,some O,v,w]
def vp(M:List D→aa→R D):ah:=(br (aI (au bG (au aH (ak 2) (ak 4)) (au aH (ak 2) (ak 3)))) (aD (aE 5 (aA 2 M (ao (ak 0) (ao (aA 3 rL (ao (ak 2) (ao (ak 3) (ao (ak 4) aq)))) aq)))) (br (aI (au lz (ak 5) (dC .aG))) (aU (ak 5)) bL)) bL)
theorem DW(M:List D→aa→R D):jF M=aD (aE 2 (aA 2 j4 (ao (ak 0) (ao (ak 1) aq)))) (aD (br (e7 (aI (aA 1 jz (ao (ak 2) aq)))) (aU (dC .aG)) bL) (aD (aE 3 (aA 2 jy (ao (ak 0) (ao (ak 2) aq)))) (aD (br (aI (au ja (ak 3) (dC .aG))) (aU (aA 1 uS (ao (ak 2) aq))) bL) (aD (b9 (ff (ao (au cL (aF aN (ao (ak 0) aq)) (dC (.int 2))) (ao (aF aN (ao (ak 0) aq)) aq))) (az 4) (vp M)) (aU (dC .aG)))))):=rfl
theorem lE{t:ai}{s u:ah}{e:Ev}{c c':aa}{r:R Fl}(h:t e c=.ok true c') (h2:s e c'=r):br t s u e c=r:=by
 rw[kM,h]
 simp only[R.aC]
 rw[if_pos trivial];exact h2
theorem gK{t:ai}{s u:ah}{e:Ev}{c c':aa}{r:R Fl}(h:t e c=.ok false c') (h2:u e c'=r):br t s u e c=r:=by
 rw[kM,h]
 simp only[R.aC]
 rw[if_neg (by decide)];exact h2
theorem ab2{M:List D→aa→R D}{W C Fc:D}{n one o:Nat}{c:Nat→Nat}(hF:Fc=aK n c) (h1:one<n) (ho:o<n) (hne:c o≠c one) (w:Option D) (cc:aa):vp M (iz W C Fc (.int (one:Int)) (some (.int (o:Int))) w) cc=.ok (.nx (iz W C Fc (.int (one:Int)) (some (.int (o:Int))) w)) cc:=by
 have ht:aI (au bG (au aH (ak 2) (ak 4)) (au aH (ak 2) (ak 3))) (iz W C Fc (.int (one:Int)) (some (.int (o:Int))) w) cc=.ok (decide (c o=c one)) cc :=
  dU (bH (bH (x:=Fc) (y:=.int (o:Int)) rfl rfl (by rw[hF];exact ko c ho cc)) (bH (x:=Fc) (y:=.int (one:Int)) rfl rfl (by rw[hF];exact ko c h1 cc)) (nM _ _ cc))
 rw[decide_eq_false hne]at ht
 exact gK ht rfl
theorem Lv{M:List D→aa→R D}{W C Fc A x:D}{n one o:Nat}{c:Nat→Nat}(hF:Fc=aK n c) (h1:one<n) (ho:o<n) (he:c o=c one) (w:Option D) (cc:aa) (ha:rL [Fc,.int (one:Int),.int (o:Int)] cc=.ok A cc) (hM:M [W,A] cc=.ok x cc):vp M (iz W C Fc (.int (one:Int)) (some (.int (o:Int))) w) cc=.ok (if fE x=true then .nx (iz W C Fc (.int (one:Int)) (some (.int (o:Int))) (some x))else .rt x) cc:=by
 have ht:aI (au bG (au aH (ak 2) (ak 4)) (au aH (ak 2) (ak 3))) (iz W C Fc (.int (one:Int)) (some (.int (o:Int))) w) cc=.ok (decide (c o=c one)) cc :=
  dU (bH (bH (x:=Fc) (y:=.int (o:Int)) rfl rfl (by rw[hF];exact ko c ho cc)) (bH (x:=Fc) (y:=.int (one:Int)) rfl rfl (by rw[hF];exact ko c h1 cc)) (nM _ _ cc))
 rw[decide_eq_true he]at ht
 have s1:aE 5 (aA 2 M (ao (ak 0) (ao (aA 3 rL (ao (ak 2) (ao (ak 3) (ao (ak 4) aq)))) aq))) (iz W C Fc (.int (one:Int)) (some (.int (o:Int))) w) cc=.ok (.nx (iz W C Fc (.int (one:Int)) (some (.int (o:Int))) (some x))) cc :=
  eW (iA (x:=W) (y:=A) rfl (kr (x:=Fc) (y:=.int (one:Int)) (z:=.int (o:Int)) rfl rfl rfl ha) hM)
 have s2:aI (au lz (ak 5) (dC .aG)) (iz W C Fc (.int (one:Int)) (some (.int (o:Int))) (some x)) cc=.ok (!fE x) cc:=dU (bH (x:=x) rfl rfl rfl)
 refine lE ht (cj s1 ?_)
 cases hx:fE x with
 |true =>
  rw[hx]at s2
  exact gK s2 rfl
 |false =>
  rw[hx]at s2
  exact lE s2 (fJ rfl)
section
variable {n m:Nat}{W:D}{f f' F:Nat→Nat→Bool}
theorem ab3{M:List D→aa→R D}{C:D}{c':Nat→Nat}{cc:aa}(hn:n=2*m) (hm:m<18) (h1:j4 [W,C] cc=.ok (aK n c') cc) (hs:iG m c'=false):bW 6 false (jF M) [W,C] cc=.ok .aG cc:=by
 have s1:aE 2 (aA 2 j4 (ao (ak 0) (ao (ak 1) aq))) (cB 6 [W,C]) cc=.ok (.nx [some W,some C,some (aK n c'),none,none,none]) cc:=eW (iA (x:=W) (y:=C) rfl rfl h1)
 have s2:e7 (aI (aA 1 jz (ao (ak 2) aq))) [some W,some C,some (aK n c'),none,none,none] cc=.ok (!false) cc:=oX (dU (pU (x:=aK n c') rfl (by rw[←hs];exact wN hn c' (by omega) cc)))
 refine gf ?_ rfl (by simp)
 rw[DW]
 exact cj s1 (oB (lE s2 (fJ rfl)))
theorem ab4{M:List D→aa→R D}{C:D}{c':Nat→Nat}{cc:aa}{os:List Nat}(hn:n=2*m) (hm:m<18) (h1:j4 [W,C] cc=.ok (aK n c') cc) (hs:iG m c'=true) (h2:jy [W,aK n c'] cc=.ok .aG cc) (h3:uS [aK n c'] cc=.ok (.tup (nD os)) cc):bW 6 false (jF M) [W,C] cc=.ok (.tup (nD os)) cc:=by
 have s1:aE 2 (aA 2 j4 (ao (ak 0) (ao (ak 1) aq))) (cB 6 [W,C]) cc=.ok (.nx [some W,some C,some (aK n c'),none,none,none]) cc:=eW (iA (x:=W) (y:=C) rfl rfl h1)
 have s2:e7 (aI (aA 1 jz (ao (ak 2) aq))) [some W,some C,some (aK n c'),none,none,none] cc=.ok (!true) cc:=oX (dU (pU (x:=aK n c') rfl (by rw[←hs];exact wN hn c' (by omega) cc)))
 have s3:aE 3 (aA 2 jy (ao (ak 0) (ao (ak 2) aq))) [some W,some C,some (aK n c'),none,none,none] cc=.ok (.nx [some W,some C,some (aK n c'),some .aG,none,none]) cc:=eW (iA (x:=W) (y:=aK n c') rfl rfl h2)
 have s4:aI (au ja (ak 3) (dC .aG)) [some W,some C,some (aK n c'),some .aG,none,none] cc=.ok true cc:=dU (bH (x:=.aG) rfl rfl rfl)
 refine gf ?_ (by unfold noRef;exact jt os) (by simp)
 rw[DW]
 exact cj s1 (cj (gK s2 rfl) (cj s3 (oB (lE s4 (fJ (pU (x:=aK n c') rfl h3))))))
theorem Lu{M:List D→aa→R D}{C:D}{c':Nat→Nat}{cc:aa}{one:Nat}{x:D}{r:R Fl}(F:Nat→Nat→Bool) (hW:W=aV (wF n F)) (hn:n=2*m) (hm:m<18) (h1:j4 [W,C] cc=.ok (aK n c') cc) (hs:iG m c'=true) (h2:jy [W,aK n c'] cc=.ok (.int (one:Int)) cc) (h3:bS (fun _=>True) (az 4) (vp M) ((List.range m).map fun b:Nat=>D.int ((m+b:Nat):Int)) (iz W C (aK n c') (.int (one:Int)) none none) cc=r) (hr:r=.ok (.rt x) cc∨(x=.aG∧∃e,r=.ok (.nx e) cc)) (nr:noRef x=true) (nf:∀k,x≠.ref k):bW 6 false (jF M) [W,C] cc=.ok x cc:=by
 have s1:aE 2 (aA 2 j4 (ao (ak 0) (ao (ak 1) aq))) (cB 6 [W,C]) cc=.ok (.nx [some W,some C,some (aK n c'),none,none,none]) cc:=eW (iA (x:=W) (y:=C) rfl rfl h1)
 have s2:e7 (aI (aA 1 jz (ao (ak 2) aq))) [some W,some C,some (aK n c'),none,none,none] cc=.ok (!true) cc:=oX (dU (pU (x:=aK n c') rfl (by rw[←hs];exact wN hn c' (by omega) cc)))
 have s3:aE 3 (aA 2 jy (ao (ak 0) (ao (ak 2) aq))) [some W,some C,some (aK n c'),none,none,none] cc=.ok (.nx (iz W C (aK n c') (.int (one:Int)) none none)) cc:=eW (iA (x:=W) (y:=aK n c') rfl rfl h2)
 have s4:aI (au ja (ak 3) (dC .aG)) (iz W C (aK n c') (.int (one:Int)) none none) cc=.ok false cc:=dU (bH (x:=.int (one:Int)) rfl rfl rfl)
 have hl:∀e:Ev,e[0]? = some (some W)→aF aN (ao (ak 0) aq) e cc=.ok (.int ((2*m:Nat):Int)) cc:=fun e he=>cQ (x:=W) (by rw[bD,he]) (by rw[hW,lg,iD,hn])
 have er:aM (m:Int) ((2*m:Nat):Int)=(List.range m).map fun b:Nat=>D.int ((m+b:Nat):Int):=by
  unfold aM
  rw[show(((2*m:Nat):Int)-(m:Int)).toNat=m by omega]
  exact ah6 fun b _=>by congr 1
 have s5:ff (ao (au cL (aF aN (ao (ak 0) aq)) (dC (.int 2))) (ao (aF aN (ao (ak 0) aq)) aq)) (iz W C (aK n c') (.int (one:Int)) none none) cc=.ok ⟨(List.range m).map fun b:Nat=>D.int ((m+b:Nat):Int),fun _=>True⟩ cc:=by
  rw[←er]
  exact R5 (yf (hl _ rfl)) (hl _ rfl) (by omega) (by omega)
 refine gf ?_ nr nf
 rw[DW]
 refine cj s1 (cj (gK s2 rfl) (cj s3 (cj (gK s4 rfl) ?_)))
 rcases hr with e|⟨e1,e,e2⟩
 ·exact oB (lO s5 (h3.trans e))
 ·rw[e1]
  exact cj (lO s5 (h3.trans e2)) (fJ rfl)
theorem abX(hW:W=aV (wF n F)) (hn:n=2*m) (hF:F=F2 m f f') (h0:0<m) (hm:m<18) (hw:dI f) (dH:dI f') (cc:aa):∀(k:Nat) (c:Nat→Nat),m+1≤k+dQ m c →
  (iM k [W,aK n c] cc=.ok .aG cc∧∀os,¬gO m f f' c os)∨(∃os,iM k [W,aK n c] cc=.ok (.tup (nD os)) cc∧fm m (gO m f f' c) os):=by
 intro k
 induction k with
 |zero=>intro c h;have:=Jk m c;omega
 |succ k ih =>
  intro c h
  show(bW 6 false (jF (iM k)) [W,aK n c] cc=.ok .aG cc∧_)∨(∃os,bW 6 false (jF (iM k)) [W,aK n c] cc=.ok (.tup (nD os)) cc∧_)
  obtain⟨c',ref,eqt,nG⟩:=abY hW hn hF hm c cc
  have ye:∀os,gO m f f' c' os↔gO m f f' c os:=fun os=>⟨fun x=>⟨x.1,(ref.oG os x.1).mpr x.2⟩,fun x=>⟨x.1,(ref.oG os x.1).mp x.2⟩⟩
  cases hs:iG m c' with
  |false =>
   refine .inl ⟨ab3 hn hm nG hs,fun os ho=>?_⟩
   have:=AI.mpr (fj.shr ho.1.pm ((ye os).mpr ho).2)
   rw[hs]at this;cases this
  |true =>
   have hsh:=AI.mp hs
   have hq:vX (2*m) (F2 m f f') c':=by rw[←hn,←hF];exact eqt hsh
   rcases U9 hW hn hF (by omega) hw c' rfl cc with⟨ho,ht⟩|⟨one,h1,ho,hcl,hop⟩
   ·obtain⟨os,hob,hby⟩:=aej hn (by omega) hsh cc
    exact .inr ⟨os,ab4 hn hm nG hs ho hby,(hob.first hw dH hq ht).congr ye⟩
   ·have Aw:=DT (i:=4) (s:=vp (iM k)) (cc:=cc) (env:=iz W (aK n c) (aK n c') (.int (one:Int))) (fun v w x=>rfl) (fun b:Nat=>D.int ((m+b:Nat):Int)) (fun b=>∀ts,gO m f f' c' ts→aJ ts one≠b) (fun b x=>∃os,x=.tup (nD os)∧fm m (fun ts=>gO m f f' c' ts∧aJ ts one=b) os) (List.range m) none none (fun b hb w=>by
     have hb:=ahn.mp hb
     by_cases he:c' (m+b)=c' one
     ·obtain⟨z,hz,ha⟩:=aeB (one:=one) (other:=m+b) c' (show 0<n by omega) (by omega) cc
      have hz':∀i,i<2*m→c' i≠z:=fun i hi=>hz i (by omega)
      have hap:∀ts,gO m f f' (gM c' z one (m+b)) ts↔gO m f f' c' ts∧aJ ts one=b:=fun ts=>⟨fun x=>by
        have:=(MY hz' h1 hb x.1.pm he).mp x.2
        exact⟨⟨x.1,this.1⟩,this.2⟩,fun x=>⟨x.1.1,(MY hz' h1 hb x.1.1.pm he).mpr ⟨x.1.2,x.2⟩⟩⟩
      obtain⟨q,q1,q2,q3⟩:=hop
      have hqn:q≠one:=fun e=>q3 (by subst e;exact fun x _ _ _=>rfl)
      have n1:=XU (z:=z) (other:=m+b) (fun i hi=>hz i (by omega)) h1 (by omega) q1 hqn q2
      have n2:dQ m c≤dQ m c':=XT fun u v hu hv e=>ref.fin u v (by omega) (by omega) e
      rcases ih (gM c' z one (m+b)) (by omega)with⟨r1,r2⟩|⟨os,r1,r2⟩
      ·refine .inl ⟨some .aG,?_,fun ts ht e=>r2 ts ((hap ts).mpr ⟨ht,e⟩)⟩
       exact Lv rfl (by omega) (by omega) he w cc ha r1
      ·refine .inr ⟨.tup (nD os),?_,os,rfl,r2.congr hap⟩
       exact Lv rfl (by omega) (by omega) he w cc ha r1
     ·exact .inl ⟨w,ab2 rfl (by omega) (by omega) he w cc,fun ts ht e=>he (by rw[←e];exact(ht.2 one h1).symm)⟩)
    rcases Aw with⟨hno,v',w',hf⟩|⟨l1,b,l2,x,hl,hno,⟨os,rfl,hmin⟩,hf⟩
    ·refine .inl ⟨Lu F hW hn hm nG hs ho hf (.inr ⟨rfl,_,rfl⟩) rfl (by simp),fun os ho=>?_⟩
     have ho:=(ye os).mpr ho
     exact hno _ (ahn.mpr (gR ho.1.pm h1)) os ho rfl
    ·obtain⟨hb,ve⟩:=HJ hl
     refine .inr ⟨os,Lu F hW hn hm nG hs ho hf (.inl rfl) (by unfold noRef;exact jt os) (by simp),fm.congr ye ?_⟩
     exact Qe hw dH h1 hb hcl hop (fun ts ht hlt=>hno _ (ve _ hlt) ts ht rfl) hmin
end
theorem yv{m:Nat}(w:List (List Nat)) (hl:w.length=m) (hm:m≤12) (cc:aa):jv [aV w,.int 12,.int 28] cc=.ok .aG cc:=by
 have hlen:∀e:Ev,e[0]? = some (some (aV w))→aF aN (ao (ak 0) aq) e cc=.ok (.int (m:Int)) cc:=fun e he=>cQ (x:=aV w) (by rw[bD,he]) (by rw[lg,hl])
 have t1:aI (au gY (aF aN (ao (ak 0) aq)) (ak 2)) [some (aV w),some (.int 12),some (.int 28)] cc=.ok (decide ((m:Int)>28)) cc:=dU (bH (hlen _ rfl) rfl rfl)
 have t2:aI (au gY (aF aN (ao (ak 0) aq)) (ak 1)) [some (aV w),some (.int 12),some (.int 28)] cc=.ok (decide ((m:Int)>12)) cc:=dU (bH (hlen _ rfl) rfl rfl)
 rw[decide_eq_false (by omega)]at t1 t2
 have t3:gp (aI (au gY (aF aN (ao (ak 0) aq)) (ak 1))) (e7 (aI E5)) [some (aV w),some (.int 12),some (.int 28)] cc=.ok false cc:=by
  rw[tU,t2]
  simp only[R.aC]
  rw[if_neg (by decide)]
 have hb:sJ [some (aV w),some (.int 12),some (.int 28)] cc=.ok (.nx [some (aV w),some (.int 12),some (.int 28)]) cc:=gK (U6 t1 t3) rfl
 rw[jv,iX]
 have es:cB 3 [aV w,.int 12,.int 28]=[some (aV w),some (.int 12),some (.int 28)]:=rfl
 rw[es,hb]
 simp[dM,noRef]
theorem GZ:sL=aD (cJ (aA 3 jv (ao (ak 0) (ao (dC (.int 12)) (ao (dC (.int 28)) aq))))) (aD (cJ (aA 3 jv (ao (ak 1) (ao (dC (.int 12)) (ao (dC (.int 28)) aq))))) (aD (br (aI (au eL (aF aN (ao (ak 0) aq)) (aF aN (ao (ak 1) aq)))) (aU (dC .aG)) bL) (aU (aA 2 (iM 14) (ao (aA 2 xX (ao (ak 0) (ao (ak 1) aq))) (ao (au rA (cH (ao (dC (.int 0)) aq)) (au dF (dC (.int 2)) (aF aN (ao (ak 0) aq)))) aq)))))):=rfl
theorem GY{w w':List (List Nat)}(h1:w.length≤12) (h2:w'.length≤12) (hne:w.length≠w'.length) (cc:aa):gU [aV w,aV w'] cc=.ok .aG cc:=by
 have s1:cJ (aA 3 jv (ao (ak 0) (ao (dC (.int 12)) (ao (dC (.int 28)) aq)))) [some (aV w),some (aV w')] cc=.ok (.nx [some (aV w),some (aV w')]) cc:=vz (kr (x:=aV w) rfl rfl rfl (yv w rfl h1 cc))
 have s2:cJ (aA 3 jv (ao (ak 1) (ao (dC (.int 12)) (ao (dC (.int 28)) aq)))) [some (aV w),some (aV w')] cc=.ok (.nx [some (aV w),some (aV w')]) cc:=vz (kr (x:=aV w') rfl rfl rfl (yv w' rfl h2 cc))
 have s3:br (aI (au eL (aF aN (ao (ak 0) aq)) (aF aN (ao (ak 1) aq)))) (aU (dC .aG)) bL [some (aV w),some (aV w')] cc=.ok (.rt .aG) cc:=by
  rw[Kq (cQ (x:=aV w) rfl (lg w cc)) (cQ (x:=aV w') rfl (lg w' cc)),if_pos hne]
  rfl
 refine gf ?_ rfl (by simp)
 rw[GZ]
 exact cj s1 (cj s2 (oB s3))
theorem Sb(n:Nat):(List.replicate n [D.int 0]).flatten=nD ((List.range n).map fun _=>0):=by
 refine aim (by simp[nD]) fun i h1 h2=>?_
 simp[nD,List.flatten_replicate_singleton]
theorem Ax{m:Nat}{f f':Nat→Nat→Bool}(h0:0<m) (hm:m≤12) (hw:dI f) (dH:dI f') (cc:aa) :
  (gU [aV (wF m f),aV (wF m f')] cc=.ok .aG cc∧∀os,¬fZ m f f' os)∨(∃os,gU [aV (wF m f),aV (wF m f')] cc=.ok (.tup (nD os)) cc∧fm m (fZ m f f') os):=by
 have key:∀x,iM 14 [aV (wF (2*m) (F2 m f f')),aK (2*m) fun _=>0] cc=.ok x cc→noRef x=true→(∀k,x≠.ref k)→gU [aV (wF m f),aV (wF m f')] cc=.ok x cc:=fun x hx nr nf=>by
  have ew:∀g,(wF m g).length=m:=fun g=>iD m g
  have h1:=yv (wF m f) (ew f) hm cc
  have h2:=yv (wF m f') (ew f') hm cc
  have h3:=Rb f f' (show m<60 by omega) cc
  have h4:aN [aV (wF m f)] cc=.ok (.int (m:Int)) cc:=by rw[lg,iD]
  have h5:aN [aV (wF m f')] cc=.ok (.int (m:Int)) cc:=by rw[lg,iD]
  generalize aV (wF m f)=A at h1 h3 h4 ⊢
  generalize aV (wF m f')=B at h2 h3 h5 ⊢
  generalize aV (wF (2*m) (F2 m f f'))=W at h3 hx
  have hs:=b8 (n:=1000) (by decide)
  have s1:cJ (aA 3 jv (ao (ak 0) (ao (dC (.int 12)) (ao (dC (.int 28)) aq)))) [some A,some B] cc=.ok (.nx [some A,some B]) cc:=vz (kr (x:=A) rfl rfl rfl h1)
  have s2:cJ (aA 3 jv (ao (ak 1) (ao (dC (.int 12)) (ao (dC (.int 28)) aq)))) [some A,some B] cc=.ok (.nx [some A,some B]) cc:=vz (kr (x:=B) rfl rfl rfl h2)
  have s3:br (aI (au eL (aF aN (ao (ak 0) aq)) (aF aN (ao (ak 1) aq)))) (aU (dC .aG)) bL [some A,some B] cc=.ok (.nx [some A,some B]) cc:=by
   rw[Kq (cQ (x:=A) rfl h4) (cQ (x:=B) rfl h5),if_neg (by omega)]
   rfl
  have s4:au rA (cH (ao (dC (.int 0)) aq)) (au dF (dC (.int 2)) (aF aN (ao (ak 0) aq))) [some A,some B] cc=.ok (aK (2*m) fun _=>0) cc:=by
   have l1:cH (ao (dC (.int 0)) aq) [some A,some B] cc=.ok (.lst [.int 0]) cc:=by
    rw[kL]
    simp only[bE,eT,bA,R.aC]
    rw[if_pos (by show 1≤sizeLine;omega)]
   have l2:au dF (dC (.int 2)) (aF aN (ao (ak 0) aq)) [some A,some B] cc=.ok (.int ((2*m:Nat):Int)) cc:=by
    refine bH rfl (cQ (x:=A) rfl h4) ?_
    rw[Ah,if_pos (.inl (by omega))]
    rfl
   refine bH l1 l2 ?_
   rw[N9,if_pos (by simp;omega),aiZ,Sb]
   rfl
  refine gf ?_ nr nf
  rw[GZ]
  exact cj s1 (cj s2 (cj s3 (fJ (iA (iA (x:=A) (y:=B) rfl rfl h3) s4 hx))))
 have oG:∀os,gO m f f' (fun _=>0) os↔fZ m f f' os:=fun os=>⟨fun x=>x.1,fun x=>⟨x,fun _ _=>rfl⟩⟩
 rcases abX (W:=aV (wF (2*m) (F2 m f f'))) rfl rfl rfl h0 (by omega) hw dH cc 14 (fun _=>0) (by omega)with⟨h1,h2⟩|⟨os,h1,h2⟩
 ·exact .inl ⟨key _ h1 rfl (by simp),fun os ho=>h2 os ((oG os).mpr ho)⟩
 ·exact .inr ⟨os,key _ h1 (by unfold noRef;exact jt os) (by simp),h2.congr oG⟩
end Ev
namespace Ev
open PySem L2
theorem Xu(l:List Nat) (x:Nat) (cc:aa):iJ (.int (x:Int)) (.lst (nD l)) cc=.ok (.bl (!decide (x∈l))) cc:=by
 have h1:eB cc (.int (x:Int))=some (.int (x:Int)):=rfl
 have h2:eB cc (.lst (nD l))=some (.list (l.map fun n:Nat=>PyData.int (n:Int))):=by
  show(match eZ (nD l)with|some r=>some (PyData.list r)|none=>none)=_
  rw[zg]
 unfold iJ
 rw[h1,h2]
 dsimp only
 rw[if_pos (by simp[PyData.depth]),F9]
theorem LJ:∀l:List Bool,eZ (l.map D.bl)=some (l.map PyData.bool)
 |[]=>rfl
 |n::ns=>by
  show(match eo (.bl n),eZ (ns.map D.bl)with|some a,some r=>some (a::r)|_,_=>none)=_
  rw[LJ ns]
  rfl
theorem LC(l:List Bool):(PyData.list (l.map PyData.bool)).depth≤2:=by
 have:∀l:List Bool,PyData.depthAll (l.map PyData.bool)≤1:=fun l=>by
  induction l with
  |nil=>simp[PyData.depthAll]
  |cons a l ih=>simp[PyData.depthAll,PyData.depth];omega
 have:=this l
 simp[PyData.depth];omega
theorem aci(l m:List Bool) (cc:aa):jd (.lst (l.map D.bl)) (.lst (m.map D.bl)) cc=.ok (.bl (decide (l=m))) cc:=by
 have h1:∀l:List Bool,eB cc (.lst (l.map D.bl))=some (.list (l.map PyData.bool)):=fun l=>by
  show(match eZ (l.map D.bl)with|some r=>some (PyData.list r)|none=>none)=_
  rw[LJ]
 unfold jd
 rw[h1 l,h1 m]
 have a:=LC l
 have b:=LC m
 dsimp only
 rw[if_pos ⟨by omega,by omega⟩,PyData.eqv,Ez (F:=PyData.bool) (fun a b=>by cases a<;>cases b<;>simp[PyData.eqv])]
def dZ(m:Nat) (f f':Nat→Nat→Bool) (k:Nat) (is:List Nat) (a:Nat):Bool:=!decide (a∈is)&&decide ((List.range m).countP (f k)=(List.range m).countP (f' a))
def se(f f':Nat→Nat→Bool) (k:Nat) (is:List Nat) (a:Nat):Bool:=decide (is.map (f' a)=(List.range k).map (f k))
theorem La{m k a:Nat}{f f':Nat→Nat→Bool}{is:List Nat}(hl:is.length=k):(dZ m f f' k is a&&se f f' k is a)=true↔tO m f f' k is a:=by
 have e1:a∉is↔∀i,i<k→aJ is i≠a:=by
  rw[BN,hl]
  exact⟨fun z j hj e=>z ⟨j,hj,e⟩,fun z ⟨j,hj,e⟩=>z j hj e⟩
 have e2:is.map (f' a)=(List.range k).map (f k)↔∀i,i<k→f' a (aJ is i)=f k i:=by
  constructor
  ·intro h i hi
   have:=congrArg (fun l=>l[i]?) h
   simp[hi,hl]at this
   have g:aJ is i=is[i]'(by omega):=by simp[aJ,ahr,hl,hi]
   rw[g];exact this
  ·intro h
   refine aim (by simp[hl]) fun i h1 h2=>?_
   have hi:i<k:=by simpa using h2
   have g:aJ is i=is[i]'(by omega):=by simp[aJ,ahr,hl,hi]
   have:=h i hi
   rw[g]at this
   simpa using this
 unfold dZ se
 rw[ah4,ah4,ame,decide_eq_false_iff_not,decide_eq_true_eq,decide_eq_true_eq,e1,e2]
 exact⟨fun⟨⟨x,y⟩,z⟩=>⟨x,y,z⟩,fun h=>⟨⟨h.un,h.dg⟩,h.eq⟩⟩
def dG(A B I K:D) (v:Option D) (w:Option D×Option D):Ev:=[some A,some B,some I,some K,v,w.1,w.2]
def BW:ai:=(gp (vF (ak 5)) (aI (au jd (aZ (cS (ak 2)) [none,some 1,some 4] (az 0) bg (au aH (au aH (ak 1) (ak 2)) (ak 0))) (nO (au aH (ak 0) (ak 3)) nP (lR (ak 3))))))
def JQ:ah:=(aE 5 (jg (au iJ (ak 4) (ak 2)) (au bG (iN (au aH (ak 0) (ak 3)) (dC (.bl true))) (iN (au aH (ak 1) (ak 4)) (dC (.bl true))))))
def uY(M:List D→aa→R D):ah:=aD JQ (br BW (aD (aE 6 (aA 3 M (ao (ak 0) (ao (ak 1) (ao (au pT (ak 2) (cH (ao (ak 4) aq))) aq))))) (br (aI (au lz (ak 6) (dC .aG))) (aU (ak 6)) bL)) bL)
theorem JL(M:List D→aa→R D):kC M=aD (aE 3 (aF aN (ao (ak 2) aq))) (aD (br (aI (au bG (ak 3) (aF aN (ao (ak 0) aq)))) (aU (aF eU (ao (ak 2) aq))) bL) (aD (b9 (bh (ao (aF aN (ao (ak 0) aq)) aq)) (az 4) (uY M)) (aU (dC .aG)))):=rfl
section
variable {m k a:Nat}{f f':Nat→Nat→Bool}{is:List Nat}{A B:D}
theorem JP(hA:A=aQ m f) (hB:B=aQ m f') (hk:k<m) (ha:a<m) (w:Option D×Option D) (cc:aa):JQ (dG A B (.lst (nD is)) (.int (k:Int)) (some (.int (a:Int))) w) cc=.ok (.nx (dG A B (.lst (nD is)) (.int (k:Int)) (some (.int (a:Int))) (some (.bl (dZ m f f' k is a)),w.2))) cc:=by
 have c1:iN (au aH (ak 0) (ak 3)) (dC (.bl true)) (dG A B (.lst (nD is)) (.int (k:Int)) (some (.int (a:Int))) w) cc=.ok (.int ((List.range m).countP (f k):Nat)) cc:=by
  have:=LO (l:=(List.range m).map (f k)) (dO:=au aH (ak 0) (ak 3)) (e:=dG A B (.lst (nD is)) (.int (k:Int)) (some (.int (a:Int))) w) (c:=cc) (by rw[←HH];exact bH (x:=A) (y:=.int (k:Int)) rfl rfl (by rw[hA];exact qk f hk cc))
  rw[this,ajc]
  rfl
 have c2:iN (au aH (ak 1) (ak 4)) (dC (.bl true)) (dG A B (.lst (nD is)) (.int (k:Int)) (some (.int (a:Int))) w) cc=.ok (.int ((List.range m).countP (f' a):Nat)) cc:=by
  have:=LO (l:=(List.range m).map (f' a)) (dO:=au aH (ak 1) (ak 4)) (e:=dG A B (.lst (nD is)) (.int (k:Int)) (some (.int (a:Int))) w) (c:=cc) (by rw[←HH];exact bH (x:=B) (y:=.int (a:Int)) rfl rfl (by rw[hB];exact qk f' ha cc))
  rw[this,ajc]
  rfl
 have n1:au iJ (ak 4) (ak 2) (dG A B (.lst (nD is)) (.int (k:Int)) (some (.int (a:Int))) w) cc=.ok (.bl (!decide (a∈is))) cc:=bH (x:=.int (a:Int)) (y:=.lst (nD is)) rfl rfl (Xu is a cc)
 have h:jg (au iJ (ak 4) (ak 2)) (au bG (iN (au aH (ak 0) (ak 3)) (dC (.bl true))) (iN (au aH (ak 1) (ak 4)) (dC (.bl true)))) (dG A B (.lst (nD is)) (.int (k:Int)) (some (.int (a:Int))) w) cc=.ok (.bl (dZ m f f' k is a)) cc:=by
  have e2:au bG (iN (au aH (ak 0) (ak 3)) (dC (.bl true))) (iN (au aH (ak 1) (ak 4)) (dC (.bl true))) (dG A B (.lst (nD is)) (.int (k:Int)) (some (.int (a:Int))) w) cc=.ok (.bl (decide ((List.range m).countP (f k)=(List.range m).countP (f' a)))) cc:=bH c1 c2 (nM _ _ cc)
  unfold dZ
  rw[Oj,n1]
  simp only[R.aC]
  rw[e2]
  cases decide (a∈is)<;>rfl
 exact eW h
theorem JO(hA:A=aQ m f) (hB:B=aQ m f') (hl:is.length=k) (hk:k<m) (hm:m<60) (hlt:∀x∈is,x<m) (ha:a<m) (w2:Option D) (cc:aa):BW (dG A B (.lst (nD is)) (.int (k:Int)) (some (.int (a:Int))) (some (.bl (dZ m f f' k is a)),w2)) cc=.ok (dZ m f f' k is a&&se f f' k is a) cc:=by
 have hs:=b8 (n:=1000) (by decide)
 have t1:vF (ak 5) (dG A B (.lst (nD is)) (.int (k:Int)) (some (.int (a:Int))) (some (.bl (dZ m f f' k is a)),w2)) cc=.ok (dZ m f f' k is a) cc:=rfl
 have hc:=o9 (E:=[some B,some (.int (a:Int))]) (a:=au aH (au aH (ak 1) (ak 2)) (ak 0)) (c:=cc) (fun x:Nat=>D.int (x:Int)) (fun x:Nat=>D.bl (f' a x)) is (fun x hx=>bH (x:=.lst (bJ m f' a)) (y:=.int (x:Int)) (bH (x:=B) (y:=.int (a:Int)) rfl rfl (by rw[hB];exact qk f' ha cc)) rfl (AX f' a (hlt x hx) cc))
 have e1:is.map (fun x:Nat=>D.bl (f' a x))=(is.map (f' a)).map D.bl:=by rw[ahK];rfl
 rw[e1]at hc
 have h1:aZ (cS (ak 2)) [none,some 1,some 4] (az 0) bg (au aH (au aH (ak 1) (ak 2)) (ak 0)) (dG A B (.lst (nD is)) (.int (k:Int)) (some (.int (a:Int))) (some (.bl (dZ m f f' k is a)),w2)) cc=.ok (.lst ((is.map (f' a)).map D.bl)) cc :=
  jh (items:=nD is) (AK rfl) (by simp[nD];omega) hc
 have h2:nO (au aH (ak 0) (ak 3)) nP (lR (ak 3)) (dG A B (.lst (nD is)) (.int (k:Int)) (some (.int (a:Int))) (some (.bl (dZ m f f' k is a)),w2)) cc=.ok (.lst (((List.range k).map (f k)).map D.bl)) cc:=by
  have r:au aH (ak 0) (ak 3) (dG A B (.lst (nD is)) (.int (k:Int)) (some (.int (a:Int))) (some (.bl (dZ m f f' k is a)),w2)) cc=.ok (.lst (bJ m f k)) cc:=bH (x:=A) (y:=.int (k:Int)) rfl rfl (by rw[hA];exact qk f hk cc)
  have p:lR (ak 3) (dG A B (.lst (nD is)) (.int (k:Int)) (some (.int (a:Int))) (some (.bl (dZ m f f' k is a)),w2)) cc=.ok (some (k:Int)) cc:=rfl
  have cu:cutD (bJ m f k) none (some (k:Int))=((List.range k).map (f k)).map D.bl:=by
   unfold cutD
   rw[HT.AR,HT.AS,List.drop_zero]
   have hrl:(bJ m f k).length=m:=by simp[bJ]
   rw[hrl,show min k m-0=k by omega]
   refine aim (by simp[bJ];omega) fun i h1 h2=>?_
   simp[bJ]
  rw[N7,r]
  simp only[R.aC,Od]
  rw[p]
  simp only[R.aC]
  unfold c8
  dsimp only
  rw[cu]
 have h3:aI (au jd (aZ (cS (ak 2)) [none,some 1,some 4] (az 0) bg (au aH (au aH (ak 1) (ak 2)) (ak 0))) (nO (au aH (ak 0) (ak 3)) nP (lR (ak 3)))) (dG A B (.lst (nD is)) (.int (k:Int)) (some (.int (a:Int))) (some (.bl (dZ m f f' k is a)),w2)) cc=.ok (se f f' k is a) cc:=dU (bH h1 h2 (aci _ _ cc))
 unfold BW
 rw[tU,t1]
 simp only[R.aC]
 rw[h3]
 cases dZ m f f' k is a<;>rfl
theorem Za{M:List D→aa→R D}(hA:A=aQ m f) (hB:B=aQ m f') (hl:is.length=k) (hk:k<m) (hm:m<60) (hlt:∀x∈is,x<m) (ha:a<m) (w:Option D×Option D) (cc:aa) (hg:¬tO m f f' k is a):uY M (dG A B (.lst (nD is)) (.int (k:Int)) (some (.int (a:Int))) w) cc=.ok (.nx (dG A B (.lst (nD is)) (.int (k:Int)) (some (.int (a:Int))) (some (.bl (dZ m f f' k is a)),w.2))) cc:=by
 have ht:=JO (a:=a) hA hB hl hk hm hlt ha w.2 cc
 have hf:(dZ m f f' k is a&&se f f' k is a)=false:=by
  cases q:(dZ m f f' k is a&&se f f' k is a)with
  |false=>rfl
  |true=>exact absurd ((La hl).mp q) hg
 rw[hf]at ht
 exact cj (JP hA hB hk ha w cc) (gK ht rfl)
theorem JN{M:List D→aa→R D}{x:D}(hA:A=aQ m f) (hB:B=aQ m f') (hl:is.length=k) (hk:k<m) (hm:m<60) (hlt:∀x∈is,x<m) (ha:a<m) (w:Option D×Option D) (cc:aa) (hg:tO m f f' k is a) (hM:M [A,B,.lst (nD (is++[a]))] cc=.ok x cc):uY M (dG A B (.lst (nD is)) (.int (k:Int)) (some (.int (a:Int))) w) cc=.ok (if fE x=true then .nx (dG A B (.lst (nD is)) (.int (k:Int)) (some (.int (a:Int))) (some (.bl (dZ m f f' k is a)),some x))else .rt x) cc:=by
 have hs:=b8 (n:=1000) (by decide)
 have ht:=JO (a:=a) hA hB hl hk hm hlt ha w.2 cc
 rw[(La hl).mpr hg]at ht
 have cat:au pT (ak 2) (cH (ao (ak 4) aq)) (dG A B (.lst (nD is)) (.int (k:Int)) (some (.int (a:Int))) (some (.bl (dZ m f f' k is a)),w.2)) cc=.ok (.lst (nD (is++[a]))) cc:=by
  have l1:cH (ao (ak 4) aq) (dG A B (.lst (nD is)) (.int (k:Int)) (some (.int (a:Int))) (some (.bl (dZ m f f' k is a)),w.2)) cc=.ok (.lst [.int (a:Int)]) cc:=by
   have v:ak 4 (dG A B (.lst (nD is)) (.int (k:Int)) (some (.int (a:Int))) (some (.bl (dZ m f f' k is a)),w.2)) cc=.ok (.int (a:Int)) cc:=rfl
   rw[kL]
   simp only[bE,v,bA,R.aC]
   rw[if_pos (by show 1≤sizeLine;omega)]
  refine bH (x:=.lst (nD is)) rfl l1 ?_
  unfold pT c8
  dsimp only
  rw[if_pos (by simp[nD];omega)]
  simp[nD]
 have s1:aE 6 (aA 3 M (ao (ak 0) (ao (ak 1) (ao (au pT (ak 2) (cH (ao (ak 4) aq))) aq)))) (dG A B (.lst (nD is)) (.int (k:Int)) (some (.int (a:Int))) (some (.bl (dZ m f f' k is a)),w.2)) cc=.ok (.nx (dG A B (.lst (nD is)) (.int (k:Int)) (some (.int (a:Int))) (some (.bl (dZ m f f' k is a)),some x))) cc :=
  eW (kr (x:=A) (y:=B) rfl rfl cat hM)
 have s2:aI (au lz (ak 6) (dC .aG)) (dG A B (.lst (nD is)) (.int (k:Int)) (some (.int (a:Int))) (some (.bl (dZ m f f' k is a)),some x)) cc=.ok (!fE x) cc:=dU (bH (x:=x) rfl rfl rfl)
 refine cj (JP hA hB hk ha w cc) (lE ht (cj s1 ?_))
 cases hx:fE x with
 |true =>
  rw[hx]at s2
  exact gK s2 rfl
 |false =>
  rw[hx]at s2
  exact lE s2 (fJ rfl)
theorem Zc{M:List D→aa→R D}(hA:A=aQ m f) (hl:is.length=m) (cc:aa):bW 7 false (kC M) [A,B,.lst (nD is)] cc=.ok (.tup (nD is)) cc:=by
 have s1:aE 3 (aF aN (ao (ak 2) aq)) (cB 7 [A,B,.lst (nD is)]) cc=.ok (.nx [some A,some B,some (.lst (nD is)),some (.int (m:Int)),none,none,none]) cc:=eW (cQ (x:=.lst (nD is)) rfl (by rw[Ai];simp[nD,hl]))
 have s2:aI (au bG (ak 3) (aF aN (ao (ak 0) aq))) [some A,some B,some (.lst (nD is)),some (.int (m:Int)),none,none,none] cc=.ok (decide (m=m)) cc:=dU (bH (x:=.int (m:Int)) rfl (cQ (x:=A) rfl (by rw[hA];exact aio m f cc)) (nM _ _ cc))
 rw[decide_eq_true rfl]at s2
 refine gf ?_ (by unfold noRef;exact jt is) (by simp)
 rw[JL]
 exact cj s1 (oB (lE s2 (fJ (cQ (x:=.lst (nD is)) rfl (Pd cc)))))
theorem JM{M:List D→aa→R D}{x:D}{r:R Fl}(hA:A=aQ m f) (hl:is.length=k) (hk:k<m) (hm:m<60) (cc:aa) (h3:bS (fun _=>True) (az 4) (uY M) ((List.range m).map fun b:Nat=>D.int (b:Int)) (dG A B (.lst (nD is)) (.int (k:Int)) none (none,none)) cc=r) (hr:r=.ok (.rt x) cc∨(x=.aG∧∃e,r=.ok (.nx e) cc)) (nr:noRef x=true) (nf:∀k,x≠.ref k):bW 7 false (kC M) [A,B,.lst (nD is)] cc=.ok x cc:=by
 have hlen:aN [A] cc=.ok (.int (m:Int)) cc:=by rw[hA];exact aio m f cc
 have s1:aE 3 (aF aN (ao (ak 2) aq)) (cB 7 [A,B,.lst (nD is)]) cc=.ok (.nx (dG A B (.lst (nD is)) (.int (k:Int)) none (none,none))) cc:=eW (cQ (x:=.lst (nD is)) rfl (by rw[Ai];simp[nD,hl]))
 have s2:aI (au bG (ak 3) (aF aN (ao (ak 0) aq))) (dG A B (.lst (nD is)) (.int (k:Int)) none (none,none)) cc=.ok (decide (k=m)) cc:=dU (bH (x:=.int (k:Int)) rfl (cQ (x:=A) rfl hlen) (nM _ _ cc))
 rw[decide_eq_false (by omega)]at s2
 have e1:((List.range m).map fun v:Nat=>D.int (v:Int))=aM 0 (m:Int):=(oJ m).symm
 have s5:bh (ao (aF aN (ao (ak 0) aq)) aq) (dG A B (.lst (nD is)) (.int (k:Int)) none (none,none)) cc=.ok ⟨(List.range m).map fun b:Nat=>D.int (b:Int),fun _=>True⟩ cc:=by
  rw[e1]
  exact m8 (cQ (x:=A) rfl hlen) (by omega)
 refine gf ?_ nr nf
 rw[JL]
 refine cj s1 (cj (gK s2 rfl) ?_)
 rcases hr with e|⟨e1,e,e2⟩
 ·exact oB (lO s5 (h3.trans e))
 ·rw[e1]
  exact cj (lO s5 (h3.trans e2)) (fJ rfl)
end
theorem Zb{m:Nat}{f f':Nat→Nat→Bool}{A B:D}(hA:A=aQ m f) (hB:B=aQ m f') (hm:m<60) (hw:dI f) (dH:dI f') (cc:aa):∀(q k:Nat) (is:List Nat),m+1≤q+k→mT m f f' k is→k≤m →
  (gV q [A,B,.lst (nD is)] cc=.ok .aG cc∧∀os,¬gq m f f' k is os)∨(∃os,gV q [A,B,.lst (nD is)] cc=.ok (.tup (nD os)) cc∧fm m (gq m f f' k is) os):=by
 intro q
 induction q with
 |zero=>intro k is h _ h2;omega
 |succ q ih =>
  intro k is h hp hk
  show(bW 7 false (kC (gV q)) [A,B,.lst (nD is)] cc=.ok .aG cc∧_)∨(∃os,bW 7 false (kC (gV q)) [A,B,.lst (nD is)] cc=.ok (.tup (nD os)) cc∧_)
  by_cases e:k=m
  ·subst e
   exact .inr ⟨is,Zc hA hp.len cc,hp.leaf hw dH⟩
  ·have hk:k<m:=by omega
   have hlt:∀x∈is,x<m:=fun x hx=>by
    obtain⟨j,hj,rfl⟩:=BN.mp hx
    exact hp.lt j (by have:=hp.len;omega)
   have Aw:=DT (i:=4) (s:=uY (gV q)) (cc:=cc) (env:=dG A B (.lst (nD is)) (.int (k:Int))) (fun v w x=>rfl) (fun b:Nat=>D.int (b:Int)) (fun b=>∀ts,gq m f f' k is ts→aJ ts k≠b) (fun b x=>∃os,x=.tup (nD os)∧fm m (gq m f f' (k+1) (is++[b])) os) (List.range m) none (none,none) (fun b hb w=>by
    have hb:=ahn.mp hb
    by_cases hg:tO m f f' k is b
    ·rcases ih (k+1) (is++[b]) (by omega) (hp.more hb hg) (by omega)with⟨r1,r2⟩|⟨os,r1,r2⟩
     ·exact .inl ⟨(some (.bl (dZ m f f' k is b)),some .aG),JN hA hB hp.len hk hm hlt hb w cc hg r1,fun ts ht e=>r2 ts ((gq.more hp.len).mpr ⟨ht,e⟩)⟩
     ·exact .inr ⟨.tup (nD os),JN hA hB hp.len hk hm hlt hb w cc hg r1,os,rfl,r2⟩
    ·exact .inl ⟨(some (.bl (dZ m f f' k is b)),w.2),Za hA hB hp.len hk hm hlt hb w cc hg,fun ts ht e=>hg (by rw[←e];exact ht.good hk)⟩)
   rcases Aw with⟨hno,v',w',hf⟩|⟨l1,b,l2,x,hl,hno,⟨os,rfl,hmin⟩,hf⟩
   ·refine .inl ⟨JM hA hp.len hk hm cc hf (.inr ⟨rfl,_,rfl⟩) rfl (by simp),fun os ho=>?_⟩
    exact hno _ (ahn.mpr (gR ho.1.pm hk)) os ho rfl
   ·obtain⟨hb,ve⟩:=HJ hl
    refine .inr ⟨os,JM hA hp.len hk hm cc hf (.inl rfl) (by unfold noRef;exact jt os) (by simp),?_⟩
    exact Pe hp.len hk (fun ts ht hlt=>hno _ (ve _ hlt) ts ht rfl) hmin
theorem Zd{m:Nat}{f f':Nat→Nat→Bool}(hm:m≤9) (hw:dI f) (dH:dI f') (cc:aa) :
  (gV 10 [aQ m f,aQ m f',.lst []] cc=.ok .aG cc∧∀os,¬fZ m f f' os)∨(∃os,gV 10 [aQ m f,aQ m f',.lst []] cc=.ok (.tup (nD os)) cc∧fm m (fZ m f f') os):=by
 have hp:mT m f f' 0 []:=⟨rfl,fun i h=>by omega,fun i j h1 h2=>by omega,fun i j h1 h2=>by omega⟩
 have hi:∀os,gq m f f' 0 [] os↔fZ m f f' os:=fun os=>⟨fun x=>x.1,fun x=>⟨x,fun i h=>by omega⟩⟩
 rcases Zb rfl rfl (by omega) hw dH cc 10 0 [] (by omega) hp (by omega)with⟨h1,h2⟩|⟨os,h1,h2⟩
 ·exact .inl ⟨h1,fun os ho=>h2 os ((hi os).mpr ho)⟩
 ·exact .inr ⟨os,h1,h2.congr hi⟩
end Ev
namespace Ev
open PySem L2
theorem Ka{os:List Nat}{i:Nat}(h:i<os.length) (cc:aa):aH (.tup (nD os)) (.int (i:Int)) cc=.ok (.int (aJ os i:Nat)) cc:=by
 rw[wk,lU (v:=.int (aJ os i:Nat)) (by simp[nD,aJ,ahr,h])]
def rU(A B O M:D) (v:Option D):Ev:=[some A,some B,some O,some M,v]
def B4:ah:=(br (aI (aF jj (ao (aZ (bh (ao (ak 4) aq)) [none,some 0,some 4,some 1,some 2] (az 0) bg (au eL (au aH (au aH (ak 1) (ak 2)) (ak 0)) (au aH (au aH (ak 3) (au aH (ak 4) (ak 2))) (au aH (ak 4) (ak 0))))) aq))) (aU (dC (.bl false))) bL)
theorem Zi:sX=aD (aE 3 (aF aN (ao (ak 0) aq))) (aD (b9 (bh (ao (ak 3) aq)) (az 4) B4) (aU (dC (.bl true)))):=rfl
theorem Zh{m p:Nat}{f f':Nat→Nat→Bool}{A B O:D}{os:List Nat}(hA:A=aQ m f) (hB:B=aQ m f') (hO:O=.tup (nD os)) (h:fZ m f f' os) (hm:m<60) (hp:p<m) (cc:aa):B4 (rU A B O (.int (m:Int)) (some (.int (p:Int)))) cc=.ok (.nx (rU A B O (.int (m:Int)) (some (.int (p:Int))))) cc:=by
 have hl:=gI h.pm
 have e1:((List.range p).map fun v:Nat=>D.int (v:Int))=aM 0 (p:Int):=(oJ p).symm
 have hc:=o9 (E:=[some A,some (.int (p:Int)),some B,some O]) (a:=au eL (au aH (au aH (ak 1) (ak 2)) (ak 0)) (au aH (au aH (ak 3) (au aH (ak 4) (ak 2))) (au aH (ak 4) (ak 0)))) (c:=cc) (fun x:Nat=>D.int (x:Int)) (fun _:Nat=>D.bl false) (List.range p) (fun q hq=>by
  have hq:=ahn.mp hq
  refine bH (x:=.bl (f p q)) (y:=.bl (f' (aJ os p) (aJ os q))) (bH (x:=.lst (bJ m f p)) (y:=.int (q:Int)) (bH (x:=A) (y:=.int (p:Int)) rfl rfl (by rw[hA];exact qk f hp cc)) rfl (AX f p (by omega) cc))
   (bH (x:=.lst (bJ m f' (aJ os p))) (y:=.int (aJ os q:Nat)) (bH (x:=B) (y:=.int (aJ os p:Nat)) rfl (bH (x:=O) (y:=.int (p:Int)) rfl rfl (by rw[hO];exact Ka (by omega) cc)) (by rw[hB];exact qk f' (gR h.pm hp) cc)) (bH (x:=O) (y:=.int (q:Int)) rfl rfl (by rw[hO];exact Ka (by omega) cc)) (AX f' _ (gR h.pm (by omega)) cc)) ?_
  rw[h.eq p q hp (by omega),Oe]
  simp)
 rw[e1]at hc
 have ha:jj [.lst ((List.range p).map fun _:Nat=>D.bl false)] cc=.ok (.bl false) cc:=by
  have:((List.range p).map fun _:Nat=>D.bl false)=((List.range p).map fun _:Nat=>false).map D.bl:=by rw[ahK];rfl
  unfold jj oN
  dsimp only
  rw[this,zz]
  simp
 have ht:aI (aF jj (ao (aZ (bh (ao (ak 4) aq)) [none,some 0,some 4,some 1,some 2] (az 0) bg (au eL (au aH (au aH (ak 1) (ak 2)) (ak 0)) (au aH (au aH (ak 3) (au aH (ak 4) (ak 2))) (au aH (ak 4) (ak 0))))) aq)) (rU A B O (.int (m:Int)) (some (.int (p:Int)))) cc=.ok false cc :=
  dU (cQ (jh (items:=aM 0 (p:Int)) (m8 rfl (by omega)) (wL (by omega)) hc) ha)
 exact gK ht rfl
theorem Zf{m:Nat}{f f':Nat→Nat→Bool}{A B O:D}{os:List Nat}(hA:A=aQ m f) (hB:B=aQ m f') (hO:O=.tup (nD os)) (h:fZ m f f' os) (hm:m<60) (cc:aa):uV [A,B,O] cc=.ok (.bl true) cc:=by
 have s1:aE 3 (aF aN (ao (ak 0) aq)) (cB 5 [A,B,O]) cc=.ok (.nx (rU A B O (.int (m:Int)) none)) cc:=eW (cQ (x:=A) rfl (by rw[hA];exact aio m f cc))
 have hf:=vo (i:=4) (s:=B4) (cc:=cc) (env:=rU A B O (.int (m:Int))) (fun v x=>rfl) (fun v:Nat=>D.int (v:Int)) (fun _=>false) (fun _=>D.aG) (List.range m) none (fun p hp q=>by cases q) (fun p hp _=>Zh hA hB hO h hm (ahn.mp hp) cc)
 obtain⟨v',h2⟩:=hf.2 (aj4.mpr fun x _=>by simp)
 have e1:((List.range m).map fun v:Nat=>D.int (v:Int))=aM 0 (m:Int):=(oJ m).symm
 rw[e1]at h2
 have hr:bh (ao (ak 3) aq) (rU A B O (.int (m:Int)) none) cc=.ok ⟨aM 0 (m:Int),fun _=>True⟩ cc:=m8 rfl (by omega)
 refine gf ?_ rfl (by simp)
 rw[Zi]
 exact cj s1 (cj (lO hr h2) (fJ rfl))
theorem RO{os:List Nat}(hl:os.length<60) (cc:aa):gy 3 [.tup (nD os),.tup (nD os)] cc=.ok (.bl true) cc:=by
 have hs:=b8 (n:=1000) (by decide)
 exact RN (k:=1) (fun d hd=>by
  obtain⟨i,_,rfl⟩:=ahs.mp hd
  exact same_int _ 1 cc) (by simp[nD];omega)
theorem HE(cc:aa):gy 3 [.aG,.aG] cc=.ok (.bl true) cc:=by simp[gy,lT]
theorem tV{f:Nat→Nat→Bool}(h:jH f):dI f:=⟨h.1,h.2⟩
theorem YE{m:Nat}{os:List Nat}(hp:os.Perm (List.range m)) (f:Nat→Nat→Bool):fZ m f (d8 os f m 0) os:=⟨hp,fun i j hi hj=>by
 have hl:=gI hp
 have hn:os.Nodup:=hp.nodup_iff.mpr ajK
 have g:∀i,i<m→os.idxOf (aJ os i)=i:=fun i hi=>by
  have e:aJ os i=os[i]'(by omega):=by simp[aJ,ahr,hl,hi]
  rw[e]
  exact Dk hn (by omega)
 unfold d8
 rw[g i hi,g j hj,if_pos (.inl hi),if_pos (by omega)]⟩
theorem JT:∀l k:List Nat,cI (l.map fun n:Nat=>(n:Int)) (k.map fun n:Nat=>(n:Int))=gg l k
 |[],[]=>rfl
 |[],_::_=>rfl
 |_::_,[]=>rfl
 |a::l,b::k=>by
  show(if(a:Int)=(b:Int)then cI (l.map fun n:Nat=>(n:Int)) (k.map fun n:Nat=>(n:Int))else decide ((a:Int)<(b:Int)))=if a=b then gg l k else decide (a<b)
  by_cases e:a=b
  ·rw[if_pos e,if_pos (by rw[e]),JT l k]
  ·rw[if_neg e,if_neg (by omega)]
   exact decide_eq_decide.mpr (by omega)
theorem abz(os ts:List Nat) (cc:aa):pN (.tup (nD os)) (.tup (nD ts)) cc=.ok (.bl (gg ts os)) cc:=by
 unfold pN
 dsimp only
 rw[pH,pH]
 dsimp only
 rw[JT]
theorem Qo{m:Nat}{os:List Nat}(h:os.Perm (List.range m)) (hm:m<60) (cc:aa):mX [.tup (nD os)] cc=.ok (.lst (((List.range m).map fun n:Nat=>(n:Int)).map D.int)) cc:=by
 have hl:=gI h
 have e:fD (os.map fun n:Nat=>(n:Int))=(List.range m).map fun n:Nat=>(n:Int):=by
  refine ug ((j6 _).trans (h.map _)) (rX _) ?_
  rw[akP]
  exact alC.imp fun{a b} q=>by omega
 unfold mX
 dsimp only
 rw[pH]
 dsimp only
 rw[if_pos (by simp;omega),e]
theorem XM(l:List Int) (cc:aa):oY (.lst (l.map D.int)) (.lst (l.map D.int)) cc=.ok (.bl false) cc:=by
 have h1:eB cc (.lst (l.map D.int))=some (.list (l.map PyData.int)):=by
  show(match eZ (l.map D.int)with|some r=>some (PyData.list r)|none=>none)=_
  rw[EF]
 unfold oY
 rw[h1]
 have a:=EE l
 dsimp only
 rw[if_pos ⟨by omega,by omega⟩,PyData.eqv,Km]
 simp
theorem R4(m:Nat):oK 0 (m:Int)=(List.range m).map fun n:Nat=>(n:Int):=by
 unfold oK
 rw[show((m:Int)-0).toNat=m by omega]
 exact ah6 fun b _=>by omega
theorem Iz{t u:ai}{e:Ev}{c c1 c2:aa}{b:Bool}(h1:t e c=.ok false c1) (h2:u e c1=.ok b c2):jE t u e c=.ok b c2:=by
 rw[Ob,h1]
 simp only[R.aC]
 rw[if_neg (by decide)];exact h2
theorem ab6:nU=aD (aE 1 (aA 2 jx (ao (ak 0) (ao (dC (.int 12)) aq)))) (aD (aE 2 (aA 2 ig (ao (ak 0) (ao (aF aN (ao (ak 1) aq)) aq)))) (aD (aE 3 (aA 2 iL (ao (ak 1) (ao (ak 2) aq)))) (aD (aE 4 (aA 2 gU (ao (aA 1 gA (ao (ak 1) aq)) (ao (aA 1 gA (ao (ak 3) aq)) aq)))) (aD (br (jE (e7 (aI (aF b7 (ao (ak 4) (ao (dC (.ty "tuple")) aq))))) (jE (aI (au oY (aF mX (ao (ak 4) aq)) (pQ (ao (aF aN (ao (ak 1) aq)) aq)))) (aI (au pN (ak 4) (ak 2))))) (aU (dC (.bl false))) bL) (aU (aA 3 uV (ao (ak 1) (ao (ak 3) (ao (ak 4) aq))))))))) :=rfl
theorem ab7{m j:Nat}{f f':Nat→Nat→Bool}{A B O:D}{os ts:List Nat}{c c1 c2:aa}(h0:0<m) (hm:m<60) (hA:A=aQ m f) (hB:B=aQ m f') (hO:O=.tup (nD os)) (hl:os.length=m)
  (t1:jx [.ref j,.int 12] c=.ok A c1) (t2:ig [.ref j,.int (m:Int)] c1=.ok O c2) (t3:iL [A,O] c2=.ok B c2) {RA RB:D}(r1:gA [A] c2=.ok RA c2) (r2:gA [B] c2=.ok RB c2) (t4:gU [RA,RB] c2=.ok (.tup (nD ts)) c2) (hi:fZ m f f' ts) (hx:gg os ts=false) :
  nU [some (.ref j),none,none,none,none] c=.ok (.rt (.bl true)) c2:=by
 have lA:∀cc,aN [A] cc=.ok (.int (m:Int)) cc:=fun cc=>by rw[hA];exact aio m f cc
 generalize hT:D.tup (nD ts)=T at t4
 have s1:aE 1 (aA 2 jx (ao (ak 0) (ao (dC (.int 12)) aq))) [some (.ref j),none,none,none,none] c=.ok (.nx [some (.ref j),some A,none,none,none]) c1:=mZ (ku (x:=.ref j) rfl rfl t1)
 have s2:aE 2 (aA 2 ig (ao (ak 0) (ao (aF aN (ao (ak 1) aq)) aq))) [some (.ref j),some A,none,none,none] c1=.ok (.nx [some (.ref j),some A,some O,none,none]) c2:=mZ (ku (x:=.ref j) rfl (cQ (x:=A) rfl (lA c1)) t2)
 have s3:aE 3 (aA 2 iL (ao (ak 1) (ao (ak 2) aq))) [some (.ref j),some A,some O,none,none] c2=.ok (.nx [some (.ref j),some A,some O,some B,none]) c2:=mZ (ku (x:=A) (y:=O) rfl rfl t3)
 have s4:aE 4 (aA 2 gU (ao (aA 1 gA (ao (ak 1) aq)) (ao (aA 1 gA (ao (ak 3) aq)) aq))) [some (.ref j),some A,some O,some B,none] c2=.ok (.nx [some (.ref j),some A,some O,some B,some T]) c2:=mZ (ku (x:=RA) (y:=RB) (zy (x:=A) rfl r1) (zy (x:=B) rfl r2) t4)
 have q1:e7 (aI (aF b7 (ao (ak 4) (ao (dC (.ty "tuple")) aq)))) [some (.ref j),some A,some O,some B,some T] c2=.ok (!true) c2:=by
  refine oX (F4 ?_)
  have v:ak 4 [some (.ref j),some A,some O,some B,some T] c2=.ok T c2:=rfl
  rw[jn]
  simp only[bE,v,eT,bA,R.aC]
  rw[←hT]
  rfl
 have q2:aI (au oY (aF mX (ao (ak 4) aq)) (pQ (ao (aF aN (ao (ak 1) aq)) aq))) [some (.ref j),some A,some O,some B,some T] c2=.ok false c2:=by
  have a1:aF mX (ao (ak 4) aq) [some (.ref j),some A,some O,some B,some T] c2=.ok (.lst (((List.range m).map fun n:Nat=>(n:Int)).map D.int)) c2:=cQ (x:=T) rfl (by rw[←hT];exact Qo hi.pm hm c2)
  have a2:pQ (ao (aF aN (ao (ak 1) aq)) aq) [some (.ref j),some A,some O,some B,some T] c2=.ok (.lst (((List.range m).map fun n:Nat=>(n:Int)).map D.int)) c2:=by
   have a3:aF aN (ao (ak 1) aq) [some (.ref j),some A,some O,some B,some T] c2=.ok (.int (m:Int)) c2:=cQ (x:=A) rfl (lA c2)
   unfold pQ
   simp only[bE,a3,bA,R.aC]
   rw[if_pos (by omega),R4]
  exact dU (bH a1 a2 (XM _ c2))
 have q3:aI (au pN (ak 4) (ak 2)) [some (.ref j),some A,some O,some B,some T] c2=.ok false c2:=dU (bH (x:=T) (y:=O) rfl rfl (by rw[←hT,hO,abz,hx]))
 have s6:aU (aA 3 uV (ao (ak 1) (ao (ak 3) (ao (ak 4) aq)))) [some (.ref j),some A,some O,some B,some T] c2=.ok (.rt (.bl true)) c2:=fJ (kr (x:=A) (y:=B) (z:=T) rfl rfl rfl (Zf hA hB hT.symm hi hm c2))
 rw[ab6]
 exact cj s1 (cj s2 (cj s3 (cj s4 (cj (gK (Iz q1 (Iz q2 q3)) rfl) s6))))
theorem ab5{j n:Nat}{c:aa}(hP:ez j n c):∃c',ez j n c'∧rO [.ref j] c=.ok (.bl true) c':=by
 obtain⟨m,f,c1,h1,h2,hw,P1,t1⟩:=F1 (most:=12) hP (by decide) (by decide)
 obtain⟨os,c2,hp,P2,t2⟩:=Bc (m:=m) P1 (by omega)
 have t3:=BJ hp (by omega) f c2
 have KS:=YE hp f
 have dH:=BH hw (gI hp)
 have r1:=wU f (show m<1000 by omega) c2
 have r2:=wU (d8 os f m 0) (show m<1000 by omega) c2
 rw[AW]at r1 r2
 rcases Ax (f:=f) (f':=d8 os f m 0) (show 0<m by omega) (by omega) (tV hw) (tV dH) c2 with⟨_,hno⟩|⟨ts,t4,hmin⟩
 ·exact absurd KS (hno os)
 ·have hb:=ab7 (by omega) (by omega) rfl rfl rfl (gI hp) t1 t2 t3 r1 r2 t4 hmin.1 (hmin.2 os KS (gI hp))
  refine⟨c2,P2,?_⟩
  have:=Sa (n:=5) (b:=nU) (xs:=[.ref j]) (c:=c) hb rfl (by simp)
  rw[Tg hP (by rw[P2.1,hP.1])]at this
  exact this
theorem agree{m m':Nat}{f f':Nat→Nat→Bool}(h1:1≤m) (h2:m≤8) (h3:1≤m') (h4:m'≤8) (hw:dI f) (dH:dI f') (cc:aa):∃x,(m=m'→gV 10 [aQ m f,aQ m' f',.lst []] cc=.ok x cc)∧(m≠m'→x=.aG)∧gU [aV (wF m f),aV (wF m' f')] cc=.ok x cc∧gy 3 [x,x] cc=.ok (.bl true) cc:=by
 by_cases e:m=m'
 ·subst e
  rcases Zd (f:=f) (f':=f') (show m≤9 by omega) hw dH cc with⟨a1,a2⟩|⟨os,a1,a2⟩
  ·rcases Ax (f:=f) (f':=f') (show 0<m by omega) (by omega) hw dH cc with⟨b1,b2⟩|⟨ts,b1,b2⟩
   ·exact⟨.aG,fun _=>a1,fun _=>rfl,b1,HE cc⟩
   ·exact absurd b2.1 (a2 ts)
  ·rcases Ax (f:=f) (f':=f') (show 0<m by omega) (by omega) hw dH cc with⟨b1,b2⟩|⟨ts,b1,b2⟩
   ·exact absurd a2.1 (b2 os)
   ·have:os=ts:=fm.one (fun os ho=>gI ho.pm) a2 b2
    subst this
    exact⟨.tup (nD os),fun _=>a1,fun q=>absurd rfl q,b1,RO (by rw[gI b2.1.pm];omega) cc⟩
 ·refine⟨.aG,fun q=>absurd q e,fun _=>rfl,GY (by rw[iD];omega) (by rw[iD];omega) (by rw[iD,iD];exact e) cc,HE cc⟩
def o1:ah:=aE 2 (aA 1 rM (ao (aA 2 rP (ao (ak 0) (ao (ak 1) aq))) aq))
def o2:ah:=aE 3 (aA 2 jx (ao (ak 2) (ao (dC (.int 8)) aq)))
def o3:ah:=aE 4 (aA 2 iL (ao (ak 3) (ao (aA 2 ig (ao (ak 2) (ao (aF aN (ao (ak 3) aq)) aq))) aq)))
def o4:ah:=br (aI (au bG (aA 2 aY (ao (ak 2) (ao (dC (.int 3)) aq))) (dC (.int 0)))) (aE 4 (aA 2 jx (ao (ak 2) (ao (dC (.int 8)) aq)))) bL
def o6:ah:=br (aI (au bG (aF aN (ao (ak 3) aq)) (aF aN (ao (ak 4) aq)))) (aE 5 (aA 3 (gV 10) (ao (ak 3) (ao (ak 4) (ao (cH aq) aq))))) bL
def o7:ah:=br (e7 (aI (aA 2 (gy 3) (ao (aA 2 gU (ao (aA 1 gA (ao (ak 3) aq)) (ao (aA 1 gA (ao (ak 4) aq)) aq))) (ao (ak 5) aq))))) (aU (dC (.bl false))) bL
def o8:ah:=br (gp (aI (au gJ (ak 1) (dC (.int 2)))) (e7 (aI (aA 1 rO (ao (ak 2) aq))))) (aU (dC (.bl false))) bL
def xx:ah:=aD o1 (aD o2 (aD o3 (aD o4 (aD (aE 5 (dC .aG)) (aD o6 (aD o7 o8))))))
theorem Zm:pZ=aD (b9 (bh (ao (aF rK (ao (dC (.int 1)) (ao (aF fB (ao (aF aN (ao (ak 0) aq)) (ao (dC (.int 8)) aq))) aq))) aq)) (az 1) xx) (aU (au ja (aA 2 gU (ao (bQ (ao (bQ aq) aq)) (ao (bQ (ao (bQ aq) (ao (bQ aq) aq))) aq))) (dC .aG))):=rfl
def oE(S K:D) (v2 v3 v4 v5:Option D):Ev:=[some S,some K,v2,v3,v4,v5]
theorem Xl{j n m:Nat}{S K:D}{A B0:D}{f0:Nat→Nat→Bool}{c:aa}{v5:Option D}(hP:ez j n c) (h1:1≤m) (h2:m≤8) (hB:B0=aQ m f0) (hw:dI f0):∃m' f' B c',1≤m'∧m'≤8∧dI f'∧B=aQ m' f'∧ez j n c'∧o4 (oE S K (some (.ref j)) (some A) (some B0) v5) c=.ok (.nx (oE S K (some (.ref j)) (some A) (some B) v5)) c':=by
 obtain⟨x,c1,x0,x1,P1,t1⟩:=jO (cD:=3) hP (by decide) (by decide)
 have ht:aI (au bG (aA 2 aY (ao (ak 2) (ao (dC (.int 3)) aq))) (dC (.int 0))) (oE S K (some (.ref j)) (some A) (some B0) v5) c=.ok (decide (x=0)) c1:=F4 (aeu (ku (x:=.ref j) rfl rfl t1) rfl rfl)
 by_cases e:x=0
 ·rw[decide_eq_true e]at ht
  obtain⟨m',f',c2,g1,g2,gw,P2,t2⟩:=F1 (most:=8) P1 (by decide) (by decide)
  generalize DJ:aQ m' f'=B at t2
  exact⟨m',f',B,c2,g1,by omega,tV gw,DJ.symm,P2,lE ht (mZ (ku (x:=.ref j) rfl rfl t2))⟩
 ·rw[decide_eq_false e]at ht
  exact⟨m,f0,B0,c1,h1,h2,hw,hB,P1,gK ht rfl⟩
theorem Xk{m m':Nat}{S K P A B:D}{f f':Nat→Nat→Bool}(hA:A=aQ m f) (hB:B=aQ m' f') (h1:1≤m) (h2:m≤8) (h3:1≤m') (h4:m'≤8) (hw:dI f) (dH:dI f') (v5:Option D) (cc:aa):∃x,(aD (aE 5 (dC .aG)) (aD o6 (aD o7 o8))) (oE S K (some P) (some A) (some B) v5) cc=o8 (oE S K (some P) (some A) (some B) (some x)) cc:=by
 have hs:=b8 (n:=1000) (by decide)
 obtain⟨x,a1,a2,a3,a4⟩:=agree h1 h2 h3 h4 hw dH cc
 rw[←hA,←hB]at a1
 have lA:aN [A] cc=.ok (.int (m:Int)) cc:=by rw[hA];exact aio m f cc
 have lB:aN [B] cc=.ok (.int (m':Int)) cc:=by rw[hB];exact aio m' f' cc
 have r1:gA [A] cc=.ok (aV (wF m f)) cc:=by rw[hA,←AW];exact wU f (by omega) cc
 have r2:gA [B] cc=.ok (aV (wF m' f')) cc:=by rw[hB,←AW];exact wU f' (by omega) cc
 generalize aV (wF m f)=RA at r1 a3
 generalize aV (wF m' f')=RB at r2 a3
 have s5:aE 5 (dC .aG) (oE S K (some P) (some A) (some B) v5) cc=.ok (.nx (oE S K (some P) (some A) (some B) (some .aG))) cc:=eW rfl
 have t6:aI (au bG (aF aN (ao (ak 3) aq)) (aF aN (ao (ak 4) aq))) (oE S K (some P) (some A) (some B) (some .aG)) cc=.ok (decide (m=m')) cc:=dU (bH (cQ (x:=A) rfl lA) (cQ (x:=B) rfl lB) (nM _ _ cc))
 have s6:o6 (oE S K (some P) (some A) (some B) (some .aG)) cc=.ok (.nx (oE S K (some P) (some A) (some B) (some x))) cc:=by
  by_cases e:m=m'
  ·rw[decide_eq_true e]at t6
   have l:cH aq (oE S K (some P) (some A) (some B) (some .aG)) cc=.ok (.lst []) cc:=by
    rw[kL,bA]
    simp only[R.aC]
    rw[if_pos (by show 0≤sizeLine;omega)]
   exact lE t6 (eW (kr (x:=A) (y:=B) rfl rfl l (a1 e)))
  ·rw[decide_eq_false e]at t6
   rw[a2 e]
   exact gK t6 rfl
 have s7:o7 (oE S K (some P) (some A) (some B) (some x)) cc=.ok (.nx (oE S K (some P) (some A) (some B) (some x))) cc :=
  gK (oX (b:=true) (dU (iA (x:=x) (y:=x) (iA (x:=RA) (y:=RB) (pU (x:=A) rfl r1) (pU (x:=B) rfl r2) a3) rfl a4))) rfl
 exact⟨x,cj s5 (cj s6 (cj s7 rfl))⟩
theorem Xj{j n:Nat}{S A B x:D}{i:Int}{c:aa}(hP:ez j n c):∃c',o8 (oE S (.int i) (some (.ref j)) (some A) (some B) (some x)) c=.ok (.nx (oE S (.int i) (some (.ref j)) (some A) (some B) (some x))) c':=by
 have t1:aI (au gJ (ak 1) (dC (.int 2))) (oE S (.int i) (some (.ref j)) (some A) (some B) (some x)) c=.ok (decide (i<2)) c:=dU (bH (x:=.int i) rfl rfl rfl)
 by_cases e:i<2
 ·rw[decide_eq_true e]at t1
  obtain⟨c',_,h⟩:=ab5 hP
  refine⟨c',?_⟩
  have t2:gp (aI (au gJ (ak 1) (dC (.int 2)))) (e7 (aI (aA 1 rO (ao (ak 2) aq)))) (oE S (.int i) (some (.ref j)) (some A) (some B) (some x)) c=.ok (!true) c':=by
   rw[tU,t1]
   simp only[R.aC]
   rw[if_pos trivial]
   exact oX (F4 (zy (x:=.ref j) rfl h))
  exact gK t2 rfl
 ·rw[decide_eq_false e]at t1
  refine⟨c,?_⟩
  have t2:gp (aI (au gJ (ak 1) (dC (.int 2)))) (e7 (aI (aA 1 rO (ao (ak 2) aq)))) (oE S (.int i) (some (.ref j)) (some A) (some B) (some x)) c=.ok false c:=by
   rw[tU,t1]
   simp only[R.aC]
   rw[if_neg (by decide)]
  exact gK t2 rfl
theorem UX{ns:List Int}{i:Int}(i0:0≤i) (c:aa) (v2 v3 v4 v5:Option D):∃w2 w3 w4 w5 c',xx (oE (.ck ns) (.int i) v2 v3 v4 v5) c=.ok (.nx (oE (.ck ns) (.int i) w2 w3 w4 w5)) c':=by
 obtain⟨y,hy⟩:=ad0 ns i i0 c
 obtain⟨p0,hp⟩:=Tf y c
 have P0:ez c.length (c.length+1) (c++[.lst [.int p0]]):=⟨by simp,by omega,p0,by simp⟩
 obtain⟨m,f,c1,h1,h2,hw,P1,t1⟩:=F1 (most:=8) P0 (by decide) (by decide)
 obtain⟨os,c2,lJ,P2,t2⟩:=Bc (m:=m) P1 (by omega)
 have t3:=BJ lJ (by omega) f c2
 have dH:=BH hw (gI lJ)
 have lA:∀cc,aN [aQ m f] cc=.ok (.int (m:Int)) cc:=fun cc=>aio m f cc
 generalize hA:aQ m f=A at t1 t3 lA
 generalize hB:aQ m (d8 os f m 0)=B0 at t3
 generalize D.tup (nD os)=O at t2 t3
 have s1:o1 (oE (.ck ns) (.int i) v2 v3 v4 v5) c=.ok (.nx (oE (.ck ns) (.int i) (some (.ref c.length)) v3 v4 v5)) (c++[.lst [.int p0]]):=mZ (zy (ku (x:=.ck ns) (y:=.int i) rfl rfl hy) hp)
 have s2:o2 (oE (.ck ns) (.int i) (some (.ref c.length)) v3 v4 v5) (c++[.lst [.int p0]])=.ok (.nx (oE (.ck ns) (.int i) (some (.ref c.length)) (some A) v4 v5)) c1:=mZ (ku (x:=.ref c.length) rfl rfl t1)
 have s3:o3 (oE (.ck ns) (.int i) (some (.ref c.length)) (some A) v4 v5) c1=.ok (.nx (oE (.ck ns) (.int i) (some (.ref c.length)) (some A) (some B0) v5)) c2:=mZ (ku (x:=A) (y:=O) rfl (ku (x:=.ref c.length) rfl (cQ (x:=A) rfl (lA c1)) t2) t3)
 obtain⟨m',f',B,c3,g1,g2,gw,DJ,P3,s4⟩:=Xl (S:=.ck ns) (K:=.int i) (A:=A) (v5:=v5) P2 h1 (by omega) hB.symm (tV dH)
 obtain⟨x,RP⟩:=Xk (S:=.ck ns) (K:=.int i) (P:=.ref c.length) hA.symm DJ h1 (by omega) g1 g2 (tV hw) gw v5 c3
 obtain⟨c4,s8⟩:=Xj (S:=.ck ns) (A:=A) (B:=B) (x:=x) (i:=i) P3
 exact⟨_,_,_,_,c4,cj s1 (cj s2 (cj s3 (cj s4 (RP.trans s8))))⟩
theorem Zl(ns:List Int) (hl:ns.length≤63):∃c,uW [.ck ns] []=.ok (.bl true) c:=by
 have hsz:=b8 (n:=1000) (by decide)
 generalize hm:(if(if(8:Int)<ns.length then(8:Int)else ns.length)>1 then(if(8:Int)<ns.length then(8:Int)else ns.length)else 1)=m
 have hb:-4611686018427387904≤m∧m<4611686018427387904:=by
  rw[←hm]
  split<;>(try split)<;>omega
 obtain⟨e',c',⟨w1,w2,w3,w4,w5,rfl⟩,hf⟩:=Li (g:=az 1) (s:=xx)
  (fun e=>∃w1 w2 w3 w4 w5,e=[some (.ck ns),w1,w2,w3,w4,w5]) (aM 0 m) [some (.ck ns),none,none,none,none,none] [] ⟨_,_,_,_,_,rfl⟩ (fun t ht e c ⟨w1,w2,w3,w4,w5,he⟩=>by
   subst he
   obtain⟨i,rfl,i0,i1⟩:=o5 ht
   obtain⟨x2,x3,x4,x5,c',ho⟩:=UX (ns:=ns) i0 c w2 w3 w4 w5
   exact⟨_,_,_,c',rfl,ho,⟨_,_,_,_,_,rfl⟩⟩)
 have Dq:(bh (ao (aF rK (ao (dC (.int 1)) (ao (aF fB (ao (aF aN (ao (ak 0) aq)) (ao (dC (.int 8)) aq))) aq))) aq)) [some (.ck ns),none,none,none,none,none] []=.ok ⟨aM 0 m,fun _=>True⟩ []:=by
  simp
  simp only[gt_iff_lt]at hm
  rw[hm,if_pos (by omega)]
 have e1:=lO (g:=az 1) (s:=xx) Dq hf
 have ht:=GY (w:=[[]]) (w':=[[],[]]) (by decide) (by decide) (by decide) c'
 have d1:bQ (ao (bQ aq) aq) [some (.ck ns),w1,w2,w3,w4,w5] c'=.ok (aV [[]]) c':=by
  simp only[kK,bE,bA,R.aC]
  rw[if_pos (by show 0≤sizeLine;omega)]
  simp only[R.aC]
  rw[if_pos (by show 1≤sizeLine;omega)]
  rfl
 have d2:bQ (ao (bQ aq) (ao (bQ aq) aq)) [some (.ck ns),w1,w2,w3,w4,w5] c'=.ok (aV [[],[]]) c':=by
  simp only[kK,bE,bA,R.aC]
  rw[if_pos (by show 0≤sizeLine;omega)]
  simp only[R.aC]
  rw[if_pos (by show 0≤sizeLine;omega)]
  simp only[R.aC]
  rw[if_pos (by show 2≤sizeLine;omega)]
  rfl
 have e2:aU (au ja (aA 2 gU (ao (bQ (ao (bQ aq) aq)) (ao (bQ (ao (bQ aq) (ao (bQ aq) aq))) aq))) (dC .aG)) [some (.ck ns),w1,w2,w3,w4,w5] c'=.ok (.rt (.bl true)) c':=fJ (bH (iA d1 d2 ht) rfl rfl)
 have es:cB 6 [D.ck ns]=[some (.ck ns),none,none,none,none,none]:=rfl
 have hall:pZ [some (.ck ns),none,none,none,none,none] []=.ok (.rt (.bl true)) c':=by
  rw[Zm]
  exact cj e1 e2
 refine⟨[],?_⟩
 rw[uW,iX,es,hall]
 simp[dM,noRef]
end Ev
namespace Ev
open PySem L2 PyProof.Rows
theorem all_mk{l:PySem.W.OpenLaw}{w:World}{K:PySem.W.Frag}{h:Heap}{mg:Str→Option Value}{fa:Addr}{yG yz yH zc ze zb yC zd za yF y9 yD yE yX yO yK yQ yT yL yR yP yS yJ yZ yY yN yI yM yU yV yW Ew:Addr}(X:K.In h) (G:h.Ns mainGlobals mg) (hfa:mg "law"=some (.ref fa))
  {VY aeH VQ aeC VZ aeI Wv ae5 Wz ae7 Wu ae4 VR aeD Wy ae6 Wt ae3 VW aeG Ws ae2 VS aeE VU aeF Wl aeY V9 aeP V5 aeL Wb aeR Wg aeU V6 aeM We aeS Wa aeQ Wf aeT V3 aeK Wn ae0 Wm aeZ V8 aeO V0 aeJ V7 aeN Wh aeV Wi aeW Wj aeX Wo ae1:Option Addr}{QC Qx QD Q5 Q7 Q4 Qy Q6 Q3 QB Q2 Qz QA QX QL QH QN QT QI QO QM QS QG QZ QY QK QF QJ QU QV QW Q0:Array (Option Value)}{WH ZF acH Tz Me adi WB Zy acC Tq L7 adb WI ZG acI TF Mf adj Xf Z3 ac5 Ud ME adH Xh Z5 ac7 Ug MG adJ Xe Z2 ac4 Uc MD adG WC Zz acD Tr L8 ade Xg Z4 ac6 Ue MF adI Xb Z1 ac3 Ub MC adF WG ZE acG Tv Mc adh Xa Z0 ac2 Ua MB adE WD ZC acE Tt Ma adf WE ZD acF Tu Mb adg WZ ZW acY T6 Mx adA WQ ZN acP TR Mm adq WL ZJ acL TL Mi adm WS ZP acR TV Mp adt WV ZS acU TZ Ms adw WM ZK acM TM Mj adn WT ZQ acS TX Mq adu WR ZO acQ TU Mn ads WU ZR acT TY Mr adv WK ZI acK TJ Mh adl W8 ZY ac0 T8 Mz adC W7 ZX acZ T7 My adB WO ZM acO TQ Ml adp WJ ZH acJ TH Mg adk WN ZL acN TN Mk ado WW ZT acV T3 Mt adx WX ZU acW T4 Mu ady WY ZV acX T5 Mw adz W9 ZZ ac1 T9 MA adD:Value}
  (l5:PySem.W.nsIn K mainGlobals "moved_on"=some (some (.ref yG))) (Ca:K.lookup yG=some ⟨WH,VY,.func (PySem.W.fnOf "moved_on" "moved_on" (cP qA) (cG qA) (bf qA) .none ZF acH Tz aeH Me adi),QC⟩) (Fp:PySem.W.codeIn K Me "moved_on"=true) (CK:PySem.W.keepIn K (.ref yG)=true)
  (lW:PySem.W.nsIn K mainGlobals "side_by_side"=some (some (.ref yz))) (B5:K.lookup yz=some ⟨WB,VQ,.func (PySem.W.fnOf "side_by_side" "side_by_side" (cP qv) (cG qv) (bf qv) .none Zy acC Tq aeC L7 adb),Qx⟩) (Ff:PySem.W.codeIn K L7 "side_by_side"=true) (CF:PySem.W.keepIn K (.ref yz)=true)
  (l6:PySem.W.nsIn K mainGlobals "look_of"=some (some (.ref yH))) (Cb:K.lookup yH=some ⟨WI,VZ,.func (PySem.W.fnOf "look_of" "look_of" (cP qB) (cG qB) (bf qB) .none ZG acI TF aeI Mf adj),QD⟩) (Fq:PySem.W.codeIn K Mf "look_of"=true) (CL:PySem.W.keepIn K (.ref yH)=true)
  (mP:PySem.W.nsIn K mainGlobals "finer_colours"=some (some (.ref zc))) (CB:K.lookup zc=some ⟨Xf,Wv,.func (PySem.W.fnOf "finer_colours" "finer_colours" (cP qY) (cG qY) (bf qY) .none Z3 ac5 Ud ae5 ME adH),Q5⟩) (FY:PySem.W.codeIn K ME "finer_colours"=true) (Dc:PySem.W.keepIn K (.ref zc)=true)
  (mR:PySem.W.nsIn K mainGlobals "are_shared"=some (some (.ref ze))) (CD:K.lookup ze=some ⟨Xh,Wz,.func (PySem.W.fnOf "are_shared" "are_shared" (cP rj) (cG rj) (bf rj) .none Z5 ac7 Ug ae7 MG adJ),Q7⟩) (F0:PySem.W.codeIn K MG "are_shared"=true) (De:PySem.W.keepIn K (.ref ze)=true)
  (mO:PySem.W.nsIn K mainGlobals "finest_colours"=some (some (.ref zb))) (CA:K.lookup zb=some ⟨Xe,Wu,.func (PySem.W.fnOf "finest_colours" "finest_colours" (cP qX) (cG qX) (bf qX) .none Z2 ac4 Uc ae4 MD adG),Q4⟩) (FW:PySem.W.codeIn K MD "finest_colours"=true) (C9:PySem.W.keepIn K (.ref zb)=true)
  (lX:PySem.W.nsIn K mainGlobals "set_apart"=some (some (.ref yC))) (B6:K.lookup yC=some ⟨WC,VR,.func (PySem.W.fnOf "set_apart" "set_apart" (cP qw) (cG qw) (bf qw) .none Zz acD Tr aeD L8 ade),Qy⟩) (Fg:PySem.W.codeIn K L8 "set_apart"=true) (CG:PySem.W.keepIn K (.ref yC)=true)
  (mQ:PySem.W.nsIn K mainGlobals "are_twins"=some (some (.ref zd))) (CC:K.lookup zd=some ⟨Xg,Wy,.func (PySem.W.fnOf "are_twins" "are_twins" (cP qZ) (cG qZ) (bf qZ) .none Z4 ac6 Ue ae6 MF adI),Q6⟩) (FZ:PySem.W.codeIn K MF "are_twins"=true) (Dd:PySem.W.keepIn K (.ref zd)=true)
  (mL:PySem.W.nsIn K mainGlobals "first_open"=some (some (.ref za))) (Cz:K.lookup za=some ⟨Xb,Wt,.func (PySem.W.fnOf "first_open" "first_open" (cP qW) (cG qW) (bf qW) .none Z1 ac3 Ub ae3 MC adF),Q3⟩) (FU:PySem.W.codeIn K MC "first_open"=true) (C8:PySem.W.keepIn K (.ref za)=true)
  (l0:PySem.W.nsIn K mainGlobals "order_by"=some (some (.ref yF))) (B9:K.lookup yF=some ⟨WG,VW,.func (PySem.W.fnOf "order_by" "order_by" (cP qz) (cG qz) (bf qz) .none ZE acG Tv aeG Mc adh),QB⟩) (Fo:PySem.W.codeIn K Mc "order_by"=true) (CJ:PySem.W.keepIn K (.ref yF)=true)
  (kG:PySem.W.nsIn K mainGlobals "first_order"=some (some (.ref y9))) (Cy:K.lookup y9=some ⟨Xa,Ws,.func (PySem.W.fnOf "first_order" "first_order" (cP qV) (cG qV) (bf qV) .none Z0 ac2 Ua ae2 MB adE),Q2⟩) (FT:PySem.W.codeIn K MB "first_order"=true) (C7:PySem.W.keepIn K (.ref y9)=true)
  (lY:PySem.W.nsIn K mainGlobals "require_few"=some (some (.ref yD))) (B7:K.lookup yD=some ⟨WD,VS,.func (PySem.W.fnOf "require_few" "require_few" (cP qx) (cG qx) (bf qx) .none ZC acE Tt aeE Ma adf),Qz⟩) (Fi:PySem.W.codeIn K Ma "require_few"=true) (CH:PySem.W.keepIn K (.ref yD)=true)
  (lZ:PySem.W.nsIn K mainGlobals "order_to"=some (some (.ref yE))) (B8:K.lookup yE=some ⟨WE,VU,.func (PySem.W.fnOf "order_to" "order_to" (cP qy) (cG qy) (bf qy) .none ZD acF Tu aeF Mb adg),QA⟩) (Fj:PySem.W.codeIn K Mb "order_to"=true) (CI:PySem.W.keepIn K (.ref yE)=true)
  (mH:PySem.W.nsIn K mainGlobals "_law_cell_at"=some (some (.ref yX))) (Ct:K.lookup yX=some ⟨WZ,Wl,.func (PySem.W.fnOf "_law_cell_at" "_law_cell_at" (cP qR) (cG qR) (bf qR) .none ZW acY T6 aeY Mx adA),QX⟩) (FN:PySem.W.codeIn K Mx "_law_cell_at"=true) (C3:PySem.W.keepIn K (.ref yX)=true)
  (mq:PySem.W.nsIn K mainGlobals "_law_pot"=some (some (.ref yO))) (Cj:K.lookup yO=some ⟨WQ,V9,.func (PySem.W.fnOf "_law_pot" "_law_pot" (cP qI) (cG qI) (bf qI) .none ZN acP TR aeP Mm adq),QL⟩) (FA:PySem.W.codeIn K Mm "_law_pot"=true) (CT:PySem.W.keepIn K (.ref yO)=true)
  (l9:PySem.W.nsIn K mainGlobals "_law_take"=some (some (.ref yK))) (Ce:K.lookup yK=some ⟨WL,V5,.func (PySem.W.fnOf "_law_take" "_law_take" (cP qE) (cG qE) (bf qE) .none ZJ acL TL aeL Mi adm),QH⟩) (Fw:PySem.W.codeIn K Mi "_law_take"=true) (CO:PySem.W.keepIn K (.ref yK)=true)
  (mz:PySem.W.nsIn K mainGlobals "_law_order"=some (some (.ref yQ))) (Cm:K.lookup yQ=some ⟨WS,Wb,.func (PySem.W.fnOf "_law_order" "_law_order" (cP qK) (cG qK) (bf qK) .none ZP acR TV aeR Mp adt),QN⟩) (FE:PySem.W.codeIn K Mp "_law_order"=true) (CV:PySem.W.keepIn K (.ref yQ)=true)
  (mE:PySem.W.nsIn K mainGlobals "_law_joined"=some (some (.ref yT))) (Cp:K.lookup yT=some ⟨WV,Wg,.func (PySem.W.fnOf "_law_joined" "_law_joined" (cP qN) (cG qN) (bf qN) .none ZS acU TZ aeU Ms adw),QT⟩) (FH:PySem.W.codeIn K Ms "_law_joined"=true) (CZ:PySem.W.keepIn K (.ref yT)=true)
  (mh:PySem.W.nsIn K mainGlobals "_law_scattered"=some (some (.ref yL))) (Cf:K.lookup yL=some ⟨WM,V6,.func (PySem.W.fnOf "_law_scattered" "_law_scattered" (cP qF) (cG qF) (bf qF) .none ZK acM TM aeM Mj adn),QI⟩) (Fx:PySem.W.codeIn K Mj "_law_scattered"=true) (CP:PySem.W.keepIn K (.ref yL)=true)
  (mC:PySem.W.nsIn K mainGlobals "_law_near"=some (some (.ref yR))) (Cn:K.lookup yR=some ⟨WT,We,.func (PySem.W.fnOf "_law_near" "_law_near" (cP qL) (cG qL) (bf qL) .none ZQ acS TX aeS Mq adu),QO⟩) (FF:PySem.W.codeIn K Mq "_law_near"=true) (CW:PySem.W.keepIn K (.ref yR)=true)
  (mw:PySem.W.nsIn K mainGlobals "_law_plain"=some (some (.ref yP))) (Ck:K.lookup yP=some ⟨WR,Wa,.func (PySem.W.fnOf "_law_plain" "_law_plain" (cP qJ) (cG qJ) (bf qJ) .none ZO acQ TU aeQ Mn ads),QM⟩) (FD:PySem.W.codeIn K Mn "_law_plain"=true) (CU:PySem.W.keepIn K (.ref yP)=true)
  (mD:PySem.W.nsIn K mainGlobals "_law_moved"=some (some (.ref yS))) (Co:K.lookup yS=some ⟨WU,Wf,.func (PySem.W.fnOf "_law_moved" "_law_moved" (cP qM) (cG qM) (bf qM) .none ZR acT TY aeT Mr adv),QS⟩) (FG:PySem.W.codeIn K Mr "_law_moved"=true) (CY:PySem.W.keepIn K (.ref yS)=true)
  (l8:PySem.W.nsIn K mainGlobals "_law_toggled"=some (some (.ref yJ))) (Cd:K.lookup yJ=some ⟨WK,V3,.func (PySem.W.fnOf "_law_toggled" "_law_toggled" (cP qD) (cG qD) (bf qD) .none ZI acK TJ aeK Mh adl),QG⟩) (Fv:PySem.W.codeIn K Mh "_law_toggled"=true) (CN:PySem.W.keepIn K (.ref yJ)=true)
  (mK:PySem.W.nsIn K mainGlobals "_law_about"=some (some (.ref yZ))) (Cv:K.lookup yZ=some ⟨W8,Wn,.func (PySem.W.fnOf "_law_about" "_law_about" (cP qT) (cG qT) (bf qT) .none ZY ac0 T8 ae0 Mz adC),QZ⟩) (FP:PySem.W.codeIn K Mz "_law_about"=true) (C5:PySem.W.keepIn K (.ref yZ)=true)
  (mJ:PySem.W.nsIn K mainGlobals "_law_built"=some (some (.ref yY))) (Cu:K.lookup yY=some ⟨W7,Wm,.func (PySem.W.fnOf "_law_built" "_law_built" (cP qS) (cG qS) (bf qS) .none ZX acZ T7 aeZ My adB),QY⟩) (FO:PySem.W.codeIn K My "_law_built"=true) (C4:PySem.W.keepIn K (.ref yY)=true)
  (mj:PySem.W.nsIn K mainGlobals "_law_rows"=some (some (.ref yN))) (Ci:K.lookup yN=some ⟨WO,V8,.func (PySem.W.fnOf "_law_rows" "_law_rows" (cP qH) (cG qH) (bf qH) .none ZM acO TQ aeO Ml adp),QK⟩) (Fz:PySem.W.codeIn K Ml "_law_rows"=true) (CS:PySem.W.keepIn K (.ref yN)=true)
  (l7:PySem.W.nsIn K mainGlobals "_law_whole"=some (some (.ref yI))) (Cc:K.lookup yI=some ⟨WJ,V0,.func (PySem.W.fnOf "_law_whole" "_law_whole" (cP qC) (cG qC) (bf qC) .none ZH acJ TH aeJ Mg adk),QF⟩) (Ft:PySem.W.codeIn K Mg "_law_whole"=true) (CM:PySem.W.keepIn K (.ref yI)=true)
  (kD:PySem.W.nsIn K mainGlobals "_law_same"=some (some (.ref yM))) (Cg:K.lookup yM=some ⟨WN,V7,.func (PySem.W.fnOf "_law_same" "_law_same" (cP qG) (cG qG) (bf qG) .none ZL acN TN aeN Mk ado),QJ⟩) (Fy:PySem.W.codeIn K Mk "_law_same"=true) (CQ:PySem.W.keepIn K (.ref yM)=true)
  (mF:PySem.W.nsIn K mainGlobals "_law_is_led"=some (some (.ref yU))) (Cq:K.lookup yU=some ⟨WW,Wh,.func (PySem.W.fnOf "_law_is_led" "_law_is_led" (cP qO) (cG qO) (bf qO) .none ZT acV T3 aeV Mt adx),QU⟩) (FI:PySem.W.codeIn K Mt "_law_is_led"=true) (C0:PySem.W.keepIn K (.ref yU)=true)
  (kE:PySem.W.nsIn K mainGlobals "_law_first_order"=some (some (.ref yV))) (Cr:K.lookup yV=some ⟨WX,Wi,.func (PySem.W.fnOf "_law_first_order" "_law_first_order" (cP qP) (cG qP) (bf qP) .none ZU acW T4 aeW Mu ady),QV⟩) (FJ:PySem.W.codeIn K Mu "_law_first_order"=true) (C1:PySem.W.keepIn K (.ref yV)=true)
  (mG:PySem.W.nsIn K mainGlobals "_law_far_right"=some (some (.ref yW))) (Cs:K.lookup yW=some ⟨WY,Wj,.func (PySem.W.fnOf "_law_far_right" "_law_far_right" (cP qQ) (cG qQ) (bf qQ) .none ZV acX T5 aeX Mw adz),QW⟩) (FL:PySem.W.codeIn K Mw "_law_far_right"=true) (C2:PySem.W.keepIn K (.ref yW)=true)
  (kF:PySem.W.nsIn K mainGlobals "law"=some (some (.ref Ew))) (Cw:K.lookup Ew=some ⟨W9,Wo,.func (PySem.W.fnOf "law" "law" (cP qU) (cG qU) (bf qU) .none ZZ ac1 T9 ae1 MA adD),Q0⟩) (FQ:PySem.W.codeIn K MA "law"=true) (C6:PySem.W.keepIn K (.ref Ew)=true)
  (z8:PySem.W.nsIn K mainGlobals "all"=some none)
  (z7:PySem.W.nsIn K mainGlobals "any"=some none)
  (z6:PySem.W.nsIn K mainGlobals "bool"=some none)
  (z5:PySem.W.nsIn K mainGlobals "enumerate"=some none)
  (zZ:PySem.W.nsIn K mainGlobals "int"=some none)
  (zY:PySem.W.nsIn K mainGlobals "isinstance"=some none)
  (zX:PySem.W.nsIn K mainGlobals "len"=some none)
  (zW:PySem.W.nsIn K mainGlobals "list"=some none)
  (zV:PySem.W.nsIn K mainGlobals "max"=some none)
  (zU:PySem.W.nsIn K mainGlobals "min"=some none)
  (zT:PySem.W.nsIn K mainGlobals "range"=some none)
  (zS:PySem.W.nsIn K mainGlobals "set"=some none)
  (zR:PySem.W.nsIn K mainGlobals "sorted"=some none)
  (zQ:PySem.W.nsIn K mainGlobals "str"=some none)
  (zP:PySem.W.nsIn K mainGlobals "tuple"=some none)
  (zO:PySem.W.nsIn K mainGlobals "zip"=some none)
  {ua:Tok}(Aa:PySem.W.nsIn K mainGlobals "MOST_LED"=some (some (.int 12 ua)))
  {uc:Tok}(Ab:PySem.W.nsIn K mainGlobals "MOST_EVEN_LED"=some (some (.int 28 uc)))
  : ∃fd:FuncData,(∀(s:Shared) (v:Value),BindsTo s fd ⟨[v],[]⟩ [("script",v)])∧∀base:Heap,K.In base→base.Ns mainGlobals mg→bY l.prog w K mg base bU 21 fa fd ["script"] (cC K 1 uW):=by
 have e:=hfa.symm.trans (ahA X G kF)
 cases e
 have Nn:=c9 (st:=qA) Ca Fp CK
 have vM:=Nn.binds (ps:=["row","many"]) fun _ _ _ _ _ _ us hl=>match us,hl with|[_,_],_=>rfl
 have Ni:=c9 (st:=qv) B5 Ff CF
 have vL:=Ni.binds (ps:=["one","other"]) fun _ _ _ _ _ _ us hl=>match us,hl with|[_,_],_=>rfl
 have Np:=c9 (st:=qB) Cb Fq CL
 have vN:=Np.binds (ps:=["both","colours","place"]) fun _ _ _ _ _ _ us hl=>match us,hl with|[_,_,_],_=>rfl
 have NR:=c9 (st:=qY) CB FY Dc
 have tF:=NR.binds (ps:=["both","colours"]) fun _ _ _ _ _ _ us hl=>match us,hl with|[_,_],_=>rfl
 have NT:=c9 (st:=rj) CD F0 De
 have tG:=NT.binds (ps:=["colours"]) fun _ _ _ _ _ _ us hl=>match us,hl with|[_],_=>rfl
 have NQ:=c9 (st:=qX) CA FW C9
 have tE:=NQ.binds (ps:=["both","colours"]) fun _ _ _ _ _ _ us hl=>match us,hl with|[_,_],_=>rfl
 have Nj:=c9 (st:=qw) B6 Fg CG
 have sI:=Nj.binds (ps:=["colours","one","other"]) fun _ _ _ _ _ _ us hl=>match us,hl with|[_,_,_],_=>rfl
 have NS:=c9 (st:=qZ) CC FZ Dd
 have vO:=NS.binds (ps:=["web","one","other"]) fun _ _ _ _ _ _ us hl=>match us,hl with|[_,_,_],_=>rfl
 have NP:=c9 (st:=qW) Cz FU C8
 have tu:=NP.binds (ps:=["both","colours"]) fun _ _ _ _ _ _ us hl=>match us,hl with|[_,_],_=>rfl
 have Nm:=c9 (st:=qz) B9 Fo CJ
 have sM:=Nm.binds (ps:=["colours"]) fun _ _ _ _ _ _ us hl=>match us,hl with|[_],_=>rfl
 have NO:=c9 (st:=qV) Cy FT C7
 have jF:=NO.binds (ps:=["both","colours"]) fun _ _ _ _ _ _ us hl=>match us,hl with|[_,_],_=>rfl
 have Nk:=c9 (st:=qx) B7 Fi CH
 have sJ:=Nk.binds (ps:=["web","most","most_even"]) fun _ _ _ _ _ _ us hl=>match us,hl with|[_,_,_],_=>rfl
 have Nl:=c9 (st:=qy) B8 Fj CI
 have sL:=Nl.binds (ps:=["one","other"]) fun _ _ _ _ _ _ us hl=>match us,hl with|[_,_],_=>rfl
 have NJ:=c9 (st:=qR) Ct FN C3
 have pY:=NJ.binds (ps:=["script","k"]) fun _ _ _ _ _ _ us hl=>match us,hl with|[_,_],_=>rfl
 have Ny:=c9 (st:=qI) Cj FA CT
 have pX:=Ny.binds (ps:=["cell"]) fun _ _ _ _ _ _ us hl=>match us,hl with|[_],_=>rfl
 have Nt:=c9 (st:=qE) Ce Fw CO
 have pW:=Nt.binds (ps:=["pot","far"]) fun _ _ _ _ _ _ us hl=>match us,hl with|[_,_],_=>rfl
 have NB:=c9 (st:=qK) Cm FE CV
 have sS:=NB.binds (ps:=["pot","wide"]) fun _ _ _ _ _ _ us hl=>match us,hl with|[_,_],_=>rfl
 have NF:=c9 (st:=qN) Cp FH CZ
 have sW:=NF.binds (ps:=["many","wanted"]) fun _ _ _ _ _ _ us hl=>match us,hl with|[_,_],_=>rfl
 have Nu:=c9 (st:=qF) Cf Fx CP
 have sP:=Nu.binds (ps:=["pot","most"]) fun _ _ _ _ _ _ us hl=>match us,hl with|[_,_],_=>rfl
 have NC:=c9 (st:=qL) Cn FF CW
 have sU:=NC.binds (ps:=["many","marks"]) fun _ _ _ _ _ _ us hl=>match us,hl with|[_,_],_=>rfl
 have Nz:=c9 (st:=qJ) Ck FD CU
 have sR:=Nz.binds (ps:=["pot","most"]) fun _ _ _ _ _ _ us hl=>match us,hl with|[_,_],_=>rfl
 have ND:=c9 (st:=qM) Co FG CY
 have sV:=ND.binds (ps:=["table","order"]) fun _ _ _ _ _ _ us hl=>match us,hl with|[_,_],_=>rfl
 have Nr:=c9 (st:=qD) Cd Fv CN
 have sO:=Nr.binds (ps:=["table","one","other"]) fun _ _ _ _ _ _ us hl=>match us,hl with|[_,_,_],_=>rfl
 have NL:=c9 (st:=qT) Cv FP C5
 have sZ:=NL.binds (ps:=["table"]) fun _ _ _ _ _ _ us hl=>match us,hl with|[_],_=>rfl
 have NK:=c9 (st:=qS) Cu FO C4
 have sY:=NK.binds (ps:=["pot","most"]) fun _ _ _ _ _ _ us hl=>match us,hl with|[_,_],_=>rfl
 have Nx:=c9 (st:=qH) Ci Fz CS
 have sQ:=Nx.binds (ps:=["table"]) fun _ _ _ _ _ _ us hl=>match us,hl with|[_],_=>rfl
 have Nq:=c9 (st:=qC) Cc Ft CM
 have sN:=Nq.binds (ps:=["found"]) fun _ _ _ _ _ _ us hl=>match us,hl with|[_],_=>rfl
 have Nv:=c9 (st:=qG) Cg Fy CQ
 have lT:=Nv.binds (ps:=["found","due"]) fun _ _ _ _ _ _ us hl=>match us,hl with|[_,_],_=>rfl
 have NG:=c9 (st:=qO) Cq FI C0
 have sX:=NG.binds (ps:=["one","other","order"]) fun _ _ _ _ _ _ us hl=>match us,hl with|[_,_,_],_=>rfl
 have NH:=c9 (st:=qP) Cr FJ C1
 have kC:=NH.binds (ps:=["one","other","images"]) fun _ _ _ _ _ _ us hl=>match us,hl with|[_,_,_],_=>rfl
 have NI:=c9 (st:=qQ) Cs FL C2
 have nU:=NI.binds (ps:=["pot"]) fun _ _ _ _ _ _ us hl=>match us,hl with|[_],_=>rfl
 have NN:=c9 (st:=qU) Cw FQ C6
 have pZ:=NN.binds (ps:=["script"]) fun _ _ _ _ _ _ us hl=>match us,hl with|[_],_=>rfl
 let T:Tx K mg:={
  l5:=yG,D4:=_,EJ:=⟨Nn,ahA X G l5,vM⟩,X8:=l5,
  lW:=yz,DX:=_,EG:=⟨Ni,ahA X G lW,vL⟩,XX:=lW,
  l6:=yH,D5:=_,EK:=⟨Np,ahA X G l6,vN⟩,Yb:=l6,
  mP:=zc,Es:=_,zp:=⟨NR,ahA X G mP,tF⟩,Yz:=mP,
  mR:=ze,Eu:=_,zq:=⟨NT,ahA X G mR,tG⟩,YB:=mR,
  mO:=zb,Er:=_,EX:=⟨NQ,ahA X G mO,tE⟩,Yy:=mO,
  lX:=yC,DY:=_,EH:=⟨Nj,ahA X G lX,sI⟩,XY:=lX,
  mQ:=zd,Et:=_,EY:=⟨NS,ahA X G mQ,vO⟩,YA:=mQ,
  mL:=za,Ep:=_,EW:=⟨NP,ahA X G mL,tu⟩,Yx:=mL,
  l0:=yF,D3:=_,EI:=⟨Nm,ahA X G l0,sM⟩,X7:=l0,
  kG:=y9,yy:=_,zo:=⟨NO,ahA X G kG,jF⟩,Yw:=kG,
  lY:=yD,DZ:=_,zh:=⟨Nk,ahA X G lY,sJ⟩,XZ:=lY,
  lZ:=yE,D0:=_,vA:=⟨Nl,ahA X G lZ,sL⟩,X0:=lZ,
  mH:=yX,Ek:=_,EU:=⟨NJ,ahA X G mH,pY⟩,Ys:=mH,
  mq:=yO,Eb:=_,EO:=⟨Ny,ahA X G mq,pX⟩,Yj:=mq,
  l9:=yK,D8:=_,fW:=⟨Nt,ahA X G l9,pW⟩,Ye:=l9,
  mz:=yQ,Ed:=_,vB:=⟨NB,ahA X G mz,sS⟩,Yl:=mz,
  mE:=yT,Eh:=_,zl:=⟨NF,ahA X G mE,sW⟩,Yo:=mE,
  mh:=yL,D9:=_,EN:=⟨Nu,ahA X G mh,sP⟩,Yg:=mh,
  mC:=yR,Ef:=_,zk:=⟨NC,ahA X G mC,sU⟩,Ym:=mC,
  mw:=yP,Ec:=_,ER:=⟨Nz,ahA X G mw,sR⟩,Yk:=mw,
  mD:=yS,Eg:=_,vC:=⟨ND,ahA X G mD,sV⟩,Yn:=mD,
  l8:=yJ,D7:=_,EM:=⟨Nr,ahA X G l8,sO⟩,Yd:=l8,
  mK:=yZ,Em:=_,EV:=⟨NL,ahA X G mK,sZ⟩,Yu:=mK,
  mJ:=yY,El:=_,vD:=⟨NK,ahA X G mJ,sY⟩,Yt:=mJ,
  mj:=yN,Ea:=_,sE:=⟨Nx,ahA X G mj,sQ⟩,Yi:=mj,
  l7:=yI,D6:=_,EL:=⟨Nq,ahA X G l7,sN⟩,Yc:=l7,
  kD:=yM,yw:=_,zj:=⟨Nv,ahA X G kD,lT⟩,Yh:=kD,
  mF:=yU,Ei:=_,ES:=⟨NG,ahA X G mF,sX⟩,Yp:=mF,
  kE:=yV,yx:=_,zm:=⟨NH,ahA X G kE,kC⟩,Yq:=kE,
  mG:=yW,Ej:=_,ET:=⟨NI,ahA X G mG,nU⟩,Yr:=mG,
  kF:=fa,Eo:=_,LK:=⟨NN,ahA X G kF,pZ⟩,Yv:=kF,
  BF:=ah3 X G z8,
  BE:=ah3 X G z7,
  xU:=ah3 X G z6,
  BD:=ah3 X G z5,
  BC:=ah3 X G zZ,
  iK:=ah3 X G zY,
  cW:=ah3 X G zX,
  uN:=ah3 X G zW,
  BB:=ah3 X G zV,
  ni:=ah3 X G zU,
  cO:=ah3 X G zT,
  xT:=ah3 X G zS,
  rH:=ah3 X G zR,
  BA:=ah3 X G zQ,
  i9:=ah3 X G zP,
  Jm:=ah3 X G zO,
  ua:=ua,DP:=ahA X G Aa,
  uc:=uc,DQ:=ahA X G Ab}
 exact⟨_,fun s v=>.of_eq rfl,fun base _ _=>VI T⟩
theorem walk{l:PySem.W.OpenLaw}{q:Program}{loose:List Str}{XP:(Str→Option Value)→Heap→Prop}{YP:World→Heap→Prop}{d:DefRec}{K:Params→PySem.W.Frag}{ts:List (Addr×Addr)}(hn:l.most=some 63) (hdf:d.params.defaults=[])
  (hY:∀(w:World) (h:Heap),YP w h→(K w.params).In h∧∀q∈ts,h.get? q.2=some (PySem.W.tabObj #[]))
  (hK:∀p,(ts.all fun q=>PySem.W.codeHdIn (K p) q.1 q.2)=true∧PySem.W.noTabs (K p)=true∧Az (K p) ts=true)
  (F:∀(w:World) (mg:Str→Option Value) (fa:Addr) (h:Heap),(K w.params).In h→h.Ns mainGlobals mg→mg d.name=some (.ref fa) →
   ∃fd:FuncData,(∀(s:Shared) (u:Value),BindsTo s fd ⟨[u],[]⟩ [("script",u)])∧∀base:Heap,(K w.params).In base→base.Ns mainGlobals mg→bY l.prog w (K w.params) mg base bU 21 fa fd ["script"] (cC (K w.params) 1 uW)) :
  PySem.W.WalkO q loose XP YP l.row.toRowW d [] (fun f vs=>PySem.call f vs) :=
 L2.Ow (n:=63) (k:=21) (x:="script") hn (by decide) hdf ⟨rfl,by decide,by decide⟩ hY hK F Zl
end Ev
noncomputable 
def PySem.W.Fast.tw5590442533334778908:Nat:=0
noncomputable def PySem.W.Fast.tw2601703901968520943:Nat:=0
noncomputable def PySem.W.Fast.tw14446642517584244260:Nat:=0
noncomputable def PySem.W.Fast.tw1433978840712315498:Nat:=0
noncomputable def PySem.W.Fast.tw90150235101449613:Nat:=0
noncomputable def PySem.W.Fast.tw8598642534264080124:Nat:=0
noncomputable def PySem.W.Fast.tw9542981895117200530:Nat:=0
noncomputable def PySem.W.Fast.tw9489016089134759948:Nat:=0
noncomputable def PySem.W.Fast.tw14338701002926013459:Nat:=0
noncomputable def PySem.W.Fast.tw16029540187624850562:Nat:=0
noncomputable def PySem.W.Fast.tw10274580684859412442:Nat:=0
noncomputable def PySem.W.Fast.tw14540310061061355215:Nat:=0
noncomputable def PySem.W.Fast.tw13433722894598373595:Nat:=0
noncomputable def PySem.W.Fast.tw4862732602189270847:Nat:=0
noncomputable def PySem.W.Fast.tw3632315716822253614:Nat:=0
noncomputable def PySem.W.Fast.tw3603081354318550553:Nat:=0
noncomputable def PySem.W.Fast.tw7208836797619785320:Nat:=0
noncomputable def PySem.W.Fast.tw9263945100621254458:Nat:=0
noncomputable def PySem.W.Fast.tw5305692490737531352:Nat:=0
noncomputable def PySem.W.Fast.tw7137009867505011546:Nat:=0
noncomputable def PySem.W.Fast.tw16559268059149200633:Nat:=0
noncomputable def PySem.W.Fast.tw3832263886351843778:Nat:=0
noncomputable def PySem.W.Fast.tw6012020661063022115:Nat:=0
noncomputable def PySem.W.Fast.tw11442460445553021309:Nat:=0
noncomputable def PySem.W.Fast.tw3443905182288870521:Nat:=0
noncomputable def PySem.W.Fast.tw3776034235712650000:Nat:=0
noncomputable def PySem.W.Fast.tw18109890511351924953:Nat:=0
noncomputable def PySem.W.Fast.tw17741967602372470271:Nat:=0
noncomputable def PySem.W.Fast.tw3166431717527611371:Nat:=0
noncomputable def PySem.W.Fast.tw3855942974984643478:Nat:=0
noncomputable def PySem.W.Fast.tw392607319141623878:Nat:=0
noncomputable def PySem.W.Fast.tw1484330544738699789:Nat:=0
noncomputable def PySem.W.Fast.tw12866259874259662564:Nat:=0
noncomputable def PySem.W.Fast.tw1292030222506969422:Nat:=0
noncomputable def PySem.W.Fast.tw6838639626879788558:Nat:=0
noncomputable def PySem.W.Fast.tw5653695026401362745:Nat:=0
noncomputable def PySem.W.Fast.tw8614523708433774556:Nat:=0
noncomputable def PySem.W.Fast.tw6756504254273627072:Nat:=0
noncomputable def PySem.W.Fast.tw7713332433556994822:Nat:=0
noncomputable def PySem.W.Fast.tw1828488595896138549:Nat:=0
open PySem PySem.W PyProof.Rows
set_option maxRecDepth 100000 in
set_option maxHeartbeats 0 in
theorem PySem.Challenge.cw_evenwebs_k62_first_orders_holds : PySem.Challenge.rw_evenwebs_k62_first_orders.Holds := by
  w_on; o_law; k_head; (case hw => w_witness2)
  k_fill
  refine Ev.walk (l := PySem.Challenge.rw_evenwebs_k62_first_orders) (ts := [(60, 56)]) rfl rfl (fun w h Y => ⟨PySem.W.km_in_of Y, List.forall_mem_cons.mpr ⟨PySem.W.km_tabs_of Y _ (by first | k_mem | decide), fun _ h => nomatch h⟩⟩) (fun p => ⟨by kernel_rfl, by kernel_rfl, by kernel_rfl⟩) ?F
  case F =>
    intro w mg fa h KX G hmg
    refine' Ev.all_mk KX G hmg ?l5 ?Ca ?Fp ?CK ?lW ?B5 ?Ff ?CF ?l6 ?Cb ?Fq ?CL ?mP ?CB ?FY ?Dc ?mR ?CD ?F0 ?De ?mO ?CA ?FW ?C9 ?lX ?B6 ?Fg ?CG ?mQ ?CC ?FZ ?Dd ?mL ?Cz ?FU ?C8 ?l0 ?B9 ?Fo ?CJ ?kG ?Cy ?FT ?C7 ?lY ?B7 ?Fi ?CH ?lZ ?B8 ?Fj ?CI ?mH ?Ct ?FN ?C3 ?mq ?Cj ?FA ?CT ?l9 ?Ce ?Fw ?CO ?mz ?Cm ?FE ?CV ?mE ?Cp ?FH ?CZ ?mh ?Cf ?Fx ?CP ?mC ?Cn ?FF ?CW ?mw ?Ck ?FD ?CU ?mD ?Co ?FG ?CY ?l8 ?Cd ?Fv ?CN ?mK ?Cv ?FP ?C5 ?mJ ?Cu ?FO ?C4 ?mj ?Ci ?Fz ?CS ?l7 ?Cc ?Ft ?CM ?kD ?Cg ?Fy ?CQ ?mF ?Cq ?FI ?C0 ?kE ?Cr ?FJ ?C1 ?mG ?Cs ?FL ?C2 ?kF ?Cw ?FQ ?C6 ?z8 ?z7 ?z6 ?z5 ?zZ ?zY ?zX ?zW ?zV ?zU ?zT ?zS ?zR ?zQ ?zP ?zO ?Aa ?Ab
    (case l5 => k_is)
    (case Ca => k_is)
    (case Fp => k_is)
    (case CK => k_is)
    (case lW => k_is)
    (case B5 => k_is)
    (case Ff => k_is)
    (case CF => k_is)
    (case l6 => k_is)
    (case Cb => k_is)
    (case Fq => k_is)
    (case CL => k_is)
    (case mP => k_is)
    (case CB => k_is)
    (case FY => k_is)
    (case Dc => k_is)
    (case mR => k_is)
    (case CD => k_is)
    (case F0 => k_is)
    (case De => k_is)
    (case mO => k_is)
    (case CA => k_is)
    (case FW => k_is)
    (case C9 => k_is)
    (case lX => k_is)
    (case B6 => k_is)
    (case Fg => k_is)
    (case CG => k_is)
    (case mQ => k_is)
    (case CC => k_is)
    (case FZ => k_is)
    (case Dd => k_is)
    (case mL => k_is)
    (case Cz => k_is)
    (case FU => k_is)
    (case C8 => k_is)
    (case l0 => k_is)
    (case B9 => k_is)
    (case Fo => k_is)
    (case CJ => k_is)
    (case kG => k_is)
    (case Cy => k_is)
    (case FT => k_is)
    (case C7 => k_is)
    (case lY => k_is)
    (case B7 => k_is)
    (case Fi => k_is)
    (case CH => k_is)
    (case lZ => k_is)
    (case B8 => k_is)
    (case Fj => k_is)
    (case CI => k_is)
    (case mH => k_is)
    (case Ct => k_is)
    (case FN => k_is)
    (case C3 => k_is)
    (case mq => k_is)
    (case Cj => k_is)
    (case FA => k_is)
    (case CT => k_is)
    (case l9 => k_is)
    (case Ce => k_is)
    (case Fw => k_is)
    (case CO => k_is)
    (case mz => k_is)
    (case Cm => k_is)
    (case FE => k_is)
    (case CV => k_is)
    (case mE => k_is)
    (case Cp => k_is)
    (case FH => k_is)
    (case CZ => k_is)
    (case mh => k_is)
    (case Cf => k_is)
    (case Fx => k_is)
    (case CP => k_is)
    (case mC => k_is)
    (case Cn => k_is)
    (case FF => k_is)
    (case CW => k_is)
    (case mw => k_is)
    (case Ck => k_is)
    (case FD => k_is)
    (case CU => k_is)
    (case mD => k_is)
    (case Co => k_is)
    (case FG => k_is)
    (case CY => k_is)
    (case l8 => k_is)
    (case Cd => k_is)
    (case Fv => k_is)
    (case CN => k_is)
    (case mK => k_is)
    (case Cv => k_is)
    (case FP => k_is)
    (case C5 => k_is)
    (case mJ => k_is)
    (case Cu => k_is)
    (case FO => k_is)
    (case C4 => k_is)
    (case mj => k_is)
    (case Ci => k_is)
    (case Fz => k_is)
    (case CS => k_is)
    (case l7 => k_is)
    (case Cc => k_is)
    (case Ft => k_is)
    (case CM => k_is)
    (case kD => k_is)
    (case Cg => k_is)
    (case Fy => k_is)
    (case CQ => k_is)
    (case mF => k_is)
    (case Cq => k_is)
    (case FI => k_is)
    (case C0 => k_is)
    (case kE => k_is)
    (case Cr => k_is)
    (case FJ => k_is)
    (case C1 => k_is)
    (case mG => k_is)
    (case Cs => k_is)
    (case FL => k_is)
    (case C2 => k_is)
    (case kF => k_is)
    (case Cw => k_is)
    (case FQ => k_is)
    (case C6 => k_is)
    (case z8 => k_is)
    (case z7 => k_is)
    (case z6 => k_is)
    (case z5 => k_is)
    (case zZ => k_is)
    (case zY => k_is)
    (case zX => k_is)
    (case zW => k_is)
    (case zV => k_is)
    (case zU => k_is)
    (case zT => k_is)
    (case zS => k_is)
    (case zR => k_is)
    (case zQ => k_is)
    (case zP => k_is)
    (case zO => k_is)
    (case Aa => k_is)
    (case Ab => k_is)
