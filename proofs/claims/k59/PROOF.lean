import PyProof.Rows.All
import Wide.All
import OpenK.AllK
import Wide.FinOn
import Lean
import PyProof.EqAt
import PyProof.EqKinds
import PyProof.TupleCall
import PySem.Challenge.RW_evenwebs_k59_whole_cuts_and_squares_acro
import PyProof.P3In
import PyProof.EqLayable
import PyProof.Rows.SeqMore
import PyProof.DictRoads
import PyProof.DictKinds
import PyProof.Rows.FactsT2
import KE.KRevIter
import PyProof.SetScanFacts
import PyProof.SetKind
import PyProof.Rows.SetFrom
import PyProof.Walks
import PyProof.DictValues
import PyProof.FactsAll.set_1
import PyProof.DictWalks
import KE.KDictSum
import PyProof.SetRoads
import PyProof.MeetsSeq2
import PyProof.WalksMore
import PyProof.AutoSeq1
import PyProof.ListRange
import PyProof.Rows.SortShell
import PyProof.TupleOfSeq
set_option Elab.async false
set_option linter.all false
set_option maxHeartbeats 4000000
set_option maxRecDepth 100000
set_option bootstrap.genMatcherCode false
set_option genSizeOfSpec false
set_option genSizeOf false
open PySem renaming wpAny_bind→afq,wpAny_pure→afr,boot_len→afZ,wpAny_mono→af6,wpAny_field→agj,wpAny_holding→agl,wpAny_seqItems→agq,wpAny_truthy_bool→agv,codeAny_mono→agw,wpAny_call_entry→agy,wpAny_setState_of→agB,mem_of_lookup→agF,codeAny_builtin→agJ,call_meets→agN,sizeLine_eq→agT,wpAny_newObj_type→agZ,wpAny_callSpecial?_slot→ag0,wpAny_setField_rec→ag2,wpAny_pyIter_list→ahg,wpAny_passesOwn→ahh,wpAny_setField→ahk,wpAny_of_eq→ahl,wpAny_askSetting→ahu,wpAny_pyIter_tuple→ahG,wpAny_call→ahI,wpAny_rule→ahP,wpAny_onRaise→ahR,wpAny_attempt→ahS,wpAny_storeSet_of→ah4,codeAny_of_tree→ah7,isSubtype_type→ah8,wpAny_execs_nil→aia,wpAny_standAt→aib,wpAny_Call_Name_kw→aih,concat_meets→ail,noFill_tuple_add→aim,seq_tuple_add→ain,pushCells_keeps→aiw,wpAny_updateSeq_pair→aiB,wpAny_isInstance→aiC,wpAny_pyIter_zip→aiD,hashByValue_scannable→aiT,plainId_quiet→aiW,weight_type_call_type→ai0,codeAny_call_builtin→ai2,check_set_init_1→ai4,wpAny_runValue→ai5,wpAny_setEntries_of→ai7,list_append→ajj,wpAny_comprehension_free→ajl,filterMap_getElem?_range→ajA,builtinLookup_eq_fast→ajF
open Nat renaming le_refl→afs,ne_of_lt→afB,lt_of_lt_of_le→afH,le_trans→afL,lt_irrefl→agf,ne_of_gt→agm,lt_succ_of_lt→agp,zero_le→ags,mod_lt→agt,lt_succ_self→agx,zero_add→agA,le_of_lt→agL,le_succ→agW,le_of_eq→agY,le_add_right→ag3,sub_self→ag6,testBit_two_pow_sub_one→ag8,not_lt_zero→ahq,lt_or_ge→ahr,div_lt_of_lt_mul→ahD,add_left_cancel→ahU,lt_trichotomy→ahY,succ_mul→ait,mul_comm→aiu,lt_of_le_of_lt→aiv,add_zero→aiE,lt_trans→aiJ,le_of_not_lt→ajk,eq_zero_or_pos→aju,pow_le_pow_right→ajS,mul_le_mul_right→ajY,eq_of_beq_eq_true→ajZ,le_of_ble_eq_true→aj0,div_add_mod→aj4
open List renaming mem_range→aft,getD_eq_getElem?_getD→afu,mem_cons→afv,mem_map→afx,length_map→afy,getElem?_eq_getElem→afz,map_cons→afC,size_toArray→afF,all_eq_true→afG,getElem?_eq_some_iff→afJ,not_mem_nil→afK,length_cons→afO,nil_append→afP,getElem?_map→afS,mem_of_getElem?→afT,append_assoc→afU,getElem_mem→afX,map_map→afY,mem_singleton→af1,length_range→af2,mem_append→af3,length_append→af4,mem_cons_of_mem→af5,getElem?_append_left→af7,mem_cons_self→aga,lookup_cons→agc,length_nil→agd,mem_filter→agg,mem_append_right→agh,getElem?_range→agk,getElem?_set_self→agn,getElem?_append_right→ago,getElem?_set_ne→agu,take_length→agC,nodup_cons→agE,replicate_succ→agG,foldl_cons→agH,getElem_of_mem→agI,flatMap_cons→agK,flatten_cons→agM,mem_of_mem_take→agO,map_append→agP,take_append_drop→agQ,map_congr_left→agR,append_nil→agU,forIn_cons→agX,set_cons_succ→ag4,nodup_append→ag5,pairwise_cons→ag7,pairwise_map→ag9,filterMap_cons→ahf,map_nil→ahj,mem_iff_getElem→ahm,getElem?_take→ahn,getElem?_eq_none→aho,pairwise_iff_getElem→ahp,range_succ→ahs,eraseIdx_eq_take_drop_succ→ahv,map_id→ahx,take_of_length_le→ahA,nodup_range→ahB,mem_flatMap→ahC,getElem_inj→ahF,mem_filterMap→ahH,length_take→ahK,getElem?_take_of_lt→ahL,length_singleton→ahM,forIn_nil→ahQ,drop_eq_getElem_cons→ahW,length_eq_zero_iff→ahX,mem_of_mem_drop→ah0,foldl_append→ah5,any_eq_false→aid,of_mem_zip→aii,take_sublist→aik,getElem?_zip_eq_some→aix,any_eq_true→aiF,length_zipWith→aiG,getElem_take→aiH,mem_erase_of_ne→aiK,length_erase_of_mem→aiL,perm_append_singleton→aiN,ext_getElem→aiO,pairwise_lt_range→aiP,map_filterMap→aiQ,findIdx?_eq_some_iff_getElem→aiS,take_succ_eq_append_getElem→aiV,perm_middle→ai6,length_filter_le→aja,any_map→ajb,set_cons_zero→ajc,mem_append_left→ajd,getElem?_replicate→ajh,zipIdx_cons→ajo,zipIdx_nil→ajp,getElem?_zipWith→ajq,drop_eq_nil_of_le→ajr,zipWith_cons_cons→ajs,pairwise_append→ajv,length_pos_of_mem→ajw,find?_eq_none→ajx,findIdx?_eq_none_iff→ajB,perm_ext_iff_of_nodup→ajJ,range'_succ→ajK,mem_map_of_mem→ajL,zip_append→ajM,zip_cons_cons→ajN,getElem?_set→ajO,filter_cons_of_pos→ajT,filter_cons_of_neg→ajU,filter_sublist→ajW,flatMap_singleton→ajX,foldr_cons→aj1,foldl_reverse→aj2,map_reverse→aj3
open PySem.Heap renaming get?_push_of_some→afw,lt_size→afA,get?_push_size→afI,size_push→afV,get?_update_other→agV,get?_update_self→ahi
open PySem.W renaming mg_of→afD,mg_none_of→age,kia_one→agi,cellsFrom_some→ahJ,kitx_dict→aif,kitx_list→ajg
open Bool renaming and_eq_true→afE,false_ne_true→afR,false_eq_true→af0,eq_iff_iff→agD,not_false→ahb,not_eq_true'→ahe,not_true→ahw,or_eq_true→ahN,false_and→aic,and_false→ais,true_and→aiM,and_self→aiU
open Array renaming length_toList→afM,getElem?_toList→afW,getElem?_eq_getElem→ahd,toList_setIfInBounds→ah2,toList_push→ah3,mem_toList_iff→aie,toList_filterMap→aiR,find?_toList→ajf,getD_eq_getD_getElem?→ajt,foldl_toList→ajy,getElem?_eq_none→ajG,forIn_toList→ajP
open Option.some renaming inj→afN
open PySem.F renaming called_set→afQ,slot_tuple_iterator_next→ahO,slot_zip_next→ahT,slot_tuple_add→aio,entry_tuple_add→aip,args_tuple_add_2→aiq,plainAttrs_list→aiI,entry_type_call→aiY,typeCall_set_1→ai1,entry_set_init→ai3,entry_tuple_iterator_next→ajm,args_tuple_iterator_next_1→ajn,plain_set_new→ajC,sub_list_set→ajD,sub_list_frozenset→ajE,slot_set_iter→ajH
open Ne renaming symm→af8
open PyProof.Rows renaming boot_tuple→af9,vals1→agb,callWith_type1→agS,boot_isinstance→ah9,subscriptTail_builtinR→air
open PySem.Heap.SameBut renaming update→agz
open PySem.Obj renaming data_mapFields→ag1,isFreed_of_fields→aiz,cls_mapFields→aiA
open PySem.SetTable renaming insertAt_perm→aha,toList_insertAt→ahZ
open PyProof.Rows.F renaming plain_set_update_loop→ahc,entry_set_update_loop→ah6
open PySem.Around renaming under_plainId→aht,under_plain→aiZ
open Int renaming emod_nonneg→ahy,emod_lt_of_pos→ahz,toNat_natCast→aiy,le_refl→ai9,natCast_emod→ajQ,natCast_add→ajR
open PySem.Value renaming isInt_shape→ahE
open PySem.Walks renaming list→ahV
open Classical renaming byContradiction→ah1
open Option renaming isSome_iff_exists→aij
open PySem.Code renaming quiet_builtin→aiX
open List.cons renaming inj→ai8
open PySem.Calls renaming Name_function_global→aje
open PySem.IsL renaming update→aji
open List.Pairwise renaming filterMap→ajz,imp_of_mem→ajV
open List.Perm renaming of_eq→ajI
noncomputable section
namespace L2
open PySem PySem.Spec PyProof.Rows
abbrev Key:=Sum Int Str
def HG:Key→Value→Bool
 |.inl k,v=>Value.isInt k v
 |.inr x,v=>Value.isStrOf x v
def WT(w:World):Key→Int
 |.inl k=>hashInt k
 |.inr x=>hashStr w x
theorem jt:∀{k:Key}{v:Value},HG k v=true→(∃i t,k=Sum.inl i∧v=Value.int i t)∨(∃x t,k=Sum.inr x∧v=Value.str x t)
 |.inl i,v,h=>by
  obtain⟨t,e⟩:=ahE (k:=i) (v:=v) h
  exact .inl ⟨i,t,rfl,e⟩
 |.inr x,v,h=>by
  obtain⟨t,e⟩:=Value.isStrOf_shape (x:=x) (v:=v) h
  exact .inr ⟨x,t,rfl,e⟩
theorem WR(a b:Int):decide ((Sum.inl a:Key)=Sum.inl b)=(a==b):=by
 by_cases e:a=b
 ·subst e;simp
 ·have h:¬(Sum.inl a:Key)=Sum.inl b:=fun q=>e (Sum.inl.inj q)
  rw[decide_eq_false h]
  exact(beq_eq_false_iff_ne.mpr e).symm
theorem WN(a b:Str):decide ((Sum.inr a:Key)=Sum.inr b)=decide (a=b):=by
 by_cases e:a=b
 ·subst e;simp
 ·have h:¬(Sum.inr a:Key)=Sum.inr b:=fun q=>e (Sum.inr.inj q)
  rw[decide_eq_false h,decide_eq_false e]
theorem WQ(a:Int) (b:Str):decide ((Sum.inl a:Key)=Sum.inr b)=false:=decide_eq_false (fun q=>nomatch q)
theorem WO(a:Str) (b:Int):decide ((Sum.inr a:Key)=Sum.inl b)=false:=decide_eq_false (fun q=>nomatch q)
def zJ(prog:Program) (w:World):PySem.KeyKind prog w Key where
 is:=HG
 hash:=WT w
 inj:=fun v a b ha hb=>by
  rcases jt ha with⟨i,t,rfl,rfl⟩|⟨x,t,rfl,rfl⟩
  ·rcases jt hb with⟨j,u,rfl,e⟩|⟨y,u,rfl,e⟩
   ·injection e with e1 _;rw[e1]
   ·exact nomatch e
  ·rcases jt hb with⟨j,u,rfl,e⟩|⟨y,u,rfl,e⟩
   ·exact nomatch e
   ·injection e with e1 _;rw[e1]
 byValue:=fun k v h=>by
  rcases jt h with⟨i,t,rfl,rfl⟩|⟨x,t,rfl,rfl⟩<;>rfl
 pyHash:=fun hv h=>by
  rcases jt hv with⟨i,t,rfl,rfl⟩|⟨x,t,rfl,rfl⟩
  ·exact wpAny_pyHash_int h
  ·exact wpAny_pyHash_str h
 eqBool:=fun hu hv h=>by
  rcases jt hu with⟨i,t,rfl,rfl⟩|⟨x,t,rfl,rfl⟩
  ·rcases jt hv with⟨j,u,rfl,rfl⟩|⟨y,u,rfl,rfl⟩
   ·rw[WR]at h;exact wpAny_eqBool_int h
   ·rw[WQ]at h;exact SeqAt.EqAt.int_str i t y u _ _ _ _ h
  ·rcases jt hv with⟨j,u,rfl,rfl⟩|⟨y,u,rfl,rfl⟩
   ·rw[WO]at h;exact SeqAt.EqAt.str_int x t j u _ _ _ _ h
   ·rw[WN]at h;exact wpAny_eqBool_str h
 «strs»:=fun k x t v h=>by
  rcases jt h with⟨i,u,rfl,e⟩|⟨y,u,rfl,e⟩
  ·exact nomatch e
  ·injection e with e1 _
   subst e1
   cases v<;>rfl
end L2
namespace L2
open PySem PySem.Spec PyProof.Rows
inductive V where
 |aL|bl (b:Bool)|int (i:Int)|str (x:Str)|gB (b:Array UInt8)|qp (b:UInt64)|ref (a:Addr)|ty (n:String)
 deriving DecidableEq
def RelV:V→Value→Prop
 |.aL,u=>u=Value.none
 |.bl b,u=>u=Value.bool b
 |.int i,u=>∃t,u=Value.int i t
 |.str x,u=>∃t,u=Value.str x t
 |.gB b,u=>∃t,u=Value.bytes b t
 |.qp b,u=>∃t,u=Value.float b t
 |.ref a,u=>u=Value.ref a
 |.ty n,u=>u=Value.type n
abbrev Vals:List V→List Value→Prop:=Paired RelV
theorem Vals.length{xs:List V}{us:List Value}(r:Vals xs us):xs.length=us.length:=Paired.length r
theorem Vals.get:∀{xs:List V}{us:List Value}{i:Nat}{x:V},Vals xs us→xs[i]? = some x→∃u,us[i]? = some u∧RelV x u
 |_,_,_,_,.nil,e=>by simp at e
 |_,_,0,_,.cons r _,e=>by simp at e;subst e;exact⟨_,rfl,r⟩
 |_,_,i+1,x,.cons _ t,e=>by
  obtain⟨u,h1,h2⟩:=Vals.get (i:=i) (x:=x) t (by simpa using e)
  exact⟨u,by simpa using h1,h2⟩
theorem Vals.set{x:V}{u:Value}(r:RelV x u):∀{xs:List V}{us:List Value}(i:Nat),Vals xs us→Vals (xs.set i x) (us.set i u)
 |_,_,_,.nil=>.nil
 |_,_,0,.cons _ t=>.cons r t
 |_,_,i+1,.cons q t=>.cons q (Vals.set r i t)
theorem Vals.append:∀{xs ys:List V}{us ws:List Value},Vals xs us→Vals ys ws→Vals (xs++ys) (us++ws)
 |_,_,_,_,.nil,s=>s
 |_,_,_,_,.cons r t,s=>.cons r (Vals.append t s)
theorem Vals.take:∀{xs:List V}{us:List Value}(n:Nat),Vals xs us→Vals (xs.take n) (us.take n)
 |_,_,0,_=>.nil
 |_,_,_+1,.nil=>.nil
 |_,_,n+1,.cons r t=>.cons r (Vals.take n t)
theorem Vals.drop:∀{xs:List V}{us:List Value}(n:Nat),Vals xs us→Vals (xs.drop n) (us.drop n)
 |_,_,0,r=>r
 |_,_,_+1,.nil=>.nil
 |_,_,n+1,.cons _ t=>Vals.drop n t
def Ed:Option V→Option Value→Prop
 |some v,some u=>RelV v u
 |none,none=>True
 |_,_=>False
def KV{κ:Type}:List (κ×V)→List (κ×Value)→Prop:=Paired fun(p:κ×V) (q:κ×Value)=>p.1=q.1∧RelV p.2 q.2
def kV:Key→V
 |.inl i=>.int i
 |.inr x=>.str x
inductive HO where
 |lst (xs:List V)
 |tup (xs:List V)
 |dK (kvs:List (Key×V))|dT (kvs:List (List Key×V))
 |set (S:Int→Bool) (n:Nat)
 |ins (C dx:Addr) (fs:List (Str×V))
 |own (x:Addr)
 |xd (fs:List (Str×V))
 |met (f x:Addr)
 |pL (lo hi:Int)
 |ez (o:Obj) (u:HO)
 |dS (ps:Array Value)
 |ext (φ:Heap→Prop)
abbrev Hp:=Addr→Option HO
def upd(H:Hp) (a:Addr) (o:HO):Hp:=fun b=>if b=a then some o else H b
theorem fK{H:Hp}{a:Addr}{o:HO}:upd H a o a=some o:=by unfold upd;rw[if_pos rfl]
theorem bO{H:Hp}{a b:Addr}{o:HO}(h:b≠a):upd H a o b=H b:=by unfold upd;rw[if_neg h]
theorem G3{H:Hp}{a b:Addr}{o u:HO}(h:H a=some o) (h':H b=some u) (d:o≠u):a≠b:=by
 intro e;subst e;rw[h]at h';exact d (afN h')
theorem dz{H:Hp}{a b:Addr}{o:HO}(h:H a=some o) (h':H b=none):a≠b:=by
 intro e;subst e;rw[h]at h';cases h'
def kj(h:Heap) (a:Addr) (items:Array Value):Prop:=∃o,h.get? a=some o∧o.cls=.type "tuple"∧(∃n,o.data=.seq items n)∧o.dict=none
theorem kj.tup{h:Heap}{a:Addr}{items:Array Value}:kj h a items→IsTup h a items:=fun⟨o,e,c,d,_⟩=>⟨o,e,c,d⟩
theorem kj.new(h:Heap) (items:Array Value):kj (h.push {cls:=.type "tuple",data:=.seq items}) h.objs.size items:=⟨_,afI _ rfl,rfl,⟨_,rfl⟩,rfl⟩
section
variable (P:Program) (w:World)
def d7(H:Hp) (h:Heap) (a:Addr):HO→Prop
 |.lst xs=>xs.length≤sizeLine∧∃(its:List Value) (n:Nat),Vals xs its∧h.get? a=some {cls:=.type "list",data:=.seq its.toArray n}
 |.tup xs=>xs.length≤sizeLine∧∃its:List Value,Vals xs its∧kj h a its.toArray
 |.dK kvs=>kvs.length≤sizeLine∧(a==sysModules)=false∧∃vs,KV kvs vs∧h.DictOf (zJ P w) a vs
 |.dT kvs=>kvs.length≤sizeLine∧(a==sysModules)=false∧∃xs:List (List Key×Addr×Value),
   Paired (fun(p:List Key×V) (q:List Key×Addr×Value)=>p.1=q.1∧H q.2.1=some (.tup (p.1.map kV))∧RelV p.2 q.2.2) kvs xs ∧
   ∃o es ep,h.get? a=some o∧o.ExactDict∧o.data=.dict es ep∧es.toList=xs.map (entryOfKey (tupleKind (zJ P w)))∧(xs.map (·.1)).Nodup
 |.set S n=>h.SetOf (intKind P w) a S n
 |.ins C dx fs=>H dx=some (.own a)∧fs.length≤1000∧dx≠a∧h.get? a=some (PySem.W.instObj C dx) ∧
   ∃mA,h.Ns1 dx mA∧(∀f,Ed (fs.lookup f) (mA f))∧PySem.Within mA (fs.map (·.1))
 |.own _=>∃o,h.get? a=some o
 |.xd fs=>∃mA,h.Ns1 a mA∧∀f,Ed (fs.lookup f) (mA f)
 |.pL lo hi=>∃t u v,h.get? a=some {cls:=.type "range",data:=.fields #[.int lo t,.int hi u,.int 1 v]}
 |.ez o u=>h.get? a=some o∧d7 H h a u
 |.dS ps=>h.get? a=some {cls:=.none,data:=.fields ps}
 |.met f x=>h.get? a=some (PySem.W.methodObj (.ref f) (.ref x))
 |.ext φ=>φ h∧(∃o,h.get? a=some o)∧∀h1 h2:Heap,φ h1→(∀o,h1.get? a=some o→h2.get? a=some o)→φ h2
def dj(H:Hp) (h:Heap):Prop:=∀a o,H a=some o→d7 P w H h a o
end
section
variable {P:Program}{w:World}{H H':Hp}{h h':Heap}{a:Addr}{o:HO}
theorem d7.lt(x:d7 P w H h a o):a<h.objs.size:=by
 cases o with
 |lst xs=>obtain⟨_,_,_,_,e⟩:=x;exact afA e
 |tup xs=>obtain⟨_,_,_,p⟩:=x;exact p.tup.lt
 |dK kvs=>obtain⟨_,_,_,_,o,_,_,e,_⟩:=x;exact afA e
 |dT kvs=>obtain⟨_,_,_,_,o,_,_,e,_⟩:=x;exact afA e
 |set S n=>obtain⟨o,_,_,_,e,_⟩:=x;exact afA e
 |ins C dx fs=>obtain⟨_,_,_,e,_⟩:=x;exact afA e
 |own y=>obtain⟨_,e⟩:=x;exact afA e
 |xd fs=>obtain⟨_,⟨_,_,_,e,_⟩,_⟩:=x;exact afA e
 |pL lo hi=>obtain⟨_,_,_,e⟩:=x;exact afA e
 |ez ob u=>obtain⟨e,_⟩:=x;exact afA e
 |dS ps=>exact afA (show h.get? a=some _ from x)
 |met f y=>exact afA (show h.get? a=some _ from x)
 |ext φ=>obtain⟨_,⟨_,e⟩,_⟩:=x;exact afA e
theorem Paired.Ho{α β:Type}{F G:α→β→Prop}:∀{l₁:List α}{l₂:List β},Paired F l₁ l₂→(∀a b,F a b→G a b)→Paired G l₁ l₂
 |_,_,.nil,_=>.nil
 |_,_,.cons r t,f=>.cons (f _ _ r) (Paired.Ho t f)
theorem d7.stay(x:d7 P w H h a o) (k:∀b u,(b=a∨H b=some (.own a))→h.get? b=some u→h'.get? b=some u)
  (ho:∀b,H b=some (.own a)→H' b=some (.own a)) (ht:∀b xs,H b=some (.tup xs)→H' b=some (.tup xs)):d7 P w H' h' a o:=by
 induction o with
 |lst xs=>obtain⟨z,its,n,r,e⟩:=x;exact⟨z,its,n,r,k _ _ (.inl rfl) e⟩
 |tup xs=>obtain⟨z,its,r,ob,e,c⟩:=x;exact⟨z,its,r,ob,k _ _ (.inl rfl) e,c⟩
 |dK kvs=>obtain⟨z,y,vs,r,ob,es,ep,e,c⟩:=x;exact⟨z,y,vs,r,ob,es,ep,k _ _ (.inl rfl) e,c⟩
 |dT kvs =>
  obtain⟨z,y,xs,r,ob,es,ep,e,c⟩:=x
  exact⟨z,y,xs,Paired.Ho r fun p q z=>⟨z.1,ht _ _ z.2.1,z.2.2⟩,ob,es,ep,k _ _ (.inl rfl) e,c⟩
 |set S n=>obtain⟨ob,es,ep,t,e,c⟩:=x;exact⟨ob,es,ep,t,k _ _ (.inl rfl) e,c⟩
 |ins C dx fs =>
  obtain⟨d,z,ne,e,mA,⟨od,es,ep,e2,c⟩,r⟩:=x
  exact⟨ho _ d,z,ne,k _ _ (.inl rfl) e,mA,⟨od,es,ep,k _ _ (.inr d) e2,c⟩,r⟩
 |own y=>obtain⟨ob,e⟩:=x;exact⟨ob,k _ _ (.inl rfl) e⟩
 |xd fs=>obtain⟨mA,⟨od,es,ep,e,c⟩,r⟩:=x;exact⟨mA,⟨od,es,ep,k _ _ (.inl rfl) e,c⟩,r⟩
 |pL lo hi=>obtain⟨t,u,v,e⟩:=x;exact⟨t,u,v,k _ _ (.inl rfl) e⟩
 |ez ob u ih=>obtain⟨e,q⟩:=x;exact⟨k _ _ (.inl rfl) e,ih q⟩
 |dS ps =>
  have e:h.get? a=some {cls:=.none,data:=.fields ps}:=x
  show h'.get? a=some {cls:=.none,data:=.fields ps}
  exact k a _ (.inl rfl) e
 |met f y =>
  have e:h.get? a=some (PySem.W.methodObj (.ref f) (.ref y)):=x
  show h'.get? a=some (PySem.W.methodObj (.ref f) (.ref y))
  exact k a _ (.inl rfl) e
 |ext φ=>obtain⟨p,⟨o,e⟩,st⟩:=x;exact⟨st _ _ p fun o q=>k _ _ (.inl rfl) q,⟨o,k _ _ (.inl rfl) e⟩,st⟩
theorem dj.lt(x:dj P w H h) (e:H a=some o):a<h.objs.size:=(x a o e).lt
theorem dj.fresh(x:dj P w H h) (e:h.objs.size≤a):H a=none:=by
 cases q:H a with
 |none=>rfl
 |some u=>exact absurd (afH (x.lt q) e) (agf _)
theorem dj.kept(x:dj P w H h) (k:∀b u,h.get? b=some u→h'.get? b=some u):dj P w H h':=fun a o e =>
 (x a o e).stay (fun b u _ q=>k b u q) (fun _ q=>q) fun _ _ q=>q
theorem dj.laid(x:dj P w H h) (k:∀b u,h.get? b=some u→h'.get? b=some u) (hp:h.objs.size≤a) (new:d7 P w (upd H a o) h' a o):dj P w (upd H a o) h':=fun b u e=>by
 have hn:=x.fresh hp
 by_cases hb:b=a
 ·subst hb;rw[fK]at e;cases e;exact new
 ·rw[bO hb]at e
  exact(x b u e).stay (fun c v _ q=>k c v q) (fun c q=>by rw[bO (dz q hn)];exact q) fun c xs q=>by rw[bO (dz q hn)];exact q
end
def Rd(H:Hp) (a:Addr) (u:HO):Prop:=H a=some u∨∃o,H a=some (.ez o u)
theorem Rd.ok{P:Program}{w:World}{H:Hp}{h:Heap}{a:Addr}{u:HO}(r:Rd H a u) (x:dj P w H h):d7 P w H h a u:=by
 rcases r with r|⟨o,r⟩
 ·exact x a u r
 ·obtain⟨_,q⟩:=x a _ r
  exact q
def xN:Option HO→Prop
 |some (.lst _)=>True
 |some (.dK _)=>True
 |some (.dT _)=>True
 |some (.set _ _)=>True
 |some (.ins _ _ _)=>True
 |some (.ext _)=>True
 |_=>False
section
variable {P:Program}{w:World}{H:Hp}{h h':Heap}{x e:Addr}{o':HO}
theorem dj.write(ok:dj P w H h) (mu:xN (H x)) (he:e=x∨H e=some (.own x)) (k:∀b u,b≠e→h.get? b=some u→h'.get? b=some u) (qk:∃u,h'.get? e=some u)
  (new:d7 P w (upd H x o') h' x o'):dj P w (upd H x o') h':=fun b u q=>by
 have GQ:∀c y,H c=some (.own y)→c≠x:=fun c y r z=>by subst z;rw[r]at mu;exact mu
 have U4:∀c xs,H c=some (.tup xs)→c≠x:=fun c xs r z=>by subst z;rw[r]at mu;exact mu
 by_cases hb:b=x
 ·subst hb;rw[fK]at q;cases q;exact new
 ·rw[bO hb]at q
  by_cases mV:b=e
  ·have q':H b=some (.own x):=by
    rcases he with z|z
    ·exact absurd (mV.trans z) hb
    ·rw[mV];exact z
   rw[q]at q';cases q'
   obtain⟨v,hv⟩:=qk
   exact⟨v,by rw[mV];exact hv⟩
  ·refine(ok b u q).stay (fun c v hc r=>k c v ?_ r) (fun c r=>by rw[bO (GQ c b r)];exact r) fun c xs r=>by rw[bO (U4 c xs r)];exact r
   rcases hc with rfl|hc
   ·exact mV
   ·rintro rfl
    rcases he with z|z
    ·exact GQ c b hc z
    ·rw[hc]at z;cases z;exact hb rfl
end
structure Un (fs ex:List Addr) (H H':Hp) (h h':Heap):Prop where
 keep:∀b o,h.get? b=some o→H b=none→b∉fs→b∉ex→h'.get? b=some o
 slot:∀b o,h.get? b=some o→H b=none→b∈fs→b∉ex→∃sl,h'.get? b=some {o with slots:=sl}
 free:∀b o,h.get? b=some o→H b=none→b∉ex→H' b=none
 there:∀b o,h.get? b=some o→b∉ex→∃o',h'.get? b=some o'
 tups:∀b xs,H b=some (.tup xs)→H' b=some (.tup xs)
 i6:∀b o u,H b=some (.ez o u)→H' b=some (.ez o u)
 iN:∀b ps,H b=some (.dS ps)→∃more,H' b=some (.dS (ps++more))
section
variable {fs fs' ex ex':List Addr}{H H1 H2:Hp}{h h1 h2 h':Heap}{a x e:Addr}{o:HO}
theorem Un.any(u:Un fs ex H H1 h h1) {b:Addr}{ob:Obj}(q:h.get? b=some ob) (n:H b=none) (hx:b∉ex):∃sl,h1.get? b=some {ob with slots:=sl}:=by
 by_cases hb:b∈fs
 ·exact u.slot b ob q n hb hx
 ·exact⟨ob.slots,u.keep b ob q n hb hx⟩
theorem Un.kept(k:∀b u,h.get? b=some u→h'.get? b=some u):Un fs ex H H h h' :=
 ⟨fun b ob q _ _ _=>k b ob q,fun b ob q _ _ _=>⟨ob.slots,k b ob q⟩,fun _ _ _ n _=>n,fun b ob q _=>⟨ob,k b ob q⟩,fun _ _ q=>q,fun _ _ _ q=>q,fun _ ps q=>⟨#[],by rw[q];simp⟩⟩
theorem Un.refl:Un fs ex H H h h:=Un.kept fun _ _ q=>q
theorem Un.laid(k:∀b u,h.get? b=some u→h'.get? b=some u) (hp:h.objs.size≤a) (hn:H a=none):Un fs ex H (upd H a o) h h' where
 keep:=fun b u q _ _ _=>k b u q
 slot:=fun b u q _ _ _=>⟨u.slots,k b u q⟩
 free:=fun b u q n _=>by rw[bO (afB (afH (afA q) hp))];exact n
 there:=fun b u q _=>⟨u,k b u q⟩
 tups:=fun b xs q=>by rw[bO (dz q hn)];exact q
 i6:=fun b u xs q=>by rw[bO (dz q hn)];exact q
 iN:=fun b ps q=>⟨#[],by rw[bO (dz q hn),q];simp⟩
theorem Un.write(mu:xN (H x)) (he:e=x∨H e=some (.own x)) (k:∀b u,b≠e→h.get? b=some u→h'.get? b=some u) (qk:∃u,h'.get? e=some u):Un fs ex H (upd H x o) h h':=by
 have hx:∀b,H b=none→b≠x:=fun b n z=>by subst z;rw[n]at mu;exact mu
 have hb:∀b,H b=none→b≠e:=fun b n z=>by
  subst z
  rcases he with r|r
  ·exact hx b n r
  ·rw[n]at r;cases r
 have hm:∀b u,H b=some u→¬xN (some u)→b≠x:=fun b u q nm z=>by subst z;rw[q]at mu;exact nm mu
 refine⟨fun b u q n _ _=>k b u (hb b n) q,fun b u q n _ _=>⟨u.slots,k b u (hb b n) q⟩,fun b u q n _=>by rw[bO (hx b n)];exact n,fun b u q _=>?_,
  fun b xs q=>by rw[bO (hm b _ q fun z=>z)];exact q,fun b u xs q=>by rw[bO (hm b _ q fun z=>z)];exact q,fun b ps q=>⟨#[],by rw[bO (hm b _ q fun z=>z),q];simp⟩⟩
 by_cases mV:b=e
 ·subst mV;exact qk
 ·exact⟨u,k b u mV q⟩
end
def ux(h:Heap) (H:Hp):List Addr:=(List.range h.objs.size).filter fun a=>(H a).isSome
def jw(h:Heap) (H:Hp):Heap:=PySem.W.hideAll h (ux h H)
theorem YI(h:Heap) (H:Hp):(jw h H).objs.size=h.objs.size:=PySem.W.hideAll_size _ _
theorem YJ{h:Heap}{H:Hp}{b:Addr}{o:Obj}(e:h.get? b=some o) (n:H b=none):(jw h H).get? b=some o :=
 PySem.W.hideAll_get _ e fun hm=>by
  have q:(H b).isSome=true:=(agg.mp hm).2
  rw[n]at q;simp at q
theorem Tg{h:Heap}{H:Hp}{b:Addr}{o:Obj}(e:(jw h H).get? b=some o):h.get? b=some o∧H b=none:=by
 have e':h.get? b=some o:=PySem.W.of_hideAll (ux h H) e
 refine⟨e',?_⟩
 cases q:H b with
 |none=>rfl
 |some x =>
  have hm:b∈ux h H:=agg.mpr ⟨aft.mpr (afA e'),by simp[q]⟩
  have z:(jw h H).get? b=none:=PySem.W.hideAll_none (ux h H) hm
  rw[z]at e;cases e
end L2
namespace L2
open PySem PySem.Spec PyProof.Rows
structure Mod (K:PySem.W.Frag) (mg:Str→Option Value) (base:Heap):Prop where
 mR:K.In base
 glob:base.Ns mainGlobals mg
 blt:∃mb,base.Ns builtinsNs mb∧∀x:Str,x≠"__name__"→mb x=bootBuiltins x
 nolimit:base.NoLimit
 bmod:∃bm ob,mg "__builtins__"=some (.ref bm)∧bm≠builtinsNs∧base.get? bm=some ob∧ob.cls=.type "module"∧ob.dict=some builtinsNs∧ob.data=.plain
structure Cx where
 prog:Program
 w:World
 K:PySem.W.Frag
 mg:Str→Option Value
 base:Heap
 A:Around
 N:List Str
 s₀:Shared
 H₀:Hp
 env:Env
 outer:List Env
 stack:List Env
 ex:List Addr
 fn:Str→Bool
 calm:Bool
 pn:List (Addr×Obj)
 xe:Value→Shared→Prop
def frs(l:List Env):List Addr:=l.filterMap (·.frame)
abbrev Cx.fs(X:Cx):List Addr:=frs X.outer
def D9(sc:Scope) (x:Str):Prop:=sc.names.lookup x=some .local∨sc.names.lookup x=some .cell∨sc.names.lookup x=some .free
def Loc(sc:Scope) (x:Str):Prop:=sc.names.lookup x=some .local∨sc.names.lookup x=some .cell
def Look(env:Env) (h:Heap) (m:Str→Option Value) (x:Str) (u:Value):Prop :=
 (env.kindOf x=some .local∧m x=some u)∨((env.kindOf x=some .cell∨env.kindOf x=some .free)∧∃c,env.cells.lookup x=some c∧h.IsCell c (some u))
structure Cx.Ok (X:Cx):Prop where
 mod:Mod X.K X.mg X.base
 kind:X.env.scope.kind=.function
 glob:X.env.globals=mainGlobals
 blt:X.env.builtins=builtinsNs
 above:X.s₀.heap.objs.size≤X.env.locals
 inj:∀x y c,X.env.cells.lookup x=some c→X.env.cells.lookup y=some c→x=y
 has:∀x,(X.env.kindOf x=some .cell∨X.env.kindOf x=some .free)→∃c,X.env.cells.lookup x=some c
 nj:∀x c,X.fn x=true→X.env.cells.lookup x=some c→X.s₀.heap.objs.size≤c
 hd:X.calm=true→X.A.handled=none
 frames:X.A.frames=some X.stack
 stk:X.stack=X.outer∨(X.stack=X.env::X.outer∧X.env.frame=some X.env.locals)
 tF:∀b∈X.ex,b≠X.env.locals∧∀x c,X.env.cells.lookup x=some c→c≠b
 bs:∀b o,X.base.get? b=some o→X.s₀.heap.get? b=some o∧X.H₀ b=none
 jc:X.base.objs.size≤X.s₀.heap.objs.size
 jn:∀b o,X.base.get? b=some o→b∉X.ex
 qq:∀b∈X.ex,b∉X.fs
 iF:X.s₀.heap.FunFrames X.base X.outer
 qo:∀b∈X.fs,X.H₀ b=none
structure Inv (X:Cx) (pins:List (Addr×Obj)) (σ:List (Option V)) (H:Hp) (s:Shared):Prop where
 ok:X.Ok
 os:s.os=X.s₀.os
 bare:AllBare s.gens
 base:Un X.fs X.ex X.H₀ H X.s₀.heap s.heap
 loc:∃m,s.heap.Ns X.env.locals m∧∀(i:Nat) (x:Str) (v:V),X.N[i]? = some x→σ[i]? = some (some v)→D9 X.env.scope x→∃u,RelV v u∧Look X.env s.heap m x u
 cell:∀x c,X.env.cells.lookup x=some c→∃v,s.heap.IsCell c v
 free:H X.env.locals=none
 gY:∀x c,X.env.cells.lookup x=some c→H c=none
 pin:∀p∈X.pn++pins,s.heap.get? p.1=some p.2∧H p.1=none∧p.1≠X.env.locals∧p.1∉X.fs∧∀v,p.2.data≠.cell v
 hok:dj X.prog X.w H s.heap
 len:σ.length=X.N.length
section
variable {X:Cx}{pins:List (Addr×Obj)}{σ:List (Option V)}{H H':Hp}{s:Shared}{h':Heap}
theorem Cx.Ok.Va(ok:X.Ok) {b:Addr}{o:Obj}(e:X.base.get? b=some o):b∉X.fs:=fun hb=>by
 have:=(ok.iF.mem hb).1
 rw[e]at this;cases this
theorem Inv.bs(I:Inv X pins σ H s):∀b o,X.base.get? b=some o→s.heap.get? b=some o∧H b=none:=fun b o e =>
 ⟨I.base.keep b o (I.ok.bs b o e).1 (I.ok.bs b o e).2 (I.ok.Va e) (I.ok.jn b o e),I.base.free b o (I.ok.bs b o e).1 (I.ok.bs b o e).2 (I.ok.jn b o e)⟩
theorem Inv.bk(I:Inv X pins σ H s):∀b o,X.base.get? b=some o→s.heap.get? b=some o:=fun b o e=>(I.bs b o e).1
theorem Inv.mod(I:Inv X pins σ H s):Mod X.K X.mg X.base:=I.ok.mod
theorem Inv.eo(I:Inv X pins σ H s):X.K.In s.heap:=I.ok.mod.mR.keeps I.bk
theorem Inv.lt(I:Inv X pins σ H s):X.env.locals<s.heap.objs.size:=let⟨_,hn,_⟩:=I.loc;hn.lt
theorem Inv.sz(I:Inv X pins σ H s):X.s₀.heap.objs.size≤s.heap.objs.size:=afL I.ok.above (agL I.lt)
theorem Inv.zw(I:Inv X pins σ H s) {a:Addr}(h:s.heap.objs.size≤a):a∉X.fs:=fun hb=>by
 obtain⟨_,o,ho,_⟩:=I.ok.iF.mem hb
 exact absurd (afH (afA ho) (afL I.sz h)) (agf _)
theorem Inv.ng(I:Inv X pins σ H s):∀x c,X.env.cells.lookup x=some c→c≠X.env.locals:=fun x c e z=>by
 obtain⟨v,o,ho,hd⟩:=I.cell x c e
 obtain⟨m,⟨o',es,ep,ho',hd',_⟩,_⟩:=I.loc
 rw[z,ho']at ho;cases ho;rw[hd']at hd;cases hd
theorem Inv.iF(I:Inv X pins σ H s):s.heap.FunFrames X.base X.outer:=by
 have all:∀(l:List Env),(∀b∈frs l,b∈X.fs)→X.s₀.heap.FunFrames X.base l→s.heap.FunFrames X.base l:=by
  intro l
  induction l with
  |nil=>intro _ _;trivial
  |cons env r ih =>
   intro hs hl
   obtain⟨hk,⟨L,o,hf,hn,ho,hd⟩,hr⟩:=hl
   have hL:L∈X.fs:=hs L (by unfold frs;rw[ahf,hf];exact aga)
   obtain⟨sl,e⟩:=I.base.slot L o ho (I.ok.qo L hL) hL fun z=>I.ok.qq L z hL
   exact⟨hk,⟨L,_,hf,hn,e,hd⟩,ih (fun b hb=>hs b (by unfold frs;rw[ahf,hf];exact af5 _ hb)) hr⟩
 exact all X.outer (fun _ hb=>hb) I.ok.iF
theorem Inv.stack(I:Inv X pins σ H s):s.heap.FunFrames X.base X.stack:=by
 rcases I.ok.stk with e|⟨e,hf⟩
 ·rw[e];exact I.iF
 ·rw[e]
  obtain⟨m,hn,_⟩:=I.loc
  refine .cons (by rw[I.ok.kind];decide) hf hn ?_ I.iF
  exact Heap.get?_none_of_le (afL I.ok.jc I.ok.above)
theorem Inv.nU(I:Inv X pins σ H s):∀b∈frs X.stack,b∈X.env.locals::X.fs:=fun b hb=>by
 rcases I.ok.stk with e|⟨e,hf⟩
 ·rw[e]at hb;exact af5 _ hb
 ·rw[e]at hb
  unfold frs at hb
  rw[ahf,hf]at hb
  exact hb
theorem Inv.E9(I:Inv X pins σ H s):∀b∈frs X.stack,H b=none:=fun b hb=>by
 rcases afv.mp (I.nU b hb)with e|hb
 ·rw[e];exact I.free
 ·obtain⟨_,o,ho,_⟩:=I.ok.iF.mem hb
  exact I.base.free b o ho (I.ok.qo b hb) fun z=>I.ok.qq b z hb
theorem Inv.step{g':Array GenState}{t':Nat}{d':Drawn}{ch:List Addr}(I:Inv X pins σ H s)
  (hch:∀b∈ch,(b∈X.ex∨X.s₀.heap.objs.size≤b)∧b≠X.env.locals∧(∀x c,X.env.cells.lookup x=some c→c≠b)∧∀p∈X.pn++pins,p.1≠b)
  (keep:∀b o,b≠X.env.locals→b∉X.fs→b∉ch→s.heap.get? b=some o→H b=none→h'.get? b=some o)
  (slot:∀b o,b≠X.env.locals→b∈X.fs→b∉ch→s.heap.get? b=some o→H b=none→∃sl,h'.get? b=some {o with slots:=sl}) (free:∀b o,b∉ch→s.heap.get? b=some o→H b=none→H' b=none)
  (there:∀b o,b∉ch→s.heap.get? b=some o→∃o',h'.get? b=some o')
  (tups:∀b xs,H b=some (.tup xs)→H' b=some (.tup xs)) (i6:∀b o u,H b=some (.ez o u)→H' b=some (.ez o u)) (iN:∀b ps,H b=some (.dS ps)→∃more,H' b=some (.dS (ps++more)))
  (ns:∀m,s.heap.Ns X.env.locals m→h'.Ns X.env.locals m) (hok:dj X.prog X.w H' h') (hg:AllBare g') :
  Inv X pins σ H' {s with heap:=h',gens:=g',drawn:=d',toks:=t'}:=by
 have G4:∀b o,X.s₀.heap.get? b=some o→b≠X.env.locals:=fun b o e=>afB (afH (afA e) I.ok.above)
 have vm:∀b o,X.s₀.heap.get? b=some o→b∉X.ex→b∉ch:=fun b o e hx hb=>by
  rcases(hch b hb).1 with z|z
  ·exact hx z
  ·exact absurd (afH (afA e) z) (agf _)
 have cellK:∀x c,X.env.cells.lookup x=some c→∀v,s.heap.IsCell c v→h'.IsCell c v:=fun x c e v ⟨o,ho,hd⟩=>by
  have iz:c∉ch:=fun z=>(hch c z).2.2.1 x c e rfl
  by_cases hc:c∈X.fs
  ·obtain⟨sl,q⟩:=slot c o (I.ng x c e) hc iz ho (I.gY x c e)
   exact⟨_,q,hd⟩
  ·exact⟨o,keep c o (I.ng x c e) hc iz ho (I.gY x c e),hd⟩
 refine⟨I.ok,I.os,hg,⟨fun b o e n hb hx=>?_,fun b o e n hb hx=>?_,fun b o e n hx=>?_,fun b o e hx=>?_,fun b xs e=>tups b xs (I.base.tups b xs e),fun b o xs e=>i6 b o xs (I.base.i6 b o xs e),fun b ps e=>?_⟩,?_,fun x c e=>?_,?_,fun x c e=>?_,fun p hp=>?_,hok,I.len⟩
 ·exact keep b o (G4 b o e) hb (vm b o e hx) (I.base.keep b o e n hb hx) (I.base.free b o e n hx)
 ·obtain⟨sl,e1⟩:=I.base.slot b o e n hb hx
  obtain⟨Ol,e2⟩:=slot b _ (G4 b o e) hb (vm b o e hx) e1 (I.base.free b o e n hx)
  exact⟨Ol,e2⟩
 ·obtain⟨o',e1⟩:=I.base.there b o e hx
  exact free b o' (vm b o e hx) e1 (I.base.free b o e n hx)
 ·obtain⟨o',e1⟩:=I.base.there b o e hx
  exact there b o' (vm b o e hx) e1
 ·obtain⟨m1,e1⟩:=I.base.iN b ps e
  obtain⟨m2,e2⟩:=iN b _ e1
  exact⟨m1++m2,by rw[e2,Array.append_assoc]⟩
 ·obtain⟨m,hn,hl⟩:=I.loc
  refine⟨m,ns m hn,fun i x v e1 e2 e3=>?_⟩
  obtain⟨u,r,l⟩:=hl i x v e1 e2 e3
  refine⟨u,r,?_⟩
  rcases l with l|⟨k,c,e,z⟩
  ·exact .inl l
  ·exact .inr ⟨k,c,e,cellK x c e _ z⟩
 ·obtain⟨v,z⟩:=I.cell x c e
  exact⟨v,cellK x c e v z⟩
 ·obtain⟨m,⟨o,_,_,ho,_⟩,_⟩:=I.loc
  exact free _ o (fun z=>(hch _ z).2.1 rfl) ho I.free
 ·obtain⟨v,o,ho,hd⟩:=I.cell x c e
  exact free c o (fun z=>(hch c z).2.2.1 x c e rfl) ho (I.gY x c e)
 ·obtain⟨e,n,ne,nf,d⟩:=I.pin p hp
  have iz:p.1∉ch:=fun z=>(hch p.1 z).2.2.2 p hp rfl
  exact⟨keep p.1 p.2 ne nf iz e n,free p.1 p.2 iz e n,ne,nf,d⟩
theorem Inv.un{t':Nat}(I:Inv X pins σ H s) (u:Un X.fs [] H H' s.heap h') (hok:dj X.prog X.w H' h'):Inv X pins σ H' {s with heap:=h',toks:=t'}:=by
 obtain⟨m,⟨o,es,ep,ho,r⟩,_⟩:=id I.loc
 obtain⟨sl,hL⟩:=u.any ho I.free (by simp)
 exact I.step (g':=s.gens) (d':=s.drawn) (ch:=[]) (fun _ z=>nomatch z) (fun b o _ hb _ e n=>u.keep b o e n hb (by simp)) (fun b o _ hb _ e n=>u.slot b o e n hb (by simp)) (fun b o _ e n=>u.free b o e n (by simp)) (fun b o _ e=>u.there b o e (by simp)) u.tups u.i6 u.iN (fun m' hm=>by
  obtain⟨o',es',CI,ho',r'⟩:=hm
  rw[ho]at ho';cases ho'
  exact⟨_,es',CI,hL,r'⟩) hok I.bare
theorem Inv.call{g':Array GenState}{t':Nat}{d':Drawn}{ch:List Addr}(I:Inv X pins σ H s) (u:Un (frs X.stack) ch H H' s.heap h') (hok:dj X.prog X.w H' h') (hg:AllBare g')
  (hch:∀b∈ch,(b∈X.ex∨X.s₀.heap.objs.size≤b)∧b≠X.env.locals∧(∀x c,X.env.cells.lookup x=some c→c≠b)∧∀p∈X.pn++pins,p.1≠b) :
  Inv X pins σ H' {s with heap:=h',gens:=g',drawn:=d',toks:=t'}:=by
 obtain⟨m,⟨o,es,ep,ho,r⟩,_⟩:=id I.loc
 obtain⟨sl,hL⟩:=u.any ho I.free fun z=>(hch _ z).2.1 rfl
 exact I.step (ch:=ch) hch (fun b o hL hb hc e n=>u.keep b o e n (fun z=>(afv.mp (I.nU b z)).elim hL hb) hc) (fun b o _ _ hc e n=>u.any e n hc) (fun b o hc e n=>u.free b o e n hc) (fun b o hc e=>u.there b o e hc) u.tups u.i6 u.iN (fun m' hm=>by
  obtain⟨o',es',CI,ho',r'⟩:=hm
  rw[ho]at ho';cases ho'
  exact⟨_,es',CI,hL,r'⟩) hok hg
theorem Inv.turned{t':Nat}{it:Addr}(I:Inv X pins σ H s) (k:∀b o,b≠it→s.heap.get? b=some o→h'.get? b=some o) (hn:H it=none) (hL:it≠X.env.locals)
  (h1:it∈X.ex∨X.s₀.heap.objs.size≤it) (h2:∀x c,X.env.cells.lookup x=some c→c≠it) (h3:∀p∈X.pn++pins,p.1≠it):Inv X pins σ H {s with heap:=h',toks:=t'}:=by
 have G1:∀b u,H b=some u→b≠it:=fun b u e z=>by rw[z,hn]at e;cases e
 refine I.step (g':=s.gens) (d':=s.drawn) (ch:=[it]) (fun b hb=>?_) (fun b o _ _ hc e _=>k b o (fun z=>hc (by simp[z])) e) (fun b o _ _ hc e _=>⟨o.slots,k b o (fun z=>hc (by simp[z])) e⟩) (fun _ _ _ _ n=>n)
  (fun b o hc e=>⟨o,k b o (fun z=>hc (by simp[z])) e⟩) (fun _ _ e=>e) (fun _ _ _ e=>e) (fun b ps e=>⟨#[],by rw[e];simp⟩) (fun m hm=>?_) (fun b u e=>?_) I.bare
 ·have e:b=it:=by simpa using hb
  subst e
  exact⟨h1,hL,h2,h3⟩
 ·obtain⟨o,es,ep,ho,r⟩:=hm
  exact⟨o,es,ep,k _ o (af8 hL) ho,r⟩
 ·refine(I.hok b u e).stay (fun c v hc q=>k c v ?_ q) (fun _ q=>q) fun _ _ q=>q
  rcases hc with z|z
  ·rw[z];exact G1 b u e
  ·exact G1 c _ z
theorem Inv.tok(I:Inv X pins σ H s) (t:Nat):Inv X pins σ H {s with toks:=t}:=I.un (h':=s.heap) (t':=t) Un.refl I.hok
theorem Inv.kept{t':Nat}(I:Inv X pins σ H s) (k:∀b u,s.heap.get? b=some u→h'.get? b=some u):Inv X pins σ H {s with heap:=h',toks:=t'}:=I.un (Un.kept k) (I.hok.kept k)
theorem Inv.laid{a:Addr}{o:HO}{t':Nat}(I:Inv X pins σ H s) (k:∀b u,s.heap.get? b=some u→h'.get? b=some u) (hp:s.heap.objs.size≤a) (new:d7 X.prog X.w (upd H a o) h' a o) :
  Inv X pins σ (upd H a o) {s with heap:=h',toks:=t'}:=I.un (Un.laid k hp (I.hok.fresh hp)) (I.hok.laid k hp new)
theorem Inv.write{x e:Addr}{o:HO}{t':Nat}(I:Inv X pins σ H s) (mu:xN (H x)) (he:e=x∨H e=some (.own x)) (k:∀b u,b≠e→s.heap.get? b=some u→h'.get? b=some u) (qk:∃u,h'.get? e=some u)
  (new:d7 X.prog X.w (upd H x o) h' x o):Inv X pins σ (upd H x o) {s with heap:=h',toks:=t'}:=I.un (Un.write mu he k qk) (I.hok.write mu he k qk new)
theorem Inv.uQ{za:List (Addr×Obj)}(I:Inv X pins σ H s) (h:∀p∈za,s.heap.get? p.1=some p.2∧H p.1=none∧p.1≠X.env.locals∧p.1∉X.fs∧∀v,p.2.data≠.cell v):Inv X za σ H s :=
 ⟨I.ok,I.os,I.bare,I.base,I.loc,I.cell,I.free,I.gY,fun p hp=>(af3.mp hp).elim (fun z=>I.pin p (ajd _ z)) (h p),I.hok,I.len⟩
theorem GW{N:List Str}(hN:N.Nodup) {i j:Nat}{x:Str}(a:N[i]? = some x) (b:N[j]? = some x):i=j:=by
 obtain⟨h1,e1⟩:=afJ.mp a
 obtain⟨h2,e2⟩:=afJ.mp b
 exact(ahF hN).mp (e1.trans e2.symm)
theorem E7{M:Model}{A:Around}{E:Value→Shared→Prop}{i:Nat}{x:Str}{v:V}{u:Value}{Q:Unit→Shared→Prop}(I:Inv X pins σ H s) (hN:X.N.Nodup) (hi:X.N[i]? = some x) (hx:Loc X.env.scope x) (r:RelV v u)
  (h:∀s',Inv X pins (σ.set i (some v)) H s'→(∃a,Heap.SameBut a s.heap s'.heap∧(a=X.env.locals∨X.env.cells.lookup x=some a))→Q () s') (hf:X.fn x=true∨X.env.scope.names.lookup x=some .local:=by first|exact .inl rfl|exact .inr rfl|assumption):wpAny M A (storeName X.env x u) Q E s:=by
 obtain⟨m,hn,hl⟩:=id I.loc
 have hcls:(X.env.scope.kind == .class||(X.env.scope.kind == .module&&X.env.locals != X.env.globals))=false:=by rw[I.ok.kind];rfl
 have IF:i<σ.length:=by rw[I.len];exact(afJ.mp hi).1
 have ng:=I.ng
 have tracked:∀{a:Addr}{h':Heap},(∃o,s.heap.get? a=some o∧H a=none)→Heap.SameBut a s.heap h'→dj X.prog X.w H h':=fun{a h'} ha hs b ob e=>by
  obtain⟨_,_,hfree⟩:=ha
  refine(I.hok b ob e).stay (fun c w' hc q=>(hs.2 c ?_).trans q) (fun _ q=>q) fun _ _ q=>q
  rintro rfl
  rcases hc with rfl|hc
  ·rw[hfree]at e;cases e
  ·rw[hfree]at hc;cases hc
 rcases hx with hk|hk
 ·refine wpAny_storeName_local hk hn (fun h' hn' hs=>?_) hcls
  obtain⟨oL,_,_,sP,_⟩:=id hn
  refine h _ ⟨I.ok,I.os,I.bare,⟨fun b o e n hb hx=>?_,fun b o e n hb hx=>?_,I.base.free,fun b o e hx=>?_,I.base.tups,I.base.i6,I.base.iN⟩,⟨_,hn',fun j y v' e1 e2 e3=>?_⟩,fun y c e=>?_,I.free,I.gY,fun p hp=>?_,tracked ⟨oL,sP,I.free⟩ hs,by simpa using I.len⟩ ⟨_,hs,.inl rfl⟩
  ·exact(hs.2 b (afB (afH (afA e) I.ok.above))).trans (I.base.keep b o e n hb hx)
  ·obtain⟨sl,e1⟩:=I.base.slot b o e n hb hx
   exact⟨sl,(hs.2 b (afB (afH (afA e) I.ok.above))).trans e1⟩
  ·obtain⟨o',e1⟩:=I.base.there b o e hx
   exact⟨o',(hs.2 b (afB (afH (afA e) I.ok.above))).trans e1⟩
  ·by_cases hj:j=i
   ·subst hj
    rw[hi]at e1;cases e1
    rw[agn IF]at e2
    cases e2
    exact⟨u,r,.inl ⟨hk,by simp⟩⟩
   ·rw[agu (af8 hj)]at e2
    obtain⟨u',r',q⟩:=hl j y v' e1 e2 e3
    refine⟨u',r',?_⟩
    rcases q with⟨k,e⟩|⟨k,c,e,z⟩
    ·refine .inl ⟨k,?_⟩
     have:y≠x:=fun e=>hj (GW hN e1 (e▸hi))
     simp[this,e]
    ·exact .inr ⟨k,c,e,z.sameBut hs (ng y c e)⟩
  ·obtain⟨w',z⟩:=I.cell y c e
   exact⟨w',z.sameBut hs (ng y c e)⟩
  ·obtain⟨e,n,ne,nf,d⟩:=I.pin p hp
   exact⟨(hs.2 p.1 ne).trans e,n,ne,nf,d⟩
 ·have hfn:X.fn x=true:=by
   rcases hf with z|z
   ·exact z
   ·rw[z]at hk;cases hk
  obtain⟨c,hc⟩:=I.ok.has x (.inl hk)
  obtain⟨w',z⟩:=I.cell x c hc
  refine wpAny_storeName_cell I.ok.kind hk hc z (fun h' hc' hs=>?_)
  obtain⟨oc,hoc,YA⟩:=id z
  refine h {s with heap:=h'} ⟨I.ok,I.os,I.bare,⟨fun b o e n hb hx=>?_,fun b o e n hb hx=>?_,I.base.free,fun b o e hx=>?_,I.base.tups,I.base.i6,I.base.iN⟩,⟨m,hn.sameBut hs (af8 (ng x c hc)),fun j y v' e1 e2 e3=>?_⟩,fun y c' e=>?_,I.free,I.gY,fun p hp=>?_,tracked ⟨oc,hoc,I.gY x c hc⟩ hs,by simpa using I.len⟩ ⟨c,hs,.inr hc⟩
  ·exact(hs.2 b (afB (afH (afA e) (I.ok.nj x c hfn hc)))).trans (I.base.keep b o e n hb hx)
  ·obtain⟨sl,e1⟩:=I.base.slot b o e n hb hx
   exact⟨sl,(hs.2 b (afB (afH (afA e) (I.ok.nj x c hfn hc)))).trans e1⟩
  ·obtain⟨o',e1⟩:=I.base.there b o e hx
   exact⟨o',(hs.2 b (afB (afH (afA e) (I.ok.nj x c hfn hc)))).trans e1⟩
  ·by_cases hj:j=i
   ·subst hj
    rw[hi]at e1;cases e1
    rw[agn IF]at e2
    cases e2
    exact⟨u,r,.inr ⟨.inl hk,c,hc,hc'⟩⟩
   ·rw[agu (af8 hj)]at e2
    obtain⟨u',r',q⟩:=hl j y v' e1 e2 e3
    refine⟨u',r',?_⟩
    rcases q with q|⟨k,c',e,z'⟩
    ·exact .inl q
    ·refine .inr ⟨k,c',e,z'.sameBut hs ?_⟩
     rintro rfl
     exact hj (GW hN e1 (I.ok.inj _ _ _ e hc▸hi))
  ·by_cases hcc:c'=c
   ·subst hcc;exact⟨_,hc'⟩
   ·obtain⟨w2,z2⟩:=I.cell y c' e
    exact⟨w2,z2.sameBut hs hcc⟩
  ·obtain⟨e,n,ne,nf,d⟩:=I.pin p hp
   refine⟨(hs.2 p.1 ?_).trans e,n,ne,nf,d⟩
   intro q
   rw[q,hoc]at e
   have q':oc=p.2:=afN e
   exact d w' (by rw[←q'];exact YA)
theorem E8{M:Model}{A:Around}{E:Value→Shared→Prop}{i:Nat}{x:Str}{v:V}{u:Value}{Q:Unit→Shared→Prop}(I:Inv X pins σ H s) (hN:X.N.Nodup) (hi:X.N[i]? = some x) (hx:Loc X.env.scope x) (r:RelV v u)
  (h:∀s',Inv X pins (σ.set i (some v)) H s'→Q () s') (hf:X.fn x=true∨X.env.scope.names.lookup x=some .local:=by first|exact .inl rfl|exact .inr rfl|assumption):wpAny M A (storeName X.env x u) Q E s :=
 E7 I hN hi hx r (fun s' I' _=>h s' I') hf
theorem Inv.ab3{s':Shared}{ch:List Addr}(I:Inv X pins σ H s) (ho:s'.os=s.os) (u:Un (frs X.stack) ch H H' s.heap s'.heap) (hok:dj X.prog X.w H' s'.heap) (hg:AllBare s'.gens)
  (hch:∀b∈ch,(b∈X.ex∨X.s₀.heap.objs.size≤b)∧b≠X.env.locals∧(∀x c,X.env.cells.lookup x=some c→c≠b)∧∀p∈X.pn++pins,p.1≠b):Inv X pins σ H' s':=by
 obtain⟨h',g',d',t',o'⟩:=s'
 have e:o'=s.os:=ho
 subst e
 exact I.call (g':=g') (t':=t') (d':=d') u hok hg hch
end
abbrev XK:=Value→Option Addr→Hp→Prop
abbrev St:=List (Option V)
abbrev VK:=V→Hp→Prop
abbrev TE:=St→Hp→VK→Prop
abbrev TT:=St→Hp→(Bool→Hp→Prop)→Prop
abbrev TA:=St→Hp→(List V→Hp→Prop)→Prop
structure Ends where
 nx:St→Hp→Prop
 rt:VK
 bk:St→Hp→Prop:=fun _ _=>False
 ct:St→Hp→Prop:=fun _ _=>False
abbrev TS:=Ends→St→Hp→Prop
def EP(X:Cx) (pins:List (Addr×Obj)) (σ:St) (Q:VK) (u:Value) (s':Shared):Prop:=∃v H',Inv X pins σ H' s'∧RelV v u∧Q v H'
def TP(X:Cx) (pins:List (Addr×Obj)) (σ:St) (Q:Bool→Hp→Prop) (b:Bool) (s':Shared):Prop:=∃H',Inv X pins σ H' s'∧Q b H'
def AP(X:Cx) (pins:List (Addr×Obj)) (σ:St) (Q:List V→Hp→Prop) (us:List Value) (s':Shared):Prop:=∃vs H',Inv X pins σ H' s'∧Vals vs us∧Q vs H'
def SP(X:Cx) (pins:List (Addr×Obj)) (D:Ends) (f:Flow) (s':Shared):Prop :=
 match f with
 |.next=>∃σ' H',Inv X pins σ' H' s'∧D.nx σ' H'
 |.brk=>∃σ' H',Inv X pins σ' H' s'∧D.bk σ' H'
 |.cont=>∃σ' H',Inv X pins σ' H' s'∧D.ct σ' H'
 |.ret u=>∃v σ' H',Inv X pins σ' H' s'∧RelV v u∧D.rt v H'
def PE(X:Cx) (e:Expr) (t:TE):Prop :=
 ∀(pins:List (Addr×Obj)) (s:Shared) (σ:St) (H:Hp) (Q:VK),Inv X pins σ H s→t σ H Q→wpAny (model X.prog X.w) X.A (eval e X.env) (EP X pins σ Q) X.xe s
def PT(X:Cx) (e:Expr) (t:TT):Prop :=
 ∀(pins:List (Addr×Obj)) (s:Shared) (σ:St) (H:Hp) (Q:Bool→Hp→Prop),Inv X pins σ H s→t σ H Q→wpAny (model X.prog X.w) X.A (isTrue e X.env (eval e X.env)) (TP X pins σ Q) X.xe s
def PW(X:Cx) (e:Expr) (t:TT):Prop :=
 ∀(whole:Sem Value) (pins:List (Addr×Obj)) (s:Shared) (σ:St) (H:Hp) (Q:Bool→Hp→Prop),Inv X pins σ H s→t σ H Q→wpAny (model X.prog X.w) X.A (isTrue e X.env whole) (TP X pins σ Q) X.xe s
theorem PW.pt{X:Cx}{e:Expr}{t:TT}(h:PW X e t):PT X e t:=h _
def PA(X:Cx) (es:List Expr) (t:TA):Prop :=
 ∀(pos:Pos) (pins:List (Addr×Obj)) (s:Shared) (σ:St) (H:Hp) (Q:List V→Hp→Prop),Inv X pins σ H s→t σ H Q→wpAny (model X.prog X.w) X.A (spliced (backTo pos (starEach es X.env))) (AP X pins σ Q) X.xe s
def PS(X:Cx) (st:Stmt) (t:TS):Prop :=
 ∀(pins:List (Addr×Obj)) (s:Shared) (σ:St) (H:Hp) (D:Ends),Inv X pins σ H s→t D σ H→wpAny (model X.prog X.w) X.A (exec st X.env) (SP X pins D) X.xe s
def fJ(X:Cx) (st:List Stmt) (t:TS):Prop :=
 ∀(pins:List (Addr×Obj)) (s:Shared) (σ:St) (H:Hp) (D:Ends),Inv X pins σ H s→t D σ H→wpAny (model X.prog X.w) X.A (execs st X.env) (SP X pins D) X.xe s
theorem aY{α:Type}{t:Sem α}{Q Q':α→Shared→Prop}{M:Model}{A:Around}{E:Value→Shared→Prop}{s:Shared}(h:wpAny M A t Q E s) (hQ:∀a s,Q a s→Q' a s):wpAny M A t Q' E s:=af6 h hQ fun _ _ x=>x
end L2
namespace L2
open PySem PySem.Spec PyProof.Rows
section
variable {X:Cx}
def MR(i:Nat):TE:=fun σ H Q=>∃v,σ[i]? = some (some v)∧Q v H
def tC(v:V):TE:=fun _ H Q=>Q v H
theorem RH{i:Nat}{x:Str}{pos:Pos}(hN:X.N[i]? = some x) (hv:D9 X.env.scope x) (hd:(x==("__debug__":Str))=false:=by decide) (hcd:(x==("__classdict__":Str))=false:=by decide):PE X (.Name x pos) (MR i):=by
 intro pins s σ H Q I h
 obtain⟨v,e,h⟩:=h
 obtain⟨m,hn,hl⟩:=I.loc
 obtain⟨u,r,l⟩:=hl i x v hN e hv
 have fin:EP X pins σ Q u s:=⟨v,H,I,r,h⟩
 rcases l with⟨hk,hm⟩|⟨hk,c,hc,hcell⟩
 ·exact wpAny_Name (wpAny_loadName_local I.ok.kind hk hn hm fin) hd
 ·rcases hk with hk|hk
  ·exact wpAny_Name (wpAny_loadName_cell I.ok.kind hk hc hcell fin) hd
  ·exact wpAny_Name (wpAny_loadName_free I.ok.kind hk hc hcell fin hcd) hd
theorem F9{i j pos}:PE X (.Constant (.int i) j pos) (tC (.int i)):=fun _ _ _ H _ I h=>wpAny_Constant_int ⟨.int i,H,I.tok _,⟨_,rfl⟩,h⟩
theorem RY{b j pos}:PE X (.Constant (.bool b) j pos) (tC (.bl b)):=fun _ _ _ H _ I h=>Constant_bool ⟨.bl b,H,I,rfl,h⟩
theorem RP{j pos}:PE X (.Constant .none j pos) (tC .aL):=fun _ _ _ H _ I h=>Constant_none ⟨.aL,H,I,rfl,h⟩
def Gl(X:Cx) (x:Str):Prop:=X.env.kindOf x=some .globalImplicit
theorem Hx{E:Value→Shared→Prop}{pins:List (Addr×Obj)}{s:Shared}{σ:St}{H:Hp}{x:Str}{u:Value}{pos:Pos}{Q:Value→Shared→Prop}(I:Inv X pins σ H s) (hg:Gl X x) (hm:X.mg x=some u) (h:Q u s)
  (hd:(x==("__debug__":Str))=false:=by decide):wpAny (model X.prog X.w) X.A (eval (.Name x pos) X.env) Q E s :=
 aje I.ok.kind hg (Calls.loadGlobal_global (by rw[I.ok.glob];exact I.mod.glob.keeps I.bk) hm h) hd
theorem kW{E:Value→Shared→Prop}{pins:List (Addr×Obj)}{s:Shared}{σ:St}{H:Hp}{x:Str}{u:Value}{pos:Pos}{Q:Value→Shared→Prop}(I:Inv X pins σ H s) (hg:Gl X x) (hm:X.mg x=none) (hv:bootBuiltins x=some u) (h:Q u s)
  (hn:x≠"__name__":=by decide) (hd:(x==("__debug__":Str))=false:=by decide):wpAny (model X.prog X.w) X.A (eval (.Name x pos) X.env) Q E s:=by
 obtain⟨mb,h1,h2⟩:=I.mod.blt
 exact aje I.ok.kind hg (Calls.loadGlobal_builtin (by rw[I.ok.glob];exact I.mod.glob.keeps I.bk) hm (by rw[I.ok.blt];exact h1.keeps I.bk) ((h2 x hn).trans hv) h) hd
theorem zd{x:Str}{v:V}{u:Value}{pos:Pos}(hg:Gl X x) (hm:X.mg x=some u) (r:RelV v u) (hd:(x==("__debug__":Str))=false:=by decide):PE X (.Name x pos) (tC v) :=
 fun _ _ _ H _ I h=>Hx I hg hm ⟨v,H,I,r,h⟩ hd
theorem RX{x:Str}{v:V}{u:Value}{pos:Pos}(hg:Gl X x) (hm:X.mg x=none) (hv:bootBuiltins x=some u) (r:RelV v u) (hn:x≠"__name__":=by decide) (hd:(x==("__debug__":Str))=false:=by decide):PE X (.Name x pos) (tC v) :=
 fun _ _ _ H _ I h=>kW I hg hm hv ⟨v,H,I,r,h⟩ hn hd
variable {a b:Expr}{ta tb:TE}{pos:Pos}
def tB(t:TE):TT:=fun σ H Q=>t σ H fun x H1=>∃c,x=.bl c∧Q c H1
theorem Qm{e:Expr}{t:TE}(h:PE X e t) (he:∀whole,isTrue e X.env whole=(do let v ←whole;standAt e.pos;holding [v] (truthy v)):=by intro _;rfl):PT X e (tB t):=by
 intro pins s σ H Q I hw
 refine isTrue_plain (aY (h pins s σ H _ I hw) fun v s1 ⟨x,H1,I1,r1,q1⟩=>?_) (he _)
 obtain⟨d,rfl,q⟩:=q1
 cases r1
 exact agv ⟨H1,I1,q⟩
variable {tA uC:TT}{rest:List Expr}
def Nc(t u:TT):TT:=fun σ H Q=>t σ H fun c H1=>if c=true then u σ H1 Q else Q false H1
def MX(t u:TT):TT:=fun σ H Q=>t σ H fun c H1=>if c=true then Q true H1 else u σ H1 Q
def MZ(t:TT):TT:=fun σ H Q=>t σ H fun c H1=>Q (!c) H1
theorem Qj(ha:PT X a tA):PW X (.BoolOp .And [a] pos) tA:=by
 intro wh pins s σ H Q I h
 refine isTrue_and (aY (ha pins s σ H Q I h) fun c s1 e=>?_)
 cases c with
 |true=>exact isTrue_and_nil e
 |false=>exact e
theorem Qh(ha:PT X a tA):PW X (.BoolOp .Or [a] pos) tA:=by
 intro wh pins s σ H Q I h
 refine isTrue_or (aY (ha pins s σ H Q I h) fun c s1 e=>?_)
 cases c with
 |false=>exact isTrue_or_nil e
 |true=>exact e
theorem Qk(ha:PT X a tA) (hb:PW X (.BoolOp .And (b::rest) pos) uC):PW X (.BoolOp .And (a::b::rest) pos) (Nc tA uC):=by
 intro wh pins s σ H Q I h
 refine isTrue_and (aY (ha pins s σ H _ I h) fun c s1 ⟨H1,I1,q1⟩=>?_)
 cases c with
 |true=>exact hb wh pins s1 σ H1 Q I1 q1
 |false=>exact⟨H1,I1,q1⟩
theorem Qi(ha:PT X a tA) (hb:PW X (.BoolOp .Or (b::rest) pos) uC):PW X (.BoolOp .Or (a::b::rest) pos) (MX tA uC):=by
 intro wh pins s σ H Q I h
 refine isTrue_or (aY (ha pins s σ H _ I h) fun c s1 ⟨H1,I1,q1⟩=>?_)
 cases c with
 |true=>exact⟨H1,I1,q1⟩
 |false=>exact hb wh pins s1 σ H1 Q I1 q1
theorem Qo(ha:PT X a tA):PT X (.UnaryOp .Not a pos) (MZ tA):=by
 intro pins s σ H Q I h
 exact isTrue_not (ha pins s σ H (fun c H1=>Q (!c) H1) I h)
def Nb(ta tb:TE):TE:=fun σ H Q=>ta σ H fun x H1=>∃c,x=.bl c∧if c=true then tb σ H1 Q else Q (.bl false) H1
def MY(ta:TE):TE:=fun σ H Q=>ta σ H fun x H1=>∃c,x=.bl c∧Q (.bl (!c)) H1
theorem RN{op}{t:TE}(h:PE X a t):PE X (.BoolOp op [a] pos) t:=fun pins s σ H Q I hw=>BoolOp_one (h pins s σ H Q I hw)
theorem RZ(ha:PE X a ta) (hb:PE X (.BoolOp .And (b::rest) pos) tb):PE X (.BoolOp .And (a::b::rest) pos) (Nb ta tb):=by
 intro pins s σ H Q I h
 refine BoolOp_and (aY (ha pins s σ H _ I h) fun v s1 ⟨x,H1,I1,r1,q1⟩=>?_)
 obtain⟨c,rfl,q1⟩:=q1
 cases r1
 refine agv ?_
 cases c with
 |true=>exact hb pins s1 σ H1 Q I1 q1
 |false=>exact⟨.bl false,H1,I1,rfl,q1⟩
theorem RO(ha:PE X a ta):PE X (.UnaryOp .Not a pos) (MY ta):=by
 intro pins s σ H Q I h
 refine UnaryOp_ (aY (ha pins s σ H _ I h) fun v s1 ⟨x,H1,I1,r1,q1⟩=>?_)
 obtain⟨c,rfl,q1⟩:=q1
 cases r1
 exact not_of (agv ⟨.bl (!c),H1,I1,rfl,q1⟩)
def M5(t:TT) (ta tb:TE):TE:=fun σ H Q=>t σ H fun c H1=>if c=true then ta σ H1 Q else tb σ H1 Q
theorem RQ{c:Expr}(hc:PT X c tA) (ha:PE X a ta) (hb:PE X b tb):PE X (.IfExp c a b pos) (M5 tA ta tb):=by
 intro pins s σ H Q I h
 refine wpAny_IfExp (aY (hc pins s σ H _ I h) fun d s1 ⟨H1,I1,q1⟩=>?_)
 cases d with
 |true=>exact ha pins s1 σ H1 Q I1 q1
 |false=>exact hb pins s1 σ H1 Q I1 q1
end
end L2
namespace L2
open PySem PySem.Spec PyProof.Rows
def aZ(K:PySem.W.Frag) (H:Hp) (a:Addr) (xs:List V):Prop :=
 Rd H a (.lst xs) ∨
  ∃(o:Obj) (its:Array Value) (n:Nat),K.lookup a=some o∧o.cls=.type "list"∧o.dict=none∧o.data=.seq its n∧its.size≤sizeLine∧Vals xs its.toList
def bB(K:PySem.W.Frag) (H:Hp) (a:Addr) (xs:List V):Prop :=
 Rd H a (.tup xs) ∨
  ∃(o:Obj) (its:Array Value) (n:Nat),K.lookup a=some o∧o.cls=.type "tuple"∧o.data=.seq its n∧its.size≤sizeLine∧Vals xs its.toList
def adm:Value→Option V
 |.none=>some .aL
 |.bool b=>some (.bl b)
 |.int i _=>some (.int i)
 |.str x _=>some (.str x)
 |.bytes b _=>some (.gB b)
 |.float b _=>some (.qp b)
 |.ref a=>some (.ref a)
 |.type n=>some (.ty n)
 |_=>none
theorem RelV.abs{x:V}{u:Value}(r:RelV x u):adm u=some x:=by
 cases x with
 |aL=>cases r;rfl
 |bl _=>cases r;rfl
 |int _=>obtain⟨t,rfl⟩:=r;rfl
 |str _=>obtain⟨t,rfl⟩:=r;rfl
 |gB _=>obtain⟨t,rfl⟩:=r;rfl
 |qp _=>obtain⟨t,rfl⟩:=r;rfl
 |ref _=>cases r;rfl
 |ty _=>cases r;rfl
theorem RelV.inj{x y:V}{u:Value}(r:RelV x u) (q:RelV y u):x=y:=afN (r.abs.symm.trans q.abs)
theorem Vals.inj:∀{xs ys:List V}{us:List Value},Vals xs us→Vals ys us→xs=ys
 |_,_,_,.nil,.nil=>rfl
 |_,_,_,.cons r t,.cons r' t'=>by rw[r.inj r',Vals.inj t t']
section
variable {X:Cx}{pins:List (Addr×Obj)}{σ:St}{H:Hp}{s:Shared}{a:Addr}{xs ys:List V}
theorem aZ.of{K:PySem.W.Frag}(h:H a=some (.lst xs)):aZ K H a xs:=.inl (.inl h)
theorem bB.of{K:PySem.W.Frag}(h:H a=some (.tup xs)):bB K H a xs:=.inl (.inl h)
theorem Inv.list(I:Inv X pins σ H s) (h:aZ X.K H a xs):∃its:List Value,Vals xs its∧PlainL s.heap a its.toArray∧xs.length≤sizeLine:=by
 rcases h with h|⟨o,its,n,hk,hc,hd,hs,hz,r⟩
 ·obtain⟨z,its,n,r,e⟩:=h.ok I.hok
  exact⟨its,r,⟨_,n,e,rfl,rfl,rfl⟩,z⟩
 ·refine⟨its.toList,r,⟨o,n,I.eo a o hk,hc,hd,by simpa using hs⟩,?_⟩
  have e:=r.length
  simp only[afM]at e
  omega
theorem Inv.tuple(I:Inv X pins σ H s) (h:bB X.K H a xs):∃its:List Value,Vals xs its∧IsTup s.heap a its.toArray∧xs.length≤sizeLine:=by
 rcases h with h|⟨o,its,n,hk,hc,hs,hz,r⟩
 ·obtain⟨z,its,r,p⟩:=h.ok I.hok
  exact⟨its,r,p.tup,z⟩
 ·refine⟨its.toList,r,⟨o,I.eo a o hk,hc,n,by simpa using hs⟩,?_⟩
  have e:=r.length
  simp only[afM]at e
  omega
theorem Inv.zR(I:Inv X pins σ H s) (h:aZ X.K H a xs) (h':aZ X.K H a ys):xs=ys:=by
 obtain⟨its,r,⟨o,n,e,_,_,d⟩,_⟩:=I.list h
 obtain⟨its',r',⟨o',n',e',_,_,d'⟩,_⟩:=I.list h'
 rw[e]at e';cases e'
 rw[d]at d'
 injection d' with d1 _
 have:its=its':=by simpa using congrArg Array.toList d1
 subst this
 exact r.inj r'
theorem Inv.EJ(I:Inv X pins σ H s) (h:bB X.K H a xs) (h':bB X.K H a ys):xs=ys:=by
 obtain⟨its,r,⟨o,e,_,n,d⟩,_⟩:=I.tuple h
 obtain⟨its',r',⟨o',e',_,n',d'⟩,_⟩:=I.tuple h'
 rw[e]at e';cases e'
 rw[d]at d'
 injection d' with d1 _
 have:its=its':=by simpa using congrArg Array.toList d1
 subst this
 exact r.inj r'
end
abbrev Cx.iL(X:Cx) (E:Value→Shared→Prop):Cx:={X with xe:=E}
abbrev Cx.rZ(X:Cx):Cx:=X.iL fun _ _=>False
theorem Cx.Ok.iL{X:Cx}(ok:X.Ok) (E:Value→Shared→Prop):(X.iL E).Ok :=
 ⟨ok.mod,ok.kind,ok.glob,ok.blt,ok.above,ok.inj,ok.has,ok.nj,ok.hd,ok.frames,ok.stk,ok.tF,ok.bs,ok.jc,ok.jn,ok.qq,ok.iF,ok.qo⟩
theorem Cx.Ok.kE{X:Cx}{E:Value→Shared→Prop}(ok:(X.iL E).Ok):X.Ok :=
 ⟨ok.mod,ok.kind,ok.glob,ok.blt,ok.above,ok.inj,ok.has,ok.nj,ok.hd,ok.frames,ok.stk,ok.tF,ok.bs,ok.jc,ok.jn,ok.qq,ok.iF,ok.qo⟩
section
variable {X:Cx}{pins:List (Addr×Obj)}{σ:St}{H:Hp}{s:Shared}{E:Value→Shared→Prop}
theorem Inv.iL(I:Inv X pins σ H s) (E:Value→Shared→Prop):Inv (X.iL E) pins σ H s:=⟨I.ok.iL E,I.os,I.bare,I.base,I.loc,I.cell,I.free,I.gY,I.pin,I.hok,I.len⟩
theorem Inv.kE(I:Inv (X.iL E) pins σ H s):Inv X pins σ H s:=⟨I.ok.kE,I.os,I.bare,I.base,I.loc,I.cell,I.free,I.gY,I.pin,I.hok,I.len⟩
theorem SP.kE{D:Ends}{f:Flow}{s':Shared}(h:SP (X.iL E) pins D f s'):SP X pins D f s':=by
 cases f with
 |next=>obtain⟨σ',H',I,q⟩:=h;exact⟨σ',H',I.kE,q⟩
 |brk=>obtain⟨σ',H',I,q⟩:=h;exact⟨σ',H',I.kE,q⟩
 |cont=>obtain⟨σ',H',I,q⟩:=h;exact⟨σ',H',I.kE,q⟩
 |ret u=>obtain⟨v,σ',H',I,r,q⟩:=h;exact⟨v,σ',H',I.kE,r,q⟩
theorem fJ.rZ{st:List Stmt}{t:TS}(h:fJ X.rZ st t):fJ X st t:=fun pins s σ H D I hw =>
 af6 (h pins s σ H D (I.iL _) hw) (fun _ _ q=>q.kE) fun _ _ z=>False.elim z
end
section
variable {X:Cx}{st:Stmt}{rest:List Stmt}{t u:TS}{e:Expr}{te:TE}{pos:Pos}
def M1:TS:=fun D σ H=>D.nx σ H
def MV(t u:TS):TS:=fun D σ H=>t {D with nx:=u D} σ H
theorem Qt:fJ X [] M1:=fun _ _ σ H _ I h=>aia ⟨σ,H,I,h⟩
theorem Qu(h1:PS X st t) (h2:fJ X rest u):fJ X (st::rest) (MV t u):=by
 intro pins s σ H D I h
 refine wpAny_execs_cons (aY (h1 pins s σ H {D with nx:=u D} I h) fun f s1 q=>?_)
 cases f with
 |next =>
  obtain⟨σ',H',I',q⟩:=q
  exact h2 pins s1 σ' H' D I' q
 |ret v=>exact q
 |brk=>exact q
 |cont=>exact q
theorem Qs(h1:PS X st t):fJ X [st] t:=by
 intro pins s σ H D I h
 refine wpAny_execs_cons (aY (h1 pins s σ H D I h) fun f s1 q=>?_)
 cases f with
 |next=>exact aia q
 |ret v=>exact q
 |brk=>exact q
 |cont=>exact q
theorem Inv.quiet{pins:List (Addr×Obj)}{σ:St}{H:Hp}{s:Shared}(I:Inv X pins σ H s):interactive X.env=false:=by simp[interactive,I.ok.kind]
def M8(te:TE):TS:=fun D σ H=>te σ H fun _ H1=>D.nx σ H1
theorem QB(he:PE X e te) (hs:swapsWith e none pos.line X.env=pure false:=by rfl):PS X (.Expr e pos) (M8 te):=by
 intro pins s σ H D I h
 exact wpAny_Expr_any (aY (he pins s σ H _ I h) fun v s1 ⟨x,H1,I1,r1,q1⟩=>⟨σ,H1,I1,q1⟩) I.quiet hs
def MW(te:TE):TS:=fun D σ H=>te σ H D.rt
theorem Qy(he:PE X e te):PS X (.Return (some e) pos) (MW te):=by
 intro pins s σ H D I h
 exact wpAny_Return_some (aY (he pins s σ H _ I h) fun v s1 ⟨x,H1,I1,r1,q1⟩=>⟨x,σ,H1,I1,r1,q1⟩)
def M4(c:TT) (t u:TS):TS:=fun D σ H=>c σ H fun b H1=>if b=true then t D σ H1 else u D σ H1
theorem Qz{c:Expr}{a b:List Stmt}{tc:TT}(hc:PT X c tc) (ha:fJ X a t) (hb:fJ X b u):PS X (.If c a b pos) (M4 tc t u):=by
 intro pins s σ H D I h
 refine wpAny_If (aY (hc pins s σ H _ I h) fun d s1 ⟨H1,I1,q1⟩=>?_)
 cases d with
 |true=>exact ha pins s1 σ H1 D I1 q1
 |false=>exact hb pins s1 σ H1 D I1 q1
end
abbrev TG:=V→St→Hp→(St→Hp→Prop)→Prop
abbrev ko:=List V→St→Hp→(St→Hp→Prop)→Prop
def PG(X:Cx) (target:Expr) (t:TG):Prop :=
 ∀(pins:List (Addr×Obj)) (s:Shared) (σ:St) (H:Hp) (v:V) (u:Value) (Q:St→Hp→Prop),Inv X pins σ H s→RelV v u→t v σ H Q →
  wpAny (model X.prog X.w) X.A (assign target X.env u) (fun _ s'=>∃σ' H',Inv X pins σ' H' s'∧Q σ' H') X.xe s
def lO(X:Cx) (ts:List Expr) (t:ko):Prop :=
 ∀(pins:List (Addr×Obj)) (s:Shared) (σ:St) (H:Hp) (vs:List V) (us:List Value) (Q:St→Hp→Prop),Inv X pins σ H s→Vals vs us→t vs σ H Q →
  wpAny (model X.prog X.w) X.A (assignInOrder ((assignEach ts X.env).map (·.2)) us) (fun _ s'=>∃σ' H',Inv X pins σ' H' s'∧Q σ' H') X.xe s
abbrev Eb:=V→V→V→Hp→(Hp→Prop)→Prop
def KY(X:Cx) (t:Eb):Prop :=
 ∀(pins:List (Addr×Obj)) (s:Shared) (σ:St) (H:Hp) (o i v:V) (ov iv u:Value) (Q:Hp→Prop),Inv X pins σ H s→RelV o ov→RelV i iv→RelV v u→t o i v H Q →
  wpAny (model X.prog X.w) X.A (setItem ov iv u) (fun _ s'=>∃H',Inv X pins σ H' s'∧Q H') X.xe s
section
variable {X:Cx}{pos:Pos}
def IY(i:Nat):TG:=fun v σ H Q=>Q (σ.set i (some v)) H
theorem RE{i:Nat}{x:Str}(hN:X.N.Nodup) (hi:X.N[i]? = some x) (hx:Loc X.env.scope x) (hf:X.fn x=true∨X.env.scope.names.lookup x=some .local:=by first|exact .inl rfl|exact .inr rfl|assumption):PG X (.Name x pos) (IY i):=by
 intro pins s σ H v u Q I r h
 exact wpAny_assign_Name (E8 I hN hi hx r (fun s' I'=>⟨_,H,I',h⟩) hf)
def Zi:ko:=fun vs σ H Q=>vs=[]∧Q σ H
def Zj(t:TG) (u:ko):ko:=fun vs σ H Q=>∃v r,vs=v::r∧t v σ H fun σ' H'=>u r σ' H' Q
theorem RA:lO X [] Zi:=by
 intro pins s σ H vs us Q I r h
 obtain⟨e,h⟩:=h
 subst e
 cases r
 exact assignInOrder_nil ⟨σ,H,I,h⟩
theorem RB{e:Expr}{es:List Expr}{t:TG}{u:ko}(h1:PG X e t) (h2:lO X es u)
  (hs:(assignEach (e::es) X.env).map (·.2)=assign e X.env::(assignEach es X.env).map (·.2):=by rfl):lO X (e::es) (Zj t u):=by
 intro pins s σ H vs us Q I r h
 obtain⟨v,vr,e1,h⟩:=h
 subst e1
 cases r with
 |cons r rr =>
  rw[hs]
  refine assignInOrder_cons (aY (h1 pins s σ H _ _ _ I r h) fun _ s1 ⟨σ1,H1,I1,q1⟩=>?_)
  exact h2 pins s1 σ1 H1 _ _ Q I1 rr q1
def Zg(K:PySem.W.Frag) (n:Nat) (t:ko):TG:=fun v σ H Q=>∃a xs,v=.ref a∧bB K H a xs∧xs.length=n∧t xs σ H Q
theorem RC{es:List Expr}{k:Nat}{t:ko}{n:Nat}(hc:X.calm=true) (h:lO X es t)
  (hn:(assignEach es X.env).length=n:=by rfl) (hst:(assignEach es X.env).findIdx? (·.1)=none:=by rfl):PG X (.Tuple es k pos) (Zg X.K n t):=by
 intro pins s σ H v u Q I r hw
 obtain⟨a,xs,e1,hq,hl,hw⟩:=hw
 subst e1
 cases r
 obtain⟨its,rv,ht,hz⟩:=I.tuple hq
 refine assign_Tuple_tuple (I.ok.hd hc) ht (by simp[hn,←hl,rv.length]) hst fun h' hx=>?_
 have I1:Inv X pins σ H {s with heap:=h'}:=I.kept (t':=s.toks) fun b o e=>hx b o (afB (afA e)) e
 exact h pins _ σ H xs _ Q I1 (by simpa using rv) hw
def Zh(to ti:TE) (t:Eb):TG:=fun v σ H Q=>to σ H fun o H1=>ti σ H1 fun i H2=>t o i v H2 fun H3=>Q σ H3
theorem RD{o i:Expr}{to ti:TE}{t:Eb}(ho:PE X o to) (hi:PE X i ti) (hs:KY X t)
  (ha:∀v,assign (.Subscript o i pos) X.env v=(do
   let ov ←holding [v] (eval o X.env)
   let iv ←holding [v,ov] (eval i X.env)
   standAt pos
   holding [v,ov,iv] (setItem ov iv v)
   release [v,ov,iv] []):=by intro _;rfl):PG X (.Subscript o i pos) (Zh to ti t):=by
 intro pins s σ H v u Q I r h
 rw[ha]
 refine afq (agl (aY (ho pins s σ H _ I h) fun ov s1 ⟨x,H1,I1,r1,q1⟩=>?_))
 refine afq (agl (aY (hi pins s1 σ H1 _ I1 q1) fun iv s2 ⟨y,H2,I2,r2,q2⟩=>?_))
 refine afq (aib (afq (agl (aY (hs pins s2 σ H2 x y v ov iv u _ I2 r1 r2 r q2) fun _ s3 ⟨H3,I3,q3⟩=>?_))))
 exact wpAny_release ⟨σ,H3,I3,q3⟩
def E2(te:TE) (g:TG):TS:=fun D σ H=>te σ H fun x H1=>g x σ H1 D.nx
theorem QC{tg e:Expr}{te:TE}{g:TG}(he:PE X e te) (hg:PG X tg g) (hs:swapsWithSole [tg] e pos.line X.env=pure false:=by rfl) (hw:swappedStores [tg] e X.env=pure none:=by rfl)
  (h1:(assignEach [tg] X.env).map (·.2)=[assign tg X.env]:=by rfl):PS X (.Assign [tg] e pos) (E2 te g):=by
 intro pins s σ H D I h
 refine wpAny_Assign_stores (aY (he pins s σ H _ I h) fun v s1 ⟨x,H1,I1,r1,q1⟩=>?_) hs hw
 rw[h1]
 exact aY (hg pins s1 σ H1 x v _ I1 r1 q1) fun _ s2 q=>q
theorem Qx{i:Nat}{x:Str}{e:Expr}{te:TE}{pos':Pos}(hN:X.N.Nodup) (hi:X.N[i]? = some x) (hx:Loc X.env.scope x) (he:PE X e te) (hs:swapsWith e (some (.Name x pos')) pos.line X.env=pure false:=by rfl) (hf:X.fn x=true∨X.env.scope.names.lookup x=some .local:=by first|exact .inl rfl|exact .inr rfl|assumption) :
  PS X (.Assign [.Name x pos'] e pos) (E2 te (IY i)):=by
 intro pins s σ H D I h
 refine wpAny_Assign_Name (aY (he pins s σ H _ I h) fun v s1 ⟨y,H1,I1,r1,q1⟩=>?_) hs
 exact E8 I1 hN hi hx r1 (fun s2 I2=>⟨_,H1,I2,q1⟩) hf
end
structure It where
 go:Nat→Hp→Prop
 rA:Nat→Hp→V→Hp→Prop
 stop:Nat→Hp→Prop
def fu(X:Cx) (pins:List (Addr×Obj)) (H:Hp) (b:Addr):Prop :=
 H b=none∧b≠X.env.locals∧b∉X.fs∧(b∈X.ex∨X.s₀.heap.objs.size≤b)∧(∀x c,X.env.cells.lookup x=some c→c≠b)∧∀p∈X.pn++pins,p.1≠b
theorem Inv.tw{X:Cx}{pins:List (Addr×Obj)}{σ:St}{H H':Hp}{s:Shared}{b:Addr}(I:Inv X pins σ H s) (hb:s.heap.objs.size≤b) (hn:H' b=none):fu X pins H' b:=by
 refine⟨hn,agm (afH I.lt hb),I.zw hb,.inr (afL I.sz hb),fun x c e z=>?_,fun p hp z=>?_⟩
 ·obtain⟨v,q⟩:=I.cell x c e
  exact absurd (afH q.lt (by rw[z];exact hb)) (agf _)
 ·exact absurd (afH (afA (I.pin p hp).1) (by rw[z];exact hb)) (agf _)
structure Turn (P:Program) (w:World) (K:PySem.W.Frag) (tg:Expr) (J:It) (fp:List Addr) (it:Addr) (tn:Nat→Heap→Prop):Prop where
 mem:it∈fp
 obj:∀i h,tn i h→∀b∈fp,∃o,h.get? b=some o∧∀v,o.data≠.cell v
 keep:∀i h h',tn i h→(∀b∈fp,∀o,h.get? b=some o→h'.get? b=some o)→tn i h'
 item:∀(X:Cx),X.prog=P→X.w=w→X.K=K→X.calm=true→∀(i:Nat) (pins:List (Addr×Obj)) (s:Shared) (σ:St) (H:Hp) (E:Value→Shared→Prop),Inv X pins σ H s→(∀b∈fp,fu X pins H b)→tn i s.heap→J.go i H →
  wpAny (model P w) X.A (pyNext (.ref it)) (fun r s1=>∃u,r=some u ∧
   wpAny (model P w) X.A (letOwnedTupleGo tg (.ref it) u) (fun _ s2=>∃x H',Inv X pins σ H' s2∧RelV x u∧J.rA i H x H'∧tn (i+1) s2.heap∧∀b∈fp,H' b=none) E s1) E s
 done:∀(X:Cx),X.prog=P→X.w=w→X.K=K→X.calm=true→∀(i:Nat) (pins:List (Addr×Obj)) (s:Shared) (σ:St) (H:Hp) (E:Value→Shared→Prop),Inv X pins σ H s→(∀b∈fp,fu X pins H b)→tn i s.heap→J.stop i H →
  wpAny (model P w) X.A (pyNext (.ref it)) (fun r s1=>r=none∧Inv X pins σ H s1) E s
 self:∀(A:Around) (i:Nat) (s:Shared) (Q:Value→Shared→Prop) (E:Value→Shared→Prop),tn i s.heap→Q (.ref it) s→wpAny (model P w) A (pyIter (.ref it)) Q E s
abbrev TI:=St→Hp→(It→Hp→Prop)→Prop
def KZ(X:Cx) (pins:List (Addr×Obj)) (σ:St) (tg:Expr) (R:It→Hp→Prop) (itv:Value) (s2:Shared):Prop :=
 ∃(it:Addr) (fp:List Addr) (tn:Nat→Heap→Prop) (J:It) (H':Hp),itv=.ref it∧Inv X pins σ H' s2∧Turn X.prog X.w X.K tg J fp it tn∧tn 0 s2.heap∧(∀b∈fp,fu X pins H' b)∧R J H'
def PI(X:Cx) (tg iter:Expr) (wi:TI):Prop :=
 ∀(pins:List (Addr×Obj)) (s:Shared) (σ:St) (H:Hp) (R:It→Hp→Prop),Inv X pins σ H s→wi σ H R →
  wpAny (model X.prog X.w) X.A (eval iter X.env) (fun v s1=>wpAny (model X.prog X.w) X.A (pyIter v) (KZ X pins σ tg R) X.xe s1) X.xe s
theorem vK{M:Model}{A:Around}{E:Value→Shared→Prop}{s:Shared}{tg:Expr}{it:Addr}{u:Value}{o:Obj}{n:String}{vs:Array Value}{Q:Unit→Shared→Prop}(ho:s.heap.get? it=some o) (hc:o.cls=.type n) (hd:o.data=.fields vs)
    (hn:["enumerate","zip","dict_itemiterator","dict_reverseitemiterator","odict_iterator","itertools.zip_longest","itertools.pairwise"].contains n=false) (hQ:Q () s):wpAny M A (letOwnedTupleGo tg (.ref it) u) Q E s:=by
  unfold letOwnedTupleGo
  cases tg<;>first
    | exact afr hQ
    | (cases u<;>first
        | exact afr hQ
        | (refine afq (wpAny_load ho ?_)
           rw[hc,hd]
           show wpAny M A (if(["enumerate","zip","dict_itemiterator","dict_reverseitemiterator","odict_iterator","itertools.zip_longest","itertools.pairwise"].contains n&&vs[0]? == some (rawInt _))=true then _ else _) Q E s
           rw[if_neg (by intro h;rw[hn,aic]at h;cases h)]
           exact afr hQ))
def Ej(K:PySem.W.Frag) (a:Addr):It :=
 ⟨fun i H=>∃xs x,aZ K H a xs∧xs[i]? = some x,fun i H x H'=>H'=H∧∀xs,aZ K H a xs→xs[i]? = some x,fun i H=>∃xs,aZ K H a xs∧xs.length≤i⟩
def Ei(K:PySem.W.Frag) (a:Addr):It :=
 ⟨fun i H=>∃xs x,bB K H a xs∧xs[i]? = some x,fun i H x H'=>H'=H∧∀xs,bB K H a xs→xs[i]? = some x,fun i H=>∃xs,bB K H a xs∧xs.length≤i⟩
def ua(lo:Int) (n:Nat):It:=⟨fun i _=>i<n,fun i H x H'=>H'=H∧x=.int (lo+i),fun i _=>n≤i⟩
theorem MG{P:Program}{w:World}{K:PySem.W.Frag}{tg:Expr}(a it:Addr):Turn P w K tg (Ej K a) [it] it (fun i h=>h.IsListIter it a i) where
 mem:=by simp
 obj:=fun i h st b hb=>by
  have e:b=it:=by simpa using hb
  subst e
  obtain⟨o,e,c,d⟩:=st
  exact⟨o,e,fun v z=>by rw[d]at z;cases z⟩
 keep:=fun i h h' st k=>st.at fun o e=>k it (by simp) o e
 item:=by
  intro X hP hw hK hc i pins s σ H E I hf st hg
  subst hP hw hK
  obtain⟨xs,x,hq,hx⟩:=hg
  obtain⟨its,rv,p,hz⟩:=I.list hq
  obtain⟨u,hu,ru⟩:=rv.get hx
  obtain⟨f0,f1,f2,f3,f4,f5⟩:=hf it (by simp)
  refine wpAny_pyNext_list_item st p.isList (x:=u) (by simpa using hu) fun h' st' sb=>?_
  have I1:Inv X pins σ H {s with heap:=h'}:=I.turned (t':=s.toks) (fun b o hb e=>(sb.2 b hb).trans e) f0 f1 f3 f4 f5
  obtain⟨o,e,c,d⟩:=id st'
  exact⟨u,rfl,vK (s:={s with heap:=h'}) e c d (by decide) ⟨x,H,I1,ru,⟨rfl,fun ys hy=>by rw[I.zR hy hq];exact hx⟩,st',fun b hb=>(hf b hb).1⟩⟩
 done:=by
  intro X hP hw hK hc i pins s σ H E I hf st hg
  subst hP hw hK
  obtain⟨xs,hq,hx⟩:=hg
  obtain⟨its,rv,p,hz⟩:=I.list hq
  obtain⟨f0,f1,f2,f3,f4,f5⟩:=hf it (by simp)
  have hl:=rv.length
  exact wpAny_pyNext_list_end (I.ok.hd hc) st p.isList (by simp;omega) fun h' eb=>⟨rfl,I.turned (t':=s.toks) (fun b o hb e=>eb b o hb e) f0 f1 f3 f4 f5⟩
 self:=fun _ _ _ _ _ st h=>wpAny_pyIter_listiter st h
theorem MD{P:Program}{w:World}{K:PySem.W.Frag}{tg:Expr}(a it:Addr):Turn P w K tg (Ei K a) [it] it (fun i h=>h.IsTupleIter it a i) where
 mem:=by simp
 obj:=fun i h st b hb=>by
  have e:b=it:=by simpa using hb
  subst e
  obtain⟨o,e,c,d⟩:=st
  exact⟨o,e,fun v z=>by rw[d]at z;cases z⟩
 keep:=fun i h h' st k=>st.at fun o e=>k it (by simp) o e
 item:=by
  intro X hP hw hK hc i pins s σ H E I hf st hg
  subst hP hw hK
  obtain⟨xs,x,hq,hx⟩:=hg
  obtain⟨its,rv,p,hz⟩:=I.tuple hq
  obtain⟨u,hu,ru⟩:=rv.get hx
  obtain⟨f0,f1,f2,f3,f4,f5⟩:=hf it (by simp)
  refine wpAny_pyNext_tuple_item st (show s.heap.IsTuple a its.toArray from p) (x:=u) (by simpa using hu) fun h' st' sb=>?_
  have I1:Inv X pins σ H {s with heap:=h'}:=I.turned (t':=s.toks) (fun b o hb e=>(sb.2 b hb).trans e) f0 f1 f3 f4 f5
  obtain⟨o,e,c,d⟩:=id st'
  exact⟨u,rfl,vK (s:={s with heap:=h'}) e c d (by decide) ⟨x,H,I1,ru,⟨rfl,fun ys hy=>by rw[I.EJ hy hq];exact hx⟩,st',fun b hb=>(hf b hb).1⟩⟩
 done:=by
  intro X hP hw hK hc i pins s σ H E I hf st hg
  subst hP hw hK
  obtain⟨xs,hq,hx⟩:=hg
  obtain⟨its,rv,p,hz⟩:=I.tuple hq
  obtain⟨f0,f1,f2,f3,f4,f5⟩:=hf it (by simp)
  have hl:=rv.length
  exact wpAny_pyNext_tuple_end (I.ok.hd hc) st (show s.heap.IsTuple a its.toArray from p) (by simp;omega) fun h' eb=>⟨rfl,I.turned (t':=s.toks) (fun b o hb e=>eb b o hb e) f0 f1 f3 f4 f5⟩
 self:=fun _ _ _ _ _ st h=>wpAny_pyIter_tupleiter st h
theorem MF{P:Program}{w:World}{K:PySem.W.Frag}{tg:Expr}(it:Addr) (lo:Int) (n:Nat):Turn P w K tg (ua lo n) [it] it (fun i h=>IsRangeIter h it (lo+(i:Nat)*1) ((n:Int)-(i:Nat)) 1) where
 mem:=by simp
 obj:=fun i h st b hb=>by
  have e:b=it:=by simpa using hb
  subst e
  exact⟨_,st,fun v z=>by
   have z':Data.fields _=Data.cell v:=z
   cases z'⟩
 keep:=fun i h h' st k=>k it (by simp) _ st
 item:=by
  intro X hP hw hK hc i pins s σ H E I hf st hg
  subst hP hw hK
  obtain⟨f0,f1,f2,f3,f4,f5⟩:=hf it (by simp)
  have W:=Walks.range (prog:=X.prog) (w:=X.w) (I.ok.hd hc) it lo 1 n
  refine W.item i s _ _ hg st fun v h' tk hv st' kk=>?_
  obtain⟨t,rfl⟩:=hv
  have I1:Inv X pins σ H {s with heap:=h',toks:=tk}:=I.turned (fun b o hb e=>kk b o (by simpa using hb) e) f0 f1 f3 f4 f5
  refine⟨_,rfl,vK (s:={s with heap:=h',toks:=tk}) (n:="range_iterator") st' rfl rfl (by decide) ⟨.int (lo+i),H,I1,⟨t,?_⟩,⟨rfl,rfl⟩,st',fun b hb=>(hf b hb).1⟩⟩
  rw[Int.mul_one]
 done:=by
  intro X hP hw hK hc i pins s σ H E I hf st hg
  subst hP hw hK
  obtain⟨f0,f1,f2,f3,f4,f5⟩:=hf it (by simp)
  exact wpAny_pyNext_range_end (I.ok.hd hc) st (by have:n≤i:=hg;omega) fun h' eb=>⟨rfl,I.turned (t':=s.toks) (fun b o hb e=>eb b o hb e) f0 f1 f3 f4 f5⟩
 self:=fun _ _ _ _ _ st h=>wpAny_pyIter_rangeiter st h
end L2
namespace L2
open PySem PySem.Spec PyProof.Rows
section
variable {X:Cx}{tg:Expr}
def Yn(K:PySem.W.Frag) (tl:TE):TI:=fun σ H R=>tl σ H fun x H1=>∃a,x=.ref a∧(∃xs,aZ K H1 a xs)∧R (Ej K a) H1
def Yj(K:PySem.W.Frag) (tl:TE):TI:=fun σ H R=>tl σ H fun x H1=>∃a,x=.ref a∧(∃xs,bB K H1 a xs)∧R (Ei K a) H1
theorem Rz{l:Expr}{tl:TE}(hl:PE X l tl):PI X tg l (Yn X.K tl):=by
 intro pins s σ H R I h
 refine aY (hl pins s σ H _ I h) fun v s1 ⟨x,H1,I1,r1,q1⟩=>?_
 obtain⟨a,e,⟨xs,hq⟩,q⟩:=q1
 subst e
 cases r1
 obtain⟨its,rv,p,hz⟩:=I1.list hq
 refine ahg p.isList ?_
 refine⟨s1.heap.objs.size,[s1.heap.objs.size],_,_,H1,rfl,I1.kept (t':=s1.toks) fun b o e=>afw _ e,MG a _,⟨_,afI _ rfl,rfl,rfl⟩,fun b hb=>?_,q⟩
 have e:b=s1.heap.objs.size:=by simpa using hb
 subst e
 exact I1.tw (afs _) (I1.hok.fresh (afs _))
theorem Rv{l:Expr}{tl:TE}(hl:PE X l tl):PI X tg l (Yj X.K tl):=by
 intro pins s σ H R I h
 refine aY (hl pins s σ H _ I h) fun v s1 ⟨x,H1,I1,r1,q1⟩=>?_
 obtain⟨a,e,⟨xs,hq⟩,q⟩:=q1
 subst e
 cases r1
 obtain⟨its,rv,p,hz⟩:=I1.tuple hq
 refine ahG (show s1.heap.IsTuple a its.toArray from p) ?_
 refine⟨s1.heap.objs.size,[s1.heap.objs.size],_,_,H1,rfl,I1.kept (t':=s1.toks) fun b o e=>afw _ e,MD a _,⟨_,afI _ rfl,rfl,rfl⟩,fun b hb=>?_,q⟩
 have e:b=s1.heap.objs.size:=by simpa using hb
 subst e
 exact I1.tw (afs _) (I1.hok.fresh (afs _))
theorem FW{pins:List (Addr×Obj)}{σ:St}{H:Hp}{s:Shared}{R:It→Hp→Prop}{E:Value→Shared→Prop}{lo hi:Int}{t u v:Tok}{tk:Nat}(I:Inv X pins σ H s) (h1:-(2^62)≤lo) (h2:lo<2^62) (h3:-(2^62)≤hi) (h4:hi<2^62)
  (q:R (ua lo (hi-lo).toNat) H):wpAny (model X.prog X.w) X.A (pyIter (.ref s.heap.objs.size)) (KZ X pins σ tg R) E {s with heap:=s.heap.push {cls:=.type "range",data:=.fields #[.int lo t,.int hi u,.int 1 v]},toks:=tk}:=by
 refine wpAny_pyIter_range (IsRange.new ..) (small_one h1 h2 h3 h4) ?_
 have I1:Inv X pins σ H {s with heap:=s.heap.push {cls:=.type "range",data:=.fields #[.int lo t,.int hi u,.int 1 v]},toks:=tk}:=I.kept fun b o e=>afw _ e
 refine⟨(s.heap.push {cls:=.type "range",data:=.fields #[.int lo t,.int hi u,.int 1 v]}).objs.size,[(s.heap.push {cls:=.type "range",data:=.fields #[.int lo t,.int hi u,.int 1 v]}).objs.size],_,_,H,rfl,
  I1.kept (t':=tk) fun b o e=>afw _ e,MF _ lo (hi-lo).toNat,?_,fun b hb=>?_,q⟩
 ·have e1:lo+((0:Nat):Int)*1=lo:=by simp
  have e2:(((hi-lo).toNat:Nat):Int)-((0:Nat):Int)=Builtin.Range.rangeSize lo hi 1:=by rw[rangeSize_one];split<;>omega
  show IsRangeIter _ _ (lo+((0:Nat):Int)*1) ((((hi-lo).toNat:Nat):Int)-((0:Nat):Int)) 1
  rw[e1,e2]
  exact afI _ rfl
 ·have e:b=(s.heap.push {cls:=.type "range",data:=.fields #[.int lo t,.int hi u,.int 1 v]}).objs.size:=by simpa using hb
  subst e
  exact I1.tw (afs _) (I1.hok.fresh (afs _))
def Yl(ta:TA):TI:=fun σ H R=>ta σ H fun vs H1=>∃j:Int,vs=[.int j]∧-(2^62)≤j∧j<2^62∧R (ua 0 j.toNat) H1
def Yk(ta:TA):TI:=fun σ H R=>ta σ H fun vs H1=>∃i j:Int,vs=[.int i,.int j]∧(-(2^62)≤i∧i<2^62∧-(2^62)≤j∧j<2^62)∧R (ua i (j-i).toNat) H1
theorem Ry{a:Expr}{ta:TA}{p pos:Pos}(hg:Gl X "range") (hm:X.mg "range"=none) (ha:PA X [a] ta) (hs:starEach [a] X.env=[(false,eval a X.env)]:=by rfl):PI X tg (.Call (.Name "range" p) [a] [] pos) (Yl ta):=by
 intro pins s σ H R I h
 refine Call_ (kW I hg hm boot_range (agS (aY (ha pos pins s σ H _ I h) fun us s1 ⟨vs,H1,I1,r1,q1⟩=>?_) hs rfl))
 obtain⟨j,e,q1,q2,q⟩:=q1
 subst e
 cases r1 with
 |cons r rr =>
  cases rr
  obtain⟨t,rfl⟩:=r
  exact call_range_1 (FW I1 (by omega) (by omega) q1 q2 (by simpa using q))
theorem Rx{a b:Expr}{ta:TA}{p pos:Pos}(hg:Gl X "range") (hm:X.mg "range"=none) (ha:PA X [a,b] ta) (hs:starEach [a,b] X.env=[(false,eval a X.env),(false,eval b X.env)]:=by rfl) (hs2:starEach [b] X.env=[(false,eval b X.env)]:=by rfl) :
  PI X tg (.Call (.Name "range" p) [a,b] [] pos) (Yk ta):=by
 intro pins s σ H R I h
 refine Call_ (kW I hg hm boot_range (agS (aY (ha pos pins s σ H _ I h) fun us s1 ⟨vs,H1,I1,r1,q1⟩=>?_) (by rw[hs,hs2]) (by rw[hs2];rfl)))
 obtain⟨i,j,e,⟨q1,q2,q3,q4⟩,q⟩:=q1
 subst e
 cases r1 with
 |cons r rr =>
  cases rr with
  |cons r' rr =>
   cases rr
   obtain⟨t,rfl⟩:=r
   obtain⟨t',rfl⟩:=r'
   exact call_range_2 (FW I1 q1 q2 q3 q4 q)
def M7(wi:TI) (g:TG) (tb:TS):TS:=fun D σ H=>wi σ H fun J H1=>∃W:Nat→Nat→St→Hp→Prop,(∃m,W 0 m σ H1)∧∀i m σ H,W i m σ H →
 (J.stop i H∧D.nx σ H)∨(J.go i H∧∃N:St→Hp→Prop,(∀σ' H',N σ' H'→∃m',m'<m∧W (i+1) m' σ' H')∧∀x H',J.rA i H x H'→g x σ H' fun σ2 H2=>tb {D with nx:=N,ct:=N,bk:=D.nx} σ2 H2)
def rQ(fp:List Addr) (h:Heap):List (Addr×Obj):=fp.filterMap fun b=>(h.get? b).map fun o=>(b,o)
theorem vt{fp:List Addr}{h:Heap}{b:Addr}{o:Obj}(hb:b∈fp) (e:h.get? b=some o):(b,o)∈rQ fp h:=ahH.mpr ⟨b,hb,by rw[e];rfl⟩
theorem Tf{fp:List Addr}{h:Heap}{p:Addr×Obj}(hp:p∈rQ fp h):p.1∈fp∧h.get? p.1=some p.2:=by
 obtain⟨b,hb,e⟩:=ahH.mp hp
 cases q:h.get? b with
 |none=>rw[q]at e;cases e
 |some o =>
  rw[q]at e
  have e':(b,o)=p:=afN e
  subst e'
  exact⟨hb,q⟩
theorem Inv.pinned{pins:List (Addr×Obj)}{σ:St}{H:Hp}{s:Shared}{fp:List Addr}(I:Inv X pins σ H s) (hf:∀b∈fp,fu X pins H b) (ho:∀b∈fp,∃o,s.heap.get? b=some o∧∀v,o.data≠.cell v):Inv X (pins++rQ fp s.heap) σ H s :=
 I.uQ fun p hp=>(af3.mp hp).elim (fun z=>I.pin p (agh _ z)) fun z=>by
  obtain⟨hb,e⟩:=Tf z
  obtain⟨f0,f1,f2,_⟩:=hf p.1 hb
  obtain⟨o,e',d⟩:=ho p.1 hb
  rw[e]at e';cases e'
  exact⟨e,f0,f1,f2,d⟩
theorem Inv.rD{pins pl:List (Addr×Obj)}{σ:St}{H:Hp}{s:Shared}(I:Inv X (pins++pl) σ H s):Inv X pins σ H s:=I.uQ fun p hp=>I.pin p (agh _ (ajd _ hp))
theorem QA{iter:Expr}{body:List Stmt}{wi:TI}{g:TG}{tb:TS}{pos:Pos}(hp:PassesOwn (model X.prog X.w) X.A X.env X.xe) (hc:X.calm=true) (hi:PI X tg iter wi) (hg:PG X tg g) (hb:fJ X body tb)
  (hs:∀x,foldedSetIterable iter X.env x=pure x:=by intro _;rfl):PS X (.For tg iter body [] pos) (M7 wi g tb):=by
 intro pins s σ H D I h
 refine wpAny_For (aY (hi pins s σ H _ I h) fun v s1 h1=>aY h1 fun itv s2 h2=>?_) hs
 obtain⟨it,fp,tn,J,H2,e,I2,T,st2,f2,W,⟨m0,w0⟩,turn⟩:=h2
 subst e
 have lX:∀{H':Hp},(∀b∈fp,H' b=none)→∀b∈fp,fu X pins H' b:=fun hn b hb=>⟨hn b hb,(f2 b hb).2⟩
 refine codeAny_forLoop_any (fun n s'=>∃i σ' H',Inv X pins σ' H' s'∧tn i s'.heap∧(∀b∈fp,H' b=none)∧W i n σ' H') ?_ m0 ⟨0,σ,H2,I2,st2,fun b hb=>(f2 b hb).1,w0⟩
 rintro n s3 ⟨i,σ3,H3,I3,st3,I0,w3⟩
 rcases turn i n σ3 H3 w3 with⟨stop,qn⟩|⟨go,N,hN,step⟩
 ·refine ahh hp (aY (T.done X rfl rfl rfl hc i pins s3 σ3 H3 X.xe I3 (lX I0) st3 stop) fun r s4 ⟨hr,I4⟩=>?_)
  subst hr
  exact aia ⟨σ3,H3,I4,qn⟩
 ·refine ahh hp (aY (T.item X rfl rfl rfl hc i pins s3 σ3 H3 X.xe I3 (lX I0) st3 go) fun r s4 ⟨u,hr,h4⟩=>?_)
  subst hr
  refine ahh hp (aY h4 fun _ s5 ⟨x,H5,I5,r5,y5,iu,vL⟩=>?_)
  have I5':=I5.pinned (lX vL) (T.obj _ _ iu)
  refine ahh hp (aY (hg _ s5 σ3 H5 x u _ I5' r5 (step x H5 y5)) fun _ s6 ⟨LJ,H6,I6,q6⟩=>?_)
  refine ahh hp (aY (hb _ s6 LJ H6 _ I6 q6) fun f s7 q7=>?_)
  have again:∀{ig:St}{H7:Hp},Inv X (pins++rQ fp s5.heap) ig H7 s7→N ig H7→∃m,m<n∧∃i σ' H',Inv X pins σ' H' s7∧tn i s7.heap∧(∀b∈fp,H' b=none)∧W i m σ' H':=fun{ig H7} I7 n7=>by
   obtain⟨m',hm,w7⟩:=hN ig H7 n7
   refine⟨m',hm,i+1,ig,H7,I7.rD,T.keep _ _ _ iu fun b hb o e=>(I7.pin (b,o) (agh _ (agh _ (vt hb e)))).1,fun b hb=>?_,w7⟩
   obtain⟨o,e,d⟩:=T.obj _ _ iu b hb
   exact(I7.pin (b,o) (agh _ (agh _ (vt hb e)))).2.1
  cases f with
  |next=>obtain⟨ig,H7,I7,n7⟩:=q7;exact again I7 n7
  |cont=>obtain⟨ig,H7,I7,n7⟩:=q7;exact again I7 n7
  |brk=>obtain⟨ig,H7,I7,q7⟩:=q7;exact⟨ig,H7,I7.rD,q7⟩
  |ret v=>obtain⟨x7,ig,H7,I7,r7,q7⟩:=q7;exact⟨x7,ig,H7,I7.rD,r7,q7⟩
end
end L2
namespace L2
open PySem PySem.Spec PyProof.Rows
abbrev R2:=V→V→Hp→VK→Prop
def bf(X:Cx) (f:Value→Value→Sem Value) (r:R2):Prop :=
 ∀(pins:List (Addr×Obj)) (s:Shared) (σ:St) (H:Hp) (x y:V) (v u:Value) (Q:VK),Inv X pins σ H s→RelV x v→RelV y u→r x y H Q →
  wpAny (model X.prog X.w) X.A (f v u) (EP X pins σ Q) X.xe s
def tZ(X:Cx) (f:Value→Sem Value) (r:V→Hp→VK→Prop):Prop :=
 ∀(pins:List (Addr×Obj)) (s:Shared) (σ:St) (H:Hp) (x:V) (v:Value) (Q:VK),Inv X pins σ H s→RelV x v→r x H Q →
  wpAny (model X.prog X.w) X.A (f v) (EP X pins σ Q) X.xe s
def dw(X:Cx) (f:Value) (r:List V→Hp→VK→Prop):Prop :=
 ∀(pins:List (Addr×Obj)) (s:Shared) (σ:St) (H:Hp) (xs:List V) (us:List Value) (Q:VK),Inv X pins σ H s→Vals xs us→r xs H Q →
  wpAny (model X.prog X.w) X.A (call f us) (EP X pins σ Q) X.xe s
def ado(X:Cx) (r:V→Hp→(Bool→Hp→Prop)→Prop):Prop :=
 ∀(pins:List (Addr×Obj)) (s:Shared) (σ:St) (H:Hp) (x:V) (v:Value) (Q:Bool→Hp→Prop),Inv X pins σ H s→RelV x v→r x H Q →
  wpAny (model X.prog X.w) X.A (truthy v) (TP X pins σ Q) X.xe s
def uA(r:R2) (ta tb:TE):TE:=fun σ H Q=>ta σ H fun x H1=>tb σ H1 fun y H2=>r x y H2 Q
def MS(r:V→Hp→VK→Prop) (ta:TE):TE:=fun σ H Q=>ta σ H fun x H1=>r x H1 Q
def rI(C:Int→Int→Prop) (g:Int→Int→V):R2:=fun x y H Q=>∃i j,x=.int i∧y=.int j∧C i j∧Q (g i j) H
def iQ(g:Int→Int→V):R2:=fun x y H Q=>∃i j,x=.int i∧y=.int j∧Q (g i j) H
def rU(g:Int→V):V→Hp→VK→Prop:=fun x H Q=>∃i,x=.int i∧Q (g i) H
section
variable {X:Cx}{a b c:Expr}{ta tb tc:TE}{pos:Pos}
theorem DZ(ha:PE X a ta) (hb:PE X b tb) {pins:List (Addr×Obj)}{s:Shared}{σ:St}{H:Hp}{R:V→V→Hp→Prop}(I:Inv X pins σ H s)
  (h:ta σ H fun x H1=>tb σ H1 fun y H2=>R x y H2) {Q:Value→Shared→Prop}{f:Value→Value→Sem Value}
  (hf:∀v u s2 x y H2,Inv X pins σ H2 s2→RelV x v→RelV y u→R x y H2→wpAny (model X.prog X.w) X.A (f v u) Q X.xe s2) :
  wpAny (model X.prog X.w) X.A (eval a X.env) (fun v s₁=>wpAny (model X.prog X.w) X.A (eval b X.env) (fun u s₂=>wpAny (model X.prog X.w) X.A (f v u) Q X.xe s₂) X.xe s₁) X.xe s:=by
 refine aY (ha pins s σ H _ I h) fun v s1 ⟨x,H1,I1,r1,q1⟩=>?_
 refine aY (hb pins s1 σ H1 _ I1 q1) fun u s2 ⟨y,H2,I2,r2,q2⟩=>?_
 exact hf v u s2 x y H2 I2 r1 r2 q2
theorem RM{op:Operator}{r:R2}(ho:bf X (binaryOp op) r) (ha:PE X a ta) (hb:PE X b tb):PE X (.BinOp a op b pos) (uA r ta tb):=by
 intro pins s σ H Q I h
 exact wpAny_BinOp (DZ ha hb I h fun v u s2 x y H2 I2 rx ry q=>ho pins s2 σ H2 x y v u Q I2 rx ry q)
theorem RI{op:UnaryOp}{r:V→Hp→VK→Prop}(ho:tZ X (unaryOp op) r) (ha:PE X a ta):PE X (.UnaryOp op a pos) (MS r ta):=by
 intro pins s σ H Q I h
 exact UnaryOp_ (aY (ha pins s σ H _ I h) fun v s1 ⟨x,H1,I1,r1,q1⟩=>ho pins s1 σ H1 x v Q I1 r1 q1)
theorem uZ{f:Value→Value→Sem Value}{C:Int→Int→Prop}{g:Int→Int→Int}
  (rule:∀(i j:Int) (t u:Tok) (s:Shared) (Q:Value→Shared→Prop) (E:Value→Shared→Prop),C i j→Q (.int (g i j) s.toks) {s with toks:=s.toks+1}→wpAny (model X.prog X.w) X.A (f (.int i t) (.int j u)) Q E s) :
  bf X f (rI C fun i j=>.int (g i j)):=by
 intro pins s σ H x y v u Q I rx ry h
 obtain⟨i,j,rfl,rfl,hc,q⟩:=h
 obtain⟨t,rfl⟩:=rx
 obtain⟨t',rfl⟩:=ry
 exact rule i j t t' s _ _ hc ⟨.int (g i j),H,I.tok _,⟨_,rfl⟩,q⟩
theorem zm{f:Value→Value→Sem Value}{g:Int→Int→Int}
  (rule:∀(i j:Int) (t u:Tok) (s:Shared) (Q:Value→Shared→Prop) (E:Value→Shared→Prop),Q (.int (g i j) s.toks) {s with toks:=s.toks+1}→wpAny (model X.prog X.w) X.A (f (.int i t) (.int j u)) Q E s) :
  bf X f (iQ fun i j=>.int (g i j)):=by
 intro pins s σ H x y v u Q I rx ry h
 obtain⟨i,j,rfl,rfl,q⟩:=h
 obtain⟨t,rfl⟩:=rx
 obtain⟨t',rfl⟩:=ry
 exact rule i j t t' s _ _ ⟨.int (g i j),H,I.tok _,⟨_,rfl⟩,q⟩
theorem u0{f:Value→Value→Sem Value}{g:Int→Int→Bool}
  (rule:∀(i j:Int) (t u:Tok) (s:Shared) (Q:Value→Shared→Prop) (E:Value→Shared→Prop),Q (.bool (g i j)) s→wpAny (model X.prog X.w) X.A (f (.int i t) (.int j u)) Q E s) :
  bf X f (iQ fun i j=>.bl (g i j)):=by
 intro pins s σ H x y v u Q I rx ry h
 obtain⟨i,j,rfl,rfl,q⟩:=h
 obtain⟨t,rfl⟩:=rx
 obtain⟨t',rfl⟩:=ry
 exact rule i j t t' s _ _ ⟨.bl (g i j),H,I,rfl,q⟩
def adC(i j:Int):Prop:=0<j∧j<1073741824
def adB(i j:Int):Prop:=0≤j∧j≤1000000∧i.natAbs<2^64
def Em(i j:Int):Prop:=(-(2^64)<i∧i<2^64)∨(-(2^64)<j∧j<2^64)
theorem Em.ok{i j:Int}(h:Em i j):IntMulOk i j:=by
 rcases h with⟨h1,h2⟩|⟨h1,h2⟩
 ·exact .of_left (intBits_le_64 h1 h2)
 ·exact .of_right (intBits_le_64 h1 h2)
theorem SM:bf X (binaryOp .Add) (iQ fun i j=>.int (i+j)):=zm fun _ _ _ _ _ _ _ q=>add_int q
theorem Sm:bf X (binaryOp .Sub) (iQ fun i j=>.int (i-j)):=zm fun _ _ _ _ _ _ _ q=>sub_int q
theorem Sw:bf X (binaryOp .Mult) (rI Em fun i j=>.int (i*j)):=uZ fun _ _ _ _ _ _ _ hc q=>mul_int q hc.ok
theorem SG:bf X (binaryOp .FloorDiv) (rI adC fun i j=>.int (i/j)):=uZ fun i j _ _ _ _ _ hc q=>by
 have h1:(0:Int)<j:=hc.1
 have h2:j<1073741824:=hc.2
 exact floordiv_int (by omega) (by rw[Int.fdiv_eq_ediv_of_nonneg i (by omega)];exact q) (.inl (PyProof.noPylong_small (by omega)))
theorem Sx:bf X (binaryOp .Mod) (rI (fun _ j=>0<j) fun i j=>.int (i % j)):=uZ fun i j _ _ _ _ _ hc q=>by
 have h1:(0:Int)<j:=hc
 exact mod_int' (by omega) (by rw[Int.fmod_eq_emod_of_nonneg i (by omega)];exact q)
theorem Ss:bf X (binaryOp .Pow) (rI adB fun i j=>.int (i^j.toNat)):=uZ fun _ _ _ _ _ _ _ hc q=>pow_int_small hc.1 hc.2.1 hc.2.2 q
theorem Sl:bf X (binaryOp .BitXor) (iQ fun i j=>.int (Builtin.bitXor i j)):=zm fun _ _ _ _ _ _ _ q=>xor_int q
theorem Mu{f:Value→Sem Value}{g:Int→Int}
  (rule:∀(i:Int) (t:Tok) (s:Shared) (Q:Value→Shared→Prop) (E:Value→Shared→Prop),Q (.int (g i) s.toks) {s with toks:=s.toks+1}→wpAny (model X.prog X.w) X.A (f (.int i t)) Q E s) :
  tZ X f (rU fun i=>.int (g i)):=by
 intro pins s σ H x v Q I rx h
 obtain⟨i,rfl,q⟩:=h
 obtain⟨t,rfl⟩:=rx
 exact rule i t s _ _ ⟨.int (g i),H,I.tok _,⟨_,rfl⟩,q⟩
theorem Mt:tZ X (unaryOp .USub) (rU fun i=>.int (-i)):=Mu fun _ _ _ _ _ q=>neg_int q
end
def yO:V→V→Bool
 |.aL,.aL=>true|.aL,.int _=>true|.int _,.aL=>true|.aL,.bl _=>true|.bl _,.aL=>true|.aL,.str _=>true|.str _,.aL=>true
 |.int _,.int _=>true|.bl _,.bl _=>true|.str _,.str _=>true|.gB _,.gB _=>true
 |.int _,.str _=>true|.str _,.int _=>true|.bl _,.str _=>true|.str _,.bl _=>true
 |_,_=>false
def P8:R2:=fun x y H Q=>yO x y=true∧Q (.bl (decide (x=y))) H
def PR:R2:=fun x y H Q=>yO x y=true∧Q (.bl (!decide (x=y))) H
theorem Jy{i j:Int}:decide (V.int i=V.int j)=(i==j):=by
 rw[agD]
 simp
theorem JA{i j:Bool}:decide (V.bl i=V.bl j)=(i==j):=by
 rw[agD]
 simp
theorem Jx{i j:Str}:decide (V.str i=V.str j)=(i==j):=by
 rw[agD]
 simp
theorem Jz{i j:Array UInt8}:decide (V.gB i=V.gB j)=(i.toList==j.toList):=by
 rw[agD]
 cases i
 cases j
 simp
section
variable {X:Cx}{a b c:Expr}{ta tb tc:TE}{pos:Pos}
theorem cO{pins:List (Addr×Obj)}{σ:St}{H:Hp}{s:Shared}{Q:VK}{k k':Bool}(I:Inv X pins σ H s) (q:Q (.bl k) H) (e:k=k'):EP X pins σ Q (.bool k') s:=by
 subst e
 exact⟨.bl k,H,I,rfl,q⟩
theorem SH:bf X (compareOp .Eq) P8:=by
 intro pins s σ H x y v u Q I rx ry h
 obtain⟨hs,q⟩:=h
 cases x with
 |aL =>
  cases rx
  cases y with
  |aL=>cases ry;exact PySem.EqNone.eq_none_none (cO I q (by simp))
  |bl j=>cases ry;exact PySem.EqNone.eq_none_bool (cO I q (by simp))
  |int j=>obtain⟨t',rfl⟩:=ry;exact PySem.EqNone.eq_none_int (cO I q (by simp))
  |str j=>obtain⟨t',rfl⟩:=ry;exact PySem.EqNone.eq_none_str (cO I q (by simp))
  |_=>exact absurd (show false=true from hs) afR
 |bl i =>
  cases rx
  cases y with
  |aL=>cases ry;exact PySem.EqNone.eq_bool_none (cO I q (by simp))
  |bl j=>cases ry;exact eq_bool (cO I q JA)
  |str j=>obtain⟨t',rfl⟩:=ry;exact PySem.EqMixed.eq_bool_str (cO I q (by simp))
  |_=>exact absurd (show false=true from hs) afR
 |int i =>
  obtain⟨t,rfl⟩:=rx
  cases y with
  |aL=>cases ry;exact PySem.EqNone.eq_int_none (cO I q (by simp))
  |int j=>obtain⟨t',rfl⟩:=ry;exact eq_int (cO I q Jy)
  |str j=>obtain⟨t',rfl⟩:=ry;exact PySem.EqMixed.eq_int_str (cO I q (by simp))
  |_=>exact absurd (show false=true from hs) afR
 |str i =>
  obtain⟨t,rfl⟩:=rx
  cases y with
  |aL=>cases ry;exact PySem.EqNone.eq_str_none (cO I q (by simp))
  |bl j=>cases ry;exact PySem.EqMixed.eq_str_bool (cO I q (by simp))
  |int j=>obtain⟨t',rfl⟩:=ry;exact PySem.EqMixed.eq_str_int (cO I q (by simp))
  |str j=>obtain⟨t',rfl⟩:=ry;exact eq_str (cO I q Jx)
  |_=>exact absurd (show false=true from hs) afR
 |gB i =>
  obtain⟨t,rfl⟩:=rx
  cases y with
  |gB j=>obtain⟨t',rfl⟩:=ry;exact PySem.W.eq_bytes (cO I q Jz)
  |_=>exact absurd (show false=true from hs) afR
 |_=>cases y<;>exact absurd (show false=true from hs) afR
theorem Sv:bf X (compareOp .NotEq) PR:=by
 intro pins s σ H x y v u Q I rx ry h
 obtain⟨hs,q⟩:=h
 cases x with
 |aL =>
  cases rx
  cases y with
  |aL=>cases ry;exact PySem.EqNone.ne_none_none (cO I q (by simp))
  |bl j=>cases ry;exact PySem.EqNone.ne_none_bool (cO I q (by simp))
  |int j=>obtain⟨t',rfl⟩:=ry;exact PySem.EqNone.ne_none_int (cO I q (by simp))
  |str j=>obtain⟨t',rfl⟩:=ry;exact PySem.EqNone.ne_none_str (cO I q (by simp))
  |_=>exact absurd (show false=true from hs) afR
 |bl i =>
  cases rx
  cases y with
  |aL=>cases ry;exact PySem.EqNone.ne_bool_none (cO I q (by simp))
  |bl j=>cases ry;exact ne_bool (cO I q (congrArg not JA))
  |str j=>obtain⟨t',rfl⟩:=ry;exact PySem.EqMixed.ne_bool_str (cO I q (by simp))
  |_=>exact absurd (show false=true from hs) afR
 |int i =>
  obtain⟨t,rfl⟩:=rx
  cases y with
  |aL=>cases ry;exact PySem.EqNone.ne_int_none (cO I q (by simp))
  |int j=>obtain⟨t',rfl⟩:=ry;exact ne_int (cO I q (congrArg not Jy))
  |str j=>obtain⟨t',rfl⟩:=ry;exact PySem.EqMixed.ne_int_str (cO I q (by simp))
  |_=>exact absurd (show false=true from hs) afR
 |str i =>
  obtain⟨t,rfl⟩:=rx
  cases y with
  |aL=>cases ry;exact PySem.EqNone.ne_str_none (cO I q (by simp))
  |bl j=>cases ry;exact PySem.EqMixed.ne_str_bool (cO I q (by simp))
  |int j=>obtain⟨t',rfl⟩:=ry;exact PySem.EqMixed.ne_str_int (cO I q (by simp))
  |str j=>obtain⟨t',rfl⟩:=ry;exact ne_str (cO I q (congrArg not Jx))
  |_=>exact absurd (show false=true from hs) afR
 |gB i =>
  obtain⟨t,rfl⟩:=rx
  cases y with
  |gB j=>obtain⟨t',rfl⟩:=ry;exact PySem.W.ne_bytes (cO I q (congrArg not Jz))
  |_=>exact absurd (show false=true from hs) afR
 |_=>cases y<;>exact absurd (show false=true from hs) afR
theorem Sy:bf X (compareOp .Lt) (iQ fun i j=>.bl (decide (i<j))):=u0 fun _ _ _ _ _ _ _ q=>lt_int q
theorem Sz:bf X (compareOp .LtE) (iQ fun i j=>.bl (decide (i≤j))):=u0 fun _ _ _ _ _ _ _ q=>le_int q
theorem SD:bf X (compareOp .Gt) (iQ fun i j=>.bl (decide (j<i))):=u0 fun _ _ _ _ _ _ _ q=>gt_int q
theorem SE:bf X (compareOp .GtE) (iQ fun i j=>.bl (decide (j≤i))):=u0 fun _ _ _ _ _ _ _ q=>ge_int q
theorem SA:bf X (compareOp .Is) (fun x y H Q=>y=.aL∧Q (.bl (decide (x=.aL))) H):=by
 intro pins s σ H x y v u Q I rx ry h
 obtain⟨rfl,q⟩:=h
 cases ry
 refine is_none_gen (cO I q ?_)
 cases x<;>first
  |(cases rx;rfl)
  |(obtain⟨t,rfl⟩:=rx;rfl)
theorem Su:bf X (compareOp .IsNot) (fun x y H Q=>y=.aL∧Q (.bl (!decide (x=.aL))) H):=by
 intro pins s σ H x y v u Q I rx ry h
 obtain⟨rfl,q⟩:=h
 cases ry
 refine isnot_none_gen (cO I q ?_)
 cases x<;>first
  |(cases rx;rfl)
  |(obtain⟨t,rfl⟩:=rx;rfl)
theorem GU(b:Expr) {op:CmpOp}(h:op≠.In:=by decide) (h2:op≠.NotIn:=by decide):behindInMarks op b=false:=by
 have e1:(op==CmpOp.In)=false:=by cases op<;>first|rfl|exact absurd rfl h
 have e2:(op==CmpOp.NotIn)=false:=by cases op<;>first|rfl|exact absurd rfl h2
 cases b<;>simp[behindInMarks,e1,e2]
theorem RU{op:CmpOp}{r:R2}(ho:bf X (compareOp op) r) (ha:PE X a ta) (hb:PE X b tb) (hm:behindInMarks op b=false):PE X (.Compare a [op] [b] pos) (uA r ta tb):=by
 intro pins s σ H Q I h
 exact wpAny_Compare1 (DZ ha hb I h fun v u s2 x y H2 I2 rx ry q=>ho pins s2 σ H2 x y v u Q I2 rx ry q) hm
def EV(t:TE):TT:=fun σ H Q=>t σ H fun x H'=>∃k,x=.bl k∧Q k H'
theorem Qp{op:CmpOp}{r:R2}(ho:bf X (compareOp op) r) (ha:PE X a ta) (hb:PE X b tb) (hm:behindInMarks op b=false):PT X (.Compare a [op] [b] pos) (EV (uA r ta tb)):=by
 intro pins s σ H Q I h
 refine wpAny_isTrue_Compare1 (aY (ha pins s σ H _ I h) fun v s1 ⟨x,H1,I1,r1,q1⟩=>aY (hb pins s1 σ H1 _ I1 q1) fun u s2 ⟨y,H2,I2,r2,q2⟩ =>
  aY (ho pins s2 σ H2 x y v u _ I2 r1 r2 q2) fun c s3 ⟨z,H3,I3,r3,k,e,q3⟩=>?_) hm
 subst e
 cases r3
 exact agv ⟨H3,I3,q3⟩
def EY(r r':R2) (ta tb tc:TE):TE:=fun σ H Q=>ta σ H fun x H1=>tb σ H1 fun y H2=>r x y H2 fun z H3=>∃k,z=.bl k ∧
 (if k=true then tc σ H3 fun w' H4=>r' y w' H4 Q else Q (.bl false) H3)
theorem RV{op op':CmpOp}{r r':R2}(ho:bf X (compareOp op) r) (ho':bf X (compareOp op') r') (ha:PE X a ta) (hb:PE X b tb) (hc:PE X c tc)
  (hm:lastMarks [op,op'] [b,c]=false:=by with_unfolding_all rfl):PE X (.Compare a [op,op'] [b,c] pos) (EY r r' ta tb tc):=by
 intro pins s σ H Q I h
 refine Compare_chain (aY (ha pins s σ H _ I h) fun v s1 ⟨x,H1,I1,r1,q1⟩=>chain_link (aY (hb pins s1 σ H1 _ I1 q1) fun u s2 ⟨y,H2,I2,r2,q2⟩ =>
  aY (ho pins s2 σ H2 x y v u _ I2 r1 r2 q2) fun d s3 ⟨z,H3,I3,r3,k,e,q3⟩=>?_)) hm
 subst e
 cases r3
 refine agv ?_
 cases k with
 |false=>exact ite_ff ⟨.bl false,H3,I3,rfl,q3⟩
 |true=>exact ite_tt (chain_last (aY (hc pins s3 σ H3 _ I3 q3) fun w' s4 ⟨z',H4,I4,r4,q4⟩=>ho' pins s4 σ H4 y z' u w' Q I4 r2 r4 q4))
theorem Qq{op op':CmpOp}{r r':R2}(ho:bf X (compareOp op) r) (ho':bf X (compareOp op') r') (ha:PE X a ta) (hb:PE X b tb) (hc:PE X c tc)
  (hm:lastMarks [op,op'] [b,c]=false:=by with_unfolding_all rfl):PT X (.Compare a [op,op'] [b,c] pos) (EV (EY r r' ta tb tc)):=by
 intro pins s σ H Q I h
 refine isTrue_chain (aY (ha pins s σ H _ I h) fun v s1 ⟨x,H1,I1,r1,q1⟩=>test_link (aY (hb pins s1 σ H1 _ I1 q1) fun u s2 ⟨y,H2,I2,r2,q2⟩ =>
  aY (ho pins s2 σ H2 x y v u _ I2 r1 r2 q2) fun d s3 ⟨z,H3,I3,r3,k,e,q3⟩=>?_)) hm
 subst e
 cases r3
 refine agv ?_
 cases k with
 |false =>
  obtain⟨k',e',q'⟩:=q3
  cases e'
  exact ite_ff ⟨H3,I3,q'⟩
 |true =>
  refine ite_tt (test_last (aY (hc pins s3 σ H3 _ I3 q3) fun w' s4 ⟨z',H4,I4,r4,q4⟩=>aY (ho' pins s4 σ H4 y z' u w' _ I4 r2 r4 q4) fun d' s5 ⟨z2,H5,I5,r5,k2,e2,q5⟩=>?_))
  subst e2
  cases r5
  exact agv ⟨H5,I5,q5⟩
def Ea(K:PySem.W.Frag) (x:V) (H:Hp) (k:Bool):Prop :=
 match x with
 |.aL=>k=false
 |.bl b=>k=b
 |.int i=>k=(i != 0)
 |.str y=>y.length≤sizeLine∧k=((y.length:Int) != 0)
 |.gB y=>y.size≤sizeLine∧k=((y.size:Int) != 0)
 |.ref p=>(∃xs,aZ K H p xs∧k = !xs.isEmpty)∨(∃xs,bB K H p xs∧k = !xs.isEmpty)∨∃kvs,H p=some (.dK kvs)∧k = !kvs.isEmpty
 |_=>False
theorem X0{κ:Type}{kvs:List (κ×V)}{vs:List (κ×Value)}(r:KV kvs vs):(!vs.isEmpty) = !kvs.isEmpty:=by
 cases r<;>rfl
theorem HZ{xs:List V}{its:List Value}(r:Vals xs its):(!its.toArray.isEmpty) = !xs.isEmpty:=by
 cases r<;>simp
theorem qe:(sizeLine:Nat)<2^63:=by rw[agT];decide
theorem MK:ado X (fun x H Q=>∃k,Ea X.K x H k∧Q k H):=by
 intro pins s σ H x v Q I rx h
 obtain⟨k,e,q⟩:=h
 have hl:=qe
 have hs:sizeLine=16777216:=agT
 cases x with
 |aL =>
  cases rx
  have e':k=false:=e
  subst e'
  exact truthy_none ⟨H,I,q⟩
 |bl b =>
  cases rx
  have e':k=b:=e
  subst e'
  exact agv ⟨H,I,q⟩
 |int i =>
  obtain⟨t,rfl⟩:=rx
  have e':k=(i != 0):=e
  subst e'
  exact PySem.P.truthy_int ⟨H,I,q⟩
 |str y =>
  obtain⟨t,rfl⟩:=rx
  obtain⟨hy,e'⟩:y.length≤sizeLine∧k=((y.length:Int) != 0):=e
  subst e'
  exact PySem.P.truthy_str (by omega) ⟨H,I.tok _,q⟩
 |gB y =>
  obtain⟨t,rfl⟩:=rx
  obtain⟨hy,e'⟩:y.size≤sizeLine∧k=((y.size:Int) != 0):=e
  subst e'
  exact PySem.W.truthy_bytes (by omega) ⟨H,I.tok _,q⟩
 |ref p =>
  cases rx
  have e':(∃xs,aZ X.K H p xs∧k = !xs.isEmpty)∨(∃xs,bB X.K H p xs∧k = !xs.isEmpty)∨∃kvs,H p=some (.dK kvs)∧k = !kvs.isEmpty:=e
  rcases e' with⟨xs,hx,e'⟩|⟨xs,hx,e'⟩|⟨kvs,hx,e'⟩
  ·subst e'
   obtain⟨its,r,pl,hz⟩:=I.list hx
   have hlen:=r.length
   exact wpAny_truthy_list pl.isList (by simp only[afF];omega) ⟨H,I.tok _,by rw[HZ r];exact q⟩
  ·subst e'
   obtain⟨its,r,pl,hz⟩:=I.tuple hx
   have hlen:=r.length
   exact truthy_tuple pl (by simp only[afF];omega) ⟨H,I.tok _,by rw[HZ r];exact q⟩
  ·subst e'
   obtain⟨hz,hS,vs,r,m⟩:kvs.length≤sizeLine∧(p==sysModules)=false∧∃vs,KV kvs vs∧s.heap.DictOf (zJ X.prog X.w) p vs:=I.hok p _ hx
   have hlen:kvs.length=vs.length:=Paired.length r
   exact wpAny_truthy_dict hS m (by omega) ⟨H,I.tok _,by rw[X0 r];exact q⟩
 |_=>exact(show False from e).elim
theorem Qn(ha:PE X a ta) (he:∀whole,isTrue a X.env whole=(do let v ←whole;standAt a.pos;holding [v] (truthy v))) :
  PT X a (fun σ H Q=>ta σ H fun x H'=>∃k,Ea X.K x H' k∧Q k H'):=by
 intro pins s σ H Q I h
 exact isTrue_plain (aY (ha pins s σ H _ I h) fun v s1 ⟨x,H1,I1,r1,q1⟩=>MK pins s1 σ H1 x v Q I1 r1 q1) (he _)
theorem SK:bf X (binaryOp .Add) (fun x y H Q=>∃i j,x=.str i∧y=.str j∧i.length+j.length≤sizeLine∧Q (.str (i++j)) H):=by
 intro pins s σ H x y v u Q I rx ry h
 obtain⟨i,j,rfl,rfl,hz,q⟩:=h
 obtain⟨t,rfl⟩:=rx
 obtain⟨t',rfl⟩:=ry
 exact add_str (fun t' tk=>⟨.str (i++j),H,I.tok _,⟨_,rfl⟩,q⟩) hz
theorem agb{x:V}{us:List Value}(r:Vals [x] us):∃u,us=[u]∧RelV x u:=by
 cases r with
 |cons r1 r2=>cases r2;exact⟨_,rfl,r1⟩
theorem vals2{x y:V}{us:List Value}(r:Vals [x,y] us):∃u w',us=[u,w']∧RelV x u∧RelV y w':=by
 cases r with
 |cons r1 r2 =>
  cases r2 with
  |cons r3 r4=>cases r4;exact⟨_,_,rfl,r1,r3⟩
theorem abX(hc:X.calm=true):dw X (.builtin "max") (fun xs H Q=>∃i j,xs=[.int i,.int j]∧Q (.int (if j>i then j else i)) H):=by
 intro pins s σ H xs us Q I r h
 obtain⟨i,j,rfl,q⟩:=h
 obtain⟨u,w',rfl,⟨t,rfl⟩,⟨t',rfl⟩⟩:=vals2 r
 refine max_two_ints (I.ok.hd hc) fun h' tk k=>⟨_,H,I.kept k,?_,q⟩
 by_cases hj:j>i
 ·rw[if_pos hj,if_pos hj];exact⟨_,rfl⟩
 ·rw[if_neg hj,if_neg hj];exact⟨_,rfl⟩
end
end L2
namespace L2
open PySem PySem.Spec PyProof.Rows
structure Eg (h:Heap) (x dx C:Addr) (mA:Str→Option Value):Prop where
 obj:h.get? x=some (PySem.W.instObj C dx)
 ns:h.Ns1 dx mA
 ne:dx≠x
theorem Wu{h:Heap}{dx:Addr}{mA:Str→Option Value}(n:h.Ns1 dx mA):∃od,h.get? dx=some od∧∀name,PySem.W.lookIn name od=some (mA name):=by
 obtain⟨o,es,ep,ho,hd,hk,_,hm⟩:=n
 refine⟨o,ho,fun name=>?_⟩
 have e:=hm name
 unfold nsFind findBy at e
 rw[←ajf]at e
 unfold PySem.W.lookIn
 rw[hd]
 dsimp only
 split
 ·rename_i y q
  rw[q]at e
  exact congrArg some e
 ·rename_i q
  rw[q]at e
  have a:es.toList.any (·.refKey)=false:=by
   rw[aid]
   intro y hy
   obtain⟨z,t,hkey⟩:=hk y (aie.mp hy)
   simp[DictEntry.refKey,hkey]
  have a':¬es.toList.any (·.refKey)=true:=by rw[a];exact afR
  rw[if_neg a']
  exact congrArg some e
theorem Eg.look{h:Heap}{x dx C:Addr}{mA:Str→Option Value}(I:Eg h x dx C mA):∃od,PySem.W.InstAt h x (PySem.W.instObj C dx) C (some od)∧∀name,PySem.W.lookIn name od=some (mA name) :=
 let⟨od,ho,hl⟩:=Wu I.ns
 ⟨od,⟨I.obj,rfl,rfl,ho⟩,hl⟩
section
variable {P:Program}{w:World}{H H':Hp}{h h':Heap}{a C dx:Addr}{fs fs':List (Str×V)}
theorem Yd(hok:dj P w H h) (e:H a=some (.ins C dx fs)):∃mA,Eg h a dx C mA∧(∀f,Ed (fs.lookup f) (mA f))∧PySem.Within mA (fs.map (·.1))∧fs.length≤1000∧H dx=some (.own a):=by
 obtain⟨d,z,ne,ob,mA,n,r,q⟩:=(show d7 P w H h a (.ins C dx fs)from hok a _ e)
 exact⟨mA,⟨ob,n,ne⟩,r,q,z,d⟩
end
structure El (K:PySem.W.Frag) (C:Addr):Prop where
 pg:PySem.W.plainGet K C Str.empty=true
 hd:PySem.W.hasDictIn K C=true
 po:PySem.W.plainOver K C=true
 sa:PySem.W.findIn K (.ref C) "__setattr__"=some (some (.builtin "object.__setattr__"))
theorem El.get{K:PySem.W.Frag}{C:Addr}(c:El K C) (f:Str):PySem.W.plainGet K C f=true:=c.pg
section
variable {X:Cx}{pins:List (Addr×Obj)}{σ:St}{H:Hp}{s:Shared}{A:Around}{E:Value→Shared→Prop}{Q:Value→Shared→Prop}{c:Value}{b:Bool}
inductive gC (K:PySem.W.Frag) (H:Hp):V→Value→Prop where
 |aL:gC K H .aL (.type "NoneType")
 |bl (x:Bool):gC K H (.bl x) (.type "bool")
 |int (i:Int):gC K H (.int i) (.type "int")
 |str (x:Str):gC K H (.str x) (.type "str")
 |qp (x:UInt64):gC K H (.qp x) (.type "float")
 |lst {a:Addr}{xs:List V}(e:H a=some (.lst xs)):gC K H (.ref a) (.type "list")
 |ez {a:Addr}{o:Obj}{xs:List V}(e:H a=some (.ez o (.lst xs))):gC K H (.ref a) (.type "list")
 |tup {a:Addr}{xs:List V}(e:H a=some (.tup xs)):gC K H (.ref a) (.type "tuple")
 |dK {a:Addr}{kvs:List (Key×V)}(e:H a=some (.dK kvs)):gC K H (.ref a) (.type "dict")
 |dT {a:Addr}{kvs:List (List Key×V)}(e:H a=some (.dT kvs)):gC K H (.ref a) (.type "dict")
 |ins {a C dx:Addr}{fs:List (Str×V)}(e:H a=some (.ins C dx fs)) (cl:El K C) (ha:PySem.W.findIn K (.ref C) "__class__"=some (some (.builtin "object.__class__")))
   (hn:PySem.W.specialIn K (.builtin "object.__class__") "__get__"=some (some (.builtin "getset_descriptor.__get__"))) (htk:PySem.W.takesIn K (.builtin "object.__class__")=some true)
   (hm:PySem.W.mroIn K C (.type "object")=some true):gC K H (.ref a) (.ref C)
theorem XU{x:V}{u t:Value}(I:Inv X pins σ H s) (rx:RelV x u) (ty:gC X.K H x t) (e:PySem.W.kitOne X.K t c=some b) (h:∀tk,Q (.bool b) {s with toks:=tk}) :
  wpAny (model X.prog X.w) A (call (.builtin "isinstance") [u,c]) Q E s:=by
 cases ty with
 |aL=>cases(show u=Value.none from rx);exact agi PySem.W.kitx_none I.eo True.intro e (fun z=>nomatch z) h
 |bl y=>cases(show u=Value.bool y from rx);exact agi PySem.W.kitx_bool I.eo True.intro e (fun z=>nomatch z) h
 |int i=>obtain⟨t,q⟩:=(show ∃t,u=Value.int i t from rx);cases q;exact agi PySem.W.kitx_int I.eo True.intro e (fun z=>nomatch z) h
 |str y=>obtain⟨t,q⟩:=(show ∃t,u=Value.str y t from rx);cases q;exact agi PySem.W.kitx_str I.eo True.intro e (fun z=>nomatch z) h
 |qp y=>obtain⟨t,q⟩:=(show ∃t,u=Value.float y t from rx);cases q;exact agi PySem.W.kitx_float I.eo True.intro e (fun z=>nomatch z) h
 | @lst a xs ea =>
  cases(show u=Value.ref a from rx)
  obtain⟨_,_,n,_,h1⟩:=(show d7 X.prog X.w H s.heap a (.lst xs)from I.hok a _ ea)
  exact agi ajg I.eo ⟨_,h1,rfl⟩ e (fun z=>nomatch z) h
 | @ez a ob xs ea =>
  cases(show u=Value.ref a from rx)
  obtain⟨_,_,_,n,_,h1⟩:=(show d7 X.prog X.w H s.heap a (.ez ob (.lst xs))from I.hok a _ ea)
  exact agi ajg I.eo ⟨_,h1,rfl⟩ e (fun z=>nomatch z) h
 | @tup a xs ea =>
  cases(show u=Value.ref a from rx)
  obtain⟨_,_,_,p⟩:=(show d7 X.prog X.w H s.heap a (.tup xs)from I.hok a _ ea)
  obtain⟨o,h1,h2,_⟩:=p
  exact agi PySem.W.kitx_tuple I.eo ⟨o,h1,h2⟩ e (fun z=>nomatch z) h
 | @dK a kvs ea =>
  cases(show u=Value.ref a from rx)
  obtain⟨_,_,vs,_,p⟩:=(show d7 X.prog X.w H s.heap a (.dK kvs)from I.hok a _ ea)
  obtain⟨o,es,ep,h1,h2,_⟩:=p
  exact agi aif I.eo ⟨o,h1,h2.1⟩ e (fun z=>nomatch z) h
 | @dT a kvs ea =>
  cases(show u=Value.ref a from rx)
  obtain⟨_,_,xs,_,o,es,ep,h1,h2,_⟩:=(show d7 X.prog X.w H s.heap a (.dT kvs)from I.hok a _ ea)
  exact agi aif I.eo ⟨o,h1,h2.1⟩ e (fun z=>nomatch z) h
 | @ins a C dx fs ea cl ha hn htk hm =>
  cases(show u=Value.ref a from rx)
  obtain⟨mA,O,_⟩:=Yd I.hok ea
  obtain⟨od,J,_⟩:=O.look
  exact agi (PySem.W.kitx_own (cl.get _) cl.hd ha hn htk hm) I.eo J e (fun z=>nomatch z) h
end
end L2
namespace L2
open PySem PySem.Spec PyProof.Rows
structure dR (k:Nat) (A:Around):Prop where
 hd:A.handled=none
 dp:A.depth+3*k+5<recursionLimit
 un:A.units+16*k+200<cLine
theorem dR.mono{j k:Nat}{A:Around}(r:dR k A) (h:j≤k):dR j A:=⟨r.hd,by have:=r.dp;omega,by have:=r.un;omega⟩
theorem dR.deeper{k:Nat}{A:Around}(r:dR (k+1) A) (env:Env):dR k (A.deeper env) :=
 ⟨r.hd,by have:=r.dp;show A.depth+1+3*k+5<_;omega,by have:=r.un;show A.units+3+16*k+200<_;omega⟩
theorem dR.depth{k:Nat}{A:Around}(r:dR k A):A.depth<recursionLimit:=by have:=r.dp;omega
theorem dR.units{k:Nat}{A:Around}(r:dR k A):A.units+64<cLine:=by have:=r.un;omega
def M0:TA:=fun _ H Q=>Q [] H
def M9(ta:TE) (tr:TA):TA:=fun σ H Q=>ta σ H fun x H1=>tr σ H1 fun xs H2=>Q (x::xs) H2
section
variable {X:Cx}{e:Expr}{es:List Expr}{te:TE}{t:TA}{pos:Pos}
theorem iS:PA X [] M0:=fun _ _ _ _ H Q I h=>Calls.spliced_nil ⟨[],H,I,.nil,h⟩
theorem iT(ha:PE X e te) (hr:PA X es t) (hs:starEach (e::es) X.env=(false,eval e X.env)::starEach es X.env:=by rfl):PA X (e::es) (M9 te t):=by
 intro pos pins s σ H Q I h
 rw[hs]
 show wpAny _ _ (spliced ((false,eval e X.env)::backTo pos (starEach es X.env))) _ _ s
 refine Calls.spliced_cons (aY (ha pins s σ H _ I h) fun u s1 ⟨x,H1,I1,r1,q1⟩=>?_)
 exact aY (hr pos pins s1 σ H1 _ I1 q1) fun us s2 ⟨xs,H2,I2,r2,q2⟩=>⟨x::xs,H2,I2,.cons r1 r2,q2⟩
def MT(t:TA):TE:=fun σ H Q=>t σ H fun xs H1=>xs.length≤sizeLine∧∀p,H1 p=none→Q (.ref p) (upd H1 p (.tup xs))
def M3(t:TA):TE:=fun σ H Q=>t σ H fun xs H1=>xs.length≤sizeLine∧∀p,H1 p=none→Q (.ref p) (upd H1 p (.lst xs))
theorem RK{x1}(h:PA X es t):PE X (.Tuple es x1 pos) (MT t):=by
 intro pins s σ H Q I hq
 refine wpAny_Tuple_spliced (aY (h pos pins s σ H _ I hq) fun us s1 ⟨xs,H1,I1,r,z,q⟩=>⟨by rw[←r.length];exact z,?_⟩)
 have hf:H1 s1.heap.objs.size=none:=I1.hok.fresh (afs _)
 refine⟨.ref s1.heap.objs.size,upd H1 s1.heap.objs.size (.tup xs),I1.laid (t':=s1.toks) (fun b u e=>afw _ e) (afs _) ?_,rfl,q _ hf⟩
 exact⟨z,us,r,⟨_,afI _ rfl,rfl,⟨_,rfl⟩,rfl⟩⟩
theorem F8(h:PA X es t):PE X (.List es pos) (M3 t):=by
 intro pins s σ H Q I hq
 refine wpAny_List_spliced (aY (h pos pins s σ H _ I hq) fun us s1 ⟨xs,H1,I1,r,z,q⟩=>⟨by rw[←r.length];exact z,?_⟩)
 have hf:H1 s1.heap.objs.size=none:=I1.hok.fresh (afs _)
 refine⟨.ref s1.heap.objs.size,upd H1 s1.heap.objs.size (.lst xs),I1.laid (t':=s1.toks) (fun b u e=>afw _ e) (afs _) ?_,rfl,q _ hf⟩
 exact⟨z,us,0,r,afI _ rfl⟩
end
abbrev Sp:=List V→Hp→VK→XK→Prop
abbrev lS:=List Env→Hp→Shared→XK→Value→Shared→Prop
structure xT (P:Program) (w:World) (K:PySem.W.Frag) (mg:Str→Option Value) (base:Heap) (A:Around) (outer:List Env) (s:Shared) (H:Hp):Prop where
 frames:A.frames=some outer
 mod:Mod K mg base
 bs:∀b o,base.get? b=some o→s.heap.get? b=some o∧H b=none
 jc:base.objs.size≤s.heap.objs.size
 iF:s.heap.FunFrames base outer
 qo:∀b∈frs outer,H b=none
 hok:dj P w H s.heap
 bare:AllBare s.gens
def CE(outer:List Env) (P:Program) (w:World) (H:Hp) (s:Shared) (Q:VK) (u:Value) (s':Shared):Prop :=
 ∃v H',s'.os=s.os∧AllBare s'.gens∧Un (frs outer) [] H H' s.heap s'.heap∧dj P w H' s'.heap∧RelV v u∧Q v H'
def CR(CX:lS) (outer:List Env) (P:Program) (w:World) (H:Hp) (s:Shared) (Q:VK) (E:XK) (r:Result) (s':Shared):Prop :=
 match r with
 |.ok (.ret u)=>CE outer P w H s Q u s'
 |.ok _=>False
 |.error e=>CX outer H s E e s'
structure bF (P:Program) (w:World) (K:PySem.W.Frag) (mg:Str→Option Value) (base:Heap) (CX:lS) (k:Nat) (f:Addr) (fd:FuncData) (ps:List Str) (sp:Sp):Prop where
 len:∀vs H Q E,sp vs H Q E→vs.length=ps.length
 run:∀(A:Around) (outer:List Env) (s:Shared) (H:Hp) (args:Args) (us:List Value) (vs:List V) (Q:VK) (E:XK),dR k A→xT P w K mg base A outer s H→BindsTo s fd args (ps.zip us)→Vals vs us→sp vs H Q E →
  codeAny (model P w) A (.call (.ref f) args) (CR CX outer P w H s Q E) s
section
variable {X:Cx}{pins:List (Addr×Obj)}{σ:St}{H:Hp}{s s':Shared}
theorem Inv.ZN(I:Inv X pins σ H s):xT X.prog X.w X.K X.mg X.base X.A X.stack s H :=
 ⟨I.ok.frames,I.ok.mod,I.bs,afL I.ok.jc I.sz,I.stack,I.E9,I.hok,I.bare⟩
theorem Inv.after{Q:VK}{u:Value}(I:Inv X pins σ H s) (h:CE X.stack X.prog X.w H s Q u s'):EP X pins σ Q u s':=by
 obtain⟨v,H',os,bare,un,hok,r,q⟩:=h
 obtain⟨hh,g,d,t,os'⟩:=s'
 obtain rfl:os'=s.os:=os
 exact⟨v,H',I.call (h':=hh) (g':=g) (d':=d) (t':=t) (ch:=[]) un hok bare (fun b z=>absurd z (by simp)),r,q⟩
end
def EZ(sp:Sp) (lE:List V) (E:XK) (t:TA):TE:=fun σ H Q=>t σ H fun vs H1=>sp (vs++lE) H1 Q E
def Binds(K:PySem.W.Frag) (fd:FuncData) (ps:List Str) (ds:List Value):Prop :=
 ∀(s:Shared) (us:List Value),K.In s.heap→(us++ds).length=ps.length→BindsTo s fd ⟨us,[]⟩ (ps.zip (us++ds))
theorem Binds.all{K:PySem.W.Frag}{fd:FuncData}{ps:List Str}(h:∀us:List Value,us.length=ps.length→bindArgs fd ⟨us,[]⟩=pure (ps.zip us)):Binds K fd ps []:=fun s us _ hl=>by
 rw[agU]at hl ⊢
 exact .of_eq (h us hl)
def Passes(CX:lS) (X:Cx) (E:XK):Prop:=∀(pins:List (Addr×Obj)) (σ:St) (H:Hp) (s:Shared) (e:Value) (s':Shared),Inv X pins σ H s→CX X.stack H s E e s'→X.xe e s'
section
variable {X:Cx}{CX:lS}{k:Nat}{f C:Addr}{fd:FuncData}{ps:List Str}{sp:Sp}{lE:List V}{ds:List Value}{E:XK}{x m:Str}{p pos apos:Pos}{e o:Expr}{es:List Expr}{ta:TE}{t:TA}
theorem Pg{pins:List (Addr×Obj)}{σ:St}{H:Hp}{s:Shared}{Q:VK}{us:List Value}{vs:List V}(F:bF X.prog X.w X.K X.mg X.base CX k f fd ps sp) (hr:dR k X.A) (hb:Binds X.K fd ps ds) (hd:Vals lE ds) (hx:Passes CX X E)
  (I:Inv X pins σ H s) (r:Vals vs us) (h:sp (vs++lE) H Q E):wpAny (model X.prog X.w) X.A (call (.ref f) us) (EP X pins σ Q) X.xe s:=by
 have r2:Vals (vs++lE) (us++ds):=r.append hd
 have hl:(us++ds).length=ps.length:=by rw[←r2.length];exact F.len _ _ _ _ h
 refine ahI (agw (F.run X.A X.stack s H ⟨us,[]⟩ (us++ds) (vs++lE) Q E hr I.ZN (hb s us I.eo hl) r2 h) fun r s' hq=>?_)
 cases r with
 |error e=>exact hx pins σ H s e s' I hq
 |ok fl =>
  cases fl with
  |ret u=>exact I.after hq
  |next=>exact False.elim hq
  |brk=>exact False.elim hq
  |cont=>exact False.elim hq
theorem RW(F:bF X.prog X.w X.K X.mg X.base CX k f fd ps sp) (hr:dR k X.A) (hg:Gl X x) (hm:X.mg x=some (.ref f)) (hk:PySem.W.keepIn X.K (.ref f)=true) (hb:Binds X.K fd ps ds) (hd:Vals lE ds) (hx:Passes CX X E)
  (ha:PA X (e::es) t) (hdb:(x==("__debug__":Str))=false:=by decide) (he:starEach (e::es) X.env=(false,eval e X.env)::starEach es X.env:=by rfl) (hpl:(backTo pos (starEach es X.env)).any (·.1)=false:=by rfl) :
  PE X (.Call (.Name x p) (e::es) [] pos) (EZ sp lE E t):=by
 intro pins s σ H Q I h
 refine aih (Hx I hg hm ?_ hdb)
 refine PySem.W.callWith_K (h₀:=X.base) I.ok.mod.mR hk (aY (ha pos pins s σ H _ I h) fun us s1 ⟨vs,H1,I1,r,q⟩=>⟨I1.eo,?_⟩) he hpl
 exact Pg F hr hb hd hx I1 r q
end
structure b7 (N P:List Str) (sc:Scope):Prop where
 kind:sc.kind=.function
 co:sc.isCoroutine=false
 gen:sc.isGenerator=false
 nd:N.Nodup
 pre:N.take P.length=P
 par:∀x∈P,sc.names.lookup x=some .local∨sc.names.lookup x=some .cell
 U9:∀y∈sc.names,y.2≠.free
theorem KC{kindOf:Str→Option NameKind}{x:Str}:∀{binds:List (Str×Value)}{m:Str→Option Value},(∀v,(x,v)∉binds)→bindL kindOf binds m x=m x
 |[],_,_=>rfl
 |(n,v)::r,m,h=>by
  unfold bindL
  rw[KC fun w hw=>h w (af5 _ hw)]
  split
  ·have:x≠n:=by rintro rfl;exact h v aga
   simp[this]
  ·rfl
theorem KG{kindOf:Str→Option NameKind}{x:Str}:∀{binds:List (Str×Value)}{m:Str→Option Value},(∀v,(x,v)∉binds)→bindC kindOf binds m x=m x
 |[],_,_=>rfl
 |(n,v)::r,m,h=>by
  unfold bindC
  rw[KG fun w hw=>h w (af5 _ hw)]
  split
  ·rfl
  ·have:x≠n:=by rintro rfl;exact h v aga
   simp[this]
theorem KD{kindOf:Str→Option NameKind}{x:Str}{v:Value}:∀{P:List Str}{vs:List Value}{i:Nat}{m:Str→Option Value},P.Nodup→P[i]? = some x→vs[i]? = some v→kindOf x=some .local →
  bindL kindOf (P.zip vs) m x=some v
 |[],_,_,_,_,h,_,_=>by simp at h
 |_::_,[],_,_,_,_,h,_=>by simp at h
 |p::P,w::vs,0,m,nd,h1,h2,hk=>by
  simp at h1 h2;subst h1;subst h2
  show bindL kindOf ((p,w)::P.zip vs) m p=_
  unfold bindL
  rw[KC fun v hv=>(agE.mp nd).1 (aii hv).1,if_pos hk]
  simp
 |p::P,w::vs,i+1,m,nd,h1,h2,hk=>by
  show bindL kindOf ((p,w)::P.zip vs) m x=_
  unfold bindL
  exact KD (i:=i) (agE.mp nd).2 (by simpa using h1) (by simpa using h2) hk
theorem KH{kindOf:Str→Option NameKind}{x:Str}{v:Value}:∀{P:List Str}{vs:List Value}{i:Nat}{m:Str→Option Value},P.Nodup→P[i]? = some x→vs[i]? = some v→kindOf x≠some .local →
  bindC kindOf (P.zip vs) m x=some v
 |[],_,_,_,_,h,_,_=>by simp at h
 |_::_,[],_,_,_,_,h,_=>by simp at h
 |p::P,w::vs,0,m,nd,h1,h2,hk=>by
  simp at h1 h2;subst h1;subst h2
  show bindC kindOf ((p,w)::P.zip vs) m p=_
  unfold bindC
  rw[KG fun v hv=>(agE.mp nd).1 (aii hv).1,if_neg hk]
  simp
 |p::P,w::vs,i+1,m,nd,h1,h2,hk=>by
  show bindC kindOf ((p,w)::P.zip vs) m x=_
  unfold bindC
  exact KH (i:=i) (agE.mp nd).2 (by simpa using h1) (by simpa using h2) hk
def start(N:List Str) (vs:List V):St:=vs.map some++List.replicate (N.length-vs.length) none
def nc(CX:lS) (P:Program) (w:World) (K:PySem.W.Frag) (mg:Str→Option Value) (base:Heap) (N:List Str) (qual:Str) (scope:Scope) (f:Addr) (cd:Value) (A:Around) (outer:List Env) (s:Shared) (H:Hp) (E:XK):Cx where
 prog:=P
 w:=w
 K:=K
 mg:=mg
 base:=base
 A:=A.deeper (envOfC qual scope s.heap.objs.size f cd)
 N:=N
 s₀:=s
 H₀:=H
 env:=envOfC qual scope s.heap.objs.size f cd
 outer:=outer
 stack:=envOfC qual scope s.heap.objs.size f cd::outer
 ex:=[]
 calm:=true
 fn:=fun _=>true
 pn:=[]
 xe:=fun e s'=>wpAny (model P w) (A.deeper (envOfC qual scope s.heap.objs.size f cd)) (leaving (envOfC qual scope s.heap.objs.size f cd) e) (fun _ s''=>CX outer H s E e s'') (fun e' s''=>CX outer H s E e' s'') s'
theorem JQ{sc:Scope}{n:Nat}{x:Str}(h:sc.names.lookup x=some .cell):∃c,(cellsFrom n sc.names []).lookup x=some c:=by
 have q:=ahJ sc.names n [] (.inl h)
 exact aij.mp q
theorem Yb{CX:lS}{P:Program}{w:World}{K:PySem.W.Frag}{mg:Str→Option Value}{base:Heap}{N ps:List Str}{qual:Str}{scope:Scope}{f:Addr}{cd:Value}{A:Around}{outer:List Env}{s s1:Shared}{H:Hp}{E:XK}{us:List Value}{vs:List V}
  (S:b7 N ps scope) (hd:A.handled=none) (e0:xT P w K mg base A outer s H) (hl:vs.length=ps.length) (r:Vals vs us)
  (x:InCallC s s.heap.objs.size (bindL (envOfC qual scope s.heap.objs.size f cd).kindOf (ps.zip us) fun _=>none) (cellsFrom (s.heap.objs.size+1) scope.names []) (bindC (envOfC qual scope s.heap.objs.size f cd).kindOf (ps.zip us) fun _=>none) s1) :
  Inv (nc CX P w K mg base N qual scope f cd A outer s H E) [] (start N vs) H s1:=by
 have hpl:ps.length≤N.length:=by have:=congrArg List.length S.pre;rw[ahK]at this;omega
 obtain⟨h1,tk,rfl,hk⟩:=x.done
 have se:∀b:Addr,b∉(nc CX P w K mg base N qual scope f cd A outer s H E).ex:=fun b z=>absurd (show b∈([]:List Addr)from z) (by simp)
 refine⟨⟨e0.mod,S.kind,rfl,rfl,afs _,fun y z c h1 h2=>?_,fun y hy=>?_,fun y c _ h=>?_,fun _=>hd,Around.frames_deeper e0.frames,.inr ⟨rfl,rfl⟩,fun b z=>absurd z (se b),e0.bs,e0.jc,fun b _ _=>se b,fun b z=>absurd z (se b),e0.iF,e0.qo⟩,
  rfl,e0.bare,Un.kept hk,⟨_,x.toInCall.ns,fun i y v h1 h2 h3=>?_⟩,fun y c h=>⟨_,x.cell y c h⟩,e0.hok.fresh (afs _),fun y c h=>?_,fun p hp=>absurd (show p∈([]:List (Addr×Obj))from hp) (by simp),e0.hok.kept hk,?_⟩
 ·exact name_of_addr x.apart (agF h1) (agF h2)
 ·have hy:scope.names.lookup y=some .cell∨scope.names.lookup y=some .free:=hy
  rcases hy with hy|hy
  ·exact JQ hy
  ·exact absurd rfl (S.U9 _ (agF hy))
 ·exact agL (x.above y c (agF h))
 ·have hi:i<vs.length:=by
   unfold start at h2
   by_cases hi:i<vs.length
   ·exact hi
   ·rw[ago (by simpa using hi)]at h2
    rw[ajh]at h2
    split at h2<;>cases h2
  have ha:vs[i]? = some v:=by
   unfold start at h2
   rw[af7 (by simpa using hi),afS]at h2
   cases e:vs[i]? with
   |none=>rw[e]at h2;cases h2
   |some a=>rw[e]at h2;cases h2;rfl
  obtain⟨u,hu,rv⟩:=r.get ha
  have hp:ps[i]? = some y:=by
   rw[←S.pre,ahL (by omega)];exact h1
  have G5:ps.Nodup:=by rw[←S.pre];exact S.nd.sublist (aik _ _)
  refine⟨u,rv,?_⟩
  rcases S.par y (afT hp)with k|k
  ·exact .inl ⟨k,KD G5 hp hu k⟩
  ·obtain⟨c,e⟩:=JQ (n:=s.heap.objs.size+1) k
   refine .inr ⟨.inl k,c,e,?_⟩
   have q:=x.cell y c e
   rw[KH G5 hp hu (by show scope.names.lookup y≠_;rw[k];decide)]at q
   exact q
 ·exact e0.hok.fresh (agL (x.above y c (agF h)))
 ·unfold start
  show _=N.length
  rw[af4,afy,List.length_replicate]
  omega
theorem Zz{CX:lS}{P:Program}{w:World}{K:PySem.W.Frag}{mg:Str→Option Value}{base:Heap}{k:Nat}{f:Addr}{name qual:Str}{params:Arguments}{body:List Stmt}{scope:Scope}{dV kV doc pm cdv ct oc:Value}{an od:Option Addr}
  {osl:Array (Option Value)}{N ps:List Str}{sp:Sp}(lk:K.lookup f=some ⟨oc,od,.func (PySem.W.fnOf name qual params body scope dV kV doc pm an cdv ct),osl⟩) (hcd:PySem.W.codeIn K cdv qual=true) (S:b7 N ps scope)
  (len:∀vs H Q E,sp vs H Q E→vs.length=ps.length)
  (hbody:∀(A:Around) (outer:List Env) (s:Shared) (H:Hp) (vs:List V) (Q:VK) (E:XK),dR k (A.deeper (envOfC qual scope s.heap.objs.size f cdv))→sp vs H Q E →
   ∃t,fJ (nc CX P w K mg base N qual scope f cdv A outer s H E) body t∧t {nx:=fun _ H'=>Q .aL H',rt:=Q} (start N vs) H) :
  bF P w K mg base CX (k+1) f (PySem.W.fnOf name qual params body scope dV kV doc pm an cdv ct) ps sp:=by
 refine⟨len,fun A outer s H args us vs Q E hr e0 hb r qi=>?_⟩
 have hl:=len _ _ _ _ qi
 have KX:K.In s.heap:=e0.mod.mR.keeps fun b o e=>(e0.bs b o e).1
 have lim:s.heap.NoLimit:=e0.mod.nolimit.keeps fun b o e=>(e0.bs b o e).1
 have hkind:∀y∈ps.zip us,scope.names.lookup y.1=some .local∨(scope.names.lookup y.1=some .cell∧((cellsFrom (s.heap.objs.size+1) scope.names []).lookup y.1).isSome=true):=fun⟨n,v⟩ hy=>by
  rcases S.par n (aii hy).1 with q|q
  ·exact .inl q
  ·exact .inr ⟨q,ahJ _ _ _ (.inl q)⟩
 refine codeAny_call_function hr.depth (KX _ _ lk) rfl S.co S.gen rfl (PySem.W.codeRec_of KX hcd) (hb _ _ _ _ ?_)
 refine wpAny_newFunctionEnv_cells S.kind hkind fun env he s1 x=>?_
 subst he
 refine⟨lim.keeps x.toInCall.keep,codeAny_func ?_⟩
 obtain⟨t,ht,hq⟩:=hbody A outer s H vs Q E (hr.deeper _) qi
 have I:Inv (nc CX P w K mg base N qual scope f cdv A outer s H E) [] (start N vs) H s1:=Yb S hr.hd e0 hl r x
 refine af6 (ht [] s1 (start N vs) H _ I hq) (fun fl s' hs=>?_) fun e s' hs=>hs
 have fin:∀{σ':St}{H':Hp}{v:V}{u:Value},Inv (nc CX P w K mg base N qual scope f cdv A outer s H E) [] σ' H' s'→RelV v u→Q v H'→CE outer P w H s Q u s' :=
  fun{σ' H' v u} J rv q=>⟨v,H',J.os,J.bare,J.base,J.hok,rv,q⟩
 cases fl with
 |ret u =>
  obtain⟨v,σ',H',J,rv,q⟩:=hs
  exact fin J rv q
 |next =>
  obtain⟨σ',H',J,q⟩:=hs
  exact fin (v:=V.aL) (u:=Value.none) J rfl q
 |brk =>
  obtain⟨_,_,_,q⟩:=hs
  exact False.elim q
 |cont =>
  obtain⟨_,_,_,q⟩:=hs
  exact False.elim q
end L2
namespace L2
open PySem PySem.Spec PyProof.Rows
section
variable {X:Cx}{x:Str}{p pos:Pos}{e:Expr}{es:List Expr}{t:TA}{id T:String}{r:List V→Hp→VK→Prop}
def E1(r:List V→Hp→VK→Prop) (t:TA):TE:=fun σ H Q=>t σ H fun vs H1=>r vs H1 Q
theorem uS(hc:dw X (.builtin id) r) (hg:Gl X x) (hm:X.mg x=none) (hv:bootBuiltins x=some (.builtin id)) (ha:PA X (e::es) t) (hn:x≠"__name__":=by decide) (hdb:(x==("__debug__":Str))=false:=by decide)
  (he:starEach (e::es) X.env=(false,eval e X.env)::starEach es X.env:=by rfl) (hpl:(backTo pos (starEach es X.env)).any (·.1)=false:=by rfl):PE X (.Call (.Name x p) (e::es) [] pos) (E1 r t):=by
 intro pins s σ H Q I h
 refine aih (kW I hg hm hv ?_ hn hdb)
 exact PyProof.Rows.callWith_builtin1 (aY (ha pos pins s σ H _ I h) fun us s1 ⟨vs,H1,I1,r1,q1⟩=>hc pins s1 σ H1 vs us Q I1 r1 q1) he hpl
theorem kM(hc:dw X (.type T) r) (hg:Gl X x) (hm:X.mg x=none) (hv:bootBuiltins x=some (.type T)) (ha:PA X (e::es) t) (hn:x≠"__name__":=by decide) (hdb:(x==("__debug__":Str))=false:=by decide)
  (he:starEach (e::es) X.env=(false,eval e X.env)::starEach es X.env:=by rfl) (hpl:(backTo pos (starEach es X.env)).any (·.1)=false:=by rfl):PE X (.Call (.Name x p) (e::es) [] pos) (E1 r t):=by
 intro pins s σ H Q I h
 refine aih (kW I hg hm hv ?_ hn hdb)
 exact agS (aY (ha pos pins s σ H _ I h) fun us s1 ⟨vs,H1,I1,r1,q1⟩=>hc pins s1 σ H1 vs us Q I1 r1 q1) he hpl
end
end L2
namespace HT
open PySem PyProof.Rows
section
variable {prog:Program}{w:World}{A:Around}{E:Value→Shared→Prop}{s:Shared}
theorem abU{t b:Addr}{vs ws:List Value}{Q:Value→Shared→Prop}(ht:IsTup s.heap t vs.toArray) (hb:IsTup s.heap b ws.toArray) (hv:vs≠[])
  (h1:ws=[]→Q (.ref t) s) (h2:ws≠[]→Q (.ref s.heap.objs.size) {s with heap:=s.heap.push {cls:=.type "tuple",data:=.seq (vs++ws).toArray} })
  (hsz:vs.length+ws.length≤sizeLine):wpAny (model prog w) A (binaryOp .Add (.ref t) (.ref b)) Q E s:=by
 obtain⟨⟨cls,dd,data,sl⟩,ho,hc,n,hd⟩:=id ht
 obtain⟨⟨abD,dd2,data2,sl2⟩,ho2,hc2,n2,hd2⟩:=id hb
 simp only at hc hd hc2 hd2
 subst hc hd hc2 hd2
 have e:vs.toArray++ws.toArray=(vs++ws).toArray:=by simp
 by_cases hw:ws=[]
 ·exact ail ⟨_,ho,rfl⟩ ⟨_,ho2,rfl⟩ aim ain aio aip (aiq _ _)
   (tuple_addW1 t b vs.toArray ws.toArray n n2 dd dd2 sl sl2 (by simpa using hv) (by simp[hw])) ⟨ho,ho2,h1 hw⟩
 ·refine ail ⟨_,ho,rfl⟩ ⟨_,ho2,rfl⟩ aim ain aio aip (aiq _ _)
   (tuple_addW2 t b vs.toArray ws.toArray n n2 dd dd2 sl sl2 (by simpa using hv) (by simpa using hw) (by rw[afF,afF];exact hsz)) ⟨ho,ho2,?_⟩
  rw[e]
  exact h2 hw
end
end HT
namespace L2
open PySem PySem.Spec PyProof.Rows
abbrev TO:=St→Hp→(Option Int→Hp→Prop)→Prop
def PO(X:Cx) (e:Option Expr) (t:TO):Prop :=
 ∀(pins:List (Addr×Obj)) (s:Shared) (σ:St) (H:Hp) (Q:Option Int→Hp→Prop),Inv X pins σ H s→t σ H Q →
  wpAny (model X.prog X.w) X.A (evalPart e X.env) (fun u s'=>∃o H',Inv X pins σ H' s'∧IsPart u o∧Q o H') X.xe s
section
variable {X:Cx}{e:Expr}{te:TE}{lo hi:Option Expr}{tl th:TO}{pos p2:Pos}
def Qa(K:PySem.W.Frag):R2:=fun x y H Q=>∃a b xs ys,x=.ref a∧y=.ref b∧bB K H a xs∧bB K H b ys∧xs≠[]∧xs.length+ys.length≤sizeLine ∧
 (ys=[]→Q (.ref a) H)∧(ys≠[]→∀p,H p=none→Q (.ref p) (upd H p (.tup (xs++ys))))
theorem Vals.zz{xs:List V}{us:List Value}(r:Vals xs us):us=[]↔xs=[]:=by
 cases r with
 |nil=>simp
 |cons _ _=>simp
theorem Gh:bf X (binaryOp .Add) (Qa X.K):=by
 intro pins s σ H x y v u Q I rx ry h
 obtain⟨a,b,xs,ys,rfl,rfl,ha,hb,hx,hz,q1,q2⟩:=h
 cases rx
 cases ry
 obtain⟨its,r1,p1,_⟩:=I.tuple ha
 obtain⟨its2,r2,p2,_⟩:=I.tuple hb
 refine HT.abU p1 p2 (fun z=>hx (r1.zz.mp z)) (fun z=>⟨.ref a,H,I,rfl,q1 (r2.zz.mp z)⟩) (fun z=>?_) (by rw[←r1.length,←r2.length];exact hz)
 refine⟨.ref s.heap.objs.size,_,I.laid (t':=s.toks) (o:=.tup (xs++ys)) (fun b ob q=>afw _ q) (afs _) ?_,rfl,q2 (fun w=>z (r2.zz.mpr w)) _ (I.hok.fresh (afs _))⟩
 exact⟨by rw[af4];exact hz,_,r1.append r2,kj.new _ _⟩
end
end L2
namespace L2
open PySem PySem.Spec PyProof.Rows
def eL(n:Nat) (i:Int):Option Nat:=if 0≤i then(if i<n then some i.toNat else none)else if -(n:Int)≤i then some (i+n).toNat else none
def cI{α:Type}(xs:List α) (i:Int):Option α:=(eL xs.length i).bind fun j=>xs[j]?
theorem HL{n:Nat}{i:Int}{j:Nat}(h:eL n i=some j):seqIndex? i n=some j∧j<n∧-(n:Int)≤i∧i<n:=by
 unfold eL at h
 by_cases h0:0≤i
 ·rw[if_pos h0]at h
  by_cases h1:i<n
  ·rw[if_pos h1]at h
   have e:i.toNat=j:=afN h
   exact⟨by rw[seqIndex_of h0 h1,e],by omega,by omega,h1⟩
  ·rw[if_neg h1]at h;cases h
 ·rw[if_neg h0]at h
  by_cases h1:-(n:Int)≤i
  ·rw[if_pos h1]at h
   have e:(i+n).toNat=j:=afN h
   exact⟨by rw[seqIndex_neg (by omega) h1,e],by omega,h1,by omega⟩
  ·rw[if_neg h1]at h;cases h
theorem KL{α:Type}{xs:List α}{i:Int}{v:α}(h:cI xs i=some v):∃j,seqIndex? i xs.length=some j∧xs[j]? = some v∧j<xs.length∧-(xs.length:Int)≤i∧i<xs.length:=by
 unfold cI at h
 cases e:eL xs.length i with
 |none=>rw[e]at h;cases h
 |some j =>
  rw[e]at h
  obtain⟨h1,h2,h3,h4⟩:=HL e
  exact⟨j,h1,h,h2,h3,h4⟩
theorem jA{α:Type}{xs:List α}{j:Nat}{v:α}(h:xs[j]? = some v):cI xs (j:Int)=some v:=by
 have hj:j<xs.length:=(afJ.mp h).1
 have e:eL xs.length (j:Int)=some j:=by
  unfold eL
  rw[if_pos (by omega),if_pos (by omega)];simp
 unfold cI;rw[e];exact h
def Ef(b:Expr):Prop:=∀o i,subscripted b false o i=operate [o,i] (getItem o i)
def rj(X:Cx) (r:R2):Prop :=
 ∀(value slice:Expr) (pins:List (Addr×Obj)) (s:Shared) (σ:St) (H:Hp) (x y:V) (v u:Value) (Q:VK),Inv X pins σ H s→RelV x v→RelV y u→r x y H Q →
  subscripted slice false v u=operate [v,u] (getItem v u)→wpAny (model X.prog X.w) X.A (subscriptTail value slice v u) (EP X pins σ Q) X.xe s
def MtR(X:Cx) (id:String) (r:V→List V→Hp→VK→Prop):Prop :=
 ∀(pins:List (Addr×Obj)) (s:Shared) (σ:St) (H:Hp) (x:V) (xs:List V) (v:Value) (us:List Value) (Q:VK),Inv X pins σ H s→RelV x v→Vals xs us→r x xs H Q →
  wpAny (model X.prog X.w) X.A (call (.builtin id) (v::us)) (EP X pins σ Q) X.xe s
section
variable {X:Cx}{a b:Expr}{ta tb:TE}{pos:Pos}
theorem zc{r:R2}(hr:rj X r) (ha:PE X a ta) (hb:PE X b tb) (hs:Ef b):PE X (.Subscript a b pos) (uA r ta tb):=by
 intro pins s σ H Q I h
 exact Subscript_ (DZ ha hb I h fun v u s2 x y H2 I2 rx ry q=>hr a b pins s2 σ H2 x y v u Q I2 rx ry q (hs _ _))
def PZ(K:PySem.W.Frag):R2:=fun x y H Q=>∃p xs i v,x=.ref p∧y=.int i∧aZ K H p xs∧cI xs i=some v∧Q v H
def PY(K:PySem.W.Frag):R2:=fun x y H Q=>∃p xs i v,x=.ref p∧y=.int i∧bB K H p xs∧cI xs i=some v∧Q v H
theorem XH:rj X (PZ X.K):=by
 intro value slice pins s σ H x y v u Q I rx ry h hs
 obtain⟨p,xs,i,z,rfl,rfl,hq,he,q⟩:=h
 cases rx
 obtain⟨t,rfl⟩:=ry
 obtain⟨its,r,pl,hz⟩:=I.list hq
 obtain⟨j,h1,h2,h3,h4,h5⟩:=KL he
 obtain⟨w,ew,rw'⟩:=r.get h2
 have hl:=r.length
 have hn:=qe
 have fin:EP X pins σ Q w s:=⟨z,H,I,rw',q⟩
 by_cases h0:0≤i
 ·have hj:i.toNat=j:=by
   rw[seqIndex_of h0 h5]at h1
   exact afN h1
  exact item_listR pl.isList h0 (by omega) (by rw[hj];simpa using ew) fin hs
 ·have hj:(i+(its.toArray.size:Int)).toNat=j:=by
   rw[seqIndex_neg (by omega) h4]at h1
   rw[afF,←hl]
   exact afN h1
  exact air (x:=w) pl.isList.typeIs slot_list_getitem.lookup
   (wpAny_getItem_list_neg (Q:=fun r s'=>r=w∧EP X pins σ Q r s') pl.isList (by omega) (by rw[afF]<;>omega) (by omega) (by rw[hj];simpa using ew) ⟨rfl,fin⟩) hs
theorem HK:rj X (PY X.K):=by
 intro value slice pins s σ H x y v u Q I rx ry h hs
 obtain⟨p,xs,i,z,rfl,rfl,hq,he,q⟩:=h
 cases rx
 obtain⟨t,rfl⟩:=ry
 obtain⟨its,r,pl,hz⟩:=I.tuple hq
 obtain⟨j,h1,h2,h3,h4,h5⟩:=KL he
 obtain⟨w,ew,rw'⟩:=r.get h2
 have hl:=r.length
 have hn:=qe
 have fin:EP X pins σ Q w s:=⟨z,H,I,rw',q⟩
 exact air (x:=w) pl.typeIs slot_tuple_getitem.lookup
  (getItem_tuple (j:=j) (Q:=fun r s'=>r=w∧EP X pins σ Q r s') pl (by omega) (by omega) (by rw[afF,←hl];exact h1) (by simpa using ew) ⟨rfl,fin⟩) hs
theorem Wm(its:List Value) (n j:Nat) (u:Value):Obj.mapSeq (·.setIfInBounds j u) {cls:=.type "list",data:=.seq its.toArray n}={cls:=.type "list",data:=.seq (its.set j u).toArray n}:=by
 simp[Obj.mapSeq]
theorem Inv.lst{pins:List (Addr×Obj)}{σ:St}{H:Hp}{s:Shared}{p:Addr}{xs:List V}(I:Inv X pins σ H s) (h:H p=some (.lst xs)) :
  ∃(its:List Value) (n:Nat),Vals xs its∧s.heap.get? p=some {cls:=.type "list",data:=.seq its.toArray n}∧xs.length≤sizeLine:=by
 obtain⟨z,its,n,r,e⟩:=I.hok p _ h
 exact⟨its,n,r,e,z⟩
theorem Inv.Wo{pins:List (Addr×Obj)}{σ:St}{H:Hp}{s:Shared}{p:Addr}{xs ys:List V}{its its':List Value}{n n':Nat}{f:Obj→Obj}(I:Inv X pins σ H s) (h:H p=some (.lst xs))
  (ho:s.heap.get? p=some {cls:=.type "list",data:=.seq its.toArray n}) (hf:f {cls:=.type "list",data:=.seq its.toArray n}={cls:=.type "list",data:=.seq its'.toArray n'}) (r:Vals ys its') (hz:ys.length≤sizeLine) (t:Nat) :
  Inv X pins σ (upd H p (.lst ys)) {s with heap:=s.heap.update p f,toks:=t}:=by
 have e:(s.heap.update p f).get? p=some {cls:=.type "list",data:=.seq its'.toArray n'}:=by
  rw[ahi f ho (by rw[hf]<;>rfl),hf]
 refine I.write (x:=p) (e:=p) (by rw[h];trivial) (.inl rfl) (fun b u hb q=>(agV _ _ (af8 hb)).trans q) ⟨_,e⟩ ?_
 exact⟨hz,its',n',r,e⟩
def PJ:V→V→V→Hp→(Hp→Prop)→Prop:=fun o i v H Q=>∃p xs k j,o=.ref p∧i=.int k∧H p=some (.lst xs)∧eL xs.length k=some j∧Q (upd H p (.lst (xs.set j v)))
theorem set_list:KY X PJ:=by
 intro pins s σ H o i v ov iv u Q I ro ri rv h
 obtain⟨p,xs,k,j,rfl,rfl,hp,hj,q⟩:=h
 cases ro
 obtain⟨t,rfl⟩:=ri
 obtain⟨its,n,r,ho,hz⟩:=I.lst hp
 obtain⟨h1,h2,h3,h4⟩:=HL hj
 have hl:=r.length
 have hn:=qe
 have I':Inv X pins σ (upd H p (.lst (xs.set j v))) {s with heap:=s.heap.update p (Obj.mapSeq (·.setIfInBounds j u))} :=
  I.Wo hp ho (Wm its n j u) (r.set rv j) (by rw[List.length_set];exact hz) s.toks
 by_cases h0:0≤k
 ·have hk:k.toNat=j:=by
   rw[seqIndex_of h0 h4]at h1
   exact afN h1
  exact PySem.W.ki_setAt ho h0 (by omega) (by rw[afF,←hl];exact h4) (by rw[hk];exact⟨_,I',q⟩)
 ·have hk:(k+(its.toArray.size:Int)).toNat=j:=by
   rw[seqIndex_neg (by omega) h3]at h1
   rw[afF,←hl]
   exact afN h1
  exact PySem.W.ki_setBack ho (by omega) (by rw[afF,←hl];exact h3) (by omega) (by rw[hk];exact⟨_,I',q⟩)
theorem abZ:dw X (.builtin "len") (fun xs H Q=>∃p ys,xs=[.ref p]∧(aZ X.K H p ys∨bB X.K H p ys)∧Q (.int ys.length) H):=by
 intro pins s σ H xs us Q I r h
 obtain⟨p,ys,rfl,hq,q⟩:=h
 obtain⟨u,rfl,rx⟩:=agb r
 cases rx
 have hn:=qe
 rcases hq with hq|hq
 ·obtain⟨its,r',pl,hz⟩:=I.list hq
  have hlen:=r'.length
  exact Calls.call_len_list pl.isList (by simp only[afF]<;>omega) ⟨.int ys.length,H,I.tok _,⟨s.toks+1,by rw[afF,hlen]⟩,q⟩
 ·obtain⟨its,r',pl,hz⟩:=I.tuple hq
  have hlen:=r'.length
  exact len_tuple pl (by simp only[afF]<;>omega) ⟨.int ys.length,H,I.tok _,⟨s.toks+1,by rw[afF,hlen]⟩,q⟩
theorem abY:dw X (.builtin "len") (fun xs H Q=>∃z,xs=[.str z]∧z.length≤sizeLine∧Q (.int z.length) H):=by
 intro pins s σ H xs us Q I r h
 obtain⟨z,rfl,hz,q⟩:=h
 obtain⟨u,rfl,t,rfl⟩:=agb r
 have hn:=qe
 exact len_str (by omega) ⟨.int z.length,H,I.tok _,⟨_,rfl⟩,q⟩
theorem abW:dw X (.type "tuple") (fun xs H Q=>∃p ys,xs=[.ref p]∧((aZ X.K H p ys∧∀l,H l=none→Q (.ref l) (upd H l (.tup ys)))∨(bB X.K H p ys∧Q (.ref p) H))):=by
 intro pins s σ H xs us Q I r h
 obtain⟨p,ys,rfl,h⟩:=h
 obtain⟨u,rfl,rx⟩:=agb r
 cases rx
 rcases h with⟨hq,q⟩|⟨hq,q⟩
 ·obtain⟨its,r',pl,hz⟩:=I.list hq
  have hlen:=r'.length
  refine call_tuple_list pl.isList (fun h' kp=>?_) (by simp only[afF]<;>omega)
  have I1:Inv X pins σ H {s with heap:=h'}:=I.kept (t':=s.toks) kp
  have I2:Inv X pins σ (upd H h'.objs.size (.tup ys)) {s with heap:=h'.push {cls:=.type "tuple",data:=.seq its.toArray} } :=
   I1.laid (t':=s.toks) (fun b o e=>afw _ e) (afs _) (show d7 X.prog X.w _ _ _ (.tup ys)from⟨hz,its,r',kj.new _ _⟩)
  exact⟨.ref h'.objs.size,_,I2,rfl,q _ (I1.hok.fresh (afs _))⟩
 ·obtain⟨its,r',pl,hz⟩:=I.tuple hq
  exact call_tuple_same pl ⟨.ref p,H,I,rfl,q⟩
def EG(K:PySem.W.Frag) (T:String) (x:V) (H:Hp):Prop:=match x with
 |.str _=>T="str"
 |.int _=>T="int"
 |.ref p=>(T="list"∧∃xs,aZ K H p xs)∨(T="tuple"∧((∃xs,H p=some (.tup xs))∨∃o,K.lookup p=some o∧o.cls=.type "tuple"∧o.dict=none)) ∨
   (T="dict"∧((∃kvs,H p=some (.dK kvs))∨∃kvs,H p=some (.dT kvs)))∨(T="set"∧∃S n,H p=some (.set S n))
 |_=>False
theorem Mx{pins:List (Addr×Obj)}{σ:St}{H:Hp}{s:Shared}{T:String}{x:V}{v:Value}(I:Inv X pins σ H s) (r:RelV x v) (ty:EG X.K T x H) :
  s.TypeIs v T∧∀a,v=.ref a→∃ob,s.heap.get? a=some ob∧ob.dict=none:=by
 cases x with
 |str z =>
  obtain⟨t,rfl⟩:=r
  cases(show T="str" from ty)
  exact⟨typeIs_str s z t,fun _ e=>nomatch e⟩
 |int i =>
  obtain⟨t,rfl⟩:=r
  cases(show T="int" from ty)
  exact⟨typeIs_int s i t,fun _ e=>nomatch e⟩
 |ref p =>
  cases r
  rcases ty with⟨rfl,xs,hq⟩|⟨rfl,⟨xs,hk⟩|⟨o,hk,hc,hd⟩⟩|⟨rfl,hk⟩|⟨rfl,S,n,hk⟩
  ·obtain⟨its,_,pl,_⟩:=I.list hq
   refine⟨pl.isList.typeIs,fun a e=>?_⟩
   cases e
   obtain⟨o,n,e,c,hd,_⟩:=pl
   exact⟨o,e,hd⟩
  ·obtain⟨_,its,_,o,e,c,_,hd⟩:=(show d7 X.prog X.w H s.heap p (.tup xs)from I.hok p _ hk)
   refine⟨⟨o,e,c⟩,fun a e2=>?_⟩
   cases e2
   exact⟨o,e,hd⟩
  ·refine⟨⟨o,I.eo p o hk,hc⟩,fun a e=>?_⟩
   cases e
   exact⟨o,I.eo _ o hk,hd⟩
  ·have z:∃o,s.heap.get? p=some o∧o.ExactDict:=by
    rcases hk with⟨kvs,hk⟩|⟨kvs,hk⟩
    ·obtain⟨_,_,_,_,o,_,_,e,ex,_⟩:=I.hok p _ hk
     exact⟨o,e,ex⟩
    ·obtain⟨_,_,_,_,o,_,_,e,ex,_⟩:=I.hok p _ hk
     exact⟨o,e,ex⟩
   obtain⟨o,e,ex⟩:=z
   refine⟨⟨o,e,ex.1⟩,fun a e2=>?_⟩
   cases e2
   exact⟨o,e,ex.2.1⟩
  ·obtain⟨o,_,_,_,e,ex,_⟩:=I.hok p _ hk
   refine⟨⟨o,e,ex.1⟩,fun a e2=>?_⟩
   cases e2
   exact⟨o,e,ex.2.1⟩
 |_=>exact False.elim ty
def Na(K:PySem.W.Frag) (T:String) (r:V→List V→Hp→VK→Prop) (to:TE) (t:TA):TE:=fun σ H Q=>to σ H fun x H1=>EG K T x H1∧t σ H1 fun xs H2=>r x xs H2 Q
variable {o e:Expr}{es:List Expr}{to:TE}{t:TA}{name:Str}{apos cpos:Pos}{T id:String}{r:V→List V→Hp→VK→Prop}
theorem uT(pa:PlainAttrs T) (slot:Slot T name id) (hty:typeOf (.builtin id)=pure (.type "method_descriptor")) (hm:MtR X id r) (ho:PE X o to) (ha:PA X (e::es) t)
  (hbase:attributeBase o name X.env (eval o X.env)=eval o X.env:=by rfl)
  (hfew:((backTo cpos (starEach (e::es) X.env)).all (fun x=>!x.1)&&(backToKw cpos (keywordEach [] X.env)).all (fun x=>x.1.isSome)
   && decide ((e::es).length+([]:List Keyword).length+(if([]:List Keyword).isEmpty then 0 else 1)<30))=true:=by rfl)
  (hline:(apos.endLine==cpos.line)=true:=by rfl) (hs:starEach (e::es) X.env=(false,eval e X.env)::starEach es X.env:=by rfl) (hplain:(backTo cpos (starEach es X.env)).any (·.1)=false:=by rfl) :
  PE X (.Call (.Attribute o name apos) (e::es) [] cpos) (Na X.K T r to t):=by
 intro pins s σ H Q I h
 refine wpAny_Call_method_late hbase hfew hline rfl (aY (ho pins s σ H _ I h) fun v s1 ⟨x,H1,I1,r1,ty,q1⟩=>?_)
 obtain⟨h1,h2⟩:=Mx I1 r1 ty
 refine⟨T,id,pa,slot,hty,h1,h2,?_⟩
 have hA:=ha cpos pins s1 σ H1 _ I1 q1
 rw[hs]at hA ⊢
 refine Calls.callWith_builtin (by show(false||(backTo cpos (starEach es X.env)).any (·.1))=false;rw[hplain]<;>rfl) (Calls.evalArgs_plain ?_)
 exact aY hA fun us s2 ⟨vs,H2,I2,r2,q2⟩=>hm pins s2 σ H2 x vs v us Q I2 r1 r2 q2
end
end L2
namespace L2
open PySem PySem.Spec PyProof.Rows
def xO(X:Cx) (id:String) (r:V→List V→Hp→VK→Prop):Prop :=
 ∀(pins:List (Addr×Obj)) (s:Shared) (σ:St) (H:Hp) (x:V) (xs:List V) (v:Value) (us:List Value) (Q:VK),Inv X pins σ H s→RelV x v→Vals xs us→r x xs H Q →
  wpAny (model X.prog X.w) X.A (call (.builtin id) (v::us)) (EP X pins σ Q) X.xe s
theorem Vals.one:∀{x:V}{us:List Value},Vals [x] us→∃u,us=[u]∧RelV x u
 |_,_,.cons r .nil=>⟨_,rfl,r⟩
theorem Vals.two:∀{x y:V}{us:List Value},Vals [x,y] us→∃u v,us=[u,v]∧RelV x u∧RelV y v
 |_,_,_,.cons r (.cons q .nil)=>⟨_,_,rfl,r,q⟩
theorem Vals.eraseIdx:∀{xs:List V}{us:List Value}(i:Nat),Vals xs us→Vals (xs.eraseIdx i) (us.eraseIdx i)
 |_,_,_,.nil=>.nil
 |_,_,0,.cons _ t=>t
 |_,_,i+1,.cons r t=>.cons r (Vals.eraseIdx i t)
theorem Vals.rep{xs:List V}{us:List Value}(h:Vals xs us):∀k:Nat,Vals (List.replicate k xs).flatten (List.replicate k us).flatten
 |0=>.nil
 |k+1=>by
  rw[agG,agG,agM,agM]
  exact Vals.append h (Vals.rep h k)
theorem Hv{α:Type}:∀(l:List α) (i:Nat),(l.eraseIdx i).length≤l.length
 |[],_=>afs _
 |_::_,0=>agW _
 |_::r,i+1=>Nat.succ_le_succ (Hv r i)
theorem foldl_rep(its:List Value):∀(k:Nat) (acc:List Value),
  List.foldl (fun x1 x2=>x1++x2) acc.toArray (List.replicate k its.toArray)=(acc++(List.replicate k its).flatten).toArray
 |0,acc=>by simp
 |k+1,acc=>by
  have e:acc.toArray++its.toArray=(acc++its).toArray:=by simp
  have e2:(acc++its)++(List.replicate k its).flatten=acc++(List.replicate (k+1) its).flatten:=by
   rw[agG,agM,afU]
  rw[←e2,←foldl_rep its k (acc++its),←e,agG,agH]
section
variable {X:Cx}{pins:List (Addr×Obj)}{σ:St}{H:Hp}{s:Shared}{l b:Addr}{xs ys zs:List V}
theorem Inv.zP{its its':List Value}{n:Nat}{f:Array Value→Array Value}{t':Nat}(I:Inv X pins σ H s) (hH:H l=some (.lst xs))
  (e:s.heap.get? l=some {cls:=.type "list",data:=.seq its.toArray n}) (hf:f its.toArray=its'.toArray) (hv:Vals ys its') (hz:ys.length≤sizeLine) :
  Inv X pins σ (upd H l (.lst ys)) {s with heap:=s.heap.update l (Obj.mapSeq f),toks:=t'}:=by
 have q:=aji e f
 rw[hf]at q
 refine I.write (x:=l) (e:=l) (by rw[hH];exact trivial) (.inl rfl) (fun b' u hb hu=>(agV s.heap (Obj.mapSeq f) (af8 hb)).trans hu) ⟨_,q⟩ ?_
 exact⟨hz,its',_,hv,q⟩
theorem Inv.Hu{its:List Value}{t':Nat}(I:Inv X pins σ H s) (hv:Vals ys its) (hz:ys.length≤sizeLine) :
  Inv X pins σ (upd H s.heap.objs.size (.lst ys)) {s with heap:=s.heap.push {cls:=.type "list",data:=.seq its.toArray},toks:=t'} :=
 I.laid (fun _ _ q=>afw _ q) (afs _) ⟨hz,its,0,hv,afI _ rfl⟩
theorem Inv.fresh(I:Inv X pins σ H s):H s.heap.objs.size=none:=I.hok.fresh (afs _)
theorem Inv.mQ(I:Inv X pins σ H s) (hH:H l=some (.lst xs)):xs.length≤sizeLine∧∃(its:List Value) (n:Nat),Vals xs its∧xs.length=its.length∧s.heap.get? l=some {cls:=.type "list",data:=.seq its.toArray n}:=by
 obtain⟨z,its,n,r,e⟩:=I.hok l _ hH
 exact⟨z,its,n,r,r.length,e⟩
theorem GR{n:Nat}(h:n≤sizeLine):Builtin.List.listTooLong n=false:=by
 unfold Builtin.List.listTooLong
 exact decide_eq_false (by omega)
end
section
variable {X:Cx}
def Qd:V→List V→Hp→VK→Prop:=fun x vs H Q=>∃l xs y,x=.ref l∧vs=[y]∧H l=some (.lst xs)∧xs.length<sizeLine∧Q .aL (upd H l (.lst (xs++[y])))
theorem Wg:xO X "list.append" Qd:=by
 intro pins s σ H x vs v us Q I rx rv h
 obtain⟨l,xs,y,rfl,rfl,hH,hz,q⟩:=h
 cases rx
 obtain⟨u,rfl,ru⟩:=rv.one
 obtain⟨z,its,n,r,hl,e⟩:=I.mQ hH
 refine agN F.slot_list_append ⟨_,e,rfl⟩ F.entry_list_append (F.args_list_append_2 _ _) (ajj l its.toArray n u (by rw[afF];omega)) ⟨e,?_⟩
 refine⟨.aL,_,I.zP (its':=its++[u]) hH e (by simp) (r.append (.cons ru .nil)) ?_,rfl,q⟩
 rw[af4,ahM]
 omega
def P7:V→List V→Hp→VK→Prop:=fun x vs H Q=>∃l b xs zs,x=.ref l∧vs=[.ref b]∧H l=some (.lst xs)∧H b=some (.lst zs)∧xs.length+zs.length≤sizeLine∧Q .aL (upd H l (.lst (xs++zs)))
theorem Wf:xO X "list.extend" P7:=by
 intro pins s σ H x vs v us Q I rx rv h
 obtain⟨l,b,xs,zs,rfl,rfl,hH,hB,hz,q⟩:=h
 cases rx
 obtain⟨u,rfl,ru⟩:=rv.one
 cases ru
 obtain⟨z,its,n,r,hl,e⟩:=I.mQ hH
 obtain⟨z2,its2,n2,r2,hl2,e2⟩:=I.mQ hB
 have hsz:its.toArray.size+its2.toArray.size≤sizeLine:=by rw[afF,afF];omega
 have BB:¬(!its.toArray.isEmpty&&Builtin.List.listTooLong (its.toArray.size+its2.toArray.size))=true:=by
  rw[GR hsz,ais]
  exact afR
 refine agN F.slot_list_extend ⟨_,e,rfl⟩ F.entry_list_extend (F.args_list_extend_2 _ _)
  (AutoSeq1.list_extend_list_list_0 l its.toArray n b its2.toArray n2 BB (by rw[afF];omega) (by omega)) ⟨e,e2,?_⟩
 refine⟨.aL,_,I.zP (its':=its++its2) hH e (by simp) (r.append r2) ?_,rfl,q⟩
 rw[af4]
 omega
def PN:V→List V→Hp→VK→Prop:=fun x vs H Q=>∃l xs i k y,x=.ref l∧vs=[.int i]∧H l=some (.lst xs)∧-(2^63)≤i∧i<2^63∧seqIndex? i xs.length=some k∧xs[k]? = some y∧Q y (upd H l (.lst (xs.eraseIdx k)))
theorem Wb:xO X "list.pop" PN:=by
 intro pins s σ H x vs v us Q I rx rv h
 obtain⟨l,xs,i,k,y,rfl,rfl,hH,h1,h2,hk,hy,q⟩:=h
 cases rx
 obtain⟨u,rfl,ru⟩:=rv.one
 obtain⟨t,rfl⟩:=ru
 obtain⟨z,its,n,r,hl,e⟩:=I.mQ hH
 obtain⟨w,hw,rw'⟩:=r.get hy
 refine agN F.slot_list_pop ⟨_,e,rfl⟩ F.entry_list_pop (F.args_list_pop_2 _ _)
  (MeetsSeq.list_pop_at l its.toArray n i t k w (fitsIndex_both h1 h2) (by rw[afF,←hl];exact hk) (by rw[←afW];exact hw) (by rw[afF];omega)) ⟨e,?_⟩
 refine⟨y,_,I.zP (its':=its.eraseIdx k) hH e ?_ (r.eraseIdx k) ?_,rw',q⟩
 ·show its.toArray.eraseIdxIfInBounds k=(its.eraseIdx k).toArray
  rw[List.eraseIdxIfInBounds_toArray]
 ·have:=Hv xs k
  omega
def Qc:R2:=fun x y H Q=>∃l b xs zs,x=.ref l∧y=.ref b∧H l=some (.lst xs)∧H b=some (.lst zs)∧xs.length+zs.length≤sizeLine∧∀p,H p=none→Q (.ref p) (upd H p (.lst (xs++zs)))
theorem SJ:bf X (binaryOp .Add) Qc:=by
 intro pins s σ H x y v u Q I rx ry h
 obtain⟨l,b,xs,zs,rfl,rfl,hH,hB,hz,q⟩:=h
 cases rx
 cases ry
 obtain⟨z,its,n,r,hl,e⟩:=I.mQ hH
 obtain⟨z2,its2,n2,r2,hl2,e2⟩:=I.mQ hB
 refine PySem.P.add_list e e2 ?_ (by rw[afF,afF];omega)
 have ea:its.toArray++its2.toArray=(its++its2).toArray:=by simp
 rw[ea]
 exact⟨.ref _,_,I.Hu (t':=s.toks) (r.append r2) (by rw[af4];omega),rfl,q _ I.fresh⟩
def PM:R2:=fun x y H Q=>∃l k xs,x=.ref l∧y=.int k∧H l=some (.lst xs)∧-(2^63)≤k∧k<2^63∧xs.length*k.toNat≤sizeLine ∧
 ∀p,H p=none→Q (.ref p) (upd H p (.lst (List.replicate k.toNat xs).flatten))
theorem len_rep{α:Type}(xs:List α) (k:Nat):(List.replicate k xs).flatten.length=k*xs.length:=by
 induction k with
 |zero=>simp
 |succ k ih=>rw[agG,agM,af4,ih,ait,Nat.add_comm]
theorem So:bf X (binaryOp .Mult) PM:=by
 intro pins s σ H x y v u Q I rx ry h
 obtain⟨l,k,xs,rfl,rfl,hH,h1,h2,hz,q⟩:=h
 cases rx
 obtain⟨t,rfl⟩:=ry
 obtain⟨z,its,n,r,hl,e⟩:=I.mQ hH
 have hlen:its.toArray.size*k.toNat≤sizeLine:=by rw[afF,←hl];exact hz
 have hcap:¬its.toArray.size*k.toNat>(2^63-1)/8:=by
  have:(sizeLine:Nat)≤(2^63-1)/8:=by decide
  omega
 have hfit:¬(!Builtin.List.listFitsIndex k)=true:=by
  rw[fitsIndex_both h1 h2]
  exact afR
 have BB:¬Builtin.List.listTooLong (its.toArray.size*k.toNat)=true:=by
  rw[GR hlen]
  exact afR
 have hnew:List.foldl (fun x1 x2=>x1++x2) #[] (List.replicate (if its.toArray.isEmpty=true then 0 else k.toNat) its.toArray)=(List.replicate k.toNat its).flatten.toArray:=by
  have f0:∀m:Nat,List.foldl (fun x1 x2=>x1++x2) #[] (List.replicate m its.toArray)=(List.replicate m its).flatten.toArray:=fun m=>by
   have:=foldl_rep its m []
   rw[afP]at this
   exact this
  rw[f0]
  cases its with
  |nil=>simp
  |cons a r'=>rw[if_neg (by simp)]
 refine wpAny_binaryOp_repeat_ref (T:="list") (U:="int") (by decide) ⟨_,e,rfl⟩ (fun s'=>typeIs_int s' k t) noFill_list_mul F.fills_int_mul F.slot_int_rmul repeat_list F.slot_int_index.lookup
  (agN F.slot_int_rmul (typeIs_int s k t) F.entry_int_rmul (F.args_int_rmul_2 _ _) (int___rmul___int_list k t l its.toArray n)
   ⟨e,rfl,⟨_,e,rfl⟩,agN F.slot_list_mul ⟨_,e,rfl⟩ F.entry_list_mul (F.args_list_mul_2 _ _) (AutoListH.list___mul___list_int_3 l its.toArray n k t hfit hcap BB) ⟨e,?_⟩⟩)
 rw[hnew]
 exact⟨.ref _,_,I.Hu (t':=s.toks) (r.rep k.toNat) (by rw[len_rep,aiu];exact hz),rfl,q _ I.fresh⟩
end
section
variable {prog:Program}{w:World}{A:Around}{E:Value→Shared→Prop}{s:Shared}
set_option maxRecDepth 100000 in
end
end L2
namespace LI
open PySem PySem.W PySem.Calls PyProof.Rows
theorem Yc{P:Params}{h:Heap}:∀(ns:List Int) (vs:List Value),WellAll P h vs (ns.map WData.int)→IntsAre vs ns:=by
 intro ns
 induction ns with
 |nil =>
  intro vs w
  rw[ahj]at w
  cases w
  exact .nil
 |cons n ns ih =>
  intro vs w
  rw[afC]at w
  cases w with
  |cons a b =>
   cases a
   exact .cons _ _ (ih _ b)
theorem OI{l:OpenLaw}{n:Nat}(hn:l.most=some n) {P:Params}{h:Heap}{args:List WData}{vals:List Value}
  (hpre:l.row.toRowW.claim.pre args=true) (hwl:WellAll P h vals args) :
  ∃a vs ns,vals=[Value.ref a]∧args=[WData.list (ns.map WData.int)]∧h.get? a=some {cls:=.type "list",data:=.seq vs.toArray}∧IntsAre vs ns∧ns.length≤n:=by
 have hsh:WShape.hasAll [] args [.list .int]=true:=(pre_splitW hpre).1
 have hc:l.pre.holds [] {args:=args}=true:=(pre_splitW hpre).2
 obtain⟨d,r,rfl,h1,h2⟩:=hasAllW_cons hsh
 obtain rfl:=hasAllW_nil h2
 obtain⟨xs,rfl,h3⟩:=hasW_list h1
 obtain⟨ns,rfl⟩:=items_int h3
 have hlen:ns.length≤n:=by
  unfold OpenLaw.pre at hc
  have h4:(WTm.not (.lt (.lit (.int (n:Int))) (.len (.arg 0)))).holds [] {args:=[.list (ns.map .int)]}=true:=by
   have h4:=(holds_andW hc).1
   rw[hn]at h4
   exact h4
  have h5:=condW_of h4 (w_not (w_lt w_lit (w_len_list (w_arg rfl))))
  rw[afy]at h5
  refine ajk fun q=>?_
  have q':(n:Int)<((ns.length:Nat):Int):=by omega
  first
   |(rw[decide_eq_true q']at h5;exact absurd h5 (by decide))
   |(simp at h5;omega)
 cases hwl with
 |cons w1 w2 =>
  cases w2
  cases w1 with
  |list ho hall=>exact⟨_,_,ns,rfl,rfl,ho,Yc ns _ hall,hlen⟩
theorem QF(l:OpenLaw) (args:List WData):l.row.toRowW.claim.post args (.bool true) args=true :=
 postW_of (r:=l.row.toRowW) (X:=(true==true))
  (show WShape.has [] (.bool true) .bool=true by first|rfl|decide|simp[WShape.has,WShape.arms,WShape.armsAll])
  (show(WTm.eq .res (.lit (.bool true))).value [] {args:=args,res:=some (.bool true),after:=args}=some (.bool (true==true))from w_eq_bool (w_res rfl) w_lit) rfl
theorem ace{l:OpenLaw}{n:Nat}{q:Program}{loose:List Str}{XP:(Str→Option Value)→Heap→Prop}{YP:World→Heap→Prop}{d:DefRec}
  (hn:l.most=some n) (hdf:d.params.defaults=[])
  (call:∀(w:World) (s₀ s₁:Shared) (mg mb:Str→Option Value) (fa:Addr) (o:Obj) (pm cd doc:Value) (a:Addr) (vs:List Value) (ns:List Int),
   Ground q loose [] XP w s₀ mg mb s₁.heap→YP w s₁.heap →
   s₁.heap.get? fa=some o→o.data=.func (docDef d.name d.params d.body d.scope pm cd doc)→s₁.heap.CodeRec cd d.name→mg d.name=some (.ref fa) →
   s₁.heap.get? a=some {cls:=.type "list",data:=.seq vs.toArray}→IntsAre vs ns→ns.length≤n→s₁.gens=#[] →
   codeAny (model l.prog w) callerA (.call (.ref fa) ⟨[.ref a],[]⟩) (fun r s'=>r=.ok (.ret (.bool true))∧OldK s₁.heap s'.heap∧s'.os=s₁.os∧AllBare s'.gens) s₁) :
  WalkO q loose XP YP l.row.toRowW d [] (fun f vs=>PySem.call f vs):=by
 intro w s₀ s₁ mg mb G Y fa o pm cd doc dV kV ho hd hcd hD hmg hg args vals as hpre hlay hrd hwl hlo
 obtain rfl:dV=.none:=Dflts.none hD hdf
 obtain rfl:kV=.none:=Dflts.noKw hD
 obtain⟨a,vs,ns,rfl,rfl,hobj,hints,hlen⟩:=OI hn hpre hwl
 refine enter_call (agw (call w s₀ s₁ mg mb fa o pm cd doc a vs ns G Y ho (fd_plain hd) hcd hmg hobj hints hlen hg) fun r s' hq=>?_)
 obtain⟨rfl,h2,h3,h4⟩:=hq
 exact⟨.inl ⟨.bool true,.bool true,[],rfl,fun _=>rfl,.bool true,QF l _,fun _=>⟨List.Pairwise.nil,fun _ hm=>(nomatch hm)⟩⟩,h2,h3,h4⟩
end LI
namespace L2
open PySem PySem.Spec PyProof.Rows
theorem EB:∀{vs:List Value}{ns:List Int},IntsAre vs ns→Vals (ns.map V.int) vs
 |_,_,.nil=>.nil
 |_,_,.cons n t h=>.cons ⟨t,rfl⟩ (EB h)
end L2
namespace L2
open PySem PySem.Spec PyProof.Rows
def bY(s:Stmt):Arguments:=match s with
 |.FunctionDef _ a _ _ _ _ _ _ _ _=>a
 |_=>{posonlyargs:=[],args:=[],vararg:=none,kwonlyargs:=[],kw_defaults:=[],kwarg:=none,defaults:=[]}
def bQ(s:Stmt):List Stmt:=match s with
 |.FunctionDef _ _ b _ _ _ _ _ _ _=>b
 |_=>[]
def aS(s:Stmt):Scope:=match s with
 |.FunctionDef _ _ _ _ _ _ sc _ _ _=>sc
 |_=>{kind:=.function,names:=[],isGenerator:=false,isCoroutine:=false}
abbrev bG:lS:=fun _ _ _ _ _ _=>False
abbrev E0:XK:=fun _ _ _=>False
theorem Sg{X:Cx}:Passes bG X E0:=fun _ _ _ _ _ _ _ h=>h.elim
structure nL (K:PySem.W.Frag) (x qual:Str) (st:Stmt) (f:Addr) (fd:FuncData):Prop where
 ex:∃(oc:Value) (od:Option Addr) (kV doc pm:Value) (an:Option Addr) (cdv ct:Value) (osl:Array (Option Value)),
  fd=PySem.W.fnOf x qual (bY st) (bQ st) (aS st) .none kV doc pm an cdv ct∧K.lookup f=some ⟨oc,od,.func fd,osl⟩∧PySem.W.codeIn K cdv qual=true
 kp:PySem.W.keepIn K (.ref f)=true
section
variable {P:Program}{w:World}{K:PySem.W.Frag}{mg:Str→Option Value}{base:Heap}
theorem nL.ok{x qual:Str}{st:Stmt}{f:Addr}{fd:FuncData}{N ps:List Str}{k:Nat}{sp:Sp}(F:nL K x qual st f fd) (S:b7 N ps (aS st)) (len:∀vs H Q E,sp vs H Q E→vs.length=ps.length)
  (hbody:∀(cdv:Value) (A:Around) (outer:List Env) (s:Shared) (H:Hp) (vs:List V) (Q:VK) (E:XK),dR k (A.deeper (envOfC qual (aS st) s.heap.objs.size f cdv))→sp vs H Q E →
   ∃t,fJ (nc bG P w K mg base N qual (aS st) f cdv A outer s H E).rZ (bQ st) t∧t {nx:=fun _ H'=>Q .aL H',rt:=Q} (start N vs) H):bF P w K mg base bG (k+1) f fd ps sp:=by
 obtain⟨oc,od,kV,doc,pm,an,cdv,ct,osl,rfl,lk,hcd⟩:=F.ex
 refine Zz lk hcd S len fun A outer s H vs Q E hr qi=>?_
 obtain⟨t,h,q⟩:=hbody cdv A outer s H vs Q E hr qi
 exact⟨t,h.rZ,q⟩
theorem nL.binds{x qual:Str}{st:Stmt}{f:Addr}{fd:FuncData}{ps:List Str}(F:nL K x qual st f fd)
  (h:∀(kV doc pm:Value) (an:Option Addr) (cdv ct:Value) (us:List Value),us.length=ps.length→bindArgs (PySem.W.fnOf x qual (bY st) (bQ st) (aS st) .none kV doc pm an cdv ct) ⟨us,[]⟩=pure (ps.zip us)):Binds K fd ps []:=by
 obtain⟨oc,od,kV,doc,pm,an,cdv,ct,osl,rfl,lk,hcd⟩:=F.ex
 exact .all (h kV doc pm an cdv ct)
theorem cC{x qual:Str}{st:Stmt}{f:Addr}{oc:Value}{od an:Option Addr}{osl:Array (Option Value)}{kV doc pm cdv ct:Value}(l:K.lookup f=some ⟨oc,od,.func (PySem.W.fnOf x qual (bY st) (bQ st) (aS st) .none kV doc pm an cdv ct),osl⟩)
  (c:PySem.W.codeIn K cdv qual=true) (k:PySem.W.keepIn K (.ref f)=true):nL K x qual st f (PySem.W.fnOf x qual (bY st) (bQ st) (aS st) .none kV doc pm an cdv ct):=⟨⟨oc,od,kV,doc,pm,an,cdv,ct,osl,rfl,l,c⟩,k⟩
end
theorem Ys{A:Around}{k:Nat}(hr:dR k A):A.units+1<cLine:=aiv (Nat.add_le_add_left (by decide:1≤64) _) hr.units
theorem kZ{A B:Prop}(h:B):if false=true then A else B:=by
 rw[if_neg afR]
 exact h
theorem kY{A B:Prop}(h:A):if true=true then A else B:=by
 rw[if_pos rfl]
 exact h
end L2
namespace L2
open PySem PySem.Spec PyProof.Rows
def eE(X:Cx) (N':List Str) (scope:Scope) (cl:List (Str×Addr)) (C:Addr) (s₀:Shared) (H₀:Hp) (ex:List Addr) (pn:List (Addr×Obj)):Cx where
 prog:=X.prog
 w:=X.w
 K:=X.K
 mg:=X.mg
 base:=X.base
 A:=X.A
 N:=N'
 s₀:=s₀
 H₀:=H₀
 env:=compEnvC scope cl C X.env
 outer:=X.stack
 stack:=X.stack
 ex:=ex
 fn:=fun x=>scope.names.lookup x==some NameKind.cell
 calm:=X.calm
 pn:=pn
 xe:=fun _ _=>False
structure bK (X:Cx) (N':List Str) (pick:List (Option Nat)) (scope:Scope):Prop where
 kind:scope.kind=.function
 nd:N'.Nodup
 names:∀x∈scope.names,x.2=.local→scope.names.lookup x.1=some .local
 uniq:(scope.names.map (·.1)).Nodup
 len:pick.length=N'.length
 got:∀(i j:Nat) (x:Str),pick[i]? = some (some j)→N'[i]? = some x→scope.names.lookup x=some .free∧X.N[j]? = some x
 free:∀x∈scope.names,x.2=.free→X.env.kindOf x.1=some .cell∨X.env.kindOf x.1=some .free
def ji(pick:List (Option Nat)) (σ:St):St:=pick.map fun o=>o.bind fun j=>(σ[j]?).bind id
def nJ(X:Cx) (ifs:List Expr) (t:TT):Prop :=
 ∀(pins:List (Addr×Obj)) (s:Shared) (σ:St) (H:Hp) (Q:Bool→Hp→Prop),Inv X pins σ H s→t σ H Q →
  wpAny (model X.prog X.w) X.A (forIn ifs true fun c r=>if r=true then do let ok ←isTrue c X.env (eval c X.env);pure (ForInStep.yield ok)else pure (ForInStep.yield r)) (TP X pins σ Q) X.xe s
def MQ:TT:=fun _ H Q=>Q true H
theorem Rr{X:Cx}:nJ X [] MQ:=fun pins s σ H Q I h=>wpAny_tests_nil ⟨H,I,h⟩
theorem Rq{X:Cx}{c:Expr}{t:TT}(h:PT X c t):nJ X [c] t:=fun pins s σ H Q I q=>wpAny_tests_one (h pins s σ H Q I q)
def LH(J:It) (g:TG) (tt:TT) (te:TE) (Q:VK) (σ:St) (H:Hp):Prop:=∃W:Nat→Nat→St→List V→Hp→Prop,(∃m,W 0 m σ [] H) ∧
  ∀i m σ' ys H,W i m σ' ys H→ys.length<sizeLine ∧
    ((J.stop i H∧∀p,H p=none→Q (.ref p) (upd H p (.lst ys))) ∨
     (J.go i H∧∃N:St→List V→Hp→Prop,(∀σ2 zs H2,N σ2 zs H2→∃m',m'<m∧W (i+1) m' σ2 zs H2)∧∀x H',J.rA i H x H'→g x σ' H' fun σ2 H2=>tt σ2 H2 fun b H3 =>
        if b=true then te σ2 H3 fun y H4=>N σ2 (ys++[y]) H4 else N σ2 ys H3))
def yE(wi:TI) (pick:List (Option Nat)) (g:TG) (tt:TT) (te:TE):TE:=fun σ H Q=>wi σ H fun J H1=>LH J g tt te Q (ji pick σ) H1
def eS(env:Env):List (Str×NameKind)→List (Str×Addr)→List (Str×Addr)
 |[],acc=>acc
 |(n,k)::r,acc=>eS env r (if(k==NameKind.free)=true then(n,(env.cells.lookup n).getD 0)::acc else acc)
theorem D7{env:Env}:∀(names:List (Str×NameKind)) (acc:List (Str×Addr)),(∀x∈names,x.2=.free→∃c,env.cells.lookup x.1=some c) →
  (forIn names acc fun(x:Str×NameKind) cs=>(if(x.2==NameKind.free)=true then do let a ←cellOf env x.1;pure (ForInStep.yield ((x.1,a)::cs))else pure (ForInStep.yield cs):Sem (ForInStep (List (Str×Addr)))))=pure (eS env names acc)
 |[],acc,_=>rfl
 |(n,k)::r,acc,h=>by
  rw[agX]
  by_cases hk:(k==NameKind.free)=true
  ·obtain⟨c,hc⟩:=h (n,k) aga (by simpa using hk)
   have e1:cellOf env n=pure c:=by unfold cellOf;rw[show env.cells.lookup n=some c from hc]
   simp only[hk,if_true,e1,pure_bind]
   rw[D7 r _ fun x hx=>h x (af5 _ hx)]
   show _=pure (eS env r (if(k==NameKind.free)=true then _ else _))
   rw[if_pos hk,show env.cells.lookup n=some c from hc]
   rfl
  ·simp only[hk,af0,if_false,pure_bind]
   rw[D7 r _ fun x hx=>h x (af5 _ hx)]
   show _=pure (eS env r (if(k==NameKind.free)=true then _ else _))
   rw[if_neg hk]
theorem KU{env:Env}{x:Str}{c:Addr}:∀(names:List (Str×NameKind)) (acc:List (Str×Addr)),(eS env names acc).lookup x=some c →
  ((x,NameKind.free)∈names∧c=(env.cells.lookup x).getD 0)∨acc.lookup x=some c
 |[],acc,h=>.inr h
 |(n,k)::r,acc,h=>by
  unfold eS at h
  rcases KU r _ h with⟨a,b⟩|q
  ·exact .inl ⟨af5 _ a,b⟩
  ·by_cases hk:(k==NameKind.free)=true
   ·rw[if_pos hk,agc]at q
    cases hx:x==n with
    |true =>
     rw[hx]at q
     have e1:x=n:=by simpa using hx
     have e2:k=.free:=by simpa using hk
     subst e1;subst e2
     exact .inl ⟨aga,(afN q).symm⟩
    |false=>rw[hx]at q;exact .inr q
   ·rw[if_neg hk]at q;exact .inr q
theorem KW{env:Env}{x:Str}:∀(names:List (Str×NameKind)) (acc:List (Str×Addr)),(acc.lookup x).isSome=true∨(x,NameKind.free)∈names→((eS env names acc).lookup x).isSome=true
 |[],acc,h=>h.elim id fun z=>by cases z
 |(n,k)::r,acc,h=>by
  unfold eS
  refine KW r _ ?_
  by_cases hk:(k==NameKind.free)=true
  ·rw[if_pos hk,agc]
   cases hx:x==n with
   |true=>exact .inl rfl
   |false =>
    refine h.imp id fun z=>?_
    rcases afv.mp z with e|z
    ·exact absurd (show(x==n)=true by cases e;simp) (by rw[hx];simp)
    ·exact z
  ·rw[if_neg hk]
   refine h.imp id fun z=>?_
   rcases afv.mp z with e|z
   ·exact absurd (show(k==NameKind.free)=true by cases e;rfl) hk
   ·exact z
theorem De{x:Str}{c:Addr}:∀(names:List (Str×NameKind)) (n:Nat) (acc:List (Str×Addr)),(cellsFrom n names acc).lookup x=some c→(n≤c∧(x,NameKind.cell)∈names)∨acc.lookup x=some c
 |[],_,_,h=>.inr h
 |(y,k)::r,n,acc,h=>by
  unfold cellsFrom at h
  by_cases hk:(k==NameKind.cell)=true
  ·rw[if_pos hk]at h
   rcases De r _ _ h with⟨a,b⟩|q
   ·exact .inl ⟨afL (agW _) a,af5 _ b⟩
   ·rw[agc]at q
    cases hx:x==y with
    |true =>
     rw[hx]at q
     have e1:x=y:=by simpa using hx
     have e2:k=.cell:=by simpa using hk
     subst e1;subst e2
     exact .inl ⟨agY (afN q),aga⟩
    |false=>rw[hx]at q;exact .inr q
  ·rw[if_neg hk]at h
   rcases De r _ _ h with⟨a,b⟩|q
   ·exact .inl ⟨a,af5 _ b⟩
   ·exact .inr q
theorem Dd:∀(names:List (Str×NameKind)) (n:Nat) (acc:List (Str×Addr)),(∀x y c,acc.lookup x=some c→acc.lookup y=some c→x=y)→(∀x c,acc.lookup x=some c→c<n) →
  ∀x y c,(cellsFrom n names acc).lookup x=some c→(cellsFrom n names acc).lookup y=some c→x=y
 |[],_,_,hi,_,x,y,c,h1,h2=>hi x y c h1 h2
 |(z,k)::r,n,acc,hi,hl,x,y,c,h1,h2=>by
  unfold cellsFrom at h1 h2
  by_cases hk:(k==NameKind.cell)=true
  ·rw[if_pos hk]at h1 h2
   refine Dd r (n+1) ((z,n)::acc) (fun x y c e1 e2=>?_) (fun x c e=>?_) x y c h1 h2
   ·rw[agc]at e1 e2
    cases hx:x==z with
    |true =>
     rw[hx]at e1
     cases hy:y==z with
     |true=>exact(by simpa using hx:x=z).trans (by simpa using hy:y=z).symm
     |false =>
      rw[hy]at e2
      have e3:n=c:=afN e1
      exact absurd (e3▸hl y c e2) (agf _)
    |false =>
     rw[hx]at e1
     cases hy:y==z with
     |true =>
      rw[hy]at e2
      have e3:n=c:=afN e2
      exact absurd (e3▸hl x c e1) (agf _)
     |false=>rw[hy]at e2;exact hi x y c e1 e2
   ·rw[agc]at e
    cases hx:x==z with
    |true=>rw[hx]at e;have e3:n=c:=afN e;exact e3▸agx n
    |false=>rw[hx]at e;exact agp (hl x c e)
  ·rw[if_neg hk]at h1 h2
   exact Dd r n acc hi hl x y c h1 h2
theorem Df{x:Str}{c:Addr}:∀(names:List (Str×NameKind)) (h:Heap) (acc:List (Str×Addr)),(cellsFrom h.objs.size names acc).lookup x=some c→acc.lookup x=some c∨(h.objs.size≤c∧(pushCells h names).IsCell c none)
 |[],_,_,e=>.inl e
 |(y,k)::r,h,acc,e=>by
  unfold cellsFrom at e
  unfold pushCells
  by_cases hk:(k==NameKind.cell)=true
  ·rw[if_pos hk]at e ⊢
   have e':=e
   rw[show h.objs.size+1=(h.push {cls:=.type "cell",data:=.cell none}).objs.size from(afV ..).symm]at e'
   rcases Df r _ _ e' with q|⟨a,q⟩
   ·rw[agc]at q
    cases hx:x==y with
    |true =>
     rw[hx]at q
     have e3:h.objs.size=c:=afN q
     subst e3
     exact .inr ⟨afs _,_,aiw _ _ _ _ (afI _ rfl),rfl⟩
    |false=>rw[hx]at q;exact .inl q
   ·refine .inr ⟨?_,q⟩
    rw[afV]at a
    omega
  ·rw[if_neg hk]at e ⊢
   exact Df r h acc e
theorem Me{M:Model}{A:Around}{E:Value→Shared→Prop}{s:Shared}{scope:Scope}{globals:Addr}{cl:List (Str×Addr)}{qual:Str}{env:Env}{Q:Env→Shared→Prop}
  (hQ:∀h',(∀b o,s.heap.get? b=some o→h'.get? b=some o)→h'.Ns s.heap.objs.size (fun _=>none) →
   (∀x c,(cellsFrom (s.heap.objs.size+1) scope.names cl).lookup x=some c→cl.lookup x=some c∨(s.heap.objs.size<c∧h'.IsCell c none)) →
   Q {scope,locals:=s.heap.objs.size,globals,cells:=cellsFrom (s.heap.objs.size+1) scope.names cl,qual,func:=none,code:=env.code,frame:=env.frame,builtins:=env.builtins} {s with heap:=h'}) :
  wpAny M A (newFunctionEnv scope globals cl [] qual none .none (some env)) Q E s:=by
 simp only[newFunctionEnv,Option.isSome_some,if_true]
 refine afq (wpAny_alloc ?_)
 refine afq (wpAny_layCells _ (fun name kind cells=>by cases hkc:kind==NameKind.cell<;>simp[hkc]) _ _ _ _ ?_)
 rw[show({s with heap:=s.heap.push {cls:=.type "dict",data:=.dict #[]} }:Shared).heap.objs.size=s.heap.objs.size+1 from afV ..]
 refine afq (afr (afr ?_))
 refine hQ _ (fun b o e=>aiw _ _ b o (afw _ e)) ((Heap.Ns.new s.heap (.type "dict")).keeps (aiw _ _)) fun x c e=>?_
 have e':=e
 rw[show s.heap.objs.size+1=(s.heap.push {cls:=.type "dict",data:=.dict #[]}).objs.size from(afV ..).symm]at e'
 rcases Df scope.names (s.heap.push {cls:=.type "dict",data:=.dict #[]}) cl e' with q|⟨a,q⟩
 ·exact .inl q
 ·refine .inr ⟨?_,q⟩
  rw[afV]at a
  omega
end L2
namespace L2
open PySem PySem.Spec PyProof.Rows
theorem uL{env:Env}{x:Str}{k':NameKind}:∀{names:List (Str×NameKind)},(names.map fun(n,k)=>if(k==NameKind.free&&env.scope.kind == .function&&env.kindOf n==some .cell)then(n,NameKind.cell)else(n,k)).lookup x=some k' →
  ∃k,names.lookup x=some k∧(k'=k∨(k=.free∧k'=.cell))
 |[],h=>by cases h
 |(n,k)::r,h=>by
  rw[afC]at h
  by_cases hc:(k==NameKind.free&&env.scope.kind == .function&&env.kindOf n==some .cell)=true
  ·have e:(match((n,k):Str×NameKind)with|(n,k)=>if(k==NameKind.free&&env.scope.kind == .function&&env.kindOf n==some .cell)then(n,NameKind.cell)else(n,k))=(n,NameKind.cell):=if_pos hc
   rw[e,agc]at h
   rw[agc]
   cases hx:x==n with
   |true =>
    rw[hx]at h
    have hk:k=.free:=by
     simp only[afE]at hc
     simpa using hc.1.1
    exact⟨k,rfl,.inr ⟨hk,(afN h).symm⟩⟩
   |false=>rw[hx]at h;exact uL h
  ·have e:(match((n,k):Str×NameKind)with|(n,k)=>if(k==NameKind.free&&env.scope.kind == .function&&env.kindOf n==some .cell)then(n,NameKind.cell)else(n,k))=(n,k):=if_neg hc
   rw[e,agc]at h
   rw[agc]
   cases hx:x==n with
   |true=>rw[hx]at h;exact⟨k,rfl,.inl (afN h).symm⟩
   |false=>rw[hx]at h;exact uL h
theorem yY{env:Env}{x:Str}{k:NameKind}:∀{names:List (Str×NameKind)},names.lookup x=some k →
  ∃k',(names.map fun(n,k)=>if(k==NameKind.free&&env.scope.kind == .function&&env.kindOf n==some .cell)then(n,NameKind.cell)else(n,k)).lookup x=some k'∧(k'=k∨(k=.free∧k'=.cell))
 |[],h=>by cases h
 |(n,j)::r,h=>by
  rw[afC]
  rw[agc]at h
  by_cases hc:(j==NameKind.free&&env.scope.kind == .function&&env.kindOf n==some .cell)=true
  ·have e:(match((n,j):Str×NameKind)with|(n,k)=>if(k==NameKind.free&&env.scope.kind == .function&&env.kindOf n==some .cell)then(n,NameKind.cell)else(n,k))=(n,NameKind.cell):=if_pos hc
   rw[e,agc]
   cases hx:x==n with
   |true =>
    rw[hx]at h
    have hk:j=.free:=by
     simp only[afE]at hc
     simpa using hc.1.1
    exact⟨.cell,rfl,.inr ⟨(afN h).symm.trans hk,rfl⟩⟩
   |false=>rw[hx]at h;exact yY h
  ·have e:(match((n,j):Str×NameKind)with|(n,k)=>if(k==NameKind.free&&env.scope.kind == .function&&env.kindOf n==some .cell)then(n,NameKind.cell)else(n,k))=(n,j):=if_neg hc
   rw[e,agc]
   cases hx:x==n with
   |true=>rw[hx]at h;exact⟨j,rfl,.inl (afN h)⟩
   |false=>rw[hx]at h;exact yY h
theorem zQ{x:Str}{k:NameKind}:∀{names:List (Str×NameKind)},(names.map (·.1)).Nodup→(x,k)∈names→names.lookup x=some k
 |[],_,h=>by cases h
 |(n,j)::r,nd,h=>by
  have nd:(n::r.map (·.1)).Nodup:=nd
  obtain⟨n1,n2⟩:=agE.mp nd
  rw[agc]
  rcases afv.mp h with e|h2
  ·cases e;simp
  ·have hx:(x==n)=false:=by
    have:x≠n:=by
     intro e
     exact n1 (afx.mpr ⟨(x,k),h2,e⟩)
    simpa using this
   rw[hx];exact zQ n2 h2
theorem abA{prog:Program}{w:World}{A:Around}{R:Result→Shared→Prop}{s:Shared}{elt target iter:Expr}{ifs:List Expr}{scope:Scope}{pos:Pos}{it acc:Value}{env:Env}(I:Nat→Shared→Prop)
  (turn:∀n s,I n s→wpAny (model prog w) A (pyNext it) (fun r s₁=>match r with
   |none=>R (.ok .next) s₁
   |some v=>wpAny (model prog w) A (letOwnedTupleGo target it v) (fun _ s₁'=>wpAny (model prog w) A (assign target env v) (fun _ s₂ =>
     wpAny (model prog w) A (forIn ifs true fun c r=>if r=true then do let ok ←isTrue c env (eval c env);pure (ForInStep.yield ok)else pure (ForInStep.yield r)) (fun ok s₃ =>
      if ok=true then wpAny (model prog w) A (eval elt env) (fun x s₄ =>
       wpAny (model prog w) A (call (.builtin "list.append") [acc,x]) (fun _ s₅=>∃m,m<n∧I m s₅) (fun _ _=>False) s₄) (fun _ _=>False) s₃
      else ∃m,m<n∧I m s₃) (fun _ _=>False) s₂) (fun _ _=>False) s₁') (fun _ _=>False) s₁) (fun _ _=>False) s)
  (n:Nat) (h:I n s) :
  codeAny (model prog w) A (.compLoop (.ListComp elt [⟨target,iter,ifs,0⟩] scope pos) 0 it acc env) R s:=by
 refine codeAny_loop rfl I (fun n s hI=>?_) n h
 show wpAny _ A ((compTurn (.ListComp elt [⟨target,iter,ifs,0⟩] scope pos) 0 it acc env).onRaise (fun x=>do noteFrame x env;theTreesLotGoes x)) _ _ s
 refine wpAny_noted ?_
 rw[compTurn_list]
 refine afq (aib (afq (af6 (turn n s hI) (fun r s₁ h₁=>?_) fun _ _ h'=>h'.elim)))
 cases r with
 |none=>exact afr h₁
 |some v =>
  refine afq (af6 h₁ (fun _ s₁' h₁'=>?_) fun _ _ h'=>h'.elim)
  refine afq (af6 h₁' (fun _ s₂ h₂=>afq (af6 h₂ (fun ok s₃ h₃=>?_) fun _ _ h'=>h'.elim)) fun _ _ h'=>h'.elim)
  cases ok with
  |false=>exact afr ⟨rfl,h₃⟩
  |true =>
   exact afq (afq (af6 h₃ (fun x s₄ h₄=>afq (af6 h₄ (fun _ s₅ h₅=>afr (afr ⟨rfl,h₅⟩)) fun _ _ h'=>h'.elim)) fun _ _ h'=>h'.elim))
section
variable {X:Cx}{N':List Str}{pick:List (Option Nat)}{scope:Scope}{pins:List (Addr×Obj)}{σ:St}{H₂:Hp}{s₂:Shared}{tg:Expr}{J:It}{fp:List Addr}{it:Addr}{tn:Nat→Heap→Prop}
theorem JN(S:bK X N' pick scope) (I:Inv X pins σ H₂ s₂):closureFor scope X.env=pure (eS X.env scope.names []):=by
 have e:=D7 (env:=X.env) scope.names [] fun x hx hk=>I.ok.has x.1 (S.free x hx hk)
 show((forIn scope.names ([]:List (Str×Addr)) fun(x:Str×NameKind) cs=>(if(x.2==NameKind.free)=true then do let a ←cellOf X.env x.1;pure (ForInStep.yield ((x.1,a)::cs))else pure (ForInStep.yield cs):Sem (ForInStep (List (Str×Addr))))) >>= fun cs=>pure cs)=_
 rw[e,pure_bind]
theorem tV(S:bK X N' pick scope) (I:Inv X pins σ H₂ s₂) {x:Str}{c:Addr}(h:(eS X.env scope.names []).lookup x=some c):(x,NameKind.free)∈scope.names∧X.env.cells.lookup x=some c:=by
 rcases KU _ _ h with⟨a,b⟩|q
 ·refine⟨a,?_⟩
  obtain⟨c',hc⟩:=I.ok.has x (S.free _ a rfl)
  rw[hc]at b ⊢
  rw[b];rfl
 ·cases q
theorem tR(S:bK X N' pick scope) (I:Inv X pins σ H₂ s₂) {n:Nat}{x:Str}{c:Addr}(h:(cellsFrom n scope.names (eS X.env scope.names [])).lookup x=some c) :
  (n≤c∧scope.names.lookup x=some .cell)∨(scope.names.lookup x=some .free∧X.env.cells.lookup x=some c):=by
 rcases De _ _ _ h with⟨a,b⟩|q
 ·exact .inl ⟨a,zQ S.uniq b⟩
 ·obtain⟨a,b⟩:=tV S I q
  exact .inr ⟨zQ S.uniq a,b⟩
theorem JP(S:bK X N' pick scope) (I:Inv X pins σ H₂ s₂) {n:Nat}{x:Str}{c:Addr}(hx:scope.names.lookup x=some .free) (hc:X.env.cells.lookup x=some c) :
  (cellsFrom n scope.names (eS X.env scope.names [])).lookup x=some c:=by
 have h1:((eS X.env scope.names []).lookup x).isSome=true:=KW _ _ (.inr (agF hx))
 obtain⟨c',h2⟩:=aij.mp (ahJ scope.names n _ (.inr h1))
 rcases tR S I h2 with⟨_,z⟩|⟨_,z⟩
 ·rw[hx]at z;cases z
 ·rw[hc]at z;cases z;exact h2
theorem Zo(I:Inv X pins σ H₂ s₂) {b:Addr}(hb:b∈frs X.stack):b<s₂.heap.objs.size:=by
 rcases afv.mp (I.nU b hb)with e|hb
 ·rw[e];exact I.lt
 ·by_cases q:b<s₂.heap.objs.size
  ·exact q
  ·exact absurd hb (I.zw (Nat.not_lt.mp q))
theorem aby(S:bK X N' pick scope) (I:Inv X pins σ H₂ s₂) (hf:∀b∈fp,fu X pins H₂ b) (hfo:∀b∈fp,b<s₂.heap.objs.size) {n:Nat}{C:Addr}{s₄:Shared}(hn:s₂.heap.objs.size≤n) (hC:s₂.heap.objs.size≤C) (hCn:C<n)
  (hos:s₄.os=s₂.os) (hge:s₄.gens=s₂.gens) (kp:∀b o,s₂.heap.get? b=some o→s₄.heap.get? b=some o) (ns:s₄.heap.Ns C fun _=>none)
  (ce:∀x c,(cellsFrom n scope.names (eS X.env scope.names [])).lookup x=some c→(eS X.env scope.names []).lookup x=some c∨(n≤c∧s₄.heap.IsCell c none)) :
  Inv (eE X N' scope (cellsFrom n scope.names (eS X.env scope.names [])) C s₂ H₂ fp (X.pn++pins)) [] (ji pick σ) H₂ s₄:=by
 have fr:∀{a:Addr},s₂.heap.objs.size≤a→H₂ a=none:=fun h=>I.hok.fresh h
 have old:∀{x:Str}{c:Addr},X.env.cells.lookup x=some c→c<s₂.heap.objs.size:=fun{x c} e=>let⟨v,z⟩:=I.cell x c e;z.lt
 have QG:∀p∈X.pn++pins,p.1<s₂.heap.objs.size:=fun p hp=>afA (I.pin p hp).1
 refine⟨⟨I.ok.mod,S.kind,I.ok.glob,I.ok.blt,hC,?inj,?has,?nj,I.ok.hd,I.ok.frames,.inl rfl,?tF,I.bs,afL I.ok.jc I.sz,?jn,?qq,I.stack,I.E9⟩,
  hos,by rw[hge];exact I.bare,Un.kept kp,⟨_,ns,?loc⟩,?cell,fr hC,?gY,?pin,I.hok.kept kp,?len⟩
 case inj =>
  refine Dd _ _ _ (fun x y c h1 h2=>?_) fun x c h=>?_
  ·exact I.ok.inj x y c (tV S I h1).2 (tV S I h2).2
  ·exact afH (old (tV S I h).2) hn
 case has =>
  intro x hx
  have hx:(relabel scope X.env).names.lookup x=some .cell∨(relabel scope X.env).names.lookup x=some .free:=hx
  have go:∀k,scope.names.lookup x=some k→k=.cell∨k=.free→∃c,(cellsFrom n scope.names (eS X.env scope.names [])).lookup x=some c:=fun k hk hq=>by
   rcases hq with rfl|rfl
   ·exact aij.mp (ahJ _ _ _ (.inl hk))
   ·obtain⟨c,hc⟩:=I.ok.has x (S.free _ (agF hk) rfl)
    exact⟨c,JP S I hk hc⟩
  rcases hx with hx|hx
  ·obtain⟨k,hk,e|⟨e,_⟩⟩:=uL hx
   ·exact go k hk (.inl e.symm)
   ·exact go k hk (.inr e)
  ·obtain⟨k,hk,e|⟨_,e⟩⟩:=uL hx
   ·exact go k hk (.inr e.symm)
   ·cases e
 case nj =>
  intro x c hx hc
  have hx:scope.names.lookup x=some .cell:=by simpa[eE]using hx
  rcases tR S I hc with⟨a,_⟩|⟨a,_⟩
  ·exact afL hn a
  ·rw[hx]at a;cases a
 case tF =>
  intro b hb
  refine⟨afB (afH (hfo b hb) hC),fun x c hc=>?_⟩
  rcases tR S I hc with⟨a,_⟩|⟨_,a⟩
  ·exact agm (afH (hfo b hb) (afL hn a))
  ·exact(hf b hb).2.2.2.2.1 x c a
 case jn =>
  intro b o e hb
  rcases(hf b hb).2.2.2.1 with z|z
  ·exact I.ok.jn b o e z
  ·exact absurd (afH (afA e) (afL I.ok.jc z)) (agf _)
 case qq =>
  intro b hb hs
  rcases afv.mp (I.nU b hs)with e|e
  ·exact(hf b hb).2.1 e
  ·exact(hf b hb).2.2.1 e
 case loc =>
  intro i x v h1 h2 h3
  have h1:N'[i]? = some x:=h1
  have hp:∃j,pick[i]? = some (some j)∧σ[j]? = some (some v):=by
   unfold ji at h2
   rw[afS]at h2
   cases e:pick[i]? with
   |none=>rw[e]at h2;cases h2
   |some o =>
    rw[e]at h2
    cases o with
    |none=>cases h2
    |some j =>
     refine⟨j,rfl,?_⟩
     have h2':(σ[j]?).bind id=some v:=afN h2
     cases e2:σ[j]? with
     |none=>rw[e2]at h2';cases h2'
     |some q=>rw[e2]at h2';exact congrArg some h2'
  obtain⟨j,hj,hv⟩:=hp
  obtain⟨hfr,hN⟩:=S.got i j x hj h1
  have hk:=S.free _ (agF hfr) rfl
  obtain⟨m,hm,hl⟩:=I.loc
  obtain⟨u,ru,lk⟩:=hl j x v hN hv (.inr hk)
  refine⟨u,ru,?_⟩
  rcases lk with⟨z,_⟩|⟨_,c,hc,hcell⟩
  ·rcases hk with q|q<;>(rw[show X.env.kindOf x=_ from z]at q;cases q)
  ·refine .inr ⟨?_,c,JP S I hfr hc,hcell.keeps kp⟩
   show(relabel scope X.env).names.lookup x=some .cell∨(relabel scope X.env).names.lookup x=some .free
   obtain⟨k',hk',e|⟨_,e⟩⟩:=yY (env:=X.env) hfr
   ·exact .inr (by rw[←e];exact hk')
   ·exact .inl (by rw[←e];exact hk')
 case cell =>
  intro x c hc
  rcases ce x c hc with z|⟨_,z⟩
  ·obtain⟨v,q⟩:=I.cell x c (tV S I z).2
   exact⟨v,q.keeps kp⟩
  ·exact⟨none,z⟩
 case gY =>
  intro x c hc
  rcases tR S I hc with⟨a,_⟩|⟨_,a⟩
  ·exact fr (afL hn a)
  ·exact I.gY x c a
 case pin =>
  intro p hp
  have hp:p∈X.pn++pins:=by simpa[eE]using hp
  obtain⟨e,n0,ne,nf,d⟩:=I.pin p hp
  refine⟨kp _ _ e,n0,afB (afH (QG p hp) hC),fun z=>?_,d⟩
  rcases afv.mp (I.nU _ z)with e|e
  ·exact ne e
  ·exact nf e
 case len =>
  unfold ji
  rw[afy]
  exact S.len
end
end L2
namespace L2
open PySem PySem.Spec PyProof.Rows
section
variable {X:Cx}{N':List Str}{pick:List (Option Nat)}{scope:Scope}{pins:List (Addr×Obj)}{σ:St}{H₂:Hp}{s₂:Shared}{tg:Expr}{J:It}{fp:List Addr}{it:Addr}{tn:Nat→Heap→Prop}
 {elt iter:Expr}{ifs:List Expr}{pos:Pos}{g:TG}{tt:TT}{te:TE}
theorem JI{E:Value→Shared→Prop}{RR:Value→Addr→Result→Shared→Prop}{Qv:V→Hp→Prop}(S:bK X N' pick scope) (hc:X.calm=true) (gE:Inv X pins σ H₂ s₂) (T:Turn X.prog X.w X.K tg J fp it tn) (st:tn 0 s₂.heap) (hf:∀b∈fp,fu X pins H₂ b)
    (hg:∀cl C s₀ H₀ ex pn,PG (eE X N' scope cl C s₀ H₀ ex pn) tg g) (hi:∀cl C s₀ H₀ ex pn,nJ (eE X N' scope cl C s₀ H₀ ex pn) ifs tt) (he:∀cl C s₀ H₀ ex pn,PE (eE X N' scope cl C s₀ H₀ ex pn) elt te)
    {W:Nat→Nat→St→List V→Hp→Prop}{m0:Nat}(h0:W 0 m0 (ji pick σ) [] H₂)
    (turn:∀i m σ' ys H,W i m σ' ys H→ys.length<sizeLine ∧
      ((J.stop i H∧∀p,H p=none→Qv (.ref p) (upd H p (.lst ys))) ∨
       (J.go i H∧∃N:St→List V→Hp→Prop,(∀σ2 zs H2,N σ2 zs H2→∃m',m'<m∧W (i+1) m' σ2 zs H2)∧∀x H',J.rA i H x H'→g x σ' H' fun σ2 H2=>tt σ2 H2 fun b H3 =>
          if b=true then te σ2 H3 fun y H4=>N σ2 (ys++[y]) H4 else N σ2 ys H3)))
    (fin:∀(D C:Addr) (H':Hp) (s':Shared) (m:Str→Option Value),Inv X pins σ H' s'→fu X pins H' C→s'.heap.Ns C m→Qv (.ref D) H'→RR (.ref D) C (.ok .next) s') :
    wpAny (model X.prog X.w) X.A (newList []) (fun acc s₃=>wpAny (model X.prog X.w) X.A (newFunctionEnv scope X.env.globals (eS X.env scope.names []) [] X.env.qual none .none (some X.env)) (fun cenv s₄ =>
      codeAny (model X.prog X.w) X.A (.compStart (.ListComp elt [⟨tg,iter,ifs,0⟩] scope pos) 0 (.ref it) acc {cenv with scope:=relabel scope X.env}) (RR acc cenv.locals) s₄) E s₃) E s₂:=by
  have hfo:∀b∈fp,b<s₂.heap.objs.size:=fun b hb=>let⟨o,e,_⟩:=T.obj 0 _ st b hb;afA e
  refine agZ (Me fun h₄ kp ns ce=>?_)
  generalize BN:s₂.heap.push {cls:=.type "list",dict:=none,data:=.seq ([]:List Value).toArray}=H3 at kp ns ce ⊢
  have hC:H3.objs.size=s₂.heap.objs.size+1:=by rw[←BN,afV]
  have sE:∀b o,s₂.heap.get? b=some o→h₄.get? b=some o:=fun b o e=>kp b o (BN▸afw _ e)
  have hD:h₄.get? s₂.heap.objs.size=some {cls:=.type "list",data:=.seq ([]:List Value).toArray}:=kp _ _ (BN▸afI _ rfl)
  have lB:s₂.heap.objs.size≤H3.objs.size:=by rw[hC];exact agW _
  have hDC:s₂.heap.objs.size≠H3.objs.size:=by rw[hC];exact afB (agx _)
  generalize hcl:cellsFrom (H3.objs.size+1) scope.names (eS X.env scope.names [])=cl at ce
  have Eh:Inv (eE X N' scope cl H3.objs.size s₂ H₂ fp (X.pn++pins)) [] (ji pick σ) H₂ {s₂ with heap:=h₄}:=by
    subst hcl
    exact aby S gE hf hfo (n:=H3.objs.size+1) (afL lB (agW _)) lB (agx _) rfl rfl sE ns fun x c e=>ce x c e
  have YT:∀x c,cl.lookup x=some c→c≠s₂.heap.objs.size:=fun x c e=>by
    subst hcl
    rcases tR S gE e with⟨a,_⟩|⟨_,a⟩
    · refine agm (afH ?_ a)
      rw[hC]
      exact agp (agx _)
    · obtain⟨v,z⟩:=gE.cell x c a
      exact afB z.lt
  have YS:∀x c,X.env.cells.lookup x=some c→c≠H3.objs.size:=fun x c e=>by
    obtain⟨v,z⟩:=gE.cell x c e
    exact afB (afH z.lt lB)
  generalize ff:eE X N' scope cl H3.objs.size s₂ H₂ fp (X.pn++pins)=X' at Eh
  have uo:X'.prog=X.prog:=by subst ff;rfl
  have xw:X'.w=X.w:=by subst ff;rfl
  have xK:X'.K=X.K:=by subst ff;rfl
  have xA:X'.A=X.A:=by subst ff;rfl
  have Er:X'.calm=true:=by subst ff;exact hc
  have uq:X'.env.locals=H3.objs.size:=by subst ff;rfl
  have LW:X'.env.cells=cl:=by subst ff;rfl
  have LV:X'.env=compEnvC scope cl H3.objs.size X.env:=by subst ff;rfl
  have ym:X'.fs=frs X.stack:=by subst ff;rfl
  have yo:X'.ex=fp:=by subst ff;rfl
  have yk:X'.s₀=s₂:=by subst ff;rfl
  have Ep:X'.pn=X.pn++pins:=by subst ff;rfl
  have LS:X'.xe=fun _ _=>False:=by subst ff;rfl
  have Mc:X'.H₀=H₂:=by subst ff;rfl
  have hg':PG X' tg g:=by subst ff;exact hg _ _ _ _ _ _
  have hi':nJ X' ifs tt:=by subst ff;exact hi _ _ _ _ _ _
  have he':PE X' elt te:=by subst ff;exact he _ _ _ _ _ _
  have lX:∀{H':Hp}{pl:List (Addr×Obj)},(∀b∈fp,H' b=none)→(∀p∈pl,s₂.heap.objs.size≤p.1)→∀b∈fp,fu X' pl H' b:=fun{H' pl} hn hp b hb=>by
    have hlt:=hfo b hb
    obtain⟨_,f1,f2,f3,f4,f5⟩:=hf b hb
    refine⟨hn b hb,by rw[uq];exact afB (afH hlt lB),?_,.inl (by rw[yo];exact hb),fun x c e=>?_,fun p gv=>?_⟩
    · rw[ym]
      intro z
      rcases afv.mp (gE.nU b z)with e|e
      · exact f1 e
      · exact f2 e
    · have:=Eh.ok.tF b (by rw[yo];exact hb)
      exact this.2 x c e
    · rcases af3.mp gv with z|z
      · rw[Ep]at z;exact f5 p z
      · exact agm (afH hlt (hp p z))
  have F5:∀{H':Hp}{s':Shared}{σ':St}{o:Obj},Inv X' [] σ' H' s'→s'.heap.get? s₂.heap.objs.size=some o→H' s₂.heap.objs.size=none→(∀v,o.data≠.cell v)→Inv X' [(s₂.heap.objs.size,o)] σ' H' s':=fun{H' s' σ' o} I e hn hnc =>
    I.uQ fun p hp=>by
      obtain rfl:p=(s₂.heap.objs.size,o):=by simpa using hp
      refine⟨e,hn,by rw[uq];exact hDC,?_,hnc⟩
      rw[ym]
      intro z
      exact absurd (Zo gE z) (agf _)
  have xS:H₂ s₂.heap.objs.size=none:=gE.hok.fresh (afs _)
  let Iv:Nat→Shared→Prop:=fun n s'=>∃(i:Nat) (σ':St) (ys:List V) (H':Hp) (its:List Value) (k:Nat),Inv X' [(s₂.heap.objs.size,{cls:=.type "list",data:=.seq its.toArray k})] σ' H' s'∧Vals ys its∧tn i s'.heap∧(∀b∈fp,H' b=none)∧W i n σ' ys H'
  have loop:codeAny (model X.prog X.w) X.A (.compLoop (.ListComp elt [⟨tg,iter,ifs,0⟩] scope pos) 0 (.ref it) (.ref s₂.heap.objs.size) X'.env) (RR (.ref s₂.heap.objs.size) H3.objs.size) {s₂ with heap:=h₄}:=by
    refine abA Iv ?_ m0 ⟨0,_,[],H₂,[],_,F5 Eh hD xS (fun v q=>nomatch q),.nil,T.keep _ _ _ st fun b _ o e=>sE b o e,fun b hb=>(hf b hb).1,h0⟩
    rintro n s5 ⟨i,ud,ys,H5,its,k,I5,rv,iu,vL,w5⟩
    obtain⟨hlen,tr⟩:=turn i n ud ys H5 w5
    have p5:∀{o:Obj},∀p∈[(s₂.heap.objs.size,o)],s₂.heap.objs.size≤p.1:=fun{o} p hp=>by
      obtain rfl:p=(s₂.heap.objs.size,o):=by simpa using hp
      exact afs _
    rw[←xA]
    rcases tr with⟨stop,qf⟩|⟨go,N,hN,step⟩
    · have dn:=T.done X' uo xw xK Er i _ s5 ud H5 (fun _ _=>False) I5 (lX vL p5) iu stop
      rw[xA]at dn ⊢
      refine af6 dn (fun r s6 h6=>?_) fun _ _ z=>z
      obtain⟨rfl,I6⟩:=h6
      show RR (.ref s₂.heap.objs.size) H3.objs.size (.ok .next) s6
      obtain⟨eD,nD,_⟩:=I6.pin _ (agh _ aga)
      have lW:Un (frs X.stack) fp H₂ H5 s₂.heap s6.heap:=by
        have:=I6.base
        rw[ym,yo,yk,Mc]at this
        exact this
      have lt:∀{b:Addr}{o:Obj},s₂.heap.get? b=some o→b≠s₂.heap.objs.size:=fun e=>afB (afA e)
      have Mv:Un (frs X.stack) fp H₂ (upd H5 s₂.heap.objs.size (.lst ys)) s₂.heap s6.heap :=
        ⟨lW.keep,lW.slot,fun b o e n hx=>by rw[bO (lt e)];exact lW.free b o e n hx,lW.there,fun b xs e=>by rw[bO (dz e xS)];exact lW.tups b xs e,
          fun b o u e=>by rw[bO (dz e xS)];exact lW.i6 b o u e,fun b ps e=>by rw[bO (dz e xS)];exact lW.iN b ps e⟩
      have Yz:dj X.prog X.w (upd H5 s₂.heap.objs.size (.lst ys)) s6.heap:=fun b u e=>by
        by_cases hb:b=s₂.heap.objs.size
        · subst hb
          rw[fK]at e;cases e
          exact⟨agL hlen,its,k,rv,eD⟩
        · rw[bO hb]at e
          have:=I6.hok b u e
          rw[uo,xw]at this
          exact this.stay (fun _ _ _ q=>q) (fun c q=>by rw[bO (dz q nD)];exact q) fun c xs q=>by rw[bO (dz q nD)];exact q
      have I7:Inv X pins σ (upd H5 s₂.heap.objs.size (.lst ys)) s6:=by
        refine gE.ab3 (ch:=fp) ?_ Mv Yz I6.bare fun b hb=>?_
        · have:=I6.os;rw[yk]at this;exact this
        · obtain⟨_,f1,f2,f3,f4,f5⟩:=hf b hb
          exact⟨f3,f1,f4,f5⟩
      obtain⟨m6,n6,_⟩:=I6.loc
      rw[uq]at n6
      have Y5:H5 H3.objs.size=none:=by have:=I6.free;rw[uq]at this;exact this
      refine fin _ _ _ s6 m6 I7 ⟨by rw[bO (af8 hDC)];exact Y5,?_,?_,.inr (afL gE.sz lB),YS,fun p hp=>?_⟩ n6 (qf _ nD)
      · exact agm (afH gE.lt lB)
      · intro z
        exact absurd z (gE.zw lB)
      · exact afB (afH (afA (gE.pin p hp).1) lB)
    · have XM:=T.item X' uo xw xK Er i _ s5 ud H5 (fun _ _=>False) I5 (lX vL p5) iu go
      refine af6 XM (fun r s6 h6=>?_) fun _ _ z=>z
      obtain⟨u,rfl,h6⟩:=h6
      refine af6 h6 (fun _ s7 h7=>?_) fun _ _ z=>z
      obtain⟨x,H7,I7,rx,y7,lZ,Zr⟩:=h7
      have I7':=I7.pinned (lX Zr p5) (T.obj _ _ lZ)
      have mp:∀{α:Type}{t:Sem α}{Q:α→Shared→Prop}{s:Shared},wpAny (model X'.prog X'.w) X'.A t Q X'.xe s→wpAny (model X.prog X.w) X'.A t Q (fun _ _=>False) s:=fun{α t Q s} h=>by
        rw[uo,xw,LS]at h;exact h
      refine af6 (mp (hg' _ s7 ud H7 x u _ I7' rx (step x H7 y7))) (fun _ s8 h8=>?_) fun _ _ z=>z
      obtain⟨rq,H8,I8,q8⟩:=h8
      refine af6 (mp (hi' _ s8 rq H8 _ I8 q8)) (fun ok s9 h9=>?_) fun _ _ z=>z
      obtain⟨H9,I9,q9⟩:=h9
      have HH:∀{σ':St}{H':Hp}{s':Shared},Inv X' ([(s₂.heap.objs.size,{cls:=.type "list",data:=.seq its.toArray k})]++rQ fp s7.heap) σ' H' s'→tn (i+1) s'.heap∧∀b∈fp,H' b=none:=fun{σ' H' s'} I=>by
        refine⟨T.keep _ _ _ lZ fun b hb o e=>(I.pin (b,o) (agh _ (agh _ (vt hb e)))).1,fun b hb=>?_⟩
        obtain⟨o,e,d⟩:=T.obj _ _ lZ b hb
        exact(I.pin (b,o) (agh _ (agh _ (vt hb e)))).2.1
      cases ok with
      | false =>
        rw[if_neg afR]at q9 ⊢
        obtain⟨m',hm,w9⟩:=hN _ _ _ q9
        obtain⟨t9,f9⟩:=HH I9
        exact⟨m',hm,i+1,rq,ys,H9,its,k,I9.rD,rv,t9,f9,w9⟩
      | true =>
        rw[if_pos rfl]at q9 ⊢
        refine af6 (mp (he' _ s9 rq H9 _ I9 q9)) (fun v rM Y9=>?_) fun _ _ z=>z
        obtain⟨y,K4,K3,ry,pZ⟩:=Y9
        obtain⟨m',hm,iM⟩:=hN _ _ _ pZ
        obtain⟨Nd,ZG⟩:=HH K3
        have K2:=K3.rD
        obtain⟨eD,nD,fC,nfD,dD⟩:=K2.pin _ (agh _ aga)
        have hl:=rv.length
        refine agN F.slot_list_append ⟨_,eD,rfl⟩ F.entry_list_append (F.args_list_append_2 _ _) (ajj s₂.heap.objs.size its.toArray k v (by rw[afF];omega)) ⟨eD,?_⟩
        have q:=aji eD (·.push v)
        have I11:Inv X' [] rq K4 {rM with heap:=rM.heap.update s₂.heap.objs.size (Obj.mapSeq (·.push v))}:=by
          refine(K2.uQ (za:=[]) fun p hp=>by cases hp).turned (t':=rM.toks) (it:=s₂.heap.objs.size) (fun b o hb e=>(agV rM.heap (Obj.mapSeq (·.push v)) (af8 hb)).trans e) nD fC (.inr (by rw[yk];exact afs _)) (fun x c hc=>YT x c (by rw[←LW];exact hc)) fun p hp=>?_
          have hp:p∈X.pn++pins:=by rw[agU,Ep]at hp;exact hp
          exact afB (afA (gE.pin p hp).1)
        rw[show its.toArray.push v=(its++[v]).toArray by simp]at q
        refine⟨m',hm,i+1,rq,ys++[y],K4,its++[v],_,F5 I11 q nD (fun v q=>nomatch q),rv.append (.cons ry .nil),?_,ZG,iM⟩
        refine T.keep _ _ _ Nd fun b hb o e=>(agV rM.heap (Obj.mapSeq (·.push v)) ?_).trans e
        exact agm (hfo b hb)
  have e4:({scope:=relabel scope X.env,locals:=H3.objs.size,globals:=X.env.globals,cells:=cl,qual:=X.env.qual,func:=none,code:=X.env.code,frame:=X.env.frame,builtins:=X.env.builtins}:Env)=X'.env:=by rw[LV];rfl
  have l0:tn 0 h₄:=T.keep _ _ _ st fun b _ o e=>sE b o e
  have goal:codeAny (model X.prog X.w) X.A (.compStart (.ListComp elt [⟨tg,iter,ifs,0⟩] scope pos) 0 (.ref it) (.ref s₂.heap.objs.size) X'.env) (RR (.ref s₂.heap.objs.size) H3.objs.size) {s₂ with heap:=h₄} :=
    codeAny_compStart_list loop (T.self _ 0 _ _ _ l0 loop)
  rw[←e4]at goal
  exact goal
theorem Inv.gone{H':Hp}{s':Shared}{h':Heap}{C:Addr}(I:Inv X pins σ H' s') (f:fu X pins H' C) (hs:Heap.SameBut C s'.heap h'):Inv X pins σ H' {s' with heap:=h'}:=by
 obtain⟨f0,f1,f2,f3,f4,f5⟩:=f
 exact I.turned (t':=s'.toks) (fun b o hb e=>(hs.2 b hb).trans e) f0 f1 f3 f4 f5
theorem RT{wi:TI}(S:bK X N' pick scope) (hc:X.calm=true) (hit:PI X tg iter wi)
  (hg:∀cl C s₀ H₀ ex pn,PG (eE X N' scope cl C s₀ H₀ ex pn) tg g) (hi:∀cl C s₀ H₀ ex pn,nJ (eE X N' scope cl C s₀ H₀ ex pn) ifs tt) (he:∀cl C s₀ H₀ ex pn,PE (eE X N' scope cl C s₀ H₀ ex pn) elt te)
  (hs:∀x,foldedSetIterable iter X.env x=pure x:=by intro _;rfl) :
  PE X (.ListComp elt [⟨tg,iter,ifs,0⟩] scope pos) (yE wi pick g tt te):=by
 intro pins s σ H Q I h
 rw[eval_ListComp]
 refine ajl (use:=none) rfl hs (JN S I) S.kind S.names (aY (hit pins s σ H _ I h) fun v s1 h1=>aY h1 fun itv s2 h2=>?_)
 obtain⟨it,fp,tn,J,H2,rfl,I2,T,st2,f2,W,⟨m0,w0⟩,turn⟩:=h2
 refine JI (RR:=fun acc C=>compPost (model X.prog X.w) X.A X.xe none (EP X pins σ Q) acc C) (Qv:=Q) S hc I2 T st2 f2 hg hi he w0 turn ?_
 intro D C H' s' m I' f' n' q'
 exact⟨m,n',fun h' hs'=>⟨.ref D,H',I'.gone f' hs',rfl,q'⟩⟩
def MU(i:Nat) (t:TE):TS:=fun D σ H=>t σ H fun v H1=>D.nx (σ.set i (some v)) H1
theorem Qw{wi:TI}{i:Nat}{y:Str}{py spos:Pos}(hsw:swapsWith (.ListComp elt [⟨tg,iter,ifs,0⟩] scope pos) (some (.Name y py)) spos.line X.env=pure true) (hN:X.N.Nodup) (hy:X.N[i]? = some y) (hl:X.env.scope.names.lookup y=some .local)
  (S:bK X N' pick scope) (hc:X.calm=true) (hit:PI X tg iter wi)
  (hg:∀cl C s₀ H₀ ex pn,PG (eE X N' scope cl C s₀ H₀ ex pn) tg g) (hi:∀cl C s₀ H₀ ex pn,nJ (eE X N' scope cl C s₀ H₀ ex pn) ifs tt) (he:∀cl C s₀ H₀ ex pn,PE (eE X N' scope cl C s₀ H₀ ex pn) elt te)
  (hs:∀x,foldedSetIterable iter X.env x=pure x:=by intro _;rfl) :
  PS X (.Assign [.Name y py] (.ListComp elt [⟨tg,iter,ifs,0⟩] scope pos) spos) (MU i (yE wi pick g tt te)):=by
 intro pins s σ H D I h
 rw[exec_Assign_Name_used _ _ _ _ hsw]
 refine afq (aib (afq ?_))
 show wpAny _ X.A (do let _ ←comprehension (.ListComp elt [⟨tg,iter,ifs,0⟩] scope pos) scope X.env _ (newList []) false (eval iter X.env) (some (assign (.Name y py) X.env))) _ _ s
 refine afq (af6 (ajl (use:=some (assign (.Name y py) X.env)) (Q:=fun _ s'=>SP X pins D .next s') rfl hs (JN S I) S.kind S.names
  (aY (hit pins s σ H _ I h) fun v s1 h1=>aY h1 fun itv s2 h2=>?_)) (fun _ s' hq=>afr (afr hq)) fun _ _ e=>e)
 obtain⟨it,fp,tn,J,H2,rfl,I2,T,st2,f2,W,⟨m0,w0⟩,turn⟩:=h2
 refine JI (RR:=fun acc C=>compPost (model X.prog X.w) X.A X.xe (some (assign (.Name y py) X.env)) (fun _ s'=>SP X pins D .next s') acc C) (Qv:=fun v H1=>D.nx (σ.set i (some v)) H1) S hc I2 T st2 f2 hg hi he w0 turn ?_
 intro Da C H' s' m I' f' n' q'
 show wpAny _ X.A (assign (.Name y py) X.env (.ref Da)) _ _ _
 refine wpAny_assign_Name (E7 I' hN hy (.inl hl) (v:=.ref Da) rfl (fun s'' uc ⟨a,sb,ha⟩=>?_) (.inr hl))
 have Y4:C≠a:=by
  rcases ha with e|e
  ·rw[e];exact f'.2.1
  ·exact af8 (f'.2.2.2.2.1 _ _ e)
 exact⟨m,n'.sameBut sb Y4,fun h' hs'=>⟨_,H',uc.gone f' hs',q'⟩⟩
end
def JK(XN:List Str) (xn:List (Str×NameKind)) (N':List Str) (pick:List (Option Nat)) (names:List (Str×NameKind)):Bool :=
 decide N'.Nodup&&names.all (fun x=>decide (names.lookup x.1=some x.2))&&decide ((names.map (·.1)).Nodup)&&(pick.length==N'.length) &&
 (pick.zip N').all (fun q=>match q.1 with|none=>true|some j=>decide (names.lookup q.2=some NameKind.free)&&decide (XN[j]? = some q.2)) &&
 names.all (fun x=>decide (x.2≠NameKind.free)||(decide (xn.lookup x.1=some NameKind.cell)||decide (xn.lookup x.1=some NameKind.free)))
theorem bK.of{X:Cx}{N':List Str}{pick:List (Option Nat)}{scope:Scope}(hk:scope.kind=.function) (h:JK X.N X.env.scope.names N' pick scope.names=true):bK X N' pick scope:=by
 unfold JK at h
 simp only[afE,afG,decide_eq_true_eq,beq_iff_eq,ahN]at h
 obtain⟨⟨⟨⟨⟨h1,h2⟩,h3⟩,h4⟩,h5⟩,h6⟩:=h
 refine⟨hk,h1,fun x hx e=>by rw[←e];exact h2 x hx,h3,h4,fun i j x hp hN=>?_,fun x hx e=>?_⟩
 ·have hm:(some j,x)∈pick.zip N':=by
   have:(pick.zip N')[i]? = some (some j,x):=by rw[aix];exact⟨hp,hN⟩
   exact afT this
  exact h5 _ hm |> fun z=>by simpa using z
 ·rcases h6 x hx with z|z|z
  ·exact absurd e z
  ·exact .inl z
  ·exact .inr z
end L2
namespace PySem
open Sem (wp)
section
variable {prog:Program}{w:World}{A:Around}{E:Value→Shared→Prop}{s:Shared}
theorem Vf{it l:Addr}{i:Nat}{items:Array Value}{x:Value}{Q:Value→Shared→Prop}(hit:s.heap.IsTupleIter it l i)
  (hl:s.heap.IsTuple l items) (hx:items[i]? = some x)
  (hQ:∀h',h'.IsTupleIter it l (i+1)→Heap.SameBut it s.heap h'→Q x {s with heap:=h'}) :
  wpAny (model prog w) A (Builtin.SmallTypes.nextOf (.ref it)) Q E s:=by
 obtain⟨o,ho,hc,hd⟩:=id hit
 obtain⟨ol,gw,_,nl,hdl⟩:=hl
 unfold Builtin.SmallTypes.nextOf
 refine afq (ag0 (name:=Str.ofString "__next__") hit.typeIs ahO
  (agy ahO hit.typeIs ajm ?_ (ajn _)))
 show wpAny _ _ (field (.ref it) 0 >>= _) _ _ s
 refine afq (agj ho hd (x:=.ref l) rfl ?_)
 show wpAny _ _ (if(Value.ref l==Value.none)=true then _ else _) _ _ s
 rw[if_neg (show ¬((Value.ref l==Value.none)=true)from afR)]
 show wpAny _ _ (field (.ref it) 1 >>= _) _ _ s
 refine afq (agj ho hd (x:=.int i 0) rfl ?_)
 show wpAny _ _ (seqItems? (.ref l) >>= _) _ _ s
 refine afq (agq gw hdl ?_)
 simp only[aiy,hx]
 refine afq (ahk ho hd (by simp) (afr ⟨x,rfl,afr (hQ _ ?_ (agz ..))⟩))
 exact⟨_,ahi _ ho (aiz (ag1 hd _)),(aiA ..).trans hc,by
  rw[ag1 hd];simp[rawInt]⟩
theorem Vg{it l:Addr}{i:Nat}{items:Array Value}{Q:Value→Shared→Prop}(hh:A.handled=none)
  (hit:s.heap.IsTupleIter it l i) (hl:s.heap.IsTuple l items) (hx:items[i]? = none)
  (hE:∀h' e,Heap.ExtBut it s.heap h'→(∃o,h'.get? e=some o∧o.cls=.type "StopIteration")→E (.ref e) {s with heap:=h'}) :
  wpAny (model prog w) A (Builtin.SmallTypes.nextOf (.ref it)) Q E s:=by
 obtain⟨o,ho,hc,hd⟩:=id hit
 obtain⟨ol,gw,_,nl,hdl⟩:=hl
 unfold Builtin.SmallTypes.nextOf
 refine afq (ag0 (name:=Str.ofString "__next__") hit.typeIs ahO
  (agy ahO hit.typeIs ajm ?_ (ajn _)))
 show wpAny _ _ (field (.ref it) 0 >>= _) _ _ s
 refine afq (agj ho hd (x:=.ref l) rfl ?_)
 show wpAny _ _ (if(Value.ref l==Value.none)=true then _ else _) _ _ s
 rw[if_neg (show ¬((Value.ref l==Value.none)=true)from afR)]
 show wpAny _ _ (field (.ref it) 1 >>= _) _ _ s
 refine afq (agj ho hd (x:=.int i 0) rfl ?_)
 show wpAny _ _ (seqItems? (.ref l) >>= _) _ _ s
 refine afq (agq gw hdl ?_)
 simp only[aiy,hx]
 refine afq (ahP (afq (ahk ho hd (by simp) ?_)))
 show wpAny _ _ (newExc (.type "StopIteration") [] >>= _) _ _ _
 refine afq ?_
 simp only[newExc,newTuple]
 refine afq (agZ ?_ (by size_fits))
 refine afq (m:=firstArgMember _ _) (ahl (a:=Value.none) (by first|rfl|(simp only[firstArgMember];rfl)) ?_)
 refine agZ ?_ (by size_fits)
 simp only[raiseNew]
 refine afq (wpAny_handled ?_)
 first|rw[show A.in1.handled=none from hh]|rw[hh]
 refine afq (afr (wpAny_throw ?_))
 exact hE _ _ (((agz ..).extBut.push _).push _) ⟨_,afI _ rfl,rfl⟩
theorem Draws.tuple{prog:Program}{w:World}{A:Around}(hh:A.handled=none) (it l:Addr) (hne:l≠it) (items:Array Value) :
  Draws prog w A it [it,l] items.size (fun i v=>items[i]? = some v) (fun i h=>h.IsTupleIter it l i∧h.IsTuple l items) where
 live:=fun _ _ st=>let⟨o,ho,_⟩:=st.1;⟨o,ho⟩
 frame:=fun _ _ _ st hk=>⟨st.1.at fun o e=>hk it (by simp) o e,let⟨o,e,r⟩:=st.2;⟨o,hk l (by simp) o e,r⟩⟩
 item:=fun i s Q E hi st hQ=>by
  refine Vf st.1 st.2 (x:=items[i]) (by simp[hi]) fun h' sS hs'=>?_
  exact hQ _ h' s.toks (by simp[hi]) ⟨sS,let⟨o,e,r⟩:=st.2;⟨o,hs'.extBut _ _ hne e,r⟩⟩ hs'
 done:=fun s Q E st hE=>Vg hh st.1 st.2 (by simp) hE
structure ZA (z TI TO i1 i2:Addr) (f1 f2:List Addr):Prop where
 TIz:TI≠z
 TOz:TO≠z
 TITO:TI≠TO
 TIi1:TI≠i1
 TIi2:TI≠i2
 m1:i1∈f1
 m2:i2∈f2
 z1:z∉f1
 z2:z∉f2
 o1:TO∉f1
 o2:TO∉f2
 x1:i1∉f2
 x2:i2∉f1
theorem LQ{z TI TO i1 i2:Addr}{f1 f2:List Addr}{n1 n2 k:Nat}{P1 P2:Nat→Value→Prop}{S1 S2:Nat→Heap→Prop}{a b:Value}{Q:Value→Shared→Prop}(D:ZA z TI TO i1 i2 f1 f2) (D1:Draws prog w A i1 f1 n1 P1 S1) (D2:Draws prog w A i2 f2 n2 P2 S2)
  (hz:IsZip s.heap z TI TO .none) (hTI:IsPair s.heap TI (.ref i1) (.ref i2)) (hTO:IsPair s.heap TO a b)
  (h1:S1 k s.heap) (h2:S2 k s.heap) (hx:k<n1) (hy:k<n2)
  (hQ:∀x y h' tk,P1 k x→P2 k y→IsZip h' z TI TO (rawInt s.heap.objs.size)→IsPair h' TO x y→S1 (k+1) h'→S2 (k+1) h'→IsPair h' s.heap.objs.size x y →
   (∀c o,c≠z→c≠TO→c≠i1→c≠i2→s.heap.get? c=some o→h'.get? c=some o)→Q (.ref s.heap.objs.size) {s with heap:=h',toks:=tk}) :
  wpAny (model prog w) A (Builtin.«zip.__next__» ⟨[.ref z],[]⟩) (fun fin s'=>∃v,fin=.done (.ret v)∧Q v s') E s:=by
 have ve:i1≠z:=fun e=>D.z1 (e▸D.m1)
 have zv:i2≠z:=fun e=>D.z2 (e▸D.m2)
 have zy:TO≠i1:=fun e=>D.o1 (e▸D.m1)
 have G0:TO≠i2:=fun e=>D.o2 (e▸D.m2)
 have n12:i1≠i2:=fun e=>D.x1 (e▸D.m2)
 show wpAny _ _ (field (.ref z) 2 >>= _) _ _ _
 refine afq (agj hz rfl (x:=.bool false) rfl ?_)
 show wpAny _ _ (field (.ref z) 3 >>= _) _ _ _
 refine afq (agj hz rfl (x:=.ref TI) rfl ?_)
 refine afq (agq hTI rfl ?_)
 show wpAny _ _ (Builtin.SmallTypes.ownedTupleIsFree (.ref z) >>= _) _ _ _
 refine afq ?_
 unfold Builtin.SmallTypes.ownedTupleIsFree
 refine afq (agj hz rfl (x:=.none) rfl (afr ?_))
 simp only[if_true]
 refine afq (ahP ?_)
 refine afq (agj hz rfl (x:=.ref TO) rfl ?_)
 refine afq (ag2 hz (by simp) fun h₁ k8 hs₁=>?_)
 replace k8:IsZip h₁ z TI TO .ellipsis:=k8
 refine afq ?_
 simp only[ajo,ajp,agX,ahQ]
 refine afq (afq (ahR ?_))
 show wpAny _ _ (Builtin.SmallTypes.nextOf (.ref i1) >>= _) _ _ _
 refine afq (D1.item k _ _ _ hx (D1.frame _ _ _ h1 fun c hc o e=>hs₁.extBut _ _ (fun q=>D.z1 (q▸hc)) e) fun x h₂ tk₂ px IU hs₂=>afr ?_)
 have sW:IsPair h₂ TO a b:=hs₂.extBut _ _ zy (hs₁.extBut _ _ D.TOz hTO)
 refine afq (agq sW rfl ?_)
 refine afq (aiB sW fun h₃ vI gW=>?_)
 replace vI:IsPair h₃ TO x b:=vI
 refine afq (wpAny_letGo (afr ?_))
 refine afq (afq (ahR ?_))
 show wpAny _ _ (Builtin.SmallTypes.nextOf (.ref i2) >>= _) _ _ _
 refine afq (D2.item k _ _ _ hy (D2.frame _ _ _ h2 fun c hc o e=>gW.extBut _ _ (fun q=>D.o2 (q▸hc)) (hs₂.extBut _ _ (fun q=>D.x1 (q▸hc)) (hs₁.extBut _ _ (fun q=>D.z2 (q▸hc)) e))) fun y h₄ tk₄ py Y7 ly=>afr ?_)
 have IP:IsPair h₄ TO x b:=ly.extBut _ _ G0 vI
 refine afq (agq IP rfl ?_)
 refine afq (aiB IP fun h₅ vH lq=>?_)
 replace vH:IsPair h₅ TO x y:=vH
 refine afq (wpAny_letGo (afr (afr ?_)))
 refine afq (agq vH rfl ?_)
 refine afq (wpAny_newTuple ?_)
 have hsz:h₅.objs.size=s.heap.objs.size:=by rw[lq.1,ly.1,gW.1,hs₂.1,hs₁.1]
 have Ik:IsZip h₅ z TI TO .ellipsis:=lq.extBut _ _ D.TOz.symm (ly.extBut _ _ zv.symm (gW.extBut _ _ D.TOz.symm (hs₂.extBut _ _ ve.symm k8)))
 have YC:∀c o,c≠z→c≠TO→c≠i1→c≠i2→s.heap.get? c=some o→h₅.get? c=some o:=fun c o c1 c2 c3 c4 e =>
  lq.extBut _ _ c2 (ly.extBut _ _ c4 (gW.extBut _ _ c2 (hs₂.extBut _ _ c3 (hs₁.extBut _ _ c1 e))))
 have Y8:S1 (k+1) h₅:=D1.frame _ _ _ IU fun c hc o e=>lq.extBut _ _ (fun q=>D.o1 (q▸hc)) (ly.extBut _ _ (fun q=>D.x2 (q▸hc)) (gW.extBut _ _ (fun q=>D.o1 (q▸hc)) e))
 have Y6:S2 (k+1) h₅:=D2.frame _ _ _ Y7 fun c hc o e=>lq.extBut _ _ (fun q=>D.o2 (q▸hc)) e
 have Io:z<h₅.objs.size:=afA Ik
 show wpAny _ _ (Builtin.SmallTypes.ownedTupleHandOut (.ref z) (.ref h₅.objs.size) >>= _) _ _ _
 refine afq ?_
 unfold Builtin.SmallTypes.ownedTupleHandOut
 have Yp:IsZip (h₅.push {cls:=.type "tuple",data:=.seq #[x,y]}) z TI TO .ellipsis:=afw _ Ik
 refine afq (ag2 Yp (by simp) fun Yo Br Iu=>?_)
 replace Br:IsZip Yo z TI TO (rawInt h₅.objs.size):=Br
 refine ag2 Br (by simp) fun vF vG Ir=>?_
 replace vG:IsZip vF z TI TO (rawInt h₅.objs.size):=vG
 have up:∀c o,c≠z→h₅.get? c=some o→vF.get? c=some o:=fun c o c1 e=>Ir.extBut _ _ c1 (Iu.extBut _ _ c1 (afw _ e))
 have IM:IsPair vF h₅.objs.size x y:=Ir.extBut _ _ (agm Io) (Iu.extBut _ _ (agm Io) (afI _ rfl))
 rw[hsz]at vG IM
 refine afr ⟨_,rfl,?_⟩
 show Q (.ref h₅.objs.size) _
 rw[hsz]
 exact hQ x y vF _ px py vG (up _ _ D.TOz vH) (D1.frame _ _ _ Y8 fun c hc o e=>up c o (fun q=>D.z1 (q▸hc)) e) (D2.frame _ _ _ Y6 fun c hc o e=>up c o (fun q=>D.z2 (q▸hc)) e) IM fun c o c1 c2 c3 c4 e=>up c o c1 (YC c o c1 c2 c3 c4 e)
theorem LR{z TI TO i1 i2:Addr}{f1 f2:List Addr}{n1 n2 k:Nat}{P1 P2:Nat→Value→Prop}{S1 S2:Nat→Heap→Prop}{a b:Value}{Q:Fin→Shared→Prop}(D:ZA z TI TO i1 i2 f1 f2) (D1:Draws prog w A i1 f1 n1 P1 S1) (D2:Draws prog w A i2 f2 n2 P2 S2)
  (hz:IsZip s.heap z TI TO .none) (hTI:IsPair s.heap TI (.ref i1) (.ref i2)) (hTO:IsPair s.heap TO a b)
  (h1:S1 k s.heap) (h2:S2 k s.heap) (hend:k=n1∨(k<n1∧k=n2))
  (hE:∀h' tk e,(∀c o,c≠z→c≠TO→c≠i1→c≠i2→s.heap.get? c=some o→h'.get? c=some o)→(∃o,h'.get? e=some o∧o.cls=.type "StopIteration")→E (.ref e) {s with heap:=h',toks:=tk}) :
  wpAny (model prog w) A (Builtin.«zip.__next__» ⟨[.ref z],[]⟩) Q E s:=by
 have ve:i1≠z:=fun e=>D.z1 (e▸D.m1)
 have zv:i2≠z:=fun e=>D.z2 (e▸D.m2)
 have zy:TO≠i1:=fun e=>D.o1 (e▸D.m1)
 have G0:TO≠i2:=fun e=>D.o2 (e▸D.m2)
 show wpAny _ _ (field (.ref z) 2 >>= _) _ _ _
 refine afq (agj hz rfl (x:=.bool false) rfl ?_)
 show wpAny _ _ (field (.ref z) 3 >>= _) _ _ _
 refine afq (agj hz rfl (x:=.ref TI) rfl ?_)
 refine afq (agq hTI rfl ?_)
 show wpAny _ _ (Builtin.SmallTypes.ownedTupleIsFree (.ref z) >>= _) _ _ _
 refine afq ?_
 unfold Builtin.SmallTypes.ownedTupleIsFree
 refine afq (agj hz rfl (x:=.none) rfl (afr ?_))
 simp only[if_true]
 refine afq (ahP ?_)
 refine afq (agj hz rfl (x:=.ref TO) rfl ?_)
 refine afq (ag2 hz (by simp) fun h₁ k8 hs₁=>?_)
 replace k8:IsZip h₁ z TI TO .ellipsis:=k8
 refine afq ?_
 simp only[ajo,ajp,agX,ahQ]
 refine afq (afq (ahR ?_))
 show wpAny _ _ (Builtin.SmallTypes.nextOf (.ref i1) >>= _) _ _ _
 have IV:S1 k h₁:=D1.frame _ _ _ h1 fun c hc o e=>hs₁.extBut _ _ (fun q=>D.z1 (q▸hc)) e
 rcases hend with rfl|⟨hlt,rfl⟩
 ·refine afq (D1.done _ _ _ IV fun h₂ e hs₂ he=>?_)
  obtain⟨oe,mT,hce⟩:=he
  have Im:IsZip h₂ z TI TO .ellipsis:=hs₂ _ _ ve.symm k8
  have BC:e≠z:=fun x=>by subst x;rw[Im]at mT;cases mT;simp at hce
  refine ag2 Im (by simp) fun h₃ _ gW=>hE h₃ _ e (fun c o c1 _ c3 _ x=>gW.extBut _ _ c1 (hs₂ _ _ c3 (hs₁.extBut _ _ c1 x))) ⟨oe,gW.extBut _ _ BC mT,hce⟩
 ·refine afq (D1.item k _ _ _ hlt IV fun x h₂ tk₂ px IU hs₂=>afr ?_)
  have sW:IsPair h₂ TO a b:=hs₂.extBut _ _ zy (hs₁.extBut _ _ D.TOz hTO)
  refine afq (agq sW rfl ?_)
  refine afq (aiB sW fun h₃ vI gW=>?_)
  refine afq (wpAny_letGo (afr ?_))
  refine afq (afq (ahR ?_))
  show wpAny _ _ (Builtin.SmallTypes.nextOf (.ref i2) >>= _) _ _ _
  refine afq (D2.done _ _ _ (D2.frame _ _ _ h2 fun c hc o e=>gW.extBut _ _ (fun q=>D.o2 (q▸hc)) (hs₂.extBut _ _ (fun q=>D.x1 (q▸hc)) (hs₁.extBut _ _ (fun q=>D.z2 (q▸hc)) e))) fun h₄ e ly he=>?_)
  obtain⟨oe,mT,hce⟩:=he
  have Il:IsZip h₄ z TI TO .ellipsis:=ly _ _ zv.symm (gW.extBut _ _ D.TOz.symm (hs₂.extBut _ _ ve.symm k8))
  have BC:e≠z:=fun x=>by subst x;rw[Il]at mT;cases mT;simp at hce
  refine ag2 Il (by simp) fun h₅ _ lq=>hE h₅ _ e (fun c o c1 c2 c3 c4 x=>lq.extBut _ _ c1 (ly _ _ c4 (gW.extBut _ _ c2 (hs₂.extBut _ _ c3 (hs₁.extBut _ _ c1 x))))) ⟨oe,lq.extBut _ _ BC mT,hce⟩
theorem Qf{z TI TO i1 i2:Addr}{f1 f2:List Addr}{n1 n2 k:Nat}{P1 P2:Nat→Value→Prop}{S1 S2:Nat→Heap→Prop}{a b:Value}{Q:Option Value→Shared→Prop}(D:ZA z TI TO i1 i2 f1 f2) (D1:Draws prog w A.in1 i1 f1 n1 P1 S1) (D2:Draws prog w A.in1 i2 f2 n2 P2 S2)
  (hz:IsZip s.heap z TI TO .none) (hTI:IsPair s.heap TI (.ref i1) (.ref i2)) (hTO:IsPair s.heap TO a b)
  (h1:S1 k s.heap) (h2:S2 k s.heap) (hx:k<n1) (hy:k<n2)
  (hQ:∀x y h' tk,P1 k x→P2 k y→IsZip h' z TI TO (rawInt s.heap.objs.size)→IsPair h' TO x y→S1 (k+1) h'→S2 (k+1) h'→IsPair h' s.heap.objs.size x y →
   (∀c o,c≠z→c≠TO→c≠i1→c≠i2→s.heap.get? c=some o→h'.get? c=some o)→Q (some (.ref s.heap.objs.size)) {s with heap:=h',toks:=tk}) :
  wpAny (model prog w) A (pyNext (.ref z)) Q E s:=by
 have hT:s.TypeIs (.ref z) "zip":=⟨_,hz,rfl⟩
 unfold pyNext
 exact afq (ahS (ag0 (name:=Str.ofString "__next__") hT ahT
  (agy ahT hT F.entry_zip_next
   (LQ D D1 D2 hz hTI hTO h1 h2 hx hy fun x y h' tk a0 b0 a1 a2 a3 a4 a5 a7=>afr (hQ x y h' tk a0 b0 a1 a2 a3 a4 a5 a7)) (F.args_zip_next_1 _))))
theorem Qg{z TI TO i1 i2:Addr}{f1 f2:List Addr}{n1 n2 k:Nat}{P1 P2:Nat→Value→Prop}{S1 S2:Nat→Heap→Prop}{a b:Value}{Q:Option Value→Shared→Prop}(D:ZA z TI TO i1 i2 f1 f2) (D1:Draws prog w A.in1 i1 f1 n1 P1 S1) (D2:Draws prog w A.in1 i2 f2 n2 P2 S2)
  (hz:IsZip s.heap z TI TO .none) (hTI:IsPair s.heap TI (.ref i1) (.ref i2)) (hTO:IsPair s.heap TO a b)
  (h1:S1 k s.heap) (h2:S2 k s.heap) (hend:k=n1∨(k<n1∧k=n2))
  (hQ:∀h' tk,(∀c o,c≠z→c≠TO→c≠i1→c≠i2→s.heap.get? c=some o→h'.get? c=some o)→Q none {s with heap:=h',toks:=tk}):wpAny (model prog w) A (pyNext (.ref z)) Q E s:=by
 have hT:s.TypeIs (.ref z) "zip":=⟨_,hz,rfl⟩
 unfold pyNext
 refine afq (ahS (ag0 (name:=Str.ofString "__next__") hT ahT
  (agy ahT hT F.entry_zip_next (LR D D1 D2 hz hTI hTO h1 h2 hend fun h' tk e hk he=>?_) (F.args_zip_next_1 _))))
 obtain⟨o,ho,hc⟩:=he
 refine afq (aiC (T:="StopIteration") (b:=true) ⟨o,ho,hc⟩ isSubtype_stop ?_)
 exact afr (hQ _ _ hk)
abbrev uh(h:Heap) (l1:Addr):Heap:=h.push {cls:=.type "tuple_iterator",data:=.fields #[.ref l1,.int 0 0]}
abbrev ug(h:Heap) (l1 l2:Addr):Heap:=(uh h l1).push {cls:=.type "tuple_iterator",data:=.fields #[.ref l2,.int 0 0]}
abbrev uf(h:Heap) (l1 l2:Addr):Heap:=(ug h l1 l2).push {cls:=.type "tuple",data:=.seq #[.ref h.objs.size,.ref (uh h l1).objs.size]}
abbrev ue(h:Heap) (l1 l2:Addr):Heap:=(uf h l1 l2).push {cls:=.type "tuple",data:=.seq #[.none,.none]}
abbrev nM(h:Heap) (l1 l2:Addr):Heap:=(ue h l1 l2).push {cls:=.type "zip",data:=.fields #[.none,.bool false,.bool false,.ref (ug h l1 l2).objs.size,.ref (uf h l1 l2).objs.size]}
theorem adv{h:Heap}{a:Addr}{xs:Array Value}(x:h.IsTuple a xs) (o:Obj):(h.push o).IsTuple a xs:=let⟨q,e,r⟩:=x;⟨q,afw _ e,r⟩
theorem Wl(l1 l2:Addr) (xs ys:Array Value) :
  Meets (Builtin.«zip.__new__» ⟨[.type "zip",.ref l1,.ref l2],[]⟩) (fun _ R s=>s.heap.IsTuple l1 xs∧s.heap.IsTuple l2 ys ∧
   R (.ok (.ret (.ref (ue s.heap l1 l2).objs.size))) {s with heap:=nM s.heap l1 l2}) :=
 .of_wp fun prog w A R s h=>by
  obtain⟨hp,g,d,tk,os⟩:=s;obtain⟨hl1,hl2,h⟩:=h
  have hsub:=sub_zip
  have ql:Heap.IsTuple (Shared.heap ⟨hp,g,d,tk,os⟩) l1 xs:=hl1
  have BK:Heap.IsTuple (Shared.heap ⟨hp.push {cls:=.type "tuple_iterator",data:=.fields #[.ref l1,.int 0 0]},g,d,tk,os⟩) l2 ys:=adv hl2 _
  wp_walk using ahG ql,ahG BK
  exact⟨_,rfl,h⟩
theorem abV{l1 l2:Addr}{xs ys:Array Value}{Q:Value→Shared→Prop}(hl1:s.heap.IsTuple l1 xs) (hl2:s.heap.IsTuple l2 ys)
  (h:∀h',IsZip h' (s.heap.objs.size+4) (s.heap.objs.size+2) (s.heap.objs.size+3) .none→IsPair h' (s.heap.objs.size+2) (.ref s.heap.objs.size) (.ref (s.heap.objs.size+1)) →
   IsPair h' (s.heap.objs.size+3) .none .none→h'.IsTupleIter s.heap.objs.size l1 0→h'.IsTupleIter (s.heap.objs.size+1) l2 0 →
   (∀c o,s.heap.get? c=some o→h'.get? c=some o)→Q (.ref (s.heap.objs.size+4)) {s with heap:=h'}) :
  wpAny (model prog w) A (call (.type "zip") [.ref l1,.ref l2]) Q E s:=by
 refine callType_new F.called_zip (by decide) (F.typeCall_zip_2 _ _) (F.newCall_zip_2 _ _) (fun obj=>F.args_object_init_3 obj _ _) F.entry_zip_new
  (Wl l1 l2 xs ys) ⟨hl1,hl2,?_⟩
 have z1:(uh s.heap l1).objs.size=s.heap.objs.size+1:=afV ..
 have z2:(ug s.heap l1 l2).objs.size=s.heap.objs.size+2:=by rw[afV,z1]
 have z3:(uf s.heap l1 l2).objs.size=s.heap.objs.size+3:=by rw[afV,z2]
 have z4:(ue s.heap l1 l2).objs.size=s.heap.objs.size+4:=by rw[afV,z3]
 have g5:(nM s.heap l1 l2).get? (ue s.heap l1 l2).objs.size=some _:=afI _ rfl
 have g4:(nM s.heap l1 l2).get? (uf s.heap l1 l2).objs.size=some _:=afw _ (afI _ rfl)
 have g3:(nM s.heap l1 l2).get? (ug s.heap l1 l2).objs.size=some _:=afw _ (afw _ (afI _ rfl))
 have g2:(nM s.heap l1 l2).get? (uh s.heap l1).objs.size=some _:=afw _ (afw _ (afw _ (afI _ rfl)))
 have g1:(nM s.heap l1 l2).get? s.heap.objs.size=some _:=afw _ (afw _ (afw _ (afw _ (afI _ rfl))))
 show _∧_
 rw[z2,z3,z4]at g5
 rw[z1,z2]at g3
 rw[z3]at g4
 rw[z1]at g2
 rw[z4]
 exact⟨⟨_,g5,rfl⟩,h _ g5 g3 g4 ⟨_,g1,rfl,rfl⟩ ⟨_,g2,rfl,rfl⟩ fun c o x =>
  afw _ (afw _ (afw _ (afw _ (afw _ x))))⟩
open AutoSeq1 (wpAny_loadPart')
end
end PySem
namespace L2
open PySem PySem.Spec PyProof.Rows
section
variable {X:Cx}{pins:List (Addr×Obj)}{σ:St}{H:Hp}{s:Shared}{K:PySem.W.Frag}
theorem Zs{a b:Addr}{xs:List V}(I:Inv X pins σ H s) (f:fu X pins H b) (q:bB X.K H a xs):a≠b:=by
 rintro rfl
 rcases q with(q|⟨o,q⟩)|⟨o,its,n,q,_⟩
 ·rw[f.1]at q;cases q
 ·rw[f.1]at q;cases q
 ·have e:=I.ok.mod.mR a o q
  rcases f.2.2.2.1 with z|z
  ·exact I.ok.jn _ _ e z
  ·exact absurd (afH (afA e) (afL I.ok.jc z)) (agf _)
theorem Zt{a b:Addr}{xs:List V}(I:Inv X pins σ H s) (f:fu X pins H b) (q:aZ X.K H a xs):a≠b:=by
 rintro rfl
 rcases q with(q|⟨o,q⟩)|⟨o,its,n,q,_⟩
 ·rw[f.1]at q;cases q
 ·rw[f.1]at q;cases q
 ·have e:=I.ok.mod.mR a o q
  rcases f.2.2.2.1 with z|z
  ·exact I.ok.jn _ _ e z
  ·exact absurd (afH (afA e) (afL I.ok.jc z)) (agf _)
theorem Inv.MB{h':Heap}{t':Nat}{ch:List Addr}{T:Addr}{vs:List V}{us:List Value}(I:Inv X pins σ H s) (hf:∀b∈ch,fu X pins H b) (k:∀b o,b∉ch→s.heap.get? b=some o→h'.get? b=some o)
  (hT:s.heap.objs.size≤T) (th:∀b∈ch,∃o,h'.get? b=some o) (rv:Vals vs us) (hz:vs.length≤sizeLine) (tup:kj h' T us.toArray):Inv X pins σ (upd H T (.tup vs)) {s with heap:=h',toks:=t'}:=by
 have hn:H T=none:=I.hok.fresh hT
 have iz:∀b u,H b=some u→b∉ch:=fun b u e z=>by rw[(hf b z).1]at e;cases e
 refine I.step (g':=s.gens) (d':=s.drawn) (ch:=ch) (fun b hb=>?_) (fun b o _ _ hc e _=>k b o hc e) (fun b o _ _ hc e _=>⟨o.slots,k b o hc e⟩) (fun b o _ e n=>?_)
  (fun b o hc e=>⟨o,k b o hc e⟩) (fun b xs e=>by rw[bO (dz e hn)];exact e) (fun b o u e=>by rw[bO (dz e hn)];exact e) (fun b ps e=>⟨#[],by rw[bO (dz e hn),e];simp⟩) (fun m hm=>?_) (fun b u e=>?_) I.bare
 ·obtain⟨f0,f1,f2,f3,f4,f5⟩:=hf b hb
  exact⟨f3,f1,f4,f5⟩
 ·rw[bO (afB (afH (afA e) hT))];exact n
 ·obtain⟨o,es,ep,ho,r⟩:=hm
  exact⟨o,es,ep,k _ o (fun z=>(hf _ z).2.1 rfl) ho,r⟩
 ·by_cases hb:b=T
  ·subst hb
   rw[fK]at e;cases e
   exact⟨hz,us,rv,tup⟩
  ·rw[bO hb]at e
   refine(I.hok b u e).stay (fun c v hc q=>k c v ?_ q) (fun c q=>by rw[bO (dz q hn)];exact q) fun c xs q=>by rw[bO (dz q hn)];exact q
   rcases hc with z|z
   ·rw[z];exact iz b u e
   ·exact iz c _ z
theorem Inv.MC{h':Heap}{t':Nat}{ch:List Addr}(I:Inv X pins σ H s) (hf:∀b∈ch,fu X pins H b) (k:∀b o,b∉ch→s.heap.get? b=some o→h'.get? b=some o):Inv X pins σ H {s with heap:=h',toks:=t'}:=by
 have iz:∀b u,H b=some u→b∉ch:=fun b u e z=>by rw[(hf b z).1]at e;cases e
 refine I.step (g':=s.gens) (d':=s.drawn) (ch:=ch) (fun b hb=>?_) (fun b o _ _ hc e _=>k b o hc e) (fun b o _ _ hc e _=>⟨o.slots,k b o hc e⟩) (fun b o _ e n=>n)
  (fun b o hc e=>⟨o,k b o hc e⟩) (fun b xs e=>e) (fun b o u e=>e) (fun b ps e=>⟨#[],by rw[e];simp⟩) (fun m hm=>?_) (fun b u e=>?_) I.bare
 ·obtain⟨f0,f1,f2,f3,f4,f5⟩:=hf b hb
  exact⟨f3,f1,f4,f5⟩
 ·obtain⟨o,es,ep,ho,r⟩:=hm
  exact⟨o,es,ep,k _ o (fun z=>(hf _ z).2.1 rfl) ho,r⟩
 ·refine(I.hok b u e).stay (fun c v hc q=>k c v ?_ q) (fun c q=>q) fun c xs q=>q
  rcases hc with z|z
  ·rw[z];exact iz b u e
  ·exact iz c _ z
end
structure Ec (P:Program) (w:World) (K:PySem.W.Frag) (Sq:Hp→Addr→List V→Prop) (lQ:Heap→Addr→Addr→Nat→Prop) (xR:Heap→Addr→Array Value→Prop):Prop where
 get:∀{X:Cx}{pins:List (Addr×Obj)}{σ:St}{H:Hp}{s:Shared}{a:Addr}{xs:List V},X.K=K→Inv X pins σ H s→Sq H a xs→∃its:List Value,Vals xs its∧xR s.heap a its.toArray∧xs.length≤sizeLine
 inj:∀{X:Cx}{pins:List (Addr×Obj)}{σ:St}{H:Hp}{s:Shared}{a:Addr}{xs ys:List V},X.K=K→Inv X pins σ H s→Sq H a xs→Sq H a ys→xs=ys
 ne:∀{X:Cx}{pins:List (Addr×Obj)}{σ:St}{H:Hp}{s:Shared}{a b:Addr}{xs:List V},X.K=K→Inv X pins σ H s→fu X pins H b→Sq H a xs→a≠b
 qv:∀(A:Around) (it l:Addr) (items:Array Value),A.handled=none→l≠it→Draws P w A it [it,l] items.size (fun i v=>items[i]? = some v) (fun i h=>lQ h it l i∧xR h l items)
 obj:∀{h:Heap}{it l:Addr}{i:Nat},lQ h it l i→∃o,h.get? it=some o∧∀v,o.data≠.cell v
 at':∀{h h':Heap}{it l:Addr}{i:Nat},lQ h it l i→(∀o,h.get? it=some o→h'.get? it=some o)→lQ h' it l i
theorem OF{P:Program}{w:World}{K:PySem.W.Frag}:Ec P w K (bB K) (fun h it l i=>h.IsTupleIter it l i) (fun h a xs=>h.IsTuple a xs) where
 get:=fun e I q=>by subst e;obtain⟨its,r,p,z⟩:=I.tuple q;exact⟨its,r,p,z⟩
 inj:=fun e I q q'=>by subst e;exact I.EJ q q'
 ne:=fun e I f q=>by subst e;exact Zs I f q
 qv:=fun A it l items hh hne=>Draws.tuple hh it l hne items
 obj:=fun st=>by obtain⟨o,e,c,d⟩:=st;exact⟨o,e,fun v z=>by rw[d]at z;cases z⟩
 at':=fun st k=>st.at k
theorem OG{P:Program}{w:World}{K:PySem.W.Frag}:Ec P w K (aZ K) (fun h it l i=>h.IsListIter it l i) (fun h a xs=>h.IsList a xs) where
 get:=fun e I q=>by subst e;obtain⟨its,r,p,z⟩:=I.list q;exact⟨its,r,p.isList,z⟩
 inj:=fun e I q q'=>by subst e;exact I.zR q q'
 ne:=fun e I f q=>by subst e;exact Zt I f q
 qv:=fun A it l items hh hne=>Draws.list hh it l hne items
 obj:=fun st=>by obtain⟨o,e,c,d⟩:=st;exact⟨o,e,fun v z=>by rw[d]at z;cases z⟩
 at':=fun st k=>st.at k
def xQ(Sq:Hp→Addr→List V→Prop) (a1 a2:Addr):It :=
  ⟨fun i H=>∃xs ys x y,Sq H a1 xs∧Sq H a2 ys∧xs[i]? = some x∧ys[i]? = some y,
   fun i H v H'=>∃t x y,v=.ref t∧H t=none∧H'=upd H t (.tup [x,y])∧∀xs ys,Sq H a1 xs→Sq H a2 ys→xs[i]? = some x∧ys[i]? = some y,
   fun i H=>∃xs ys,Sq H a1 xs∧Sq H a2 ys∧(i=xs.length∨(i<xs.length∧i=ys.length))⟩
theorem yw{xs:List V}{us:List Value}{i:Nat}{u:Value}(r:Vals xs us) (h:us.toArray[i]? = some u):∃x,xs[i]? = some x∧RelV x u:=by
 have h':us[i]? = some u:=by simpa using h
 have hi:i<xs.length:=by rw[r.length];exact(afJ.mp h').1
 obtain⟨u',e,q⟩:=r.get (i:=i) (x:=xs[i]) (afz hi)
 rw[h']at e;cases e
 exact⟨xs[i],afz hi,q⟩
theorem EI{P:Program}{w:World}{K:PySem.W.Frag}{Sq:Hp→Addr→List V→Prop}{lQ:Heap→Addr→Addr→Nat→Prop}{xR:Heap→Addr→Array Value→Prop}(S:Ec P w K Sq lQ xR) {es:List Expr}{k:Nat}{pt:Pos}(a1 a2 z TI TO i1 i2:Addr)
  (n1:TI≠z) (n2:TO≠z) (n3:TI≠TO) (n4:TI≠i1) (n5:TI≠i2) (n6:TO≠i1) (n7:TO≠i2) (n8:i1≠z) (n9:i2≠z) (pZ:i1≠i2) :
  Turn P w K (.Tuple es k pt) (xQ Sq a1 a2) [z,TI,TO,i1,i2] z (fun i h=>IsZip h z TI TO .none∧IsPair h TI (.ref i1) (.ref i2)∧(∃a b,IsPair h TO a b)∧lQ h i1 a1 i∧lQ h i2 a2 i) where
 mem:=by simp
 obj:=fun i h st b hb=>by
  obtain⟨hz,hTI,⟨a,b',hTO⟩,h1,h2⟩:=st
  simp only[afv,afK,or_false]at hb
  rcases hb with rfl|rfl|rfl|rfl|rfl
  ·exact⟨_,hz,fun v q=>nomatch q⟩
  ·exact⟨_,hTI,fun v q=>nomatch q⟩
  ·exact⟨_,hTO,fun v q=>nomatch q⟩
  ·exact S.obj h1
  ·exact S.obj h2
 keep:=fun i h h' st kp=>by
  obtain⟨hz,hTI,⟨a,b,hTO⟩,h1,h2⟩:=st
  exact⟨kp _ (by simp) _ hz,kp _ (by simp) _ hTI,⟨a,b,kp _ (by simp) _ hTO⟩,S.at' h1 fun o e=>kp _ (by simp) o e,S.at' h2 fun o e=>kp _ (by simp) o e⟩
 item:=by
  intro X hP hw hK hc i pins s σ H E I hf st hg
  subst hP hw
  obtain⟨xs,ys,x,y,q1,q2,hx,hy⟩:=hg
  obtain⟨hz,hTI,⟨a,b,hTO⟩,h1,h2⟩:=st
  obtain⟨us,r1,p1,l1⟩:=S.get hK I q1
  obtain⟨vs,r2,p2,l2⟩:=S.get hK I q2
  have ne1:∀{b:Addr},b∈[z,TI,TO,i1,i2]→a1≠b:=fun hb=>S.ne hK I (hf _ hb) q1
  have ne2:∀{b:Addr},b∈[z,TI,TO,i1,i2]→a2≠b:=fun hb=>S.ne hK I (hf _ hb) q2
  have hx':i<us.toArray.size:=by have:=(afJ.mp hx).1;have:=r1.length;simp;omega
  have hy':i<vs.toArray.size:=by have:=(afJ.mp hy).1;have:=r2.length;simp;omega
  have D:ZA z TI TO i1 i2 [i1,a1] [i2,a2]:=⟨n1,n2,n3,n4,n5,by simp,by simp,by simp only[afv,afK,or_false,not_or];exact⟨n8.symm,(ne1 (by simp)).symm⟩,by simp only[afv,afK,or_false,not_or];exact⟨n9.symm,(ne2 (by simp)).symm⟩,
   by simp only[afv,afK,or_false,not_or];exact⟨n6,(ne1 (by simp)).symm⟩,by simp only[afv,afK,or_false,not_or];exact⟨n7,(ne2 (by simp)).symm⟩,
   by simp only[afv,afK,or_false,not_or];exact⟨pZ,(ne2 (by simp)).symm⟩,by simp only[afv,afK,or_false,not_or];exact⟨pZ.symm,(ne1 (by simp)).symm⟩⟩
  refine Qf D (S.qv X.A.in1 i1 a1 us.toArray (I.ok.hd hc) (ne1 (by simp))) (S.qv X.A.in1 i2 a2 vs.toArray (I.ok.hd hc) (ne2 (by simp))) hz hTI hTO ⟨h1,p1⟩ ⟨h2,p2⟩ hx' hy' fun u v h' tk pu pv hz' IQ s1 s2 hT kp=>?_
  refine⟨_,rfl,?_⟩
  refine wpAny_letOwnedTupleGo_zip (s:={s with heap:=h',toks:=tk}) hz' fun h'' Ip jv=>?_
  obtain⟨x',ex,rx⟩:=yw r1 pu
  obtain⟨y',ey,ry⟩:=yw r2 pv
  have lt:∀{c:Addr}{o:Obj},s.heap.get? c=some o→c≠s.heap.objs.size:=fun e=>afB (afA e)
  have sE:∀c o,c∉[z,TO,i1,i2]→s.heap.get? c=some o→h''.get? c=some o:=fun c o hcn e=>by
   simp only[afv,afK,or_false,not_or]at hcn
   exact jv.extBut _ _ hcn.1 (kp c o hcn.1 hcn.2.1 hcn.2.2.1 hcn.2.2.2 e)
  have hT2:kj h'' s.heap.objs.size [u,v].toArray:=⟨_,jv.extBut _ _ (lt hz).symm hT,rfl,⟨_,rfl⟩,rfl⟩
  have I2:Inv X pins σ (upd H s.heap.objs.size (.tup [x',y'])) {s with heap:=h'',toks:=tk}:=by
   refine I.MB (ch:=[z,TO,i1,i2]) (us:=[u,v]) (fun b hb=>hf b ?_) sE (afs _) (fun b hb=>?_) (.cons rx (.cons ry .nil)) (by show 2≤sizeLine;decide) hT2
   ·simp only[afv,afK,or_false]at hb ⊢
    rcases hb with rfl|rfl|rfl|rfl<;>simp
   ·simp only[afv,afK,or_false]at hb
    rcases hb with rfl|rfl|rfl|rfl
    ·exact⟨_,Ip⟩
    ·exact⟨_,jv.extBut _ _ n2 IQ⟩
    ·obtain⟨o,e,_⟩:=S.obj s1.1;exact⟨_,jv.extBut _ _ n8 e⟩
    ·obtain⟨o,e,_⟩:=S.obj s2.1;exact⟨_,jv.extBut _ _ n9 e⟩
  refine⟨.ref s.heap.objs.size,_,I2,rfl,⟨_,x',y',rfl,I.hok.fresh (afs _),rfl,fun xs' ys' w1 w2=>?_⟩,⟨Ip,?_,⟨_,_,jv.extBut _ _ n2 IQ⟩,S.at' s1.1 fun o e=>jv.extBut _ _ n8 e,S.at' s2.1 fun o e=>jv.extBut _ _ n9 e⟩,fun b hb=>?_⟩
  ·rw[S.inj hK I w1 q1,S.inj hK I w2 q2];exact⟨ex,ey⟩
  ·exact jv.extBut _ _ n1 (kp _ _ n1 n3 n4 n5 hTI)
  ·have hb':b≠s.heap.objs.size:=by
    simp only[afv,afK,or_false]at hb
    rcases hb with rfl|rfl|rfl|rfl|rfl
    ·exact lt hz
    ·exact lt hTI
    ·exact lt hTO
    ·obtain⟨o,e,_⟩:=S.obj h1;exact lt e
    ·obtain⟨o,e,_⟩:=S.obj h2;exact lt e
   rw[bO hb'];exact(hf b hb).1
 done:=by
  intro X hP hw hK hc i pins s σ H E I hf st hg
  subst hP hw
  obtain⟨xs,ys,q1,q2,hend⟩:=hg
  obtain⟨hz,hTI,⟨a,b,hTO⟩,h1,h2⟩:=st
  obtain⟨us,r1,p1,l1⟩:=S.get hK I q1
  obtain⟨vs,r2,p2,l2⟩:=S.get hK I q2
  have ne1:∀{b:Addr},b∈[z,TI,TO,i1,i2]→a1≠b:=fun hb=>S.ne hK I (hf _ hb) q1
  have ne2:∀{b:Addr},b∈[z,TI,TO,i1,i2]→a2≠b:=fun hb=>S.ne hK I (hf _ hb) q2
  have D:ZA z TI TO i1 i2 [i1,a1] [i2,a2]:=⟨n1,n2,n3,n4,n5,by simp,by simp,by simp only[afv,afK,or_false,not_or];exact⟨n8.symm,(ne1 (by simp)).symm⟩,by simp only[afv,afK,or_false,not_or];exact⟨n9.symm,(ne2 (by simp)).symm⟩,
   by simp only[afv,afK,or_false,not_or];exact⟨n6,(ne1 (by simp)).symm⟩,by simp only[afv,afK,or_false,not_or];exact⟨n7,(ne2 (by simp)).symm⟩,
   by simp only[afv,afK,or_false,not_or];exact⟨pZ,(ne2 (by simp)).symm⟩,by simp only[afv,afK,or_false,not_or];exact⟨pZ.symm,(ne1 (by simp)).symm⟩⟩
  have e1:=r1.length
  have e2:=r2.length
  refine Qg D (S.qv X.A.in1 i1 a1 us.toArray (I.ok.hd hc) (ne1 (by simp))) (S.qv X.A.in1 i2 a2 vs.toArray (I.ok.hd hc) (ne2 (by simp))) hz hTI hTO (k:=i) ⟨h1,p1⟩ ⟨h2,p2⟩ (by simp only[afF];omega) fun h' tk kp=>?_
  refine⟨rfl,I.MC (ch:=[z,TO,i1,i2]) (fun b hb=>hf b ?_) fun c o hcn e=>?_⟩
  ·simp only[afv,afK,or_false]at hb ⊢
   rcases hb with rfl|rfl|rfl|rfl<;>simp
  ·simp only[afv,afK,or_false,not_or]at hcn
   exact kp c o hcn.1 hcn.2.1 hcn.2.2.1 hcn.2.2.2 e
 self:=fun A i s Q E st h=>aiD st.1 h
section
variable {X:Cx}{es':List Expr}{kt:Nat}{pt:Pos}
def Ij(Sq:Hp→Addr→List V→Prop) (ta:TA):TI:=fun σ H R=>ta σ H fun vs H1=>∃a b,vs=[.ref a,.ref b]∧(∃xs ys,Sq H1 a xs∧Sq H1 b ys)∧R (xQ Sq a b) H1
theorem Eo{pins:List (Addr×Obj)}{σ:St}{H:Hp}{s:Shared}{n:Nat}(I:Inv X pins σ H s) (hn:s.heap.objs.size=n):∀b∈[n+4,n+2,n+3,n,n+1],fu X pins H b:=fun b hb=>by
 have:s.heap.objs.size≤b:=by
  simp only[afv,afK,or_false]at hb
  rcases hb with rfl|rfl|rfl|rfl|rfl<;>rw[hn]
  ·exact ag3 _ _
  ·exact ag3 _ _
  ·exact ag3 _ _
  ·exact afs _
  ·exact ag3 _ _
 exact I.tw this (I.hok.fresh this)
theorem Rt{a b:Expr}{ta:TA}{p pos:Pos}(hg:Gl X "zip") (hm:X.mg "zip"=none) (ha:PA X [a,b] ta) (hs:starEach [a,b] X.env=[(false,eval a X.env),(false,eval b X.env)]:=by rfl) (hs2:starEach [b] X.env=[(false,eval b X.env)]:=by rfl) :
  PI X (.Tuple es' kt pt) (.Call (.Name "zip" p) [a,b] [] pos) (Ij (bB X.K) ta):=by
 intro pins s σ H R I h
 refine Call_ (kW I hg hm boot_zip (agS (aY (ha pos pins s σ H _ I h) fun us s1 ⟨vs,H1,I1,r1,q1⟩=>?_) (by rw[hs,hs2]) (by rw[hs2];rfl)))
 obtain⟨a1,a2,e,⟨xs,ys,q1,q2⟩,q⟩:=q1
 subst e
 cases r1 with
 |cons r rr =>
  cases rr with
  |cons r' rr =>
   cases rr
   cases r
   cases r'
   obtain⟨us,ru,pu,lu⟩:=I1.tuple q1
   obtain⟨vs,rv,pv,lv⟩:=I1.tuple q2
   refine abV pu pv fun h' hz hTI hTO t1 t2 kp=>aiD hz ?_
   generalize hn:s1.heap.objs.size=n at hz hTI hTO t1 t2
   have ne:∀{i j:Nat},i≠j→n+i≠n+j:=fun h e=>h (ahU e)
   have jo:∀{i:Nat},i≠0→n+i≠n:=fun h e=>h (ahU (e.trans (aiE n).symm))
   refine⟨n+4,_,_,_,H1,rfl,I1.kept (t':=s1.toks) kp,EI OF a1 a2 (n+4) (n+2) (n+3) n (n+1) (ne (by decide)) (ne (by decide)) (ne (by decide)) (jo (by decide)) (ne (by decide)) (jo (by decide)) (ne (by decide)) (jo (by decide)).symm (ne (by decide)) (jo (by decide)).symm,⟨hz,hTI,⟨_,_,hTO⟩,t1,t2⟩,Eo I1 hn,q⟩
theorem Ru{a b:Expr}{ta:TA}{p pos:Pos}(hg:Gl X "zip") (hm:X.mg "zip"=none) (ha:PA X [a,b] ta) (hs:starEach [a,b] X.env=[(false,eval a X.env),(false,eval b X.env)]:=by rfl) (hs2:starEach [b] X.env=[(false,eval b X.env)]:=by rfl) :
  PI X (.Tuple es' kt pt) (.Call (.Name "zip" p) [a,b] [] pos) (Ij (aZ X.K) ta):=by
 intro pins s σ H R I h
 refine Call_ (kW I hg hm boot_zip (agS (aY (ha pos pins s σ H _ I h) fun us s1 ⟨vs,H1,I1,r1,q1⟩=>?_) (by rw[hs,hs2]) (by rw[hs2];rfl)))
 obtain⟨a1,a2,e,⟨xs,ys,q1,q2⟩,q⟩:=q1
 subst e
 cases r1 with
 |cons r rr =>
  cases rr with
  |cons r' rr =>
   cases rr
   cases r
   cases r'
   obtain⟨us,ru,pu,lu⟩:=I1.list q1
   obtain⟨vs,rv,pv,lv⟩:=I1.list q2
   refine call_zip_2 pu.isList pv.isList fun h' hz hTI hTO t1 t2 _ kp=>aiD hz ?_
   generalize hn:s1.heap.objs.size=n at hz hTI hTO t1 t2
   have ne:∀{i j:Nat},i≠j→n+i≠n+j:=fun h e=>h (ahU e)
   have jo:∀{i:Nat},i≠0→n+i≠n:=fun h e=>h (ahU (e.trans (aiE n).symm))
   refine⟨n+4,_,_,_,H1,rfl,I1.kept (t':=s1.toks) kp,EI OG a1 a2 (n+4) (n+2) (n+3) n (n+1) (ne (by decide)) (ne (by decide)) (ne (by decide)) (jo (by decide)) (ne (by decide)) (jo (by decide)) (ne (by decide)) (jo (by decide)).symm (ne (by decide)) (jo (by decide)).symm,⟨hz,hTI,⟨_,_,hTO⟩,t1,t2⟩,Eo I1 hn,q⟩
end
end L2
namespace L2
open PySem PySem.Spec PyProof.Rows
section
variable {X:Cx}
theorem EL{A:Around}{bs:List Bool}{its:List Value}(r:Vals (bs.map V.bl) its):TruthOf X.prog X.w A (fun i v=>its.toArray[i]? = some v) (fun i=>bs.getD i false):=by
 intro i v s Q E hP hQ
 obtain⟨x,ex,rx⟩:=yw r hP
 rw[afS]at ex
 cases e:bs[i]? with
 |none=>rw[e]at ex;cases ex
 |some b =>
  rw[e]at ex
  cases ex
  cases rx
  refine agv ?_
  have:bs.getD i false=b:=by rw[afu,e];rfl
  have hQ:Q (bs.getD i false) s:=hQ
  rw[this]at hQ
  exact hQ
theorem range_all(bs:List Bool):((List.range bs.length).all fun i=>bs.getD i false)=bs.all id:=by
 rw[agD,afG,afG]
 constructor
 ·intro h b hb
  obtain⟨i,hi,e⟩:=ahm.mp hb
  have:=h i (aft.mpr hi)
  rw[afu,afz hi]at this
  rw[←e];exact this
 ·intro h i hi
  have hi:=aft.mp hi
  rw[afu,afz hi]
  exact h _ (afX hi)
theorem range_any(bs:List Bool):((List.range bs.length).any fun i=>bs.getD i false)=bs.any id:=by
 rw[agD,aiF,aiF]
 constructor
 ·rintro ⟨i,hi,h⟩
  have hi:=aft.mp hi
  rw[afu,afz hi]at h
  exact⟨_,afX hi,h⟩
 ·rintro ⟨b,hb,h⟩
  obtain⟨i,hi,e⟩:=ahm.mp hb
  refine⟨i,aft.mpr hi,?_⟩
  rw[afu,afz hi,e];exact h
theorem KS{pins:List (Addr×Obj)}{σ:St}{H:Hp}{s:Shared}{h':Heap}{tk:Nat}{o:Obj}(I:Inv X pins σ H s) (kp:∀b q,b∉[s.heap.objs.size]→(s.heap.push o).get? b=some q→h'.get? b=some q):Inv X pins σ H {s with heap:=h',toks:=tk} :=
 I.kept fun b q e=>kp b q (by simp only[afv,afK,or_false];exact afB (afA e)) (afw _ e)
theorem ab2(hc:X.calm=true):dw X (.builtin "all") (fun xs H Q=>∃(p:Addr) (bs:List Bool),xs=[.ref p]∧aZ X.K H p (bs.map V.bl)∧Q (.bl (bs.all id)) H):=by
 intro pins s σ H xs us Q I r h
 obtain⟨p,bs,rfl,hp,q⟩:=h
 obtain⟨u,rfl,ru⟩:=agb r
 cases ru
 obtain⟨its,rv,pl,hz⟩:=I.list hp
 have hL:=pl.isList
 have By:p≠s.heap.objs.size:=by obtain⟨o,e,_⟩:=hL;exact afB (afA e)
 refine call_all_walk (ahg hL ⟨s.heap.objs.size,_,_,its.toArray.size,_,_,fun i=>bs.getD i false,rfl,ahV (A:=X.A.in1) (I.ok.hd hc) s.heap.objs.size p By its.toArray,⟨⟨_,afI _ rfl,rfl,rfl⟩,hL.push _⟩,EL rv,fun h' tk kp=>?_⟩)
 have hl:=rv.length
 rw[afy]at hl
 have I1:Inv X pins σ H {s with heap:=h',toks:=tk}:=KS I kp
 refine⟨.bl (bs.all id),H,I1,?_,q⟩
 show Value.bool _=Value.bool _
 rw[afF,←hl,range_all]
theorem ab1(hc:X.calm=true):dw X (.builtin "any") (fun xs H Q=>∃(p:Addr) (bs:List Bool),xs=[.ref p]∧aZ X.K H p (bs.map V.bl)∧Q (.bl (bs.any id)) H):=by
 intro pins s σ H xs us Q I r h
 obtain⟨p,bs,rfl,hp,q⟩:=h
 obtain⟨u,rfl,ru⟩:=agb r
 cases ru
 obtain⟨its,rv,pl,hz⟩:=I.list hp
 have hL:=pl.isList
 have By:p≠s.heap.objs.size:=by obtain⟨o,e,_⟩:=hL;exact afB (afA e)
 refine call_any_walk (ahg hL ⟨s.heap.objs.size,_,_,its.toArray.size,_,_,fun i=>bs.getD i false,rfl,ahV (A:=X.A.in1) (I.ok.hd hc) s.heap.objs.size p By its.toArray,⟨⟨_,afI _ rfl,rfl,rfl⟩,hL.push _⟩,EL rv,fun h' tk kp=>?_⟩)
 have hl:=rv.length
 rw[afy]at hl
 have I1:Inv X pins σ H {s with heap:=h',toks:=tk}:=KS I kp
 refine⟨.bl (bs.any id),H,I1,?_,q⟩
 show Value.bool _=Value.bool _
 rw[afF,←hl,range_any]
def tyName(H:Hp):V→String→Prop
 |.aL,n=>n="NoneType"
 |.bl _,n=>n="bool"
 |.int _,n=>n="int"
 |.str _,n=>n="str"
 |.ref a,n=>(n="list"∧((∃xs,H a=some (.lst xs))∨∃o xs,H a=some (.ez o (.lst xs))))∨(n="tuple"∧∃xs,H a=some (.tup xs))∨(n="dict"∧((∃k,H a=some (.dK k))∨∃k,H a=some (.dT k)))
 |_,_=>False
theorem My{K:PySem.W.Frag}{H:Hp}{x:V}{n:String}(h:tyName H x n):gC K H x (.type n):=by
 cases x with
 |aL=>cases(show n="NoneType" from h);exact .aL
 |bl b=>cases(show n="bool" from h);exact .bl b
 |int b=>cases(show n="int" from h);exact .int b
 |str b=>cases(show n="str" from h);exact .str b
 |ref a =>
  rcases h with⟨rfl,⟨xs,e⟩|⟨o,xs,e⟩⟩|⟨rfl,xs,e⟩|⟨rfl,⟨k,e⟩|⟨k,e⟩⟩
  ·exact .lst e
  ·exact .ez e
  ·exact .tup e
  ·exact .dK e
  ·exact .dT e
 |_=>exact False.elim h
def rH(n T:String):Bool:=n==T||(n=="bool"&&T=="int")
def WM(n T:String):Option Bool:=if(Value.type n==Value.type T)=true then some true else if PySem.W.kitMeta T=true then(fastBuiltinMro n).map (·.contains (Value.type T))else none
theorem HE{K:PySem.W.Frag}{n T:String}(hn:n∈["NoneType","bool","int","str","list","tuple","dict"]) (hT:T∈["bool","int","str","list","tuple","dict"]):PySem.W.kitOne K (.type n) (.type T)=some (rH n T):=by
 show WM n T=some (rH n T)
 simp only[afv,afK,or_false]at hn hT
 rcases hn with rfl|rfl|rfl|rfl|rfl|rfl|rfl<;>rcases hT with rfl|rfl|rfl|rfl|rfl|rfl<;>decide +kernel
theorem Mz{H:Hp}{x:V}{n:String}(h:tyName H x n):n∈["NoneType","bool","int","str","list","tuple","dict"]:=by
 cases x with
 |aL=>cases(show n="NoneType" from h);simp
 |bl b=>cases(show n="bool" from h);simp
 |int b=>cases(show n="int" from h);simp
 |str b=>cases(show n="str" from h);simp
 |ref a=>rcases h with⟨rfl,_⟩|⟨rfl,_⟩|⟨rfl,_⟩<;>simp
 |_=>exact False.elim h
theorem ab0:dw X (.builtin "isinstance") (fun xs H Q=>∃x n T,xs=[x,.ty T]∧tyName H x n∧T∈["bool","int","str","list","tuple","dict"]∧Q (.bl (rH n T)) H):=by
 intro pins s σ H xs us Q I r h
 obtain⟨x,n,T,rfl,hx,hT,q⟩:=h
 obtain⟨u,v,rfl,ru,rv⟩:=Vals.two r
 cases(show v=Value.type T from rv)
 exact XU I ru (My hx) (HE (Mz hx) hT) fun tk=>⟨.bl _,H,I.tok tk,rfl,q⟩
end
end L2
namespace L2
open PySem PySem.Spec PyProof.Rows
def ZK(ea C:Addr):Heap→Prop:=fun h=>∃o,h.get? ea=some o∧o.cls=.ref C
def ZT(a:Addr):Heap→Prop:=PySem.W.KitAt a "dict"
structure Def (K:PySem.W.Frag) (mg:Str→Option Value) (x:Str) (st:Stmt) (ps:List Str) (f:Addr) (fd:FuncData):Prop where
 fn:nL K x x st f fd
 at':mg x=some (.ref f)
 bd:Binds K fd ps []
section
variable {X:Cx}
theorem RS{x:Str}{st:Stmt}{ps:List Str}{f:Addr}{fd:FuncData}{k:Nat}{sp:Sp}{e:Expr}{es:List Expr}{t:TA}{p pos:Pos}(D:Def X.K X.mg x st ps f fd) (G:bF X.prog X.w X.K X.mg X.base bG k f fd ps sp) (hr:dR k X.A) (ha:PA X (e::es) t) (hg:Gl X x:=by rfl)
  (hdb:(x==("__debug__":Str))=false:=by decide) (he:starEach (e::es) X.env=(false,eval e X.env)::starEach es X.env:=by rfl) (hpl:(backTo pos (starEach es X.env)).any (·.1)=false:=by rfl) :
  PE X (.Call (.Name x p) (e::es) [] pos) (EZ sp [] E0 t):=RW G hr hg D.at' D.fn.kp D.bd .nil Sg ha hdb he hpl
theorem RJ{x:Str}{n:String}{pos:Pos}(hg:Gl X x) (hm:X.mg x=none) (hv:bootBuiltins x=some (.type n)) (hn:x≠"__name__":=by decide) (hd:(x==("__debug__":Str))=false:=by decide):PE X (.Name x pos) (tC (.ty n)):=RX hg hm hv rfl hn hd
end
end L2
namespace L2
open PySem PySem.Spec PyProof.Rows
def isStar:Expr→Bool
 |.Starred _ _=>true
 |_=>false
theorem cL{a:Expr}{es:List Expr}{env:Env}(h:isStar a=false):starEach (a::es) env=(false,eval a env)::starEach es env:=by
 cases a<;>first|(cases h;done)|(simp only[starEach];done)
def noStar(es:List Expr):Bool:=es.all fun a=>!isStar a
theorem fc{es:List Expr}{env:Env}{pos:Pos}(h:noStar es=true):(backTo pos (starEach es env)).any (·.1)=false:=by
 induction es with
 |nil=>simp only[starEach];rfl
 |cons a es ih =>
  have h:(!isStar a&&noStar es)=true:=h
  rw[afE]at h
  rw[cL (by simpa using h.1)]
  have:=ih h.2
  simpa[backTo]using this
theorem nW{a:Expr}{env:Env}(h:isStar a=false):starEach [a] env=[(false,eval a env)]:=by
 rw[cL h];simp only[starEach]
theorem Fb{a b:Expr}{env:Env}(h:isStar a=false) (g:isStar b=false):starEach [a,b] env=[(false,eval a env),(false,eval b env)]:=by
 rw[cL h,nW g]
theorem uD{a:Expr}{env:Env}{pos:Pos}(h:isStar a=false):((backTo pos (starEach [a] env)).all (fun x=>!x.1)&&(backToKw pos (keywordEach [] env)).all (fun x=>x.1.isSome)
   && decide ([a].length+([]:List Keyword).length+(if([]:List Keyword).isEmpty then 0 else 1)<30))=true:=by
 rw[nW h];simp[backTo,backToKw,keywordEach]
inductive D where
 |aL|bl (b:Bool)|int (i:Int)|str (x:Str)|ty (n:String)|tup (l:List D)|lst (l:List D)|ref (k:Nat)|cG (l:List Int)|fn (x:Str) (n:Nat)|exc (x:Str)|lF|dct (ks:List (Int×Int))|lam (k:Nat) (e:Expr) (ns:List Str) (l:List D)
inductive Cell where
 |lst (l:List D)
mutual
def noRef:D→Bool
 |.tup l=>bD l
 |.lst l=>bD l
 |.ref _=>false
 |.aL=>true
 |.bl _=>true
 |.int _=>true
 |.str _=>true
 |.ty _=>true
 |.cG _=>true
 |.fn _ _=>true
 |.exc _=>true
 |.lF=>true
 |.dct _=>true
 |.lam _ _ _ _=>false
def bD:List D→Bool
 |[]=>true
 |d::l=>noRef d&&bD l
end
theorem sd:∀{l m:List D},bD (l++m)=(bD l&&bD m)
 |[],m=>by simp[bD]
 |d::l,m=>by simp[bD,sd (l:=l),Bool.and_assoc]
theorem GY:∀{l:List D}{i:Nat}{d:D},bD l=true→noRef d=true→bD (l.set i d)=true
 |[],i,d,h,g=>h
 |b::l,0,d,h,g=>by simp_all[bD]
 |b::l,i+1,d,h,g=>by
  simp only[bD,afE]at h
  simp only[ag4,bD,afE]
  exact⟨h.1,GY h.2 g⟩
theorem iy:∀{l:List D},bD l=true↔∀d∈l,noRef d=true
 |[]=>by simp[bD]
 |d::l=>by simp[bD,iy (l:=l)]
theorem zx{l:List Int}:bD (l.map D.int)=true:=iy.mpr fun d h=>by
 obtain⟨i,_,rfl⟩:=afx.mp h
 rfl
inductive R (α:Type) where
 |ok (a:α) (c:List Cell)
 |bad
def R.bind{α β:Type}(r:R α) (f:α→List Cell→R β):R β:=match r with
 |.ok a c=>f a c
 |.bad=>.bad
@[simp] theorem R.aD{α β:Type}{a:α}{c:List Cell}{f:α→List Cell→R β}:(R.ok a c).bind f=f a c:=rfl
@[simp] theorem R.afl{α β:Type}{f:α→List Cell→R β}:(R.bad:R α).bind f=.bad:=rfl
def HD:List Str:=["greatest_among","web_of","other_web","turned_at","pairs_web","field_web","net_web"]
def WJ(x:Str):Str:=x++".<locals>."++"<lambda>"
def JM(c:Addr) (q:Str):Heap→Prop:=fun h=>h.CodeRec (.ref c) q
def WK(a:Addr) (o:Obj):Heap→Prop:=fun h=>h.get? a=some o
def adu(e:Expr) (o:Obj) (q:Str) (c:Addr) (cl:List (Str×Addr)):Prop:=match e with
 |.Lambda params body scope _=>∃pm ctv,o=PySem.W.kla_obj "<lambda>" q params body scope cl pm c ctv
 |_=>False
def XX:HO→Bool
 |.dS _=>true
 |_=>false
def rm(H:Hp) (cl:List (Str×Addr)):List Str→List V→Prop
 |[],xs=>xs=[]
 |x::ns,xs=>∃v r c oc u,xs=v::r∧cl.lookup x=some c∧H c=some (.ez oc (.own 0))∧oc.data=.cell (some u)∧RelV v u∧rm H cl ns r
def adz(cl:List (Str×Addr)) (ns:List Str):Prop:=(∀x y c,cl.lookup x=some c→cl.lookup y=some c→x=y)∧∀x c,cl.lookup x=some c→x∈ns
def TabAt(H:Hp) (P:Addr) (q:Str):Prop:=∃ps,H P=some (.dS ps)∧TriplesOk ps.toList∧∀pos cv,codeAmong pos ps.toList=some cv→∃c,cv=.ref c∧H c=some (.ext (JM c q))
def t6(K:PySem.W.Frag) (H:Hp):Prop:=∀x∈HD,∀c P,PySem.W.tabIn K x=some (c,P)→TabAt H P (WJ x)
theorem rm.mono{H H':Hp}{cl:List (Str×Addr)}:∀{ns:List Str}{xs:List V},(∀c o,H c=some (.ez o (.own 0))→H' c=some (.ez o (.own 0)))→rm H cl ns xs→rm H' cl ns xs
 |[],_,_,h=>h
 |x::ns,xs,k,h=>by
  obtain⟨v,r,c,oc,u,e,h0,h1,h2,h3,h4⟩:=h
  exact⟨v,r,c,oc,u,e,h0,k _ _ h1,h2,h3,rm.mono k h4⟩
theorem TabAt.mono{H H':Hp}{P:Addr}{q:Str}(h:TabAt H P q) (k1:∀ps,H P=some (.dS ps)→H' P=some (.dS ps)) (k2:∀c φ,H c=some (.ext φ)→H' c=some (.ext φ)):TabAt H' P q:=by
 obtain⟨ps,h1,h2,h3⟩:=h
 exact⟨ps,k1 ps h1,h2,fun pos cv e=>let⟨c,e1,e2⟩:=h3 pos cv e;⟨c,e1,k2 _ _ e2⟩⟩
theorem t6.mono{K:PySem.W.Frag}{H H':Hp}(h:t6 K H) (k1:∀P ps,H P=some (.dS ps)→H' P=some (.dS ps)) (k2:∀c φ,H c=some (.ext φ)→H' c=some (.ext φ)):t6 K H':=fun x hx c P e=>(h x hx c P e).mono (k1 P) k2
def t7(K:PySem.W.Frag) (ρ:List Addr) (H:Hp) (a:Addr) (xs:List V):Prop:=(Rd H a (.lst xs)∧a∉ρ)∨aZ K (fun _=>none) a xs
mutual
def Rel(K:PySem.W.Frag) (ρ:List Addr) (H:Hp):D→V→Prop
 |.aL,v=>v=.aL
 |.bl b,v=>v=.bl b
 |.int i,v=>v=.int i
 |.str x,v=>v=.str x
 |.ty n,v=>v=.ty n
 |.tup l,v=>∃a xs,v=.ref a∧H a=some (.tup xs)∧aN K ρ H l xs
 |.lst l,v=>∃a xs,v=.ref a∧(H a=some (.lst xs)∧a∉ρ)∧aN K ρ H l xs
 |.ref k,v=>∃a,v=.ref a∧ρ[k]? = some a
 |.cG l,v=>∃a,v=.ref a∧t7 K ρ H a (l.map V.int)
 |.fn x n,v=>∃a,v=.ref a∧PySem.W.nsIn K mainGlobals x=some (some (.ref a))
 |.lF,v=>∃a,v=.ref a∧H a=some (.ext (ZT a))
 |.dct ks,v=>∃a kvs,v=.ref a∧H a=some (.dT kvs)∧∀p:Int×Int,((kvs.any fun kv=>decide (kv.1=[Sum.inl p.1,Sum.inl p.2]))=decide (p∈ks))
 |.exc x,v=>∃a C,v=.ref a∧PySem.W.nsIn K mainGlobals x=some (some (.ref C))∧H a=some (.ext (ZK a C))
 |.lam _ e ns l,v=>∃a o q c cl xs,v=.ref a∧H a=some (.ext (WK a o))∧adu e o q c cl∧H c=some (.ext (JM c q))∧adz cl ns∧rm H cl ns xs∧aN K ρ H l xs
def aN(K:PySem.W.Frag) (ρ:List Addr) (H:Hp):List D→List V→Prop
 |[],xs=>xs=[]
 |d::l,xs=>∃x r,xs=x::r∧Rel K ρ H d x∧aN K ρ H l r
end
theorem t7.sql{K:PySem.W.Frag}{ρ:List Addr}{H:Hp}{a:Addr}{xs:List V}(h:t7 K ρ H a xs):aZ K H a xs:=by
 rcases h with⟨h,_⟩|(h|h)
 ·exact .inl h
 ·rcases h with h|⟨o,h⟩<;>cases h
 ·exact .inr h
def adA(K:PySem.W.Frag) (ρ:List Addr) (H:Hp) (a:Addr):Cell→Prop
 |.lst l=>bD l=true∧∃xs,H a=some (.lst xs)∧aN K ρ H l xs
structure Wd (K:PySem.W.Frag) (ρ:List Addr) (H:Hp) (c:List Cell):Prop where
 nd:ρ.Nodup
 len:ρ.length=c.length
 e7:∀(k:Nat) (a:Addr) (cl:Cell),ρ[k]? = some a→c[k]? = some cl→adA K ρ H a cl
 tab:t6 K H
structure Ext (ρ:List Addr) (H:Hp) (ρ':List Addr) (H':Hp):Prop where
 pre:∀(k:Nat) (a:Addr),ρ[k]? = some a→ρ'[k]? = some a
 keep:∀a o,H a=some o→a∉ρ→XX o=false→H' a=some o∧a∉ρ'
theorem Ext.refl{ρ:List Addr}{H:Hp}:Ext ρ H ρ H:=⟨fun _ _ h=>h,fun _ _ h n _=>⟨h,n⟩⟩
theorem Ext.trans{ρ aO cT:List Addr}{H H1 H2:Hp}(x:Ext ρ H aO H1) (y:Ext aO H1 cT H2):Ext ρ H cT H2 :=
 ⟨fun k a h=>y.pre k a (x.pre k a h),fun a o h n t=>let⟨h1,n1⟩:=x.keep a o h n t;y.keep a o h1 n1 t⟩
section
variable {K:PySem.W.Frag}{ρ ρ':List Addr}{H H':Hp}{c c':List Cell}
theorem Wd.at'(W:Wd K ρ H c) {a:Addr}(h:a∈ρ):∃xs,H a=some (.lst xs):=by
 obtain⟨k,hk,e⟩:=ahm.mp h
 have hc:k<c.length:=by rw[←W.len];exact hk
 have q:=W.e7 k a c[k] (by rw[afz hk,e]) (afz hc)
 cases hcl:c[k]with
 |lst l=>rw[hcl]at q;obtain⟨_,xs,h,_⟩:=q;exact⟨xs,h⟩
theorem Wd.Vb(W:Wd K ρ H c) {a:Addr}{xs:List V}(h:H a=some (.tup xs)):a∉ρ:=fun m=>by
 obtain⟨ys,e⟩:=W.at' m
 rw[e]at h;cases h
theorem Wd.nil(W:Wd K ρ H c) {a:Addr}(h:H a=none):a∉ρ:=fun m=>by
 obtain⟨ys,e⟩:=W.at' m
 rw[e]at h;cases h
theorem rE(W:Wd K ρ H c) (x:Ext ρ H ρ' H') {a:Addr}{xs:List V}(h:H a=some (.tup xs)):H' a=some (.tup xs):=(x.keep a _ h (W.Vb h) rfl).1
theorem zO(x:Ext ρ H ρ' H') {a:Addr}{xs:List V}(h:H a=some (.lst xs)∧a∉ρ):H' a=some (.lst xs)∧a∉ρ':=x.keep a _ h.1 h.2 rfl
theorem Fg(x:Ext ρ H ρ' H') {a:Addr}{xs:List V}(h:t7 K ρ H a xs):t7 K ρ' H' a xs:=by
 rcases h with⟨h,n⟩|h
 ·rcases h with h|⟨o,h⟩
  ·exact .inl ⟨.inl (x.keep a _ h n rfl).1,(x.keep a _ h n rfl).2⟩
  ·exact .inl ⟨.inr ⟨o,(x.keep a _ h n rfl).1⟩,(x.keep a _ h n rfl).2⟩
 ·exact .inr h
mutual
theorem Rel.mono(W:Wd K ρ H c) (x:Ext ρ H ρ' H'):∀(d:D) (v:V),Rel K ρ H d v→Rel K ρ' H' d v
 |.aL,v,h=>h
 |.bl b,v,h=>h
 |.int i,v,h=>h
 |.str y,v,h=>h
 |.ty n,v,h=>h
 |.tup l,v,h=>by
  obtain⟨a,xs,e,s,r⟩:=h
  exact⟨a,xs,e,rE W x s,aN.mono W x l xs r⟩
 |.lst l,v,h=>by
  obtain⟨a,xs,e,s,r⟩:=h
  exact⟨a,xs,e,zO x s,aN.mono W x l xs r⟩
 |.ref k,v,h=>by
  obtain⟨a,e,s⟩:=h
  exact⟨a,e,x.pre k a s⟩
 |.cG l,v,h=>by
  obtain⟨a,e,s⟩:=h
  exact⟨a,e,Fg x s⟩
 |.fn a n,v,h=>h
 |.lF,v,h=>by
  obtain⟨a,e,q⟩:=h
  exact⟨a,e,(x.keep a _ q (fun m=>by obtain⟨ys,z⟩:=W.at' m;rw[z]at q;cases q) rfl).1⟩
 |.dct ks,v,h=>by
  obtain⟨a,kvs,e,q,z⟩:=h
  exact⟨a,kvs,e,(x.keep a _ q (fun m=>by obtain⟨ys,z⟩:=W.at' m;rw[z]at q;cases q) rfl).1,z⟩
 |.exc y,v,h=>by
  obtain⟨a,C,e,n,q⟩:=h
  exact⟨a,C,e,n,(x.keep a _ q (fun m=>by obtain⟨ys,z⟩:=W.at' m;rw[z]at q;cases q) rfl).1⟩
 |.lam _ y ns l,v,h=>by
  obtain⟨a,o,q,c,cl,xs,e,h1,h2,h3,h4,h5,h6⟩:=h
  have nr:∀(b:Addr) (u:HO),H b=some u→(∀ys,u≠.lst ys)→b∉ρ:=fun b u q n m=>by obtain⟨ys,z⟩:=W.at' m;rw[z]at q;exact n ys (afN q).symm
  exact⟨a,o,q,c,cl,xs,e,(x.keep a _ h1 (nr a _ h1 fun _ z=>nomatch z) rfl).1,h2,(x.keep c _ h3 (nr c _ h3 fun _ z=>nomatch z) rfl).1,h4,h5.mono (fun b o z=>(x.keep b _ z (nr b _ z fun _ z=>nomatch z) rfl).1),aN.mono W x l xs h6⟩
theorem aN.mono(W:Wd K ρ H c) (x:Ext ρ H ρ' H'):∀(l:List D) (xs:List V),aN K ρ H l xs→aN K ρ' H' l xs
 |[],xs,h=>h
 |d::l,xs,h=>by
  obtain⟨y,r,e,h1,h2⟩:=h
  exact⟨y,r,e,Rel.mono W x d y h1,aN.mono W x l r h2⟩
end
theorem aN.length:∀{l:List D}{xs:List V},aN K ρ H l xs→xs.length=l.length
 |[],xs,h=>by cases(show xs=[]from h);rfl
 |d::l,xs,h=>by
  obtain⟨y,r,rfl,h1,h2⟩:=h
  simp only[afO,aN.length h2]
theorem aN.get:∀{l:List D}{xs:List V}{i:Nat}{d:D},aN K ρ H l xs→l[i]? = some d→∃x,xs[i]? = some x∧Rel K ρ H d x
 |[],_,_,_,_,e=>by cases e
 |_::l,_,0,_,h,e=>by
  obtain⟨y,r,rfl,h1,h2⟩:=h
  cases e
  exact⟨y,rfl,h1⟩
 |_::l,_,i+1,_,h,e=>by
  obtain⟨y,r,rfl,h1,h2⟩:=h
  exact aN.get (i:=i) h2 e
theorem aN.append:∀{l m:List D}{xs ys:List V},aN K ρ H l xs→aN K ρ H m ys→aN K ρ H (l++m) (xs++ys)
 |[],m,xs,ys,h,g=>by cases(show xs=[]from h);exact g
 |d::l,m,xs,ys,h,g=>by
  obtain⟨y,r,rfl,h1,h2⟩:=h
  exact⟨y,r++ys,rfl,h1,aN.append h2 g⟩
theorem aN.set:∀{l:List D}{xs:List V}{d:D}{x:V}(i:Nat),aN K ρ H l xs→Rel K ρ H d x→aN K ρ H (l.set i d) (xs.set i x)
 |[],xs,d,x,i,h,g=>by cases(show xs=[]from h);exact rfl
 |b::l,xs,d,x,0,h,g=>by
  obtain⟨y,r,rfl,h1,h2⟩:=h
  exact⟨x,r,rfl,g,h2⟩
 |b::l,xs,d,x,i+1,h,g=>by
  obtain⟨y,r,rfl,h1,h2⟩:=h
  exact⟨y,r.set i x,rfl,h1,aN.set i h2 g⟩
theorem aN.take:∀{l:List D}{xs:List V}(n:Nat),aN K ρ H l xs→aN K ρ H (l.take n) (xs.take n)
 |l,xs,0,h=>by simp only[List.take_zero];exact rfl
 |[],xs,n+1,h=>by cases(show xs=[]from h);exact rfl
 |d::l,xs,n+1,h=>by
  obtain⟨y,r,rfl,h1,h2⟩:=h
  exact⟨y,r.take n,rfl,h1,aN.take n h2⟩
theorem aN.drop:∀{l:List D}{xs:List V}(n:Nat),aN K ρ H l xs→aN K ρ H (l.drop n) (xs.drop n)
 |l,xs,0,h=>h
 |[],xs,n+1,h=>by cases(show xs=[]from h);exact rfl
 |d::l,xs,n+1,h=>by
  obtain⟨y,r,rfl,h1,h2⟩:=h
  exact aN.drop n h2
theorem aN.ints{l:List Int}:aN K ρ H (l.map D.int) (l.map V.int):=by
 induction l with
 |nil=>exact rfl
 |cons a l ih=>exact⟨_,_,rfl,rfl,ih⟩
theorem aN.Bo:∀{l:List Int}{xs:List V},aN K ρ H (l.map D.int) xs→xs=l.map V.int
 |[],xs,h=>h
 |a::l,xs,h=>by
  obtain⟨y,r,rfl,h1,h2⟩:=h
  cases(show y=V.int a from h1)
  rw[aN.Bo h2];rfl
theorem aN.DV:∀{l:List Bool}{xs:List V},aN K ρ H (l.map D.bl) xs→xs=l.map V.bl
 |[],xs,h=>h
 |a::l,xs,h=>by
  obtain⟨y,r,rfl,h1,h2⟩:=h
  cases(show y=V.bl a from h1)
  rw[aN.DV h2];rfl
theorem Ext.fresh{p:Addr}{o:HO}(W:Wd K ρ H c) (h:H p=none):Ext ρ H ρ (upd H p o) :=
 ⟨fun _ _ e=>e,fun a u e n _=>⟨by rw[bO (dz e h)];exact e,n⟩⟩
theorem Wd.fresh{p:Addr}{o:HO}(W:Wd K ρ H c) (h:H p=none):Wd K ρ (upd H p o) c :=
 ⟨W.nd,W.len,fun k a cl e1 e2=>by
  have q:=W.e7 k a cl e1 e2
  cases cl with
  |lst l =>
   obtain⟨nr,xs,e,r⟩:=q
   exact⟨nr,xs,by rw[bO (dz e h)];exact e,aN.mono W (Ext.fresh W h) l xs r⟩,
  W.tab.mono (fun P ps e=>by rw[bO (dz e h)];exact e) (fun b φ e=>by rw[bO (dz e h)];exact e)⟩
theorem Ext.cell{p:Addr}{o:HO}(W:Wd K ρ H c) (h:H p=none):Ext ρ H (ρ++[p]) (upd H p o) :=
 ⟨fun k a e=>by rw[af7 (afJ.mp e).1];exact e,fun a u e n _=>⟨by rw[bO (dz e h)];exact e,by
  rw[af3]
  rintro (z|z)
  ·exact n z
  ·exact dz e h (by simpa using z)⟩⟩
theorem Wd.cell{p:Addr}{l:List D}{xs:List V}(W:Wd K ρ H c) (h:H p=none) (nr:bD l=true) (r:aN K ρ H l xs):Wd K (ρ++[p]) (upd H p (.lst xs)) (c++[.lst l]):=by
 have X:=Ext.cell (o:=.lst xs) W h
 refine⟨?_,by simp[W.len],fun k a cl e1 e2=>?_,W.tab.mono (fun P ps e=>by rw[bO (dz e h)];exact e) (fun b φ e=>by rw[bO (dz e h)];exact e)⟩
 ·rw[ag5]
  refine⟨W.nd,by simp,?_⟩
  intro a ha b hb
  rw[af1]at hb
  subst hb
  exact fun z=>W.nil h (z▸ha)
 ·by_cases hk:k<c.length
  ·rw[af7 hk]at e2
   rw[af7 (by rw[W.len];exact hk)]at e1
   have q:=W.e7 k a cl e1 e2
   cases cl with
   |lst l' =>
    obtain⟨pU,ys,e,r'⟩:=q
    exact⟨pU,ys,by rw[bO (dz e h)];exact e,aN.mono W X l' ys r'⟩
  ·have hk':k=c.length:=by
    have:=(afJ.mp e2).1
    simp at this
    omega
   subst hk'
   rw[ago (afs _),ag6]at e2
   rw[ago (by rw[W.len];exact afs _),W.len,ag6]at e1
   cases e1;cases e2
   exact⟨nr,xs,fK,aN.mono W X l xs r⟩
theorem Ext.write{k:Nat}{p:Addr}{o:HO}(h:ρ[k]? = some p):Ext ρ H ρ (upd H p o) :=
 ⟨fun _ _ e=>e,fun a u e n _=>⟨by rw[bO (fun z=>n (by rw[z];exact afT h))];exact e,n⟩⟩
theorem Wd.write{k:Nat}{p:Addr}{l:List D}{xs:List V}(W:Wd K ρ H c) (h:ρ[k]? = some p) (nr:bD l=true) (r:aN K ρ H l xs):Wd K ρ (upd H p (.lst xs)) (c.set k (.lst l)):=by
 have X:=Ext.write (H:=H) (o:=.lst xs) h
 obtain⟨ys,hy⟩:=W.at' (afT h)
 refine⟨W.nd,by simp[W.len],fun j a cl e1 e2=>?_,W.tab.mono (fun P ps e=>by rw[bO (G3 e hy fun z=>nomatch z)];exact e) (fun b φ e=>by rw[bO (G3 e hy fun z=>nomatch z)];exact e)⟩
 by_cases hj:j=k
 ·subst hj
  rw[h]at e1;cases e1
  have hl:j<c.length:=by rw[←W.len];exact(afJ.mp h).1
  rw[agn hl]at e2
  cases e2
  exact⟨nr,xs,fK,aN.mono W X l xs r⟩
 ·rw[agu (af8 hj)]at e2
  have q:=W.e7 j a cl e1 e2
  have hap:a≠p:=by
   intro e
   subst e
   have h1:=(afJ.mp h)
   have h2:=(afJ.mp e1)
   exact hj ((ahF W.nd (h₀:=h2.1) (h₁:=h1.1)).mp (h2.2.trans h1.2.symm))
  cases cl with
  |lst l' =>
   obtain⟨pU,ys,e,r'⟩:=q
   exact⟨pU,ys,by rw[bO hap];exact e,aN.mono W X l' ys r'⟩
mutual
theorem Rel.low(h:∀a,a∈ρ'→a∈ρ):∀(d:D) (v:V),noRef d=true→Rel K ρ H d v→Rel K ρ' H d v
 |.aL,v,_,r=>r
 |.bl b,v,_,r=>r
 |.int i,v,_,r=>r
 |.str y,v,_,r=>r
 |.ty n,v,_,r=>r
 |.tup l,v,n,r=>by
  obtain⟨a,xs,e,s,r⟩:=r
  exact⟨a,xs,e,s,aN.low h l xs n r⟩
 |.lst l,v,n,r=>by
  obtain⟨a,xs,e,s,r⟩:=r
  exact⟨a,xs,e,⟨s.1,fun q=>s.2 (h a q)⟩,aN.low h l xs n r⟩
 |.ref k,v,n,r=>by cases n
 |.cG l,v,n,r=>by
  obtain⟨a,e,s⟩:=r
  refine⟨a,e,?_⟩
  rcases s with⟨s,z⟩|s
  ·exact .inl ⟨s,fun q=>z (h a q)⟩
  ·exact .inr s
 |.fn a m,v,n,r=>r
 |.exc y,v,n,r=>r
 |.lF,v,n,r=>r
 |.dct _,v,n,r=>r
 |.lam _ _ _ _,v,n,r=>by cases n
theorem aN.low(h:∀a,a∈ρ'→a∈ρ):∀(l:List D) (xs:List V),bD l=true→aN K ρ H l xs→aN K ρ' H l xs
 |[],xs,_,r=>r
 |d::l,xs,n,r=>by
  obtain⟨y,ys,e,h1,h2⟩:=r
  have n:(noRef d&&bD l)=true:=n
  rw[afE]at n
  exact⟨y,ys,e,Rel.low h d y n.1 h1,aN.low h l ys n.2 h2⟩
end
theorem Wd.cut{n:Nat}(W:Wd K ρ H c) (hn:n≤c.length):Wd K (ρ.take n) H (c.take n):=by
 have sub:∀a,a∈ρ.take n→a∈ρ:=fun a h=>agO h
 refine⟨W.nd.sublist (aik _ _),by simp[W.len],fun k a cl e1 e2=>?_,W.tab⟩
 rw[ahn]at e1 e2
 split at e1
 ·rename_i hk
  rw[if_pos hk]at e2
  have q:=W.e7 k a cl e1 e2
  cases cl with
  |lst l =>
   obtain⟨nr,xs,e,r⟩:=q
   exact⟨nr,xs,e,aN.low sub l xs nr r⟩
 ·cases e1
theorem Ext.cut{n:Nat}(x:Ext ρ H ρ' H') (hn:ρ.length≤n):Ext ρ H (ρ'.take n) H' :=
 ⟨fun k a e=>by rw[ahn,if_pos (afH (afJ.mp e).1 hn)];exact x.pre k a e,fun a o e z t=>let⟨h1,h2⟩:=x.keep a o e z t;⟨h1,fun q=>h2 (agO q)⟩⟩
theorem Ext.len(W:Wd K ρ H c) (W':Wd K ρ' H' c') (x:Ext ρ H ρ' H'):c.length≤c'.length:=by
 rw[←W.len,←W'.len]
 by_cases h:ρ.length≤ρ'.length
 ·exact h
 ·exfalso
  have h':ρ'.length<ρ.length:=Nat.lt_of_not_le h
  have e:=x.pre ρ'.length ρ[ρ'.length] (afz h')
  rw[aho (afs _)]at e
  cases e
end
abbrev Ev:=List (Option D)
def post{α β:Type}(K:PySem.W.Frag) (Rl:List Addr→Hp→α→β→Prop) (r:R α) (ρ:List Addr) (H:Hp) (Q:β→Hp→Prop):Prop:=match r with
 |.ok a c=>∀ρ' H' b,Wd K ρ' H' c→Ext ρ H ρ' H'→Rl ρ' H' a b→Q b H'
 |.bad=>False
structure dh (K:PySem.W.Frag) (ρ:List Addr) (H:Hp) (e:Ev) (σ:St):Prop where
 get:∀(i:Nat) (d:D),e[i]? = some (some d)→∃v,σ[i]? = some (some v)∧Rel K ρ H d v
 len:e.length=σ.length
def tD{α β:Type}(K:PySem.W.Frag) (Rl:List Addr→Hp→α→β→Prop) (d:Ev→List Cell→R α):St→Hp→(β→Hp→Prop)→Prop :=
 fun σ H Q=>∃ρ e c,Wd K ρ H c∧dh K ρ H e σ∧post K Rl (d e c) ρ H Q
section
variable {α β γ δ:Type}{K:PySem.W.Frag}{ρ ρ':List Addr}{H H':Hp}{c:List Cell}{e:Ev}{σ:St}{Rl:List Addr→Hp→α→β→Prop}{Rm:List Addr→Hp→γ→δ→Prop}
theorem dh.mono(V:dh K ρ H e σ) (W:Wd K ρ H c) (x:Ext ρ H ρ' H'):dh K ρ' H' e σ :=
 ⟨fun i d h=>let⟨v,h1,h2⟩:=V.get i d h;⟨v,h1,Rel.mono W x d v h2⟩,V.len⟩
theorem dh.set(V:dh K ρ H e σ) {d:D}{v:L2.V}(r:Rel K ρ H d v) (i:Nat):dh K ρ H (e.set i (some d)) (σ.set i (some v)):=by
 refine⟨fun j b h=>?_,by simp[V.len]⟩
 by_cases hj:j=i
 ·subst hj
  have hl:j<e.length:=by
   have:=(afJ.mp h).1
   simpa using this
  rw[agn hl]at h
  cases h
  exact⟨v,by rw[agn (by rw[←V.len];exact hl)],r⟩
 ·rw[agu (af8 hj)]at h ⊢
  exact V.get j b h
theorem post.ext{r:R α}{Q:β→Hp→Prop}(p:post K Rl r ρ H Q) (x:Ext ρ H ρ' H'):post K Rl r ρ' H' Q:=by
 cases r with
 |ok a c=>exact fun cT H2 b W y r=>p cT H2 b W (x.trans y) r
 |bad=>exact p
theorem post.bind{r:R α}{f:α→List Cell→R γ}{Q:δ→Hp→Prop}{S:β→Hp→Prop}(p:post K Rm (r.bind f) ρ H Q)
  (h:∀a c1 ρ' H' b,r=.ok a c1→Wd K ρ' H' c1→Ext ρ H ρ' H'→Rl ρ' H' a b→post K Rm (f a c1) ρ' H' Q→S b H'):post K Rl r ρ H S:=by
 cases r with
 |ok a c1=>exact fun ρ' H' b W x r=>h a c1 ρ' H' b rfl W x r (post.ext (r:=f a c1) p x)
 |bad=>exact p
theorem post.here{a:α}{b:β}{Q:β→Hp→Prop}(p:post K Rl (.ok a c) ρ H Q) (W:Wd K ρ H c) (r:Rl ρ H a b):Q b H:=p ρ H b W Ext.refl r
end
abbrev aT(X:Cx) (e:Expr) (d:Ev→List Cell→R D):Prop:=PE X e (tD X.K (Rel X.K) d)
abbrev gD(X:Cx) (e:Expr) (d:Ev→List Cell→R Bool):Prop:=PT X e (tD X.K (fun _ _ a b=>a=b) d)
abbrev qZ(X:Cx) (e:Expr) (d:Ev→List Cell→R Bool):Prop:=PW X e (tD X.K (fun _ _ a b=>a=b) d)
abbrev eF(X:Cx) (es:List Expr) (d:Ev→List Cell→R (List D)):Prop:=PA X es (tD X.K (aN X.K) d)
section
variable {X:Cx}{e:Expr}{es:List Expr}{st:Stmt}{sts:List Stmt}
theorem PE.imp{t t':TE}(h:PE X e t) (i:∀σ H Q,t' σ H Q→t σ H Q):PE X e t':=fun pins s σ H Q I q=>h pins s σ H Q I (i _ _ _ q)
theorem PT.imp{t t':TT}(h:PT X e t) (i:∀σ H Q,t' σ H Q→t σ H Q):PT X e t':=fun pins s σ H Q I q=>h pins s σ H Q I (i _ _ _ q)
theorem PW.imp{t t':TT}(h:PW X e t) (i:∀σ H Q,t' σ H Q→t σ H Q):PW X e t':=fun wh pins s σ H Q I q=>h wh pins s σ H Q I (i _ _ _ q)
theorem PA.imp{t t':TA}(h:PA X es t) (i:∀σ H Q,t' σ H Q→t σ H Q):PA X es t':=fun pos pins s σ H Q I q=>h pos pins s σ H Q I (i _ _ _ q)
theorem PS.imp{t t':TS}(h:PS X st t) (i:∀D σ H,t' D σ H→t D σ H):PS X st t':=fun pins s σ H D I q=>h pins s σ H D I (i _ _ _ q)
theorem fJ.imp{t t':TS}(h:fJ X sts t) (i:∀D σ H,t' D σ H→t D σ H):fJ X sts t':=fun pins s σ H D I q=>h pins s σ H D I (i _ _ _ q)
end
def ak(i:Nat):Ev→List Cell→R D:=fun e c=>match e[i]? with
 |some (some d)=>.ok d c
 |_=>.bad
def dC(d:D):Ev→List Cell→R D:=fun _ c=>.ok d c
section
variable {X:Cx}
theorem av(i:Nat) {x:Str}{pos:Pos}(hN:X.N[i]? = some x:=by rfl) (hv:D9 X.env.scope x:=by first|exact Or.inl rfl|exact Or.inr (Or.inl rfl)|exact Or.inr (Or.inr rfl)) (hd:(x==("__debug__":Str))=false:=by decide)
  (hcd:(x==("__classdict__":Str))=false:=by decide):aT X (.Name x pos) (ak i):=(RH hN hv hd hcd).imp fun σ H Q h=>by
 obtain⟨ρ,e,c,W,V,p⟩:=h
 unfold ak at p
 cases q:e[i]? with
 |none=>rw[q]at p;exact p.elim
 |some o =>
  rw[q]at p
  cases o with
  |none=>exact p.elim
  |some d =>
   obtain⟨v,hv,r⟩:=V.get i d q
   exact⟨v,hv,p.here W r⟩
theorem pQ{e:Expr}{v:V}{d:D}(h:PE X e (tC v)) (r:∀ρ H,Rel X.K ρ H d v):aT X e (dC d):=h.imp fun σ H Q h=>by
 obtain⟨ρ,e,c,W,V,p⟩:=h
 exact post.here (r:=r ρ H) p W
theorem bh{i j pos}:aT X (.Constant (.int i) j pos) (dC (.int i)):=pQ F9 fun _ _=>rfl
theorem pR{b j pos}:aT X (.Constant (.bool b) j pos) (dC (.bl b)):=pQ RY fun _ _=>rfl
theorem ze{j pos}:aT X (.Constant .none j pos) (dC .aL):=pQ RP fun _ _=>rfl
theorem uU{x:Str}{n:String}{pos:Pos}(hg:Gl X x) (hm:X.mg x=none) (hv:bootBuiltins x=some (.type n)) (hn:x≠"__name__":=by decide) (hd:(x==("__debug__":Str))=false:=by decide):aT X (.Name x pos) (dC (.ty n)):=pQ (RJ hg hm hv hn hd) fun _ _=>rfl
theorem zf{x:Str}{i:Int}{t:Tok}{pos:Pos}(hg:Gl X x) (hm:X.mg x=some (.int i t)) (hd:(x==("__debug__":Str))=false:=by decide):aT X (.Name x pos) (dC (.int i)):=pQ (zd (v:=.int i) hg hm ⟨t,rfl⟩ hd) fun _ _=>rfl
end
end L2
namespace L2
open PySem PySem.Spec PyProof.Rows
def au(f:D→D→List Cell→R D) (a b:Ev→List Cell→R D):Ev→List Cell→R D:=fun e c=>(a e c).bind fun x c=>(b e c).bind fun y c=>f x y c
def i8(f:D→List Cell→R D) (a:Ev→List Cell→R D):Ev→List Cell→R D:=fun e c=>(a e c).bind fun x c=>f x c
def r2(K:PySem.W.Frag) (f:D→D→List Cell→R D):R2:=fun v u H Q=>∃ρ x y c,Wd K ρ H c∧Rel K ρ H x v∧Rel K ρ H y u∧post K (Rel K) (f x y c) ρ H Q
def r1(K:PySem.W.Frag) (f:D→List Cell→R D):V→Hp→VK→Prop:=fun v H Q=>∃ρ x c,Wd K ρ H c∧Rel K ρ H x v∧post K (Rel K) (f x c) ρ H Q
def rN(K:PySem.W.Frag) (f:List D→List Cell→R D):List V→Hp→VK→Prop:=fun vs H Q=>∃ρ xs c,Wd K ρ H c∧aN K ρ H xs vs∧post K (Rel K) (f xs c) ρ H Q
def aF(f:List D→List Cell→R D) (a:Ev→List Cell→R (List D)):Ev→List Cell→R D:=fun e c=>(a e c).bind fun xs c=>f xs c
section
variable {X:Cx}{a b:Expr}{da db dd:Ev→List Cell→R D}{pos:Pos}{K:PySem.W.Frag}{σ:St}{H:Hp}{Q:VK}{f:D→D→List Cell→R D}
theorem uz(h:tD K (Rel K) (au f da db) σ H Q):tD K (Rel K) da σ H fun v H1=>tD K (Rel K) db σ H1 fun u H2=>r2 K f v u H2 Q:=by
 obtain⟨ρ,e,c,W,V,p⟩:=h
 refine⟨ρ,e,c,W,V,post.bind p fun x c1 aO H1 v _ W1 X1 r1 p1=>⟨aO,e,c1,W1,V.mono W X1,post.bind p1 fun y c2 cT H2 u _ W2 X2 r2 p2=>⟨cT,x,y,c2,W2,Rel.mono W1 X2 _ _ r1,r2,p2⟩⟩⟩
theorem MP{g:D→List Cell→R D}(h:tD K (Rel K) (i8 g da) σ H Q):tD K (Rel K) da σ H fun v H1=>r1 K g v H1 Q:=by
 obtain⟨ρ,e,c,W,V,p⟩:=h
 exact⟨ρ,e,c,W,V,post.bind p fun x c1 aO H1 v _ W1 X1 r1 p1=>⟨aO,x,c1,W1,r1,p1⟩⟩
theorem EU{g:List D→List Cell→R D}{ds:Ev→List Cell→R (List D)}(h:tD K (Rel K) (aF g ds) σ H Q):tD K (aN K) ds σ H fun vs H1=>rN K g vs H1 Q:=by
 obtain⟨ρ,e,c,W,V,p⟩:=h
 exact⟨ρ,e,c,W,V,post.bind p fun x c1 aO H1 v _ W1 X1 r1 p1=>⟨aO,x,c1,W1,r1,p1⟩⟩
theorem bC{op:Operator}(ho:bf X (binaryOp op) (r2 X.K f)) (ha:aT X a da) (hb:aT X b db):aT X (.BinOp a op b pos) (au f da db):=(RM ho ha hb).imp fun σ H Q h=>uz h
theorem iR{op:CmpOp}(ho:bf X (compareOp op) (r2 X.K f)) (ha:aT X a da) (hb:aT X b db) (hm:behindInMarks op b=false:=by first|exact GU _|rfl):aT X (.Compare a [op] [b] pos) (au f da db):=(RU ho ha hb hm).imp fun σ H Q h=>uz h
theorem R0{op:UnaryOp}{g:D→List Cell→R D}(ho:tZ X (unaryOp op) (r1 X.K g)) (ha:aT X a da):aT X (.UnaryOp op a pos) (i8 g da):=(RI ho ha).imp fun σ H Q h=>MP h
theorem dU(hr:rj X (r2 X.K f)) (ha:aT X a da) (hb:aT X b db) (hs:Ef b:=by exact fun _ _=>rfl):aT X (.Subscript a b pos) (au f da db):=(zc hr ha hb hs).imp fun σ H Q h=>uz h
def m9(f g:D→D→List Cell→R D) (a b d:Ev→List Cell→R D):Ev→List Cell→R D:=fun e c=>(a e c).bind fun x c=>(b e c).bind fun y c=>(f x y c).bind fun z c=>match z with
 |.bl true=>(d e c).bind fun u c=>g y u c
 |.bl false=>.ok (.bl false) c
 |_=>.bad
end
def aq:Ev→List Cell→R (List D):=fun _ c=>.ok [] c
def ao(a:Ev→List Cell→R D) (r:Ev→List Cell→R (List D)):Ev→List Cell→R (List D):=fun e c=>(a e c).bind fun x c=>(r e c).bind fun xs c=>.ok (x::xs) c
def bZ(a:Ev→List Cell→R (List D)):Ev→List Cell→R D:=fun e c=>(a e c).bind fun xs c=>if xs.length≤sizeLine then .ok (.tup xs) c else .bad
def b6(a:Ev→List Cell→R (List D)):Ev→List Cell→R D:=fun e c=>(a e c).bind fun xs c=>if xs.length≤sizeLine then .ok (.lst xs) c else .bad
def dG(a:Ev→List Cell→R (List D)):Ev→List Cell→R D:=fun e c=>(a e c).bind fun xs c=>if xs.length≤sizeLine∧bD xs=true then .ok (.ref c.length) (c++[.lst xs])else .bad
section
variable {X:Cx}{a:Expr}{es:List Expr}{da:Ev→List Cell→R D}{ds:Ev→List Cell→R (List D)}{pos:Pos}{K:PySem.W.Frag}{ρ:List Addr}{H:Hp}{c:List Cell}{Q:VK}{xs:List D}{vs:List V}
theorem aC:eF X [] aq:=iS.imp fun σ H Q h=>by
 obtain⟨ρ,e,c,W,V,p⟩:=h
 exact post.here (b:=[]) p W rfl
theorem ay(ha:aT X a da) (hr:eF X es ds) (hs:starEach (a::es) X.env=(false,eval a X.env)::starEach es X.env:=by exact cL rfl):eF X (a::es) (ao da ds):=(iT ha hr hs).imp fun σ H Q h=>by
 obtain⟨ρ,e,c,W,V,p⟩:=h
 refine⟨ρ,e,c,W,V,post.bind p fun x c1 aO H1 v _ W1 X1 r1 p1=>⟨aO,e,c1,W1,V.mono W X1,post.bind p1 fun y c2 cT H2 u _ W2 X2 r2 p2=>?_⟩⟩
 exact p2.here W2 ⟨v,u,rfl,Rel.mono W1 X2 _ _ r1,r2⟩
theorem vj(W:Wd K ρ H c) (r:aN K ρ H xs vs) (p:post K (Rel K) (.ok (.tup xs) c) ρ H Q):∀q,H q=none→Q (.ref q) (upd H q (.tup vs)):=fun q hq =>
 p ρ _ _ (W.fresh hq) (Ext.fresh W hq) ⟨q,vs,rfl,fK,aN.mono W (Ext.fresh W hq) _ _ r⟩
theorem pV(W:Wd K ρ H c) (r:aN K ρ H xs vs) (p:post K (Rel K) (.ok (.lst xs) c) ρ H Q):∀q,H q=none→Q (.ref q) (upd H q (.lst vs)):=fun q hq =>
 p ρ _ _ (W.fresh hq) (Ext.fresh W hq) ⟨q,vs,rfl,⟨fK,W.nil hq⟩,aN.mono W (Ext.fresh W hq) _ _ r⟩
theorem G2(W:Wd K ρ H c) (nr:bD xs=true) (r:aN K ρ H xs vs) (p:post K (Rel K) (.ok (.ref c.length) (c++[.lst xs])) ρ H Q):∀q,H q=none→Q (.ref q) (upd H q (.lst vs)):=fun q hq =>
 p (ρ++[q]) _ _ (W.cell hq nr r) (Ext.cell W hq) ⟨q,rfl,by rw[ago (by rw[W.len];exact afs _),W.len,ag6];rfl⟩
theorem gQ{x1}(h:eF X es ds):aT X (.Tuple es x1 pos) (bZ ds):=(RK h).imp fun σ H Q h=>by
 obtain⟨ρ,e,c,W,V,p⟩:=h
 refine⟨ρ,e,c,W,V,post.bind p fun x c1 aO H1 v _ W1 X1 r1 p1=>?_⟩
 split at p1
 ·rename_i hl
  exact⟨by rw[r1.length];exact hl,vj W1 r1 p1⟩
 ·exact p1.elim
theorem gR(h:eF X es ds):aT X (.List es pos) (b6 ds):=(F8 h).imp fun σ H Q h=>by
 obtain⟨ρ,e,c,W,V,p⟩:=h
 refine⟨ρ,e,c,W,V,post.bind p fun x c1 aO H1 v _ W1 X1 r1 p1=>?_⟩
 split at p1
 ·rename_i hl
  exact⟨by rw[r1.length];exact hl,pV W1 r1 p1⟩
 ·exact p1.elim
theorem mj(h:eF X es ds):aT X (.List es pos) (dG ds):=(F8 h).imp fun σ H Q h=>by
 obtain⟨ρ,e,c,W,V,p⟩:=h
 refine⟨ρ,e,c,W,V,post.bind p fun x c1 aO H1 v _ W1 X1 r1 p1=>?_⟩
 split at p1
 ·rename_i hl
  exact⟨by rw[r1.length];exact hl.1,G2 W1 hl.2 r1 p1⟩
 ·exact p1.elim
end
def cy:D→D→List Cell→R D:=fun x y c=>match x,y with
 |.int i,.int j=>.ok (.int (i+j)) c
 |.str a,.str b=>if a.length+b.length≤sizeLine then .ok (.str (a++b)) c else .bad
 |.tup l,.tup m=>if l.length≠0∧l.length+m.length≤sizeLine then .ok (.tup (l++m)) c else .bad
 |_,_=>.bad
def eT:D→D→List Cell→R D:=fun x y c=>match x,y with
 |.int i,.int j=>.ok (.int (i-j)) c
 |_,_=>.bad
def bX:D→D→List Cell→R D:=fun x y c=>match x,y with
 |.int i,.int j=>if(-(2^64)<i∧i<2^64)∨(-(2^64)<j∧j<2^64)then .ok (.int (i*j)) c else .bad
 |_,_=>.bad
def i7:D→D→List Cell→R D:=fun x y c=>match x,y with
 |.int i,.int j=>if 0<j∧j<1073741824 then .ok (.int (i/j)) c else .bad
 |_,_=>.bad
def cJ:D→D→List Cell→R D:=fun x y c=>match x,y with
 |.int i,.int j=>if 0<j then .ok (.int (i % j)) c else .bad
 |_,_=>.bad
def pN:D→D→List Cell→R D:=fun x y c=>match x,y with
 |.int i,.int j=>if 0≤j∧j≤1000000∧i.natAbs<2^64 then .ok (.int (i^j.toNat)) c else .bad
 |_,_=>.bad
def sf:D→List Cell→R D:=fun x c=>match x with
 |.int i=>.ok (.int (-i)) c
 |_=>.bad
def nh(p:Int→Int→Bool):D→D→List Cell→R D:=fun x y c=>match x,y with
 |.int i,.int j=>.ok (.bl (p i j)) c
 |_,_=>.bad
section
variable {X:Cx}
theorem gU:bf X (binaryOp .Add) (r2 X.K cy):=by
 intro pins s σ H v u vv uu Q I rv ru h
 obtain⟨ρ,x,y,c,W,rx,ry,p⟩:=h
 unfold cy at p
 split at p
 ·cases rx;cases ry
  exact SM pins s σ H _ _ vv uu Q I rv ru ⟨_,_,rfl,rfl,p.here W rfl⟩
 ·split at p
  ·rename_i hl
   cases rx;cases ry
   exact SK pins s σ H _ _ vv uu Q I rv ru ⟨_,_,rfl,rfl,hl,p.here W rfl⟩
  ·exact p.elim
 ·split at p
  ·rename_i hl
   obtain⟨a,xs,rfl,sa,ra⟩:=rx
   obtain⟨b,ys,rfl,sb,rb⟩:=ry
   refine Gh pins s σ H _ _ vv uu Q I rv ru ⟨a,b,xs,ys,rfl,rfl,bB.of sa,bB.of sb,fun z=>hl.1 ?_,by rw[ra.length,rb.length];exact hl.2,fun z=>?_,fun _=>vj W (ra.append rb) p⟩
   ·rw[←ra.length,z];rfl
   ·refine p.here W ⟨a,xs++ys,rfl,by rw[z,agU];exact sa,ra.append rb⟩
  ·exact p.elim
 ·exact p.elim
theorem pT:bf X (binaryOp .Sub) (r2 X.K eT):=by
 intro pins s σ H v u vv uu Q I rv ru h
 obtain⟨ρ,x,y,c,W,rx,ry,p⟩:=h
 unfold eT at p
 split at p
 ·cases rx;cases ry
  exact Sm pins s σ H _ _ vv uu Q I rv ru ⟨_,_,rfl,rfl,p.here W rfl⟩
 ·exact p.elim
theorem iU:bf X (binaryOp .Mult) (r2 X.K bX):=by
 intro pins s σ H v u vv uu Q I rv ru h
 obtain⟨ρ,x,y,c,W,rx,ry,p⟩:=h
 unfold bX at p
 split at p
 ·split at p
  ·rename_i hl
   cases rx;cases ry
   exact Sw pins s σ H _ _ vv uu Q I rv ru ⟨_,_,rfl,rfl,hl,p.here W rfl⟩
  ·exact p.elim
 ·exact p.elim
theorem zu:bf X (binaryOp .FloorDiv) (r2 X.K i7):=by
 intro pins s σ H v u vv uu Q I rv ru h
 obtain⟨ρ,x,y,c,W,rx,ry,p⟩:=h
 unfold i7 at p
 split at p
 ·split at p
  ·rename_i hl
   cases rx;cases ry
   exact SG pins s σ H _ _ vv uu Q I rv ru ⟨_,_,rfl,rfl,hl,p.here W rfl⟩
  ·exact p.elim
 ·exact p.elim
theorem jm:bf X (binaryOp .Mod) (r2 X.K cJ):=by
 intro pins s σ H v u vv uu Q I rv ru h
 obtain⟨ρ,x,y,c,W,rx,ry,p⟩:=h
 unfold cJ at p
 split at p
 ·split at p
  ·rename_i hl
   cases rx;cases ry
   exact Sx pins s σ H _ _ vv uu Q I rv ru ⟨_,_,rfl,rfl,hl,p.here W rfl⟩
  ·exact p.elim
 ·exact p.elim
theorem Gy:bf X (binaryOp .Pow) (r2 X.K pN):=by
 intro pins s σ H v u vv uu Q I rv ru h
 obtain⟨ρ,x,y,c,W,rx,ry,p⟩:=h
 unfold pN at p
 split at p
 ·split at p
  ·rename_i hl
   cases rx;cases ry
   exact Ss pins s σ H _ _ vv uu Q I rv ru ⟨_,_,rfl,rfl,hl,p.here W rfl⟩
  ·exact p.elim
 ·exact p.elim
theorem Mw:tZ X (unaryOp .USub) (r1 X.K sf):=by
 intro pins s σ H v vv Q I rv h
 obtain⟨ρ,x,c,W,rx,p⟩:=h
 unfold sf at p
 split at p
 ·cases rx
  exact Mt pins s σ H _ vv Q I rv ⟨_,rfl,p.here W rfl⟩
 ·exact p.elim
theorem vd{f:Value→Value→Sem Value}{q:Int→Int→Bool}(h:bf X f (iQ fun i j=>.bl (q i j))):bf X f (r2 X.K (nh q)):=by
 intro pins s σ H v u vv uu Q I rv ru hh
 obtain⟨ρ,x,y,c,W,rx,ry,p⟩:=hh
 unfold nh at p
 split at p
 ·cases rx;cases ry
  exact h pins s σ H _ _ vv uu Q I rv ru ⟨_,_,rfl,rfl,p.here W rfl⟩
 ·exact p.elim
abbrev Hr:=nh fun i j=>decide (i<j)
abbrev jr:=nh fun i j=>decide (i≤j)
abbrev lC:=nh fun i j=>decide (j<i)
abbrev IW:=nh fun i j=>decide (j≤i)
theorem TH:bf X (compareOp .Lt) (r2 X.K Hr):=vd Sy
theorem vc:bf X (compareOp .LtE) (r2 X.K jr):=vd Sz
theorem GD:bf X (compareOp .Gt) (r2 X.K lC):=vd SD
theorem Ua:bf X (compareOp .GtE) (r2 X.K IW):=vd SE
end
def CG:D→D→Option Bool
 |.aL,.aL=>some true|.aL,.int _=>some false|.int _,.aL=>some false|.aL,.bl _=>some false|.bl _,.aL=>some false|.aL,.str _=>some false|.str _,.aL=>some false
 |.int i,.int j=>some (decide (i=j))|.bl a,.bl b=>some (decide (a=b))|.str x,.str y=>some (decide (x=y))
 |.int _,.str _=>some false|.str _,.int _=>some false|.bl _,.str _=>some false|.str _,.bl _=>some false
 |_,_=>none
def bE:D→D→List Cell→R D:=fun x y c=>match CG x y with
 |some b=>.ok (.bl b) c
 |none=>.bad
def fC:D→D→List Cell→R D:=fun x y c=>match CG x y with
 |some b=>.ok (.bl (!b)) c
 |none=>.bad
def fG:D→Bool
 |.aL=>true
 |_=>false
def qh:D→D→List Cell→R D:=fun x y c=>match y with
 |.aL=>.ok (.bl (fG x)) c
 |_=>.bad
def sI:D→D→List Cell→R D:=fun x y c=>match y with
 |.aL=>.ok (.bl (!fG x)) c
 |_=>.bad
section
variable {X:Cx}{K:PySem.W.Frag}{ρ:List Addr}{H:Hp}{c:List Cell}
theorem Jp{x y:D}{v u:V}{b:Bool}(rx:Rel K ρ H x v) (ry:Rel K ρ H y u) (h:CG x y=some b):yO v u=true∧decide (v=u)=b:=by
 cases x<;>cases y<;>first
  |(cases rx;cases ry;cases h;refine⟨rfl,?_⟩;simp;done)
  |(cases h;done)
theorem kO:bf X (compareOp .Eq) (r2 X.K bE):=by
 intro pins s σ H v u vv uu Q I rv ru h
 obtain⟨ρ,x,y,c,W,rx,ry,p⟩:=h
 unfold bE at p
 split at p
 ·rename_i b hb
  obtain⟨h1,h2⟩:=Jp rx ry hb
  exact SH pins s σ H _ _ vv uu Q I rv ru ⟨h1,by rw[h2];exact p.here W rfl⟩
 ·exact p.elim
theorem GB:bf X (compareOp .NotEq) (r2 X.K fC):=by
 intro pins s σ H v u vv uu Q I rv ru h
 obtain⟨ρ,x,y,c,W,rx,ry,p⟩:=h
 unfold fC at p
 split at p
 ·rename_i b hb
  obtain⟨h1,h2⟩:=Jp rx ry hb
  exact Sv pins s σ H _ _ vv uu Q I rv ru ⟨h1,by rw[h2];exact p.here W rfl⟩
 ·exact p.elim
theorem HY{x:D}{v:V}(rx:Rel K ρ H x v):decide (v=.aL)=fG x:=by
 cases x<;>first
  |(cases rx;rfl;done)
  |(cases rx;simp[fG];done)
  |(obtain⟨a,xs,rfl,_⟩:=rx;simp[fG];done)
  |(obtain⟨a,rfl,_⟩:=rx;simp[fG];done)
  |(obtain⟨a,o,q,c,cl,xs,rfl,_⟩:=rx;simp[fG];done)
theorem T7:bf X (compareOp .Is) (r2 X.K qh):=by
 intro pins s σ H v u vv uu Q I rv ru h
 obtain⟨ρ,x,y,c,W,rx,ry,p⟩:=h
 unfold qh at p
 split at p
 ·cases ry
  exact SA pins s σ H _ _ vv uu Q I rv ru ⟨rfl,by rw[HY rx];exact p.here W rfl⟩
 ·exact p.elim
theorem TZ:bf X (compareOp .IsNot) (r2 X.K sI):=by
 intro pins s σ H v u vv uu Q I rv ru h
 obtain⟨ρ,x,y,c,W,rx,ry,p⟩:=h
 unfold sI at p
 split at p
 ·cases ry
  exact Su pins s σ H _ _ vv uu Q I rv ru ⟨rfl,by rw[HY rx];exact p.here W rfl⟩
 ·exact p.elim
theorem Sf{a b d:Expr}{da db dd:Ev→List Cell→R D}{pos:Pos}{op op':CmpOp}{f g:D→D→List Cell→R D}(ho:bf X (compareOp op) (r2 X.K f)) (ho':bf X (compareOp op') (r2 X.K g)) (ha:aT X a da) (hb:aT X b db) (hd:aT X d dd)
  (h1:lastMarks [op,op'] [b,d]=false:=by with_unfolding_all rfl) :
  aT X (.Compare a [op,op'] [b,d] pos) (m9 f g da db dd):=(RV ho ho' ha hb hd h1).imp fun σ H Q h=>by
 obtain⟨ρ,e,c,W,V,p⟩:=h
 refine⟨ρ,e,c,W,V,post.bind p fun x c1 aO H1 v _ W1 X1 r1 p1=>⟨aO,e,c1,W1,V.mono W X1,post.bind p1 fun y c2 cT H2 u _ W2 X2 r2 p2=>⟨cT,x,y,c2,W2,Rel.mono W1 X2 _ _ r1,r2,post.bind p2 fun z c3 xV H3 w _ W3 X3 r3 p3=>?_⟩⟩⟩
 have V3:=(V.mono W X1).mono W1 (X2.trans X3)
 cases z with
 |bl k =>
  cases r3
  refine⟨k,rfl,?_⟩
  cases k with
  |true =>
   refine kY ⟨xV,e,c3,W3,V3,post.bind p3 fun t c4 lU H4 w4 _ W4 X4 r4 p4=>⟨lU,y,t,c4,W4,Rel.mono W2 (X3.trans X4) _ _ r2,r4,p4⟩⟩
  |false=>exact kZ (p3.here W3 rfl)
 |_=>exact p3.elim
end
def gK(c:List Cell):D→Option (List D)
 |.tup l=>some l
 |.lst l=>some l
 |.cG l=>some (l.map D.int)
 |.ref k=>match c[k]? with
  |some (.lst l)=>some l
  |none=>none
 |_=>none
def aJ:D→D→List Cell→R D:=fun x y c=>match y with
 |.int i=>match gK c x with
  |some l=>match cI l i with
   |some d=>.ok d c
   |none=>.bad
  |none=>.bad
 |_=>.bad
section
variable {X:Cx}{K:PySem.W.Frag}{ρ:List Addr}{H:Hp}{c:List Cell}
theorem yN{x:D}{v:V}{l:List D}(W:Wd K ρ H c) (rx:Rel K ρ H x v) (h:gK c x=some l):∃a xs,v=.ref a∧(aZ K H a xs∨bB K H a xs)∧aN K ρ H l xs:=by
 cases x with
 |tup m =>
  cases h
  obtain⟨a,xs,e,s,r⟩:=rx
  exact⟨a,xs,e,.inr (bB.of s),r⟩
 |lst m =>
  cases h
  obtain⟨a,xs,e,s,r⟩:=rx
  exact⟨a,xs,e,.inl (aZ.of s.1),r⟩
 |cG m =>
  cases h
  obtain⟨a,e,s⟩:=rx
  exact⟨a,_,e,.inl s.sql,aN.ints⟩
 |ref k =>
  obtain⟨a,e,s⟩:=rx
  unfold gK at h
  dsimp only at h
  cases hc:c[k]? with
  |none=>rw[hc]at h;cases h
  |some cl =>
   cases cl with
   |lst m =>
    rw[hc]at h;cases h
    obtain⟨_,xs,hx,r⟩:=W.e7 k a _ s hc
    exact⟨a,xs,e,.inl (aZ.of hx),r⟩
 |_=>cases h
theorem acg{l:List D}{xs:List V}{i:Int}{d:D}(r:aN K ρ H l xs) (h:cI l i=some d):∃v,cI xs i=some v∧Rel K ρ H d v:=by
 unfold cI at h ⊢
 rw[r.length]
 cases e:eL l.length i with
 |none=>rw[e]at h;cases h
 |some j =>
  rw[e]at h
  exact r.get (i:=j) h
theorem dY:rj X (r2 X.K aJ):=by
 intro value slice pins s σ H v u vv uu Q I rv ru h hs
 obtain⟨ρ,x,y,c,W,rx,ry,p⟩:=h
 unfold aJ at p
 split at p
 ·split at p
  ·rename_i l hl
   split at p
   ·rename_i d hd
    cases ry
    obtain⟨a,xs,rfl,sq,r⟩:=yN W rx hl
    obtain⟨w,hw,rw'⟩:=acg r hd
    rcases sq with sq|sq
    ·exact XH value slice pins s σ H _ _ vv uu Q I rv ru ⟨a,xs,_,w,rfl,rfl,sq,hw,p.here W rw'⟩ hs
    ·exact HK value slice pins s σ H _ _ vv uu Q I rv ru ⟨a,xs,_,w,rfl,rfl,sq,hw,p.here W rw'⟩ hs
   ·exact p.elim
  ·exact p.elim
 ·exact p.elim
end
end L2
namespace L2
open PySem PySem.Spec PyProof.Rows
def nQ(c:List Cell):D→Option Bool
 |.aL=>some false
 |.bl b=>some b
 |.int i=>some (i != 0)
 |.tup l=>some (!l.isEmpty)
 |.lst l=>some (!l.isEmpty)
 |.ref k=>match c[k]? with
  |some (.lst l)=>some (!l.isEmpty)
  |none=>none
 |_=>none
def qy(a:Ev→List Cell→R D):Ev→List Cell→R Bool:=fun e c=>(a e c).bind fun x c=>match nQ c x with
 |some b=>.ok b c
 |none=>.bad
def aM(a:Ev→List Cell→R D):Ev→List Cell→R Bool:=fun e c=>(a e c).bind fun x c=>match x with
 |.bl b=>.ok b c
 |_=>.bad
def gf(a b:Ev→List Cell→R Bool):Ev→List Cell→R Bool:=fun e c=>(a e c).bind fun x c=>if x=true then b e c else .ok false c
def fj(a b:Ev→List Cell→R Bool):Ev→List Cell→R Bool:=fun e c=>(a e c).bind fun x c=>if x=true then .ok true c else b e c
def bR(a:Ev→List Cell→R Bool):Ev→List Cell→R Bool:=fun e c=>(a e c).bind fun x c=>.ok (!x) c
def gc(a b:Ev→List Cell→R D):Ev→List Cell→R D:=fun e c=>(a e c).bind fun x c=>match x with
 |.bl k=>if k=true then b e c else .ok (.bl false) c
 |_=>.bad
def C5(a:Ev→List Cell→R D):Ev→List Cell→R D:=fun e c=>(a e c).bind fun x c=>match x with
 |.bl k=>.ok (.bl (!k)) c
 |_=>.bad
def qC(t:Ev→List Cell→R Bool) (a b:Ev→List Cell→R D):Ev→List Cell→R D:=fun e c=>(t e c).bind fun x c=>if x=true then a e c else b e c
section
variable {X:Cx}{a b c':Expr}{da db:Ev→List Cell→R D}{ta tb:Ev→List Cell→R Bool}{pos:Pos}{rest:List Expr}
theorem MJ{K:PySem.W.Frag}{ρ:List Addr}{H:Hp}{c:List Cell}{x:D}{v:V}{k:Bool}(W:Wd K ρ H c) (rx:Rel K ρ H x v) (h:nQ c x=some k):Ea K v H k:=by
 have emp:∀{l:List D}{xs:List V},aN K ρ H l xs→l.isEmpty=xs.isEmpty:=fun{l xs} r=>by
  have:=r.length
  cases l<;>cases xs<;>simp_all
 cases x with
 |aL=>cases rx;cases h;exact rfl
 |bl b=>cases rx;cases h;exact rfl
 |int i=>cases rx;cases h;exact rfl
 |tup l =>
  obtain⟨a,xs,rfl,s,r⟩:=rx
  cases h
  exact .inr (.inl ⟨xs,bB.of s,by rw[emp r]⟩)
 |lst l =>
  obtain⟨a,xs,rfl,s,r⟩:=rx
  cases h
  exact .inl ⟨xs,aZ.of s.1,by rw[emp r]⟩
 |ref j =>
  obtain⟨a,rfl,s⟩:=rx
  unfold nQ at h
  dsimp only at h
  cases hc:c[j]? with
  |none=>rw[hc]at h;cases h
  |some cl =>
   cases cl with
   |lst m =>
    rw[hc]at h;cases h
    obtain⟨_,xs,hx,r⟩:=W.e7 j a _ s hc
    exact .inl ⟨xs,aZ.of hx,by rw[emp r]⟩
 |_=>cases h
theorem R1(ha:aT X a da) (he:∀whole,isTrue a X.env whole=(do let v ←whole;standAt a.pos;holding [v] (truthy v)):=by intro _;rfl):gD X a (qy da):=(Qn ha he).imp fun σ H Q h=>by
 obtain⟨ρ,e,c,W,V,p⟩:=h
 refine⟨ρ,e,c,W,V,post.bind p fun x c1 aO H1 v _ W1 X1 r1 p1=>?_⟩
 split at p1
 ·rename_i k hk
  exact⟨k,MJ W1 r1 hk,p1.here W1 rfl⟩
 ·exact p1.elim
theorem DY(h:tD X.K (fun _ _ a b=>a=b) (aM da) σ H Q):tD X.K (Rel X.K) da σ H fun x H'=>∃k,x=.bl k∧Q k H':=by
 obtain⟨ρ,e,c,W,V,p⟩:=h
 refine⟨ρ,e,c,W,V,post.bind p fun x c1 aO H1 v _ W1 X1 r1 p1=>?_⟩
 cases x with
 |bl k=>cases r1;exact⟨k,rfl,p1.here W1 rfl⟩
 |_=>exact p1.elim
theorem f6(ha:aT X a da) (he:∀whole,isTrue a X.env whole=(do let v ←whole;standAt a.pos;holding [v] (truthy v)):=by intro _;rfl):gD X a (aM da):=(Qm ha he).imp fun σ H Q h=>DY h
theorem fZ{op:CmpOp}{f:D→D→List Cell→R D}(ho:bf X (compareOp op) (r2 X.K f)) (ha:aT X a da) (hb:aT X b db) (hm:behindInMarks op b=false:=by first|exact GU _|rfl):gD X (.Compare a [op] [b] pos) (aM (au f da db)) :=
 (Qp ho ha hb hm).imp fun σ H Q h=>uz (Q:=fun x H'=>∃k,x=.bl k∧Q k H') (DY h)
theorem Se{d:Expr}{dd:Ev→List Cell→R D}{op op':CmpOp}{f g:D→D→List Cell→R D}(ho:bf X (compareOp op) (r2 X.K f)) (ho':bf X (compareOp op') (r2 X.K g)) (ha:aT X a da) (hb:aT X b db) (hd:aT X d dd)
  (h1:lastMarks [op,op'] [b,d]=false:=by with_unfolding_all rfl):gD X (.Compare a [op,op'] [b,d] pos) (aM (m9 f g da db dd)):=(Qq ho ho' ha hb hd h1).imp fun σ H Q h=>by
 obtain⟨ρ,e,c,W,V,p⟩:=DY h
 refine⟨ρ,e,c,W,V,post.bind p fun x c1 aO H1 v _ W1 X1 r1 p1=>⟨aO,e,c1,W1,V.mono W X1,post.bind p1 fun y c2 cT H2 u _ W2 X2 r2 p2=>⟨cT,x,y,c2,W2,Rel.mono W1 X2 _ _ r1,r2,post.bind p2 fun z c3 xV H3 w _ W3 X3 r3 p3=>?_⟩⟩⟩
 have V3:=(V.mono W X1).mono W1 (X2.trans X3)
 cases z with
 |bl k =>
  cases r3
  refine⟨k,rfl,?_⟩
  cases k with
  |true =>
   refine kY ⟨xV,e,c3,W3,V3,post.bind p3 fun t c4 lU H4 w4 _ W4 X4 r4 p4=>⟨lU,y,t,c4,W4,Rel.mono W2 (X3.trans X4) _ _ r2,r4,p4⟩⟩
  |false=>exact kZ (p3.here W3 rfl)
 |_=>exact p3.elim
theorem zj(ha:gD X a ta):qZ X (.BoolOp .And [a] pos) ta:=Qj ha
theorem uV(ha:gD X a ta):qZ X (.BoolOp .Or [a] pos) ta:=Qh ha
theorem zh(ha:gD X a ta) (hb:qZ X (.BoolOp .And (b::rest) pos) tb):qZ X (.BoolOp .And (a::b::rest) pos) (gf ta tb):=(Qk ha hb).imp fun σ H Q h=>by
 obtain⟨ρ,e,c,W,V,p⟩:=h
 refine⟨ρ,e,c,W,V,post.bind p fun x c1 aO H1 v _ W1 X1 r1 p1=>?_⟩
 cases r1
 cases x with
 |true=>exact kY ⟨aO,e,c1,W1,V.mono W X1,p1⟩
 |false=>exact kZ (post.here (a:=false) p1 W1 rfl)
theorem rR(ha:gD X a ta) (hb:qZ X (.BoolOp .Or (b::rest) pos) tb):qZ X (.BoolOp .Or (a::b::rest) pos) (fj ta tb):=(Qi ha hb).imp fun σ H Q h=>by
 obtain⟨ρ,e,c,W,V,p⟩:=h
 refine⟨ρ,e,c,W,V,post.bind p fun x c1 aO H1 v _ W1 X1 r1 p1=>?_⟩
 cases r1
 cases x with
 |true=>exact kY (post.here (a:=true) p1 W1 rfl)
 |false=>exact kZ ⟨aO,e,c1,W1,V.mono W X1,p1⟩
theorem fY(ha:gD X a ta):gD X (.UnaryOp .Not a pos) (bR ta):=(Qo ha).imp fun σ H Q h=>by
 obtain⟨ρ,e,c,W,V,p⟩:=h
 refine⟨ρ,e,c,W,V,post.bind p fun x c1 aO H1 v _ W1 X1 r1 p1=>?_⟩
 cases r1
 exact p1.here W1 rfl
theorem pP{op}(h:aT X a da):aT X (.BoolOp op [a] pos) da:=RN h
theorem pS(ha:aT X a da) (hb:aT X (.BoolOp .And (b::rest) pos) db):aT X (.BoolOp .And (a::b::rest) pos) (gc da db):=(RZ ha hb).imp fun σ H Q h=>by
 obtain⟨ρ,e,c,W,V,p⟩:=h
 refine⟨ρ,e,c,W,V,post.bind p fun x c1 aO H1 v _ W1 X1 r1 p1=>?_⟩
 cases x with
 |bl k =>
  cases r1
  refine⟨k,rfl,?_⟩
  cases k with
  |true=>exact kY ⟨aO,e,c1,W1,V.mono W X1,p1⟩
  |false=>exact kZ (post.here (a:=D.bl false) p1 W1 rfl)
 |_=>exact p1.elim
theorem R5(ha:aT X a da):aT X (.UnaryOp .Not a pos) (C5 da):=(RO ha).imp fun σ H Q h=>by
 obtain⟨ρ,e,c,W,V,p⟩:=h
 refine⟨ρ,e,c,W,V,post.bind p fun x c1 aO H1 v _ W1 X1 r1 p1=>?_⟩
 cases x with
 |bl k=>cases r1;exact⟨k,rfl,p1.here W1 rfl⟩
 |_=>exact p1.elim
theorem Sa(ht:gD X c' ta) (ha:aT X a da) (hb:aT X b db):aT X (.IfExp c' a b pos) (qC ta da db):=(RQ ht ha hb).imp fun σ H Q h=>by
 obtain⟨ρ,e,c,W,V,p⟩:=h
 refine⟨ρ,e,c,W,V,post.bind p fun x c1 aO H1 v _ W1 X1 r1 p1=>?_⟩
 cases r1
 cases x with
 |true=>exact kY ⟨aO,e,c1,W1,V.mono W X1,p1⟩
 |false=>exact kZ ⟨aO,e,c1,W1,V.mono W X1,p1⟩
end
inductive Fl where
 |nx (e:Ev)|rt (d:D)|bk (e:Ev)|ct (e:Ev)
abbrev aa:=List Cell
abbrev af:=Ev→List Cell→R D
abbrev ah:=Ev→List Cell→R Fl
abbrev ai:=Ev→List Cell→R Bool
abbrev aj:=Ev→List Cell→R (List D)
inductive FV where
 |nx (σ:St)|rt (v:V)|bk (σ:St)|ct (σ:St)
def lN(K:PySem.W.Frag) (ρ:List Addr) (H:Hp):Fl→FV→Prop
 |.nx e,f=>∃σ,f=.nx σ∧dh K ρ H e σ
 |.rt d,f=>∃v,f=.rt v∧Rel K ρ H d v
 |.bk e,f=>∃σ,f=.bk σ∧dh K ρ H e σ
 |.ct e,f=>∃σ,f=.ct σ∧dh K ρ H e σ
def En(Z:Ends):FV→Hp→Prop
 |.nx σ,H=>Z.nx σ H
 |.rt v,H=>Z.rt v H
 |.bk σ,H=>Z.bk σ H
 |.ct σ,H=>Z.ct σ H
def EW(K:PySem.W.Frag) (d:ah):TS:=fun Z σ H=>tD K (lN K) d σ H (En Z)
abbrev jf(X:Cx) (st:Stmt) (d:ah):Prop:=PS X st (EW X.K d)
abbrev bL(X:Cx) (st:List Stmt) (d:ah):Prop:=fJ X st (EW X.K d)
def bz:ah:=fun e c=>.ok (.nx e) c
def aE(a b:ah):ah:=fun e c=>(a e c).bind fun f c=>match f with
 |.nx e=>b e c
 |f=>.ok f c
def aP(a:af):ah:=fun e c=>(a e c).bind fun x c=>.ok (.rt x) c
def bW(a:af):ah:=fun e c=>(a e c).bind fun _ c=>.ok (.nx e) c
def bw(t:ai) (a b:ah):ah:=fun e c=>(t e c).bind fun x c=>if x=true then a e c else b e c
def aH(i:Nat) (a:af):ah:=fun e c=>(a e c).bind fun x c=>.ok (.nx (e.set i (some x))) c
def fW:ah:=fun _ _=>.bad
section
variable {X:Cx}{st:Stmt}{rest:List Stmt}{t u:ah}{e:Expr}{da:af}{pos:Pos}
theorem eU:bL X [] bz:=Qt.imp fun Z σ H h=>by
 obtain⟨ρ,e,c,W,V,p⟩:=h
 exact p.here W ⟨σ,rfl,V⟩
theorem aU(h1:jf X st t) (h2:bL X rest u):bL X (st::rest) (aE t u):=(Qu h1 h2).imp fun Z σ H h=>by
 obtain⟨ρ,e,c,W,V,p⟩:=h
 refine⟨ρ,e,c,W,V,post.bind p fun f c1 aO H1 b _ W1 X1 r1 p1=>?_⟩
 cases f with
 |nx e1=>obtain⟨σ1,rfl,V1⟩:=r1;exact⟨aO,e1,c1,W1,V1,p1⟩
 |rt d=>obtain⟨v,rfl,V1⟩:=r1;exact post.here (Q:=En Z) (show post X.K (lN X.K) (.ok (Fl.rt d) c1) aO H1 (En Z)from p1) W1 ⟨_,rfl,V1⟩
 |bk e1=>obtain⟨σ1,rfl,V1⟩:=r1;exact post.here (Q:=En Z) (show post X.K (lN X.K) (.ok (Fl.bk e1) c1) aO H1 (En Z)from p1) W1 ⟨_,rfl,V1⟩
 |ct e1=>obtain⟨σ1,rfl,V1⟩:=r1;exact post.here (Q:=En Z) (show post X.K (lN X.K) (.ok (Fl.ct e1) c1) aO H1 (En Z)from p1) W1 ⟨_,rfl,V1⟩
theorem aV(h1:jf X st t):bL X [st] t:=Qs h1
theorem nY:jf X st fW:=fun _ _ _ _ _ _ h=>by
 obtain⟨ρ,e,c,W,V,p⟩:=h
 exact p.elim
theorem bP(he:aT X e da):jf X (.Return (some e) pos) (aP da):=(Qy he).imp fun Z σ H h=>by
 obtain⟨ρ,e,c,W,V,p⟩:=h
 refine⟨ρ,e,c,W,V,post.bind p fun x c1 aO H1 v _ W1 X1 r1 p1=>p1.here W1 ⟨v,rfl,r1⟩⟩
theorem iw(he:aT X e da) (hs:swapsWith e none pos.line X.env=pure false:=by rfl):jf X (.Expr e pos) (bW da):=(QB he hs).imp fun Z σ H h=>by
 obtain⟨ρ,e,c,W,V,p⟩:=h
 refine⟨ρ,e,c,W,V,post.bind p fun x c1 aO H1 v _ W1 X1 r1 p1=>p1.here W1 ⟨σ,rfl,V.mono W X1⟩⟩
theorem eH{c':Expr}{a b:List Stmt}{tc:ai}(hc:gD X c' tc) (ha:bL X a t) (hb:bL X b u):jf X (.If c' a b pos) (bw tc t u):=(Qz hc ha hb).imp fun Z σ H h=>by
 obtain⟨ρ,e,c,W,V,p⟩:=h
 refine⟨ρ,e,c,W,V,post.bind p fun x c1 aO H1 v _ W1 X1 r1 p1=>?_⟩
 cases r1
 cases x with
 |true=>exact kY ⟨aO,e,c1,W1,V.mono W X1,p1⟩
 |false=>exact kZ ⟨aO,e,c1,W1,V.mono W X1,p1⟩
theorem bI{i:Nat}{x:Str}{pos':Pos}(he:aT X e da) (hN:X.N.Nodup:=by decide +kernel) (hi:X.N[i]? = some x:=by rfl) (hx:Loc X.env.scope x:=by first|exact Or.inl rfl|exact Or.inr rfl) (hs:swapsWith e (some (.Name x pos')) pos.line X.env=pure false:=by rfl)
  (hf:X.fn x=true∨X.env.scope.names.lookup x=some .local:=by first|exact .inl rfl|exact .inr rfl):jf X (.Assign [.Name x pos'] e pos) (aH i da):=(Qx hN hi hx he hs).imp fun Z σ H h=>by
 obtain⟨ρ,e,c,W,V,p⟩:=h
 refine⟨ρ,e,c,W,V,post.bind p fun x c1 aO H1 v _ W1 X1 r1 p1=>p1.here W1 ⟨_,rfl,(V.mono W X1).set r1 i⟩⟩
end
abbrev Gd:=D→Ev→aa→R Ev
def uB(K:PySem.W.Frag) (g:Gd):TG:=fun v σ H Q=>∃ρ x e c,Wd K ρ H c∧dh K ρ H e σ∧Rel K ρ H x v∧post K (fun ρ H e σ=>dh K ρ H e σ) (g x e c) ρ H Q
def M6(K:PySem.W.Frag) (g:List D→Ev→aa→R Ev):ko:=fun vs σ H Q=>∃ρ xs e c,Wd K ρ H c∧dh K ρ H e σ∧aN K ρ H xs vs∧post K (fun ρ H e σ=>dh K ρ H e σ) (g xs e c) ρ H Q
abbrev lP(X:Cx) (e:Expr) (g:Gd):Prop:=PG X e (uB X.K g)
abbrev xM(X:Cx) (es:List Expr) (g:List D→Ev→aa→R Ev):Prop:=lO X es (M6 X.K g)
def az(i:Nat):Gd:=fun x e c=>.ok (e.set i (some x)) c
def eN:List D→Ev→aa→R Ev:=fun xs e c=>match xs with
 |[]=>.ok e c
 |_=>.bad
def cB(g:Gd) (r:List D→Ev→aa→R Ev):List D→Ev→aa→R Ev:=fun xs e c=>match xs with
 |x::xs=>(g x e c).bind fun e c=>r xs e c
 |_=>.bad
def eu(n:Nat) (g:List D→Ev→aa→R Ev):Gd:=fun x e c=>match x with
 |.tup l=>if l.length=n then g l e c else .bad
 |_=>.bad
theorem PG.imp{X:Cx}{e:Expr}{t t':TG}(h:PG X e t) (i:∀v σ H Q,t' v σ H Q→t v σ H Q):PG X e t':=fun pins s σ H x u Q I r q=>h pins s σ H x u Q I r (i _ _ _ _ q)
theorem lO.imp{X:Cx}{es:List Expr}{t t':ko}(h:lO X es t) (i:∀v σ H Q,t' v σ H Q→t v σ H Q):lO X es t':=fun pins s σ H x u Q I r q=>h pins s σ H x u Q I r (i _ _ _ _ q)
section
variable {X:Cx}{pos:Pos}
theorem bA{i:Nat}{x:Str}(hN:X.N.Nodup:=by decide +kernel) (hi:X.N[i]? = some x:=by rfl) (hx:Loc X.env.scope x:=by first|exact Or.inl rfl|exact Or.inr rfl) (hf:X.fn x=true∨X.env.scope.names.lookup x=some .local:=by first|exact .inl rfl|exact .inr rfl):lP X (.Name x pos) (az i) :=
 (RE hN hi hx hf).imp fun v σ H Q h=>by
  obtain⟨ρ,x,e,c,W,V,r,p⟩:=h
  exact p.here W (V.set r i)
theorem sY:xM X [] eN:=RA.imp fun v σ H Q h=>by
 obtain⟨ρ,xs,e,c,W,V,r,p⟩:=h
 cases xs with
 |nil=>exact⟨r,p.here W V⟩
 |cons x xs=>exact p.elim
theorem iZ{e:Expr}{es:List Expr}{g:Gd}{u:List D→Ev→aa→R Ev}(h1:lP X e g) (h2:xM X es u) (hs:(assignEach (e::es) X.env).map (·.2)=assign e X.env::(assignEach es X.env).map (·.2):=by rfl):xM X (e::es) (cB g u) :=
 (RB h1 h2 hs).imp fun v σ H Q h=>by
  obtain⟨ρ,xs,e,c,W,V,r,p⟩:=h
  cases xs with
  |nil=>exact p.elim
  |cons x xs =>
   obtain⟨y,ys,rfl,rx,rs⟩:=r
   exact⟨y,ys,rfl,ρ,x,e,c,W,V,rx,post.bind p fun e1 c1 aO H1 σ1 _ W1 X1 V1 p1=>⟨aO,xs,e1,c1,W1,V1,aN.mono W X1 _ _ rs,p1⟩⟩
theorem sZ{es:List Expr}{k:Nat}{g:List D→Ev→aa→R Ev}{n:Nat}(h:xM X es g) (hc:X.calm=true:=by rfl) (hn:(assignEach es X.env).length=n:=by rfl) (hst:(assignEach es X.env).findIdx? (·.1)=none:=by rfl):lP X (.Tuple es k pos) (eu n g) :=
 (RC hc h hn hst).imp fun v σ H Q h=>by
  obtain⟨ρ,x,e,c,W,V,r,p⟩:=h
  cases x with
  |tup l =>
   obtain⟨a,xs,rfl,s,rs⟩:=r
   unfold eu at p
   dsimp only at p
   split at p
   ·rename_i hl
    exact⟨a,xs,rfl,bB.of s,rs.length.trans hl,ρ,l,e,c,W,V,rs,p⟩
   ·exact p.elim
  |_=>exact p.elim
def yT(a:af) (g:Gd):ah:=fun e c=>(a e c).bind fun x c=>(g x e c).bind fun e c=>.ok (.nx e) c
theorem OH{tg e:Expr}{da:af}{g:Gd}(he:aT X e da) (hg:lP X tg g) (hs:swapsWithSole [tg] e pos.line X.env=pure false:=by rfl) (hw:swappedStores [tg] e X.env=pure none:=by rfl)
  (h1:(assignEach [tg] X.env).map (·.2)=[assign tg X.env]:=by rfl):jf X (.Assign [tg] e pos) (yT da g):=(QC he hg hs hw h1).imp fun Z σ H h=>by
 obtain⟨ρ,e,c,W,V,p⟩:=h
 refine⟨ρ,e,c,W,V,post.bind p fun x c1 aO H1 v _ W1 X1 r1 p1=>⟨aO,x,e,c1,W1,V.mono W X1,r1,post.bind p1 fun e2 c2 cT H2 σ2 _ W2 X2 V2 p2=>p2.here W2 ⟨σ2,rfl,V2⟩⟩⟩
def l5:D→D→D→aa→R Unit:=fun o i v c=>match o,i with
 |.ref k,.int i=>match c[k]? with
  |some (.lst l)=>match eL l.length i with
   |some j=>if noRef v=true then .ok () (c.set k (.lst (l.set j v)))else .bad
   |none=>.bad
  |none=>.bad
 |_,_=>.bad
def BQ(o i:af):Gd:=fun x e c=>(o e c).bind fun o c=>(i e c).bind fun i c=>(l5 o i x c).bind fun _ c=>.ok e c
theorem Ze{o i:Expr}{dO di:af}(ho:aT X o dO) (hi:aT X i di)
  (ha:∀v,assign (.Subscript o i pos) X.env v=(do
   let ov ←holding [v] (eval o X.env)
   let iv ←holding [v,ov] (eval i X.env)
   standAt pos
   holding [v,ov,iv] (setItem ov iv v)
   release [v,ov,iv] []):=by intro _;rfl):lP X (.Subscript o i pos) (BQ dO di):=(RD ho hi set_list ha).imp fun v σ H Q h=>by
 obtain⟨ρ,x,e,c,W,V,rx,p⟩:=h
 refine⟨ρ,e,c,W,V,post.bind p fun o c1 aO H1 ov _ W1 X1 r1 p1=>⟨aO,e,c1,W1,V.mono W X1,post.bind p1 fun i c2 cT H2 iv _ W2 X2 r2 p2=>?_⟩⟩
 have V2:=(V.mono W X1).mono W1 X2
 have Pc:=Rel.mono W (X1.trans X2) _ _ rx
 have ro:=Rel.mono W1 X2 _ _ r1
 unfold l5 at p2
 split at p2
 ·rename_i k i _ _
  split at p2
  ·rename_i l hl
   split at p2
   ·rename_i j hj
    split at p2
    ·rename_i hv
     obtain⟨a,rfl,ha⟩:=ro
     cases r2
     obtain⟨nr,ys,hy,rl⟩:=W2.e7 k a _ ha hl
     refine⟨a,ys,i,j,rfl,rfl,hy,by rw[rl.length];exact hj,?_⟩
     exact p2 cT _ σ (W2.write ha (GY nr hv) (rl.set j Pc)) (Ext.write ha) (V2.mono W2 (Ext.write ha))
    ·exact p2.elim
   ·exact p2.elim
  ·exact p2.elim
 ·exact p2.elim
end
end L2
namespace L2
open PySem PySem.Spec PyProof.Rows
structure Src where
 items:List D
 stays:aa→Prop
def JS(K:PySem.W.Frag) (ρ:List Addr) (H:Hp) (s:Src) (J:It):Prop :=
 ∀ρ' H' c',Wd K ρ' H' c'→Ext ρ H ρ' H'→s.stays c'→∀i:Nat,
  (∀d,s.items[i]? = some d→J.go i H'∧∀x H2,J.rA i H' x H2→Wd K ρ' H2 c'∧Ext ρ' H' ρ' H2∧Rel K ρ' H2 d x)∧(i=s.items.length→J.stop i H')
def EX(K:PySem.W.Frag) (d:Ev→aa→R Src):TI:=tD K (JS K) d
abbrev PId(X:Cx) (tg iter:Expr) (d:Ev→aa→R Src):Prop:=PI X tg iter (EX X.K d)
theorem PI.imp{X:Cx}{tg iter:Expr}{t t':TI}(h:PI X tg iter t) (i:∀σ H Q,t' σ H Q→t σ H Q):PI X tg iter t':=fun pins s σ H Q I q=>h pins s σ H Q I (i _ _ _ q)
def bJ(a:af):Ev→aa→R Src:=fun e c=>(a e c).bind fun x c=>match x with
 |.lst l=>.ok ⟨l,fun _=>True⟩ c
 |.cG l=>.ok ⟨l.map D.int,fun _=>True⟩ c
 |.ref k=>match c[k]? with
  |some (.lst l)=>.ok ⟨l,fun c=>c[k]? = some (.lst l)⟩ c
  |none=>.bad
 |_=>.bad
def b9(a:af):Ev→aa→R Src:=fun e c=>(a e c).bind fun x c=>match x with
 |.tup l=>.ok ⟨l,fun _=>True⟩ c
 |_=>.bad
def bg(lo hi:Int):List D:=(List.range (hi-lo).toNat).map fun(i:Nat)=>D.int (lo+(i:Int))
def aW(a:aj):Ev→aa→R Src:=fun e c=>(a e c).bind fun xs c=>match xs with
 |[.int j]=>if -(2^62)≤j∧j<2^62 then .ok ⟨bg 0 j,fun _=>True⟩ c else .bad
 |_=>.bad
def tN(a:aj):Ev→aa→R Src:=fun e c=>(a e c).bind fun xs c=>match xs with
 |[.int i,.int j]=>if -(2^62)≤i∧i<2^62∧-(2^62)≤j∧j<2^62 then .ok ⟨bg i j,fun _=>True⟩ c else .bad
 |_=>.bad
section
variable {X:Cx}{tg:Expr}{K:PySem.W.Frag}{ρ:List Addr}{H:Hp}
theorem Bj{l:List D}{a:Addr}{st:aa→Prop}(h:∀ρ' H' c',Wd K ρ' H' c'→Ext ρ H ρ' H'→st c'→∃xs,aZ K H' a xs∧aN K ρ' H' l xs):JS K ρ H ⟨l,st⟩ (Ej K a):=by
 intro ρ' H' c' W E s i
 obtain⟨xs,q,r⟩:=h ρ' H' c' W E s
 refine⟨fun d hd=>?_,fun e=>⟨xs,q,by rw[r.length];exact agY e.symm⟩⟩
 obtain⟨x,hx,rx⟩:=r.get hd
 refine⟨⟨xs,x,q,hx⟩,fun y H2 hy=>?_⟩
 obtain⟨rfl,hy⟩:=hy
 have:=hy xs q
 rw[hx]at this;cases this
 exact⟨W,Ext.refl,rx⟩
theorem XF{l:List D}{a:Addr}{st:aa→Prop}(h:∀ρ' H' c',Wd K ρ' H' c'→Ext ρ H ρ' H'→st c'→∃xs,bB K H' a xs∧aN K ρ' H' l xs):JS K ρ H ⟨l,st⟩ (Ei K a):=by
 intro ρ' H' c' W E s i
 obtain⟨xs,q,r⟩:=h ρ' H' c' W E s
 refine⟨fun d hd=>?_,fun e=>⟨xs,q,by rw[r.length];exact agY e.symm⟩⟩
 obtain⟨x,hx,rx⟩:=r.get hd
 refine⟨⟨xs,x,q,hx⟩,fun y H2 hy=>?_⟩
 obtain⟨rfl,hy⟩:=hy
 have:=hy xs q
 rw[hx]at this;cases this
 exact⟨W,Ext.refl,rx⟩
theorem Pq{lo hi:Int}{i:Nat}{d:D}(h:(bg lo hi)[i]? = some d):i<(hi-lo).toNat∧d=.int (lo+i):=by
 unfold bg at h
 rw[afS]at h
 cases q:(List.range (hi-lo).toNat)[i]? with
 |none=>rw[q]at h;cases h
 |some j =>
  rw[q]at h
  have h1:=(afJ.mp q)
  obtain⟨h2,h3⟩:=h1
  rw[List.getElem_range]at h3
  subst h3
  cases h
  exact⟨by simpa using h2,rfl⟩
theorem HJ{lo hi:Int}{st:aa→Prop}:JS K ρ H ⟨bg lo hi,st⟩ (ua lo (hi-lo).toNat):=by
 intro ρ' H' c' W E s i
 refine⟨fun d hd=>?_,fun e=>?_⟩
 ·obtain⟨h1,rfl⟩:=Pq hd
  refine⟨h1,fun x H2 hy=>?_⟩
  obtain⟨rfl,rfl⟩:=hy
  exact⟨W,Ext.refl,rfl⟩
 ·have:(bg lo hi).length=(hi-lo).toNat:=by simp[bg]
  show(hi-lo).toNat≤i
  rw[e]
  exact agY this.symm
theorem k7{l:Expr}{dl:af}(hl:aT X l dl):PId X tg l (bJ dl):=(Rz hl).imp fun σ H Q h=>by
 obtain⟨ρ,e,c,W,V,p⟩:=h
 refine⟨ρ,e,c,W,V,post.bind p fun x c1 aO H1 v _ W1 X1 r1 p1=>?_⟩
 cases x with
 |lst l =>
  obtain⟨a,xs,rfl,s,rs⟩:=r1
  exact⟨a,rfl,⟨xs,aZ.of s.1⟩,p1.here W1 (Bj fun ρ' H' c' W' E _=>⟨xs,aZ.of (zO E s).1,aN.mono W1 E _ _ rs⟩)⟩
 |cG l =>
  obtain⟨a,rfl,s⟩:=r1
  exact⟨a,rfl,⟨_,s.sql⟩,p1.here W1 (Bj fun ρ' H' c' W' E _=>⟨_,(Fg E s).sql,aN.ints⟩)⟩
 |ref k =>
  obtain⟨a,rfl,ha⟩:=r1
  dsimp only at p1
  split at p1
  ·rename_i l hl
   obtain⟨_,xs,hx,rs⟩:=W1.e7 k a _ ha hl
   refine⟨a,rfl,⟨xs,aZ.of hx⟩,p1.here W1 (Bj fun ρ' H' c' W' E st=>?_)⟩
   obtain⟨_,ys,hy,rs'⟩:=W'.e7 k a _ (E.pre k a ha) st
   exact⟨ys,aZ.of hy,rs'⟩
  ·exact p1.elim
 |_=>exact p1.elim
theorem iC{l:Expr}{dl:af}(hl:aT X l dl):PId X tg l (b9 dl):=(Rv hl).imp fun σ H Q h=>by
 obtain⟨ρ,e,c,W,V,p⟩:=h
 refine⟨ρ,e,c,W,V,post.bind p fun x c1 aO H1 v _ W1 X1 r1 p1=>?_⟩
 cases x with
 |tup l =>
  obtain⟨a,xs,rfl,s,rs⟩:=r1
  exact⟨a,rfl,⟨xs,bB.of s⟩,p1.here W1 (XF fun ρ' H' c' W' E _=>⟨xs,bB.of (rE W1 E s),aN.mono W1 E _ _ rs⟩)⟩
 |_=>exact p1.elim
theorem er{a:Expr}{da:aj}{p pos:Pos}(ha:eF X [a] da) (hm:X.mg "range"=none) (hg:Gl X "range":=by rfl) (hs:starEach [a] X.env=[(false,eval a X.env)]:=by exact nW rfl):PId X tg (.Call (.Name "range" p) [a] [] pos) (aW da) :=
 (Ry hg hm ha hs).imp fun σ H Q h=>by
  obtain⟨ρ,e,c,W,V,p⟩:=h
  refine⟨ρ,e,c,W,V,post.bind p fun x c1 aO H1 v _ W1 X1 r1 p1=>?_⟩
  split at p1
  ·rename_i j _
   split at p1
   ·rename_i hj
    obtain⟨y,ys,rfl,ry,rs⟩:=r1
    cases ry;cases rs
    refine⟨j,rfl,hj.1,hj.2,p1.here W1 ?_⟩
    have:=HJ (K:=X.K) (ρ:=aO) (H:=H1) (lo:=0) (hi:=j) (st:=fun _=>True)
    rw[Int.sub_zero]at this
    exact this
   ·exact p1.elim
  ·exact p1.elim
theorem Yg{a b:Expr}{da:aj}{p pos:Pos}(ha:eF X [a,b] da) (hm:X.mg "range"=none) (hg:Gl X "range":=by rfl) (hs:starEach [a,b] X.env=[(false,eval a X.env),(false,eval b X.env)]:=by exact Fb rfl rfl) (hs2:starEach [b] X.env=[(false,eval b X.env)]:=by exact nW rfl):PId X tg (.Call (.Name "range" p) [a,b] [] pos) (tN da) :=
 (Rx hg hm ha hs hs2).imp fun σ H Q h=>by
  obtain⟨ρ,e,c,W,V,p⟩:=h
  refine⟨ρ,e,c,W,V,post.bind p fun x c1 aO H1 v _ W1 X1 r1 p1=>?_⟩
  split at p1
  ·rename_i i j _
   split at p1
   ·rename_i hj
    obtain⟨y,ys,rfl,ry,z,zs,rfl,rz,rs⟩:=r1
    cases ry;cases rz;cases rs
    exact⟨i,j,rfl,hj,p1.here W1 HJ⟩
   ·exact p1.elim
  ·exact p1.elim
theorem XE{l m:List D}{a b:Addr}{st:aa→Prop}(h:∀ρ' H' c',Wd K ρ' H' c'→Ext ρ H ρ' H'→st c'→∃xs ys,bB K H' a xs∧bB K H' b ys∧aN K ρ' H' l xs∧aN K ρ' H' m ys):JS K ρ H ⟨List.zipWith (fun x y=>.tup [x,y]) l m,st⟩ (xQ (bB K) a b):=by
 intro ρ' H' c' W E s i
 obtain⟨xs,ys,q1,q2,r1,r2⟩:=h ρ' H' c' W E s
 refine⟨fun d hd=>?_,fun e=>⟨xs,ys,q1,q2,?_⟩⟩
 ·have hd:(List.zipWith (fun x y=>D.tup [x,y]) l m)[i]? = some d:=hd
  rw[ajq]at hd
  cases e1:l[i]? with
  |none=>rw[e1]at hd;cases hd
  |some x =>
   cases e2:m[i]? with
   |none=>rw[e1,e2]at hd;cases hd
   |some y =>
    rw[e1,e2]at hd
    cases hd
    obtain⟨v,hv,rv⟩:=r1.get e1
    obtain⟨u,hu,ru⟩:=r2.get e2
    refine⟨⟨xs,ys,v,u,q1,q2,hv,hu⟩,fun z H2 hz=>?_⟩
    obtain⟨t,v',u',rfl,ht,rfl,hz⟩:=hz
    obtain⟨z1,z2⟩:=hz xs ys q1 q2
    rw[hv]at z1;rw[hu]at z2
    cases z1;cases z2
    exact⟨W.fresh ht,Ext.fresh W ht,t,[v,u],rfl,fK,v,[u],rfl,Rel.mono W (Ext.fresh W ht) _ _ rv,u,[],rfl,Rel.mono W (Ext.fresh W ht) _ _ ru,rfl⟩
 ·have e:i=(List.zipWith (fun x y=>D.tup [x,y]) l m).length:=e
  rw[aiG]at e
  rw[r1.length,r2.length]
  omega
open Classical in
def cU(st:aa→Prop) (g:Gd) (b:ah):List D→ah
 |[],e,c=>if st c then .ok (.nx e) c else .bad
 |x::xs,e,c=>if st c then(g x e c).bind fun e c=>(b e c).bind fun f c=>match f with
   |.nx e=>cU st g b xs e c
   |.ct e=>cU st g b xs e c
   |.bk e=>.ok (.nx e) c
   |.rt d=>.ok (.rt d) c
  else .bad
def cz(s:Ev→aa→R Src) (g:Gd) (b:ah):ah:=fun e c=>(s e c).bind fun s c=>cU s.stays g b s.items e c
theorem gM{iter:Expr}{body:List Stmt}{ds:Ev→aa→R Src}{g:Gd}{db:ah}{pos:Pos}(hi:PId X tg iter ds) (hg:lP X tg g) (hb:bL X body db) (hp:PassesOwn (model X.prog X.w) X.A X.env X.xe:=by exact PassesOwn.never) (hc:X.calm=true:=by rfl)
  (hs:∀x,foldedSetIterable iter X.env x=pure x:=by intro _;rfl):jf X (.For tg iter body [] pos) (cz ds g db):=(QA hp hc hi hg hb hs).imp fun Z σ H h=>by
 obtain⟨ρ,e,c,W,V,p⟩:=h
 refine⟨ρ,e,c,W,V,post.bind p fun s c1 aO H1 J _ W1 X1 j1 p1=>?_⟩
 refine⟨fun i m σ H=>∃ρ e c,Wd X.K ρ H c∧Ext aO H1 ρ H∧dh X.K ρ H e σ∧i≤s.items.length∧m=s.items.length-i∧post X.K (lN X.K) (cU s.stays g db (s.items.drop i) e c) ρ H (En Z),
  ⟨_,aO,e,c1,W1,Ext.refl,V.mono W X1,ags _,rfl,p1⟩,?_⟩
 rintro i m σ2 H2 ⟨cT,e2,c2,W2,X2,V2,hi2,rfl,p2⟩
 by_cases hl:i<s.items.length
 ·rw[ahW hl]at p2
  unfold cU at p2
  split at p2
  ·rename_i hst
   obtain⟨go,yl⟩:=(j1 cT H2 c2 W2 X2 hst i).1 _ (afz hl)
   refine .inr ⟨go,fun σ' H'=>∃ρ e c,Wd X.K ρ H' c∧Ext aO H1 ρ H'∧dh X.K ρ H' e σ'∧i+1≤s.items.length∧post X.K (lN X.K) (cU s.stays g db (s.items.drop (i+1)) e c) ρ H' (En Z),?_,fun x H3 hy=>?_⟩
   ·rintro σ' H' ⟨ρ,e,c,w,x,v,l,q⟩
    exact⟨s.items.length-(i+1),by omega,ρ,e,c,w,x,v,l,rfl,q⟩
   ·obtain⟨W3,X3,r3⟩:=yl x H3 hy
    refine⟨cT,_,e2,c2,W3,V2.mono W2 X3,r3,post.bind (post.ext p2 X3) fun e4 c4 lU H4 LK _ W4 X4 V4 p4=>?_⟩
    refine⟨lU,e4,c4,W4,V4,post.bind p4 fun f c5 lT H5 b _ W5 X5 r5 p5=>?_⟩
    have tY:=((X2.trans X3).trans X4).trans X5
    cases f with
    |nx e1=>obtain⟨σ1,rfl,V1⟩:=r5;exact⟨lT,e1,c5,W5,tY,V1,hl,p5⟩
    |ct e1=>obtain⟨σ1,rfl,V1⟩:=r5;exact⟨lT,e1,c5,W5,tY,V1,hl,p5⟩
    |bk e1=>obtain⟨σ1,rfl,V1⟩:=r5;exact post.here (Q:=En Z) (show post X.K (lN X.K) (.ok (Fl.nx e1) c5) lT H5 (En Z)from p5) W5 ⟨_,rfl,V1⟩
    |rt d=>obtain⟨v,rfl,V1⟩:=r5;exact post.here (Q:=En Z) (show post X.K (lN X.K) (.ok (Fl.rt d) c5) lT H5 (En Z)from p5) W5 ⟨_,rfl,V1⟩
  ·exact p2.elim
 ·obtain rfl:i=s.items.length:=by omega
  rw[ajr (afs _)]at p2
  unfold cU at p2
  split at p2
  ·rename_i hst
   exact .inl ⟨(j1 cT H2 c2 W2 X2 hst _).2 rfl,post.here (Q:=En Z) p2 W2 ⟨σ2,rfl,V2⟩⟩
  ·exact p2.elim
end
end L2
namespace L2
open PySem PySem.Spec PyProof.Rows
def cA(pick:List (Option Nat)) (e:Ev):Ev:=pick.map fun o=>o.bind fun j=>(e[j]?).bind id
open Classical in
def br(st:aa→Prop) (g:Gd) (t:ai) (el:af):List D→Ev→List D→aa→R (List D)
 |[],e,acc,c=>if st c then .ok acc c else .bad
 |x::xs,e,acc,c=>if st c then(g x e c).bind fun e c=>(t e c).bind fun k c=>if k=true then(el e c).bind fun y c=>br st g t el xs e (acc++[y]) c else br st g t el xs e acc c else .bad
def aK(s:Ev→aa→R Src) (pick:List (Option Nat)) (g:Gd) (t:ai) (el:af):af:=fun e c=>(s e c).bind fun s c =>
 if s.items.length<sizeLine then(br s.stays g t el s.items (cA pick e) [] c).bind fun l c=>.ok (.lst l) c else .bad
def aG:ai:=fun _ c=>.ok true c
abbrev xJ(X:Cx) (ifs:List Expr) (t:ai):Prop:=nJ X ifs (tD X.K (fun _ _ a b=>a=b) t)
section
variable {X:Cx}{N':List Str}{pick:List (Option Nat)}{scope:Scope}{tg elt iter:Expr}{ifs:List Expr}{pos:Pos}{ds:Ev→aa→R Src}{g:Gd}{dt:ai}{de:af}
theorem cM:xJ X [] aG:=fun pins s σ H Q I h=>by
 obtain⟨ρ,e,c,W,V,p⟩:=h
 exact Rr pins s σ H Q I (post.here (b:=true) p W rfl)
theorem F6{c':Expr}(h:gD X c' dt):xJ X [c'] dt:=Rq h
theorem dh.picked{K:PySem.W.Frag}{ρ:List Addr}{H:Hp}{e:Ev}{σ:St}(V:dh K ρ H e σ):dh K ρ H (cA pick e) (ji pick σ):=by
 refine⟨fun i d h=>?_,by simp[cA,ji]⟩
 unfold cA at h
 unfold ji
 rw[afS]at h ⊢
 cases q:pick[i]? with
 |none=>rw[q]at h;cases h
 |some o =>
  rw[q]at h
  cases o with
  |none=>cases h
  |some j =>
   have h':(e[j]?).bind id=some d:=afN h
   cases q2:e[j]? with
   |none=>rw[q2]at h';cases h'
   |some z =>
    rw[q2]at h'
    have h'':z=some d:=h'
    subst h''
    obtain⟨v,hv,r⟩:=V.get j d q2
    exact⟨v,by simp[hv],r⟩
theorem abz{K:PySem.W.Frag}{aO:List Addr}{H1:Hp}{c1:aa}{e:Ev}{σ:St}{s:Src}{J:It}{Q:VK}(W1:Wd K aO H1 c1) (V1:dh K aO H1 e σ) (j1:JS K aO H1 s J) (hn:s.items.length<sizeLine)
  (p1:post K (Rel K) ((br s.stays g dt de s.items e [] c1).bind fun l c=>.ok (.lst l) c) aO H1 Q):LH J (uB K g) (tD K (fun _ _ a b=>a=b) dt) (tD K (Rel K) de) Q σ H1:=by
 refine⟨fun i m σ ys H=>∃ρ e acc c,Wd K ρ H c∧Ext aO H1 ρ H∧dh K ρ H e σ∧aN K ρ H acc ys∧acc.length≤i∧i≤s.items.length∧m=s.items.length-i∧post K (Rel K) ((br s.stays g dt de (s.items.drop i) e acc c).bind fun l c=>.ok (.lst l) c) ρ H Q,
  ⟨_,aO,e,[],c1,W1,Ext.refl,V1,rfl,afs _,ags _,rfl,p1⟩,?_⟩
 rintro i m σ2 ys H2 ⟨cT,e2,acc,c2,W2,X2,V2,r2,ha,hi2,rfl,p2⟩
 refine⟨by rw[r2.length];omega,?_⟩
 by_cases hl:i<s.items.length
 ·rw[ahW hl]at p2
  unfold br at p2
  split at p2
  ·rename_i hst
   obtain⟨go,yl⟩:=(j1 cT H2 c2 W2 X2 hst i).1 _ (afz hl)
   refine .inr ⟨go,fun σ' ys' H'=>∃ρ e acc c,Wd K ρ H' c∧Ext aO H1 ρ H'∧dh K ρ H' e σ'∧aN K ρ H' acc ys'∧acc.length≤i+1∧i+1≤s.items.length∧post K (Rel K) ((br s.stays g dt de (s.items.drop (i+1)) e acc c).bind fun l c=>.ok (.lst l) c) ρ H' Q,?_,fun x H3 hy=>?_⟩
   ·rintro σ' ys' H' ⟨ρ,e,acc,c,w,x,v,r,a,l,q⟩
    exact⟨s.items.length-(i+1),by omega,ρ,e,acc,c,w,x,v,r,a,l,rfl,q⟩
   ·obtain⟨W3,X3,r3⟩:=yl x H3 hy
    have assoc:∀{α β γ:Type}(r:R α) (f:α→aa→R β) (g:β→aa→R γ),(r.bind f).bind g=r.bind fun a c=>(f a c).bind g:=fun r f g=>by cases r<;>rfl
    rw[assoc]at p2
    refine⟨cT,_,e2,c2,W3,V2.mono W2 X3,r3,post.bind (post.ext p2 X3) fun e4 c4 lU H4 LK _ W4 X4 V4 p4=>?_⟩
    rw[assoc]at p4
    refine⟨lU,e4,c4,W4,V4,post.bind p4 fun k c5 lT H5 b _ W5 X5 r5 p5=>?_⟩
    cases r5
    have tY:=((X2.trans X3).trans X4).trans X5
    have FZ:=aN.mono W2 ((X3.trans X4).trans X5) _ _ r2
    cases k with
    |true =>
     refine kY ?_
     rw[if_pos rfl,assoc]at p5
     refine⟨lT,e4,c5,W5,V4.mono W4 X5,post.bind p5 fun y c6 LL H6 v _ W6 X6 r6 p6=>?_⟩
     refine⟨LL,e4,acc++[y],c6,W6,tY.trans X6,(V4.mono W4 X5).mono W5 X6,(aN.mono W5 X6 _ _ FZ).append ⟨v,[],rfl,r6,rfl⟩,by simp;exact ha,hl,p6⟩
    |false =>
     refine kZ ?_
     rw[if_neg afR]at p5
     exact⟨lT,e4,acc,c5,W5,tY,V4.mono W4 X5,FZ,Nat.le_succ_of_le ha,hl,p5⟩
  ·exact p2.elim
 ·obtain rfl:i=s.items.length:=by omega
  rw[ajr (afs _)]at p2
  unfold br at p2
  split at p2
  ·rename_i hst
   exact .inl ⟨(j1 cT H2 c2 W2 X2 hst _).2 rfl,pV W2 r2 p2⟩
  ·exact p2.elim
theorem JJ{σ:St}{H:Hp}{Q:VK}{K:PySem.W.Frag}(h:tD K (Rel K) (aK ds pick g dt de) σ H Q):yE (EX K ds) pick (uB K g) (tD K (fun _ _ a b=>a=b) dt) (tD K (Rel K) de) σ H Q:=by
 obtain⟨ρ,e,c,W,V,p⟩:=h
 refine⟨ρ,e,c,W,V,post.bind p fun s c1 aO H1 J _ W1 X1 j1 p1=>?_⟩
 split at p1
 ·rename_i hn
  exact abz W1 (V.mono W X1).picked j1 hn p1
 ·exact p1.elim
theorem cN(S:bK X N' pick scope) (hit:PId X tg iter ds)
  (hg:∀cl C s₀ H₀ ex pn,lP (eE X N' scope cl C s₀ H₀ ex pn) tg g) (hi:∀cl C s₀ H₀ ex pn,xJ (eE X N' scope cl C s₀ H₀ ex pn) ifs dt) (he:∀cl C s₀ H₀ ex pn,aT (eE X N' scope cl C s₀ H₀ ex pn) elt de)
  (hc:X.calm=true:=by rfl) (hs:∀x,foldedSetIterable iter X.env x=pure x:=by intro _;rfl) :
  aT X (.ListComp elt [⟨tg,iter,ifs,0⟩] scope pos) (aK ds pick g dt de):=(RT S hc hit hg hi he hs).imp fun σ H Q h=>JJ h
theorem Fz{i:Nat}{y:Str}{py spos:Pos}(S:bK X N' pick scope) (hit:PId X tg iter ds)
  (hg:∀cl C s₀ H₀ ex pn,lP (eE X N' scope cl C s₀ H₀ ex pn) tg g) (hi:∀cl C s₀ H₀ ex pn,xJ (eE X N' scope cl C s₀ H₀ ex pn) ifs dt) (he:∀cl C s₀ H₀ ex pn,aT (eE X N' scope cl C s₀ H₀ ex pn) elt de)
  (hsw:swapsWith (.ListComp elt [⟨tg,iter,ifs,0⟩] scope pos) (some (.Name y py)) spos.line X.env=pure true:=by rfl) (hN:X.N.Nodup:=by decide +kernel) (hy:X.N[i]? = some y:=by rfl) (hl:X.env.scope.names.lookup y=some .local:=by rfl)
  (hc:X.calm=true:=by rfl) (hs:∀x,foldedSetIterable iter X.env x=pure x:=by intro _;rfl) :
  jf X (.Assign [.Name y py] (.ListComp elt [⟨tg,iter,ifs,0⟩] scope pos) spos) (aH i (aK ds pick g dt de)):=(Qw (g:=uB X.K g) (tt:=tD X.K (fun _ _ a b=>a=b) dt) (te:=tD X.K (Rel X.K) de) hsw hN hy hl S hc hit hg hi he hs).imp fun Z σ H h=>by
 refine JJ (g:=g) (dt:=dt) (de:=de) ?_
 obtain⟨ρ,e,c,W,V,p⟩:=h
 refine⟨ρ,e,c,W,V,post.bind p fun x c1 aO H1 v _ W1 X1 r1 p1=>p1.here W1 ⟨_,rfl,(V.mono W X1).set r1 i⟩⟩
end
def bU(K:PySem.W.Frag) (n:Nat) (m:List D→aa→R D):Sp:=fun vs H Q _=>∃ρ xs c,Wd K ρ H c∧aN K ρ H xs vs∧xs.length=n∧post K (Rel K) (m xs c) ρ H Q
def aA(n:Nat) (m:List D→aa→R D) (a:aj):af:=fun e c=>(a e c).bind fun xs c=>if xs.length=n then m xs c else .bad
def cS(n:Nat) (xs:List D):Ev:=xs.map some++List.replicate (n-xs.length) none
def eB(own:Bool) (n:Nat) (v:D) (c:aa):R D:=match v with
 |.ref k=>match c[k]? with
  |some (.lst l)=>if n≤k then(if own=true then .ok (.ref n) (c.take n++[.lst l])else .ok (.lst l) (c.take n))else .bad
  |none=>.bad
 |v=>if noRef v=true then .ok v (c.take n)else .bad
def bN(n:Nat) (own:Bool) (d:ah):List D→aa→R D:=fun xs c=>(d (cS n xs) c).bind fun f c'=>match f with
 |.rt v=>eB own c.length v c'
 |.nx _=>eB own c.length .aL c'
 |_=>.bad
section
variable {P:Program}{w:World}{K:PySem.W.Frag}{mg:Str→Option Value}{base:Heap}
theorem Jl{own:Bool}{ρ aO:List Addr}{H H1:Hp}{c c1:aa}{v:D}{x:V}{Q:VK}(W:Wd K ρ H c) (W1:Wd K aO H1 c1) (X1:Ext ρ H aO H1) (r:Rel K aO H1 v x) (p:post K (Rel K) (eB own c.length v c1) ρ H Q):Q x H1:=by
 have hn:=Ext.len W W1 X1
 have Wc:=W1.cut hn
 have Xc:=X1.cut (n:=c.length) (agY W.len)
 unfold eB at p
 split at p
 ·rename_i k
  split at p
  ·rename_i l hl
   split at p
   ·rename_i hk
    obtain⟨a,rfl,ha⟩:=r
    obtain⟨nr,xs,hx,rl⟩:=W1.e7 k a _ ha hl
    have na:a∉aO.take c.length:=by
     intro h
     obtain⟨j,hj,e⟩:=ahm.mp h
     have hj2:j<c.length:=by simp at hj;omega
     rw[aiH]at e
     have hk1:=afJ.mp ha
     have hjl:j<aO.length:=by simp at hj;omega
     have:=(ahF W1.nd (h₀:=hjl) (h₁:=hk1.1)).mp (e.trans hk1.2.symm)
     omega
    have sub:∀b,b∈aO.take c.length→b∈aO:=fun b h=>agO h
    split at p
    ·have lr:(aO.take c.length).length=c.length:=by simp[W1.len];omega
     refine p (aO.take c.length++[a]) H1 (.ref a) ?_ ?_ ⟨a,rfl,?_⟩
     ·refine⟨?_,by simp[W1.len],fun j b cl e1 e2=>?_,W1.tab⟩
      ·rw[ag5]
       refine⟨Wc.nd,by simp,?_⟩
       intro y hy z hz
       rw[af1]at hz
       subst hz
       exact fun q=>na (q▸hy)
      ·by_cases hj:j<c.length
       ·rw[af7 (by rw[lr];exact hj)]at e1
        rw[af7 (by simp;omega)]at e2
        have q:=Wc.e7 j b cl e1 e2
        cases cl with
        |lst l' =>
         obtain⟨pU,ys,hy,r'⟩:=q
         refine⟨pU,ys,hy,aN.low (ρ:=aO) (fun z hz=>?_) l' ys pU ?_⟩
         ·rcases af3.mp hz with hz|hz
          ·exact sub z hz
          ·rw[af1]at hz;subst hz;exact afT ha
         ·have tH:aO[j]? = some b:=by rw[ahn,if_pos hj]at e1;exact e1
          have ZR:c1[j]? = some (.lst l'):=by rw[ahn,if_pos hj]at e2;exact e2
          obtain⟨_,zs,hz,rz⟩:=W1.e7 j b _ tH ZR
          rw[hy]at hz;cases hz
          exact rz
       ·have hj':j=c.length:=by
         have:=(afJ.mp e1).1
         rw[af4,lr]at this
         simp at this
         omega
        subst hj'
        rw[ago (by rw[lr];exact afs _),lr,ag6]at e1
        rw[ago (by simp;omega),show c.length-(List.take c.length c1).length=0 by simp;omega]at e2
        cases e1;cases e2
        refine⟨nr,xs,hx,aN.low (ρ:=aO) (fun z hz=>?_) l xs nr rl⟩
        rcases af3.mp hz with hz|hz
        ·exact sub z hz
        ·rw[af1]at hz;subst hz;exact afT ha
     ·refine⟨fun j b e=>?_,fun b o e z t=>?_⟩
      ·have q:=Xc.pre j b e
       rw[af7 (afJ.mp q).1];exact q
      ·obtain⟨h1,h2⟩:=X1.keep b o e z t
       refine⟨h1,fun q=>h2 ?_⟩
       rcases af3.mp q with q|q
       ·exact sub b q
       ·rw[af1]at q;subst q;exact afT ha
     ·rw[ago (by rw[lr];exact afs _),lr,ag6];rfl
    ·exact p (aO.take c.length) H1 (.ref a) Wc Xc ⟨a,xs,rfl,⟨hx,na⟩,aN.low sub l xs nr rl⟩
   ·exact p.elim
  ·exact p.elim
 ·split at p
  ·rename_i hv
   exact p _ H1 x Wc Xc (Rel.low (fun b h=>agO h) _ _ hv r)
  ·exact p.elim
theorem dh.start{ρ:List Addr}{H:Hp}{xs:List D}{vs:List V}{N:List Str}(r:aN K ρ H xs vs):dh K ρ H (cS N.length xs) (start N vs):=by
 have hl:=r.length
 refine⟨fun i d h=>?_,by simp[cS,L2.start,hl]⟩
 unfold cS at h
 unfold L2.start
 by_cases hi:i<xs.length
 ·rw[af7 (by simpa using hi),afS]at h
  cases q:xs[i]? with
  |none=>rw[q]at h;cases h
  |some x =>
   rw[q]at h
   cases h
   obtain⟨v,hv,rv⟩:=r.get q
   exact⟨v,by rw[af7 (by simp[hl];exact hi),afS,hv];rfl,rv⟩
 ·rw[ago (by simpa using ajk hi)]at h
  have:=afT h
  rw[List.mem_replicate]at this
  cases this.2
theorem cD{x qual:Str}{st:Stmt}{f:Addr}{fd:FuncData}{N ps:List Str}{k n m:Nat}{own:Bool}{d:ah}(F:nL K x qual st f fd) (S:b7 N ps (aS st)) (hN:N.length=n) (hm:ps.length=m)
  (hb:∀(cdv:Value) (A:Around) (outer:List Env) (s:Shared) (H:Hp) (E:XK),dR k (A.deeper (envOfC qual (aS st) s.heap.objs.size f cdv))→bL (nc bG P w K mg base N qual (aS st) f cdv A outer s H E).rZ (bQ st) d) :
  bF P w K mg base bG (k+1) f fd ps (bU K m (bN n own d)):=by
 subst hN;subst hm
 refine F.ok S (fun vs H Q E h=>?_) (fun cdv A outer s H vs Q E hr h=>⟨_,hb cdv A outer s H E hr,?_⟩)
 ·obtain⟨ρ,xs,c,W,r,hl,p⟩:=h
  exact r.length.trans hl
 ·obtain⟨ρ,xs,c,W,r,hl,p⟩:=h
  refine⟨ρ,cS N.length xs,c,W,dh.start r,post.bind p fun fl c1 aO H1 b _ W1 X1 r1 p1=>?_⟩
  cases fl with
  |nx e1 =>
   obtain⟨σ1,rfl,V1⟩:=r1
   exact Jl (v:=.aL) (x:=.aL) (H1:=H1) W W1 X1 rfl (by
    unfold bN at p;exact id (α:=post K (Rel K) (eB own c.length .aL c1) ρ H Q) (by
     rename_i he;rw[he]at p;exact p))
  |rt d =>
   obtain⟨v,rfl,V1⟩:=r1
   exact Jl (v:=d) (x:=v) (H1:=H1) W W1 X1 V1 (by
    unfold bN at p;rename_i he;rw[he]at p;exact p)
  |bk e1=>exact p1.elim
  |ct e1=>exact p1.elim
end
end L2
namespace L2
open PySem PySem.Spec PyProof.Rows
section
variable {X:Cx}
theorem aX{x:Str}{st:Stmt}{ps:List Str}{f:Addr}{fd:FuncData}{k n:Nat}{m:List D→aa→R D}{e:Expr}{es:List Expr}{da:aj}{p pos:Pos}(D:Def X.K X.mg x st ps f fd) (G:bF X.prog X.w X.K X.mg X.base bG k f fd ps (bU X.K n m)) (hr:dR k X.A) (ha:eF X (e::es) da) (hg:Gl X x:=by rfl)
  (hdb:(x==("__debug__":Str))=false:=by decide) (he:starEach (e::es) X.env=(false,eval e X.env)::starEach es X.env:=by exact cL rfl) (hpl:(backTo pos (starEach es X.env)).any (·.1)=false:=by exact fc rfl) :
  aT X (.Call (.Name x p) (e::es) [] pos) (aA n m da):=(RS D G hr ha hg hdb he hpl).imp fun σ H Q h=>by
 obtain⟨ρ,e,c,W,V,q⟩:=h
 refine⟨ρ,e,c,W,V,post.bind q fun xs c1 aO H1 vs _ W1 X1 r1 p1=>?_⟩
 split at p1
 ·rename_i hl
  exact⟨aO,xs,c1,W1,by rw[agU];exact r1,hl,p1⟩
 ·exact p1.elim
theorem cR{id:String}{x:Str}{p pos:Pos}{e:Expr}{es:List Expr}{da:aj}{f:List D→aa→R D}(hc:dw X (.builtin id) (rN X.K f)) (hm:X.mg x=none) (hv:bootBuiltins x=some (.builtin id)) (ha:eF X (e::es) da) (hg:Gl X x:=by rfl) (hn:x≠"__name__":=by decide) (hdb:(x==("__debug__":Str))=false:=by decide)
  (he:starEach (e::es) X.env=(false,eval e X.env)::starEach es X.env:=by exact cL rfl) (hpl:(backTo pos (starEach es X.env)).any (·.1)=false:=by exact fc rfl):aT X (.Call (.Name x p) (e::es) [] pos) (aF f da):=(uS hc hg hm hv ha hn hdb he hpl).imp fun σ H Q h=>EU h
theorem gm{T:String}{x:Str}{p pos:Pos}{e:Expr}{es:List Expr}{da:aj}{f:List D→aa→R D}(hc:dw X (.type T) (rN X.K f)) (hm:X.mg x=none) (hv:bootBuiltins x=some (.type T)) (ha:eF X (e::es) da) (hg:Gl X x:=by rfl) (hn:x≠"__name__":=by decide) (hdb:(x==("__debug__":Str))=false:=by decide)
  (he:starEach (e::es) X.env=(false,eval e X.env)::starEach es X.env:=by exact cL rfl) (hpl:(backTo pos (starEach es X.env)).any (·.1)=false:=by exact fc rfl):aT X (.Call (.Name x p) (e::es) [] pos) (aF f da):=(kM hc hg hm hv ha hn hdb he hpl).imp fun σ H Q h=>EU h
end
def aR:List D→aa→R D:=fun xs c=>match xs with
 |[x]=>match gK c x with
  |some l=>.ok (.int l.length) c
  |none=>match x with
   |.str z=>if z.length≤sizeLine then .ok (.int z.length) c else .bad
   |_=>.bad
 |_=>.bad
def EH:D→Option String
 |.aL=>some "NoneType"
 |.bl _=>some "bool"
 |.int _=>some "int"
 |.str _=>some "str"
 |.tup _=>some "tuple"
 |.lst _=>some "list"
 |.ref _=>some "list"
 |_=>none
def bV:List D→aa→R D:=fun xs c=>match xs with
 |[.lF,.ty T]=>if T∈["bool","int","str","list","tuple","dict"]then .ok (.bl (rH "dict" T)) c else .bad
 |[x,.ty T]=>match EH x with
  |some n=>if T∈["bool","int","str","list","tuple","dict"]then .ok (.bl (rH n T)) c else .bad
  |none=>.bad
 |_=>.bad
def lH:List D→Option (List Bool)
 |[]=>some []
 |.bl b::l=>(lH l).map (b :: ·)
 |_=>none
def ju:List D→Option (List Int)
 |[]=>some []
 |.int i::l=>(ju l).map (i :: ·)
 |_=>none
theorem DW(l:List Bool):lH (l.map D.bl)=some l:=by
 induction l with
 |nil=>rfl
 |cons a l ih=>simp[lH,ih]
theorem Bp(l:List Int):ju (l.map D.int)=some l:=by
 induction l with
 |nil=>rfl
 |cons a l ih=>simp[ju,ih]
theorem DX:∀{l:List D}{bs:List Bool},lH l=some bs→l=bs.map D.bl
 |[],bs,h=>by cases h;rfl
 |d::l,bs,h=>by
  cases d with
  |bl b =>
   unfold lH at h
   cases q:lH l with
   |none=>rw[q]at h;cases h
   |some r=>rw[q]at h;cases h;rw[DX q];rfl
  |_=>cases h
theorem Bq:∀{l:List D}{bs:List Int},ju l=some bs→l=bs.map D.int
 |[],bs,h=>by cases h;rfl
 |d::l,bs,h=>by
  cases d with
  |int b =>
   unfold ju at h
   cases q:ju l with
   |none=>rw[q]at h;cases h
   |some r=>rw[q]at h;cases h;rw[Bq q];rfl
  |_=>cases h
def l8(f:List Bool→Bool):List D→aa→R D:=fun xs c=>match xs with
 |[.lst l]=>match lH l with
  |some bs=>.ok (.bl (f bs)) c
  |none=>.bad
 |_=>.bad
def dM:=l8 fun bs=>bs.all id
def gg:=l8 fun bs=>bs.any id
def p7:List D→aa→R D:=fun xs c=>match xs with
 |[.int i,.int j]=>.ok (.int (if j>i then j else i)) c
 |_=>.bad
def bH:List D→aa→R D:=fun xs c=>match xs with
 |[x]=>match gK c x with
  |some l=>.ok (.tup l) c
  |none=>.bad
 |_=>.bad
section
variable {X:Cx}{K:PySem.W.Frag}{ρ:List Addr}{H:Hp}{c:aa}
theorem eO:dw X (.builtin "len") (rN X.K aR):=by
 intro pins s σ H vs us Q I rv h
 obtain⟨ρ,xs,c,W,rx,p⟩:=h
 unfold aR at p
 split at p
 ·rename_i x
  obtain⟨v,r,rfl,hx,hr⟩:=rx
  cases hr
  split at p
  ·rename_i l hl
   obtain⟨a,ys,rfl,sq,r⟩:=yN W hx hl
   exact abZ pins s σ H _ us Q I rv ⟨a,ys,rfl,sq,by rw[r.length];exact p.here W rfl⟩
  ·split at p
   ·split at p
    ·rename_i hz
     cases hx
     exact abY pins s σ H _ us Q I rv ⟨_,rfl,hz,p.here W rfl⟩
    ·exact p.elim
   ·exact p.elim
 ·exact p.elim
theorem MA{x:D}{v:V}{n:String}(W:Wd K ρ H c) (rx:Rel K ρ H x v) (h:EH x=some n):tyName H v n:=by
 cases x with
 |aL=>cases rx;cases h;exact rfl
 |bl b=>cases rx;cases h;exact rfl
 |int b=>cases rx;cases h;exact rfl
 |str b=>cases rx;cases h;exact rfl
 |tup l=>obtain⟨a,xs,rfl,s,r⟩:=rx;cases h;exact .inr (.inl ⟨rfl,xs,s⟩)
 |lst l=>obtain⟨a,xs,rfl,s,r⟩:=rx;cases h;exact .inl ⟨rfl,.inl ⟨xs,s.1⟩⟩
 |ref k =>
  obtain⟨a,rfl,s⟩:=rx
  cases h
  obtain⟨xs,e⟩:=W.at' (afT s)
  exact .inl ⟨rfl,.inl ⟨xs,e⟩⟩
 |_=>cases h
theorem xE:dw X (.builtin "isinstance") (rN X.K bV):=by
 intro pins s σ H vs us Q I rv h
 obtain⟨ρ,xs,c,W,rx,p⟩:=h
 unfold bV at p
 split at p
 ·split at p
  ·rename_i hT
   obtain⟨v,r,rfl,⟨a,rfl,hH⟩,u,r',rfl,hu,hr⟩:=rx
   cases hr
   cases hu
   obtain⟨u1,u2,rfl,r1,r2⟩:=Vals.two rv
   cases r1;cases r2
   obtain⟨hp,_,_⟩:=I.hok a _ hH
   exact agi aif I.eo hp (HE (n:="dict") (by simp) hT) (fun z=>nomatch z) fun tk=>⟨.bl _,H,I.tok _,rfl,p.here W rfl⟩
  ·exact p.elim
 ·split at p
  ·rename_i n hn
   split at p
   ·rename_i hT
    obtain⟨v,r,rfl,hx,u,r',rfl,hu,hr⟩:=rx
    cases hr
    cases hu
    exact ab0 pins s σ H _ us Q I rv ⟨v,n,_,rfl,MA W hx hn,hT,p.here W rfl⟩
   ·exact p.elim
  ·exact p.elim
 ·exact p.elim
theorem tT(hc:X.calm=true:=by rfl):dw X (.builtin "all") (rN X.K dM):=by
 intro pins s σ H vs us Q I rv h
 obtain⟨ρ,xs,c,W,rx,p⟩:=h
 unfold dM l8 at p
 split at p
 ·split at p
  ·rename_i bs hb
   obtain⟨v,r,rfl,⟨a,ys,rfl,s1,r1⟩,hr⟩:=rx
   cases hr
   rw[DX hb]at r1
   cases r1.DV
   exact ab2 hc pins s σ H _ us Q I rv ⟨a,bs,rfl,aZ.of s1.1,p.here W rfl⟩
  ·exact p.elim
 ·exact p.elim
theorem Kv(hc:X.calm=true:=by rfl):dw X (.builtin "any") (rN X.K gg):=by
 intro pins s σ H vs us Q I rv h
 obtain⟨ρ,xs,c,W,rx,p⟩:=h
 unfold gg l8 at p
 split at p
 ·split at p
  ·rename_i bs hb
   obtain⟨v,r,rfl,⟨a,ys,rfl,s1,r1⟩,hr⟩:=rx
   cases hr
   rw[DX hb]at r1
   cases r1.DV
   exact ab1 hc pins s σ H _ us Q I rv ⟨a,bs,rfl,aZ.of s1.1,p.here W rfl⟩
  ·exact p.elim
 ·exact p.elim
theorem abK(hc:X.calm=true:=by rfl):dw X (.builtin "max") (rN X.K p7):=by
 intro pins s σ H vs us Q I rv h
 obtain⟨ρ,xs,c,W,rx,p⟩:=h
 unfold p7 at p
 split at p
 ·obtain⟨v,r,rfl,hx,u,r',rfl,hu,hr⟩:=rx
  cases hr;cases hx;cases hu
  exact abX hc pins s σ H _ us Q I rv ⟨_,_,rfl,p.here W rfl⟩
 ·exact p.elim
theorem gy:dw X (.type "tuple") (rN X.K bH):=by
 intro pins s σ H vs us Q I rv h
 obtain⟨ρ,xs,c,W,rx,p⟩:=h
 unfold bH at p
 split at p
 ·rename_i x
  obtain⟨v,r,rfl,hx,hr⟩:=rx
  cases hr
  split at p
  ·rename_i l hl
   obtain⟨a,ys,rfl,sq,r⟩:=yN W hx hl
   refine abW pins s σ H _ us Q I rv ⟨a,ys,rfl,?_⟩
   rcases sq with sq|sq
   ·exact .inl ⟨sq,vj W r p⟩
   ·refine .inr ⟨sq,?_⟩
    cases x with
    |tup m=>cases hl;exact p.here W hx
    |lst m =>
     obtain⟨b,zs,e,s1,_⟩:=hx
     cases e
     exfalso
     rcases sq with sq|⟨o,its,n,hk,hcl,_⟩
     ·rcases sq with sq|⟨o,sq⟩<;>(rw[s1.1]at sq;cases sq)
     ·have:=I.bs a o (I.ok.mod.mR a o hk)
      rw[s1.1]at this
      cases this.2
    |cG m =>
     exfalso
     obtain⟨b,e,s1⟩:=hx
     cases e
     obtain⟨i1,_,pl,_⟩:=I.list s1.sql
     obtain⟨i2,_,pt,_⟩:=I.tuple sq
     obtain⟨o1,e1,c1,_⟩:=pl.isList
     obtain⟨o2,e2,c2,_⟩:=pt
     rw[e1]at e2;cases e2
     rw[c1]at c2
     exact absurd c2 (by decide)
    |ref k =>
     exfalso
     obtain⟨b,e,s1⟩:=hx
     cases e
     obtain⟨zs,hz⟩:=W.at' (afT s1)
     rcases sq with sq|⟨o,its,n,hk,hcl,_⟩
     ·rcases sq with sq|⟨o,sq⟩<;>(rw[hz]at sq;cases sq)
     ·have:=I.bs a o (I.ok.mod.mR a o hk)
      rw[hz]at this
      cases this.2
    |_=>cases hl
  ·exact p.elim
 ·exact p.elim
end
def fk(o a:af):af:=fun e c=>(o e c).bind fun x c=>match x with
 |.ref k=>(a e c).bind fun y c=>match c[k]? with
  |some (.lst l)=>if l.length<sizeLine∧noRef y=true then .ok .aL (c.set k (.lst (l++[y])))else .bad
  |none=>.bad
 |_=>.bad
theorem zg{X:Cx}{o e:Expr}{dO da:af}{apos cpos:Pos}(ho:aT X o dO) (ha:aT X e da)
  (hbase:attributeBase o "append" X.env (eval o X.env)=eval o X.env:=by rfl)
  (hfew:((backTo cpos (starEach [e] X.env)).all (fun x=>!x.1)&&(backToKw cpos (keywordEach [] X.env)).all (fun x=>x.1.isSome)
   && decide ([e].length+([]:List Keyword).length+(if([]:List Keyword).isEmpty then 0 else 1)<30))=true:=by exact uD rfl)
  (hline:(apos.endLine==cpos.line)=true:=by rfl) (hs:starEach [e] X.env=(false,eval e X.env)::starEach [] X.env:=by exact cL rfl) (hplain:(backTo cpos (starEach [] X.env)).any (·.1)=false:=by exact fc rfl) :
  aT X (.Call (.Attribute o "append" apos) [e] [] cpos) (fk dO da) :=
 (uT aiI PySem.F.slot_list_append PySem.F.type_list_append Wg ho (iT ha iS hs) hbase hfew hline hs hplain).imp fun σ H Q h=>by
  obtain⟨ρ,e,c,W,V,p⟩:=h
  refine⟨ρ,e,c,W,V,post.bind p fun x c1 aO H1 v _ W1 X1 r1 p1=>?_⟩
  cases x with
  |ref k =>
   obtain⟨a,rfl,ha⟩:=r1
   obtain⟨xs,hx⟩:=W1.at' (afT ha)
   refine⟨.inl ⟨rfl,xs,aZ.of hx⟩,aO,e,c1,W1,V.mono W X1,post.bind p1 fun y c2 cT H2 u _ W2 X2 r2 p2=>?_⟩
   split at p2
   ·rename_i l hl
    split at p2
    ·rename_i hh
     obtain⟨nr,ys,hy,rl⟩:=W2.e7 k a _ (X2.pre k a ha) hl
     refine⟨a,ys,u,rfl,rfl,hy,by rw[rl.length];exact hh.1,?_⟩
     refine p2 cT _ .aL (W2.write (X2.pre k a ha) (by rw[sd,nr];simp[bD,hh.2]) (rl.append ⟨u,[],rfl,r2,rfl⟩)) (Ext.write (X2.pre k a ha)) rfl
    ·exact p2.elim
   ·exact p2.elim
  |_=>exact p1.elim
end L2
namespace L2
open PySem
section
variable (e:Ev) (c:aa) (a b d:af) (ta tb:ai) (s t:ah) (l:aj) (g:Gd) (gs:List D→Ev→aa→R Ev)
@[simp] theorem cF(i:Nat):ak i e c=match e[i]? with|some (some d)=>.ok d c|_=>.bad:=rfl
@[simp] theorem yt(d:D):dC d e c=.ok d c:=rfl
@[simp] theorem gI(f:D→D→aa→R D):au f a b e c=(a e c).bind fun x c=>(b e c).bind fun y c=>f x y c:=rfl
@[simp] theorem x_un(f:D→aa→R D):i8 f a e c=(a e c).bind fun x c=>f x c:=rfl
@[simp] theorem d8(f:List D→aa→R D):aF f l e c=(l e c).bind fun xs c=>f xs c:=rfl
@[simp] theorem aeb(f g:D→D→aa→R D):m9 f g a b d e c=(a e c).bind fun x c=>(b e c).bind fun y c=>(f x y c).bind fun z c=>match z with
 |.bl true=>(d e c).bind fun u c=>g y u c
 |.bl false=>.ok (.bl false) c
 |_=>.bad:=rfl
@[simp] theorem bS:aq e c=.ok [] c:=rfl
@[simp] theorem bT:ao a l e c=(a e c).bind fun x c=>(l e c).bind fun xs c=>.ok (x::xs) c:=rfl
@[simp] theorem LY:bZ l e c=(l e c).bind fun xs c=>if xs.length≤sizeLine then .ok (.tup xs) c else .bad:=rfl
@[simp] theorem adU:b6 l e c=(l e c).bind fun xs c=>if xs.length≤sizeLine then .ok (.lst xs) c else .bad:=rfl
@[simp] theorem adT:dG l e c=(l e c).bind fun xs c=>if xs.length≤sizeLine∧bD xs=true then .ok (.ref c.length) (c++[.lst xs])else .bad:=rfl
@[simp] theorem jh:aM a e c=(a e c).bind fun x c=>match x with|.bl b=>.ok b c|_=>.bad:=rfl
@[simp] theorem adG:qy a e c=(a e c).bind fun x c=>match nQ c x with|some b=>.ok b c|none=>.bad:=rfl
@[simp] theorem Ew:gf ta tb e c=(ta e c).bind fun x c=>if x=true then tb e c else .ok false c:=rfl
@[simp] theorem adM:fj ta tb e c=(ta e c).bind fun x c=>if x=true then .ok true c else tb e c:=rfl
@[simp] theorem rB:bR ta e c=(ta e c).bind fun x c=>.ok (!x) c:=rfl
@[simp] theorem Mb:gc a b e c=(a e c).bind fun x c=>match x with|.bl k=>if k=true then b e c else .ok (.bl false) c|_=>.bad:=rfl
@[simp] theorem adN:C5 a e c=(a e c).bind fun x c=>match x with|.bl k=>.ok (.bl (!k)) c|_=>.bad:=rfl
@[simp] theorem ad2:qC ta a b e c=(ta e c).bind fun x c=>if x=true then a e c else b e c:=rfl
@[simp] theorem x_call(n:Nat) (m:List D→aa→R D):aA n m l e c=(l e c).bind fun xs c=>if xs.length=n then m xs c else .bad:=rfl
@[simp] theorem adO:bz e c=.ok (.nx e) c:=rfl
@[simp] theorem aec:fW e c=.bad:=rfl
@[simp] theorem ur:aE s t e c=(s e c).bind fun f c=>match f with|.nx e=>t e c|f=>.ok f c:=rfl
@[simp] theorem ir:aP a e c=(a e c).bind fun x c=>.ok (.rt x) c:=rfl
@[simp] theorem nN:bW a e c=(a e c).bind fun _ c=>.ok (.nx e) c:=rfl
@[simp] theorem gH:bw ta s t e c=(ta e c).bind fun x c=>if x=true then s e c else t e c:=rfl
@[simp] theorem gF(i:Nat):aH i a e c=(a e c).bind fun x c=>.ok (.nx (e.set i (some x))) c:=rfl
@[simp] theorem aed:yT a g e c=(a e c).bind fun x c=>(g x e c).bind fun e c=>.ok (.nx e) c:=rfl
@[simp] theorem yr(i:Nat) (x:D):az i x e c=.ok (e.set i (some x)) c:=rfl
@[simp] theorem ad5:eN [] e c=.ok e c:=rfl
@[simp] theorem ad6(x:D) (xs:List D):cB g gs (x::xs) e c=(g x e c).bind fun e c=>gs xs e c:=rfl
@[simp] theorem ad3(n:Nat) (xs:List D):eu n gs (.tup xs) e c=if xs.length=n then gs xs e c else .bad:=rfl
@[simp] theorem ad4(x:D):BQ a b x e c=(a e c).bind fun o c=>(b e c).bind fun i c=>(l5 o i x c).bind fun _ c=>.ok e c:=rfl
@[simp] theorem lV(sr:Ev→aa→R Src):cz sr g s e c=(sr e c).bind fun q c=>cU q.stays g s q.items e c:=rfl
@[simp] theorem eG(n:Nat) (own:Bool) (xs:List D):bN n own s xs c=(s (cS n xs) c).bind fun f c'=>match f with
 |.rt v=>eB own c.length v c'
 |.nx _=>eB own c.length .aL c'
 |_=>.bad:=rfl
@[simp] theorem adH(n:Nat) (xs:List D):cS n xs=xs.map some++List.replicate (n-xs.length) none:=rfl
@[simp] theorem cV(sr:Ev→aa→R Src) (pick:List (Option Nat)):aK sr pick g ta a e c=(sr e c).bind fun q c =>
 if q.items.length<sizeLine then(br q.stays g ta a q.items (cA pick e) [] c).bind fun l c=>.ok (.lst l) c else .bad:=rfl
@[simp] theorem kB:aG e c=.ok true c:=rfl
@[simp] theorem yu(i j:Int):cy (.int i) (.int j) c=.ok (.int (i+j)) c:=rfl
@[simp] theorem aee(x y:List D):cy (.tup x) (.tup y) c=if x.length≠0∧x.length+y.length≤sizeLine then .ok (.tup (x++y)) c else .bad:=rfl
@[simp] theorem LZ(i j:Int):eT (.int i) (.int j) c=.ok (.int (i-j)) c:=rfl
theorem Et(i j:Int):bX (.int i) (.int j) c=if(-(2^64)<i∧i<2^64)∨(-(2^64)<j∧j<2^64)then .ok (.int (i*j)) c else .bad:=rfl
theorem Ma(i j:Int):i7 (.int i) (.int j) c=if 0<j∧j<1073741824 then .ok (.int (i/j)) c else .bad:=rfl
theorem L5(i j:Int):cJ (.int i) (.int j) c=if 0<j then .ok (.int (i % j)) c else .bad:=rfl
theorem L4(i j:Int):pN (.int i) (.int j) c=if 0≤j∧j≤1000000∧i.natAbs<2^64 then .ok (.int (i^j.toNat)) c else .bad:=rfl
@[simp] theorem adR(i:Int):sf (.int i) c=.ok (.int (-i)) c:=rfl
@[simp] theorem aea(p:Int→Int→Bool) (i j:Int):nh p (.int i) (.int j) c=.ok (.bl (p i j)) c:=rfl
@[simp] theorem L8(i j:Int):bE (.int i) (.int j) c=.ok (.bl (decide (i=j))) c:=rfl
@[simp] theorem adQ(i j:Int):fC (.int i) (.int j) c=.ok (.bl (!decide (i=j))) c:=rfl
@[simp] theorem ad9(i j:Bool):bE (.bl i) (.bl j) c=.ok (.bl (decide (i=j))) c:=rfl
@[simp] theorem adS(i j:Bool):fC (.bl i) (.bl j) c=.ok (.bl (!decide (i=j))) c:=rfl
@[simp] theorem ad8(i j:Str):bE (.str i) (.str j) c=.ok (.bl (decide (i=j))) c:=rfl
@[simp] theorem adP(i j:Str):fC (.str i) (.str j) c=.ok (.bl (!decide (i=j))) c:=rfl
@[simp] theorem x_is(x:D):qh x .aL c=.ok (.bl (fG x)) c:=rfl
@[simp] theorem adY(x:D):sI x .aL c=.ok (.bl (!fG x)) c:=rfl
@[simp] theorem aeA:fG .aL=true:=rfl
@[simp] theorem n_bl(b:Bool):fG (.bl b)=false:=rfl
@[simp] theorem aeC(b:Int):fG (.int b)=false:=rfl
@[simp] theorem aez(b:Str):fG (.str b)=false:=rfl
@[simp] theorem aey(b:List D):fG (.tup b)=false:=rfl
@[simp] theorem aeB(b:List D):fG (.lst b)=false:=rfl
@[simp] theorem uv(xs:List D) (i:Int):aJ (.tup xs) (.int i) c=match cI xs i with|some d=>.ok d c|none=>.bad:=rfl
@[simp] theorem yq(xs:List D) (i:Int):aJ (.lst xs) (.int i) c=match cI xs i with|some d=>.ok d c|none=>.bad:=rfl
@[simp] theorem yp(xs:List D):aR [.tup xs] c=.ok (.int xs.length) c:=rfl
@[simp] theorem Eu(xs:List D):aR [.lst xs] c=.ok (.int xs.length) c:=rfl
@[simp] theorem adX(xs:List Int):aR [.cG xs] c=.ok (.int xs.length) c:=by
 show R.ok (D.int ((xs.map D.int).length:Nat)) c=_
 rw[afy]
@[simp] theorem L6(i j:Int):p7 [.int i,.int j] c=.ok (.int (if j>i then j else i)) c:=rfl
@[simp] theorem aeo:noRef .aL=true:=rfl
@[simp] theorem r_bl(b:Bool):noRef (.bl b)=true:=rfl
@[simp] theorem aeq(b:Int):noRef (.int b)=true:=rfl
@[simp] theorem aen(b:Str):noRef (.str b)=true:=rfl
@[simp] theorem uN(b:List D):noRef (.tup b)=bD b:=by simp[noRef]
@[simp] theorem FY(b:List D):noRef (.lst b)=bD b:=by simp[noRef]
@[simp] theorem aep:bD []=true:=by simp[bD]
@[simp] theorem aer(d:D) (b:List D):bD (d::b)=(noRef d&&bD b):=by simp[bD]
@[simp] theorem Qe(own:Bool) (n:Nat) (b:Bool):eB own n (.bl b) c=.ok (.bl b) (c.take n):=rfl
@[simp] theorem aeu(own:Bool) (n:Nat):eB own n .aL c=.ok .aL (c.take n):=rfl
@[simp] theorem aew(own:Bool) (n:Nat) (b:Int):eB own n (.int b) c=.ok (.int b) (c.take n):=rfl
@[simp] theorem aet(own:Bool) (n:Nat) (b:Str):eB own n (.str b) c=.ok (.str b) (c.take n):=rfl
@[simp] theorem jk(own:Bool) (n:Nat) (b:List D):eB own n (.tup b) c=if bD b=true then .ok (.tup b) (c.take n)else .bad:=by
 show(if noRef (.tup b)=true then R.ok (D.tup b) (c.take n)else R.bad)=_
 rw[uN]
@[simp] theorem aev(own:Bool) (n:Nat) (b:List D):eB own n (.lst b) c=if bD b=true then .ok (.lst b) (c.take n)else .bad:=by
 show(if noRef (.lst b)=true then R.ok (D.lst b) (c.take n)else R.bad)=_
 rw[FY]
@[simp] theorem gG:aW l e c=(l e c).bind fun xs c=>match xs with
 |[.int j]=>if -(2^62)≤j∧j<2^62 then .ok ⟨bg 0 j,fun _=>True⟩ c else .bad
 |_=>.bad:=rfl
@[simp] theorem adK:tN l e c=(l e c).bind fun xs c=>match xs with
 |[.int i,.int j]=>if -(2^62)≤i∧i<2^62∧-(2^62)≤j∧j<2^62 then .ok ⟨bg i j,fun _=>True⟩ c else .bad
 |_=>.bad:=rfl
@[simp] theorem L0:bJ a e c=(a e c).bind fun x c=>match x with
 |.lst l=>.ok ⟨l,fun _=>True⟩ c
 |.cG l=>.ok ⟨l.map D.int,fun _=>True⟩ c
 |.ref k=>match c[k]? with
  |some (.lst l)=>.ok ⟨l,fun c=>c[k]? = some (.lst l)⟩ c
  |none=>.bad
 |_=>.bad:=rfl
@[simp] theorem Es:b9 a e c=(a e c).bind fun x c=>match x with
 |.tup l=>.ok ⟨l,fun _=>True⟩ c
 |_=>.bad:=rfl
end
section
variable (g:Gd) (s:ah) (t:ai) (a:af) (e:Ev) (c:aa)
@[simp] theorem afc:cU (fun _=>True) g s [] e c=.ok (.nx e) c:=by simp[cU]
@[simp] theorem jy(x:D) (xs:List D):cU (fun _=>True) g s (x::xs) e c=(g x e c).bind fun e c=>(s e c).bind fun f c=>match f with
   |.nx e=>cU (fun _=>True) g s xs e c
   |.ct e=>cU (fun _=>True) g s xs e c
   |.bk e=>.ok (.nx e) c
   |.rt d=>.ok (.rt d) c:=by
 conv=>lhs;unfold cU
 exact if_pos trivial
@[simp] theorem afk(acc:List D):br (fun _=>True) g t a [] e acc c=.ok acc c:=by simp[br]
@[simp] theorem ja(x:D) (xs acc:List D):br (fun _=>True) g t a (x::xs) e acc c=(g x e c).bind fun e c=>(t e c).bind fun k c=>if k=true then(a e c).bind fun y c=>br (fun _=>True) g t a xs e (acc++[y]) c else br (fun _=>True) g t a xs e acc c:=by
 conv=>lhs;unfold br
 exact if_pos trivial
end
@[simp] theorem gz{α:Type}(a:α) (l:List α):(a::l)[0]? = some a:=rfl
@[simp] theorem gs{α:Type}(a:α) (l:List α) (n:Nat):(a::l)[n+1]? = l[n]?:=rfl
@[simp] theorem at0{α:Type}(a:α) (l:List α):cI (a::l) 0=some a:=by simp[cI,eL]
@[simp] theorem at1{α:Type}(a b:α) (l:List α):cI (a::b::l) 1=some b:=by
 unfold cI eL
 rw[if_pos (by decide),if_pos (by simp;omega)]
 rfl
@[simp] theorem at2{α:Type}(a b d:α) (l:List α):cI (a::b::d::l) 2=some d:=by
 unfold cI eL
 rw[if_pos (by decide),if_pos (by simp;omega)]
 rfl
@[simp] theorem at3{α:Type}(a b d f:α) (l:List α):cI (a::b::d::f::l) 3=some f:=by
 unfold cI eL
 rw[if_pos (by decide),if_pos (by simp;omega)]
 rfl
@[simp] theorem at4{α:Type}(a b d f h:α) (l:List α):cI (a::b::d::f::h::l) 4=some h:=by
 unfold cI eL
 rw[if_pos (by decide),if_pos (by simp;omega)]
 rfl
theorem cX{n:Nat}(h:n≤1000):n≤sizeLine:=afL h (by decide)
@[simp] theorem sl0:(0:Nat)≤sizeLine:=ags _
@[simp] theorem sl1:(1:Nat)≤sizeLine:=by decide
@[simp] theorem sl2:(2:Nat)≤sizeLine:=by decide
@[simp] theorem sl3:(3:Nat)≤sizeLine:=by decide
@[simp] theorem sl4:(4:Nat)≤sizeLine:=by decide
@[simp] theorem sl5:(5:Nat)≤sizeLine:=by decide
@[simp] theorem sl6:(6:Nat)≤sizeLine:=by decide
@[simp] theorem uE:(0:Nat)<sizeLine:=by decide
@[simp] theorem st1:(1:Nat)<sizeLine:=by decide
@[simp] theorem st2:(2:Nat)<sizeLine:=by decide
@[simp] theorem st3:(3:Nat)<sizeLine:=by decide
@[simp] theorem l0:(4:Nat)<sizeLine:=by decide
@[simp] theorem iu:(5:Nat)<sizeLine:=by decide
@[simp] theorem ae3(i:Int) (c:aa):bV [.int i,.ty "int"] c=.ok (.bl true) c:=rfl
@[simp] theorem ae4(i:Int) (c:aa):bV [.int i,.ty "bool"] c=.ok (.bl false) c:=rfl
@[simp] theorem ae1(i:Int) (c:aa):bV [.int i,.ty "str"] c=.ok (.bl false) c:=rfl
@[simp] theorem ae0(i:Int) (c:aa):bV [.int i,.ty "tuple"] c=.ok (.bl false) c:=rfl
@[simp] theorem ae2(i:Int) (c:aa):bV [.int i,.ty "list"] c=.ok (.bl false) c:=rfl
@[simp] theorem ae8(i:Bool) (c:aa):bV [.bl i,.ty "int"] c=.ok (.bl true) c:=rfl
@[simp] theorem ae9(i:Bool) (c:aa):bV [.bl i,.ty "bool"] c=.ok (.bl true) c:=rfl
@[simp] theorem ae6(i:Bool) (c:aa):bV [.bl i,.ty "str"] c=.ok (.bl false) c:=rfl
@[simp] theorem ae5(i:Bool) (c:aa):bV [.bl i,.ty "tuple"] c=.ok (.bl false) c:=rfl
@[simp] theorem ae7(i:Bool) (c:aa):bV [.bl i,.ty "list"] c=.ok (.bl false) c:=rfl
@[simp] theorem aeO(i:Str) (c:aa):bV [.str i,.ty "int"] c=.ok (.bl false) c:=rfl
@[simp] theorem aeP(i:Str) (c:aa):bV [.str i,.ty "bool"] c=.ok (.bl false) c:=rfl
@[simp] theorem aeM(i:Str) (c:aa):bV [.str i,.ty "str"] c=.ok (.bl true) c:=rfl
@[simp] theorem aeL(i:Str) (c:aa):bV [.str i,.ty "tuple"] c=.ok (.bl false) c:=rfl
@[simp] theorem aeN(i:Str) (c:aa):bV [.str i,.ty "list"] c=.ok (.bl false) c:=rfl
@[simp] theorem aeT(c:aa):bV [.aL,.ty "int"] c=.ok (.bl false) c:=rfl
@[simp] theorem aeU(c:aa):bV [.aL,.ty "bool"] c=.ok (.bl false) c:=rfl
@[simp] theorem aeR(c:aa):bV [.aL,.ty "str"] c=.ok (.bl false) c:=rfl
@[simp] theorem aeQ(c:aa):bV [.aL,.ty "tuple"] c=.ok (.bl false) c:=rfl
@[simp] theorem aeS(c:aa):bV [.aL,.ty "list"] c=.ok (.bl false) c:=rfl
@[simp] theorem aeJ(i:List D) (c:aa):bV [.tup i,.ty "int"] c=.ok (.bl false) c:=rfl
@[simp] theorem aeK(i:List D) (c:aa):bV [.tup i,.ty "bool"] c=.ok (.bl false) c:=rfl
@[simp] theorem aeH(i:List D) (c:aa):bV [.tup i,.ty "str"] c=.ok (.bl false) c:=rfl
@[simp] theorem aeG(i:List D) (c:aa):bV [.tup i,.ty "tuple"] c=.ok (.bl true) c:=rfl
@[simp] theorem aeI(i:List D) (c:aa):bV [.tup i,.ty "list"] c=.ok (.bl false) c:=rfl
@[simp] theorem aeY(i:List D) (c:aa):bV [.lst i,.ty "int"] c=.ok (.bl false) c:=rfl
@[simp] theorem aeZ(i:List D) (c:aa):bV [.lst i,.ty "bool"] c=.ok (.bl false) c:=rfl
@[simp] theorem aeW(i:List D) (c:aa):bV [.lst i,.ty "str"] c=.ok (.bl false) c:=rfl
@[simp] theorem aeV(i:List D) (c:aa):bV [.lst i,.ty "tuple"] c=.ok (.bl false) c:=rfl
@[simp] theorem aeX(i:List D) (c:aa):bV [.lst i,.ty "list"] c=.ok (.bl true) c:=rfl
section
variable (c:aa) {i j:Int}
theorem zI(h1:-18446744073709551616<i) (h2:i<18446744073709551616):bX (.int i) (.int j) c=.ok (.int (i*j)) c:=by
 rw[Et,if_pos];exact .inl ⟨by omega,by omega⟩
theorem mul_r(h1:-18446744073709551616<j) (h2:j<18446744073709551616):bX (.int i) (.int j) c=.ok (.int (i*j)) c:=by
 rw[Et,if_pos];exact .inr ⟨by omega,by omega⟩
theorem wU(h1:0<j) (h2:j<1073741824):i7 (.int i) (.int j) c=.ok (.int (i/j)) c:=by
 rw[Ma,if_pos ⟨h1,h2⟩]
theorem mF(h1:0<j):cJ (.int i) (.int j) c=.ok (.int (i % j)) c:=by
 rw[L5,if_pos h1]
theorem F3(h1:0≤j) (h2:j≤1000000) (h3:i.natAbs<18446744073709551616):pN (.int i) (.int j) c=.ok (.int (i^j.toNat)) c:=by
 rw[L4,if_pos ⟨h1,h2,h3⟩]
end
section
variable {g:Gd}{s:ah}{t:ai}{a:af}
theorem xD{c:aa}(inv:Ev→Prop) (F:D→Bool) (G:D→D):∀(items:List D) (e:Ev) (acc:List D),inv e →
  (∀x∈items,∀e,inv e→∃e',g x e c=.ok e' c∧inv e'∧t e' c=.ok (F x) c∧(F x=true→a e' c=.ok (G x) c)) →
  br (fun _=>True) g t a items e acc c=.ok (acc++(items.filter F).map G) c
 |[],e,acc,_,_=>by simp
 |x::xs,e,acc,hi,h=>by
  obtain⟨e',h1,h2,h3,h4⟩:=h x aga e hi
  rw[ja,h1,R.aD,h3,R.aD]
  cases hF:F x with
  |true =>
   rw[if_pos rfl,h4 hF,R.aD,xD inv F G xs e' _ h2 fun y hy=>h y (af5 _ hy)]
   simp[hF]
  |false =>
   rw[if_neg afR,xD inv F G xs e' _ h2 fun y hy=>h y (af5 _ hy)]
   simp[hF]
theorem Ja(inv:Ev→Prop):∀(items:List D) (e:Ev) (c:aa),inv e →
  (∀x∈items,∀e c,inv e→∃e' e'' c' c'',g x e c=.ok e' c'∧s e' c'=.ok (.nx e'') c''∧inv e'') →
  ∃e' c',inv e'∧cU (fun _=>True) g s items e c=.ok (.nx e') c'
 |[],e,c,hi,_=>⟨e,c,hi,by simp⟩
 |x::xs,e,c,hi,h=>by
  obtain⟨e',e'',c',c'',h1,h2,h3⟩:=h x aga e c hi
  obtain⟨e3,c3,i3,h4⟩:=Ja inv xs e'' c'' h3 fun y hy=>h y (af5 _ hy)
  exact⟨e3,c3,i3,by rw[jy,h1,R.aD,h2];exact h4⟩
theorem BU(inv:Ev→aa→Prop):∀(items:List D) (e:Ev) (c:aa),inv e c →
  (∀x∈items,∀e c,inv e c→∃e' e'' c' c'',g x e c=.ok e' c'∧s e' c'=.ok (.nx e'') c''∧inv e'' c'') →
  ∃e' c',inv e' c'∧cU (fun _=>True) g s items e c=.ok (.nx e') c'
 |[],e,c,hi,_=>⟨e,c,hi,by simp⟩
 |x::xs,e,c,hi,h=>by
  obtain⟨e',e'',c',c'',h1,h2,h3⟩:=h x aga e c hi
  obtain⟨e3,c3,i3,h4⟩:=BU inv xs e'' c'' h3 fun y hy=>h y (af5 _ hy)
  exact⟨e3,c3,i3,by rw[jy,h1,R.aD,h2];exact h4⟩
end
theorem vq{lo hi:Int}{d:D}(h:d∈bg lo hi):∃i:Int,d=.int i∧lo≤i∧i<hi:=by
 unfold bg at h
 obtain⟨k,hk,rfl⟩:=afx.mp h
 have:=aft.mp hk
 exact⟨lo+k,rfl,by omega,by omega⟩
theorem fz{lo hi:Int}:(bg lo hi).length=(hi-lo).toNat:=by simp[bg]
end L2
namespace L2
open PySem PySem.Spec PyProof.Rows
def dX(c:aa):D→Option (List D)
 |.lst l=>some l
 |.ref k=>match c[k]? with
  |some (.lst l)=>some l
  |none=>none
 |_=>none
def kF(c:aa):D→aa→Prop
 |.ref k=>fun c'=>c'[k]? = c[k]?
 |_=>fun _=>True
def gA:D→D→aa→R D:=fun x y c=>match dX c x,dX c y with
 |some l,some m=>if l.length+m.length≤sizeLine then .ok (.lst (l++m)) c else .bad
 |_,_=>.bad
def fh(a:aj):Ev→aa→R Src:=fun e c=>(a e c).bind fun xs c=>match xs with
 |[.tup l,.tup m]=>.ok ⟨List.zipWith (fun x y=>.tup [x,y]) l m,fun _=>True⟩ c
 |[x,y]=>match dX c x,dX c y with
  |some l,some m=>.ok ⟨List.zipWith (fun x y=>.tup [x,y]) l m,fun c'=>kF c x c'∧kF c y c'⟩ c
  |_,_=>.bad
 |_=>.bad
section
variable {X:Cx}{K:PySem.W.Frag}{ρ ρ':List Addr}{H H':Hp}{c c':aa}
theorem kU{x:D}{v:V}{l:List D}(W:Wd K ρ H c) (rx:Rel K ρ H x v) (h:dX c x=some l):∃a xs,v=.ref a∧H a=some (.lst xs)∧aN K ρ H l xs:=by
 cases x with
 |lst m =>
  cases h
  obtain⟨a,xs,e,s,r⟩:=rx
  exact⟨a,xs,e,s.1,r⟩
 |ref k =>
  obtain⟨a,e,s⟩:=rx
  unfold dX at h
  dsimp only at h
  cases hc:c[k]? with
  |none=>rw[hc]at h;cases h
  |some cl =>
   cases cl with
   |lst m =>
    rw[hc]at h;cases h
    obtain⟨_,xs,hx,r⟩:=W.e7 k a _ s hc
    exact⟨a,xs,e,hx,r⟩
 |_=>cases h
theorem Hs{x:D}{v:V}{l:List D}(W:Wd K ρ H c) (W':Wd K ρ' H' c') (E:Ext ρ H ρ' H') (rx:Rel K ρ H x v) (h:dX c x=some l) (st:kF c x c') {a:Addr}(e:v=.ref a):∃xs,aZ K H' a xs∧aN K ρ' H' l xs:=by
 have Pd:=Rel.mono W E x v rx
 have h':dX c' x=some l:=by
  cases x with
  |lst m=>exact h
  |ref k =>
   have st:c'[k]? = c[k]?:=st
   unfold dX at h ⊢
   dsimp only at h ⊢
   rw[st];exact h
  |_=>cases h
 obtain⟨b,xs,e2,hx,r⟩:=kU W' Pd h'
 rw[e]at e2;cases e2
 exact⟨xs,aZ.of hx,r⟩
theorem GF:bf X (binaryOp .Add) (r2 X.K gA):=by
 intro pins s σ H v u vv uu Q I rv ru h
 obtain⟨ρ,x,y,c,W,rx,ry,p⟩:=h
 unfold gA at p
 split at p
 ·rename_i l m hl hm
  split at p
  ·rename_i hz
   obtain⟨a,xs,rfl,ha,ra⟩:=kU W rx hl
   obtain⟨b,ys,rfl,hb,rb⟩:=kU W ry hm
   exact SJ pins s σ H _ _ vv uu Q I rv ru ⟨a,b,xs,ys,rfl,rfl,ha,hb,by rw[ra.length,rb.length];exact hz,pV W (ra.append rb) p⟩
  ·exact p.elim
 ·exact p.elim
theorem PI.or{tg iter:Expr}{t t':TI}(h:PI X tg iter t) (h':PI X tg iter t'):PI X tg iter (fun σ H R=>t σ H R∨t' σ H R):=fun pins s σ H R I q=>q.elim (h pins s σ H R I) (h' pins s σ H R I)
theorem XD{l m:List D}{a b:Addr}{st:aa→Prop}(h:∀ρ' H' c',Wd K ρ' H' c'→Ext ρ H ρ' H'→st c'→∃xs ys,aZ K H' a xs∧aZ K H' b ys∧aN K ρ' H' l xs∧aN K ρ' H' m ys):JS K ρ H ⟨List.zipWith (fun x y=>.tup [x,y]) l m,st⟩ (xQ (aZ K) a b):=by
 intro ρ' H' c' W E s i
 obtain⟨xs,ys,q1,q2,r1,r2⟩:=h ρ' H' c' W E s
 refine⟨fun d hd=>?_,fun e=>⟨xs,ys,q1,q2,?_⟩⟩
 ·have hd:(List.zipWith (fun x y=>D.tup [x,y]) l m)[i]? = some d:=hd
  rw[ajq]at hd
  cases e1:l[i]? with
  |none=>rw[e1]at hd;cases hd
  |some x =>
   cases e2:m[i]? with
   |none=>rw[e1,e2]at hd;cases hd
   |some y =>
    rw[e1,e2]at hd
    cases hd
    obtain⟨v,hv,rv⟩:=r1.get e1
    obtain⟨u,hu,ru⟩:=r2.get e2
    refine⟨⟨xs,ys,v,u,q1,q2,hv,hu⟩,fun z H2 hz=>?_⟩
    obtain⟨t,v',u',rfl,ht,rfl,hz⟩:=hz
    obtain⟨z1,z2⟩:=hz xs ys q1 q2
    rw[hv]at z1;rw[hu]at z2
    cases z1;cases z2
    exact⟨W.fresh ht,Ext.fresh W ht,t,[v,u],rfl,fK,v,[u],rfl,Rel.mono W (Ext.fresh W ht) _ _ rv,u,[],rfl,Rel.mono W (Ext.fresh W ht) _ _ ru,rfl⟩
 ·have e:i=(List.zipWith (fun x y=>D.tup [x,y]) l m).length:=e
  rw[aiG]at e
  rw[r1.length,r2.length]
  omega
theorem sM{es:List Expr}{k:Nat}{pt:Pos}{a b:Expr}{da:aj}{p pos:Pos}(ha:eF X [a,b] da) (hm:X.mg "zip"=none) (hg:Gl X "zip":=by rfl) (hs:starEach [a,b] X.env=[(false,eval a X.env),(false,eval b X.env)]:=by exact Fb rfl rfl) (hs2:starEach [b] X.env=[(false,eval b X.env)]:=by exact nW rfl) :
  PId X (.Tuple es k pt) (.Call (.Name "zip" p) [a,b] [] pos) (fh da):=((Rt hg hm ha hs hs2).or (Ru hg hm ha hs hs2)).imp fun σ H Q h=>by
 obtain⟨ρ,e,c,W,Vv,p⟩:=h
 cases hd:da e c with
 |bad=>unfold fh at p;rw[hd]at p;exact p.elim
 |ok xs c1 =>
  have p0:=p
  unfold fh at p0
  rw[hd,R.aD]at p0
  split at p0
  ·left
   refine⟨ρ,e,c,W,Vv,?_⟩
   rw[hd]
   intro aO H1 vs W1 X1 r1
   obtain⟨y,ys,rfl,ry,z,zs,rfl,rz,rs⟩:=r1
   cases rs
   obtain⟨a1,xs,rfl,s1,t1⟩:=ry
   obtain⟨a2,ys,rfl,s2,t2⟩:=rz
   exact⟨a1,a2,rfl,⟨xs,ys,bB.of s1,bB.of s2⟩,post.here (post.ext p0 X1) W1 (XE fun ρ' H' c' W' E _=>⟨xs,ys,bB.of (rE W1 E s1),bB.of (rE W1 E s2),aN.mono W1 E _ _ t1,aN.mono W1 E _ _ t2⟩)⟩
  ·rename_i x y _
   split at p0
   ·rename_i l m hl hm'
    right
    refine⟨ρ,e,c,W,Vv,?_⟩
    rw[hd]
    intro aO H1 vs W1 X1 r1
    obtain⟨v,ys,rfl,ry,u,zs,rfl,rz,rs⟩:=r1
    cases rs
    obtain⟨a1,xs,rfl,s1,t1⟩:=kU W1 ry hl
    obtain⟨a2,ys,rfl,s2,t2⟩:=kU W1 rz hm'
    refine⟨a1,a2,rfl,⟨xs,ys,aZ.of s1,aZ.of s2⟩,post.here (post.ext p0 X1) W1 (XD fun ρ' H' c' W' E st=>?_)⟩
    obtain⟨xs',q1,q2⟩:=Hs W1 W' E ry hl st.1 rfl
    obtain⟨ys',q3,q4⟩:=Hs W1 W' E rz hm' st.2 rfl
    exact⟨xs',ys',q1,q3,q2,q4⟩
   ·exact p0.elim
  ·exact p0.elim
end
section
variable (e:Ev) (c:aa) (a:af) (lo hi:Ev→aa→R (Option Int)) (l:aj)
@[simp] theorem adE:fh l e c=(l e c).bind fun xs c=>match xs with
 |[.tup l,.tup m]=>.ok ⟨List.zipWith (fun x y=>.tup [x,y]) l m,fun _=>True⟩ c
 |[x,y]=>match dX c x,dX c y with
  |some l,some m=>.ok ⟨List.zipWith (fun x y=>.tup [x,y]) l m,fun c'=>kF c x c'∧kF c y c'⟩ c
  |_,_=>.bad
 |_=>.bad:=rfl
@[simp] theorem aeF(x:List D):dX c (.lst x)=some x:=rfl
end
section
variable {g:Gd}{s:ah}{t:ai}{a:af}
theorem KN{dO da:af}{e:Ev}{c:aa}{acc:List D}{y:D}(ho:dO e (c++[.lst acc])=.ok (.ref c.length) (c++[.lst acc])) (ha:da e (c++[.lst acc])=.ok y (c++[.lst acc])) (hy:noRef y=true) (hl:acc.length+1≤1000000) :
  fk dO da e (c++[.lst acc])=.ok .aL (c++[.lst (acc++[y])]):=by
 have h1:acc.length<sizeLine:=afH (by omega:acc.length<1000000) (by decide)
 unfold fk
 rw[ho,R.aD]
 dsimp only
 rw[ha,R.aD]
 have e1:(c++[Cell.lst acc])[c.length]? = some (.lst acc):=by simp
 have e2:(c++[Cell.lst acc]).set c.length (.lst (acc++[y]))=c++[.lst (acc++[y])]:=by simp
 rw[e1]
 dsimp only
 rw[if_pos ⟨h1,hy⟩,e2]
end
end L2
namespace L2
open PySem PySem.Spec PyProof.Rows
mutual
def dg:D→Option PyData
 |.aL=>some .none
 |.bl b=>some (.bool b)
 |.int i=>some (.int i)
 |.str x=>if PyData.strOk x=true then some (.str x)else none
 |.tup l=>match c9 l with
  |some r=>some (.tuple r)
  |none=>none
 |.lst l=>match c9 l with
  |some r=>some (.list r)
  |none=>none
 |.ty _=>none
 |.ref _=>none
 |.cG _=>none
 |.fn _ _=>none
 |.exc _=>none
 |.lF=>none
 |.dct _=>none
 |.lam _ _ _ _=>none
def c9:List D→Option (List PyData)
 |[]=>some []
 |d::l=>match dg d,c9 l with
  |some a,some r=>some (a::r)
  |_,_=>none
end
def eX(c:aa):D→Option PyData
 |.ref k=>match c[k]? with
  |some (.lst l)=>match c9 l with
   |some r=>some (.list r)
   |none=>none
  |none=>none
 |d=>dg d
def lD:D→D→aa→R D:=fun x y c=>match eX c x,eX c y with
 |some p,some q=>if p.depth≤64∧q.depth≤64 then .ok (.bl (p.eqv q)) c else .bad
 |_,_=>.bad
def d9:D→D→aa→R D:=fun x y c=>match eX c x,eX c y with
 |some p,some q=>if p.depth≤64∧q.depth≤64 then .ok (.bl (!p.eqv q)) c else .bad
 |_,_=>.bad
def inD:D→D→aa→R D:=fun x y c=>match eX c x,eX c y with
 |some p,some (.list ys)=>if p.depth≤62 then .ok (.bl (ys.any fun z=>z.eqv p)) c else .bad
 |some p,some (.tuple ys)=>if p.depth≤62 then .ok (.bl (ys.any fun z=>z.eqv p)) c else .bad
 |_,_=>.bad
def gb:D→D→aa→R D:=fun x y c=>match eX c x,eX c y with
 |some p,some (.list ys)=>if p.depth≤62 then .ok (.bl (!ys.any fun z=>z.eqv p)) c else .bad
 |some p,some (.tuple ys)=>if p.depth≤62 then .ok (.bl (!ys.any fun z=>z.eqv p)) c else .bad
 |_,_=>.bad
section
variable {X:Cx}{pins:List (Addr×Obj)}{σ:St}{ρ:List Addr}{H:Hp}{s:Shared}{c:aa}
mutual
theorem fX(I:Inv X pins σ H s):∀(d:D) (v:V) (u:Value) (p:PyData),Rel X.K ρ H d v→RelV v u→dg d=some p→(∃as,Reads s.heap u p as)∧p.canLay0=true
 |.aL,v,u,p,r,ru,e=>by
  cases r;cases ru;cases e
  exact⟨⟨_,.none⟩,by simp[PyData.canLay0]⟩
 |.bl b,v,u,p,r,ru,e=>by
  cases r;cases ru;cases e
  exact⟨⟨_,.bool b⟩,by simp[PyData.canLay0]⟩
 |.int i,v,u,p,r,ru,e=>by
  cases r;obtain⟨t,rfl⟩:=ru;cases e
  exact⟨⟨_,.int i t⟩,by simp[PyData.canLay0]⟩
 |.str x,v,u,p,r,ru,e=>by
  cases r;obtain⟨t,rfl⟩:=ru
  unfold dg at e
  split at e
  ·rename_i hx
   cases e
   exact⟨⟨_,.str x t⟩,by simpa[PyData.canLay0]using hx⟩
  ·cases e
 |.tup l,v,u,p,r,ru,e=>by
  obtain⟨a,xs,rfl,ha,rs⟩:=r
  cases ru
  unfold dg at e
  split at e
  ·rename_i q hq
   cases e
   obtain⟨its,vs,⟨o,h1,h2,n,h3⟩,_⟩:=I.tuple (bB.of ha)
   obtain⟨⟨as,ra⟩,hc⟩:=uM I l xs its q rs vs hq
   exact⟨⟨_,.tuple h1 h2 h3 (by simpa using ra)⟩,by simpa[PyData.canLay0]using hc⟩
  ·cases e
 |.lst l,v,u,p,r,ru,e=>by
  obtain⟨a,xs,rfl,ha,rs⟩:=r
  cases ru
  unfold dg at e
  split at e
  ·rename_i q hq
   cases e
   obtain⟨its,vs,pl,_⟩:=I.list (aZ.of ha.1)
   obtain⟨o,h1,h2,n,h3⟩:=pl.isList
   obtain⟨⟨as,ra⟩,hc⟩:=uM I l xs its q rs vs hq
   exact⟨⟨_,.list h1 h2 h3 (by simpa using ra)⟩,by simpa[PyData.canLay0]using hc⟩
  ·cases e
 |.ty _,v,u,p,r,ru,e=>by simp[dg]at e
 |.ref _,v,u,p,r,ru,e=>by simp[dg]at e
 |.cG _,v,u,p,r,ru,e=>by simp[dg]at e
 |.fn _ _,v,u,p,r,ru,e=>by simp[dg]at e
 |.exc _,v,u,p,r,ru,e=>by simp[dg]at e
 |.lF,v,u,p,r,ru,e=>by simp[dg]at e
 |.dct _,v,u,p,r,ru,e=>by simp[dg]at e
 |.lam _ _ _ _,v,u,p,r,ru,e=>by simp[dg]at e
theorem uM(I:Inv X pins σ H s):∀(l:List D) (vs:List V) (us:List Value) (ps:List PyData),aN X.K ρ H l vs→Vals vs us→c9 l=some ps→(∃as,ReadsAll s.heap us ps as)∧PyData.canLayAll0 ps=true
 |[],vs,us,ps,r,ru,e=>by
  cases r;cases ru;cases e
  exact⟨⟨_,.nil⟩,by simp[PyData.canLayAll0]⟩
 |d::l,vs,us,ps,r,ru,e=>by
  obtain⟨x,xs,rfl,r1,r2⟩:=r
  cases ru with
  |cons q1 q2 =>
   unfold c9 at e
   split at e
   ·rename_i a r e1 e2
    cases e
    obtain⟨⟨as,ra⟩,ca⟩:=fX I d x _ a r1 q1 e1
    obtain⟨⟨bs,rb⟩,cb⟩:=uM I l xs _ r r2 q2 e2
    exact⟨⟨_,.cons ra rb⟩,by simp[PyData.canLayAll0,ca,cb]⟩
   ·cases e
end
theorem gO(I:Inv X pins σ H s) (W:Wd X.K ρ H c) {d:D}{v:V}{u:Value}{p:PyData}(r:Rel X.K ρ H d v) (ru:RelV v u) (e:eX c d=some p):(∃as,Reads s.heap u p as)∧p.canLay0=true:=by
 cases d with
 |ref k =>
  unfold eX at e
  dsimp only at e
  cases hc:c[k]? with
  |none=>rw[hc]at e;cases e
  |some cl =>
   cases cl with
   |lst l =>
    rw[hc]at e
    dsimp only at e
    split at e
    ·rename_i q hq
     cases e
     obtain⟨a,rfl,s1⟩:=r
     cases ru
     obtain⟨_,xs,hx,rs⟩:=W.e7 k a _ s1 hc
     obtain⟨its,vs,pl,_⟩:=I.list (aZ.of hx)
     obtain⟨o,h1,h2,n,h3⟩:=pl.isList
     obtain⟨⟨as,ra⟩,hc⟩:=uM I l xs its q rs vs hq
     exact⟨⟨_,.list h1 h2 h3 (by simpa using ra)⟩,by simpa[PyData.canLay0]using hc⟩
    ·cases e
 |aL=>exact fX I _ v u p r ru e
 |bl b=>exact fX I _ v u p r ru e
 |int b=>exact fX I _ v u p r ru e
 |str b=>exact fX I _ v u p r ru e
 |tup b=>exact fX I _ v u p r ru e
 |lst b=>exact fX I _ v u p r ru e
 |ty b=>exact fX I _ v u p r ru e
 |cG b=>exact fX I _ v u p r ru e
 |fn b n=>exact fX I _ v u p r ru e
 |exc b=>exact fX I _ v u p r ru e
 |dct b=>exact fX I _ v u p r ru e
 |lF=>exact fX I _ v u p r ru e
 |lam k y ns l=>exact fX I _ v u p r ru e
theorem Ue(hu:X.A.units+64<cLine):bf X (compareOp .Eq) (r2 X.K lD):=by
 intro pins s σ H v u vv uu Q I rv ru h
 obtain⟨ρ,x,y,c,W,rx,ry,p⟩:=h
 unfold lD at p
 split at p
 ·rename_i a b ha hb
  split at p
  ·rename_i hd
   obtain⟨⟨as,ra⟩,ca⟩:=gO I W rx rv ha
   obtain⟨⟨bs,rb⟩,cb⟩:=gO I W ry ru hb
   exact PySem.SeqAt.compareEq_shaped ra rb (by simp[PySem.SeqAt.shaped,ca,hd.1]) (by simp[PySem.SeqAt.shaped,cb,hd.2]) hu ⟨.bl _,H,I,rfl,p.here W rfl⟩
  ·exact p.elim
 ·exact p.elim
theorem GA(hu:X.A.units+64<cLine):bf X (compareOp .NotEq) (r2 X.K d9):=by
 intro pins s σ H v u vv uu Q I rv ru h
 obtain⟨ρ,x,y,c,W,rx,ry,p⟩:=h
 unfold d9 at p
 split at p
 ·rename_i a b ha hb
  split at p
  ·rename_i hd
   obtain⟨⟨as,ra⟩,ca⟩:=gO I W rx rv ha
   obtain⟨⟨bs,rb⟩,cb⟩:=gO I W ry ru hb
   exact PySem.SeqAt.compareNe_shaped ra rb (by simp[PySem.SeqAt.shaped,ca,hd.1]) (by simp[PySem.SeqAt.shaped,cb,hd.2]) hu ⟨.bl _,H,I,rfl,p.here W rfl⟩
  ·exact p.elim
 ·exact p.elim
theorem vE{A:Around}{p:PyData}{ys:List PyData}(hu:A.units+64<cLine) (hd:p.depth≤62):A.units+1+min (PyData.depthAll ys) p.depth<cLine:=by
 have:=Nat.min_le_right (PyData.depthAll ys) p.depth
 omega
theorem GC(hu:X.A.units+64<cLine):bf X (compareOp .In) (r2 X.K inD):=by
 intro pins s σ H v u vv uu Q I rv ru h
 obtain⟨ρ,x,y,c,W,rx,ry,p⟩:=h
 unfold inD at p
 split at p
 ·rename_i a ys ha hb
  split at p
  ·rename_i hd
   obtain⟨⟨as,ra⟩,ca⟩:=gO I W rx rv ha
   obtain⟨⟨bs,rb⟩,cb⟩:=gO I W ry ru hb
   exact PySem.SeqAt.in_list_reads rb ra (by simpa[PyData.canLay0]using cb) ca (vE hu hd) ⟨.bl _,H,I,rfl,p.here W rfl⟩
  ·exact p.elim
 ·rename_i a ys ha hb
  split at p
  ·rename_i hd
   obtain⟨⟨as,ra⟩,ca⟩:=gO I W rx rv ha
   obtain⟨⟨bs,rb⟩,cb⟩:=gO I W ry ru hb
   exact PySem.SeqAt.in_tuple_reads rb ra (by simpa[PyData.canLay0]using cb) ca (vE hu hd) ⟨.bl _,H,I,rfl,p.here W rfl⟩
  ·exact p.elim
 ·exact p.elim
theorem Gz(hu:X.A.units+64<cLine):bf X (compareOp .NotIn) (r2 X.K gb):=by
 intro pins s σ H v u vv uu Q I rv ru h
 obtain⟨ρ,x,y,c,W,rx,ry,p⟩:=h
 unfold gb at p
 split at p
 ·rename_i a ys ha hb
  split at p
  ·rename_i hd
   obtain⟨⟨as,ra⟩,ca⟩:=gO I W rx rv ha
   obtain⟨⟨bs,rb⟩,cb⟩:=gO I W ry ru hb
   exact PySem.SeqAt.notIn_list_reads rb ra (by simpa[PyData.canLay0]using cb) ca (vE hu hd) ⟨.bl _,H,I,rfl,p.here W rfl⟩
  ·exact p.elim
 ·rename_i a ys ha hb
  split at p
  ·rename_i hd
   obtain⟨⟨as,ra⟩,ca⟩:=gO I W rx rv ha
   obtain⟨⟨bs,rb⟩,cb⟩:=gO I W ry ru hb
   exact PySem.SeqAt.notIn_tuple_reads rb ra (by simpa[PyData.canLay0]using cb) ca (vE hu hd) ⟨.bl _,H,I,rfl,p.here W rfl⟩
  ·exact p.elim
 ·exact p.elim
end
theorem k9{A:Around}{k:Nat}(hr:dR k A):A.units+64<cLine:=by have:=hr.un;omega
section
variable (c:aa)
@[simp] theorem afh:dg .aL=some .none:=by simp only[dg]
@[simp] theorem afj(b:Bool):dg (.bl b)=some (.bool b):=by simp only[dg]
@[simp] theorem afi(i:Int):dg (.int i)=some (.int i):=by simp only[dg]
@[simp] theorem afg:c9 []=some []:=by simp only[c9]
end
end L2
namespace L2
open PySem PySem.Spec PyProof.Rows
def fm:D→D→aa→R D:=fun x y c=>match x,y with
 |.tup l,.tup m=>if l.length+m.length≤sizeLine then .ok (.tup (l++m)) c else .bad
 |_,_=>.bad
section
variable {X:Cx}
theorem SI:bf X (binaryOp .Add) (fun x y H Q=>∃a b ys,x=.ref a∧y=.ref b∧bB X.K H a []∧bB X.K H b ys∧Q (.ref b) H):=by
 intro pins s σ H x y v u Q I rx ry h
 obtain⟨a,b,ys,rfl,rfl,ha,hb,q⟩:=h
 cases rx
 cases ry
 obtain⟨its,r1,p1,_⟩:=I.tuple ha
 obtain⟨its2,r2,p2,_⟩:=I.tuple hb
 cases r1
 obtain⟨⟨cls,dd,data,sl⟩,ho,hc,n,hd⟩:=id p1
 obtain⟨⟨abD,dd2,data2,sl2⟩,ho2,hc2,n2,hd2⟩:=id p2
 simp only at hc hd hc2 hd2
 subst hc hd hc2 hd2
 exact ail ⟨_,ho,rfl⟩ ⟨_,ho2,rfl⟩ aim ain aio aip (aiq _ _)
   (tuple_addW0 a b [].toArray its2.toArray n n2 dd dd2 sl sl2 rfl) ⟨ho,ho2,⟨.ref b,H,I,rfl,q⟩⟩
theorem Ui:bf X (binaryOp .Add) (r2 X.K fm):=by
 intro pins s σ H v u vv uu Q I rv ru h
 obtain⟨ρ,x,y,c,W,rx,ry,p⟩:=h
 unfold fm at p
 split at p
 ·rename_i l m
  split at p
  ·rename_i hl
   obtain⟨a,xs,rfl,sa,ra⟩:=rx
   obtain⟨b,ys,rfl,sb,rb⟩:=ry
   by_cases hz:xs=[]
   ·subst hz
    have:l=[]:=by have:=ra.length;exact ahX.mp (by simpa using this.symm)
    subst this
    exact SI pins s σ H _ _ vv uu Q I rv ru ⟨a,b,ys,rfl,rfl,bB.of sa,bB.of sb,p.here W ⟨b,ys,rfl,sb,rb⟩⟩
   ·refine Gh pins s σ H _ _ vv uu Q I rv ru ⟨a,b,xs,ys,rfl,rfl,bB.of sa,bB.of sb,hz,by rw[ra.length,rb.length];exact hl,fun z=>?_,fun _=>vj W (ra.append rb) p⟩
    refine p.here W ⟨a,xs++ys,rfl,by rw[z,agU];exact sa,ra.append rb⟩
  ·exact p.elim
 ·exact p.elim
end
end L2
namespace L2
open PySem PySem.Spec PyProof.Rows
def fy(t:List (Int×List Int)) (k:Int):Option (List Int):=match t with
 |[]=>none
 |p::r=>if k=p.1 then some p.2 else fy r k
def vD:List Value→List Int→Bool
 |[],[]=>true
 |.int i _::vs,j::l=>(i==j)&&vD vs l
 |_,_=>false
def nP(K:PySem.W.Frag) (b:Addr) (l:List Int):Bool:=match K.lookup b with
 |some ⟨c,_,.seq its _,_⟩=>(c == .type "tuple")&&vD its.toList l&&decide (its.size≤sizeLine)
 |_=>false
def tG(K:PySem.W.Frag) (e:DictEntry) (k:Int) (l:List Int):Bool:=match e with
 |⟨h,.int i _,.ref b⟩=>(i==k)&&(h==hashInt k)&&nP K b l
 |_=>false
def qt(K:PySem.W.Frag):List DictEntry→List (Int×List Int)→Bool
 |[],[]=>true
 |e::es,p::t=>tG K e p.1 p.2&&qt K es t
 |_,_=>false
def mY(K:PySem.W.Frag) (a:Addr) (t:List (Int×List Int)):Bool:=!(a==sysModules)&&match K.lookup a with
 |some ⟨c,none,.dict es _,sl⟩=>(c == .type "dict")&&sl.isEmpty&&qt K es.toList t
 |_=>false
theorem Ib:∀{vs:List Value}{l:List Int},vD vs l=true→Vals (l.map V.int) vs
 |[],[],_=>.nil
 |v::vs,[],h=>by cases v<;>cases h
 |[],j::l,h=>by cases h
 |v::vs,j::l,h=>by
  cases v with
  |int i t =>
   have h:((i==j)&&vD vs l)=true:=h
   rw[afE,beq_iff_eq]at h
   obtain⟨rfl,h'⟩:=h
   exact .cons ⟨t,rfl⟩ (Ib h')
  |_=>cases h
theorem MI{K:PySem.W.Frag}{H:Hp}{b:Addr}{l:List Int}(h:nP K b l=true):bB K H b (l.map V.int):=by
 unfold nP at h
 split at h
 ·rename_i c d its n sl e
  rw[afE,afE,beq_iff_eq,decide_eq_true_iff]at h
  obtain⟨⟨rfl,h1⟩,h2⟩:=h
  exact .inr ⟨_,its,n,e,rfl,rfl,h2,Ib h1⟩
 ·cases h
theorem Js{K:PySem.W.Frag}{e:DictEntry}{k:Int}{l:List Int}(h:tG K e k l=true):∃t b,e=⟨hashInt k,.int k t,.ref b⟩∧nP K b l=true:=by
 unfold tG at h
 split at h
 ·rename_i hh i t b
  rw[afE,afE,beq_iff_eq,beq_iff_eq]at h
  obtain⟨⟨rfl,rfl⟩,h⟩:=h
  exact⟨t,b,rfl,h⟩
 ·cases h
theorem Jq{K:PySem.W.Frag}:∀{es:List DictEntry}{t:List (Int×List Int)},qt K es t=true→∀e∈es,∃k t,e.key=.int k t∧e.hash=hashInt k
 |[],_,_=>fun e he=>by cases he
 |e::es,[],h=>by cases h
 |e::es,p::t,h=>fun x hx=>by
  have h:(tG K e p.1 p.2&&qt K es t)=true:=h
  rw[afE]at h
  rcases afv.mp hx with rfl|hx
  ·obtain⟨tk,b,rfl,_⟩:=Js h.1
   exact⟨_,tk,rfl,rfl⟩
  ·exact Jq h.2 x hx
theorem Jr{K:PySem.W.Frag}(k:Int):∀{es:List DictEntry}{t:List (Int×List Int)},qt K es t=true→(match fy t k with
  |none=>es.find? (fun e=>Value.isInt k e.key)=none
  |some l=>∃e b,es.find? (fun e=>Value.isInt k e.key)=some e∧e.val=.ref b∧nP K b l=true)
 |[],[],_=>by unfold fy;rfl
 |[],p::t,h=>by cases h
 |e::es,[],h=>by cases h
 |e::es,p::t,h=>by
  have h:(tG K e p.1 p.2&&qt K es t)=true:=h
  rw[afE]at h
  obtain⟨tk,b,rfl,hb⟩:=Js h.1
  have ih:=Jr k h.2
  unfold fy
  by_cases hk:k=p.1
  ·rw[if_pos hk]
   refine⟨⟨hashInt p.1,.int p.1 tk,.ref b⟩,b,?_,rfl,hb⟩
   rw[List.find?_cons_of_pos]
   subst hk
   simp[Value.isInt]
  ·rw[if_neg hk,List.find?_cons_of_neg]
   ·exact ih
   ·simp only[Value.isInt,beq_iff_eq]
    exact fun z=>hk z.symm
theorem Ju{K:PySem.W.Frag}{h:Heap}{a:Addr}{t:List (Int×List Int)}{prog:Program}{w:World}(hk:K.In h) (hd:mY K a t=true):(a==sysModules)=false∧∃f,h.MapOf (intKind prog w) a f∧∀k,(match fy t k with
  |none=>f k=none
  |some l=>∃b,f k=some (.ref b)∧nP K b l=true):=by
 unfold mY at hd
 rw[afE]at hd
 obtain⟨h0,h1⟩:=hd
 refine⟨by simpa using h0,?_⟩
 split at h1
 ·rename_i c es n sl e
  rw[afE,afE,beq_iff_eq]at h1
  obtain⟨⟨rfl,h2⟩,h3⟩:=h1
  have hs:sl=#[]:=by simpa using h2
  refine⟨findBy Value.isInt es,Heap.IntMap.mapOf ⟨_,es,n,hk a _ e,rfl,rfl,fun x hx=>Jq h3 x (by simpa using hx),fun _=>rfl⟩ (fun o ho=>?_),fun k=>?_⟩
  ·rw[hk a _ e]at ho
   cases ho
   exact⟨rfl,hs⟩
  ·have q:=Jr k h3
   have ef:findBy Value.isInt es k=(es.toList.find? fun e=>Value.isInt k e.key).map (·.val):=by unfold findBy;rw[ajf]
   cases z:fy t k with
   |none =>
    rw[z]at q
    show findBy Value.isInt es k=none
    rw[ef,q];rfl
   |some l =>
    rw[z]at q
    obtain⟨e,b,q1,q2,q3⟩:=q
    refine⟨b,?_,q3⟩
    rw[ef,q1,←q2];rfl
 ·cases h1
def mX(t:List (Int×List Int)) (i:Int):D→aa→R D:=fun x c=>match x with
 |.int k=>match fy t k with
  |some l=>match cI l i with
   |some z=>.ok (.int z) c
   |none=>.bad
  |none=>.bad
 |_=>.bad
def sL(x:Str) (t:List (Int×List Int)):D→D→aa→R D:=fun a b c=>match a,b with
 |.int k,.fn y _=>if y=x then .ok (.bl (fy t k).isSome) c else .bad
 |_,_=>.bad
section
variable {X:Cx}{x:Str}{ad:Addr}{t:List (Int×List Int)}
def P9(K:PySem.W.Frag) (ad:Addr) (t:List (Int×List Int)):R2:=fun x y H Q=>∃k l,x=.ref ad∧y=.int k∧fy t k=some l∧∀b,bB K H b (l.map V.int)→Q (.ref b) H
theorem XJ(ht:mY X.K ad t=true):rj X (P9 X.K ad t):=by
 intro value slice pins s σ H x y v u Q I rx ry h hs
 obtain⟨k,l,rfl,rfl,hl,q⟩:=h
 cases rx
 obtain⟨tk,rfl⟩:=ry
 obtain⟨_,f,hm,hf⟩:=Ju (prog:=X.prog) (w:=X.w) I.eo ht
 have hk:=hf k
 rw[hl]at hk
 obtain⟨b,hb,tb⟩:=hk
 have fin:EP X pins σ Q (.ref b) {s with toks:=s.toks+1}:=⟨.ref b,H,I.tok _,rfl,q b (MI tb)⟩
 exact air (x:=.ref b) hm.typeIs slot_dict_getitem.lookup (wpAny_getItem_of (key:=.int k tk) (by simp[intKind,Value.isInt]) hm hb ⟨rfl,fin⟩) hs
theorem uW{a:Expr}{da:af}{i:Int}{j p1 p2 p3 p4}(hm:X.mg x=some (.ref ad)) (ht:mY X.K ad t=true) (ha:aT X a da) (hg:Gl X x:=by rfl) (hd:(x==("__debug__":Str))=false:=by decide) (hs:Ef a:=by exact fun _ _=>rfl) :
  aT X (.Subscript (.Subscript (.Name x p1) a p2) (.Constant (.int i) j p3) p4) (i8 (mX t i) da) :=
 (zc HK (zc (XJ ht) (zd (v:=.ref ad) hg hm rfl hd) ha hs) F9 (fun _ _=>rfl)).imp fun σ H Q h=>by
  obtain⟨ρ,e,c,W,V,p⟩:=h
  refine⟨ρ,e,c,W,V,post.bind p fun x c1 aO H1 v ex W1 X1 r1 p1=>?_⟩
  clear ex
  unfold mX at p1
  split at p1
  ·rename_i k
   cases r1
   split at p1
   ·rename_i l hl
    split at p1
    ·rename_i z hz
     refine⟨k,l,rfl,rfl,hl,fun b hb=>⟨b,_,i,.int z,rfl,rfl,hb,?_,p1.here W1 rfl⟩⟩
     unfold cI at hz ⊢
     rw[afy]
     cases e:eL l.length i with
     |none=>rw[e]at hz;cases hz
     |some j =>
      rw[e]at hz
      have hz:l[j]? = some z:=hz
      show(l.map L2.V.int)[j]? = _
      rw[afS,hz];rfl
    ·exact p1.elim
   ·exact p1.elim
  ·exact p1.elim
theorem Sb{y:Str}{C:Addr}{pos:Pos}(hm:X.mg y=some (.ref C)) (hn:PySem.W.nsIn X.K mainGlobals y=some (some (.ref C))) (hg:Gl X y:=by rfl) (hd:(y==("__debug__":Str))=false:=by decide):aT X (.Name y pos) (dC (.fn y 0)) :=
 pQ (zd (v:=.ref C) hg hm rfl hd) fun _ _=>⟨C,rfl,hn⟩
theorem T8(hn:PySem.W.nsIn X.K mainGlobals x=some (some (.ref ad))) (ht:mY X.K ad t=true):bf X (compareOp .In) (r2 X.K (sL x t)):=by
 intro pins s σ H v u vv uu Q I rv ru h
 obtain⟨ρ,a,b,c,W,rx,ry,p⟩:=h
 unfold sL at p
 split at p
 ·split at p
  ·rename_i k y n hy
   subst hy
   cases rx
   obtain⟨a,rfl,hb⟩:=ry
   rw[hn]at hb
   cases hb
   obtain⟨tk,rfl⟩:=rv
   cases ru
   obtain⟨h0,f,hm,hf⟩:=Ju (prog:=X.prog) (w:=X.w) I.eo ht
   refine wpAny_in_of (key:=.int k tk) (k:=k) (by simp[intKind,Value.isInt]) h0 hm ?_
   have e:(f k).isSome=(fy t k).isSome:=by
    have:=hf k
    cases z:fy t k with
    |none=>rw[z]at this;have this:f k=none:=this;rw[this];rfl
    |some l=>rw[z]at this;obtain⟨b,hb,_⟩:=this;rw[hb];rfl
   rw[e]
   exact⟨.bl _,H,I.tok _,rfl,p.here W rfl⟩
  ·exact p.elim
 ·exact p.elim
end
def pM:D→D→aa→R D:=fun x y c=>match x,y with
 |.lst l,.int k=>if -(2^63)≤k∧k<2^63∧l.length*k.toNat≤sizeLine then .ok (.lst (List.replicate k.toNat l).flatten) c else .bad
 |_,_=>.bad
theorem aN.rep{K:PySem.W.Frag}{ρ:List Addr}{H:Hp}{l:List D}{xs:List V}(r:aN K ρ H l xs):∀n:Nat,aN K ρ H (List.replicate n l).flatten (List.replicate n xs).flatten
 |0=>rfl
 |n+1=>by
  rw[agG,agG,agM,agM]
  exact aN.append r (aN.rep r n)
theorem Tw{X:Cx}:bf X (binaryOp .Mult) (r2 X.K pM):=by
 intro pins s σ H v u vv uu Q I rv ru h
 obtain⟨ρ,x,y,c,W,rx,ry,p⟩:=h
 unfold pM at p
 split at p
 ·split at p
  ·rename_i hl
   obtain⟨a,xs,rfl,sa,ra⟩:=rx
   cases ry
   exact So pins s σ H _ _ vv uu Q I rv ru ⟨a,_,xs,rfl,rfl,sa.1,hl.1,hl.2.1,by rw[ra.length];exact hl.2.2,pV W (aN.rep ra _) p⟩
  ·exact p.elim
 ·exact p.elim
def K0(K:PySem.W.Frag) (a:Addr) (n:Nat):It :=
 ⟨fun i H=>i<n∧∃xs x,aZ K H a xs∧xs[n-1-i]? = some x,fun i H x H'=>H'=H∧∀xs,aZ K H a xs→xs[n-1-i]? = some x,fun i H=>i=n⟩
theorem ME{P:Program}{w:World}{K:PySem.W.Frag}{tg:Expr}(a it:Addr) (n:Nat):Turn P w K tg (K0 K a n) [it] it (fun i h=>h.IsRevIter it a ((n:Int)-1-(i:Nat))) where
 mem:=by simp
 obj:=fun i h st b hb=>by
  have e:b=it:=by simpa using hb
  subst e
  obtain⟨o,e,c,d⟩:=st
  exact⟨o,e,fun v z=>by rw[d]at z;cases z⟩
 keep:=fun i h h' st k=>st.at fun o e=>k it (by simp) o e
 item:=by
  intro X hP hw hK hc i pins s σ H E I hf st hg
  subst hP hw hK
  obtain⟨hi,xs,x,hq,hx⟩:=hg
  obtain⟨its,rv,p,hz⟩:=I.list hq
  obtain⟨u,hu,ru⟩:=rv.get hx
  obtain⟨f0,f1,f2,f3,f4,f5⟩:=hf it (by simp)
  have e1:(n:Int)-1-(i:Nat)=((n-1-i:Nat):Int):=by omega
  rw[e1]at st
  refine wpAny_pyNext_rev_item st p.isList (x:=u) (by simpa using hu) fun h' st' sb=>?_
  have e2:((n-1-i:Nat):Int)-1=(n:Int)-1-((i+1:Nat):Int):=by omega
  rw[e2]at st'
  have I1:Inv X pins σ H {s with heap:=h'}:=I.turned (t':=s.toks) (fun b o hb e=>(sb.2 b hb).trans e) f0 f1 f3 f4 f5
  obtain⟨o,e,c,d⟩:=id st'
  exact⟨u,rfl,vK (s:={s with heap:=h'}) e c d (by decide) ⟨x,H,I1,ru,⟨rfl,fun ys hy=>by rw[I.zR hy hq];exact hx⟩,st',fun b hb=>(hf b hb).1⟩⟩
 done:=by
  intro X hP hw hK hc i pins s σ H E I hf st hg
  subst hP hw hK
  have hi:i=n:=hg
  subst hi
  obtain⟨f0,f1,f2,f3,f4,f5⟩:=hf it (by simp)
  have e1:(i:Int)-1-(i:Nat) = -1:=by omega
  rw[e1]at st
  exact wpAny_pyNext_rev_end (I.ok.hd hc) st fun h' eb=>⟨rfl,I.turned (t':=s.toks) (fun b o hb e=>eb b o hb e) f0 f1 f3 f4 f5⟩
 self:=fun _ _ _ _ _ st h=>wpAny_pyIter_revIter st h
section
variable {X:Cx}{tg:Expr}
def Ym(K:PySem.W.Frag) (ta:TA):TI:=fun σ H R=>ta σ H fun vs H1=>∃a xs,vs=[.ref a]∧aZ K H1 a xs∧R (K0 K a xs.length) H1
theorem Rw{a:Expr}{ta:TA}{p pos:Pos}(hg:Gl X "reversed") (hm:X.mg "reversed"=none) (ha:PA X [a] ta) (hs:starEach [a] X.env=[(false,eval a X.env)]:=by rfl):PI X tg (.Call (.Name "reversed" p) [a] [] pos) (Ym X.K ta):=by
 intro pins s σ H R I h
 refine Call_ (kW I hg hm boot_reversed (agS (aY (ha pos pins s σ H _ I h) fun us s1 ⟨vs,H1,I1,r1,q1⟩=>?_) hs rfl))
 obtain⟨b,xs,e,hq,q⟩:=q1
 subst e
 cases r1 with
 |cons r rr =>
  cases rr
  cases r
  obtain⟨its,rv,pl,hz⟩:=I1.list hq
  refine call_reversed_list pl.isList ?_
  have I2:Inv X pins σ H1 {s1 with heap:=s1.heap.push (revObj b ((its.toArray.size:Int)-1))}:=I1.kept (t':=s1.toks) fun b o e=>afw _ e
  have hl:=rv.length
  have st:(s1.heap.push (revObj b ((its.toArray.size:Int)-1))).IsRevIter s1.heap.objs.size b ((xs.length:Int)-1-((0:Nat):Int)):=⟨_,afI _ rfl,rfl,by
   have e:(xs.length:Int)-1-((0:Nat):Int)=(its.toArray.size:Int)-1:=by rw[afF,←hl];omega
   rw[e];rfl⟩
  refine wpAny_pyIter_revIter st ?_
  refine⟨s1.heap.objs.size,[s1.heap.objs.size],_,_,H1,rfl,I2,ME b _ xs.length,st,fun c hb=>?_,q⟩
  have e:c=s1.heap.objs.size:=by simpa using hb
  subst e
  exact I1.tw (afs _) (I1.hok.fresh (afs _))
def tO(a:aj):Ev→aa→R Src:=fun e c=>(a e c).bind fun xs c=>match xs with
 |[.lst l]=>.ok ⟨l.reverse,fun _=>True⟩ c
 |_=>.bad
theorem Ii{a:Expr}{da:aj}{p pos:Pos}(ha:eF X [a] da) (hm:X.mg "reversed"=none) (hg:Gl X "reversed":=by rfl) (hs:starEach [a] X.env=[(false,eval a X.env)]:=by exact nW rfl):PId X tg (.Call (.Name "reversed" p) [a] [] pos) (tO da) :=
 (Rw hg hm ha hs).imp fun σ H Q h=>by
  obtain⟨ρ,e,c,W,V,p⟩:=h
  refine⟨ρ,e,c,W,V,post.bind p fun x c1 aO H1 v ex W1 X1 r1 p1=>?_⟩
  clear ex
  split at p1
  ·rename_i l
   obtain⟨y,ys,rfl,ry,rs⟩:=r1
   cases rs
   obtain⟨a,xs,rfl,s,rl⟩:=ry
   refine⟨a,xs,rfl,aZ.of s.1,p1.here W1 ?_⟩
   intro ρ' H' c' W' E _ i
   have sq:aZ X.K H' a xs:=aZ.of (zO E s).1
   have Pu:=aN.mono W1 E _ _ rl
   have sR:=rl.length
   refine⟨fun d hd=>?_,fun e=>?_⟩
   ·have hd:l.reverse[i]? = some d:=hd
    have hi:i<l.length:=by
     have:=(afJ.mp hd).1
     simpa using this
    rw[List.getElem?_reverse hi]at hd
    obtain⟨x,hx,rx⟩:=Pu.get hd
    rw[←sR]at hx
    refine⟨⟨by rw[sR];exact hi,xs,x,sq,hx⟩,fun y H2 hy=>?_⟩
    obtain⟨rfl,hy⟩:=hy
    have:=hy xs sq
    rw[hx]at this;cases this
    exact⟨W',Ext.refl,rx⟩
   ·have e:i=l.reverse.length:=e
    show i=xs.length
    rw[e,List.length_reverse,sR]
  ·exact p1.elim
end
section
variable (e:Ev) (c:aa) (l:aj)
@[simp] theorem adL:tO l e c=(l e c).bind fun xs c=>match xs with
 |[.lst l]=>.ok ⟨l.reverse,fun _=>True⟩ c
 |_=>.bad:=rfl
@[simp] theorem ad7(t:List (Int×List Int)) (i k:Int):mX t i (.int k) c=match fy t k with
 |some l=>match cI l i with
  |some z=>.ok (.int z) c
  |none=>.bad
 |none=>.bad:=rfl
@[simp] theorem ad1(x:Str) (t:List (Int×List Int)) (k:Int) (n:Nat):sL x t (.int k) (.fn x n) c=.ok (.bl (fy t k).isSome) c:=by
 unfold sL;simp
@[simp] theorem L3(m:List D) (k:Int):pM (.lst m) (.int k) c=if -(2^63)≤k∧k<2^63∧m.length*k.toNat≤sizeLine then .ok (.lst (List.replicate k.toNat m).flatten) c else .bad:=rfl
end
theorem xC{st:aa→Prop}{c:aa}(hst:st c) {a:af}(h:Int→Int→Int) (rest:Ev):∀(rx ry:List Int) (v0 v1:Option D) (acc:List D),
  (∀x∈rx,∀y∈ry,a (some (.int x)::some (.int y)::rest) c=.ok (.int (h x y)) c) →
  br st (eu 2 (cB (az 0) (cB (az 1) eN))) aG a (List.zipWith (fun x y=>D.tup [x,y]) (rx.map D.int) (ry.map D.int)) (v0::v1::rest) acc c=.ok (acc++(List.zipWith h rx ry).map D.int) c
 |[],ry,v0,v1,acc,_=>by simp[br,hst]
 |x::rx,[],v0,v1,acc,_=>by simp[br,hst]
 |x::rx,y::ry,v0,v1,acc,hb=>by
  have ih:=xC hst h rest rx ry (some (.int x)) (some (.int y)) (acc++[.int (h x y)]) fun u hu v hv=>hb u (af5 _ hu) v (af5 _ hv)
  have hxy:=hb x aga y aga
  simp only[afC,ajs]
  unfold br
  rw[if_pos hst]
  simp at ih
  simp[hxy,ih]
end L2
namespace L2
open PySem PySem.Spec PyProof.Rows
def ia(o a:af):af:=fun e c=>(o e c).bind fun x c=>match x with
 |.ref k=>(a e c).bind fun y c=>match y with
  |.lst m=>match c[k]? with
   |some (.lst l)=>if l.length+m.length≤sizeLine∧bD m=true then .ok .aL (c.set k (.lst (l++m)))else .bad
   |none=>.bad
  |_=>.bad
 |_=>.bad
theorem Sd{X:Cx}{o e:Expr}{dO da:af}{apos cpos:Pos}(ho:aT X o dO) (ha:aT X e da)
  (hbase:attributeBase o "extend" X.env (eval o X.env)=eval o X.env:=by rfl)
  (hfew:((backTo cpos (starEach [e] X.env)).all (fun x=>!x.1)&&(backToKw cpos (keywordEach [] X.env)).all (fun x=>x.1.isSome)
   && decide ([e].length+([]:List Keyword).length+(if([]:List Keyword).isEmpty then 0 else 1)<30))=true:=by exact uD rfl)
  (hline:(apos.endLine==cpos.line)=true:=by rfl) (hs:starEach [e] X.env=(false,eval e X.env)::starEach [] X.env:=by exact cL rfl) (hplain:(backTo cpos (starEach [] X.env)).any (·.1)=false:=by exact fc rfl) :
  aT X (.Call (.Attribute o "extend" apos) [e] [] cpos) (ia dO da) :=
 (uT aiI PySem.F.slot_list_extend PySem.F.type_list_extend Wf ho (iT ha iS hs) hbase hfew hline hs hplain).imp fun σ H Q h=>by
  obtain⟨ρ,e,c,W,V,p⟩:=h
  refine⟨ρ,e,c,W,V,post.bind p fun x c1 aO H1 v _ W1 X1 r1 p1=>?_⟩
  cases x with
  |ref k =>
   obtain⟨a,rfl,ha⟩:=r1
   obtain⟨xs,hx⟩:=W1.at' (afT ha)
   refine⟨.inl ⟨rfl,xs,aZ.of hx⟩,aO,e,c1,W1,V.mono W X1,post.bind p1 fun y c2 cT H2 u _ W2 X2 r2 p2=>?_⟩
   cases y with
   |lst m =>
    obtain⟨b,zs,rfl,sb,rb⟩:=r2
    dsimp only at p2
    split at p2
    ·rename_i l hl
     split at p2
     ·rename_i hh
      obtain⟨nr,ys,hy,rl⟩:=W2.e7 k a _ (X2.pre k a ha) hl
      refine⟨a,b,ys,zs,rfl,rfl,hy,sb.1,by rw[rl.length,rb.length];exact hh.1,?_⟩
      refine p2 cT _ .aL (W2.write (X2.pre k a ha) (by rw[sd,nr,hh.2];rfl) (rl.append rb)) (Ext.write (X2.pre k a ha)) rfl
     ·exact p2.elim
    ·exact p2.elim
   |_=>exact p2.elim
  |_=>exact p1.elim
def allInts:List Expr→Option (List Int)
 |[]=>some []
 |e::r=>match e with
  |.Constant (.int i) _ _=>(allInts r).map (i :: ·)
  |_=>none
def dZ(l:List Int):aj:=fun _ c=>.ok (l.map D.int) c
theorem mq{X:Cx}:∀{es:List Expr}{l:List Int},allInts es=some l→eF X es (dZ l)
 |[],l,h=>by cases h;exact aC
 |e::es,l,h=>by
  unfold allInts at h
  split at h
  ·rename_i i j pos
   cases q:allInts es with
   |none=>rw[q]at h;cases h
   |some r =>
    rw[q]at h
    cases h
    exact ay bh (mq q) (cL rfl)
  ·cases h
@[simp] theorem ad0(l:List Int) (e:Ev) (c:aa):dZ l e c=.ok (l.map D.int) c:=rfl
end L2
namespace L2
open PySem
abbrev Up(l:List Nat):Prop:=l.Pairwise (· < ·)
theorem getD_list(xs:Array Nat) (i d:Nat):xs.getD i d=xs.toList.getD i d:=by
 simp[ajt,afu]
theorem uw{l:List Nat}(h:Up l) {i k:Nat}(hik:i<k) (hk:k<l.length):l.getD i 0<l.getD k 0:=by
 have:=ahp.mp h i k (by omega) hk hik
 simpa[afu,afz hk,afz (show i<l.length by omega)]using this
def Parts(l:List Nat) (j p:Nat):Prop:=p≤l.length∧(∀i,i<p→l.getD i 0<j)∧∀i,p≤i→i<l.length→j≤l.getD i 0
theorem D3{xs:Array Nat}{j:Nat}(h:Up xs.toList):∀fuel lo hi,lo≤hi→hi≤xs.toList.length→hi-lo≤fuel→(∀i,i<lo→xs.toList.getD i 0<j)→(∀i,hi≤i→i<xs.toList.length→j≤xs.toList.getD i 0) →
  Parts xs.toList j (SetTable.below.go xs j fuel lo hi)
 |0,lo,hi,h1,h2,h3,h4,h5=>⟨by unfold SetTable.below.go;omega,fun i hi'=>h4 i (by unfold SetTable.below.go at hi';exact hi'),fun i hi'=>h5 i (by unfold SetTable.below.go at hi';omega)⟩
 |fuel+1,lo,hi,h1,h2,h3,h4,h5=>by
  unfold SetTable.below.go
  by_cases hl:lo<hi
  ·rw[if_pos hl]
   dsimp only
   have hm:(lo+hi)/2<xs.toList.length:=by omega
   have he:xs.getD ((lo+hi)/2) j=xs.toList.getD ((lo+hi)/2) 0:=by
    rw[getD_list];simp[afu,afz hm]
   rw[he]
   by_cases hc:xs.toList.getD ((lo+hi)/2) 0<j
   ·rw[if_pos hc]
    refine D3 h fuel _ _ (by omega) h2 (by omega) (fun i hi'=>?_) h5
    by_cases hq:i=(lo+hi)/2
    ·rw[hq];exact hc
    ·exact aiJ (uw h (show i<(lo+hi)/2 by omega) hm) hc
   ·rw[if_neg hc]
    refine D3 h fuel _ _ (by omega) (by omega) (by omega) h4 (fun i hi' hl'=>?_)
    by_cases hq:i=(lo+hi)/2
    ·rw[hq];omega
    ·exact afL (by omega) (agL (uw h (show(lo+hi)/2<i by omega) hl'))
  ·rw[if_neg hl]
   exact⟨by omega,h4,fun i hi'=>h5 i (by omega)⟩
theorem xH{xs:Array Nat}(h:Up xs.toList) (j:Nat):Parts xs.toList j (SetTable.below xs j):=by
 unfold SetTable.below
 exact D3 h _ _ _ (ags _) (by simp) (by simp) (fun i hi=>absurd hi (ahq _)) (fun i h1 h2=>by simp at h2;omega)
theorem ab8{xs:Array Nat}(h:Up xs.toList):SetTable.below xs 0=0:=by
 obtain⟨_,h2,_⟩:=xH h 0
 rcases aju (SetTable.below xs 0)with e|e
 ·exact e
 ·exact absurd (h2 0 e) (ahq _)
theorem ab9{xs:Array Nat}(h:Up xs.toList) {i:Nat}(hi:i<xs.toList.length):SetTable.below xs (xs.toList.getD i 0+1)=i+1:=by
 obtain⟨h1,h2,h3⟩:=xH h (xs.toList.getD i 0+1)
 rcases ahY (SetTable.below xs (xs.toList.getD i 0+1)) (i+1)with e|e|e
 ·have:=h3 i (by omega) hi;omega
 ·exact e
 ·have a:=h2 (i+1) e
  have b:=uw h (show i<i+1 by omega) (show i+1<xs.toList.length by omega)
  omega
theorem D0{xs:Array Nat}(h:Up xs.toList) {j:Nat}(hj:j∈xs.toList):xs[SetTable.below xs j]? = some j:=by
 obtain⟨i,hi,e⟩:=agI hj
 obtain⟨h1,h2,h3⟩:=xH h j
 have e':xs.toList.getD i 0=j:=by rw[afu,afz hi];exact e
 have hp:SetTable.below xs j=i:=by
  rcases ahY (SetTable.below xs j) i with q|q|q
  ·have a:=h3 (SetTable.below xs j) (afs _) (by omega)
   have b:=uw h q hi
   omega
  ·exact q
  ·have a:=h2 i q;omega
 rw[hp,←afW,afz hi,e]
theorem EE{xs:Array Nat}(h:Up xs.toList) {j:Nat}(hj:j∉xs.toList):Up (SetTable.insertAt xs (SetTable.below xs j) j).toList:=by
 rw[ahZ]
 obtain⟨h1,h2,h3⟩:=xH h j
 generalize SetTable.below xs j=p at h1 h2 h3
 have ht:∀a∈xs.toList.take p,a<j:=by
  intro a ha
  obtain⟨i,hi,e⟩:=agI ha
  have hi':i<p∧i<xs.toList.length:=by simp at hi ⊢;omega
  have:=h2 i hi'.1
  rw[aiH]at e
  rw[afu,afz hi'.2]at this
  simpa[←e]using this
 have hd:∀a∈xs.toList.drop p,j<a:=by
  intro a ha
  have hm:a∈xs.toList:=ah0 ha
  obtain⟨i,hi,e⟩:=agI ha
  have hi':p+i<xs.toList.length:=by simp at hi ⊢;omega
  have:=h3 (p+i) (by omega) hi'
  rw[List.getElem_drop]at e
  rw[afu,afz hi']at this
  have hle:j≤a:=by simpa[←e]using this
  exact Nat.lt_of_le_of_ne hle fun q=>hj (q▸hm)
 refine ajv.mpr ⟨h.sublist (aik _ _),ag7.mpr ⟨hd,h.sublist (List.drop_sublist _ _)⟩,fun a ha b hb=>?_⟩
 rcases afv.mp hb with rfl|hb
 ·exact ht a ha
 ·exact aiJ (ht a ha) (hd b hb)
theorem zb:∀(n:Nat) (l:List Nat),(∀j,j<n→j∈l)→n≤l.length
 |0,_,_=>ags _
 |n+1,l,h=>by
  have hn:=h n (agx _)
  have:=zb n (l.erase n) fun j hj=>(aiK (by omega)).mpr (h j (by omega))
  rw[aiL hn]at this
  have:=ajw hn
  omega
def eY(mask:Nat):Nat→Nat→Nat→Nat→Nat→Nat→Bool
 |0,_,_,_,_,_=>false
 |n+1,j,more,i,q,acc =>
  if acc |||(1 <<< j)=2^(mask+1)-1 then true
  else if more>0 then eY mask n (j+1) (more-1) i q (acc |||(1 <<< j))
  else eY mask n ((i*5+1+q/32) % (mask+1)) (SetTable.runEnd mask ((i*5+1+q/32) % (mask+1))-(i*5+1+q/32) % (mask+1)) ((i*5+1+q/32) % (mask+1)) (q/32) (acc |||(1 <<< j))
def xB(mask:Nat):Bool:=(List.range 128).all fun h=>eY mask (10*(mask+15)) (h % (mask+1)) (SetTable.runEnd mask (h % (mask+1))-h % (mask+1)) (h % (mask+1)) h 0
def lG(mask:Nat):Nat→Nat→Nat→Nat→Bool
 |0,_,_,_=>false
 |n+1,i,q,acc =>
  if acc |||((2^(SetTable.runEnd mask i+1-i)-1) <<< i)=2^(mask+1)-1 then true
  else lG mask n ((i*5+1+q/32) % (mask+1)) (q/32) (acc |||((2^(SetTable.runEnd mask i+1-i)-1) <<< i))
def C9(mask:Nat):Bool:=(List.range 128).all fun h=>lG mask (mask+15) (h % (mask+1)) h 0
theorem abv:xB 7=true:=by decide +kernel
theorem abw:xB 31=true:=by decide +kernel
theorem abx:xB 127=true:=by decide +kernel
theorem abt:C9 31=true:=by decide +kernel
theorem abu:C9 127=true:=by decide +kernel
end L2
namespace L2
open PySem
theorem xG(acc j k:Nat):(acc |||(1 <<< j)).testBit k=(acc.testBit k||decide (k=j)):=by
 rw[Nat.testBit_or,Nat.one_shiftLeft,Nat.testBit_two_pow]
 by_cases h:j=k
 ·subst h;simp
 ·simp[h,af8 h]
theorem xy{mask:Nat}:∀n j more i q acc,eY mask n j more i q acc=true→∀k,acc.testBit k=true→k≤mask
 |0,_,_,_,_,_,h,_,_=>by cases h
 |n+1,j,more,i,q,acc,h,k,hk=>by
  have hk':(acc |||(1 <<< j)).testBit k=true:=by rw[xG,hk];rfl
  unfold eY at h
  split at h
  ·rename_i e
   rw[e,ag8]at hk'
   have:=of_decide_eq_true hk';omega
  ·split at h
   ·exact xy _ _ _ _ _ _ h k hk'
   ·exact xy _ _ _ _ _ _ h k hk'
theorem yJ{t:SetTable}(hd:t.dummies=#[]) (j:Nat):t.slot j=.empty∨∃i,t.slot j=.live i:=by
 unfold SetTable.slot
 dsimp only
 split
 ·exact .inr ⟨_,rfl⟩
 ·rw[hd]
  exact .inl rfl
theorem BP{t:SetTable}{h:Int}(hd:t.dummies=#[]):∀n (p:SetTable.Probe) acc fuel,eY t.mask n p.j p.more p.i p.perturb acc=true→p.dummy=none→n≤fuel →
  (∀k,acc.testBit k=true→t.slot k≠.empty)→(∃j,j≤t.mask∧t.slot j=.empty) →
  ∃j,SetTable.probe.go t (fun _=>h+1) h fuel p=some (.empty j none)∧t.slot j=.empty∧j≤t.mask
 |0,_,_,_,h,_,_,_,_=>by simp[eY]at h
 |n+1,p,acc,0,_,_,h,_,_=>by omega
 |n+1,p,acc,fuel+1,hc,hn,hf,ha,hj=>by
  have hle:p.j≤t.mask:=by
   have hk':(acc |||(1 <<< p.j)).testBit p.j=true:=by rw[xG];simp
   unfold eY at hc
   split at hc
   ·rename_i e
    rw[e,ag8]at hk'
    have:=of_decide_eq_true hk';omega
   ·split at hc
    ·exact xy _ _ _ _ _ _ hc _ hk'
    ·exact xy _ _ _ _ _ _ hc _ hk'
  unfold SetTable.probe.go
  rcases yJ hd p.j with e|⟨i,e⟩
  ·rw[e]
   dsimp only
   exact⟨p.j,by rw[hn],e,hle⟩
  ·rw[e]
   dsimp only
   have hne:(h+1==h)=false:=by simp;omega
   rw[hne]
   simp only[af0,if_false]
   have ha':∀k,(acc |||(1 <<< p.j)).testBit k=true→t.slot k≠.empty:=by
    intro k hk
    rw[xG,ahN,decide_eq_true_eq]at hk
    rcases hk with hk|rfl
    ·exact ha k hk
    ·rw[e];intro q;cases q
   unfold eY at hc
   split at hc
   ·rename_i ef
    obtain⟨j0,h0,e0⟩:=hj
    exact absurd e0 (ha' j0 (by rw[ef,ag8];exact decide_eq_true (by omega)))
   ·split at hc
    ·rename_i hm
     have mW:t.advance p={p with j:=p.j+1,more:=p.more-1}:=by unfold SetTable.advance;rw[if_pos hm]
     rw[mW]
     exact BP hd n _ _ fuel hc hn (by omega) ha' hj
    ·rename_i hm
     have mW:t.advance p={p with j:=(p.i*5+1+p.perturb/32) % (t.mask+1),more:=SetTable.runEnd t.mask ((p.i*5+1+p.perturb/32) % (t.mask+1))-(p.i*5+1+p.perturb/32) % (t.mask+1),i:=(p.i*5+1+p.perturb/32) % (t.mask+1),perturb:=p.perturb/32}:=by
      unfold SetTable.advance;rw[if_neg hm];rfl
     rw[mW]
     exact BP hd n _ _ fuel hc hn (by omega) ha' hj
theorem KA{n:Nat}(h:n<128):SetTable.bits (n:Int)=n:=by
 unfold SetTable.bits
 have:((n:Int) % (2^64:Int))=n:=Int.emod_eq_of_lt (by omega) (by omega)
 rw[this];rfl
def mz(m:Nat):Prop:=m=7∨m=31∨m=127
theorem abq{m:Nat}(h:mz m) {n:Nat}(hn:n<128):eY m (10*(m+15)) (n % (m+1)) (SetTable.runEnd m (n % (m+1))-n % (m+1)) (n % (m+1)) n 0=true:=by
 have:xB m=true:=h.elim (fun e=>e▸abv) fun h=>h.elim (fun e=>e▸abw) fun e=>e▸abx
 exact afG.mp this n (aft.mpr hn)
theorem Zq{t:SetTable}{n:Nat}(hd:t.dummies=#[]) (hm:mz t.mask) (hn:n<128) (hs:t.place.toList.length≤t.mask) (hu:Up t.place.toList) :
  ∃j,t.freeSlot (n:Int)=some (j,false)∧j∉t.place.toList∧j≤t.mask:=by
 have hmem:∀j,t.slot j=.empty→j∉t.place.toList:=by
  intro j e hj
  unfold SetTable.slot at e
  dsimp only at e
  rw[D0 hu hj]at e
  simp at e
 have YM:∀j,j∉t.place.toList→t.slot j=.empty:=by
  intro j hj
  rcases yJ hd j with e|⟨i,e⟩
  ·exact e
  ·unfold SetTable.slot at e
   dsimp only at e
   split at e
   ·rename_i q
    have:=eq_of_beq q
    rw[←afW]at this
    exact absurd (afT this) hj
   ·split at e<;>cases e
 have hex:∃j,j≤t.mask∧t.slot j=.empty:=by
  by_cases q:∃j,j≤t.mask∧j∉t.place.toList
  ·obtain⟨j,a,b⟩:=q;exact⟨j,a,YM j b⟩
  ·have:=zb (t.mask+1) t.place.toList fun j hj=>ah1 fun x=>q ⟨j,by omega,x⟩
   omega
 have hb:=KA hn
 obtain⟨j,e,e1,e2⟩:=BP (t:=t) (h:=(n:Int)) hd (10*(t.mask+15)) (t.probeStart n) 0 (10*SetTable.turns t.mask)
  (by show eY _ _ (SetTable.bits n % _) (SetTable.runEnd t.mask (SetTable.bits n % (t.mask+1))-SetTable.bits n % (t.mask+1)) (SetTable.bits n % _) (SetTable.bits n) _=true;rw[hb];exact abq hm hn) rfl (afs _) (fun k hk=>by simp at hk) hex
 refine⟨j,?_,hmem j e1,e2⟩
 unfold SetTable.freeSlot SetTable.probe
 rw[e]
 rfl
theorem Ph(c i k:Nat):((2^c-1) <<< i).testBit k=decide (i≤k∧k<i+c):=by
 rw[Nat.testBit_shiftLeft,ag8]
 by_cases h:i≤k
 ·simp only[ge_iff_le,h,decide_true,aiM,true_and]
  exact decide_eq_decide.mpr (by omega)
 ·simp[h]
theorem zU{mask:Nat}{owner:Array (Option Nat)}:∀n i q acc fuel,lG mask n i q acc=true→n≤fuel→(∀k,k≤mask→acc.testBit k=true→owner.getD k (some 0)≠none) →
  (∃j,j≤mask∧owner.getD j (some 0)=none)→∃j,SetTable.layClean.free mask owner fuel i q=some j∧owner.getD j (some 0)=none
 |0,_,_,_,_,h,_,_,_=>by simp[lG]at h
 |n+1,i,q,acc,0,_,h,_,_=>by omega
 |n+1,i,q,acc,fuel+1,hc,hf,ha,hj=>by
  unfold SetTable.layClean.free
  cases hr:(List.range (SetTable.runEnd mask i+1-i)).find? (fun k=>(owner.getD (i+k) (some 0)).isNone)with
  |some k =>
   dsimp only
   have:=List.find?_some hr
   exact⟨i+k,rfl,by simpa using this⟩
  |none =>
   dsimp only
   have hno:=ajx.mp hr
   have ha':∀k,k≤mask→(acc |||((2^(SetTable.runEnd mask i+1-i)-1) <<< i)).testBit k=true→owner.getD k (some 0)≠none:=by
    intro k hk hb
    rw[Nat.testBit_or,Ph,ahN,decide_eq_true_eq]at hb
    rcases hb with hb|hb
    ·exact ha k hk hb
    ·intro e
     have:=hno (k-i) (aft.mpr (by omega))
     rw[show i+(k-i)=k by omega,e]at this
     exact this rfl
   unfold lG at hc
   split at hc
   ·rename_i ef
    obtain⟨j0,h0,e0⟩:=hj
    exact absurd e0 (ha' j0 h0 (by rw[ef,ag8];exact decide_eq_true (by omega)))
   ·exact zU n _ _ _ fuel hc (by omega) ha' hj
def gT(m:Nat):Prop:=m=31∨m=127
theorem abr{m:Nat}(h:gT m) {n:Nat}(hn:n<128):lG m (m+15) (n % (m+1)) n 0=true:=by
 have:C9 m=true:=h.elim (fun e=>e▸abt) fun e=>e▸abu
 exact afG.mp this n (aft.mpr hn)
theorem BW:∀(l:List (Option Nat)) (j k:Nat),j<l.length→l.getD j (some 0)=none→((l.set j (some k)).filterMap id).Perm (k::l.filterMap id)
 |[],_,_,h,_=>absurd h (ahq _)
 |x::l,0,k,_,e=>by
  have:x=none:=by simpa using e
  subst this
  simp
 |x::l,j+1,k,h,e=>by
  have ih:=BW l j k (by simpa using h) (by simpa using e)
  rw[ag4]
  cases x with
  |none=>simpa using ih
  |some a =>
   simp only[ahf,id]
   exact(ih.cons a).trans (List.Perm.swap _ _ _)
theorem BX:∀(l:List (Option Nat)),(∀j,j<l.length→l.getD j (some 0)≠none)→(l.filterMap id).length=l.length
 |[],_=>rfl
 |x::l,h=>by
  cases x with
  |none=>exact absurd rfl (h 0 (by simp))
  |some a =>
   have:=BX l fun j hj=>by simpa using h (j+1) (by simpa using hj)
   simp[this]
def nK(mask:Nat) (owner:Array (Option Nat)) (k:Nat):Prop:=owner.toList.length=mask+1∧(owner.toList.filterMap id).Perm (List.range k)
theorem gX(xs:Array (Option Nat)) (i:Nat) (d:Option Nat):xs.getD i d=xs.toList.getD i d:=by
 simp[ajt,afu]
theorem Wy{mask:Nat}{owner:Array (Option Nat)}{k n:Nat}(hm:gT mask) (hn:n<128) (I:nK mask owner k) (hk:k≤mask) :
  ∃j,SetTable.layClean.free mask owner (SetTable.turns mask) (SetTable.bits n % (mask+1)) (SetTable.bits n)=some j∧nK mask (owner.setIfInBounds j (some k)) (k+1):=by
 obtain⟨h1,h2⟩:=I
 have hex:∃j,j≤mask∧owner.getD j (some 0)=none:=by
  by_cases q:∃j,j≤mask∧owner.getD j (some 0)=none
  ·exact q
  ·have:=BX owner.toList fun j hj e=>q ⟨j,by omega,by rw[gX];exact e⟩
   have h3:=h2.length_eq
   rw[af2]at h3
   omega
 obtain⟨j,e,e1⟩:=zU (mask+15) _ _ 0 (SetTable.turns mask) (abr hm hn) (afs _) (fun k _ hb=>by simp at hb) hex
 refine⟨j,by rw[KA hn];exact e,by simpa using h1,?_⟩
 rw[gX]at e1
 have hj:j<owner.toList.length:=by
  rcases ahr j owner.toList.length with q|q
  ·exact q
  ·rw[afu,aho q]at e1;cases e1
 rw[ah2]
 refine(BW _ j k hj e1).trans ?_
 rw[ahs]
 exact(h2.cons k).trans (aiN k _).symm
theorem Hz{mask:Nat}(hm:gT mask):∀(hs:List Int) (owner:Array (Option Nat)) (k:Nat),(∀h∈hs,∃n:Nat,h=n∧n<128)→nK mask owner k→k+hs.length≤mask →
  ∃ow,hs.foldl (fun acc h=>(do
   let(owner,k) ←acc
   let j ←SetTable.layClean.free mask owner (SetTable.turns mask) (SetTable.bits h % (mask+1)) (SetTable.bits h)
   pure (owner.setIfInBounds j (some k),k+1):Option (Array (Option Nat)×Nat))) (some (owner,k))=some (ow,k+hs.length)∧nK mask ow (k+hs.length)
 |[],owner,k,_,I,_=>⟨owner,rfl,I⟩
 |h::hs,owner,k,hh,I,hl=>by
  obtain⟨n,e,hn⟩:=hh h (.head _)
  subst e
  simp only[afO]at hl
  obtain⟨j,e,I'⟩:=Wy hm hn I (by omega)
  obtain⟨ow,e',uc⟩:=Hz hm hs _ (k+1) (fun h x=>hh h (.tail _ x)) I' (by omega)
  refine⟨ow,?_,by rw[afO,show k+(hs.length+1)=k+1+hs.length by omega];exact uc⟩
  rw[agH,afO,show k+(hs.length+1)=k+1+hs.length by omega,←e']
  congr 1
  show(do let j ←SetTable.layClean.free mask owner (SetTable.turns mask) (SetTable.bits n % (mask+1)) (SetTable.bits n);pure (owner.setIfInBounds j (some k),k+1):Option (Array (Option Nat)×Nat))=_
  rw[e]
  rfl
theorem WA{mask:Nat}(hm:gT mask) (hs:Array Int) (hh:∀h∈hs.toList,∃n:Nat,h=n∧n<128) (hl:hs.toList.length≤mask) :
  ∃ow,SetTable.layClean mask hs=some ow∧nK mask ow hs.toList.length:=by
 obtain⟨ow,e,I⟩:=Hz hm hs.toList (Array.replicate (mask+1) none) 0 hh ⟨by simp,by simp⟩ (by omega)
 rw[agA]at e I
 refine⟨ow,?_,I⟩
 unfold SetTable.layClean
 rw[←ajy]
 exact congrArg (Option.map (fun x:Array (Option Nat)×Nat=>x.1)) e
theorem y9(l:List (Option Nat)):(List.range l.length).filterMap (fun j=>l.getD j none)=l.filterMap id:=by
 have:l=(List.range l.length).map (fun j=>l.getD j none):=by
  apply aiO
  ·simp
  ·intro i h1 h2
   simp[afu,afz h1]
 conv=>rhs;rw[this]
 rw[List.filterMap_map]
 rfl
theorem WL{mask:Nat}(hm:gT mask) (f mv:Nat) (led plain:Bool) (hs:Array Int) (hh:∀h∈hs.toList,∃n:Nat,h=n∧n<128) (hl:hs.toList.length≤mask) :
  ∃place order,SetTable.laid mask f mv led plain hs=some ({mask:=mask,place:=place,dummies:=#[],finger:=f,led:=led,moves:=mv,plain:=plain},order)∧Up place.toList∧(∀j∈place.toList,j≤mask)∧place.size=hs.size∧order.toList.Perm (List.range hs.size):=by
 obtain⟨ow,e,h1,h2⟩:=WA hm hs hh hl
 refine⟨(((List.range (mask+1)).filterMap fun j=>(ow.getD j none).map (j,·)).map (·.1)).toArray,(((List.range (mask+1)).filterMap fun j=>(ow.getD j none).map (j,·)).map (·.2)).toArray,?_,?_,?_,?_,?_⟩
 ·unfold SetTable.laid
  rw[e]
  rfl
 ·show Up ((((List.range (mask+1)).filterMap fun j=>(ow.getD j none).map (j,·)).map (·.1)).toArray).toList
  show List.Pairwise _ _
  rw[ag9]
  refine ajz _ (fun a a' hlt b hb b' hb'=>?_) aiP
  cases ha:ow.getD a none<;>rw[ha]at hb<;>simp at hb
  cases ha':ow.getD a' none<;>rw[ha']at hb'<;>simp at hb'
  rw[←hb,←hb']
  exact hlt
 ·intro j hj
  simp only[afx,ahH,aft]at hj
  obtain⟨⟨a,b⟩,⟨c,hc,hq⟩,rfl⟩:=hj
  cases ha:ow.getD c none<;>rw[ha]at hq<;>simp at hq
  obtain⟨rfl,_⟩:=hq
  omega
 ·have:((List.range (mask+1)).filterMap fun j=>(ow.getD j none).map (j,·)).length=(ow.toList.filterMap id).length:=by
   rw[←y9,h1,←afy (f:=Prod.snd),aiQ]
   congr 1
   congr 1
   funext j
   rw[gX]
   cases ow.toList.getD j none<;>rfl
  rw[afF,afy,this,h2.length_eq,af2]
  simp
 ·show(((List.range (mask+1)).filterMap fun j=>(ow.getD j none).map (j,·)).map (·.2)).Perm _
  have:(((List.range (mask+1)).filterMap fun j=>(ow.getD j none).map (j,·)).map (·.2))=ow.toList.filterMap id:=by
   rw[←y9,h1,aiQ]
   congr 1
   funext j
   rw[gX]
   cases ow.toList.getD j none<;>rfl
  rw[this]
  simpa using h2
end L2
namespace L2
open PySem
structure lM (t:SetTable) (n:Nat):Prop where
 size:t.place.size=n
 up:Up t.place.toList
 le:∀j∈t.place.toList,j≤t.mask
 dm:t.dummies=#[]
 mask:(t.mask=7∧n≤4)∨(t.mask=31∧n≤18)∨(t.mask=127∧n≤76)
 plain:t.plain=true
theorem lM.fits{t:SetTable}{n:Nat}(h:lM t n):t.fits n=true:=by
 have:=h.mask
 simp only[SetTable.fits,SetTable.fill,h.size,h.dm,afE,beq_self_eq_true,true_and,decide_eq_true_eq]
 simp only[afF,agd]
 omega
theorem MM(led:Bool):lM (.fresh 0 0 led) 0:=⟨rfl,.nil,fun j h=>by simp[SetTable.fresh]at h,rfl,.inl ⟨rfl,by omega⟩,rfl⟩
def HS(es:List (Int×Value)):Prop:=∀e∈es,∃n:Nat,e.1=n∧n<128
theorem Wz{t:SetTable}{es:Array (Int×Value)}{x:Value}{m:Nat}(I:lM t es.size) (hm:m<128) (hn:es.size<64) :
  ∃es1 t1,layNew t es (m:Int) x=(es1,t1,false,false)∧es1.size=es.size+1∧t1.led=t.led∧t1.plain=true∧t1.place.size=es1.size∧Up t1.place.toList∧(∀j∈t1.place.toList,j≤t1.mask)∧t1.dummies=#[]∧t1.mask=t.mask∧t1.fits es1.size=true:=by
 have hk:=I.mask
 have hok:mz t.mask:=by unfold mz;omega
 have hsz:=I.size
 obtain⟨j,e,h1,h2⟩:=Zq (t:=t) I.dm hok hm (by simp[hsz];omega) I.up
 have hnd:(if SetTable.has t.dummies j then SetTable.eraseAt t.dummies (SetTable.below t.dummies j)else t.dummies)=#[]:=by
  rw[I.dm];rfl
 have hs1:(SetTable.insertAt es (SetTable.below t.place j) ((m:Int),x)).size=es.size+1:=by
  rw[←afM,(aha ..).length_eq];simp
 have hs2:(SetTable.insertAt t.place (SetTable.below t.place j) j).size=es.size+1:=by
  rw[←afM,(aha ..).length_eq];simp[hsz]
 have hfit:(t.put j).1.fits (es.size+1)=true:=by
  simp only[SetTable.put,SetTable.fits,SetTable.fill,hnd,hs2,afE,beq_self_eq_true,true_and,decide_eq_true_eq]
  simp only[afF,agd]
  omega
 refine⟨SetTable.insertAt es (SetTable.below t.place j) ((m:Int),x),(t.put j).1,?_,hs1,rfl,I.plain,?_,?_,?_,hnd,rfl,?_⟩
 ·unfold layNew
  rw[e]
  dsimp only
  have hp:(t.put j).2=SetTable.below t.place j:=rfl
  rw[hp,hs1]
  unfold SetTable.orStandIn
  rw[hfit]
  rfl
 ·rw[hs1];exact hs2
 ·exact EE I.up h1
 ·intro k hk'
  have:k∈(t.place.push j).toList:=(aha t.place (SetTable.below t.place j) j).mem_iff.mp hk'
  rw[ah3,af3,af1]at this
  rcases this with q|rfl
  ·exact I.le k q
  ·exact h2
 ·rw[hs1];exact hfit
theorem Pz{t:SetTable}{es:Array (Int×Value)}(hp:t.plain=true) (hh:HS es.toList) (hm:(t.mask=7∧es.size=5)∨(t.mask=31∧es.size=19)) :
  ∃iG t2,relayAll t es (SetTable.grown es.size)=(iG,t2,false)∧iG.size=es.size∧lM t2 iG.size∧t2.led=t.led:=by
 have hw:∃m,SetTable.sizeAbove (SetTable.grown es.size)-1=m∧((m=31∧es.size=5)∨(m=127∧es.size=19)):=by
  rcases hm with⟨_,e⟩|⟨_,e⟩
  ·rw[e];exact⟨31,by decide,.inl ⟨rfl,rfl⟩⟩
  ·rw[e];exact⟨127,by decide,.inr ⟨rfl,rfl⟩⟩
 obtain⟨m,ew,hq⟩:=hw
 have hs:(es.map (·.1)).toList=es.toList.map (·.1):=by simp
 obtain⟨place,order,e,u1,u2,u3,u4⟩:=WL (mask:=m) (by unfold gT;omega) t.finger (t.movedTo m) t.led t.plain (es.map (·.1)) (fun h hx=>by
  rw[hs,afx]at hx
  obtain⟨y,hy,rfl⟩:=hx
  exact hh y hy) (by rw[hs,afy,afM];omega)
 rw[Array.size_map]at u3 u4
 have hes:(order.filterMap (es[·]?)).size=es.size:=by
  rw[←afM,aiR]
  exact((u4.filterMap _).trans (by rw[ajA])).length_eq
 have hfit:SetTable.fits {mask:=m,place:=place,dummies:=#[],finger:=t.finger,led:=t.led,moves:=t.movedTo m,plain:=t.plain} es.size=true:=by
  simp only[SetTable.fits,SetTable.fill,u3,afE,beq_self_eq_true,true_and,decide_eq_true_eq]
  simp only[afF,agd]
  omega
 refine⟨order.filterMap (es[·]?),{mask:=m,place:=place,dummies:=#[],finger:=t.finger,led:=t.led,moves:=t.movedTo m,plain:=t.plain},?_,hes,?_,?_⟩
 rotate_left
 ·rw[hes]
  exact⟨u3,u1,u2,rfl,.inr (by show(m=31∧_)∨(m=127∧_);omega),hp⟩
 ·rfl
 ·unfold relayAll SetTable.relaid
  rw[ew,e]
  dsimp only
  rw[hes,hfit]
  have hc:coversAll order es.size=true:=by unfold coversAll;exact List.isPerm_iff.mpr u4
  rw[hc]
  rfl
theorem Zl{t t1:SetTable}{n:Nat}(I:lM t n) (hm:t1.mask=t.mask) (hs:t1.place.size=n+1) (hd:t1.dummies=#[]) (hn:n<64) :
  (t1.tooFull=true→(t1.mask=7∧n+1=5)∨(t1.mask=31∧n+1=19))∧(t1.tooFull=false→((t1.mask=7∧n+1≤4)∨(t1.mask=31∧n+1≤18)∨(t1.mask=127∧n+1≤76))):=by
 have hk:=I.mask
 have hz:(#[]:Array Nat).size=0:=rfl
 simp only[SetTable.tooFull,SetTable.fill,hs,hd,hm,hz,decide_eq_true_eq,decide_eq_false_iff_not]
 omega
end L2
namespace L2
open PySem
theorem IK{n:Nat}(h:n<128):hashInt (n:Int)=n:=by
 have:((List.range 128).all fun n=>hashInt (n:Int)==(n:Int))=true:=by decide +kernel
 exact eq_of_beq (afG.mp this n (aft.mpr h))
def fq(w:World):Bool:=w.params.followText "set-order"
def e8(ns:List Nat) (x:Nat):List Nat:=if x∈ns then ns else ns++[x]
def fH(l:List (Int×Value)) (ns:List Nat):Prop:=(l.map (·.1)).Perm (ns.map fun n:Nat=>(n:Int))∧∀e∈l,∃(n:Nat) (tk:Tok),e=((n:Int),.int n tk)∧n<128
def fS(w:World) (h:Heap) (a:Addr) (ns:List Nat):Prop:=∃o es ep t,h.get? a=some o∧o.ExactSet∧o.data=.set es ep t∧lM t es.size∧t.led = !fq w∧fH es.toList ns
theorem fH.hs{l:List (Int×Value)}{ns:List Nat}(h:fH l ns):HS l:=fun e he=>by
 obtain⟨n,tk,rfl,hn⟩:=h.2 e he
 exact⟨n,rfl,hn⟩
theorem fH.len{l:List (Int×Value)}{ns:List Nat}(h:fH l ns):l.length=ns.length:=by
 have:=h.1.length_eq;simpa using this
theorem fH.mem{l:List (Int×Value)}{ns:List Nat}(h:fH l ns) (n:Nat):n∈ns↔∃e∈l,e.1=(n:Int):=by
 constructor
 ·intro hn
  have:(n:Int)∈l.map (·.1):=h.1.mem_iff.mpr (afx.mpr ⟨n,hn,rfl⟩)
  obtain⟨e,he,q⟩:=afx.mp this
  exact⟨e,he,q⟩
 ·rintro ⟨e,he,q⟩
  have:(n:Int)∈ns.map (fun n:Nat=>(n:Int)):=h.1.mem_iff.mp (afx.mpr ⟨e,he,q⟩)
  obtain⟨m,hm,r⟩:=afx.mp this
  have:m=n:=by omega
  exact this▸hm
theorem fH.perm{l l':List (Int×Value)}{ns:List Nat}(h:fH l ns) (p:l'.Perm l):fH l' ns:=⟨(p.map _).trans h.1,fun e he=>h.2 e (p.mem_iff.mp he)⟩
theorem fH.push{l:List (Int×Value)}{ns:List Nat}(h:fH l ns) {m:Nat}(hm:m<128) (tk:Tok):fH (l++[((m:Int),.int m tk)]) (ns++[m]):=by
 refine⟨?_,fun e he=>?_⟩
 ·rw[agP,agP]
  exact h.1.append_right _
 ·rcases af3.mp he with he|he
  ·exact h.2 e he
  ·rw[af1]at he
   exact⟨m,tk,he,hm⟩
section
variable {prog:Program}{w:World}{A:Around}{E:Value→Shared→Prop}{s:Shared}
theorem fH.els{l:List (Int×Value)}{ns:List Nat}(h:fH l ns):ElemsOf (intKind prog w) l:=fun e he=>by
 obtain⟨n,tk,rfl,hn⟩:=h.2 e he
 exact⟨⟨n,by simp[intKind,Value.isInt],(IK hn).symm⟩,rfl⟩
theorem uO{h:Heap}{a:Addr}{o:Obj}{es es':Array (Int×Value)}{ep:Nat}{t t':SetTable}(ho:h.get? a=some o) (hd:o.data=.set es ep t) :
  (h.update a (Obj.putSet es' t')).get? a=some {o with data:=.set es' (ep+1) t'}:=by
 have:=ahi (Obj.putSet es' t') ho (by rw[putSet_of es' t' hd];rfl)
 rwa[putSet_of es' t' hd]at this
theorem OE{a:Addr}{ns:List Nat}{m:Nat}{tk:Tok}{Q:Bool→Shared→Prop}(hm:m<128) (hS:fS w s.heap a ns) (hn:ns.length<64)
  (h:∀b h',Heap.SameBut a s.heap h'→fS w h' a (e8 ns m)→Q b {s with heap:=h'}):wpAny (model prog w) A (setAddHashed a (.int m tk) (hashInt m)) Q E s:=by
 obtain⟨o,es,ep,t,ho,hex,hd,hI,hl,hs⟩:=hS
 have hsz:es.size=ns.length:=by rw[←afM];exact hs.len
 have hel:ElemsOf (intKind prog w) es.toList:=hs.els
 have hkey:(intKind prog w).is (m:Int) (.int m tk)=true:=by simp[intKind,Value.isInt]
 unfold setAddHashed setAddHashedIn
 refine agl (afq (agB ho hd hI.fits ?_))
 dsimp only
 rw[byScan_of (knd:=intKind prog w) rfl (by unfold scanBound;omega) hel]
 simp only[↓reduceIte]
 unfold setAddByScan
 refine afq (afq (ahP (afq (wpAny_setScan_of (knd:=intKind prog w) hkey ho hd hI.fits hel ?_))))
 have hfind:∀e∈es.toList,(intKind prog w).is (m:Int) e.2=true→e.1=(m:Int):=fun e he q=>by
  obtain⟨n,tk',rfl,_⟩:=hs.2 e he
  obtain⟨t',q⟩:=ahE (show Value.isInt (m:Int) (.int (n:Int) tk')=true from q)
  injection q
 cases hr:es.toList.findIdx? (fun e=>(intKind prog w).is (m:Int) e.2)with
 |some j =>
  dsimp only
  obtain⟨hj,Yx,_⟩:=aiS.mp hr
  have hmem:m∈ns:=(hs.mem m).mpr ⟨_,afX hj,hfind _ (afX hj) Yx⟩
  refine afr (afr ?_)
  exact h false s.heap (Heap.SameBut.refl a s.heap) (by unfold e8;rw[if_pos hmem];exact⟨o,es,ep,t,ho,hex,hd,hI,hl,hs⟩)
 |none =>
  dsimp only
  have hmem:m∉ns:=fun hq=>by
   obtain⟨e,he,q⟩:=(hs.mem m).mp hq
   have:=ajB.mp hr e he
   obtain⟨n,tk',rfl,_⟩:=hs.2 e he
   have e:n=m:=by dsimp only at q;omega
   subst e
   simp[intKind,Value.isInt]at this
  have hst:e8 ns m=ns++[m]:=by unfold e8;rw[if_neg hmem]
  rw[hst]at h
  rw[IK hm]
  have qj:=layNew_perm t es (m:Int) (.int m tk)
  obtain⟨es1,t1,e1,q1,q2,q3,q4,q5,q6,q7,q8,q9⟩:=Wz (x:=.int m tk) hI hm (by omega)
  rw[e1]at qj ⊢
  dsimp only at qj ⊢
  rw[ah3]at qj
  have hs1:fH es1.toList (ns++[m]):=(hs.push hm tk).perm qj
  refine afq (afr ?_)
  rw[q3]
  simp only[↓reduceIte]
  refine afq ?_
  rw[aiT 8 (x:=.int m tk) rfl]
  refine afr ?_
  dsimp only[plainKind]
  simp only[↓reduceIte]
  refine afq (ah4 ho hd ?_ (fits_of_scanBound (by unfold scanBound;omega)))
  have lA:=uO (es':=es1) (t':=t1) ho hd
  have gu:=agz s.heap a (Obj.putSet es1 t1)
  have hcs:=Zl hI q8 (q4.trans q1) q7 (by omega)
  cases hf:t1.tooFull with
  |false =>
   simp only[ahb,ais,af0,↓reduceIte]
   refine afr (afr (h true _ gu ⟨_,es1,ep+1,t1,lA,hex,rfl,⟨q4,q5,q6,q7,?_,q3⟩,q2.trans hl,hs1⟩))
   rw[q1];exact hcs.2 hf
  |true =>
   simp only[ahb,aiU,↓reduceIte]
   have hp2:=relayAll_perm t1 es1 (SetTable.grown es1.size)
   obtain⟨iG,t2,e2,r1,r2,r3⟩:=Pz q3 hs1.hs (by rw[q1];exact hcs.1 hf)
   rw[e2]at hp2 ⊢
   dsimp only at hp2 ⊢
   refine afq (afr ?_)
   refine afq (ah4 lA rfl ?_ (fits_of_scanBound (by unfold scanBound;omega)))
   exact afr (afr (h true _ (gu.trans (agz _ a _)) ⟨_,iG,ep+1+1,t2,uO lA rfl,hex,rfl,r2,r3.trans (q2.trans hl),hs1.perm hp2⟩))
end
end L2
namespace L2
open PySem PySem.Spec PyProof.Rows
def cW(xs:List Nat):List Nat:=xs.foldl e8 []
theorem Zv{xs:List Nat}{i:Nat}(h:i<xs.length):cW (xs.take (i+1))=e8 (cW (xs.take i)) xs[i]:=by
 unfold cW
 rw[aiV h,ah5]
 rfl
theorem Jb:∀(xs ns:List Nat),ns.length≤(xs.foldl e8 ns).length
 |[],ns=>afs _
 |x::xs,ns=>by
  have:=Jb xs (e8 ns x)
  have h:ns.length≤(e8 ns x).length:=by unfold e8;split<;>simp
  rw[agH];omega
theorem Zw(xs:List Nat) (i:Nat):(cW (xs.take i)).length≤(cW xs).length:=by
 have:cW xs=(xs.drop i).foldl e8 (cW (xs.take i)):=by
  unfold cW
  rw[←ah5,agQ]
 rw[this]
 exact Jb _ _
theorem fS.at{w:World}{h h':Heap}{a:Addr}{ns:List Nat}(x:fS w h a ns) (k:∀o,h.get? a=some o→h'.get? a=some o):fS w h' a ns :=
 let⟨o,es,ep,t,ho,r⟩:=x;⟨o,es,ep,t,k o ho,r⟩
section
variable {prog:Program}{w:World}{A:Around}{s:Shared}{E:Value→Shared→Prop}
theorem Fw{R:Result→Shared→Prop}{I:Addr}{fp wr:List Addr}{G:Array GenState→Array GenState→Prop}{P:Nat→Value→Prop}{St:Nat→Shared→Prop}{xs:List Nat}
  (W:WalksS prog w A.in1 I fp wr G xs.length P St) (S:Addr) (hSf:S∉fp) (hval:∀(i:Nat) v,(hi:i<xs.length)→P i v→∃t,v=Value.int (xs[i]:Nat) t) (hx:∀x∈xs,x<128) (h64:(cW xs).length<64) :
  ∀(k i:Nat) (s:Shared),xs.length-i=k→i≤xs.length→St i s→fS w s.heap S (cW (xs.take i)) →
   (∀s',Moved (S::wr) G s s'→fS w s'.heap S (cW xs)→R (.ok (.ret .none)) s') →
   codeAny (model prog w) A (.builtin "set.update.loop" ⟨[.ref S,.ref I],[]⟩) R s:=by
 have vJ:S∉wr:=fun h=>hSf (W.sub _ h)
 have hup:∀b∈wr,b∈S::wr:=fun b hb=>.tail _ hb
 intro k
 induction k with
 |zero =>
  intro i s hk hi st hS hR
  cases(show i=xs.length by omega)
  refine agJ ah6 ?_
  rw[aht ahc _]
  show wpAny _ A.in1 (pyNext (.ref I) >>= _) _ _ s
  refine afq (W.done s _ _ st fun s' hm=>?_)
  rw[agC]at hS
  exact afr (hR s' (hm.mono hup) (hS.at fun o e=>hm.heap S _ vJ e))
 |succ k ih =>
  intro i s hk hi st hS hR
  have hlt:i<xs.length:=by omega
  refine agJ ah6 ?_
  rw[aht ahc _]
  show wpAny _ A.in1 (pyNext (.ref I) >>= _) _ _ s
  refine afq (W.item i s _ _ hlt st fun v s' hP st' hm=>?_)
  obtain⟨t,rfl⟩:=hval i v hlt hP
  have hS':fS w s'.heap S (cW (xs.take i)):=hS.at fun o e=>hm.heap S _ vJ e
  show wpAny _ A.in1 (holding [Value.int (xs[i]:Nat) t] (setAdd S (.int (xs[i]:Nat) t)) >>= _) _ _ s'
  refine afq (agl ?_)
  unfold setAdd
  refine agl (afq ((intKind prog w).pyHash (k:=(xs[i]:Nat)) (by simp[intKind,Value.isInt]) ?_))
  have hl:(cW (xs.take i)).length<64:=aiv (Zw xs i) h64
  refine OE (s:={s' with toks:=s'.toks+1}) (hx _ (afX hlt)) hS' hl fun b h' gu jx=>?_
  rw[←Zv hlt]at jx
  refine afr ⟨aiW ahc _,ih (i+1) _ (by omega) hlt (W.frame _ s' _ _ st' (agW _) fun b hb o e=>?_) jx fun s'' BA BH=>?_⟩
  ·rw[gu.2 b (fun q:b=S=>hSf (q▸hb))];exact e
  ·refine hR s'' (Moved.trans W.gtrans ((hm.mono hup).then_heap (agW _) fun b o hb e=>?_) BA) BH
   rw[gu.2 b (fun q:b=S=>hb (q▸.head _))];exact e
def cK(w:World):Obj:={cls:=.type "set",dict:=none,data:=.set #[] 0 (.fresh 0 0 (!fq w))}
theorem Jt(w:World) {h:Heap}{a:Addr}(e:h.get? a=some (cK w)):fS w h a [] :=
 ⟨_,#[],0,_,e,⟨rfl,rfl,rfl⟩,rfl,MM _,rfl,.refl _,fun e he=>by cases he⟩
theorem yL(a:Value) {Q₁:Value→Shared→Prop}(h:Q₁ (.ref s.heap.objs.size) {s with heap:=s.heap.push (cK w)}) :
  codeAny (model prog w) A (.call (.builtin "set.__new__") ⟨[.type "set",a],[]⟩) (wants Q₁ E) s:=by
 refine ah7 (show wpAny _ A.in1 (do checkBuiltinCall "set.__new__" ⟨[.type "set",a],[]⟩;again (.builtin "set.__new__" ⟨[.type "set",a],[]⟩)) _ _ s from ?_)
 refine afq (ahl (PySem.F.newCall_set_1 a) (afr ⟨aiW ajC _,agJ PySem.F.entry_set_new ?_⟩))
 rw[aht ajC _]
 unfold Builtin.«set.__new__» Builtin.Frozenset.newClass
 have hsub:=sub_set_self
 obtain⟨hp,g,d,tk,os⟩:=s
 dsimp only;wp_walk
 refine ahu (afr ?_)
 dsimp only;simp only[newObj]
 exact afq (wpAny_alloc (afr (afr h)))
set_option maxHeartbeats 3200000 in
theorem OA{l:Addr}{items:Array Value}{xs:List Nat}{Q:Value→Shared→Prop}(hh:A.handled=none) (hl:s.heap.IsList l items) (hi:IntsAre items.toList (xs.map fun n:Nat=>(n:Int))) (hx:∀x∈xs,x<128) (h64:(cW xs).length<64)
  (h:∀(h':Heap) (tk:Nat),fS w h' s.heap.objs.size (cW xs)→(∀b o,b<s.heap.objs.size→s.heap.get? b=some o→h'.get? b=some o)→Q (.ref s.heap.objs.size) {s with heap:=h',toks:=tk}) :
  wpAny (model prog w) A (call (.type "set") [.ref l]) Q E s:=by
 obtain⟨c,tl,ID⟩:=afQ.mro
 have hmade:=afQ.made
 have hsub:=afQ.sub
 refine ahI (ah7 (show wpAny _ _ (callAny (.type "set") _) _ _ _ from ?_))
 refine afr ⟨aiX _ (by decide +kernel),agJ aiY ?_⟩
 rw[aiZ (ai0 "set" [.ref l] []) rfl]
 have h1:=afQ.notType
 have h2:=afQ.canCreate
 have hct:=ai1 (.ref l)
 repeat any_goals (first|assumption|wp_step)
 refine agw (yL (.ref l) (E:=E) (Q₁:=fun obj s₁=>obj=.ref s.heap.objs.size∧s₁={s with heap:=s.heap.push (cK w)}) ⟨rfl,rfl⟩) fun r s₁ hr=>?_
 cases r with
 |error e=>exact hr
 |ok fl =>
  cases fl with
  |ret obj =>
   obtain⟨rfl,rfl⟩:=hr
   have hS:(s.heap.push (cK w)).get? s.heap.objs.size=some (cK w):=afI _ rfl
   have hT:Shared.TypeIs {s with heap:=s.heap.push (cK w)} (.ref s.heap.objs.size) "set":=⟨_,hS,rfl⟩
   have hli:=afQ.init.lookup
   have hbi:=afQ.init.bind (.ref s.heap.objs.size)
   repeat any_goals (first|assumption|wp_step)
   refine agw (ai2 (R:=wants (fun r s₂=>r=.none∧∃h' tk,s₂={s with heap:=h',toks:=tk}∧fS w h' s.heap.objs.size (cW xs) ∧
     (∀b o,b<s.heap.objs.size→s.heap.get? b=some o→h'.get? b=some o)) E) afQ.init.plain ai3 (ai4 hT ?_)) fun r₂ s₂ iD=>?_
   ·obtain⟨ol,gw,hcl,nl,hdl⟩:=hl
    obtain⟨GG,rY,Gx,rT⟩:=ol
    simp only at hcl hdl
    subst hcl;subst hdl
    have lz:(s.heap.push (cK w)).get? l=some {cls:=.type "list",dict:=rY,data:=.seq items nl,slots:=rT}:=afw _ gw
    have Iw:=ajD
    have Iz:=ajE
    have hne:(Value.type "list"==Value.type "dict")=false:=by decide
    have hl1:(s.heap.push (cK w)).IsList l items:=⟨_,lz,rfl,nl,rfl⟩
    unfold cK at hS hT lz ⊢
    unfold Builtin.«set.__init__» noKeywords Builtin.Frozenset.updateFrom
    generalize sX:pyIter=PI
    wp_walk
    subst sX
    refine ahg hl1 (afq (ai5 ?_))
    have hlS:l<s.heap.objs.size:=afA gw
    have hlen:items.size=xs.length:=by have:=hi.length;simpa using this
    have sQ:l≠(s.heap.push (cK w)).objs.size:=by rw[afV];exact afB (agp hlS)
    have hSf:s.heap.objs.size∉[(s.heap.push (cK w)).objs.size,l]:=by
     rw[afV];simp only[afv,afK,or_false,not_or];exact⟨afB (agx _),agm hlS⟩
    have W:=(ahV (prog:=prog) (w:=w) (A:=A.in1.in1.in1) (by simp[hh]) (s.heap.push (cK w)).objs.size l sQ items).toS
    rw[hlen]at W
    refine Fw (xs:=xs) W s.heap.objs.size hSf (fun i v hi' hv=>?_) hx h64 xs.length 0 _ (by omega) (ags _) ⟨⟨_,afI _ rfl,rfl,rfl⟩,hl1.push _⟩ (Jt w (afw _ hS)) fun s' hm hS'=>?_
    ·obtain⟨t,e⟩:=IntsAre.int_at hi i v (by rw[afW];exact hv)
     exact⟨t,by rw[e];simp[afu,afz hi']⟩
    ·obtain⟨h',g',d',tk',os'⟩:=s'
     cases(show g'=s.gens from hm.gens)
     cases(show d'=s.drawn from hm.drawn)
     cases(show os'=s.os from hm.os)
     refine afr (afr ⟨rfl,h',tk',rfl,hS',fun b o hb e=>?_⟩)
     exact hm.heap b o (by rw[afV];simp only[afv,afK,or_false,not_or];exact⟨afB hb,afB (agp hb)⟩) (afw _ (afw _ e))
   ·cases r₂ with
    |error e=>exact iD
    |ok tE =>
     cases tE with
     |ret r =>
      obtain⟨rfl,h',tk,rfl,hS',hk'⟩:=iD
      repeat any_goals (first|assumption|wp_step)
      exact h _ _ hS' hk'
     |_=>exact iD.elim
  |_=>exact hr.elim
end
end L2
namespace L2
open PySem
theorem nT:Slot "set_iterator" "__next__" "set_iterator.__next__" :=
 .of (owner:="set_iterator") (n:="__next__") (by rw[typeLookup_type,ajF];kernel_rfl) (by decide +kernel) (by decide +kernel)
  (by decide +kernel) (by first|exact .inl (by decide +kernel)|exact .inr (by decide +kernel)) (by rw[ah8];kernel_rfl)
theorem E3:Slot "set_iterator" "__iter__" "set_iterator.__iter__" :=
 .of (owner:="set_iterator") (n:="__iter__") (by rw[typeLookup_type,ajF];kernel_rfl) (by decide +kernel) (by decide +kernel)
  (by decide +kernel) (by first|exact .inl (by decide +kernel)|exact .inr (by decide +kernel)) (by rw[ah8];kernel_rfl)
theorem E5:entryFor table "set_iterator.__next__"=some Builtin.«set_iterator.__next__»:=entryFor_of_tree (by kernel_rfl)
theorem Nn:entryFor table "set_iterator.__iter__"=some Builtin.«dict_keyiterator.__iter__» :=
 entryFor_alias (id':="dict_keyiterator.__iter__") (by kernel_rfl) rfl (by decide +kernel) (by kernel_rfl)
theorem Nm:entryFor table "set.__iter__"=some Builtin.«frozenset.__iter__» :=
 entryFor_alias (id':="frozenset.__iter__") (by kernel_rfl) rfl (by decide +kernel) (by kernel_rfl)
theorem E4:Manifest.owners.lookup (String.ofList ['r','o','t','a','r','e','t','i','_','t','e','s'].reverse)=some Manifest.sig_set_iterator:=by kernel_rfl
theorem E6(a:Value):argsOk "set_iterator.__next__" ⟨[a],[]⟩:=by
 unfold argsOk
 rw[signature?_of (id:="set_iterator.__next__") (n:=['_','_','t','x','e','n','_','_']) (o:=['r','o','t','a','r','e','t','i','_','t','e','s']) (by kernel_rfl) E4];kernel_rfl
theorem Np(a:Value):argsOk "set_iterator.__iter__" ⟨[a],[]⟩:=by
 unfold argsOk
 rw[signature?_of (id:="set_iterator.__iter__") (n:=['_','_','r','e','t','i','_','_']) (o:=['r','o','t','a','r','e','t','i','_','t','e','s']) (by kernel_rfl) E4];kernel_rfl
theorem CF{α:Type}{l:List α}{i:Nat}(h:i<l.length):([l[i]]++l.eraseIdx i).Perm l:=by
 rw[ahv]
 have e:l=l.take i++l[i]::l.drop (i+1):=by rw[←ahW h,agQ]
 conv=>rhs;rw[e]
 exact(ai6 (a:=l[i]) (l₁:=l.take i) (l₂:=l.drop (i+1))).symm
theorem F7{α:Type}(next:Nat→Nat):∀(fuel k:Nat) (left:List α) (out:Array α),fuel=left.length→(pickOrder.go next fuel k left out).toList.Perm (out.toList++left)
 |0,k,left,out,h=>by
  have:left=[]:=ahX.mp h.symm
  subst this
  unfold pickOrder.go;simp
 |fuel+1,k,left,out,h=>by
  unfold pickOrder.go
  have hlt:next k % left.length<left.length:=agt _ (by omega)
  rw[afz hlt]
  dsimp only
  refine(F7 next fuel _ _ _ (by rw[List.length_eraseIdx_of_lt hlt];omega)).trans ?_
  rw[ah3,afU]
  exact(CF hlt).append_left _
def gS(w:World) (a:Addr) (ep:Nat) (es:Array (Int×Value)):Array (Int×Value):=if fq w then pickOrder (w.params.setOrder a ep) es else es
theorem uY(w:World) (a:Addr) (ep:Nat) (es:Array (Int×Value)):(gS w a ep es).toList.Perm es.toList:=by
 unfold gS
 split
 ·unfold pickOrder
  simpa using F7 (w.params.setOrder a ep) es.size 0 es.toList #[] (by simp)
 ·exact .rfl
def gj(b:Bool) (place:Array Nat):Nat→Nat
 |0=>0
 |i+1=>if b then 0 else place.toList.getD i 0+1
def jg(h:Heap) (it a:Addr) (sl i n ep:Nat):Prop:=∃o,h.get? it=some o∧o.cls=.type "set_iterator"∧o.data=.fields #[.int sl 0,.int i 0,.ref a,.int n 0,.int ep 0]
theorem jg.typeIs{s:Shared}{it a:Addr}{sl i n ep:Nat}(h:jg s.heap it a sl i n ep):s.TypeIs (.ref it) "set_iterator":=let⟨o,ho,hc,_⟩:=h;⟨o,ho,hc⟩
theorem jg.at{h h':Heap}{it a:Addr}{sl i n ep:Nat}(x:jg h it a sl i n ep) (k:∀o,h.get? it=some o→h'.get? it=some o):jg h' it a sl i n ep:=let⟨o,ho,r⟩:=x;⟨o,k o ho,r⟩
def gi(w:World) (h:Heap) (a:Addr) (es:Array (Int×Value)) (ep:Nat) (t:SetTable):Prop:=∃o,h.get? a=some o∧o.ExactSet∧o.data=.set es ep t∧lM t es.size∧t.led = !fq w
theorem gi.at{w:World}{h h':Heap}{a:Addr}{es:Array (Int×Value)}{ep:Nat}{t:SetTable}(x:gi w h a es ep t) (k:∀o,h.get? a=some o→h'.get? a=some o):gi w h' a es ep t:=let⟨o,ho,r⟩:=x;⟨o,k o ho,r⟩
section
variable {prog:Program}{w:World}{A:Around}{E:Value→Shared→Prop}{s:Shared}
theorem Fv{a:Addr}{es:Array (Int×Value)}{ep i:Nat}{t:SetTable}{Q:Option (Value×Nat)→Shared→Prop}(hS:gi w s.heap a es ep t) (hi:i≤es.size)
  (h:Q ((gS w a ep es)[i]?.map fun e=>(e.2,gj (fq w) t.place (i+1))) s):wpAny (model prog w) A (setNext a (gj (fq w) t.place i) i ep) Q E s:=by
 obtain⟨o,ho,hex,hd,hI,hl⟩:=hS
 unfold setNext
 refine afq (agB ho hd hI.fits ?_)
 dsimp only
 refine afq ?_
 unfold setsByText
 refine afq (ahu (afr ?_))
 show wpAny _ _ (if fq w=true then _ else _) _ _ _
 unfold gS at h
 cases hb:fq w with
 |true =>
  rw[hb]at h
  simp only[if_true,bne_self_eq_false,af0,if_false]at h ⊢
  refine afq ?_
  unfold setWalk
  refine afq (agB ho hd hI.fits ?_)
  dsimp only
  refine afq ?_
  unfold setsByText
  refine afq (ahu (afr ?_))
  show wpAny _ _ (if fq w=true then _ else _) _ _ _
  rw[hb]
  simp only[if_true]
  refine afq (ahu (afr (afr ?_)))
  have e:gj true t.place (i+1)=gj true t.place i:=by cases i<;>rfl
  rw[e]at h
  exact h
 |false =>
  rw[hb]at h hl
  simp only[af0,if_false]at h ⊢
  show wpAny _ _ (if(!t.plain&&decide (es.size>1))=true then _ else _) _ _ _
  rw[hI.plain]
  simp only[ahw,aic,af0,if_false]
  refine afq (ahl (a:=()) ?_ ?_)
  ·show(if(!t.led && !es.isEmpty)=true then _ else _)=_
   rw[hl];rfl
  have YV:SetTable.below t.place (gj false t.place i)=i:=by
   cases i with
   |zero=>exact ab8 hI.up
   |succ i=>exact ab9 hI.up (by rw[afM,hI.size];omega)
  rw[YV]
  refine afr ?_
  rcases ahr i es.size with hlt|hge
  ·have hp:i<t.place.size:=by rw[hI.size];exact hlt
   rw[ahd hlt]at h ⊢
   rw[ahd hp]
   have e:gj false t.place (i+1)=t.place[i]+1:=by
    simp[gj,afu,afz (show i<t.place.toList.length by simpa using hp)]
   rw[e]at h
   exact h
  ·rw[ajG hge]at h ⊢
   exact h
end
end L2
namespace L2
open PySem
section
variable {prog:Program}{w:World}{A:Around}{E:Value→Shared→Prop}{s:Shared}
theorem XR{it a:Addr}{es:Array (Int×Value)}{ep i:Nat}{t:SetTable}{v:Int×Value}{Q:Option Value→Shared→Prop}(hit:jg s.heap it a (gj (fq w) t.place i) i es.size ep) (hS:gi w s.heap a es ep t) (hi:i<es.size)
  (hv:(gS w a ep es)[i]? = some v) (hQ:∀h',jg h' it a (gj (fq w) t.place (i+1)) (i+1) es.size ep→Heap.SameBut it s.heap h'→Q (some v.2) {s with heap:=h'}) :
  wpAny (model prog w) A (pyNext (.ref it)) Q E s:=by
 obtain⟨o,ho,hc,hd⟩:=id hit
 obtain⟨oS,hoS,II,hdS,hI,hl⟩:=id hS
 unfold pyNext
 refine afq (ahS (ag0 (name:=Str.ofString "__next__") hit.typeIs nT (agy nT hit.typeIs E5 ?_ (E6 _))))
 unfold Builtin.«set_iterator.__next__»
 refine afq (afr ?_)
 refine afq (wpAny_fieldsOf ho hd ?_)
 dsimp only
 refine afq (ai7 hoS hdS hI.fits ?_)
 rw[if_neg (by simp)]
 refine afq (Fv (ep:=ep) (i:=i) hS (agL hi) ?_)
 rw[hv]
 dsimp only[Option.map]
 refine afq (ahk ho hd (by simp) ?_)
 have g1:=ahi (Obj.mapFields (·.setIfInBounds 0 (rawInt ((gj (fq w) t.place (i+1):Nat):Int)))) ho (aiz (ag1 hd _))
 have d1:=ag1 hd (·.setIfInBounds 0 (rawInt ((gj (fq w) t.place (i+1):Nat):Int)))
 refine afq (ahk g1 d1 (by simp) ?_)
 have g2:=ahi (Obj.mapFields (·.setIfInBounds 1 (rawInt ((i:Int)+1)))) g1 (aiz (ag1 d1 _))
 have d2:=ag1 d1 (·.setIfInBounds 1 (rawInt ((i:Int)+1)))
 refine afr ⟨_,rfl,afr (hQ _ ⟨_,g2,?_,?_⟩ ((agz ..).trans (agz ..)))⟩
 ·exact(aiA ..).trans ((aiA ..).trans hc)
 ·rw[d2];simp[rawInt]
theorem XS{it a:Addr}{es:Array (Int×Value)}{ep:Nat}{t:SetTable}{Q:Option Value→Shared→Prop}(hh:A.handled=none) (hit:jg s.heap it a (gj (fq w) t.place es.size) es.size es.size ep) (hS:gi w s.heap a es ep t)
  (hQ:∀h',Heap.ExtBut it s.heap h'→Q none {s with heap:=h'}):wpAny (model prog w) A (pyNext (.ref it)) Q E s:=by
 obtain⟨o,ho,hc,hd⟩:=id hit
 obtain⟨oS,hoS,II,hdS,hI,hl⟩:=id hS
 unfold pyNext
 refine afq (ahS (ag0 (name:=Str.ofString "__next__") hit.typeIs nT (agy nT hit.typeIs E5 ?_ (E6 _))))
 unfold Builtin.«set_iterator.__next__»
 refine afq (afr ?_)
 refine afq (wpAny_fieldsOf ho hd ?_)
 dsimp only
 refine afq (ai7 hoS hdS hI.fits ?_)
 rw[if_neg (by simp)]
 refine afq (Fv (ep:=ep) (i:=es.size) hS (afs _) ?_)
 have hv:(gS w a ep es)[es.size]? = none:=by
  have:=(uY w a ep es).length_eq
  rw[afM,afM]at this
  exact ajG (by omega)
 rw[hv]
 dsimp only[Option.map]
 refine afq (ahk ho hd (by simp) ?_)
 show wpAny _ _ (newExc (.type "StopIteration") [] >>= _) _ _ _
 refine afq ?_
 simp only[newExc,newTuple]
 refine afq (agZ ?_ (by size_fits))
 refine afq (m:=firstArgMember _ _) (ahl (a:=Value.none) (by first|rfl|(simp only[firstArgMember];rfl)) (agZ ?_ (by size_fits)))
 simp only[raiseNew]
 refine afq (wpAny_handled ?_)
 rw[show A.in1.handled=none from hh]
 refine afq (afr (wpAny_throw ?_))
 refine afq (aiC (b:=true) (T:="StopIteration") ⟨_,afI _ rfl,rfl⟩ isSubtype_stop ?_)
 exact afr (hQ _ (((agz ..).extBut.push _).push _))
theorem XO{it a:Addr}{sl i n ep:Nat}{Q:Value→Shared→Prop}(hit:jg s.heap it a sl i n ep) (h:Q (.ref it) s):wpAny (model prog w) A (pyIter (.ref it)) Q E s:=by
 refine wpAny_pyIter_slot hit.typeIs E3 (agy E3 hit.typeIs Nn (show wpAny _ _ (ret (.ref it)) _ _ s from ?_) (Np _))
 exact afr ⟨_,rfl,"set_iterator",_,hit.typeIs,nT.lookup,h⟩
theorem Ow(hh:A.handled=none) (I a:Addr) (hne:a≠I) (es:Array (Int×Value)) (ep:Nat) (t:SetTable) :
  Walks prog w A I [I,a] [I] es.size (fun i v=>(gS w a ep es)[i]?.map (·.2)=some v) (fun i h=>jg h I a (gj (fq w) t.place i) i es.size ep∧gi w h a es ep t) where
 sub:=fun b hb=>by simp at hb;simp[hb]
 frame:=fun _ _ _ st hk=>⟨st.1.at fun o e=>hk I (by simp) o e,st.2.at fun o e=>hk a (by simp) o e⟩
 item:=fun i s Q E hi st hQ=>by
  have hl:=(uY w a ep es).length_eq
  rw[afM,afM]at hl
  have hv:(gS w a ep es)[i]? = some (gS w a ep es)[i]:=ahd (by omega)
  refine XR st.1 st.2 hi hv fun h' sS hs'=>hQ _ h' s.toks (by rw[hv];rfl) ⟨sS,st.2.at fun o e=>?_⟩ fun b o hb e=>hs'.extBut b o (fun h=>hb (by simp[h])) e
  exact hs'.extBut a o hne e
 done:=fun s Q E st hQ=>XS hh st.1 st.2 fun h' he'=>hQ h' s.toks fun b o hb e=>he' b o (fun h=>hb (by simp[h])) e
 self:=fun _ _ _ _ st hQ=>XO st.1 hQ
theorem gi.typeIs{a:Addr}{es:Array (Int×Value)}{ep:Nat}{t:SetTable}(h:gi w s.heap a es ep t):s.TypeIs (.ref a) "set":=let⟨o,ho,hx,_⟩:=h;⟨o,ho,hx.1⟩
theorem OC{a:Addr}{es:Array (Int×Value)}{ep:Nat}{t:SetTable}{Q:Value→Shared→Prop}(hS:gi w s.heap a es ep t)
  (hQ:Q (.ref s.heap.objs.size) {s with heap:=s.heap.push {cls:=.type "set_iterator",data:=.fields #[.int 0 0,.int 0 0,.ref a,.int es.size 0,.int ep 0]} }):wpAny (model prog w) A (pyIter (.ref a)) Q E s:=by
 obtain⟨oS,hoS,II,hdS,hI,hl⟩:=id hS
 refine wpAny_pyIter_slot hS.typeIs ajH (agy ajH hS.typeIs Nm ?_ (PySem.F.args_set_iter_1 _))
 unfold Builtin.«frozenset.__iter__» Builtin.Frozenset.slot0
 refine afq (afq (afr (afr ?_)))
 unfold Builtin.Frozenset.sizeOf
 refine afq (afq (ai7 hoS hdS hI.fits (afr ?_)))
 refine afq ?_
 unfold setDrawn
 refine afq (agB hoS hdS hI.fits ?_)
 dsimp only
 refine afq ?_
 unfold setsByText
 refine afq (ahu (afr (afr ?_)))
 have e:(!fq w&&(!t.plain&&decide (es.size>1)))=false:=by rw[hI.plain];simp
 show wpAny _ _ (if(!fq w&&(!t.plain&&decide (es.size>1)))=true then _ else _) _ _ _
 rw[e]
 simp only[af0,if_false]
 refine afq (afr ?_)
 refine afq (wpAny_setEpoch_of hoS hdS hI.fits ?_)
 refine afq ?_
 refine agZ (afr ⟨_,rfl,"set_iterator",_,⟨_,afI _ rfl,rfl⟩,nT.lookup,?_⟩)
 exact hQ
end
end L2
namespace L2
open PySem PySem.Spec PyProof.Rows PySem.W
def k6(x:Nat):List Nat→List Nat
 |[]=>[x]
 |y::l=>if x<y then x::y::l else if x=y then y::l else y::k6 x l
def b8:List Nat→List Nat
 |[]=>[]
 |x::l=>k6 x (b8 l)
theorem zK{x y:Nat}:∀{l:List Nat},y∈k6 x l↔y=x∨y∈l
 |[]=>by simp[k6]
 |z::l=>by
  unfold k6
  split
  ·simp
  ·split
   ·rename_i h;subst h;simp
   ·simp only[afv,zK (l:=l)]
    constructor
    ·rintro (h|h|h)<;>simp[h]
    ·rintro (h|h|h)<;>simp[h]
theorem EF{x:Nat}:∀{l:List Nat},Up l→Up (k6 x l)
 |[],_=>by simp[k6]
 |z::l,h=>by
  obtain⟨h1,h2⟩:=ag7.mp h
  unfold k6
  split
  ·rename_i hx
   exact ag7.mpr ⟨fun b hb=>by
    rcases afv.mp hb with rfl|hb
    ·exact hx
    ·exact aiJ hx (h1 b hb),h⟩
  ·split
   ·exact h
   ·refine ag7.mpr ⟨fun b hb=>?_,EF h2⟩
    rcases zK.mp hb with rfl|hb
    ·omega
    ·exact h1 b hb
theorem nO:∀l:List Nat,Up (b8 l)
 |[]=>.nil
 |x::l=>EF (nO l)
theorem kP{y:Nat}:∀{l:List Nat},y∈b8 l↔y∈l
 |[]=>by simp[b8]
 |x::l=>by simp[b8,zK,kP (l:=l)]
theorem up_eq:∀{l m:List Nat},Up l→Up m→(∀x,x∈l↔x∈m)→l=m
 |[],[],_,_,_=>rfl
 |[],y::m,_,_,h=>absurd ((h y).mpr (.head _)) (by simp)
 |x::l,[],_,_,h=>absurd ((h x).mp (.head _)) (by simp)
 |x::l,y::m,h1,h2,h=>by
  obtain⟨a1,a2⟩:=ag7.mp h1
  obtain⟨b1,b2⟩:=ag7.mp h2
  have e:x=y:=by
   rcases afv.mp ((h x).mp (.head _))with e|hx
   ·exact e
   ·rcases afv.mp ((h y).mpr (.head _))with e|hy
    ·exact e.symm
    ·have:=a1 y hy;have:=b1 x hx;omega
  subst e
  rw[up_eq a2 b2 fun z=>?_]
  constructor
  ·intro hz
   rcases afv.mp ((h z).mp (.tail _ hz))with e|q
   ·subst e;exact absurd (a1 z hz) (agf _)
   ·exact q
  ·intro hz
   rcases afv.mp ((h z).mpr (.tail _ hz))with e|q
   ·subst e;exact absurd (b1 z hz) (agf _)
   ·exact q
theorem Wk{ns:List Nat}{x y:Nat}:y∈e8 ns x↔y∈ns∨y=x:=by
 unfold e8
 split
 ·rename_i h
  exact⟨.inl,fun q=>q.elim id fun e=>e▸h⟩
 ·simp
theorem Vk{ns:List Nat}{x:Nat}(h:ns.Nodup):(e8 ns x).Nodup:=by
 unfold e8
 split
 ·exact h
 ·rename_i hx
  refine ag5.mpr ⟨h,by simp,fun a ha b hb=>?_⟩
  rw[af1]at hb
  subst hb
  exact fun e=>hx (e▸ha)
theorem zL:∀{xs ns:List Nat}{y:Nat},y∈xs.foldl e8 ns↔y∈ns∨y∈xs
 |[],ns,y=>by simp
 |x::xs,ns,y=>by
  rw[agH,zL,Wk,afv,or_assoc]
theorem zB:∀{xs ns:List Nat},ns.Nodup→(xs.foldl e8 ns).Nodup
 |[],_,h=>h
 |x::xs,_,h=>zB (xs:=xs) (Vk h)
theorem NC{xs:List Nat}{zs:List Int}(h1:zs.Perm ((cW xs).map fun n:Nat=>(n:Int))) (h2:zs.Pairwise (·≤·)):zs=(b8 xs).map fun n:Nat=>(n:Int):=by
 have hz:∀z∈zs,∃n:Nat,z=n:=fun z hz=>by
  obtain⟨n,_,e⟩:=afx.mp (h1.mem_iff.mp hz)
  exact⟨n,e.symm⟩
 have e:zs=(zs.map Int.toNat).map fun n:Nat=>(n:Int):=by
  rw[afY]
  conv=>lhs;rw[←ahx zs]
  refine agR fun z hq=>?_
  obtain⟨n,rfl⟩:=hz z hq
  simp
 have hp:(zs.map Int.toNat).Perm (cW xs):=by
  have:=h1.map Int.toNat
  rw[afY]at this
  refine this.trans (ajI ?_)
  conv=>rhs;rw[←ahx (cW xs)]
  exact agR fun n _=>by simp
 have hnd:(zs.map Int.toNat).Nodup:=hp.nodup_iff.mpr (zB .nil)
 have hup:Up (zs.map Int.toNat):=by
  have hle:(zs.map Int.toNat).Pairwise (·≤·):=by
   rw[ag9]
   exact h2.imp fun{a b} h=>by omega
  refine(hle.and hnd).imp fun{a b} h=>?_
  have h2:a≠b:=h.2
  omega
 rw[e,up_eq hup (nO xs) fun x=>by
  rw[hp.mem_iff,kP]
  unfold cW
  rw[zL]
  simp]
theorem vn:∀{l:List Nat},Up l→l.Nodup:=fun{l} h=>h.imp fun{a b} h=>afB h
theorem uF(xs:List Nat):(b8 xs).length=(cW xs).length:=by
 have hp:(b8 xs).Perm (cW xs):=by
  refine(ajJ (vn (nO xs)) (zB .nil)).mpr fun x=>?_
  rw[kP,zL]
  simp
 exact hp.length_eq
theorem Ic:∀{l:List (Int×Value)},(∀e∈l,∃(n:Nat) (tk:Tok),e=((n:Int),.int n tk)∧n<128)→IntsAre (l.map (·.2)) (l.map (·.1))
 |[],_=>.nil
 |e::l,h=>by
  obtain⟨n,tk,rfl,_⟩:=h e (.head _)
  exact .cons _ _ (Ic fun e he=>h e (.tail _ he))
section
variable {prog:Program}{w:World}{A:Around}{E:Value→Shared→Prop}{s:Shared}
theorem YH{r:Addr}{Q:Bool→Shared→Prop}(hT:s.TypeIs (.ref r) "set") (h:Q false s):wpAny (model prog w) A (Builtin.List.listLengthHint (.ref r)) Q E s:=by
 unfold Builtin.List.listLengthHint
 refine afq (wpAny_specialOf hT PySem.F.slot_set_len.lookup ?_)
 generalize hid:("set.__len__":String)=Yi
 wp_delta
 rw[show splitId Yi=some ("set","__len__")from by subst hid;decide +kernel]
 subst hid
 refine afq (aiC (T:="set") (b:=true) hT sub_set_self ?_)
 refine wpAny_ite_split (fun q=>absurd q (by decide)) fun _=>wpAny_ite_split (fun _=>?_) fun q=>absurd (by decide +kernel) q
 exact afq (wpAny_typeOf hT (afr h))
theorem gi.lt{h:Heap}{a:Addr}{es:Array (Int×Value)}{ep:Nat}{t:SetTable}(x:gi w h a es ep t):a<h.objs.size:=let⟨_,ho,_⟩:=x;afA ho
theorem Nv{a:Addr}{es:Array (Int×Value)}{ep:Nat}{t:SetTable}:KdlSrc prog w "set" a a es.size (fun i v=>(gS w a ep es)[i]?.map (·.2)=some v) (fun h=>gi w h a es ep t) where
 type:=fun _ h=>h.typeIs
 there:=fun _ h=>⟨h.lt,h.lt⟩
 keep:=fun _ _ h k=>h.at fun o e=>k a (.inl rfl) o e
 notList:=by decide
 notTuple:=by decide
 hint:=fun _ _ _ _ h q=>YH h.typeIs q
 iter:=fun _ s hh h=>⟨_,_,(fun _ _ q=>OC h q),Ow hh _ a (afB h.lt) es ep t,⟨⟨_,afI _ rfl,rfl,rfl⟩,h.at fun o e=>afw _ e⟩⟩
theorem NB{a:Addr}{xs:List Nat}{Q:Value→Shared→Prop}(hh:A.handled=none) (hS:fS w s.heap a (cW xs)) (hn:(cW xs).length<64)
  (h:∀(h1 h':Heap) (tk c:Nat) (out:Array Value),(∀b o,s.heap.get? b=some o→h1.get? b=some o)→(∀b o,h1.get? b=some o→h'.get? b=some o)→h'.get? h1.objs.size=some (seqObj "list" out c) →
   IntsAre out.toList ((b8 xs).map fun n:Nat=>(n:Int))→Q (.ref h1.objs.size) {s with heap:=h',toks:=tk}) :
  wpAny (model prog w) A (call (.builtin "sorted") [.ref a]) Q E s:=by
 obtain⟨o,es,ep,t,ho,hex,hd,hI,hl,hs⟩:=hS
 have hlen:es.size<64:=by
  have h1:=hs.len
  rw[afM]at h1
  omega
 have hok:gi w s.heap a es ep t:=⟨o,ho,hex,hd,hI,hl⟩
 refine Calls.call_function_entry kind_sorted plain_sorted entry_sorted (args_sorted1 _) ?_
 unfold Builtin.«sorted»
 refine afq (m:=checkCount "sorted" 1 1 _) (afr ?_)
 refine afq (kdu_collect (A:=A.in1) (Nv (prog:=prog)) hh hok (by rw[agT];omega) fun h1 tk acc hk hacc=>?_)
 have ZQ:acc.toList=(gS w a ep es).toList.map (·.2):=by
  have hlo:=(uY w a ep es).length_eq
  rw[afM,afM]at hlo
  apply List.ext_getElem?
  intro i
  rcases ahr i acc.size with q|q
  ·have h3:=hacc.2 i acc[i] (ahd q)
   rw[afS,afW,afW,h3,ahd q]
  ·have h4:=hacc.1
   rw[aho (by simpa using q),aho (by simp;omega)]
 have hp:=uY w a ep es
 have Y3:IntsAre acc.toList ((gS w a ep es).toList.map (·.1)):=by
  rw[ZQ]
  exact Ic fun e he=>hs.2 e (hp.mem_iff.mp he)
 have hal:acc.toList.length<64:=by rw[afM,hacc.1];exact hlen
 refine afq (wpAny_newList ?_ (by rw[agT];omega))
 have sP:(h1.push (seqObj "list" acc.toList.toArray 0)).get? h1.objs.size=some (seqObj "list" acc.toList.toArray 0):=afI _ rfl
 refine afq (agl (agy slot_list_sort ⟨_,sP,rfl⟩ entry_list_sort (list_sort_tree (s:={s with heap:=h1.push (seqObj "list" acc.toList.toArray 0),toks:=tk}) sP Y3 hal fun out zs a1 a2 a3=>⟨_,rfl,?_⟩) (args_list_sort _)))
 refine afr ⟨_,rfl,?_⟩
 have hz:=NC (a2.trans ((hp.map _).trans hs.1)) a3
 rw[hz]at a1
 have hne:∀b o,h1.get? b=some o→b≠h1.objs.size:=fun b o e=>afB (afA e)
 have g1:=get?_update_seq sP (fun _=>#[])
 have g2:=get?_update_seq (afw (seqObj "list" #[] 0) (afw (seqObj "tuple" acc.toList.toArray 0) g1)) fun _=>out
 refine h h1 _ tk _ out hk (fun b o e=>?_) g2 a1
 have q:=af8 (hne b o e)
 exact(agV _ _ q).trans (afw _ (afw _ ((agV _ _ q).trans (afw _ e))))
end
end L2
namespace L2
open PySem PySem.Spec PyProof.Rows
abbrev nV(ns:List Nat):List V:=ns.map fun n:Nat=>V.int n
abbrev nD(ns:List Nat):List D:=ns.map fun n:Nat=>D.int n
def kH(w:World) (a:Addr) (ns:List Nat):Heap→Prop:=fun h=>fS w h a (cW ns)
theorem yx:∀{ns:List Nat}{us:List Value},Vals (nV ns) us→IntsAre us (ns.map fun n:Nat=>(n:Int))
 |[],_,.nil=>.nil
 |n::ns,_,.cons ⟨t,e⟩ r=>by subst e;exact .cons _ _ (yx r)
theorem K1:∀{ns:List Nat}{us:List Value},IntsAre us (ns.map fun n:Nat=>(n:Int))→Vals (nV ns) us
 |[],_,.nil=>.nil
 |n::ns,_,.cons _ t r=>.cons ⟨t,rfl⟩ (K1 r)
section
variable {X:Cx}
def PF(X:Cx):List V→Hp→VK→Prop:=fun xs H Q=>∃a ns,xs=[.ref a]∧aZ X.K H a (nV ns)∧(b8 ns).length<64∧(∀x∈ns,x<128)∧∀p,H p=none→Q (.ref p) (upd H p (.ext (kH X.w p ns)))
theorem JF(hc:X.calm=true:=by rfl):dw X (.type "set") (PF X):=by
 intro pins s σ H xs us Q I rv h
 obtain⟨a,ns,rfl,sq,hb,hx,q⟩:=h
 obtain⟨u,rfl,ru⟩:=agb rv
 cases ru
 obtain⟨its,ri,pl,hz⟩:=I.list sq
 refine OA (xs:=ns) (I.ok.hd hc) pl.isList (by simpa using yx ri) hx (by rw[←uF];exact hb) fun h' tk hS kp=>?_
 have hf:H s.heap.objs.size=none:=I.hok.fresh (afs _)
 have jx:=hS
 obtain⟨o,es,ep,t,ho,_⟩:=jx
 refine⟨.ref s.heap.objs.size,upd H s.heap.objs.size (.ext (kH X.w s.heap.objs.size ns)),I.laid (t':=tk) (fun b u e=>kp b u (afA e) e) (afs _) ?_,rfl,q _ hf⟩
 exact⟨hS,⟨o,ho⟩,fun h1 h2 x k=>x.at k⟩
def PC(X:Cx):List V→Hp→VK→Prop:=fun xs H Q=>∃a ns,xs=[.ref a]∧H a=some (.ext (kH X.w a ns))∧(b8 ns).length<64∧∀p,H p=none→Q (.ref p) (upd H p (.lst (nV (b8 ns))))
theorem abl(hc:X.calm=true:=by rfl):dw X (.builtin "sorted") (PC X):=by
 intro pins s σ H xs us Q I rv h
 obtain⟨a,ns,rfl,hH,hn,q⟩:=h
 obtain⟨u,rfl,ru⟩:=agb rv
 cases ru
 obtain⟨hS,_,_⟩:=I.hok a _ hH
 refine NB (I.ok.hd hc) hS (by rw[←uF];exact hn) fun h1 h' tk c out k1 k2 hp hI=>?_
 have I1:Inv X pins σ H {s with heap:=h1,toks:=tk}:=I.kept k1
 have hf:H h1.objs.size=none:=I1.hok.fresh (afs _)
 refine⟨.ref h1.objs.size,upd H h1.objs.size (.lst (nV (b8 ns))),I1.laid (t':=tk) k2 (afs _) ⟨?_,out.toList,c,K1 hI,by simpa using hp⟩,rfl,q _ hf⟩
 simp only[afy]
 rw[agT];omega
def iA(l:List D):Option (List Nat):=match ju l with
 |some ns=>if ns.all (fun n=>decide (0≤n∧n<128))=true∧(b8 (ns.map Int.toNat)).length<64 then some (ns.map Int.toNat)else none
 |none=>none
theorem zF{l:List D}{ns:List Nat}(h:iA l=some ns):l=nD ns∧(b8 ns).length<64∧∀x∈ns,x<128:=by
 unfold iA at h
 split at h
 ·rename_i zs hz
  split at h
  ·rename_i hc
   cases h
   refine⟨?_,hc.2,fun x hx=>?_⟩
   ·rw[Bq hz]
    unfold nD
    rw[afY]
    refine agR fun z hq=>?_
    have:=of_decide_eq_true (afG.mp hc.1 z hq)
    show D.int z=D.int (z.toNat:Int)
    congr 1;omega
   ·obtain⟨z,hq,rfl⟩:=afx.mp hx
    have:=of_decide_eq_true (afG.mp hc.1 z hq)
    omega
  ·cases h
 ·cases h
theorem Hf{ns:List Nat}(h:(b8 ns).length<64) (hx:∀x∈ns,x<128):iA (nD ns)=some ns:=by
 unfold iA
 have e:nD ns=(ns.map fun n:Nat=>(n:Int)).map D.int:=by simp[nD]
 rw[e,Bp]
 dsimp only
 have e:(ns.map fun n:Nat=>(n:Int)).map Int.toNat=ns:=by
  rw[afY]
  have:(Int.toNat ∘ fun n:Nat=>(n:Int))=id:=by funext n;simp
  rw[this,ahx]
 rw[e,if_pos ⟨afG.mpr fun z hz=>by
  obtain⟨n,hn,rfl⟩:=afx.mp hz
  have:=hx n hn
  exact decide_eq_true (by omega),h⟩]
theorem yZ{K:PySem.W.Frag}{ρ:List Addr}{H:Hp}{ns:List Nat}{xs:List V}(h:aN K ρ H (nD ns) xs):xs=nV ns:=by
 have e:nD ns=(ns.map fun n:Nat=>(n:Int)).map D.int:=by simp[nD]
 rw[e]at h
 rw[aN.Bo h]
 simp[nV]
theorem Py{K:PySem.W.Frag}{ρ:List Addr}{H:Hp}(ns:List Nat):aN K ρ H (nD ns) (nV ns):=by
 have e:nD ns=(ns.map fun n:Nat=>(n:Int)).map D.int:=by simp[nD]
 have e':nV ns=(ns.map fun n:Nat=>(n:Int)).map V.int:=by simp[nV]
 rw[e,e']
 exact aN.ints
theorem mC(ns:List Nat):bD (nD ns)=true:=by
 have e:nD ns=(ns.map fun n:Nat=>(n:Int)).map D.int:=by simp[nD]
 rw[e];exact zx
def m7(a:aj):af:=fun e c=>(a e c).bind fun xs c=>match xs with
 |[x]=>match dX c x with
  |some l=>match iA l with
   |some ns=>.ok (.lst (nD (b8 ns))) c
   |none=>.bad
  |none=>.bad
 |_=>.bad
theorem RL{e:Expr}{da:aj}{p1 p2 q1 q2:Pos}{f:List D→aa→R D}(ha:eF X [e] da) (hm:X.mg "sorted"=none) (hm2:X.mg "set"=none) (hg:Gl X "sorted") (iE:Gl X "set") (hc:X.calm=true)
  (he:starEach [e] X.env=(false,eval e X.env)::starEach [] X.env)
  (hf:∀xs c ρ H (Q:VK) vs,Wd X.K ρ H c→aN X.K ρ H xs vs→post X.K (Rel X.K) (f xs c) ρ H Q→∃a ns,vs=[.ref a]∧aZ X.K H a (nV ns)∧(b8 ns).length<64∧(∀x∈ns,x<128) ∧
   ∀p,H p=none→∀q,upd H p (.ext (kH X.w p ns)) q=none→Q (.ref q) (upd (upd H p (.ext (kH X.w p ns))) q (.lst (nV (b8 ns))))) :
  aT X (.Call (.Name "sorted" p1) [.Call (.Name "set" p2) [e] [] q2] [] q1) (aF f da):=by
 have Bw:PE X (.Call (.Name "set" p2) [e] [] q2) _:=kM (JF hc) iE hm2 (by decide +kernel) ha (by decide) (by decide) he (by exact fc rfl)
 refine(uS (abl hc) hg hm (by decide +kernel) (iT Bw iS (cL rfl)) (by decide) (by decide) (by exact cL rfl) (by exact fc rfl)).imp fun σ H Q h=>?_
 obtain⟨ρ,e,c,W,V,p⟩:=h
 refine⟨ρ,e,c,W,V,post.bind p fun xs c1 aO H1 vs ex W1 X1 r1 p1=>?_⟩
 obtain⟨a,ns,rfl,sq,h64,hx,q⟩:=hf xs c1 aO H1 Q vs W1 r1 p1
 exact⟨a,ns,rfl,sq,h64,hx,fun p hp=>⟨p,ns,rfl,fK,h64,fun q' hq=>q p hp q' hq⟩⟩
def Fj:List D→aa→R D:=fun xs c=>match xs with
 |[x]=>match dX c x with
  |some l=>match iA l with
   |some ns=>.ok (.lst (nD (b8 ns))) c
   |none=>.bad
  |none=>.bad
 |_=>.bad
theorem R3{e:Expr}{da:aj}{p1 p2 q1 q2:Pos}(ha:eF X [e] da) (hm:X.mg "sorted"=none) (hm2:X.mg "set"=none) (hg:Gl X "sorted":=by rfl) (iE:Gl X "set":=by rfl) (hc:X.calm=true:=by rfl)
  (he:starEach [e] X.env=(false,eval e X.env)::starEach [] X.env:=by exact cL rfl):aT X (.Call (.Name "sorted" p1) [.Call (.Name "set" p2) [e] [] q2] [] q1) (m7 da) :=
 RL (f:=Fj) ha hm hm2 hg iE hc he fun xs c ρ H Q vs W r p=>by
  unfold Fj at p
  split at p
  ·rename_i x
   obtain⟨v,rr,rfl,hx,hr⟩:=r
   cases hr
   split at p
   ·rename_i l hl
    split at p
    ·rename_i ns hn
     obtain⟨rfl,h64,hx'⟩:=zF hn
     obtain⟨a,ys,rfl,ha',rl⟩:=kU W hx hl
     cases yZ rl
     refine⟨a,ns,rfl,aZ.of ha',h64,hx',fun q hq q' hq'=>?_⟩
     exact pV (W.fresh hq) (Py _) (post.ext p (Ext.fresh W hq)) q' hq'
    ·exact p.elim
   ·exact p.elim
  ·exact p.elim
end
section
variable (a:aj) (e:Ev) (c:aa)
@[simp] theorem adI:m7 a e c=(a e c).bind fun xs c=>match xs with
 |[x]=>match dX c x with
  |some l=>match iA l with
   |some ns=>.ok (.lst (nD (b8 ns))) c
   |none=>.bad
  |none=>.bad
 |_=>.bad:=rfl
end
end L2
namespace L2
open PySem PySem.Spec PyProof.Rows
section
variable {prog:Program}{w:World}{A:Around}{E:Value→Shared→Prop}{s:Shared}
theorem vo:∀{l m:List Nat},l.Nodup→(∀x∈l,x∈m)→l.length≤m.length
 |[],m,_,_=>ags _
 |x::l,m,h,hs=>by
  obtain⟨h1,h2⟩:=agE.mp h
  have hx:=hs x (.head _)
  have:=vo (m:=m.erase x) h2 fun y hy=>(aiK (fun e:y=x=>h1 (by rw[←e];exact hy))).mpr (hs y (.tail _ hy))
  rw[aiL hx]at this
  have:=ajw hx
  rw[afO];omega
end
end L2
namespace L2
open PySem PySem.Spec PyProof.Rows
theorem sub_tuple_set:isSubtype (.type "tuple") (.type "set")=pure false:=by rw[ah8];kernel_rfl
theorem sub_tuple_frozenset:isSubtype (.type "tuple") (.type "frozenset")=pure false:=by rw[ah8];kernel_rfl
section
variable {prog:Program}{w:World}{A:Around}{s:Shared}{E:Value→Shared→Prop}
set_option maxHeartbeats 3200000 in
theorem Ox{l:Addr}{items:Array Value}{xs:List Nat}{Q:Value→Shared→Prop}(hh:A.handled=none) (hl:s.heap.IsTuple l items) (hi:IntsAre items.toList (xs.map fun n:Nat=>(n:Int))) (hx:∀x∈xs,x<128) (h64:(cW xs).length<64)
  (h:∀(h':Heap) (tk:Nat),fS w h' s.heap.objs.size (cW xs)→(∀b o,b<s.heap.objs.size→s.heap.get? b=some o→h'.get? b=some o)→Q (.ref s.heap.objs.size) {s with heap:=h',toks:=tk}) :
  wpAny (model prog w) A (call (.type "set") [.ref l]) Q E s:=by
 obtain⟨c,tl,ID⟩:=afQ.mro
 have hmade:=afQ.made
 have hsub:=afQ.sub
 refine ahI (ah7 (show wpAny _ _ (callAny (.type "set") _) _ _ _ from ?_))
 refine afr ⟨aiX _ (by decide +kernel),agJ aiY ?_⟩
 rw[aiZ (ai0 "set" [.ref l] []) rfl]
 have h1:=afQ.notType
 have h2:=afQ.canCreate
 have hct:=ai1 (.ref l)
 repeat any_goals (first|assumption|wp_step)
 refine agw (yL (.ref l) (E:=E) (Q₁:=fun obj s₁=>obj=.ref s.heap.objs.size∧s₁={s with heap:=s.heap.push (cK w)}) ⟨rfl,rfl⟩) fun r s₁ hr=>?_
 cases r with
 |error e=>exact hr
 |ok fl =>
  cases fl with
  |ret obj =>
   obtain⟨rfl,rfl⟩:=hr
   have hS:(s.heap.push (cK w)).get? s.heap.objs.size=some (cK w):=afI _ rfl
   have hT:Shared.TypeIs {s with heap:=s.heap.push (cK w)} (.ref s.heap.objs.size) "set":=⟨_,hS,rfl⟩
   have hli:=afQ.init.lookup
   have hbi:=afQ.init.bind (.ref s.heap.objs.size)
   repeat any_goals (first|assumption|wp_step)
   refine agw (ai2 (R:=wants (fun r s₂=>r=.none∧∃h' tk,s₂={s with heap:=h',toks:=tk}∧fS w h' s.heap.objs.size (cW xs) ∧
     (∀b o,b<s.heap.objs.size→s.heap.get? b=some o→h'.get? b=some o)) E) afQ.init.plain ai3 (ai4 hT ?_)) fun r₂ s₂ iD=>?_
   ·obtain⟨ol,gw,hcl,nl,hdl⟩:=hl
    obtain⟨GG,rY,Gx,rT⟩:=ol
    simp only at hcl hdl
    subst hcl;subst hdl
    have lz:(s.heap.push (cK w)).get? l=some {cls:=.type "tuple",dict:=rY,data:=.seq items nl,slots:=rT}:=afw _ gw
    have Iw:=sub_tuple_set
    have Iz:=sub_tuple_frozenset
    have hne:(Value.type "tuple"==Value.type "dict")=false:=by decide
    have hl1:(s.heap.push (cK w)).IsTuple l items:=⟨_,lz,rfl,nl,rfl⟩
    unfold cK at hS hT lz ⊢
    unfold Builtin.«set.__init__» noKeywords Builtin.Frozenset.updateFrom
    generalize sX:pyIter=PI
    wp_walk
    subst sX
    refine ahG hl1 (afq (ai5 ?_))
    have hlS:l<s.heap.objs.size:=afA gw
    have hlen:items.size=xs.length:=by have:=hi.length;simpa using this
    have sQ:l≠(s.heap.push (cK w)).objs.size:=by rw[afV];exact afB (agp hlS)
    have hSf:s.heap.objs.size∉[(s.heap.push (cK w)).objs.size,l]:=by
     rw[afV];simp only[afv,afK,or_false,not_or];exact⟨afB (agx _),agm hlS⟩
    have W:=(Walks.tuple (prog:=prog) (w:=w) (A:=A.in1.in1.in1) (by simp[hh]) (s.heap.push (cK w)).objs.size l sQ items).toS
    rw[hlen]at W
    refine Fw (xs:=xs) W s.heap.objs.size hSf (fun i v hi' hv=>?_) hx h64 xs.length 0 _ (by omega) (ags _) ⟨⟨_,afI _ rfl,rfl,rfl⟩,hl1.at fun o e=>afw _ e⟩ (Jt w (afw _ hS)) fun s' hm hS'=>?_
    ·obtain⟨t,e⟩:=IntsAre.int_at hi i v (by rw[afW];exact hv)
     exact⟨t,by rw[e];simp[afu,afz hi']⟩
    ·obtain⟨h',g',d',tk',os'⟩:=s'
     cases(show g'=s.gens from hm.gens)
     cases(show d'=s.drawn from hm.drawn)
     cases(show os'=s.os from hm.os)
     refine afr (afr ⟨rfl,h',tk',rfl,hS',fun b o hb e=>?_⟩)
     exact hm.heap b o (by rw[afV];simp only[afv,afK,or_false,not_or];exact⟨afB hb,afB (agp hb)⟩) (afw _ (afw _ e))
   ·cases r₂ with
    |error e=>exact iD
    |ok tE =>
     cases tE with
     |ret r =>
      obtain⟨rfl,h',tk,rfl,hS',hk'⟩:=iD
      repeat any_goals (first|assumption|wp_step)
      exact h _ _ hS' hk'
     |_=>exact iD.elim
  |_=>exact hr.elim
end
end L2
namespace L2
open PySem PySem.Spec PyProof.Rows
section
variable {X:Cx}
def PK(X:Cx):List V→Hp→VK→Prop:=fun xs H Q=>∃a ns,xs=[.ref a]∧(aZ X.K H a (nV ns)∨bB X.K H a (nV ns))∧(b8 ns).length<64∧(∀x∈ns,x<128)∧∀p,H p=none→Q (.ref p) (upd H p (.ext (kH X.w p ns)))
theorem abn(hc:X.calm=true:=by rfl):dw X (.type "set") (PK X):=by
 intro pins s σ H xs us Q I rv h
 obtain⟨a,ns,rfl,sq,hb,hx,q⟩:=h
 rcases sq with sq|sq
 ·exact JF hc pins s σ H _ us Q I rv ⟨a,ns,rfl,sq,hb,hx,q⟩
 ·obtain⟨u,rfl,ru⟩:=agb rv
  cases ru
  obtain⟨its,ri,pl,hz⟩:=I.tuple sq
  refine Ox (xs:=ns) (I.ok.hd hc) (show s.heap.IsTuple a its.toArray from pl) (by simpa using yx ri) hx (by rw[←uF];exact hb) fun h' tk hS kp=>?_
  have hf:H s.heap.objs.size=none:=I.hok.fresh (afs _)
  have jx:=hS
  obtain⟨o,es,ep,t,ho,_⟩:=jx
  refine⟨.ref s.heap.objs.size,upd H s.heap.objs.size (.ext (kH X.w s.heap.objs.size ns)),I.laid (t':=tk) (fun b u e=>kp b u (afA e) e) (afs _) ?_,rfl,q _ hf⟩
  exact⟨hS,⟨o,ho⟩,fun h1 h2 x k=>x.at k⟩
def su(c:aa):D→Option (List Nat)
 |.tup l=>iA l
 |x=>match dX c x with
  |some l=>iA l
  |none=>none
theorem Vl{K:PySem.W.Frag}{ρ:List Addr}{H:Hp}{c:aa}{x:D}{v:V}{ns:List Nat}(W:Wd K ρ H c) (r:Rel K ρ H x v) (h:su c x=some ns):∃a,v=.ref a∧(aZ K H a (nV ns)∨bB K H a (nV ns))∧(b8 ns).length<64∧∀x∈ns,x<128:=by
 unfold su at h
 split at h
 ·obtain⟨rfl,h64,hx⟩:=zF h
  obtain⟨a,xs,rfl,ha,rl⟩:=r
  cases yZ rl
  exact⟨a,rfl,.inr (bB.of ha),h64,hx⟩
 ·split at h
  ·rename_i l hl
   obtain⟨rfl,h64,hx⟩:=zF h
   obtain⟨a,ys,rfl,ha,rl⟩:=kU W r hl
   cases yZ rl
   exact⟨a,rfl,.inl (aZ.of ha),h64,hx⟩
  ·cases h
end
end L2
namespace L2
open PySem PySem.Spec PyProof.Rows
section
variable {X:Cx}
theorem Vc{l:List D}(h:bD l=true) (n:Nat):bD (l.take n)=true:=iy.mpr fun d hd=>iy.mp h d (agO hd)
theorem Vd{l:List D}(h:bD l=true) (n:Nat):bD (l.drop n)=true:=iy.mpr fun d hd=>iy.mp h d (ah0 hd)
end
end L2
namespace L2
open PySem PySem.Spec PyProof.Rows PySem.SeqAt
section
variable {X:Cx}
def CH(k:Int):Value→Bool
 |.int i _=>i==k
 |_=>false
theorem EC:∀{ns:List Int}{us:List Value},Vals (ns.map V.int) us→us.length=ns.length∧∀(i:Nat) (u:Value),us[i]? = some u→∃t,u=.int (ns.getD i 0) t
 |[],_,.nil=>⟨rfl,fun i u h=>by simp at h⟩
 |n::ns,_,.cons ⟨t,e⟩ r=>by
  subst e
  obtain⟨h1,h2⟩:=EC r
  refine⟨by simp[h1],fun i u h=>?_⟩
  cases i with
  |zero=>simp at h;exact⟨t,by rw[←h];rfl⟩
  |succ i=>simpa using h2 i u (by simpa using h)
end
end L2
namespace L2
open PySem PySem.Spec PyProof.Rows
section
variable {X:Cx}{e sx:Expr}{te:TE}{lo hi:Option Expr}{tl th ts:TO}{pos p2:Pos}
def fB(i j:Int):List Int:=(List.range (j-i).toNat).map fun k:Nat=>i+(k:Int)
theorem Mq{f:Nat→Int}{acc:Array Value}{n:Nat}(h:ItemsOf (fun k v=>∃t,v=.int (f k) t) acc n):Vals (((List.range n).map f).map V.int) acc.toList:=by
 have hl:acc.toList.length=n:=by rw[afM];exact h.1
 have key:∀(us:List Value) (o:Nat),(∀(k:Nat) (u:Value),us[k]? = some u→∃t,u=.int (f (o+k)) t)→Vals (((List.range' o us.length).map f).map V.int) us:=by
  intro us
  induction us with
  |nil=>intro o _;exact .nil
  |cons u us ih =>
   intro o hu
   rw[afO,ajK]
   obtain⟨t,e⟩:=hu 0 u rfl
   refine .cons ⟨t,e⟩ (ih (o+1) fun k v hv=>?_)
   have:=hu (k+1) v (by simpa using hv)
   rwa[show o+(k+1)=o+1+k by omega]at this
 have:=key acc.toList 0 fun k u hu=>by
  have:=h.2 k u (by rw[←afW];exact hu)
  rwa[agA]
 rwa[hl,←List.range_eq_range']at this
def PX(X:Cx):List V→Hp→VK→Prop:=fun xs H Q=>∃p i j,xs=[.ref p]∧H p=some (.pL i j)∧(0≤i∧i<j∧j<1000)∧∀l,H l=none→Q (.ref l) (upd H l (.lst ((fB i j).map V.int)))
theorem JH(hc:X.calm=true:=by rfl):dw X (.type "list") (PX X):=by
 intro pins s σ H xs us Q I rv h
 obtain⟨p,i,j,rfl,hH,hb,q⟩:=h
 obtain⟨u,rfl,ru⟩:=agb rv
 cases ru
 obtain⟨t,u,v,hr⟩:=I.hok p _ hH
 have hn:Builtin.Range.rangeSize i j 1=((j-i).toNat:Nat):=by
  unfold Builtin.Range.rangeSize
  rw[if_pos (by decide),if_pos hb.2.1,Int.ediv_one]
  omega
 have hsm:Builtin.Range.small i j 1=true:=small_one (by omega) (by omega) (by omega) (by omega)
 refine call_list_range (I.ok.hd hc) hr hsm hn (by omega) fun h' tk acc c' kp hg hit=>?_
 have sS:ItemsOf (fun k v=>∃t,v=Value.int ((fun k:Nat=>i+(k:Int)) k) t) acc (j-i).toNat:=⟨hit.1,fun k v hv=>by
  have:=hit.2 k v hv
  simpa using this⟩
 refine⟨.ref s.heap.objs.size,upd H s.heap.objs.size (.lst ((fB i j).map V.int)),I.laid (t':=tk) kp (afs _) ⟨?_,acc.toList,c',Mq sS,by rw[Array.toArray_toList];exact hg⟩,rfl,q _ (I.hok.fresh (afs _))⟩
 simp only[fB,afy,af2]
 rw[agT];omega
end
end L2
namespace L2
open PySem PySem.Spec PyProof.Rows PySem.SeqAt
open AutoSeq1 (wpAny_loadPart')
theorem Zu{M:Model}{A:Around}{E:Value→Shared→Prop}{s:Shared}{β:Type}(f:Nat→β→Sem (ForInStep β)) (I:List Nat→β→Shared→Prop) (Q:β→Shared→Prop)
  (turn:∀x rest b s,I (x::rest) b s→wpAny M A (f x b) (fun r s'=>match r with|.yield b'=>I rest b' s'|.done b'=>Q b' s') E s)
  (fin:∀b s,I [] b s→Q b s) (r:Std.Legacy.Range) (b:β) (h:I (List.range' r.start r.size r.step) b s):wpAny M A (forIn r b f) Q E s:=by
 rw[Std.Legacy.Range.forIn_eq_forIn_range']
 exact wpAny_forIn_list f I Q turn fin _ b h
theorem MH(l:Addr) (items:Array Value) (n:Nat) (dd:Option Addr) (sl:Array (Option Value)) (x:Value) (e:Value→Bool) (j:Nat) (hj:j<items.size)
  (hit:e items[j]=true) (hno:∀m (hm:m<items.size),m<j→e items[m]=false) :
  Meets (Builtin.«tuple.index» ⟨[.ref l,x],[]⟩)
   (fun A R s=>s.heap.get? l=some {cls:=.type "tuple",dict:=dd,data:=.seq items n,slots:=sl}∧(∀y,y∈items→EqAt A.in1 s y x (e y))∧R (.ok (.ret (.int j s.toks))) {s with toks:=s.toks+1}) :=
 .of_wp fun prog w A R s h=>by
  obtain⟨hp,g,d,tk,os⟩:=s;obtain⟨hl,he,h⟩:=h
  wp_walk using wpAny_loadPart' hl,Zu _ (fun rest b s'=>b.1=none∧s'=⟨hp,g,d,tk,os⟩∧∃k,k≤j∧rest=List.range' k (items.size-k)) _
  case turn =>
   rintro y rest b s' ⟨hb,rfl,k,hk,hr⟩
   have hk':k<items.size:=by omega
   rw[show items.size-k=(items.size-(k+1))+1 by omega,ajK]at hr
   obtain⟨rfl,rfl⟩:=ai8 hr
   rw[ahd hk']
   refine afq (he _ (Array.getElem_mem hk') prog w _ _ ?_)
   rcases ahr y j with q|q
   ·rw[hno y hk' q]
    exact afr ⟨rfl,rfl,y+1,q,rfl⟩
   ·have e1:y=j:=by omega
    subst e1
    rw[hit]
    wp_walk
    exact⟨_,rfl,h⟩
  case fin =>
   rintro ⟨b1,b2⟩ s' ⟨hb,rfl,k,hk,hr⟩
   have:=congrArg List.length hr
   rw[List.length_range',agd]at this
   omega
  case h =>
   refine⟨rfl,rfl,0,ags _,?_⟩
   simp[Std.Legacy.Range.size]
section
variable {X:Cx}
def P6(K:PySem.W.Frag):V→List V→Hp→VK→Prop:=fun x vs H Q=>∃l,∃ns:List Int,∃k:Int,∃j,x=.ref l∧vs=[.int k]∧bB K H l (ns.map V.int)∧ns.findIdx? (fun i=>i==k)=some j∧Q (.int (j:Nat)) H
theorem We:xO X "tuple.index" (P6 X.K):=by
 intro pins s σ H x vs v us Q I rx rv h
 obtain⟨l,ns,k,j,rfl,rfl,hH,hj,q⟩:=h
 cases rx
 obtain⟨u,rfl,ru⟩:=rv.one
 obtain⟨tk,rfl⟩:=ru
 obtain⟨its,r,pt,z⟩:=I.tuple hH
 obtain⟨⟨cls,dd,data,sl⟩,ho,hc,n,hd⟩:=id pt
 simp only at hc hd
 subst hc hd
 obtain⟨hlen,hat⟩:=EC r
 rw[aiS]at hj
 obtain⟨h1,h2,h3⟩:=hj
 have ek:∀(m:Nat) (hm:m<its.toArray.size) (hn:m<ns.length),CH k its.toArray[m]=(ns[m]==k):=fun m hm hn=>by
  obtain⟨t,et⟩:=hat m its.toArray[m] (by simp)
  rw[et]
  simp[CH,afu,afz hn]
 refine agN F.slot_tuple_index ⟨_,ho,rfl⟩ F.entry_tuple_index (F.args_tuple_index_2 _ _) (MH l its.toArray n dd sl (.int k tk) (CH k) j (by simpa[hlen]using h1) (by rw[ek j _ h1];exact h2)
  (fun m hm hlt=>by rw[ek m hm (by omega)];have:=h3 m hlt;simpa using this)) ⟨ho,fun y hy=>?_,?_⟩
 ·rw[List.mem_toArray]at hy
  obtain⟨i,hi,ei⟩:=agI hy
  obtain⟨t,et⟩:=hat i y (by rw[afz hi,ei])
  rw[et]
  exact EqAt.int_int _ _ _ _
 ·exact⟨.int (j:Nat),H,I.tok _,⟨s.toks,rfl⟩,q⟩
def gx(o a:af):af:=fun e c=>(o e c).bind fun x c=>match x with
 |.tup l=>(a e c).bind fun y c=>match y,ju l with
  |.int k,some ns=>match ns.findIdx? (fun i=>i==k)with
   |some j=>.ok (.int (j:Nat)) c
   |none=>.bad
  |_,_=>.bad
 |_=>.bad
theorem Ga{o e:Expr}{dO da:af}{apos cpos:Pos}(ho:aT X o dO) (ha:aT X e da)
  (hbase:attributeBase o "index" X.env (eval o X.env)=eval o X.env:=by rfl)
  (hfew:((backTo cpos (starEach [e] X.env)).all (fun x=>!x.1)&&(backToKw cpos (keywordEach [] X.env)).all (fun x=>x.1.isSome)
   && decide ([e].length+([]:List Keyword).length+(if([]:List Keyword).isEmpty then 0 else 1)<30))=true:=by exact uD rfl)
  (hline:(apos.endLine==cpos.line)=true:=by rfl) (hs:starEach [e] X.env=(false,eval e X.env)::starEach [] X.env:=by exact cL rfl) (hplain:(backTo cpos (starEach [] X.env)).any (·.1)=false:=by exact fc rfl) :
  aT X (.Call (.Attribute o "index" apos) [e] [] cpos) (gx dO da) :=
 (uT PySem.F.plainAttrs_tuple PySem.F.slot_tuple_index PySem.F.type_tuple_index We ho (iT ha iS hs) hbase hfew hline hs hplain).imp fun σ H Q h=>by
  obtain⟨ρ,e,c,W,V,p⟩:=h
  refine⟨ρ,e,c,W,V,post.bind p fun x c1 aO H1 v _ W1 X1 r1 p1=>?_⟩
  cases x with
  |tup l =>
   obtain⟨a,xs,rfl,hx,rl⟩:=r1
   refine⟨.inr (.inl ⟨rfl,.inl ⟨xs,hx⟩⟩),aO,e,c1,W1,V.mono W X1,post.bind p1 fun y c2 cT H2 u _ W2 X2 r2 p2=>?_⟩
   split at p2
   ·rename_i k ns hb _
    cases r2
    rw[Bq hb]at rl
    cases rl.Bo
    split at p2
    ·rename_i j hj
     exact⟨a,ns,k,j,rfl,rfl,bB.of (rE W1 X2 hx),hj,p2.here W2 rfl⟩
    ·exact p2.elim
   ·exact p2.elim
  |_=>exact p1.elim
def PL:List V→Hp→VK→Prop:=fun xs H Q=>∃j,xs=[.int j]∧∀p,H p=none→Q (.ref p) (upd H p (.pL 0 j))
theorem JG:dw X (.type "range") PL:=by
 intro pins s σ H xs us Q I rv h
 obtain⟨j,rfl,q⟩:=h
 obtain⟨u,rfl,ru⟩:=agb rv
 obtain⟨t,rfl⟩:=ru
 refine call_range_1 ⟨.ref s.heap.objs.size,upd H s.heap.objs.size (.pL 0 j),I.laid (t':=s.toks+1+1) (fun b o e=>afw _ e) (afs _) ?_,rfl,q _ (I.hok.fresh (afs _))⟩
 exact⟨_,_,_,afI _ rfl⟩
def m8(a:aj):af:=fun e c=>(a e c).bind fun xs c=>match xs with
 |[.int j]=>if 0<j∧j<1000 then .ok (.lst ((fB 0 j).map D.int)) c else .bad
 |_=>.bad
theorem R7{a:Expr}{da:aj}{p1 p2 q1 q2:Pos}(ha:eF X [a] da) (hm:X.mg "list"=none) (hm2:X.mg "range"=none) (hg:Gl X "list":=by rfl) (iE:Gl X "range":=by rfl) (hc:X.calm=true:=by rfl)
  (he:starEach [a] X.env=(false,eval a X.env)::starEach [] X.env:=by exact cL rfl) (hb:(backTo q2 (starEach [] X.env)).any (·.1)=false:=by exact fc rfl):aT X (.Call (.Name "list" p1) [.Call (.Name "range" p2) [a] [] q2] [] q1) (m8 da):=by
 have hr:PE X (.Call (.Name "range" p2) [a] [] q2) _:=kM JG iE hm2 (by decide +kernel) ha (by decide) (by decide) he hb
 refine(kM (JH hc) hg hm (by decide +kernel) (iT hr iS (cL rfl)) (by decide) (by decide) (by exact cL rfl) (by exact fc rfl)).imp fun σ H Q h=>?_
 obtain⟨ρ,e,c,W,V,p⟩:=h
 refine⟨ρ,e,c,W,V,post.bind p fun xs c1 aO H1 vs ex W1 X1 r1 p1=>?_⟩
 clear ex
 split at p1
 ·rename_i j
  obtain⟨v,r,rfl,hx,hr2⟩:=r1
  cases hr2;cases hx
  split at p1
  ·rename_i hb
   refine⟨j,rfl,fun p hp=>⟨p,0,j,rfl,fK,⟨ai9 _,hb.1,hb.2⟩,fun l hl=>?_⟩⟩
   exact pV (W1.fresh hp) aN.ints (post.ext p1 (Ext.fresh W1 hp)) l hl
  ·exact p1.elim
 ·exact p1.elim
def PV(X:Cx):List V→Hp→VK→Prop:=fun xs H Q=>∃a ns,xs=[.ref a]∧H a=some (.ext (kH X.w a ns))∧(b8 ns).length<64∧Q (.int ((b8 ns).length:Nat)) H
theorem abp:dw X (.builtin "len") (PV X):=by
 intro pins s σ H xs us Q I rv h
 obtain⟨a,ns,rfl,hH,hn,q⟩:=h
 obtain⟨u,rfl,ru⟩:=agb rv
 cases ru
 obtain⟨hS,_,_⟩:=I.hok a _ hH
 obtain⟨o,es,ep,t,ho,hex,hd,hI,hl,hs⟩:=hS
 have he:es.size=(b8 ns).length:=by rw[←afM,uF];exact hs.len
 refine call_len_set ho hex hd hI.fits (by rw[he];omega) ⟨.int ((b8 ns).length:Nat),H,I.tok _,⟨_,by rw[he]⟩,q⟩
def qB(a:aj):af:=fun e c=>(a e c).bind fun xs c=>match xs with
 |[x]=>match su c x with
  |some ns=>.ok (.int ((b8 ns).length:Nat)) c
  |none=>.bad
 |_=>.bad
theorem R9{a:Expr}{da:aj}{p0 p1 q0 q1:Pos}(ha:eF X [a] da) (hm:X.mg "len"=none) (hm2:X.mg "set"=none) (hg:Gl X "len":=by rfl) (iE:Gl X "set":=by rfl) (hc:X.calm=true:=by rfl)
  (he:starEach [a] X.env=(false,eval a X.env)::starEach [] X.env:=by exact cL rfl) :
  aT X (.Call (.Name "len" p0) [.Call (.Name "set" p1) [a] [] q1] [] q0) (qB da):=by
 have h1:PE X (.Call (.Name "set" p1) [a] [] q1) _:=kM (abn hc) iE hm2 (by decide +kernel) ha (by decide) (by decide) he (by exact fc rfl)
 refine(uS abp hg hm (by decide +kernel) (iT h1 iS (cL rfl)) (by decide) (by decide) (by exact cL rfl) (by exact fc rfl)).imp fun σ H Q h=>?_
 obtain⟨ρ,e,c,W,V,p⟩:=h
 refine⟨ρ,e,c,W,V,post.bind p fun xs c1 aO H1 vs ex W1 X1 r1 p1=>?_⟩
 clear ex
 split at p1
 ·rename_i x
  obtain⟨v,r,rfl,hx,hr⟩:=r1
  cases hr
  split at p1
  ·rename_i ns hn
   obtain⟨ad,rfl,sq,h64,hx'⟩:=Vl W1 hx hn
   refine⟨ad,ns,rfl,sq,h64,hx',fun pa hpa=>⟨pa,ns,rfl,fK,h64,?_⟩⟩
   exact(post.ext p1 (Ext.fresh W1 hpa)).here (W1.fresh hpa) rfl
  ·exact p1.elim
 ·exact p1.elim
end
section
variable (o a:af) (b:aj) (e:Ev) (c:aa)
@[simp] theorem adV:m8 b e c=(b e c).bind fun xs c=>match xs with
 |[.int j]=>if 0<j∧j<1000 then .ok (.lst ((fB 0 j).map D.int)) c else .bad
 |_=>.bad:=rfl
end
end L2
namespace L2
open PySem PySem.Spec PyProof.Rows
def kr:D→D→aa→R D:=fun x y c=>match x,y with
 |.int i,.int j=>.ok (.int (Builtin.bitXor i j)) c
 |_,_=>.bad
def qz(o a:af):af:=fun e c=>(o e c).bind fun x c=>match x with
 |.ref k=>(a e c).bind fun i c=>match i,c[k]? with
  |.int i,some (.lst l)=>if 0≤i∧i<l.length∧l.length<1000 then(match l[i.toNat]? with|some d=>.ok d (c.set k (.lst (l.eraseIdx i.toNat)))|none=>.bad)else .bad
  |_,_=>.bad
 |_=>.bad
def tP(a:aj):af:=fun e c=>(a e c).bind fun xs c=>match xs with
 |[.int j]=>if 0<j∧j<1000 then .ok (.ref c.length) (c++[.lst ((fB 0 j).map D.int)])else .bad
 |_=>.bad
section
variable {X:Cx}
theorem Th:bf X (binaryOp .BitXor) (r2 X.K kr):=by
 intro pins s σ H v u vv uu Q I rv ru h
 obtain⟨ρ,x,y,c,W,rx,ry,p⟩:=h
 unfold kr at p
 split at p
 ·cases rx;cases ry
  exact Sl pins s σ H _ _ vv uu Q I rv ru ⟨_,_,rfl,rfl,p.here W rfl⟩
 ·exact p.elim
theorem R4{o a:Expr}{dO da:af}{apos cpos:Pos}(ho:aT X o dO) (ha:aT X a da)
  (hbase:attributeBase o "pop" X.env (eval o X.env)=eval o X.env:=by rfl)
  (hfew:((backTo cpos (starEach [a] X.env)).all (fun x=>!x.1)&&(backToKw cpos (keywordEach [] X.env)).all (fun x=>x.1.isSome)
   && decide ([a].length+([]:List Keyword).length+(if([]:List Keyword).isEmpty then 0 else 1)<30))=true:=by exact uD rfl)
  (hline:(apos.endLine==cpos.line)=true:=by rfl) (hs:starEach [a] X.env=(false,eval a X.env)::starEach [] X.env:=by exact cL rfl) (hplain:(backTo cpos (starEach [] X.env)).any (·.1)=false:=by exact fc rfl) :
  aT X (.Call (.Attribute o "pop" apos) [a] [] cpos) (qz dO da) :=
 (uT aiI PySem.F.slot_list_pop PySem.F.type_list_pop Wb ho (iT ha iS hs) hbase hfew hline hs hplain).imp fun σ H Q h=>by
  obtain⟨ρ,e,c,W,V,p⟩:=h
  refine⟨ρ,e,c,W,V,post.bind p fun x c1 aO H1 v _ W1 X1 r1 p1=>?_⟩
  cases x with
  |ref k =>
   obtain⟨ad,rfl,hk⟩:=r1
   obtain⟨xs,hx⟩:=W1.at' (afT hk)
   refine⟨.inl ⟨rfl,xs,aZ.of hx⟩,aO,e,c1,W1,V.mono W X1,post.bind p1 fun i c2 cT H2 ui _ W2 X2 r2 p2=>?_⟩
   split at p2
   ·rename_i i' l hl _
    split at p2
    ·rename_i hh
     cases r2
     have hk2:=X2.pre k ad hk
     obtain⟨nr,ys,hy,rl⟩:=W2.e7 k ad _ hk2 hl
     split at p2
     ·rename_i d hd
      obtain⟨y,hy1,ry⟩:=rl.get hd
      have hlen:=rl.length
      refine⟨ad,ys,i',i'.toNat,y,rfl,rfl,hy,by omega,by omega,?_,hy1,?_⟩
      ·have e0:(if i'<0 then i'+(ys.length:Int)else i')=i':=if_neg (by omega)
       unfold seqIndex?
       simp only[e0]
       rw[if_pos (by simp only[afE,decide_eq_true_eq];omega)]
      ·rw[ahv]at p2 ⊢
       refine p2 cT _ y (W2.write hk2 ?_ ((rl.take _).append (rl.drop _))) (Ext.write hk2) (Rel.mono W2 (Ext.write hk2) _ _ ry)
       rw[sd,Vc nr,Vd nr]
       rfl
     ·exact p2.elim
    ·exact p2.elim
   ·exact p2.elim
  |_=>exact p1.elim
theorem R6{a:Expr}{da:aj}{p1 p2 q1 q2:Pos}(ha:eF X [a] da) (hm:X.mg "list"=none) (hm2:X.mg "range"=none) (hg:Gl X "list":=by rfl) (iE:Gl X "range":=by rfl) (hc:X.calm=true:=by rfl)
  (he:starEach [a] X.env=(false,eval a X.env)::starEach [] X.env:=by exact cL rfl) (hb:(backTo q2 (starEach [] X.env)).any (·.1)=false:=by exact fc rfl):aT X (.Call (.Name "list" p1) [.Call (.Name "range" p2) [a] [] q2] [] q1) (tP da):=by
 have hr:PE X (.Call (.Name "range" p2) [a] [] q2) _:=kM JG iE hm2 (by decide +kernel) ha (by decide) (by decide) he hb
 refine(kM (JH hc) hg hm (by decide +kernel) (iT hr iS (cL rfl)) (by decide) (by decide) (by exact cL rfl) (by exact fc rfl)).imp fun σ H Q h=>?_
 obtain⟨ρ,e,c,W,V,p⟩:=h
 refine⟨ρ,e,c,W,V,post.bind p fun xs c1 aO H1 vs ex W1 X1 r1 p1=>?_⟩
 clear ex
 split at p1
 ·rename_i j
  obtain⟨v,r,rfl,hx,hr2⟩:=r1
  cases hr2;cases hx
  split at p1
  ·rename_i hb
   refine⟨j,rfl,fun p hp=>⟨p,0,j,rfl,fK,⟨ai9 _,hb.1,hb.2⟩,fun l hl=>?_⟩⟩
   have nr:bD ((fB 0 j).map D.int)=true:=iy.mpr fun d hd=>by
    obtain⟨i,_,rfl⟩:=afx.mp hd
    rfl
   exact G2 (W1.fresh hp) nr aN.ints (post.ext p1 (Ext.fresh W1 hp)) l hl
  ·exact p1.elim
 ·exact p1.elim
end
section
variable (o a:af) (b:aj) (e:Ev) (c:aa)
@[simp] theorem LX(i j:Int):kr (.int i) (.int j) c=.ok (.int (Builtin.bitXor i j)) c:=rfl
@[simp] theorem L7:tP b e c=(b e c).bind fun xs c=>match xs with
 |[.int j]=>if 0<j∧j<1000 then .ok (.ref c.length) (c++[.lst ((fB 0 j).map D.int)])else .bad
 |_=>.bad:=rfl
end
end L2
namespace L2
open PySem PySem.Spec PyProof.Rows
def i9(a:af):Ev→aa→R Src:=fun e c=>(a e c).bind fun x c=>match x with
 |.tup l=>.ok ⟨l,fun _=>True⟩ c
 |.lst l=>.ok ⟨l,fun _=>True⟩ c
 |_=>.bad
@[simp] theorem adJ(a:af) (e:Ev) (c:aa):i9 a e c=(a e c).bind fun x c=>match x with
 |.tup l=>.ok ⟨l,fun _=>True⟩ c
 |.lst l=>.ok ⟨l,fun _=>True⟩ c
 |_=>.bad:=rfl
theorem Yh{X:Cx}{tg l:Expr}{dl:af}(hl:aT X l dl):PId X tg l (i9 dl):=fun pins s σ H Q I h=>by
 obtain⟨ρ,e,c,W,V,p⟩:=h
 unfold i9 at p
 cases hx:dl e c with
 |bad=>rw[hx]at p;exact p.elim
 |ok x c1 =>
  rw[hx,R.aD]at p
  cases x with
  |tup l=>exact iC hl pins s σ H Q I ⟨ρ,e,c,W,V,by unfold b9;rw[hx];exact p⟩
  |lst l=>exact k7 hl pins s σ H Q I ⟨ρ,e,c,W,V,by unfold bJ;rw[hx];exact p⟩
  |_=>exact p.elim
end L2
namespace L2
open PySem PySem.Spec PyProof.Rows
def adq(H:Hp) (ts:List Addr):Prop:=∀b,H b=none∨(∃o xs,H b=some (.ez o (.lst xs)))∨(b∈ts∧H b=some (.dS #[]))
theorem WE{P:Program}{w:World}{K:PySem.W.Frag}{mg mb:Str→Option Value}{k:Nat}{fa a:Addr}{fd:FuncData}{x:Str}{sp:Sp}{s₁:Shared}{vs:List Value}{ns:List Int}{ts:List (Addr×Addr)}
  (KX:K.In s₁.heap) (hns:s₁.heap.Ns mainGlobals mg) (hb:s₁.heap.Ns builtinsNs mb) (YX:∀x:Str,x≠"__name__"→mb x=bootBuiltins x) (hlim:s₁.heap.NoLimit)
  (hbm:∃bm ob,mg "__builtins__"=some (.ref bm)∧bm≠builtinsNs∧s₁.heap.get? bm=some ob∧ob.cls=.type "module"∧ob.dict=some builtinsNs∧ob.data=.plain) (hg:s₁.gens=#[])
  (ha:s₁.heap.get? a=some {cls:=.type "list",data:=.seq vs.toArray}) (hi:IntsAre vs ns) (hl:ns.length≤sizeLine) (hr:dR k callerA)
  (BG:∀q∈ts,PySem.W.codeHdIn K q.1 q.2=true∧s₁.heap.get? q.2=some (PySem.W.tabObj #[])) (Y0:PySem.W.noTabs K=true)
  (F:∀base:Heap,K.In base→base.Ns mainGlobals mg→bF P w K mg base bG k fa fd [x] sp) (hbind:∀(s:Shared) (u:Value),BindsTo s fd ⟨[u],[]⟩ [(x,u)])
  (qi:∀H:Hp,(∀q∈ts,H q.2=some (.dS #[]))→aZ K H a (ns.map V.int)→sp [.ref a] H (fun v _=>v=.bl true) fun _ _ _=>False) :
  codeAny (model P w) callerA (.call (.ref fa) ⟨[.ref a],[]⟩) (fun r s'=>r=.ok (.ret (.bool true))∧OldK s₁.heap s'.heap∧s'.os=s₁.os∧AllBare s'.gens) s₁:=by
 have rv:=EB hi
 have Ww:=hi.length
 have lg:∀b,b∈ts.map (·.2)→s₁.heap.get? b=some (PySem.W.tabObj #[]):=fun b h=>by
  obtain⟨q,hq,rfl⟩:=afx.mp h
  exact(BG q hq).2
 have nat:a∉ts.map (·.2):=fun h=>by have:=lg a h;rw[ha]at this;cases this
 have core:∀H:Hp,adq H (ts.map (·.2))→(∀q∈ts,H q.2=some (.dS #[]))→aZ K H a (ns.map V.int)→dj P w H s₁.heap→(∀b,H b≠none→b=a∨b∈ts.map (·.2))→(H a≠none→K.lookup a=none) →
   codeAny (model P w) callerA (.call (.ref fa) ⟨[.ref a],[]⟩) (fun r s'=>r=.ok (.ret (.bool true))∧OldK s₁.heap s'.heap∧s'.os=s₁.os∧AllBare s'.gens) s₁:=by
  intro H hO hT hS hok hA hK
  have D4:∀{b:Addr}{o:Obj},s₁.heap.get? b=some o→H b=none→(jw s₁.heap H).get? b=some o:=fun e n=>YJ e n
  have Ve:∀{b:Addr}{o:Obj},s₁.heap.get? b=some o→o.cls≠.type "list"→o.cls≠.none→H b=none:=fun{b o} e d1 d2=>by
   cases q:H b with
   |none=>rfl
   |some u =>
    rcases hA b (by rw[q];simp)with e'|e'
    ·subst e'
     rw[ha]at e;cases e
     exact absurd rfl d1
    ·rw[lg b e']at e;cases e
     exact absurd rfl d2
  have se:∀{b:Addr}{o:Obj}{es:Array DictEntry}{ep:Nat},s₁.heap.get? b=some o→o.data=.dict es ep→H b=none:=fun{b o es ep} e d=>by
   cases q:H b with
   |none=>rfl
   |some u =>
    rcases hA b (by rw[q];simp)with e'|e'
    ·subst e'
     rw[ha]at e;cases e
     have d':Data.seq vs.toArray _=Data.dict es ep:=d
     cases d'
    ·rw[lg b e']at e;cases e
     have d':Data.fields #[]=Data.dict es ep:=d
     cases d'
  have vg:∀{b:Addr}{m:Str→Option Value},s₁.heap.Ns b m→(jw s₁.heap H).Ns b m:=fun{b m} ⟨o,es,ep,e,d,r⟩=>⟨o,es,ep,D4 e (se e d),d,r⟩
  have IS:K.In (jw s₁.heap H):=fun b o e=>D4 (KX b o e) (by
   cases q:H b with
   |none=>rfl
   |some u =>
    rcases hA b (by rw[q];simp)with e'|e'
    ·subst e'
     rw[hK (by rw[q];simp)]at e;cases e
    ·have h1:=KX b o e
     rw[lg b e']at h1;cases h1
     have h2:=afG.mp Y0 (b,_) (PySem.W.mem_of_lookupK e)
     exact absurd (show false=true from h2) afR)
  have hM:Mod K mg (jw s₁.heap H):=⟨IS,vg hns,⟨mb,vg hb,YX⟩,let⟨mc,h1,h2⟩:=hlim;⟨mc,vg h1,h2⟩,let⟨bm,ob,b1,b2,b3,b4,b5⟩:=hbm;⟨bm,ob,b1,b2,D4 b3 (Ve b3 (by rw[b4];simp) (by rw[b4];simp)),b4,b5⟩⟩
  have e0:xT P w K mg (jw s₁.heap H) callerA [] s₁ H:=⟨rfl,hM,fun b o e=>Tg e,agY (YI _ _),trivial,fun b hb=>absurd (show b∈([]:List Addr)from hb) (by simp),hok,.of_eq hg⟩
  refine agw ((F _ IS (vg hns)).run callerA [] s₁ H ⟨[.ref a],[]⟩ [.ref a] [.ref a] _ _ hr e0 (hbind s₁ (.ref a)) (.cons rfl .nil) (qi H hT hS)) fun r s' h=>?_
  cases r with
  |error e=>exact False.elim h
  |ok fl =>
   cases fl with
   |next=>exact False.elim h
   |brk=>exact False.elim h
   |cont=>exact False.elim h
   |ret u =>
    obtain⟨v,H',os,bare,un,IC,r',q⟩:=h
    have q':v=.bl true:=q
    subst q'
    obtain rfl:u=Value.bool true:=r'
    have main:∀b o,s₁.heap.get? b=some o→s'.heap.get? b=some o∨(b∈ts.map (·.2)∧o=PySem.W.tabObj #[]∧∃ps,s'.heap.get? b=some (PySem.W.tabObj ps)):=fun b o e=>by
     rcases hO b with z|⟨ob,xs,z⟩|⟨hm,z⟩
     ·exact .inl (un.keep b o e z (by intro z;exact absurd (show b∈([]:List Addr)from z) (by simp)) (by simp))
     ·have z2:=un.i6 b ob _ z
      obtain⟨e1,_⟩:=hok b _ z
      obtain⟨e2,_⟩:=IC b _ z2
      rw[e]at e1;cases e1
      exact .inl e2
     ·obtain⟨more,z2⟩:=un.iN b _ z
      have e2:s'.heap.get? b=some (PySem.W.tabObj (#[]++more)):=IC b _ z2
      have e1:=lg b hm
      rw[e]at e1;cases e1
      exact .inr ⟨hm,rfl,_,e2⟩
    refine⟨rfl,⟨fun b o e=>?_,fun b o e=>?_⟩,os,bare⟩
    ·rcases main b o e with z|⟨hm,rfl,ps,z⟩
     ·exact .inl z
     ·obtain⟨q,hq,rfl⟩:=afx.mp hm
      have hC:=PySem.W.codeHd_of_K KX (BG q hq).1
      exact .inr (.inl ⟨(hC.tab (BG q hq).2).isCodeTable,rfl,#[],ps,rfl,by rw[Array.empty_append];exact z⟩)
    ·rcases main b o e with z|⟨_,_,ps,z⟩
     ·exact⟨o,z⟩
     ·exact⟨_,z⟩
 have aef:∀(H:Hp) b,H b=some (.dS #[])→b∈ts.map (·.2)→d7 P w H s₁.heap b (.dS #[]):=fun H b _ h=>lg b h
 cases hk:K.lookup a with
 |some o =>
  have e:=KX a o hk
  rw[ha]at e
  cases e
  let H:Hp:=fun b=>if b∈ts.map (·.2)then some (.dS #[])else none
  refine core H (fun b=>?_) (fun q hq=>if_pos (ajL hq)) (.inr ⟨_,vs.toArray,_,hk,rfl,rfl,rfl,by rw[afF,Ww];exact hl,by simpa using rv⟩) (fun b u z=>?_) (fun b z=>?_) fun z=>absurd (if_neg nat) z
  ·by_cases hb:b∈ts.map (·.2)
   ·exact .inr (.inr ⟨hb,if_pos hb⟩)
   ·exact .inl (if_neg hb)
  ·by_cases hb:b∈ts.map (·.2)
   ·have z':=(if_pos hb).symm.trans z
    cases z'
    exact lg b hb
   ·have z':=(if_neg hb).symm.trans z
    cases z'
  ·by_cases hb:b∈ts.map (·.2)
   ·exact .inr hb
   ·exact absurd (if_neg hb) z
 |none =>
  let H:Hp:=fun b=>if b∈ts.map (·.2)then some (.dS #[])else if b=a then some (.ez {cls:=.type "list",data:=.seq vs.toArray} (.lst (ns.map V.int)))else none
  have Ha:H a=some (.ez {cls:=.type "list",data:=.seq vs.toArray} (.lst (ns.map V.int))):=(if_neg nat).trans (if_pos rfl)
  refine core H (fun b=>?_) (fun q hq=>if_pos (ajL hq)) (.inl (.inr ⟨_,Ha⟩)) (fun b u z=>?_) (fun b z=>?_) fun _=>hk
  ·by_cases hb:b∈ts.map (·.2)
   ·exact .inr (.inr ⟨hb,if_pos hb⟩)
   ·by_cases hb2:b=a
    ·exact .inr (.inl ⟨_,_,(if_neg hb).trans (if_pos hb2)⟩)
    ·exact .inl ((if_neg hb).trans (if_neg hb2))
  ·by_cases hb:b∈ts.map (·.2)
   ·have z':=(if_pos hb).symm.trans z
    cases z'
    exact lg b hb
   ·by_cases hb2:b=a
    ·have z':=((if_neg hb).trans (if_pos hb2)).symm.trans z
     cases z'
     subst hb2
     exact⟨ha,by rw[afy];exact hl,vs,_,rv,ha⟩
    ·have z':=((if_neg hb).trans (if_neg hb2)).symm.trans z
     cases z'
  ·by_cases hb:b∈ts.map (·.2)
   ·exact .inr hb
   ·by_cases hb2:b=a
    ·exact .inl hb2
    ·exact absurd ((if_neg hb).trans (if_neg hb2)) z
def yD(K:PySem.W.Frag) (ts:List (Addr×Addr)):Bool:=HD.all fun x=>match PySem.W.tabIn K x with
 |some q=>decide (q∈ts)
 |none=>true
theorem MO{K:PySem.W.Frag}{H:Hp}{ts:List (Addr×Addr)}(h:yD K ts=true) (hT:∀q∈ts,H q.2=some (.dS #[])):t6 K H:=fun x hx c P e=>by
 have:=afG.mp h x hx
 rw[e]at this
 exact⟨#[],hT (c,P) (of_decide_eq_true this),trivial,fun pos cv z=>by cases z⟩
theorem Mn{l:PySem.W.OpenLaw}{n k:Nat}{q:Program}{loose:List Str}{XP:(Str→Option Value)→Heap→Prop}{YP:World→Heap→Prop}{d:DefRec}{K:Params→PySem.W.Frag}{x:Str}{m:List D→aa→R D}{ts:List (Addr×Addr)}
  (hn:l.most=some n) (hn2:n≤sizeLine) (hdf:d.params.defaults=[]) (hr:dR k callerA)
  (hY:∀(w:World) (h:Heap),YP w h→(K w.params).In h∧∀q∈ts,h.get? q.2=some (PySem.W.tabObj #[]))
  (hK:∀p,(ts.all fun q=>PySem.W.codeHdIn (K p) q.1 q.2)=true∧PySem.W.noTabs (K p)=true∧yD (K p) ts=true)
  (F:∀(w:World) (mg:Str→Option Value) (fa:Addr) (h:Heap),(K w.params).In h→h.Ns mainGlobals mg→mg d.name=some (.ref fa) →
   ∃fd:FuncData,(∀(s:Shared) (u:Value),BindsTo s fd ⟨[u],[]⟩ [(x,u)]) ∧
    ∀base:Heap,(K w.params).In base→base.Ns mainGlobals mg→bF l.prog w (K w.params) mg base bG k fa fd [x] (bU (K w.params) 1 m))
  (hm:∀ns:List Int,ns.length≤n→∃c,m [.cG ns] []=.ok (.bl true) c) :
  PySem.W.WalkO q loose XP YP l.row.toRowW d [] (fun f vs=>PySem.call f vs):=by
 refine LI.ace hn hdf fun w s₀ s₁ mg mb fa o pm cd doc a vs ns G Y ho hd hcd hmg hobj hints hlen hg=>?_
 obtain⟨KX,hT⟩:=hY w _ Y
 obtain⟨fd,hb,hF⟩:=F w mg fa _ KX G.T.g hmg
 obtain⟨k1,k2,k3⟩:=hK w.params
 refine WE (ts:=ts) KX G.T.g G.T.b G.T.builtins G.T.nolimit G.T.bmain hg hobj hints (afL hlen hn2) hr (fun q hq=>⟨afG.mp k1 q hq,hT q hq⟩) k2 hF hb fun H h1 h2=>?_
 obtain⟨c,hc⟩:=hm ns hlen
 refine⟨[],[.cG ns],[],⟨.nil,rfl,fun k a cl e=>(by cases e),MO k3 h1⟩,⟨.ref a,[],rfl,⟨a,rfl,?_⟩,rfl⟩,rfl,?_⟩
 ·rcases h2 with hS|hS
  ·exact .inl ⟨hS,by simp⟩
  ·exact .inr (.inr hS)
 ·rw[hc]
  exact fun ρ' H' b _ _ r=>r
end L2
namespace L2
open PySem
abbrev Pb:=SetTable.Probe
def dN(m:Nat) (p:Pb):Pb:=if p.more>0 then{p with j:=p.j+1,more:=p.more-1}else{p with j:=(p.i*5+1+p.perturb/32) % (m+1),more:=SetTable.runEnd m ((p.i*5+1+p.perturb/32) % (m+1))-(p.i*5+1+p.perturb/32) % (m+1),i:=(p.i*5+1+p.perturb/32) % (m+1),perturb:=p.perturb/32}
theorem ac9(t:SetTable) (p:Pb):t.advance p=dN t.mask p:=by
 unfold SetTable.advance dN
 split<;>rfl
def dJ(m:Nat):Nat→Pb→Pb
 |0,p=>p
 |n+1,p=>dJ m n (dN m p)
theorem vB(m:Nat):∀(a b:Nat) (p:Pb),dJ m (a+b) p=dJ m b (dJ m a p)
 |0,b,p=>by rw[agA];rfl
 |a+1,b,p=>by
  rw[show a+1+b=(a+b)+1 by omega]
  exact vB m a b (dN m p)
theorem ada(m:Nat) (p:Pb):(dN m p).dummy=p.dummy:=by unfold dN;split<;>rfl
theorem HN(m:Nat):∀(n:Nat) (p:Pb),(dJ m n p).dummy=p.dummy
 |0,_=>rfl
 |n+1,p=>(HN m n (dN m p)).trans (ada m p)
def kK(m i q:Nat):Pb:=⟨i,SetTable.runEnd m i-i,i,q,none⟩
def fM(m:Nat) (h:Int):Pb:=kK m (SetTable.bits h % (m+1)) (SetTable.bits h)
def ic(m:Nat) (h:Int) (n:Nat):Nat:=(dJ m n (fM m h)).j
def Reach(m:Nat) (P:Nat→Prop) (h:Int) (j:Nat):Prop:=∃n,n<10*(m+15)∧ic m h n=j∧∀k,k<n→P (ic m h k)
theorem Reach.mono{m:Nat}{P Q:Nat→Prop}{h:Int}{j:Nat}(r:Reach m P h j) (i:∀k,P k→Q k):Reach m Q h j :=
 let⟨n,h1,h2,h3⟩:=r;⟨n,h1,h2,fun k hk=>i _ (h3 k hk)⟩
theorem yK{t:SetTable}(hu:Up t.place.toList) {j:Nat}(hj:j∈t.place.toList):∃i,t.slot j=.live i∧t.place[i]? = some j:=by
 refine⟨SetTable.below t.place j,?_,D0 hu hj⟩
 unfold SetTable.slot
 dsimp only
 rw[D0 hu hj]
 simp
theorem NH{t:SetTable}(hd:t.dummies=#[]) {j:Nat}(hj:j∉t.place.toList):t.slot j=.empty:=by
 rcases yJ hd j with e|⟨i,e⟩
 ·exact e
 ·unfold SetTable.slot at e
  dsimp only at e
  split at e
  ·rename_i q
   have:=eq_of_beq q
   rw[←afW]at this
   exact absurd (afT this) hj
  ·split at e<;>cases e
theorem BO{t:SetTable}{hashAt:Nat→Int}{h:Int}:∀(n fuel:Nat) (p:Pb),n≤fuel→(∀k,k<n→∃i,t.slot (dJ t.mask k p).j=.live i∧(hashAt i==h)=false) →
  SetTable.probe.go t hashAt h fuel p=SetTable.probe.go t hashAt h (fuel-n) (dJ t.mask n p)
 |0,fuel,p,_,_=>rfl
 |n+1,0,p,hf,_=>absurd hf (by omega)
 |n+1,fuel+1,p,hf,hk=>by
  obtain⟨i,e,hne⟩:=hk 0 (by omega)
  have e:t.slot p.j=.live i:=e
  have ih:=BO (t:=t) (hashAt:=hashAt) (h:=h) n fuel (dN t.mask p) (by omega) fun k hk'=>hk (k+1) (by omega)
  rw[show fuel+1-(n+1)=fuel-n by omega]
  show SetTable.probe.go t hashAt h (fuel+1) p=SetTable.probe.go t hashAt h (fuel-n) (dJ t.mask n (dN t.mask p))
  rw[←ih]
  conv=>lhs;unfold SetTable.probe.go
  rw[e]
  dsimp only
  rw[hne,ac9]
  simp only[af0,if_false]
theorem C8{mask:Nat}:∀(n:Nat) (p:Pb) (acc:Nat),eY mask n p.j p.more p.i p.perturb acc=true→∀s,s≤mask→acc.testBit s=false→∃k,k<n∧(dJ mask k p).j=s
 |0,_,_,h,_,_,_=>by cases h
 |n+1,p,acc,hc,s,hs,ha=>by
  by_cases e:p.j=s
  ·exact⟨0,by omega,e⟩
  ·have ha':(acc |||(1 <<< p.j)).testBit s=false:=by
    rw[xG,ha]
    simp
    exact fun q=>e q.symm
   unfold eY at hc
   split at hc
   ·rename_i ef
    rw[ef,ag8]at ha'
    have:=of_decide_eq_false ha'
    omega
   ·split at hc
    ·rename_i hm
     have mW:dN mask p={p with j:=p.j+1,more:=p.more-1}:=by unfold dN;rw[if_pos hm]
     obtain⟨k,hk,ek⟩:=C8 n (dN mask p) (acc |||(1 <<< p.j)) (by rw[mW];exact hc) s hs ha'
     exact⟨k+1,by omega,ek⟩
    ·rename_i hm
     have mW:dN mask p={p with j:=(p.i*5+1+p.perturb/32) % (mask+1),more:=SetTable.runEnd mask ((p.i*5+1+p.perturb/32) % (mask+1))-(p.i*5+1+p.perturb/32) % (mask+1),i:=(p.i*5+1+p.perturb/32) % (mask+1),perturb:=p.perturb/32}:=by
      unfold dN;rw[if_neg hm]
     obtain⟨k,hk,ek⟩:=C8 n (dN mask p) (acc |||(1 <<< p.j)) (by rw[mW];exact hc) s hs ha'
     exact⟨k+1,by omega,ek⟩
theorem least{P:Nat→Prop}:∀(n:Nat),P n→∃k,k≤n∧P k∧∀i,i<k→¬P i:=fun n=>by
 induction n using Nat.strongRecOn with
 |_ n ih =>
  intro h
  by_cases q:∃i,i<n∧P i
  ·obtain⟨i,hi,hp⟩:=q
   obtain⟨k,h1,h2,h3⟩:=ih i hi hp
   exact⟨k,by omega,h2,h3⟩
  ·exact⟨n,afs _,h,fun i hi hp=>q ⟨i,hi,hp⟩⟩
structure lR (h:Int):Prop where
 go:∀m,mz m→eY m (10*(m+15)) (SetTable.bits h % (m+1)) (SetTable.runEnd m (SetTable.bits h % (m+1))-SetTable.bits h % (m+1)) (SetTable.bits h % (m+1)) (SetTable.bits h) 0=true
 lay:∀m,gT m→lG m (m+15) (SetTable.bits h % (m+1)) (SetTable.bits h) 0=true
def fQ(es:Array (Int×Value)) (i:Nat):Int:=(Option.map (fun x:Int×Value=>x.fst) es[i]?).getD 0
structure je (t:SetTable) (es:Array (Int×Value)):Prop where
 size:t.place.size=es.size
 up:Up t.place.toList
 le:∀j∈t.place.toList,j≤t.mask
 dm:t.dummies=#[]
 mask:(t.mask=7∧es.size≤4)∨(t.mask=31∧es.size≤18)∨(t.mask=127∧es.size≤76)
 reach:∀q∈t.place.toList.zip es.toList,Reach t.mask (·∈t.place.toList) q.2.1 q.1
theorem je.ok{t:SetTable}{es:Array (Int×Value)}(I:je t es):mz t.mask:=by
 have:=I.mask
 unfold mz;omega
theorem je.fits{t:SetTable}{es:Array (Int×Value)}(h:je t es):t.fits es.size=true:=by
 have:=h.mask
 simp only[SetTable.fits,SetTable.fill,h.size,h.dm,afE,beq_self_eq_true,true_and,decide_eq_true_eq]
 simp only[afF,agd]
 omega
theorem LP{l:List Nat}{r:List (Int×Value)}{i j:Nat}{e:Int×Value}(h1:l[i]? = some j) (h2:r[i]? = some e):(j,e)∈l.zip r:=by
 have:(l.zip r)[i]? = some (j,e):=by rw[aix];exact⟨h1,h2⟩
 exact afT this
theorem Ms{l:List Nat}(h:Up l) {i k j:Nat}(h1:l[i]? = some j) (h2:l[k]? = some j):i=k:=by
 obtain⟨a1,b1⟩:=afJ.mp h1
 obtain⟨a2,b2⟩:=afJ.mp h2
 rcases ahY i k with q|q|q
 ·have:=ahp.mp h i k a1 a2 q;omega
 ·exact q
 ·have:=ahp.mp h k i a2 a1 q;omega
theorem ZE{t:SetTable}{es:Array (Int×Value)}(I:je t es) {e:Int×Value}(he:e∈es.toList):∃j i next e',t.probe (fQ es) e.1 (t.probeStart e.1)=some (.candidate j i next)∧es[i]? = some e'∧e'.1=e.1:=by
 obtain⟨i0,hi0,ee⟩:=agI he
 have e1:es.toList[i0]? = some e:=by rw[afz hi0,ee]
 have hsz:t.place.toList.length=es.toList.length:=by simp[I.size]
 obtain⟨j0,hj0⟩:∃j0,t.place.toList[i0]? = some j0:=⟨_,afz (by omega)⟩
 obtain⟨n0,hn0,ha0,YB⟩:=I.reach (j0,e) (LP hj0 e1)
 have hm0:j0∈t.place.toList:=afT hj0
 have hA:∀i e',es[i]? = some e'→fQ es i=e'.1:=fun i e' q=>by unfold fQ;rw[q];rfl
 have Nq:∃i,t.slot (ic t.mask e.1 n0)=.live i∧fQ es i=e.1:=by
  rw[ha0]
  obtain⟨i,s1,s2⟩:=yK I.up hm0
  rw[←afW]at s2
  have:=Ms I.up s2 hj0
  subst this
  exact⟨i,s1,hA i e (by rw[←afW];exact e1)⟩
 obtain⟨n,hn,⟨i,s1,s2⟩,hmin⟩:=least (P:=fun n=>∃i,t.slot (ic t.mask e.1 n)=.live i∧fQ es i=e.1) n0 Nq
 have hlive:∀k,k<n→∃i,t.slot (dJ t.mask k (fM t.mask e.1)).j=.live i∧(fQ es i==e.1)=false:=fun k hk=>by
  obtain⟨i',q1,_⟩:=yK I.up (YB k (by omega))
  refine⟨i',q1,?_⟩
  cases hb:fQ es i'==e.1 with
  |false=>rfl
  |true=>exact absurd ⟨i',q1,eq_of_beq hb⟩ (hmin k hk)
 have Bv:=BO (t:=t) (hashAt:=fQ es) (h:=e.1) n (10*SetTable.turns t.mask) (fM t.mask e.1) (by unfold SetTable.turns;omega) hlive
 have hf:∃f,10*SetTable.turns t.mask-n=f+1:=⟨10*SetTable.turns t.mask-n-1,by unfold SetTable.turns;omega⟩
 obtain⟨f,hf⟩:=hf
 have hi:∃e',es[i]? = some e'∧e'.1=e.1:=by
  have hpl:∃j,t.place[i]? = some j:=by
   unfold SetTable.slot at s1
   dsimp only at s1
   split at s1
   ·rename_i q
    cases s1
    exact⟨_,eq_of_beq q⟩
   ·split at s1<;>cases s1
  obtain⟨j,hj⟩:=hpl
  rw[←afW]at hj
  have hlt:=(afJ.mp hj).1
  have mU:i<es.toList.length:=by omega
  refine⟨es.toList[i],by rw[←afW,afz mU],?_⟩
  rw[←s2,hA i es.toList[i] (by rw[←afW,afz mU])]
 obtain⟨e',h1,h2⟩:=hi
 refine⟨ic t.mask e.1 n,i,t.advance (dJ t.mask n (fM t.mask e.1)),e',?_,h1,h2⟩
 show SetTable.probe.go t (fQ es) e.1 (10*SetTable.turns t.mask) (fM t.mask e.1)=_
 rw[Bv,hf]
 unfold SetTable.probe.go
 have s1:t.slot (dJ t.mask n (fM t.mask e.1)).j=.live i:=s1
 rw[s1]
 dsimp only
 rw[s2]
 simp
 rfl
theorem ac8{m:Nat}{p:Pb}(h:p.j+p.more≤m):(dN m p).j+(dN m p).more≤m:=by
 unfold dN
 split
 ·dsimp only;omega
 ·dsimp only
  have:(p.i*5+1+p.perturb/32) % (m+1)<m+1:=agt _ (by omega)
  generalize (p.i*5+1+p.perturb/32) % (m+1)=i at this
  unfold SetTable.runEnd
  split<;>omega
theorem HM{m:Nat}:∀(n:Nat) {p:Pb},p.j+p.more≤m→(dJ m n p).j+(dJ m n p).more≤m
 |0,_,h=>h
 |n+1,_,h=>HM n (ac8 h)
theorem Nr(m:Nat) (h:Int):(fM m h).j+(fM m h).more≤m:=by
 have:SetTable.bits h % (m+1)<m+1:=agt _ (by omega)
 unfold fM kK
 dsimp only
 generalize SetTable.bits h % (m+1)=i at this
 unfold SetTable.runEnd
 split<;>omega
theorem KJ(m:Nat) (h:Int) (n:Nat):ic m h n≤m:=by
 have:=HM n (Nr m h)
 unfold ic;omega
theorem ZF{t:SetTable}{es:Array (Int×Value)}(I:je t es) {h:Int}(hc:lR h) (hno:∀e∈es.toList,e.1≠h) :
  ∃j,t.probe (fQ es) h (t.probeStart h)=some (.empty j none)∧j∉t.place.toList∧j≤t.mask∧Reach t.mask (·∈t.place.toList) h j:=by
 have hsz:t.place.toList.length=es.toList.length:=by simp[I.size]
 have hM:=I.mask
 have hes:es.toList.length=es.size:=by simp
 have hex:∃j,j≤t.mask∧j∉t.place.toList:=ah1 fun q=>by
  have:=zb (t.mask+1) t.place.toList fun j hj=>ah1 fun x=>q ⟨j,by omega,x⟩
  omega
 obtain⟨js,YF,hjn⟩:=hex
 obtain⟨k0,hk0,ZP⟩:=C8 (10*(t.mask+15)) (fM t.mask h) 0 (hc.go t.mask I.ok) js YF (by simp)
 obtain⟨n,hn,hs,hmin⟩:=least (P:=fun n=>ic t.mask h n∉t.place.toList) k0 (by show(dJ t.mask k0 (fM t.mask h)).j∉_;rw[ZP];exact hjn)
 have hin:∀k,k<n→ic t.mask h k∈t.place.toList:=fun k hk=>ah1 fun x=>hmin k hk x
 have hA:∀i e',es[i]? = some e'→fQ es i=e'.1:=fun i e' q=>by unfold fQ;rw[q];rfl
 have hlive:∀k,k<n→∃i,t.slot (dJ t.mask k (fM t.mask h)).j=.live i∧(fQ es i==h)=false:=fun k hk=>by
  obtain⟨i,q1,q2⟩:=yK I.up (hin k hk)
  refine⟨i,q1,?_⟩
  rw[←afW]at q2
  have hlt:=(afJ.mp q2).1
  have mU:i<es.toList.length:=by omega
  have hq:es[i]? = some es.toList[i]:=by rw[←afW,afz mU]
  rw[hA i _ hq]
  exact beq_false_of_ne (hno _ (afX mU))
 have Bv:=BO (t:=t) (hashAt:=fQ es) (h:=h) n (10*SetTable.turns t.mask) (fM t.mask h) (by unfold SetTable.turns;omega) hlive
 obtain⟨f,hf⟩:∃f,10*SetTable.turns t.mask-n=f+1:=⟨10*SetTable.turns t.mask-n-1,by unfold SetTable.turns;omega⟩
 refine⟨ic t.mask h n,?_,hs,?_,n,by omega,rfl,hin⟩
 ·show SetTable.probe.go t (fQ es) h (10*SetTable.turns t.mask) (fM t.mask h)=_
  rw[Bv,hf]
  unfold SetTable.probe.go
  have s1:t.slot (dJ t.mask n (fM t.mask h)).j=.empty:=NH I.dm hs
  rw[s1]
  dsimp only
  rw[HN]
  rfl
 ·exact KJ _ h n
end L2
namespace L2
open PySem
theorem LO{l:Array Nat}{r:Array (Int×Value)}(hs:l.size=r.size) {p j:Nat}{e:Int×Value}:∀q∈(SetTable.insertAt l p j).toList.zip (SetTable.insertAt r p e).toList,q=(j,e)∨q∈l.toList.zip r.toList:=by
 intro q hq
 rw[ahZ,ahZ]at hq
 have hl:(l.toList.take p).length=(r.toList.take p).length:=by simp[hs]
 rw[ajM hl,ajN,af3,afv]at hq
 have hz:l.toList.zip r.toList=(l.toList.take p).zip (r.toList.take p)++(l.toList.drop p).zip (r.toList.drop p):=by
  rw[←ajM hl,agQ,agQ]
 rw[hz,af3]
 rcases hq with q|q|q
 ·exact .inr (.inl q)
 ·exact .inl q
 ·exact .inr (.inr q)
theorem Ql{t:SetTable}{es:Array (Int×Value)}(I:je t es) {h:Int}{x:Value}{j:Nat}(hj:j∉t.place.toList) (hle:j≤t.mask) (hr:Reach t.mask (·∈t.place.toList) h j) :
  (SetTable.insertAt es (SetTable.below t.place j) (h,x)).size=es.size+1∧(t.put j).1.place.size=es.size+1∧Up (t.put j).1.place.toList∧(∀k∈(t.put j).1.place.toList,k≤t.mask)∧(t.put j).1.dummies=#[] ∧
   (∀q∈(t.put j).1.place.toList.zip (SetTable.insertAt es (SetTable.below t.place j) (h,x)).toList,Reach t.mask (·∈(t.put j).1.place.toList) q.2.1 q.1):=by
 have hsz:=I.size
 have hnd:(if SetTable.has t.dummies j then SetTable.eraseAt t.dummies (SetTable.below t.dummies j)else t.dummies)=#[]:=by
  rw[I.dm];rfl
 have hmem:∀k,k∈(SetTable.insertAt t.place (SetTable.below t.place j) j).toList↔k∈t.place.toList∨k=j:=fun k=>by
  rw[(aha t.place (SetTable.below t.place j) j).mem_iff,ah3,af3,af1]
 refine⟨?_,?_,EE I.up hj,fun k hk=>?_,hnd,fun q hq=>?_⟩
 ·rw[←afM,(aha ..).length_eq];simp
 ·show(SetTable.insertAt t.place (SetTable.below t.place j) j).size=_
  rw[←afM,(aha ..).length_eq];simp[hsz]
 ·rcases(hmem k).mp hk with q|rfl
  ·exact I.le k q
  ·exact hle
 ·rcases LO hsz q hq with rfl|q'
  ·exact hr.mono fun k hk=>(hmem k).mpr (.inl hk)
  ·exact(I.reach q q').mono fun k hk=>(hmem k).mpr (.inl hk)
theorem rO(m:Nat):∀(k:Nat) (p:Pb),k≤p.more→dJ m k p={p with j:=p.j+k,more:=p.more-k}
 |0,p,_=>rfl
 |k+1,p,h=>by
  have ha:dN m p={p with j:=p.j+1,more:=p.more-1}:=by unfold dN;rw[if_pos (by omega)]
  show dJ m k (dN m p)=_
  rw[ha,rO m k _ (by dsimp only;omega)]
  dsimp only
  congr 1<;>omega
theorem Hw(m i q:Nat):dJ m (SetTable.runEnd m i-i+1) (kK m i q)=kK m ((i*5+1+q/32) % (m+1)) (q/32):=by
 rw[vB m _ 1,rO m (SetTable.runEnd m i-i) (kK m i q) (afs _)]
 show dN m _=_
 unfold dN kK
 dsimp only
 rw[if_neg (by omega)]
theorem Pe(m i:Nat):SetTable.runEnd m i-i≤9:=by unfold SetTable.runEnd;split<;>omega
theorem Pf(m i:Nat):i≤SetTable.runEnd m i:=by unfold SetTable.runEnd;split<;>omega
theorem IZ{mask:Nat}{owner:Array (Option Nat)}:∀(fuel i q j:Nat),SetTable.layClean.free mask owner fuel i q=some j →
  ∃n,n<10*fuel∧(dJ mask n (kK mask i q)).j=j∧∀k,k<n→owner.getD (dJ mask k (kK mask i q)).j (some 0)≠none
 |0,i,q,j,h=>by cases h
 |fuel+1,i,q,j,h=>by
  have h9:=Pe mask i
  have hg:=Pf mask i
  unfold SetTable.layClean.free at h
  cases hr:(List.range (SetTable.runEnd mask i+1-i)).find? (fun k=>(owner.getD (i+k) (some 0)).isNone)with
  |some k =>
   rw[hr]at h
   dsimp only at h
   cases h
   have hk:=aft.mp (List.mem_of_find?_eq_some hr)
   refine⟨k,by omega,?_,fun k' hk'=>?_⟩
   ·rw[rO mask k _ (by show k≤SetTable.runEnd mask i-i;omega)]
    rfl
   ·rw[rO mask k' _ (by show k'≤SetTable.runEnd mask i-i;omega)]
    show owner.getD (i+k') (some 0)≠none
    intro e
    have hb:=List.find?_eq_some_iff_getElem.mp hr
    obtain⟨_,n,hn,en,YW⟩:=hb
    have en':n=k:=by simpa using en
    have:=YW k' (by omega)
    simp[e]at this
  |none =>
   rw[hr]at h
   dsimp only at h
   have h:SetTable.layClean.free mask owner fuel ((i*5+1+q/32) % (mask+1)) (q/32)=some j:=h
   obtain⟨n,hn,ej,hl⟩:=IZ fuel _ _ j h
   have hno:=ajx.mp hr
   refine⟨SetTable.runEnd mask i-i+1+n,by omega,?_,fun k hk=>?_⟩
   ·rw[vB,Hw];exact ej
   ·by_cases hk2:k≤SetTable.runEnd mask i-i
    ·rw[rO mask k _ hk2]
     show owner.getD (i+k) (some 0)≠none
     intro e
     have:=hno k (aft.mpr (by omega))
     simp[e]at this
    ·rw[show k=SetTable.runEnd mask i-i+1+(k-(SetTable.runEnd mask i-i+1)) by omega,vB,Hw]
     exact hl _ (by omega)
structure t8 (mask:Nat) (owner:Array (Option Nat)) (hs:List Int) (k:Nat):Prop where
 lay:nK mask owner k
 way:∀j i,owner.toList.getD j none=some i→∃h,hs[i]? = some h∧Reach mask (fun s=>owner.getD s (some 0)≠none) h j
theorem Sh{mask:Nat}{owner:Array (Option Nat)}{k:Nat}(I:nK mask owner k) {s:Nat}(h:s≤mask):(owner.getD s (some 0)≠none)↔(owner.toList.getD s none≠none):=by
 have h1:=I.1
 rw[gX]
 have hs:s<owner.toList.length:=by omega
 rw[afu,afu,afz hs]
 rfl
theorem WB{mask:Nat}{owner:Array (Option Nat)}{hs:List Int}{k:Nat}{h:Int}(hm:gT mask) (hc:lR h) (I:t8 mask owner hs k) (hk:k≤mask) (hh:hs[k]? = some h) :
  ∃j,SetTable.layClean.free mask owner (SetTable.turns mask) (SetTable.bits h % (mask+1)) (SetTable.bits h)=some j∧t8 mask (owner.setIfInBounds j (some k)) hs (k+1):=by
 obtain⟨h1,h2⟩:=I.lay
 have hex:∃j,j≤mask∧owner.getD j (some 0)=none:=by
  by_cases q:∃j,j≤mask∧owner.getD j (some 0)=none
  ·exact q
  ·have:=BX owner.toList fun j hj e=>q ⟨j,by omega,by rw[gX];exact e⟩
   have h3:=h2.length_eq
   rw[af2]at h3
   omega
 obtain⟨j,e,e1⟩:=zU (mask+15) _ _ 0 (SetTable.turns mask) (hc.lay mask hm) (afs _) (fun k _ hb=>by simp at hb) hex
 obtain⟨n,hn,ej,hl⟩:=IZ _ _ _ _ e
 rw[gX]at e1
 have hj:j<owner.toList.length:=by
  rcases ahr j owner.toList.length with q|q
  ·exact q
  ·rw[afu,aho q]at e1;cases e1
 have grow:∀s,owner.getD s (some 0)≠none→(owner.setIfInBounds j (some k)).getD s (some 0)≠none:=fun s hs=>by
  rw[gX,ah2,afu,ajO]
  split
  ·first|(split<;>simp)|simp
  ·rw[gX,afu]at hs
   exact hs
 refine⟨j,e,⟨⟨by simpa using h1,?_⟩,fun s i hs=>?_⟩⟩
 ·rw[ah2]
  refine(BW _ j k hj e1).trans ?_
  rw[ahs]
  exact(h2.cons k).trans (aiN k _).symm
 ·rw[ah2,afu,ajO]at hs
  by_cases q:j=s
  ·subst q
   rw[if_pos rfl,if_pos hj]at hs
   have:k=i:=by simpa using hs
   subst this
   exact⟨h,hh,n,by unfold SetTable.turns at hn;exact hn,ej,fun k' hk'=>grow _ (hl k' hk')⟩
  ·rw[if_neg q]at hs
   obtain⟨h',q1,q2⟩:=I.way s i (by rw[afu];exact hs)
   exact⟨h',q1,q2.mono grow⟩
theorem HA{mask:Nat}(hm:gT mask) (all:List Int):∀(hs:List Int) (owner:Array (Option Nat)) (k:Nat),(∀h∈hs,lR h)→t8 mask owner all k→k+hs.length≤mask→(∀i,hs[i]? = all[k+i]?∨hs.length≤i) →
  ∃ow,hs.foldl (fun acc h=>(do
   let(owner,k) ←acc
   let j ←SetTable.layClean.free mask owner (SetTable.turns mask) (SetTable.bits h % (mask+1)) (SetTable.bits h)
   pure (owner.setIfInBounds j (some k),k+1):Option (Array (Option Nat)×Nat))) (some (owner,k))=some (ow,k+hs.length)∧t8 mask ow all (k+hs.length)
 |[],owner,k,_,I,_,_=>⟨owner,rfl,I⟩
 |h::hs,owner,k,hh,I,hl,hat=>by
  simp only[afO]at hl
  have h0:all[k]? = some h:=by
   rcases hat 0 with q|q
   ·rw[aiE]at q;rw[←q];rfl
   ·simp at q
  obtain⟨j,e,I'⟩:=WB hm (hh h (.head _)) I (by omega) h0
  obtain⟨ow,e',uc⟩:=HA hm all hs _ (k+1) (fun h x=>hh h (.tail _ x)) I' (by omega) fun i=>by
   rcases hat (i+1)with q|q
   ·left;rw[show k+1+i=k+(i+1) by omega,←q];rfl
   ·right;simpa using q
  refine⟨ow,?_,by rw[afO,show k+(hs.length+1)=k+1+hs.length by omega];exact uc⟩
  rw[agH,afO,show k+(hs.length+1)=k+1+hs.length by omega,←e']
  congr 1
  show(do let j ←SetTable.layClean.free mask owner (SetTable.turns mask) (SetTable.bits h % (mask+1)) (SetTable.bits h);pure (owner.setIfInBounds j (some k),k+1):Option (Array (Option Nat)×Nat))=_
  rw[e]
  rfl
theorem WC{mask:Nat}(hm:gT mask) (hs:Array Int) (hh:∀h∈hs.toList,lR h) (hl:hs.toList.length≤mask) :
  ∃ow,SetTable.layClean mask hs=some ow∧t8 mask ow hs.toList hs.toList.length:=by
 obtain⟨ow,e,I⟩:=HA hm hs.toList hs.toList (Array.replicate (mask+1) none) 0 hh ⟨⟨by simp,by simp⟩,fun j i h=>by
  rw[Array.toList_replicate,afu,ajh]at h
  split at h<;>cases h⟩ (by omega) fun i=>.inl (by rw[agA])
 rw[agA]at e I
 refine⟨ow,?_,I⟩
 unfold SetTable.layClean
 rw[←ajy]
 exact congrArg (Option.map (fun x:Array (Option Nat)×Nat=>x.1)) e
theorem PB{t:SetTable}{es:Array (Int×Value)}(hh:∀e∈es.toList,lR e.1) (hm:es.size=5∨es.size=19) :
  ∃t2 order,t.relaid (es.map (·.1)) (SetTable.grown es.size)=some (t2,order)∧(order.filterMap (es[·]?)).size=es.size∧je t2 (order.filterMap (es[·]?))∧t2.led=t.led∧(order.filterMap (es[·]?)).toList.Perm es.toList:=by
 have hw:∃m,SetTable.sizeAbove (SetTable.grown es.size)-1=m∧((m=31∧es.size=5)∨(m=127∧es.size=19)):=by
  rcases hm with e|e
  ·rw[e];exact⟨31,by decide,.inl ⟨rfl,rfl⟩⟩
  ·rw[e];exact⟨127,by decide,.inr ⟨rfl,rfl⟩⟩
 obtain⟨m,ew,hq⟩:=hw
 have hs:(es.map (·.1)).toList=es.toList.map (·.1):=by simp
 have hok:gT m:=by unfold gT;omega
 have BD:∀h∈(es.map (·.1)).toList,lR h:=fun h hx=>by
  rw[hs,afx]at hx
  obtain⟨y,hy,rfl⟩:=hx
  exact hh y hy
 have sR:(es.map (·.1)).toList.length≤m:=by rw[hs,afy,afM];omega
 obtain⟨ow,e,⟨h1,h2⟩,Yr⟩:=WC hok (es.map (·.1)) BD sR
 rw[hs,afy,afM]at h2
 let live:List (Nat×Nat):=(List.range (m+1)).filterMap fun j=>(ow.getD j none).map (j,·)
 have hlive:∀q:Nat×Nat,q∈live↔q.1≤m∧ow.toList.getD q.1 none=some q.2:=fun q=>by
  simp only[live,ahH,aft]
  constructor
  ·rintro ⟨c,hc,e⟩
   cases ha:ow.getD c none<;>rw[ha]at e<;>simp at e
   subst e
   exact⟨by show c≤m;omega,by rw[←gX];exact ha⟩
  ·rintro ⟨h1,h2⟩
   exact⟨q.1,by omega,by rw[gX,h2];rfl⟩
 have hord:(live.map (·.2)).Perm (List.range es.size):=by
  have:live.map (·.2)=ow.toList.filterMap id:=by
   simp only[live]
   rw[←y9,h1,aiQ]
   congr 1
   funext j
   rw[gX]
   cases ow.toList.getD j none<;>rfl
  rw[this];exact h2
 have hup:Up (live.map (·.1)):=by
  show List.Pairwise _ _
  rw[ag9]
  refine ajz _ (fun a a' hlt b hb b' hb'=>?_) aiP
  cases ha:ow.getD a none<;>rw[ha]at hb<;>simp at hb
  cases ha':ow.getD a' none<;>rw[ha']at hb'<;>simp at hb'
  rw[←hb,←hb']
  exact hlt
 have hlen:live.length=es.size:=by
  have:=hord.length_eq
  simpa using this
 have hes:(((live.map (·.2)).toArray).filterMap (es[·]?)).toList.Perm es.toList:=by
  rw[aiR]
  exact(hord.filterMap _).trans (by rw[ajA])
 have sU:(((live.map (·.2)).toArray).filterMap (es[·]?)).size=es.size:=by
  rw[←afM,hes.length_eq,afM]
 have hlt:∀q∈live,q.2<es.size:=fun q hq=>aft.mp (hord.mem_iff.mp (afx.mpr ⟨q,hq,rfl⟩))
 have hfm:∀(l:List (Nat×Nat)),(∀q∈l,q.2<es.size)→(l.map (·.2)).filterMap (es[·]?)=l.map fun q=>es.toList.getD q.2 (0,.none):=by
  intro l
  induction l with
  |nil=>intro _;rfl
  |cons q l ih =>
   intro hq
   have Yw:q.2<es.size:=hq q (.head _)
   rw[afC,ahf,afC,ih fun y hy=>hq y (.tail _ hy)]
   have:es[q.2]? = some (es.toList.getD q.2 (0,.none)):=by
    rw[←afW,afu,afz (by simpa using Yw)]
    rfl
   rw[this]
 refine⟨{mask:=m,place:=(live.map (·.1)).toArray,dummies:=#[],finger:=t.finger,led:=t.led,moves:=t.movedTo m,plain:=t.plain},(live.map (·.2)).toArray,?_,sU,⟨?_,?_,?_,rfl,?_,?_⟩,rfl,hes⟩
 ·unfold SetTable.relaid SetTable.laid
  rw[ew,e]
  rfl
 ·show((live.map (·.1)).toArray).size=_
  rw[sU,afF,afy,hlen]
 ·exact hup
 ·intro j hj
  have hj:j∈live.map (·.1):=hj
  obtain⟨q,hq,rfl⟩:=afx.mp hj
  exact((hlive q).mp hq).1
 ·rw[sU]
  exact .inr (by show(m=31∧_)∨(m=127∧_);omega)
 ·intro q hq
  have hq:q∈(live.map (·.1)).zip (((live.map (·.2)).toArray).filterMap (es[·]?)).toList:=hq
  rw[aiR]at hq
  have hq:q∈(live.map (·.1)).zip ((live.map (·.2)).filterMap (es[·]?)):=hq
  rw[hfm live hlt,List.zip_map',afx]at hq
  obtain⟨⟨j,i⟩,hji,rfl⟩:=hq
  obtain⟨IE,YG⟩:=(hlive (j,i)).mp hji
  obtain⟨h,hi,hr⟩:=Yr j i YG
  have hil:=hlt (j,i) hji
  have:h=(es.toList.getD i (0,.none)).1:=by
   rw[hs,afS,afz (by simpa using hil)]at hi
   rw[afu,afz (by simpa using hil)]
   simpa using hi.symm
  subst this
  obtain⟨n,hn,ej,hl⟩:=hr
  refine⟨n,hn,ej,fun k hk=>?_⟩
  have hle:=KJ m (es.toList.getD i (0,.none)).1 k
  have:=(Sh (k:=es.size) ⟨h1,h2⟩ hle).mp (hl k hk)
  show ic m _ k∈live.map (·.1)
  cases ho:ow.toList.getD (ic m (es.toList.getD i (0,.none)).1 k) none with
  |none=>exact absurd ho this
  |some i'=>exact afx.mpr ⟨(_,i'),(hlive (_,i')).mpr ⟨hle,ho⟩,rfl⟩
end L2
namespace L2
open PySem PySem.Spec PyProof.Rows
def hT(ks:List Int):Int:=reduceHash (Builtin.Tuple.tupleHashOf (ks.map hashInt))
def dH(ks:List Int):Prop:=∃i j:Nat,i<8∧j<8∧ks=[(i:Int),(j:Int)]
def hP(n:Nat):Int:=hT [((n/8:Nat):Int),((n % 8:Nat):Int)]
def Gu(h:Int):Bool:=([7,31,127].all fun m=>eY m (10*(m+15)) (SetTable.bits h % (m+1)) (SetTable.runEnd m (SetTable.bits h % (m+1))-SetTable.bits h % (m+1)) (SetTable.bits h % (m+1)) (SetTable.bits h) 0) && [31,127].all fun m=>lG m (m+15) (SetTable.bits h % (m+1)) (SetTable.bits h) 0
theorem acW:((List.range 64).all fun n=>Gu (hP n))=true:=by decide +kernel
def eqZ(a b:Int):Bool:=match a,b with
 |.ofNat x,.ofNat y=>Nat.beq x y
 |.negSucc x,.negSucc y=>Nat.beq x y
 |_,_=>false
def vh(l:List Int):Bool:=match l with
 |[]=>true
 |x::r=>r.all (fun y=>!eqZ x y)&&vh r
theorem Jo(a:Int):eqZ a a=true:=by cases a<;>exact Nat.beq_refl _
theorem acY:vh ((List.range 64).map hP)=true:=by decide +kernel
theorem GZ:∀{l:List Int},vh l=true→∀{i k:Nat}{x:Int},l[i]? = some x→l[k]? = some x→i=k
 |[],_,i,k,x,h,_=>by simp at h
 |y::r,h,i,k,x,h1,h2=>by
  unfold vh at h
  rw[afE,afG]at h
  cases i with
  |zero =>
   cases k with
   |zero=>rfl
   |succ k =>
    have e:y=x:=by simpa using h1
    have:=h.1 x (afT (by simpa using h2))
    rw[e,Jo]at this
    cases this
  |succ i =>
   cases k with
   |zero =>
    have e:y=x:=by simpa using h2
    have:=h.1 x (afT (by simpa using h1))
    rw[e,Jo]at this
    cases this
   |succ k=>rw[GZ h.2 (i:=i) (k:=k) (by simpa using h1) (by simpa using h2)]
theorem dH.num{ks:List Int}(h:dH ks):∃n,n<64∧ks=[((n/8:Nat):Int),((n % 8:Nat):Int)]:=by
 obtain⟨i,j,hi,hj,rfl⟩:=h
 refine⟨8*i+j,by omega,?_⟩
 rw[show(8*i+j)/8=i by omega,show(8*i+j) % 8=j by omega]
theorem dH.eY{ks:List Int}(h:dH ks):lR (hT ks):=by
 obtain⟨n,hn,rfl⟩:=h.num
 have:=afG.mp acW n (aft.mpr hn)
 unfold Gu at this
 rw[afE,afG,afG]at this
 refine⟨fun m hm=>this.1 m ?_,fun m hm=>this.2 m ?_⟩
 ·rcases hm with rfl|rfl|rfl<;>decide
 ·rcases hm with rfl|rfl<;>decide
theorem dH.inj{a b:List Int}(ha:dH a) (hb:dH b) (h:hT a=hT b):a=b:=by
 obtain⟨n,hn,rfl⟩:=ha.num
 obtain⟨k,hk,rfl⟩:=hb.num
 have h1:((List.range 64).map hP)[n]? = some (hP n):=by rw[afS,agk hn];rfl
 have h2:((List.range 64).map hP)[k]? = some (hP n):=by
  rw[afS,agk hk]
  exact congrArg some h.symm
 rw[GZ acY h1 h2]
section
variable {prog:Program}{w:World}{A:Around}{E:Value→Shared→Prop}{s:Shared}
theorem EK{h:Heap}{ks:List Int}{x:Addr}(hu:dH ks) (hx:IsTupleKey (intKind prog w) h ks x):∃o a b n,h.get? x=some o∧o.cls=.type "tuple"∧o.data=.seq #[a,b] n∧(∃i t,a=.int i t)∧∃i t,b=.int i t:=by
 obtain⟨i,j,_,_,rfl⟩:=hu
 obtain⟨o,items,n,h1,h2,h3,h4⟩:=hx
 cases hi:items.toList with
 |nil=>rw[hi]at h4;cases h4
 |cons a r =>
  rw[hi]at h4
  cases h4 with
  |cons q1 q2 =>
   cases r with
   |nil=>cases q2
   |cons b r2 =>
    cases q2 with
    |cons q3 q4 =>
     cases q4
     refine⟨o,a,b,n,h1,h2,?_,?_,?_⟩
     ·rw[h3];congr 1
      apply Array.toList_inj.mp
      rw[hi]
     ·obtain⟨t,e⟩:=ahE q1;exact⟨_,t,e⟩
     ·obtain⟨t,e⟩:=ahE q3;exact⟨_,t,e⟩
theorem ab7{ks:List Int}{x:Addr}{Q:Bool→Shared→Prop}(hu:dH ks) (hx:IsTupleKey (intKind prog w) s.heap ks x) (h:∀b,Q b s):wpAny (model prog w) A (hashByValue 8 (.ref x)) Q E s:=by
 obtain⟨o,a,b,n,h1,h2,h3,⟨i,t,rfl⟩,j,u,rfl⟩:=EK hu hx
 rw[hashByValue.eq_12]
 refine afq (wpAny_specialOf (T:="tuple") ⟨o,h1,h2⟩ F.slot_tuple_hash.lookup ?_)
 dsimp only
 refine afq (agq h1 h3 ?_)
 dsimp only[Option.getD]
 refine afq ?_
 rw[←ajP]
 simp only[agX,ahQ]
 simp only[aiT 7 (x:=.int i t) rfl,aiT 7 (x:=.int j u) rfl,plainKind]
 refine afq (afq (afr ?_))
 refine afr ?_
 refine afq (afq (afr ?_))
 refine afr ?_
 exact afr (afr (h _))
theorem GX{ks:List Int}{x:Addr}{Q:Bool→Shared→Prop}(hu:dH ks) (hx:IsTupleKey (intKind prog w) s.heap ks x) (h:Q false s):wpAny (model prog w) A (ofAClassStatement 8 (.ref x)) Q E s:=by
 obtain⟨o,a,b,n,h1,h2,h3,⟨i,t,rfl⟩,j,u,rfl⟩:=EK hu hx
 rw[ofAClassStatement.eq_def]
 dsimp only
 refine afq (wpAny_typeOf_ref h1 ?_)
 rw[h2]
 dsimp only
 simp only[beq_self_eq_true,if_true]
 refine afq (afr ?_)
 simp only[ahw,af0,if_false]
 refine afq (agq h1 h3 ?_)
 dsimp only
 refine afq ?_
 rw[←ajP]
 simp only[agX,ahQ]
 have e1:ofAClassStatement 7 (.int i t)=pure false:=by rw[ofAClassStatement.eq_def]
 have e2:ofAClassStatement 7 (.int j u)=pure false:=by rw[ofAClassStatement.eq_def]
 rw[e1]
 refine afq (afq (afr ?_))
 refine afr ?_
 dsimp only
 rw[e2]
 refine afq (afq (afr ?_))
 refine afr ?_
 exact afr (afr h)
theorem U8{ks:List Int}{x:Addr}{Q:Bool→Shared→Prop}(hu:dH ks) (hx:IsTupleKey (intKind prog w) s.heap ks x) (l:List Value) (hl:∀v∈l,∃k y,v=.ref y∧dH k∧IsTupleKey (intKind prog w) s.heap k y) (h:Q false s):wpAny (model prog w) A (searchCouldBeSeen (.ref x) l) Q E s:=by
 unfold searchCouldBeSeen
 refine afq ?_
 have go:∀(l:List Value),(∀v∈l,∃k y,v=.ref y∧dH k∧IsTupleKey (intKind prog w) s.heap k y)→∀{R:Option Bool×Unit→Shared→Prop},R (none,()) s→wpAny (model prog w) A (forIn l (none,()) fun y __s =>
    have __r:=__s;
    have Mp :=
     match(Value.ref x),y with
     |Value.ref a,Value.ref b=>a==b
     |x,x_1=>false;
    if(Mp||carriedByValue (.ref x)&&carriedByValue y)=true then pure (ForInStep.yield (none,()))
    else do
     let __do_lift ←eqIsQuiet 8 (.ref x)
     if(!__do_lift)=true then pure (ForInStep.done (some true,()))
      else do
       let __do_lift ←eqIsQuiet 8 y
       if(!__do_lift)=true then pure (ForInStep.done (some true,()))
        else do
         let __do_lift ←ofAClassStatement 8 (.ref x)
         if __do_lift=true then pure (ForInStep.done (some true,()))
          else do
           let __do_lift ←ofAClassStatement 8 y
           if __do_lift=true then pure (ForInStep.done (some true,()))
            else pure (ForInStep.yield (none,()))) R E s:=by
  intro l
  induction l with
  |nil=>intro _ R hR;exact afr hR
  |cons v l ih =>
   intro hl R hR
   obtain⟨k,y,rfl,ku,hy⟩:=hl _ (.head _)
   have ih:=ih (fun v hv=>hl v (.tail _ hv)) (R:=R)
   rw[agX]
   refine afq ?_
   dsimp only
   by_cases q:(x==y||carriedByValue (.ref x)&&carriedByValue (.ref y))=true
   ·rw[if_pos q]
    exact afr (ih hR)
   ·rw[if_neg q]
    refine afq ((tupleKind (intKind prog w)).quiet hx ?_)
    simp only[ahw,af0,if_false]
    refine afq ((tupleKind (intKind prog w)).quiet hy ?_)
    simp only[ahw,af0,if_false]
    refine afq (GX hu hx ?_)
    simp only[af0,if_false]
    refine afq (GX ku hy ?_)
    simp only[af0,if_false]
    exact afr (ih hR)
 exact go l hl (afr h)
end
end L2
namespace L2
open PySem PySem.Spec PyProof.Rows
def fL(ks:List (List Int)) (k:List Int):List (List Int):=if k∈ks then ks else ks++[k]
abbrev qu(q:List Int×Addr):Int×Value:=(hT q.1,.ref q.2)
def iI(P:Program) (w:World) (Y:Addr→Prop) (h:Heap) (a:Addr) (ks:List (List Int)):Prop:=∃o es ep t,∃L:List (List Int×Addr),h.get? a=some o∧o.ExactSet∧o.data=.set es ep t∧je t es∧es.toList=L.map qu∧(∀q∈L,dH q.1∧IsTupleKey (intKind P w) h q.1 q.2)∧(L.map (·.1)).Perm ks∧∀q∈L,Y q.2
theorem RG{α β:Type}{f:α→β}:∀{l:List β}{r:List α},l.Perm (r.map f)→∃l2:List α,l=l2.map f∧l2.Perm r:=by
 intro l r h
 generalize hm:r.map f=m at h
 induction h generalizing r with
 |nil =>
  cases r with
  |nil=>exact⟨[],rfl,.refl _⟩
  |cons a r=>cases hm
 |cons x _ ih =>
  cases r with
  |nil=>cases hm
  |cons a r =>
   rw[afC]at hm
   injection hm with h1 h2
   obtain⟨l2,e,p⟩:=ih h2
   exact⟨a::l2,by rw[afC,h1,e],p.cons a⟩
 |swap x y l =>
  cases r with
  |nil=>cases hm
  |cons a r =>
   cases r with
   |nil=>simp at hm
   |cons b r =>
    simp only[afC]at hm
    injection hm with h1 h2
    injection h2 with h3 h4
    exact⟨b::a::r,by simp only[afC];rw[h1,h3,h4],.swap a b r⟩
 |trans _ _ ih1 ih2 =>
  obtain⟨l2,e,p⟩:=ih2 hm
  obtain⟨l3,e3,p3⟩:=ih1 e.symm
  exact⟨l3,e3,p3.trans p⟩
section
variable {prog:Program}{w:World}{A:Around}{E:Value→Shared→Prop}{s:Shared}
theorem HF{h h':Heap}{a x:Addr}{k:List Int}{o:Obj}{es:Array (Int×Value)}{ep:Nat}{t:SetTable}(hx:IsTupleKey (intKind prog w) h k x) (ho:h.get? a=some o) (hd:o.data=.set es ep t) (sb:Heap.SameBut a h h'):IsTupleKey (intKind prog w) h' k x:=by
 obtain⟨o',items,n,h1,h2,h3,h4⟩:=hx
 have hne:x≠a:=fun e=>by
  subst e
  rw[ho]at h1
  cases h1
  rw[hd]at h3
  cases h3
 exact⟨o',items,n,by rw[sb.2 x hne];exact h1,h2,h3,h4⟩
theorem Zf{t:SetTable}{es:Array (Int×Value)}(I:je t es):t.gaveWay=false:=by
 unfold SetTable.gaveWay
 rcases I.ok with e|e|e<;>rw[e]<;>rfl
theorem find_key{ks:List (List Int)}{es:Array (Int×Value)}{L:List (List Int×Addr)}{k:List Int}{i:Nat}{e:Int×Value}(hL:es.toList=L.map qu) (hu:∀q∈L,dH q.1∧IsTupleKey (intKind prog w) s.heap q.1 q.2) (hk:dH k) (h1:es[i]? = some e) (h2:e.1=hT k) :
  ∃y,e=(hT k,.ref y)∧IsTupleKey (intKind prog w) s.heap k y∧k∈L.map (·.1):=by
 have:e∈L.map qu:=by rw[←hL];exact afT (by rw[afW];exact h1)
 obtain⟨q,hq,rfl⟩:=afx.mp this
 have e1:=(hu q hq).1.inj hk h2
 refine⟨q.2,?_,?_,?_⟩
 ·show(hT q.1,_)=_;rw[e1]
 ·rw[←e1];exact(hu q hq).2
 ·rw[←e1];exact afx.mpr ⟨q,hq,rfl⟩
theorem OD{Y:Addr→Prop}{a x:Addr}{ks:List (List Int)}{k:List Int}{Q:Bool→Shared→Prop}(hr:A.units<cLine) (hk:dH k) (hx:IsTupleKey (intKind prog w) s.heap k x) (hY:Y x) (hS:iI prog w Y s.heap a ks) (hn:ks.length<64)
  (h:∀b h',Heap.SameBut a s.heap h'→iI prog w Y h' a (fL ks k)→Q b {s with heap:=h'}):wpAny (model prog w) A (setAddHashed a (.ref x) (hT k)) Q E s:=by
 have YY:=hS
 obtain⟨o,es,ep,t,L,ho,hex,hd,I,hL,hu,hp,Iq⟩:=hS
 have hsz:es.size=ks.length:=by
  have:=congrArg List.length hL
  rw[afy,afM]at this
  rw[this,←hp.length_eq,afy]
 unfold setAddHashed setAddHashedIn
 refine agl (afq (agB ho hd I.fits ?_))
 dsimp only
 rw[show byScan (.ref x) es=false from rfl]
 simp only[af0,if_false]
 refine afq ?_
 unfold setSearch setSearchFrom
 refine afq (agB ho hd I.fits ?_)
 dsimp only
 rw[Zf I]
 simp only[af0,if_false]
 by_cases hk2:k∈ks
 ·have YE:k∈L.map (·.1):=hp.mem_iff.mpr hk2
  obtain⟨q,hq,rfl⟩:=afx.mp YE
  have he:qu q∈es.toList:=by rw[hL];exact afx.mpr ⟨q,hq,rfl⟩
  obtain⟨j,i,next,e',sO,h1,h2⟩:=ZE I he
  obtain⟨y,rfl,hy,_⟩:=find_key (ks:=ks) hL hu hk h1 h2
  have hst:fL ks q.1=ks:=by unfold fL;rw[if_pos hk2]
  rw[hst]at h
  have fin:∀(aeg:Unit),Q false s:=fun _=>h false s.heap (Heap.SameBut.refl a s.heap) YY
  split
  ·rename_i met heq
   have hm:met=.candidate j i next:=by
    have:=heq.symm.trans sO
    cases this;rfl
   subst hm
   dsimp only
   simp only[h1]
   have tail:∀{R:SetFound→Shared→Prop}{F:Bool→(Array (Int×Value)×Nat×SetTable)→Sem SetFound},R (.there none) s→wpAny (model prog w) A (do
     let equal ←holding [Value.ref y] (eqBool (.ref y) (.ref x))
     let z ←setState a
     if(true&&equal)=true then pure (SetFound.there none)else F equal z) R E s:=fun{R F} hR=>by
    refine afq (agl ((tupleKind (intKind prog w)).eqBool hr hy hx ?_))
    refine afq (agB ho hd I.fits ?_)
    rw[if_pos (by simp)]
    exact afr hR
   cases hl:t.led with
   |false =>
    simp only[ahb,if_true]
    refine afq (U8 hk hx _ (fun v hv=>?_) ?_)
    ·obtain⟨e,he,rfl⟩:=afx.mp hv
     have he:e∈es.toList:=by
      have:=Array.mem_filter.mp (aie.mp he)
      exact aie.mpr this.1
     rw[hL]at he
     obtain⟨q',hq',rfl⟩:=afx.mp he
     exact⟨q'.1,q'.2,rfl,hu q' hq'⟩
    ·simp only[af0,if_false]
     exact tail (afr (fin ()))
   |true =>
    simp only[ahw,af0,if_false]
    exact tail (afr (fin ()))
  ·rename_i hne
   exact absurd sO (hne _)
 ·have hno:∀e∈es.toList,e.1≠hT k:=fun e he z=>by
   rw[hL]at he
   obtain⟨q,hq,rfl⟩:=afx.mp he
   have:=(hu q hq).1.inj hk z
   exact hk2 (hp.mem_iff.mp (afx.mpr ⟨q,hq,this⟩))
  obtain⟨j,sO,hj,IE,Yv⟩:=ZF I hk.eY hno
  have hst:fL ks k=ks++[k]:=by unfold fL;rw[if_neg hk2]
  rw[hst]at h
  split
  ·rename_i met heq
   have hm:met=.empty j none:=by
    have:=heq.symm.trans sO
    cases this;rfl
   subst hm
   dsimp only
   refine afr ?_
   dsimp only
   refine afq (agB ho hd I.fits ?_)
   dsimp only
   obtain⟨p1,p2,p3,p4,p5,p6⟩:=Ql I (x:=.ref x) hj IE Yv
   have yC:∀t1:SetTable,t1.mask=t.mask→t1.place=(t.put j).1.place→t1.dummies=(t.put j).1.dummies→wpAny (model prog w) A (do
     storeSet a (SetTable.insertAt es (t.put j).snd (hT k,Value.ref x)) t1
     if(!false&&t1.tooFull)=true then do
      setRelay a (SetTable.grown (es.size+1))
      pure true
     else pure true) Q E s:=fun t1 m1 m2 m3=>by
    have sN:(t.put j).snd=SetTable.below t.place j:=rfl
    rw[sN]
    generalize YL:SetTable.insertAt es (SetTable.below t.place j) (hT k,Value.ref x)=es1 at p1 p6
    rw[←m2,←m1]at p6
    rw[←m2]at p2 p3 p4
    rw[←m1]at p4
    rw[←m3]at p5
    have ql:es1.toList=(L.take (SetTable.below t.place j)++(k,x)::L.drop (SetTable.below t.place j)).map qu:=by
     rw[←YL,ahZ,hL,agP,afC,List.map_take,List.map_drop]
    have BI:((L.take (SetTable.below t.place j)++(k,x)::L.drop (SetTable.below t.place j)).map (·.1)).Perm (ks++[k]):=by
     refine((ai6 (a:=(k,x)) (l₁:=L.take (SetTable.below t.place j)) (l₂:=L.drop (SetTable.below t.place j))).map (·.1)).trans ?_
     rw[agQ,afC]
     exact(hp.cons k).trans (aiN k ks).symm
    have hu1:∀q∈(L.take (SetTable.below t.place j)++(k,x)::L.drop (SetTable.below t.place j)),dH q.1∧IsTupleKey (intKind prog w) s.heap q.1 q.2:=fun q hq=>by
     rw[af3,afv]at hq
     rcases hq with q1|rfl|q1
     ·exact hu q (agO q1)
     ·exact⟨hk,hx⟩
     ·exact hu q (ah0 q1)
    have BF:∀q∈(L.take (SetTable.below t.place j)++(k,x)::L.drop (SetTable.below t.place j)),Y q.2:=fun q hq=>by
     rw[af3,afv]at hq
     rcases hq with q1|rfl|q1
     ·exact Iq q (agO q1)
     ·exact hY
     ·exact Iq q (ah0 q1)
    generalize L.take (SetTable.below t.place j)++(k,x)::L.drop (SetTable.below t.place j)=L1 at ql BI hu1 BF
    have hM:=I.mask
    have hz0:(#[]:Array Nat).size=0:=rfl
    have hfit:t1.fits es1.size=true:=by
     simp only[SetTable.fits,SetTable.fill,p2,p5,p1,hz0,m1,afE,beq_self_eq_true,true_and,decide_eq_true_eq]
     omega
    have sl:100<sizeLine:=by decide
    refine afq (ah4 ho hd ?_ (by omega))
    have lA:=uO (es':=es1) (t':=t1) ho hd
    have gu:=agz s.heap a (Obj.putSet es1 t1)
    have hk1:∀q∈L1,dH q.1∧IsTupleKey (intKind prog w) (s.heap.update a (Obj.putSet es1 t1)) q.1 q.2:=fun q hq=>⟨(hu1 q hq).1,HF (hu1 q hq).2 ho hd gu⟩
    cases hf:t1.tooFull with
    |false =>
     simp only[ahb,ais,af0,if_false]
     have hf2:((t1.mask=7∧es1.size≤4)∨(t1.mask=31∧es1.size≤18)∨(t1.mask=127∧es1.size≤76)):=by
      simp only[SetTable.tooFull,SetTable.fill,p2,p5,hz0,m1,decide_eq_false_iff_not]at hf
      rw[m1]
      omega
     exact afr (h true _ gu ⟨_,es1,ep+1,t1,L1,lA,hex,rfl,⟨by rw[p2,p1],p3,p4,p5,hf2,p6⟩,ql,hk1,BI,BF⟩)
    |true =>
     simp only[ahb,aiU,if_true]
     have hf2:es1.size=5∨es1.size=19:=by
      simp only[SetTable.tooFull,SetTable.fill,p2,p5,hz0,m1,decide_eq_true_eq]at hf
      omega
     have BD:∀e∈es1.toList,lR e.1:=fun e he=>by
      rw[ql]at he
      obtain⟨q,hq,rfl⟩:=afx.mp he
      exact(hu1 q hq).1.eY
     obtain⟨t2,order,r1,r2,r3,r4,r5⟩:=PB (t:=t1) BD hf2
     generalize sU:order.filterMap (es1[·]?)=iG at r2 r3 r5
     refine afq ?_
     unfold setRelay
     refine afq (agB lA rfl hfit ?_)
     dsimp only
     have hw:¬SetTable.sizeAbove (SetTable.grown (es.size+1))>sizeLine:=by
      rw[←p1]
      rcases hf2 with e|e<;>rw[e]<;>decide
     rw[if_neg hw,←p1,r1]
     refine afq (ahl (show _=pure (iG,t2)from ?_) ?_)
     ·show(if((order.filterMap (es1[·]?)).size != es1.size)=true then(do let _ ←unsupported "internal:set-table-lost-an-element";pure (order.filterMap (es1[·]?),t2))else pure (order.filterMap (es1[·]?),t2))=_
      rw[sU,r2]
      simp
     ·dsimp only
      refine ah4 lA rfl ?_ (by omega)
      have Yt:=agz (s.heap.update a (Obj.putSet es1 t1)) a (Obj.putSet iG t2)
      have IA:=gu.trans Yt
      have ho2:=uO (es':=iG) (t':=t2) lA rfl
      obtain⟨L2,BK,BJ⟩:∃L2:List (List Int×Addr),iG.toList=L2.map qu∧L2.Perm L1:=by
       rw[ql]at r5
       exact RG r5
      refine afr (h true _ IA ⟨_,iG,ep+1+1,t2,L2,ho2,hex,rfl,r3,BK,fun q hq=>?_,(BJ.map _).trans BI,fun q hq=>BF q (BJ.mem_iff.mp hq)⟩)
      have hq1:=BJ.mem_iff.mp hq
      exact⟨(hu1 q hq1).1,HF (hu1 q hq1).2 ho hd IA⟩
   have mk:(t.put j).1.mask=t.mask:=rfl
   by_cases hpl:(t.put j).fst.plain=true
   ·rw[if_pos hpl]
    refine afq (ab7 hk hx fun b=>?_)
    cases b with
    |true=>exact yC _ rfl rfl rfl
    |false=>exact yC _ rfl rfl rfl
   ·rw[if_neg hpl]
    refine afq (afr ?_)
    exact yC _ rfl rfl rfl
  ·rename_i hne
   exact absurd sO (hne _)
end
end L2
namespace L2
open PySem PySem.Spec PyProof.Rows
def c8(xs:List (List Int)):List (List Int):=xs.foldl fL []
theorem Zx{xs:List (List Int)}{i:Nat}(h:i<xs.length):c8 (xs.take (i+1))=fL (c8 (xs.take i)) xs[i]:=by
 unfold c8
 rw[aiV h,ah5]
 rfl
theorem Jd:∀(xs ns:List (List Int)),ns.length≤(xs.foldl fL ns).length
 |[],ns=>afs _
 |x::xs,ns=>by
  have:=Jd xs (fL ns x)
  have h:ns.length≤(fL ns x).length:=by unfold fL;split<;>simp
  rw[agH];omega
theorem Zy(xs:List (List Int)) (i:Nat):(c8 (xs.take i)).length≤(c8 xs).length:=by
 have:c8 xs=(xs.drop i).foldl fL (c8 (xs.take i)):=by
  unfold c8
  rw[←ah5,agQ]
 rw[this]
 exact Jd _ _
section
variable {prog:Program}{w:World}{A:Around}{s:Shared}{E:Value→Shared→Prop}
theorem IsTupleKey.at{h h':Heap}{k:List Int}{y:Addr}(x:IsTupleKey (intKind prog w) h k y) (e:∀o,h.get? y=some o→h'.get? y=some o):IsTupleKey (intKind prog w) h' k y :=
 let⟨o,it,n,h1,r⟩:=x;⟨o,it,n,e o h1,r⟩
theorem iI.at{Y:Addr→Prop}{h h':Heap}{a:Addr}{ks:List (List Int)}(x:iI prog w Y h a ks) (k:∀b,(b=a∨Y b)→∀o,h.get? b=some o→h'.get? b=some o):iI prog w Y h' a ks :=
 let⟨o,es,ep,t,L,ho,h1,h2,h3,h4,h5,h6,h7⟩:=x
 ⟨o,es,ep,t,L,k a (.inl rfl) o ho,h1,h2,h3,h4,fun q hq=>⟨(h5 q hq).1,IsTupleKey.at (h5 q hq).2 (k q.2 (.inr (h7 q hq)))⟩,h6,h7⟩
theorem OB{R:Result→Shared→Prop}{I:Addr}{fp wr:List Addr}{G:Array GenState→Array GenState→Prop}{P:Nat→Value→Prop}{St:Nat→Shared→Prop}{xs:List (List Int)}{ys:List Addr}(hys:ys.length=xs.length)
  (W:WalksS prog w A.in1 I fp wr G xs.length P St) (S:Addr) (hSf:S∉fp) (hval:∀(i:Nat) v,(hi:i<xs.length)→P i v→v=Value.ref (ys[i]'(by omega))) (hx:∀x∈xs,dH x) (Bs:∀y∈ys,y≠S∧y∉wr) (h64:(c8 xs).length<64) (hr:A.in1.units<cLine) :
  ∀(k i:Nat) (s:Shared),xs.length-i=k→i≤xs.length→St i s→iI prog w (·∈ys) s.heap S (c8 (xs.take i))→(∀j,(hj:j<xs.length)→IsTupleKey (intKind prog w) s.heap xs[j] (ys[j]'(by omega))) →
   (∀s',Moved (S::wr) G s s'→iI prog w (·∈ys) s'.heap S (c8 xs)→R (.ok (.ret .none)) s') →
   codeAny (model prog w) A (.builtin "set.update.loop" ⟨[.ref S,.ref I],[]⟩) R s:=by
 have vJ:S∉wr:=fun h=>hSf (W.sub _ h)
 have hup:∀b∈wr,b∈S::wr:=fun b hb=>.tail _ hb
 have IL:∀b,(b=S∨b∈ys)→b∉wr:=fun b hb=>hb.elim (fun e=>e▸vJ) fun m=>(Bs b m).2
 intro k
 induction k with
 |zero =>
  intro i s hk hi st hS hK hR
  cases(show i=xs.length by omega)
  refine agJ ah6 ?_
  rw[aht ahc _]
  show wpAny _ A.in1 (pyNext (.ref I) >>= _) _ _ s
  refine afq (W.done s _ _ st fun s' hm=>?_)
  rw[agC]at hS
  exact afr (hR s' (hm.mono hup) (hS.at fun b hb o e=>hm.heap b _ (IL b hb) e))
 |succ k ih =>
  intro i s hk hi st hS hK hR
  have hlt:i<xs.length:=by omega
  have mU:i<ys.length:=by omega
  refine agJ ah6 ?_
  rw[aht ahc _]
  show wpAny _ A.in1 (pyNext (.ref I) >>= _) _ _ s
  refine afq (W.item i s _ _ hlt st fun v s' hP st' hm=>?_)
  cases hval i v hlt hP
  have hS':iI prog w (·∈ys) s'.heap S (c8 (xs.take i)):=hS.at fun b hb o e=>hm.heap b _ (IL b hb) e
  have BL:∀j,(hj:j<xs.length)→IsTupleKey (intKind prog w) s'.heap xs[j] (ys[j]'(by omega)):=fun j hj=>IsTupleKey.at (hK j hj) fun o e=>hm.heap _ _ ((Bs _ (afX (by omega))).2) e
  show wpAny _ A.in1 (holding [Value.ref ys[i]] (setAdd S (.ref ys[i])) >>= _) _ _ s'
  refine afq (agl ?_)
  unfold setAdd
  refine agl (afq ((tupleKind (intKind prog w)).pyHash (k:=xs[i]) hr (BL i hlt) ?_))
  have hl:(c8 (xs.take i)).length<64:=aiv (Zy xs i) h64
  refine OD (Y:=(·∈ys)) (s:={s' with toks:=s'.toks+(tupleKind (intKind prog w)).draws xs[i]}) (k:=xs[i]) hr (hx _ (afX hlt)) (BL i hlt) (afX mU) hS' hl fun b h' gu jx=>?_
  rw[←Zx hlt]at jx
  refine afr ⟨aiW ahc _,ih (i+1) _ (by omega) hlt (W.frame _ s' _ _ st' (ag3 _ _) fun b hb o e=>?_) jx (fun j hj=>?_) fun s'' BA BH=>?_⟩
  ·rw[gu.2 b (fun q:b=S=>hSf (q▸hb))];exact e
  ·exact IsTupleKey.at (BL j hj) fun o e=>by
    show h'.get? _=some o
    rw[gu.2 _ (Bs _ (afX (by omega))).1];exact e
  ·refine hR s'' (Moved.trans W.gtrans ((hm.mono hup).then_heap (ag3 _ _) fun b o hb e=>?_) BA) BH
   rw[gu.2 b (fun q:b=S=>hb (q▸.head _))];exact e
theorem ZO(Y:Addr→Prop) {h:Heap}{a:Addr}(e:h.get? a=some (cK w)):iI prog w Y h a [] :=
 ⟨_,#[],0,_,[],e,⟨rfl,rfl,rfl⟩,rfl,⟨rfl,.nil,fun j h=>by simp[SetTable.fresh]at h,rfl,.inl ⟨rfl,by simp⟩,fun q hq=>by simp[SetTable.fresh]at hq⟩,rfl,fun q hq=>(by cases hq),.refl _,fun q hq=>(by cases hq)⟩
set_option maxHeartbeats 3200000 in
theorem Oz{l:Addr}{items:Array Value}{xs:List (List Int)}{ys:List Addr}{Q:Value→Shared→Prop}(hys:ys.length=xs.length) (hh:A.handled=none) (hl:s.heap.IsList l items) (hi:items.toList=ys.map Value.ref) (hK:∀j,(hj:j<xs.length)→IsTupleKey (intKind prog w) s.heap xs[j] (ys[j]'(by omega))) (hx:∀x∈xs,dH x) (h64:(c8 xs).length<64) (hr:A.in1.in1.in1.units<cLine)
  (h:∀(h':Heap) (tk:Nat),iI prog w (·∈ys) h' s.heap.objs.size (c8 xs)→(∀b o,b<s.heap.objs.size→s.heap.get? b=some o→h'.get? b=some o)→Q (.ref s.heap.objs.size) {s with heap:=h',toks:=tk}) :
  wpAny (model prog w) A (call (.type "set") [.ref l]) Q E s:=by
 obtain⟨c,tl,ID⟩:=afQ.mro
 have hmade:=afQ.made
 have hsub:=afQ.sub
 refine ahI (ah7 (show wpAny _ _ (callAny (.type "set") _) _ _ _ from ?_))
 refine afr ⟨aiX _ (by decide +kernel),agJ aiY ?_⟩
 rw[aiZ (ai0 "set" [.ref l] []) rfl]
 have h1:=afQ.notType
 have h2:=afQ.canCreate
 have hct:=ai1 (.ref l)
 repeat any_goals (first|assumption|wp_step)
 refine agw (yL (.ref l) (E:=E) (Q₁:=fun obj s₁=>obj=.ref s.heap.objs.size∧s₁={s with heap:=s.heap.push (cK w)}) ⟨rfl,rfl⟩) fun r s₁ hr=>?_
 cases r with
 |error e=>exact hr
 |ok fl =>
  cases fl with
  |ret obj =>
   obtain⟨rfl,rfl⟩:=hr
   have hS:(s.heap.push (cK w)).get? s.heap.objs.size=some (cK w):=afI _ rfl
   have hT:Shared.TypeIs {s with heap:=s.heap.push (cK w)} (.ref s.heap.objs.size) "set":=⟨_,hS,rfl⟩
   have hli:=afQ.init.lookup
   have hbi:=afQ.init.bind (.ref s.heap.objs.size)
   repeat any_goals (first|assumption|wp_step)
   refine agw (ai2 (R:=wants (fun r s₂=>r=.none∧∃h' tk,s₂={s with heap:=h',toks:=tk}∧iI prog w (·∈ys) h' s.heap.objs.size (c8 xs) ∧
     (∀b o,b<s.heap.objs.size→s.heap.get? b=some o→h'.get? b=some o)) E) afQ.init.plain ai3 (ai4 hT ?_)) fun r₂ s₂ iD=>?_
   ·obtain⟨ol,gw,hcl,nl,hdl⟩:=hl
    obtain⟨GG,rY,Gx,rT⟩:=ol
    simp only at hcl hdl
    subst hcl;subst hdl
    have lz:(s.heap.push (cK w)).get? l=some {cls:=.type "list",dict:=rY,data:=.seq items nl,slots:=rT}:=afw _ gw
    have Iw:=ajD
    have Iz:=ajE
    have hne:(Value.type "list"==Value.type "dict")=false:=by decide
    have hl1:(s.heap.push (cK w)).IsList l items:=⟨_,lz,rfl,nl,rfl⟩
    unfold cK at hS hT lz ⊢
    unfold Builtin.«set.__init__» noKeywords Builtin.Frozenset.updateFrom
    generalize sX:pyIter=PI
    wp_walk
    subst sX
    refine ahg hl1 (afq (ai5 ?_))
    have hlS:l<s.heap.objs.size:=afA gw
    have hlen:items.size=xs.length:=by
     have:=congrArg List.length hi
     rw[afy,afM]at this
     omega
    have sQ:l≠(s.heap.push (cK w)).objs.size:=by rw[afV];exact afB (agp hlS)
    have hSf:s.heap.objs.size∉[(s.heap.push (cK w)).objs.size,l]:=by
     rw[afV];simp only[afv,afK,or_false,not_or];exact⟨afB (agx _),agm hlS⟩
    have W:=(ahV (prog:=prog) (w:=w) (A:=A.in1.in1.in1) (by simp[hh]) (s.heap.push (cK w)).objs.size l sQ items).toS
    rw[hlen]at W
    have Yq:∀y∈ys,∃k,IsTupleKey (intKind prog w) s.heap k y:=fun y hy=>by
     obtain⟨j,hj,rfl⟩:=agI hy
     exact⟨_,hK j (by omega)⟩
    have hyl:∀y∈ys,y<s.heap.objs.size∧y≠l:=fun y hy=>by
     obtain⟨k,o,it,n,q1,q2,q3,q4⟩:=Yq y hy
     refine⟨afA q1,fun e=>?_⟩
     subst e
     rw[gw]at q1
     cases q1
     injection q2 with z
     exact absurd z (by decide)
    refine OB (xs:=xs) (ys:=ys) hys W s.heap.objs.size hSf (fun i v hi' hv=>?_) hx (fun y hy=>?_) h64 hr xs.length 0 _ (by omega) (ags _) ⟨⟨_,afI _ rfl,rfl,rfl⟩,hl1.push _⟩ (ZO _ (afw _ hS)) (fun j hj=>IsTupleKey.at (hK j hj) fun o e=>afw _ (afw _ e)) fun s' hm hS'=>?_
    ·have hv:items[i]? = some v:=hv
     rw[←afW,hi,afS,afz (by omega)]at hv
     simpa using hv.symm
    ·have:=hyl y hy
     rw[afV]
     simp only[afv,afK,or_false]
     exact⟨afB this.1,fun z=>by first|exact absurd z (afB (agp this.1))|exact z.elim (fun z=>absurd z (afB (agp this.1))) this.2⟩
    ·obtain⟨h',g',d',tk',os'⟩:=s'
     cases(show g'=s.gens from hm.gens)
     cases(show d'=s.drawn from hm.drawn)
     cases(show os'=s.os from hm.os)
     refine afr (afr ⟨rfl,h',tk',rfl,hS',fun b o hb e=>?_⟩)
     exact hm.heap b o (by rw[afV];simp only[afv,afK,or_false,not_or];exact⟨afB hb,afB (agp hb)⟩) (afw _ (afw _ e))
   ·cases r₂ with
    |error e=>exact iD
    |ok tE =>
     cases tE with
     |ret r =>
      obtain⟨rfl,h',tk,rfl,hS',hk'⟩:=iD
      repeat any_goals (first|assumption|wp_step)
      exact h _ _ hS' hk'
     |_=>exact iD.elim
  |_=>exact hr.elim
end
end L2
namespace L2
open PySem PySem.Spec PyProof.Rows
def yM(P:Program) (w:World) (a:Addr) (n:Nat):Heap→Prop:=fun h=>∃o es ep t,h.get? a=some o∧o.ExactSet∧o.data=.set es ep t∧t.fits es.size=true∧es.size=n
def rP:D→Option (List Int)
 |.tup [.int i,.int j]=>if 0≤i∧i<8∧0≤j∧j<8 then some [i,j]else none
 |_=>none
def l9:List D→Option (List (List Int))
 |[]=>some []
 |d::l=>match rP d,l9 l with
  |some k,some r=>some (k::r)
  |_,_=>none
theorem QD{d:D}{k:List Int}(h:rP d=some k):dH k∧∃i j,k=[i,j]∧d=.tup [.int i,.int j]:=by
 unfold rP at h
 split at h
 ·rename_i i j
  split at h
  ·rename_i hb
   cases h
   exact⟨⟨i.toNat,j.toNat,by omega,by omega,by rw[show((i.toNat:Nat):Int)=i by omega,show((j.toNat:Nat):Int)=j by omega]⟩,i,j,rfl,rfl⟩
  ·cases h
 ·cases h
section
variable {X:Cx}
def PD(X:Cx):List V→Hp→VK→Prop:=fun xs H Q=>∃a ys ks,xs=[.ref a]∧aZ X.K H a (ys.map V.ref)∧Paired (fun(y:Addr) (k:List Int)=>dH k∧H y=some (.tup (k.map V.int))) ys ks∧(c8 ks).length<64∧∀p,H p=none→Q (.ref p) (upd H p (.ext (yM X.prog X.w p (c8 ks).length)))
theorem Gb{α β:Type}{R:α→β→Prop}:∀{l:List α}{r:List β},Paired R l r→l.length=r.length
 |_,_,.nil=>rfl
 |_,_,.cons _ q=>congrArg (· + 1) (Gb q)
theorem zk{α β:Type}{R:α→β→Prop}:∀{l:List α}{r:List β},Paired R l r→∀(j:Nat) (h1:j<l.length) (h2:j<r.length),R l[j] r[j]
 |_,_,.nil,_,h,_=>absurd h (ahq _)
 |_,_,.cons p q,0,_,_=>p
 |_,_,.cons p q,j+1,h1,h2=>zk q j (by simpa using h1) (by simpa using h2)
theorem WS{pins:List (Addr×Obj)}{σ:St}{H:Hp}{s:Shared}{y:Addr}{i j:Int}(I:Inv X pins σ H s) (h:H y=some (.tup [.int i,.int j])):IsTupleKey (intKind X.prog X.w) s.heap [i,j] y:=by
 obtain⟨_,its,hv,o,h1,h2,⟨n,h3⟩,_⟩:=I.hok y _ h
 cases hv with
 |cons r1 r2 =>
  cases r2 with
  |cons r3 r4 =>
   cases r4
   obtain⟨t1,rfl⟩:=r1
   obtain⟨t2,rfl⟩:=r3
   exact⟨o,_,n,h1,h2,h3,.cons (by simp[intKind,Value.isInt]) (.cons (by simp[intKind,Value.isInt]) .nil)⟩
theorem EA:∀{ys:List Addr}{us:List Value},Vals (ys.map V.ref) us→us=ys.map Value.ref
 |[],_,.nil=>rfl
 |y::ys,_,.cons e r=>by cases e;rw[EA r];rfl
theorem abm(hu:X.A.units+64<cLine) (hc:X.calm=true:=by rfl):dw X (.type "set") (PD X):=by
 intro pins s σ H xs us Q I rv h
 obtain⟨a,ys,ks,rfl,sq,hp,h64,q⟩:=h
 obtain⟨u,rfl,ru⟩:=agb rv
 cases ru
 obtain⟨its,ri,pl,hz⟩:=I.list sq
 have hl:=Gb hp
 refine Oz (xs:=ks) (ys:=ys) hl (I.ok.hd hc) pl.isList (by simpa using EA ri) (fun j hj=>?_) (fun x hx=>?_) h64 (by show X.A.units+1+1+1<cLine;omega) fun h' tk hS kp=>?_
 ·obtain⟨⟨i',j',_,_,e⟩,hH⟩:=zk hp j (by omega) hj
  rw[e]at hH ⊢
  exact WS I hH
 ·obtain⟨j,hj,rfl⟩:=agI hx
  exact(zk hp j (by omega) hj).1
 ·have hf:H s.heap.objs.size=none:=I.hok.fresh (afs _)
  obtain⟨o,es,ep,t,L,ho,hex,hd,IT,hL,_,qj,_⟩:=hS
  have hn:es.size=(c8 ks).length:=by
   have:=congrArg List.length hL
   rw[afy,afM]at this
   rw[this,←qj.length_eq,afy]
  refine⟨.ref s.heap.objs.size,upd H s.heap.objs.size (.ext (yM X.prog X.w s.heap.objs.size (c8 ks).length)),I.laid (t':=tk) (fun b u e=>kp b u (afA e) e) (afs _) ?_,rfl,q _ hf⟩
  exact⟨⟨o,es,ep,t,ho,hex,hd,IT.fits,hn⟩,⟨o,ho⟩,fun h1 h2 ⟨o,es,ep,t,ho,r⟩ k=>⟨o,es,ep,t,k o ho,r⟩⟩
def PU(X:Cx):List V→Hp→VK→Prop:=fun xs H Q=>∃a n,xs=[.ref a]∧H a=some (.ext (yM X.prog X.w a n))∧(n:Int)<2^63∧Q (.int (n:Nat)) H
theorem abo:dw X (.builtin "len") (PU X):=by
 intro pins s σ H xs us Q I rv h
 obtain⟨a,n,rfl,hH,hn,q⟩:=h
 obtain⟨u,rfl,ru⟩:=agb rv
 cases ru
 obtain⟨⟨o,es,ep,t,ho,hex,hd,hf,he⟩,_,_⟩:=I.hok a _ hH
 subst he
 exact call_len_set ho hex hd hf hn ⟨.int _,H,I.tok _,⟨_,rfl⟩,q⟩
def qA(a:aj):af:=fun e c=>(a e c).bind fun xs c=>match xs with
 |[x]=>match dX c x with
  |some l=>match l9 l with
   |some ks=>if(c8 ks).length<64 then .ok (.int (c8 ks).length) c else .bad
   |none=>.bad
  |none=>.bad
 |_=>.bad
theorem F1{K:PySem.W.Frag}{ρ:List Addr}{H:Hp}:∀{l:List D}{vs:List V}{ks:List (List Int)},aN K ρ H l vs→l9 l=some ks→∃ys:List Addr,vs=ys.map V.ref∧Paired (fun(y:Addr) (k:List Int)=>dH k∧H y=some (.tup (k.map V.int))) ys ks
 |[],vs,ks,r,h=>by
  cases h
  have:vs=[]:=by simpa[aN]using r
  exact⟨[],this,.nil⟩
 |d::l,vs,ks,r,h=>by
  unfold l9 at h
  split at h
  ·rename_i k rk h1 h2
   cases h
   obtain⟨v,vr,rfl,rd,rr⟩:=r
   obtain⟨hu,i,j,rfl,rfl⟩:=QD h1
   obtain⟨y,ws,rfl,hy,rw⟩:=rd
   obtain⟨v1,r1,rfl,e1,rw⟩:=rw
   obtain⟨v2,r2,rfl,e2,rw⟩:=rw
   cases rw
   cases e1
   cases e2
   obtain⟨ys,rfl,p⟩:=F1 rr h2
   exact⟨y::ys,rfl,.cons ⟨hu,hy⟩ p⟩
  ·cases h
theorem R8{e:Expr}{da:aj}{p1 p2 q1 q2:Pos}(hu:X.A.units+64<cLine) (ha:eF X [e] da) (hm:X.mg "len"=none) (hm2:X.mg "set"=none) (hg:Gl X "len":=by rfl) (iE:Gl X "set":=by rfl) (hc:X.calm=true:=by rfl)
  (he:starEach [e] X.env=(false,eval e X.env)::starEach [] X.env:=by exact cL rfl):aT X (.Call (.Name "len" p1) [.Call (.Name "set" p2) [e] [] q2] [] q1) (qA da):=by
 have Bw:PE X (.Call (.Name "set" p2) [e] [] q2) _:=kM (abm hu hc) iE hm2 (by decide +kernel) ha (by decide) (by decide) he (by exact fc rfl)
 refine(uS abo hg hm (by decide +kernel) (iT Bw iS (cL rfl)) (by decide) (by decide) (by exact cL rfl) (by exact fc rfl)).imp fun σ H Q h=>?_
 obtain⟨ρ,e,c,W,V,p⟩:=h
 refine⟨ρ,e,c,W,V,post.bind p fun xs c1 aO H1 vs ex W1 X1 r1 p1=>?_⟩
 clear ex
 split at p1
 ·rename_i x
  obtain⟨v,r,rfl,hx,hr⟩:=r1
  cases hr
  split at p1
  ·rename_i l hl
   split at p1
   ·rename_i ks hn
    split at p1
    ·rename_i hb
     obtain⟨a,vs,rfl,ha',rl⟩:=kU W1 hx hl
     obtain⟨ys,rfl,hp⟩:=F1 rl hn
     refine⟨a,ys,ks,rfl,aZ.of ha',hp,hb,fun q hq=>?_⟩
     refine⟨q,(c8 ks).length,rfl,fK,?_,?_⟩
     ·omega
     ·exact p1 aO _ _ (W1.fresh hq) (Ext.fresh W1 hq) rfl
    ·exact p1.elim
   ·exact p1.elim
  ·exact p1.elim
 ·exact p1.elim
end
@[simp] theorem adW(a:aj) (e:Ev) (c:aa):qA a e c=(a e c).bind fun xs c=>match xs with
 |[x]=>match dX c x with
  |some l=>match l9 l with
   |some ks=>if(c8 ks).length<64 then .ok (.int (c8 ks).length) c else .bad
   |none=>.bad
  |none=>.bad
 |_=>.bad:=rfl
end L2
namespace Ev
open PySem L2 PyProof.Rows
def top(i:Nat):Stmt:=PySem.Challenge.pw_evenwebs_k59_whole_cuts_and_squares_acro.main.body.getD i (.Pass ⟨0,0,0,0⟩)
abbrev oZ:Stmt:=top 7
abbrev oY:Stmt:=top 8
abbrev pq:Stmt:=top 11
abbrev oG:Stmt:=top 12
abbrev oE:Stmt:=top 13
abbrev oB:Stmt:=top 14
abbrev oH:Stmt:=top 15
abbrev pJ:Stmt:=top 16
abbrev om:Stmt:=top 17
abbrev oJ:Stmt:=top 18
abbrev pA:Stmt:=top 22
abbrev pG:Stmt:=top 23
abbrev pe:Stmt:=top 24
abbrev oF:Stmt:=top 25
abbrev oA:Stmt:=top 26
abbrev oK:Stmt:=top 27
abbrev pK:Stmt:=top 28
abbrev pH:Stmt:=top 29
abbrev pF:Stmt:=top 30
abbrev pI:Stmt:=top 31
abbrev oj:Stmt:=top 32
abbrev oz:Stmt:=top 33
abbrev oq:Stmt:=top 34
abbrev ou:Stmt:=top 35
abbrev pD:Stmt:=top 36
abbrev pC:Stmt:=top 37
abbrev pB:Stmt:=top 38
abbrev oW:Stmt:=top 40
abbrev oR:Stmt:=top 41
abbrev oM:Stmt:=top 42
abbrev oU:Stmt:=top 43
abbrev oV:Stmt:=top 44
abbrev oO:Stmt:=top 45
abbrev oN:Stmt:=top 46
abbrev oQ:Stmt:=top 47
abbrev oX:Stmt:=top 48
def iK:List (Int×List Int):=[(2,[2,1,0]),(3,[3,1,0]),(4,[2,2,3]),(5,[5,1,0]),(7,[7,1,0]),(8,[2,3,3]),(9,[3,2,1]),(11,[11,1,0]),(13,[13,1,0]),(16,[2,4,3]),(17,[17,1,0]),(19,[19,1,0]),(23,[23,1,0]),(25,[5,2,2]),(27,[3,3,7]),(29,[29,1,0]),(31,[31,1,0]),(32,[2,5,5]),(37,[37,1,0]),(41,[41,1,0]),(43,[43,1,0]),(47,[47,1,0]),(49,[7,2,1])]
def nA:ah :=
 (aP (gc (aF bV (ao (ak 0) (ao (dC (.ty "int")) aq))) (C5 (aF bV (ao (ak 0) (ao (dC (.ty "bool")) aq))))))
def mO:List D→aa→R D:=bN 1 false nA
def lJ:ah :=
 (aP (gc (aA 1 mO (ao (ak 0) aq)) (m9 jr jr (ak 1) (ak 0) (ak 2))))
def gr:List D→aa→R D:=bN 3 false lJ
def qU:ah :=
 (aP (gc (aA 1 mO (ao (ak 0) aq)) (au (sL "FIELDS" iK) (ak 0) (dC (.fn "FIELDS" 0)))))
def mP:List D→aa→R D:=bN 1 false qU
def qL:ah :=
 (bw (bR (aM (aA 1 mP (ao (ak 0) aq)))) fW bz)
def vz:List D→aa→R D:=bN 1 false qL
def qK:ah :=
 (aE (bW (aA 1 vz (ao (ak 0) aq))) (cz (b9 (ak 1)) (az 2) (bw (bR (aM (aA 3 gr (ao (ak 2) (ao (dC (.int 0)) (ao (au eT (ak 0) (dC (.int 1))) aq)))))) fW bz)))
def mG:List D→aa→R D:=bN 3 false qK
def qJ:ah :=
 (aE (aH 2 (i8 (mX iK 0) (ak 0))) (aE (aH 3 (dG aq)) (aE (aH 4 (ak 1)) (aE (cz (aW (ao (i8 (mX iK 1) (ak 0)) aq)) (az 5) (aE (bW (fk (ak 3) (au cJ (ak 4) (ak 2)))) (aH 4 (au i7 (ak 4) (ak 2))))) (aP (ak 3))))))
def gp:List D→aa→R D:=bN 6 false qJ
def qM:ah :=
 (aE (aH 2 (i8 (mX iK 0) (ak 0))) (aE (aH 3 (dC (.int 0))) (aE (cz (tO (ao (ak 1) aq)) (az 4) (aH 3 (au cy (au bX (ak 3) (ak 2)) (au cJ (ak 4) (ak 2))))) (aP (ak 3)))))
def mH:List D→aa→R D:=bN 5 false qM
def qY:ah :=
 (aE (bW (aA 2 mG (ao (ak 0) (ao (bZ (ao (ak 1) (ao (ak 2) aq))) aq)))) (aP (aA 2 mH (ao (ak 0) (ao (aK (fh (ao (aA 2 gp (ao (ak 0) (ao (ak 1) aq))) (ao (aA 2 gp (ao (ak 0) (ao (ak 2) aq))) aq))) [none,none] (eu 2 (cB (az 0) (cB (az 1) eN))) aG (au cy (ak 0) (ak 1))) aq)))))
def qc:List D→aa→R D:=bN 3 false qY
def qF:ah :=
 (aE (aH 2 (aA 2 gp (ao (ak 0) (ao (i8 (mX iK 2) (ak 0)) aq)))) (aP (aK (fh (ao (au gA (b6 (ao (dC (.int 0)) aq)) (ak 1)) (ao (ak 2) aq))) [none,none,some 1] (eu 2 (cB (az 0) (cB (az 1) eN))) aG (au eT (ak 0) (au bX (au aJ (ak 2) (i8 sf (dC (.int 1)))) (ak 1))))))
def p8:List D→aa→R D:=bN 3 false qF
def qN:ah :=
 (aE (bW (aA 2 mG (ao (ak 0) (ao (bZ (ao (ak 1) (ao (ak 2) aq))) aq)))) (aE (aH 3 (aA 2 gp (ao (ak 0) (ao (ak 2) aq)))) (aE (aH 4 (au pM (b6 (ao (dC (.int 0)) aq)) (aF aR (ao (ak 3) aq)))) (aE (cz (tO (ao (aA 2 gp (ao (ak 0) (ao (ak 1) aq))) aq)) (az 5) (aH 4 (aK (fh (ao (aA 2 p8 (ao (ak 0) (ao (ak 4) aq))) (ao (ak 3) aq))) [none,none,some 5] (eu 2 (cB (az 0) (cB (az 1) eN))) aG (au cy (ak 0) (au bX (ak 2) (ak 1)))))) (aP (aA 2 mH (ao (ak 0) (ao (ak 4) aq))))))))
def p9:List D→aa→R D:=bN 6 false qN
def qV:ah :=
 (aE (bw (fj (bR (aM (aF bV (ao (ak 0) (ao (dC (.ty "tuple")) aq))))) (aM (au fC (aF aR (ao (ak 0) aq)) (ak 1)))) (aP (dC (.bl false))) bz) (aP (gc (aF dM (ao (aK (b9 (ak 0)) [none,some 1] (az 0) aG (aA 3 gr (ao (ak 0) (ao (dC (.int 0)) (ao (au eT (ak 1) (dC (.int 1))) aq))))) aq)) (au bE (qB (ao (ak 0) aq)) (ak 1)))))
def eV:List D→aa→R D:=bN 2 false qV
def nG:ah :=
 (aP (aF bH (ao (aK (i9 (ak 0)) [none,some 1] (az 0) aG (au aJ (ak 0) (ak 1))) aq)))
def eK:List D→aa→R D:=bN 2 false nG
def qT:ah :=
 (aE (bw (fj (bR (aM (aF bV (ao (ak 0) (ao (dC (.ty "tuple")) aq))))) (bR (aM (m9 jr jr (dC (.int 1)) (aF aR (ao (ak 0) aq)) (dC (.int 7)))))) (aP (dC (.bl false))) bz) (aE (aH 1 (aF aR (ao (ak 0) aq))) (aE (bw (bR (aM (aF dM (ao (aK (b9 (ak 0)) [none,some 1] (az 0) aG (aA 2 eV (ao (ak 0) (ao (ak 1) aq)))) aq)))) (aP (dC (.bl false))) bz) (aP (aF dM (ao (aK (aW (ao (ak 1) aq)) [none,some 1,some 0] (az 0) aG (aA 2 eV (ao (aA 2 eK (ao (ak 2) (ao (ak 0) aq))) (ao (ak 1) aq)))) aq))))))
def sD:List D→aa→R D:=bN 2 false qT
def lI:ah :=
 (bw (bR (aM (aA 1 sD (ao (ak 0) aq)))) fW bz)
def dW:List D→aa→R D:=bN 1 false lI
def nk:ah :=
 (aP (au aJ (au aJ (ak 0) (au i7 (ak 1) (aF aR (ao (ak 0) aq)))) (au cJ (ak 1) (aF aR (ao (ak 0) aq)))))
def gV:List D→aa→R D:=bN 2 false nk
def nq:ah :=
 (aE (aH 2 (au bX (aF aR (ao (ak 0) aq)) (aF aR (ao (ak 0) aq)))) (aP (au bE (qA (ao (aK (aW (ao (ak 2) aq)) [none,some 0,some 1] (az 0) aG (bZ (ao (aA 2 gV (ao (ak 1) (ao (ak 0) aq))) (ao (aA 2 gV (ao (ak 2) (ao (ak 0) aq))) aq)))) aq)) (ak 2))))
def sA:List D→aa→R D:=bN 3 false nq
def nH:ah :=
 (aE (bW (aA 1 dW (ao (ak 0) aq))) (aE (bW (aA 1 dW (ao (ak 1) aq))) (aE (bw (aM (au fC (aF aR (ao (ak 0) aq)) (aF aR (ao (ak 1) aq)))) fW bz) (aP (aA 2 sA (ao (ak 0) (ao (ak 1) aq)))))))
def fP:List D→aa→R D:=bN 2 false nH
def qW:ah :=
 (aE (aH 3 (aK (fh (ao (ak 0) (ao (ak 1) aq))) [none,none] (eu 2 (cB (az 0) (cB (az 1) eN))) aG (au aJ (ak 0) (ak 1)))) (aP (gc (au gb (ak 2) (ak 1)) (au gb (au aJ (au aJ (ak 0) (aF aR (ao (ak 1) aq))) (ak 2)) (ak 3)))))
def eW:List D→aa→R D:=bN 4 false qW
def nF:ah :=
 (aE (bW (aA 1 dW (ao (ak 0) aq))) (aE (aH 1 (dG (ao (bZ aq) aq))) (aE (cz (b9 (ak 0)) (az 2) (aE (aH 3 (dG aq)) (aE (cz (bJ (ak 1)) (az 4) (bW (ia (ak 3) (aK (aW (ao (aF aR (ao (ak 2) aq)) aq)) [none,some 4,some 0] (az 0) (aM (aA 3 eW (ao (ak 2) (ao (ak 1) (ao (ak 0) aq))))) (au fm (ak 1) (bZ (ao (ak 0) aq))))))) (aH 1 (ak 3))))) (aP (ak 1)))))
def fO:List D→aa→R D:=bN 5 false nF
def qX:ah :=
 (aP (aF gg (ao (aK (fh (ao (ak 0) (ao (ak 1) aq))) [none,none] (eu 2 (cB (az 0) (cB (az 1) eN))) aG (au bE (ak 0) (ak 1))) aq)))
def fE:List D→aa→R D:=bN 2 false qX
def qE:ah :=
 (aE (aH 2 (dG aq)) (aE (cz (bJ (ak 0)) (az 3) (cz (bJ (ak 1)) (az 4) (bw (bR (aM (aF gg (ao (aK (bJ (ak 3)) [none,some 4] (az 0) aG (aA 2 fE (ao (ak 1) (ao (ak 0) aq)))) aq)))) (bW (fk (ak 2) (au gA (ak 3) (b6 (ao (ak 4) aq))))) bz))) (aP (ak 2))))
def iW:List D→aa→R D:=bN 5 false qE
def qI:ah :=
 (aP (aF bH (ao (aK (aW (ao (aF aR (ao (ak 0) aq)) aq)) [none,some 0] (az 0) aG (gx (ak 1) (ak 0))) aq)))
def iX:List D→aa→R D:=bN 1 false qI
def qG:ah :=
 (aP (aF bH (ao (aK (aW (ao (aF aR (ao (ak 0) aq)) aq)) [none,some 0] (az 0) aG (aA 1 iX (ao (aA 2 eK (ao (ak 1) (ao (ak 0) aq))) aq))) aq)))
def kQ:List D→aa→R D:=bN 1 false qG
def qH:ah :=
 (aE (bW (aA 1 dW (ao (ak 0) aq))) (aE (bw (aM (au lC (aF aR (ao (ak 0) aq)) (dC (.int 5)))) fW bz) (aE (aH 1 (aA 1 fO (ao (ak 0) aq))) (aE (aH 2 (b6 (ao (b6 aq) aq))) (aE (cz (aW (ao (aF aR (ao (ak 0) aq)) aq)) (az 3) (aH 2 (aA 2 iW (ao (ak 2) (ao (aK (bJ (ak 1)) [none,some 3] (az 0) (aM (au bE (au aJ (ak 0) (dC (.int 0))) (ak 1))) (ak 0)) aq))))) (aP (qC (qy (ak 2)) (aA 1 kQ (ao (au aJ (ak 2) (dC (.int 0))) aq)) (dC .aL))))))))
def gn:List D→aa→R D:=bN 4 false qH
def nE:ah :=
 (aP (aF bH (ao (aK (aW (ao (ak 0) aq)) [none,some 0,some 1,some 2] (az 0) aG (aA 3 qc (ao (ak 1) (ao (aA 3 p9 (ao (ak 1) (ao (ak 2) (ao (ak 3) aq)))) (ao (ak 0) aq))))) aq)))
def vA:List D→aa→R D:=bN 3 false nE
def nC:ah :=
 (aP (aF bH (ao (aK (aW (ao (ak 0) aq)) [none,some 0,some 1] (az 0) aG (aA 3 vA (ao (ak 1) (ao (ak 2) (ao (ak 0) aq))))) aq)))
def qb:List D→aa→R D:=bN 2 false nC
def nB:ah :=
 (aE (bw (fj (bR (aM (aA 1 mP (ao (ak 0) aq)))) (aM (au lC (ak 0) (dC (.int 7))))) fW bz) (aP (aK (tN (ao (dC (.int 1)) (ao (ak 0) aq))) [none,some 0] (az 0) aG (aA 2 qb (ao (ak 1) (ao (ak 0) aq))))))
def qa:List D→aa→R D:=bN 1 false nB
def ny:ah :=
 (aE (bw (aM (au Hr (ak 1) (aF aR (ao (ak 0) aq)))) (aP (au aJ (ak 0) (ak 1))) bz) (aP (dC (.int 0))))
def mL:List D→aa→R D:=bN 2 false ny
def nv:ah :=
 (aE (bw (aM (au IW (ak 0) (au pN (dC (.int 10)) (dC (.int 18))))) (aP (dG (ao (au eT (ak 0) (au pN (dC (.int 10)) (dC (.int 18)))) aq))) bz) (aE (aH 1 (dC (.int 0))) (aE (cz (aW (ao (dC (.int 64)) aq)) (az 2) (aE (aH 3 (au cJ (au bX (au cy (au cy (au cJ (ak 0) (dC (.int 2147483629))) (au bX (dC (.int 7919)) (ak 2))) (dC (.int 1))) (dC (.int 48271))) (dC (.int 2147483647)))) (aE (aH 3 (au cJ (au cy (au cy (au bX (ak 3) (ak 3)) (au bX (dC (.int 69621)) (ak 2))) (dC (.int 7))) (dC (.int 2147483587)))) (aH 1 (au cy (au bX (ak 1) (dC (.int 2147483587))) (ak 3)))))) (aP (dG (ao (ak 1) aq))))))
def mJ:List D→aa→R D:=bN 4 true nv
def nt:ah :=
 (aE (aH 2 (au cJ (au aJ (ak 0) (dC (.int 0))) (ak 1))) (aE (yT (au i7 (au aJ (ak 0) (dC (.int 0))) (ak 1)) (BQ (ak 0) (dC (.int 0)))) (aP (ak 2))))
def cH:List D→aa→R D:=bN 3 false nt
def qQ:ah :=
 (aE (aH 2 (tP (ao (ak 1) aq))) (aP (aF bH (ao (aK (aW (ao (ak 1) aq)) [none,some 2,some 0] (az 0) aG (qz (ak 1) (aA 2 cH (ao (ak 2) (ao (aF aR (ao (ak 1) aq)) aq))))) aq))))
def dF:List D→aa→R D:=bN 3 false qQ
def qR:ah :=
 (aE (bw (gf (aM (au bE (ak 1) (dC (.int 4)))) (aM (au bE (aA 2 cH (ao (ak 0) (ao (dC (.int 2)) aq))) (dC (.int 0))))) (aH 2 (aK (aW (ao (ak 1) aq)) [none,some 1] (az 0) aG (aK (aW (ao (ak 1) aq)) [none,some 0] (az 0) aG (au kr (ak 1) (ak 0))))) (aE (aH 3 (au cy (dC (.int 1)) (aA 2 cH (ao (ak 0) (ao (aF p7 (ao (dC (.int 1)) (ao (au eT (ak 1) (dC (.int 1))) aq))) aq))))) (aE (aH 2 (aK (aW (ao (ak 1) aq)) [none,some 1,some 3] (az 0) aG (aK (aW (ao (ak 1) aq)) [none,some 1,some 2,some 0] (az 0) aG (au cJ (au cy (au bX (ak 2) (ak 3)) (ak 0)) (ak 1))))) (bw (aM (au d9 (m7 (ao (aK (bJ (ak 2)) [none] (az 0) aG (au aJ (ak 0) (dC (.int 0)))) aq)) (m8 (ao (ak 1) aq)))) (aH 2 (aK (aW (ao (ak 1) aq)) [none,some 1] (az 0) aG (aK (aW (ao (ak 1) aq)) [none,some 1,some 0] (az 0) aG (au cJ (au cy (ak 2) (ak 0)) (ak 1))))) bz)))) (aE (aH 4 (aA 2 dF (ao (ak 0) (ao (ak 1) aq)))) (aE (aH 5 (aA 2 dF (ao (ak 0) (ao (ak 1) aq)))) (aE (aH 6 (aA 2 dF (ao (ak 0) (ao (ak 1) aq)))) (aP (aF bH (ao (aK (b9 (ak 4)) [none,some 5,some 6,some 2] (az 0) aG (aF bH (ao (aK (b9 (ak 2)) [none,some 1,some 3,some 0] (az 0) aG (au aJ (ak 1) (au aJ (au aJ (ak 2) (ak 3)) (ak 0)))) aq))) aq)))))))
def mK:List D→aa→R D:=bN 7 false qR
def qP:ah :=
 (aE (aH 1 (dG (ao (b6 (dZ [0,1,2,3,4,5])) (ao (b6 (dZ [1,0,3,2,5,4])) (ao (b6 (dZ [2,4,0,5,1,3])) (ao (b6 (dZ [3,5,1,4,0,2])) (ao (b6 (dZ [4,2,5,0,3,1])) aq))))))) (aE (bW (fk (ak 1) (b6 (dZ [5,3,4,1,2,0])))) (aE (aH 2 (aA 2 dF (ao (ak 0) (ao (dC (.int 6)) aq)))) (aP (aF bH (ao (aK (b9 (ak 2)) [none,some 1] (az 0) aG (aF bH (ao (au aJ (ak 1) (ak 0)) aq))) aq))))))
def jq:List D→aa→R D:=bN 3 false qP
def qO:ah :=
 (aE (bw (gf (aM (au bE (ak 1) (dC (.int 6)))) (aM (au bE (aA 2 cH (ao (ak 0) (ao (dC (.int 2)) aq))) (dC (.int 0))))) (aP (aA 1 jq (ao (ak 0) aq))) bz) (aP (aA 2 mK (ao (ak 0) (ao (ak 1) aq)))))
def kR:List D→aa→R D:=bN 2 false qO
def nu:ah :=
 (aP (aF bH (ao (aK (b9 (ak 0)) [none,some 1] (az 0) aG (gx (ak 0) (ak 1))) aq)))
def iY:List D→aa→R D:=bN 2 false nu
def qS:ah :=
 (aE (cz (aW (ao (dC (.int 3)) aq)) (az 1) (aE (aH 2 (aA 1 mJ (ao (aA 2 mL (ao (ak 0) (ao (ak 1) aq))) aq))) (aE (aH 3 (aA 2 kR (ao (ak 2) (ao (au cy (dC (.int 1)) (aA 2 cH (ao (ak 2) (ao (dC (.int 5)) aq)))) aq)))) (aE (aH 4 (aF aR (ao (ak 3) aq))) (aE (aH 5 (aA 1 gn (ao (ak 3) aq))) (aE (bw (aM (au sI (ak 5) (dC .aL))) (aE (aH 6 (aA 1 fO (ao (ak 3) aq))) (aE (bw (bR (aM (aF dM (ao (aK (aW (ao (ak 4) aq)) [none,some 6,some 5] (az 0) aG (au inD (aA 2 iY (ao (ak 2) (ao (ak 0) aq))) (ak 1))) aq)))) (aP (dC (.bl false))) bz) (aE (aH 7 (aA 2 dF (ao (ak 2) (ao (ak 4) aq)))) (aE (aH 8 (aF bH (ao (aK (b9 (ak 7)) [none,some 3] (az 0) aG (au aJ (ak 1) (ak 0))) aq))) (aE (aH 9 (aF bH (ao (aK (b9 (ak 7)) [none,some 5] (az 0) aG (au aJ (ak 1) (ak 0))) aq))) (bw (fj (bR (aM (aA 2 fP (ao (ak 3) (ao (ak 5) aq))))) (fj (bR (aM (aA 2 fP (ao (ak 5) (ao (ak 3) aq))))) (bR (aM (aA 2 fP (ao (ak 8) (ao (ak 9) aq))))))) (aP (dC (.bl false))) bz)))))) bz) (aE (aH 10 (au aJ (b6 (ao (dC (.int 2)) (ao (dC (.int 3)) (ao (dC (.int 4)) (ao (dC (.int 5)) (ao (dC (.int 7)) aq)))))) (aA 2 cH (ao (ak 2) (ao (dC (.int 5)) aq))))) (aE (aH 11 (aA 1 qa (ao (ak 10) aq))) (aE (aH 12 (au aJ (ak 11) (aA 2 cH (ao (ak 2) (ao (au eT (ak 10) (dC (.int 1))) aq))))) (aE (aH 6 (aA 1 fO (ao (ak 12) aq))) (cz (bJ (ak 11)) (az 3) (bw (gf (aM (au d9 (ak 3) (ak 12))) (bR (aM (aF dM (ao (aK (aW (ao (ak 10) aq)) [none,some 6,some 3] (az 0) aG (au inD (aA 2 iY (ao (ak 2) (ao (ak 0) aq))) (ak 1))) aq))))) (aP (dC (.bl false))) bz)))))))))))) (aP (gc (au lD (aA 1 gn (ao (bZ (ao (bZ (ao (dC (.int 0)) aq)) aq)) aq)) (bZ (ao (bZ (ao (dC (.int 0)) aq)) aq))) (au qh (aA 1 gn (ao (bZ (ao (bZ (ao (dC (.int 0)) (ao (dC (.int 1)) aq))) (ao (bZ (ao (dC (.int 1)) (ao (dC (.int 0)) aq))) aq))) aq)) (dC .aL)))))
def sC:List D→aa→R D:=bN 13 false qS
end Ev
namespace Ev
open PySem L2 PyProof.Rows
set_option genInjectivity false in
set_option genSizeOfSpec false in
structure Tx (K:PySem.W.Frag) (mg:Str→Option Value) where
 jY:Addr
 Cp:FuncData
 xm:Def K mg "is_whole" oZ ["thing"] jY Cp
 VL:PySem.W.nsIn K mainGlobals "is_whole"=some (some (.ref jY))
 jX:Addr
 Co:FuncData
 xj:Def K mg "is_whole_within" oY ["thing","least","most"] jX Co
 VJ:PySem.W.nsIn K mainGlobals "is_whole_within"=some (some (.ref jX))
 j3:Addr
 Cr:FuncData
 xo:Def K mg "is_field" pq ["thing"] j3 Cr
 VN:PySem.W.nsIn K mainGlobals "is_field"=some (some (.ref j3))
 jL:Addr
 B9:FuncData
 CO:Def K mg "require_field" oG ["thing"] jL B9
 Vw:PySem.W.nsIn K mainGlobals "require_field"=some (some (.ref jL))
 jJ:Addr
 B7:FuncData
 wZ:Def K mg "require_things" oE ["q","things"] jJ B7
 Vt:PySem.W.nsIn K mainGlobals "require_things"=some (some (.ref jJ))
 jI:Addr
 B6:FuncData
 mZ:Def K mg "row_of" oB ["q","number"] jI B6
 Vs:PySem.W.nsIn K mainGlobals "row_of"=some (some (.ref jI))
 jM:Addr
 Ca:FuncData
 xg:Def K mg "number_of" oH ["q","row"] jM Ca
 Vx:PySem.W.nsIn K mainGlobals "number_of"=some (some (.ref jM))
 kh:Addr
 CB:FuncData
 C4:Def K mg "added" pJ ["q","one","other"] kh CB
 VW:PySem.W.nsIn K mainGlobals "added"=some (some (.ref kh))
 jD:Addr
 BZ:FuncData
 CL:Def K mg "times_letter" om ["q","row"] jD BZ
 Vn:PySem.W.nsIn K mainGlobals "times_letter"=some (some (.ref jD))
 jN:Addr
 Cb:FuncData
 CP:Def K mg "multiplied" oJ ["q","one","other"] jN Cb
 Vy:PySem.W.nsIn K mainGlobals "multiplied"=some (some (.ref jN))
 j4:Addr
 Cs:FuncData
 xq:Def K mg "holds_each_once" pA ["thing","many"] j4 Cs
 VO:PySem.W.nsIn K mainGlobals "holds_each_once"=some (some (.ref j4))
 j9:Addr
 Cy:FuncData
 xr:Def K mg "column_of" pG ["rows","y"] j9 Cy
 VT:PySem.W.nsIn K mainGlobals "column_of"=some (some (.ref j9))
 jZ:Addr
 Cq:FuncData
 CY:Def K mg "is_square" pe ["thing"] jZ Cq
 VM:PySem.W.nsIn K mainGlobals "is_square"=some (some (.ref jZ))
 jK:Addr
 B8:FuncData
 qx:Def K mg "require_square" oF ["thing"] jK B8
 Vu:PySem.W.nsIn K mainGlobals "require_square"=some (some (.ref jK))
 jH:Addr
 B5:FuncData
 wY:Def K mg "sign_in" oA ["square","cell"] jH B5
 Vr:PySem.W.nsIn K mainGlobals "sign_in"=some (some (.ref jH))
 jO:Addr
 Cc:FuncData
 CQ:Def K mg "lie_across" oK ["one","other"] jO Cc
 Vz:PySem.W.nsIn K mainGlobals "lie_across"=some (some (.ref jO))
 ki:Addr
 CC:FuncData
 tM:Def K mg "across" pK ["one","other"] ki CC
 VX:PySem.W.nsIn K mainGlobals "across"=some (some (.ref ki))
 kc:Addr
 Cz:FuncData
 C2:Def K mg "can_go_on" pH ["square","cut","column"] kc Cz
 VU:PySem.W.nsIn K mainGlobals "can_go_on"=some (some (.ref kc))
 j8:Addr
 Cw:FuncData
 tL:Def K mg "cuts" pF ["square"] j8 Cw
 VS:PySem.W.nsIn K mainGlobals "cuts"=some (some (.ref j8))
 kg:Addr
 CA:FuncData
 C3:Def K mg "agree_somewhere" pI ["one","other"] kg CA
 VV:PySem.W.nsIn K mainGlobals "agree_somewhere"=some (some (.ref kg))
 jC:Addr
 BY:FuncData
 CK:Def K mg "with_one_more" oj ["choices","more"] jC BY
 Vm:PySem.W.nsIn K mainGlobals "with_one_more"=some (some (.ref jC))
 jG:Addr
 B4:FuncData
 CN:Def K mg "signs_where" oz ["columns"] jG B4
 Vq:PySem.W.nsIn K mainGlobals "signs_where"=some (some (.ref jG))
 jE:Addr
 B0:FuncData
 CM:Def K mg "square_of_cuts" oq ["chosen"] jE B0
 Vo:PySem.W.nsIn K mainGlobals "square_of_cuts"=some (some (.ref jE))
 jF:Addr
 B3:FuncData
 tK:Def K mg "some_across" ou ["square"] jF B3
 Vp:PySem.W.nsIn K mainGlobals "some_across"=some (some (.ref jF))
 j7:Addr
 Cv:FuncData
 C1:Def K mg "field_row" pD ["q","factor","x"] j7 Cv
 VR:PySem.W.nsIn K mainGlobals "field_row"=some (some (.ref j7))
 j6:Addr
 Cu:FuncData
 C0:Def K mg "field_square" pC ["q","factor"] j6 Cu
 VQ:PySem.W.nsIn K mainGlobals "field_square"=some (some (.ref j6))
 j5:Addr
 Ct:FuncData
 CZ:Def K mg "field_squares" pB ["q"] j5 Ct
 VP:PySem.W.nsIn K mainGlobals "field_squares"=some (some (.ref j5))
 jW:Addr
 Cm:FuncData
 CW:Def K mg "_law_cell_at" oW ["script","k"] jW Cm
 VH:PySem.W.nsIn K mainGlobals "_law_cell_at"=some (some (.ref jW))
 jT:Addr
 Ci:FuncData
 CU:Def K mg "_law_pot" oR ["cell"] jT Ci
 VE:PySem.W.nsIn K mainGlobals "_law_pot"=some (some (.ref jT))
 jP:Addr
 Cd:FuncData
 jz:Def K mg "_law_take" oM ["pot","far"] jP Cd
 VA:PySem.W.nsIn K mainGlobals "_law_take"=some (some (.ref jP))
 jU:Addr
 Cj:FuncData
 m5:Def K mg "_law_order" oU ["pot","many"] jU Cj
 VF:PySem.W.nsIn K mainGlobals "_law_order"=some (some (.ref jU))
 jV:Addr
 Ck:FuncData
 CV:Def K mg "_law_cycled" oV ["pot","n"] jV Ck
 VG:PySem.W.nsIn K mainGlobals "_law_cycled"=some (some (.ref jV))
 jR:Addr
 Cf:FuncData
 CT:Def K mg "_law_six" oO ["pot"] jR Cf
 VC:PySem.W.nsIn K mainGlobals "_law_six"=some (some (.ref jR))
 jQ:Addr
 Ce:FuncData
 CS:Def K mg "_law_square" oN ["pot","n"] jQ Ce
 VB:PySem.W.nsIn K mainGlobals "_law_square"=some (some (.ref jQ))
 jS:Addr
 Cg:FuncData
 xh:Def K mg "_law_signs" oQ ["square","sign"] jS Cg
 VD:PySem.W.nsIn K mainGlobals "_law_signs"=some (some (.ref jS))
 jd:Addr
 Cn:FuncData
 JC:Def K mg "law" oX ["script"] jd Cn
 VI:PySem.W.nsIn K mainGlobals "law"=some (some (.ref jd))
 pX:mg "all"=none
 zE:mg "any"=none
 G9:mg "bool"=none
 G8:mg "int"=none
 sj:mg "isinstance"=none
 dQ:mg "len"=none
 zD:mg "list"=none
 G7:mg "max"=none
 dB:mg "range"=none
 zC:mg "reversed"=none
 vp:mg "set"=none
 G6:mg "sorted"=none
 fD:mg "tuple"=none
 pW:mg "zip"=none
 rG:Tok
 IX:mg "MOST_CROSSED"=some (.int 5 rG)
 rF:Tok
 BR:mg "MOST_SIGNS"=some (.int 7 rF)
 lK:Addr
 qm:mg "FIELDS"=some (.ref lK)
 zG:PySem.W.nsIn K mainGlobals "FIELDS"=some (some (.ref lK))
 nS:mY K lK iK=true
section
variable {P:Program}{w:World}{K:PySem.W.Frag}{mg:Str→Option Value}{base:Heap}
theorem OU:b7 ["thing"] ["thing"] (aS oZ):=⟨rfl,rfl,rfl,by decide +kernel,rfl,by decide +kernel,by decide +kernel⟩
theorem Gp(T:Tx K mg):bF P w K mg base bG 1 T.jY T.Cp ["thing"] (bU K 1 mO) :=
 cD (k:=0) T.xm.fn OU rfl rfl fun cdv A outer s H E hr=>by
  show bL _ _ nA
  unfold nA
  exact(aV (bP (pS (cR xE T.sj ah9 (ay (av 0) (ay (uU rfl T.G8 boot_int) aC))) (pP (R5 (cR xE T.sj ah9 (ay (av 0) (ay (uU rfl T.G9 boot_bool) aC))))))))
theorem OT:b7 ["thing","least","most"] ["thing","least","most"] (aS oY):=⟨rfl,rfl,rfl,by decide +kernel,rfl,by decide +kernel,by decide +kernel⟩
theorem Gn(T:Tx K mg):bF P w K mg base bG 2 T.jX T.Co ["thing","least","most"] (bU K 3 gr) :=
 cD (k:=1) T.xj.fn OT rfl rfl fun cdv A outer s H E hr=>by
  show bL _ _ lJ
  unfold lJ
  exact(aV (bP (pS (aX T.xm (Gp T) (hr.mono (by decide)) (ay (av 0) aC)) (pP (Sf vc vc (av 1) (av 0) (av 2))))))
theorem OV:b7 ["thing"] ["thing"] (aS pq):=⟨rfl,rfl,rfl,by decide +kernel,rfl,by decide +kernel,by decide +kernel⟩
theorem Gq(T:Tx K mg):bF P w K mg base bG 2 T.j3 T.Cr ["thing"] (bU K 1 mP) :=
 cD (k:=1) T.xo.fn OV rfl rfl fun cdv A outer s H E hr=>by
  show bL _ _ qU
  unfold qU
  exact(aV (bP (pS (aX T.xm (Gp T) (hr.mono (by decide)) (ay (av 0) aC)) (pP (iR (T8 T.zG T.nS) (av 0) (Sb T.qm T.zG))))))
theorem OP:b7 ["thing"] ["thing"] (aS oG):=⟨rfl,rfl,rfl,by decide +kernel,rfl,by decide +kernel,by decide +kernel⟩
theorem SS(T:Tx K mg):bF P w K mg base bG 3 T.jL T.B9 ["thing"] (bU K 1 vz) :=
 cD (k:=2) T.CO.fn OP rfl rfl fun cdv A outer s H E hr=>by
  show bL _ _ qL
  unfold qL
  exact(aV (eH (fY (f6 (aX T.xo (Gq T) (hr.mono (by decide)) (ay (av 0) aC)))) (aV nY) eU))
theorem FD:b7 ["q","things","thing"] ["q","things"] (aS oE):=⟨rfl,rfl,rfl,by decide +kernel,rfl,by decide +kernel,by decide +kernel⟩
theorem Gj(T:Tx K mg):bF P w K mg base bG 4 T.jJ T.B7 ["q","things"] (bU K 2 mG) :=
 cD (k:=3) T.wZ.fn FD rfl rfl fun cdv A outer s H E hr=>by
  show bL _ _ qK
  unfold qK
  refine aU (iw (aX T.CO (SS T) (hr.mono (by decide)) (ay (av 0) aC))) ?_
  exact(aV (gM (iC (av 1)) (bA (i:=2) (hN:=FD.nd)) (aV (eH (fY (f6 (aX T.xj (Gn T) (hr.mono (by decide)) (ay (av 2) (ay bh (ay (bC pT (av 0) bh) aC)))))) (aV nY) eU))))
theorem nZ:b7 ["q","number","p","row","left","power"] ["q","number"] (aS oB):=⟨rfl,rfl,rfl,by decide +kernel,rfl,by decide +kernel,by decide +kernel⟩
theorem rW(T:Tx K mg):bF P w K mg base bG 1 T.jI T.B6 ["q","number"] (bU K 2 gp) :=
 cD (k:=0) T.mZ.fn nZ rfl rfl fun cdv A outer s H E hr=>by
  show bL _ _ qJ
  unfold qJ
  refine aU (bI (i:=2) (uW T.qm T.nS (av 0)) (hN:=nZ.nd)) ?_
  refine aU (bI (i:=3) (mj aC) (hN:=nZ.nd)) ?_
  refine aU (bI (i:=4) (av 1) (hN:=nZ.nd)) ?_
  refine aU (gM (er (ay (uW T.qm T.nS (av 0)) aC) T.dB) (bA (i:=5) (hN:=nZ.nd)) (aU (iw (zg (av 3) (bC jm (av 4) (av 2)))) (aV (bI (i:=4) (bC zu (av 4) (av 2)) (hN:=nZ.nd))))) ?_
  exact(aV (bP (av 3)))
theorem rK:b7 ["q","row","p","number","digit"] ["q","row"] (aS oH):=⟨rfl,rfl,rfl,by decide +kernel,rfl,by decide +kernel,by decide +kernel⟩
theorem Gk(T:Tx K mg):bF P w K mg base bG 1 T.jM T.Ca ["q","row"] (bU K 2 mH) :=
 cD (k:=0) T.xg.fn rK rfl rfl fun cdv A outer s H E hr=>by
  show bL _ _ qM
  unfold qM
  refine aU (bI (i:=2) (uW T.qm T.nS (av 0)) (hN:=rK.nd)) ?_
  refine aU (bI (i:=3) bh (hN:=rK.nd)) ?_
  refine aU (gM (Ii (ay (av 1) aC) T.zC) (bA (i:=4) (hN:=rK.nd)) (aV (bI (i:=3) (bC gU (bC iU (av 3) (av 2)) (bC jm (av 4) (av 2))) (hN:=rK.nd)))) ?_
  exact(aV (bP (av 3)))
theorem O3:b7 ["q","one","other"] ["q","one","other"] (aS pJ):=⟨rfl,rfl,rfl,by decide +kernel,rfl,by decide +kernel,by decide +kernel⟩
theorem Te(T:Tx K mg):bF P w K mg base bG 5 T.kh T.CB ["q","one","other"] (bU K 3 qc) :=
 cD (k:=4) T.C4.fn O3 rfl rfl fun cdv A outer s H E hr=>by
  show bL _ _ qY
  unfold qY
  refine aU (iw (aX T.wZ (Gj T) (hr.mono (by decide)) (ay (av 0) (ay (gQ (ay (av 1) (ay (av 2) aC))) aC)))) ?_
  exact(aV (bP (aX T.xg (Gk T) (hr.mono (by decide)) (ay (av 0) (ay (cN (N':=["x","y"]) (pick:=[none,none]) (bK.of rfl rfl) (sM (ay (aX T.mZ (rW T) (hr.mono (by decide)) (ay (av 0) (ay (av 1) aC))) (ay (aX T.mZ (rW T) (hr.mono (by decide)) (ay (av 0) (ay (av 2) aC))) aC)) T.pW) (fun _ _ _ _ _ _=>(sZ (n:=2) (iZ (bA (i:=0) (hN:=(by decide +kernel:List.Nodup (["x","y"]:List Str)))) (iZ (bA (i:=1) (hN:=(by decide +kernel:List.Nodup (["x","y"]:List Str)))) sY)))) (fun _ _ _ _ _ _=>cM) (fun _ _ _ _ _ _=>(bC gU (av 0) (av 1)))) aC)))))
theorem FA:b7 ["q","row","low"] ["q","row"] (aS om):=⟨rfl,rfl,rfl,by decide +kernel,rfl,by decide +kernel,by decide +kernel⟩
theorem SO(T:Tx K mg):bF P w K mg base bG 2 T.jD T.BZ ["q","row"] (bU K 2 p8) :=
 cD (k:=1) T.CL.fn FA rfl rfl fun cdv A outer s H E hr=>by
  show bL _ _ qF
  unfold qF
  refine aU (bI (i:=2) (aX T.mZ (rW T) (hr.mono (by decide)) (ay (av 0) (ay (uW T.qm T.nS (av 0)) aC))) (hN:=FA.nd)) ?_
  exact(aV (bP (cN (N':=["below","digit","row"]) (pick:=[none,none,some 1]) (bK.of rfl rfl) (sM (ay (bC GF (gR (ay bh aC)) (av 1)) (ay (av 2) aC)) T.pW) (fun _ _ _ _ _ _=>(sZ (n:=2) (iZ (bA (i:=0) (hN:=(by decide +kernel:List.Nodup (["below","digit","row"]:List Str)))) (iZ (bA (i:=1) (hN:=(by decide +kernel:List.Nodup (["below","digit","row"]:List Str)))) sY)))) (fun _ _ _ _ _ _=>cM) (fun _ _ _ _ _ _=>(bC pT (av 0) (bC iU (dU dY (av 2) (R0 Mw bh)) (av 1)))))))
theorem rL:b7 ["q","one","other","row","product","digit"] ["q","one","other"] (aS oJ):=⟨rfl,rfl,rfl,by decide +kernel,rfl,by decide +kernel,by decide +kernel⟩
theorem SV(T:Tx K mg):bF P w K mg base bG 5 T.jN T.Cb ["q","one","other"] (bU K 3 p9) :=
 cD (k:=4) T.CP.fn rL rfl rfl fun cdv A outer s H E hr=>by
  show bL _ _ qN
  unfold qN
  refine aU (iw (aX T.wZ (Gj T) (hr.mono (by decide)) (ay (av 0) (ay (gQ (ay (av 1) (ay (av 2) aC))) aC)))) ?_
  refine aU (bI (i:=3) (aX T.mZ (rW T) (hr.mono (by decide)) (ay (av 0) (ay (av 2) aC))) (hN:=rL.nd)) ?_
  refine aU (bI (i:=4) (bC Tw (gR (ay bh aC)) (cR eO T.dQ afZ (ay (av 3) aC))) (hN:=rL.nd)) ?_
  refine aU (gM (Ii (ay (aX T.mZ (rW T) (hr.mono (by decide)) (ay (av 0) (ay (av 1) aC))) aC) T.zC) (bA (i:=5) (hN:=rL.nd)) (aV (Fz (i:=4) (hN:=rL.nd) (N':=["x","y","digit"]) (pick:=[none,none,some 5]) (bK.of rfl rfl) (sM (ay (aX T.CL (SO T) (hr.mono (by decide)) (ay (av 0) (ay (av 4) aC))) (ay (av 3) aC)) T.pW) (fun _ _ _ _ _ _=>(sZ (n:=2) (iZ (bA (i:=0) (hN:=(by decide +kernel:List.Nodup (["x","y","digit"]:List Str)))) (iZ (bA (i:=1) (hN:=(by decide +kernel:List.Nodup (["x","y","digit"]:List Str)))) sY)))) (fun _ _ _ _ _ _=>cM) (fun _ _ _ _ _ _=>(bC gU (av 0) (bC iU (av 2) (av 1))))))) ?_
  exact(aV (bP (aX T.xg (Gk T) (hr.mono (by decide)) (ay (av 0) (ay (av 4) aC)))))
theorem OW:b7 ["thing","many"] ["thing","many"] (aS pA):=⟨rfl,rfl,rfl,by decide +kernel,rfl,by decide +kernel,by decide +kernel⟩
theorem Gr(T:Tx K mg):bF P w K mg base bG 3 T.j4 T.Cs ["thing","many"] (bU K 2 eV) :=
 cD (k:=2) T.xq.fn OW rfl rfl fun cdv A outer s H E hr=>by
  show bL _ _ qV
  unfold qV
  refine aU (eH (PW.pt (rR (fY (f6 (cR xE T.sj ah9 (ay (av 0) (ay (uU rfl T.fD af9) aC))))) (uV (fZ GB (cR eO T.dQ afZ (ay (av 0) aC)) (av 1))))) (aV (bP pR)) eU) ?_
  exact(aV (bP (pS (cR tT T.pX boot_all (ay (cN (N':=["sign","many"]) (pick:=[none,some 1]) (bK.of rfl rfl) (iC (av 0)) (fun _ _ _ _ _ _=>(bA (i:=0) (hN:=(by decide +kernel:List.Nodup (["sign","many"]:List Str))))) (fun _ _ _ _ _ _=>cM) (fun _ _ _ _ _ _=>(aX T.xj (Gn T) (hr.mono (by decide)) (ay (av 0) (ay bh (ay (bC pT (av 1) bh) aC)))))) aC)) (pP (iR kO (R9 (ay (av 0) aC) T.dQ T.vp) (av 1))))))
theorem O1:b7 ["rows","y"] ["rows","y"] (aS pG):=⟨rfl,rfl,rfl,by decide +kernel,rfl,by decide +kernel,by decide +kernel⟩
theorem Gs(T:Tx K mg):bF P w K mg base bG 1 T.j9 T.Cy ["rows","y"] (bU K 2 eK) :=
 cD (k:=0) T.xr.fn O1 rfl rfl fun cdv A outer s H E hr=>by
  show bL _ _ nG
  unfold nG
  exact(aV (bP (gm gy T.fD af9 (ay (cN (N':=["row","y"]) (pick:=[none,some 1]) (bK.of rfl rfl) (Yh (av 0)) (fun _ _ _ _ _ _=>(bA (i:=0) (hN:=(by decide +kernel:List.Nodup (["row","y"]:List Str))))) (fun _ _ _ _ _ _=>cM) (fun _ _ _ _ _ _=>(dU dY (av 0) (av 1)))) aC))))
theorem FH:b7 ["thing","many"] ["thing"] (aS pe):=⟨rfl,rfl,rfl,by decide +kernel,rfl,by decide +kernel,by decide +kernel⟩
theorem S6(T:Tx K mg):bF P w K mg base bG 4 T.jZ T.Cq ["thing"] (bU K 1 sD) :=
 cD (k:=3) T.CY.fn FH rfl rfl fun cdv A outer s H E hr=>by
  show bL _ _ qT
  unfold qT
  refine aU (eH (PW.pt (rR (fY (f6 (cR xE T.sj ah9 (ay (av 0) (ay (uU rfl T.fD af9) aC))))) (uV (fY (Se vc vc bh (cR eO T.dQ afZ (ay (av 0) aC)) (zf rfl T.BR)))))) (aV (bP pR)) eU) ?_
  refine aU (bI (i:=1) (cR eO T.dQ afZ (ay (av 0) aC)) (hN:=FH.nd)) ?_
  refine aU (eH (fY (f6 (cR tT T.pX boot_all (ay (cN (N':=["row","many"]) (pick:=[none,some 1]) (bK.of rfl rfl) (iC (av 0)) (fun _ _ _ _ _ _=>(bA (i:=0) (hN:=(by decide +kernel:List.Nodup (["row","many"]:List Str))))) (fun _ _ _ _ _ _=>cM) (fun _ _ _ _ _ _=>(aX T.xq (Gr T) (hr.mono (by decide)) (ay (av 0) (ay (av 1) aC))))) aC)))) (aV (bP pR)) eU) ?_
  exact(aV (bP (cR tT T.pX boot_all (ay (cN (N':=["y","many","thing"]) (pick:=[none,some 1,some 0]) (bK.of rfl rfl) (er (ay (av 1) aC) T.dB) (fun _ _ _ _ _ _=>(bA (i:=0) (hN:=(by decide +kernel:List.Nodup (["y","many","thing"]:List Str))))) (fun _ _ _ _ _ _=>cM) (fun _ _ _ _ _ _=>(aX T.xq (Gr T) (hr.mono (by decide)) (ay (aX T.xr (Gs T) (hr.mono (by decide)) (ay (av 2) (ay (av 0) aC))) (ay (av 1) aC))))) aC))))
theorem OO:b7 ["thing"] ["thing"] (aS oF):=⟨rfl,rfl,rfl,by decide +kernel,rfl,by decide +kernel,by decide +kernel⟩
theorem u5(T:Tx K mg):bF P w K mg base bG 5 T.jK T.B8 ["thing"] (bU K 1 dW) :=
 cD (k:=4) T.qx.fn OO rfl rfl fun cdv A outer s H E hr=>by
  show bL _ _ lI
  unfold lI
  exact(aV (eH (fY (f6 (aX T.CY (S6 T) (hr.mono (by decide)) (ay (av 0) aC)))) (aV nY) eU))
theorem ON:b7 ["square","cell"] ["square","cell"] (aS oA):=⟨rfl,rfl,rfl,by decide +kernel,rfl,by decide +kernel,by decide +kernel⟩
theorem Gi(T:Tx K mg):bF P w K mg base bG 1 T.jH T.B5 ["square","cell"] (bU K 2 gV) :=
 cD (k:=0) T.wY.fn ON rfl rfl fun cdv A outer s H E hr=>by
  show bL _ _ nk
  unfold nk
  exact(aV (bP (dU dY (dU dY (av 0) (bC zu (av 1) (cR eO T.dQ afZ (ay (av 0) aC)))) (bC jm (av 1) (cR eO T.dQ afZ (ay (av 0) aC))))))
theorem FE:b7 ["one","other","cells"] ["one","other"] (aS oK):=⟨rfl,rfl,rfl,by decide +kernel,rfl,by decide +kernel,by decide +kernel⟩
theorem SW(T:Tx K mg):bF P w K mg base bG 2 T.jO T.Cc ["one","other"] (bU K 2 sA) :=
 cD (k:=1) T.CQ.fn FE rfl rfl fun cdv A outer s H E hr=>by
  have hu:=Nat.lt_of_succ_lt (Ys hr)
  show bL _ _ nq
  unfold nq
  refine aU (bI (i:=2) (bC iU (cR eO T.dQ afZ (ay (av 0) aC)) (cR eO T.dQ afZ (ay (av 0) aC))) (hN:=FE.nd)) ?_
  exact(aV (bP (iR kO (R8 (k9 hr) (ay (cN (N':=["cell","one","other"]) (pick:=[none,some 0,some 1]) (bK.of rfl rfl) (er (ay (av 2) aC) T.dB) (fun _ _ _ _ _ _=>(bA (i:=0) (hN:=(by decide +kernel:List.Nodup (["cell","one","other"]:List Str))))) (fun _ _ _ _ _ _=>cM) (fun _ _ _ _ _ _=>(gQ (ay (aX T.wY (Gi T) (hr.mono (by decide)) (ay (av 1) (ay (av 0) aC))) (ay (aX T.wY (Gi T) (hr.mono (by decide)) (ay (av 2) (ay (av 0) aC))) aC))))) aC) T.dQ T.vp) (av 2))))
theorem O4:b7 ["one","other"] ["one","other"] (aS pK):=⟨rfl,rfl,rfl,by decide +kernel,rfl,by decide +kernel,by decide +kernel⟩
theorem zq(T:Tx K mg):bF P w K mg base bG 6 T.ki T.CC ["one","other"] (bU K 2 fP) :=
 cD (k:=5) T.tM.fn O4 rfl rfl fun cdv A outer s H E hr=>by
  show bL _ _ nH
  unfold nH
  refine aU (iw (aX T.qx (u5 T) (hr.mono (by decide)) (ay (av 0) aC))) ?_
  refine aU (iw (aX T.qx (u5 T) (hr.mono (by decide)) (ay (av 1) aC))) ?_
  refine aU (eH (fZ GB (cR eO T.dQ afZ (ay (av 0) aC)) (cR eO T.dQ afZ (ay (av 1) aC))) (aV nY) eU) ?_
  exact(aV (bP (aX T.CQ (SW T) (hr.mono (by decide)) (ay (av 0) (ay (av 1) aC)))))
theorem FI:b7 ["square","cut","column","signs"] ["square","cut","column"] (aS pH):=⟨rfl,rfl,rfl,by decide +kernel,rfl,by decide +kernel,by decide +kernel⟩
theorem Tc(T:Tx K mg):bF P w K mg base bG 1 T.kc T.Cz ["square","cut","column"] (bU K 3 eW) :=
 cD (k:=0) T.C2.fn FI rfl rfl fun cdv A outer s H E hr=>by
  show bL _ _ qW
  unfold qW
  refine aU (Fz (i:=3) (hN:=FI.nd) (N':=["row","place"]) (pick:=[none,none]) (bK.of rfl rfl) (sM (ay (av 0) (ay (av 1) aC)) T.pW) (fun _ _ _ _ _ _=>(sZ (n:=2) (iZ (bA (i:=0) (hN:=(by decide +kernel:List.Nodup (["row","place"]:List Str)))) (iZ (bA (i:=1) (hN:=(by decide +kernel:List.Nodup (["row","place"]:List Str)))) sY)))) (fun _ _ _ _ _ _=>cM) (fun _ _ _ _ _ _=>(dU dY (av 0) (av 1)))) ?_
  exact(aV (bP (pS (iR (Gz (k9 hr)) (av 2) (av 1)) (pP (iR (Gz (k9 hr)) (dU dY (dU dY (av 0) (cR eO T.dQ afZ (ay (av 1) aC))) (av 2)) (av 3))))))
theorem oi:b7 ["square","found","row","longer","cut"] ["square"] (aS pF):=⟨rfl,rfl,rfl,by decide +kernel,rfl,by decide +kernel,by decide +kernel⟩
theorem zp(T:Tx K mg):bF P w K mg base bG 6 T.j8 T.Cw ["square"] (bU K 1 fO) :=
 cD (k:=5) T.tL.fn oi rfl rfl fun cdv A outer s H E hr=>by
  show bL _ _ nF
  unfold nF
  refine aU (iw (aX T.qx (u5 T) (hr.mono (by decide)) (ay (av 0) aC))) ?_
  refine aU (bI (i:=1) (mj (ay (gQ aC) aC)) (hN:=oi.nd)) ?_
  refine aU (gM (iC (av 0)) (bA (i:=2) (hN:=oi.nd)) (aU (bI (i:=3) (mj aC) (hN:=oi.nd)) (aU (gM (k7 (av 1)) (bA (i:=4) (hN:=oi.nd)) (aV (iw (Sd (av 3) (cN (N':=["column","cut","square"]) (pick:=[none,some 4,some 0]) (bK.of rfl rfl) (er (ay (cR eO T.dQ afZ (ay (av 2) aC)) aC) T.dB) (fun _ _ _ _ _ _=>(bA (i:=0) (hN:=(by decide +kernel:List.Nodup (["column","cut","square"]:List Str))))) (fun _ _ _ _ _ _=>(F6 (f6 (aX T.C2 (Tc T) (hr.mono (by decide)) (ay (av 2) (ay (av 1) (ay (av 0) aC))))))) (fun _ _ _ _ _ _=>(bC Ui (av 1) (gQ (ay (av 0) aC))))))))) (aV (bI (i:=1) (av 3) (hN:=oi.nd)))))) ?_
  exact(aV (bP (av 1)))
theorem O2:b7 ["one","other"] ["one","other"] (aS pI):=⟨rfl,rfl,rfl,by decide +kernel,rfl,by decide +kernel,by decide +kernel⟩
theorem Td(T:Tx K mg):bF P w K mg base bG 1 T.kg T.CA ["one","other"] (bU K 2 fE) :=
 cD (k:=0) T.C3.fn O2 rfl rfl fun cdv A outer s H E hr=>by
  show bL _ _ qX
  unfold qX
  exact(aV (bP (cR Kv T.zE boot_any (ay (cN (N':=["x","y"]) (pick:=[none,none]) (bK.of rfl rfl) (sM (ay (av 0) (ay (av 1) aC)) T.pW) (fun _ _ _ _ _ _=>(sZ (n:=2) (iZ (bA (i:=0) (hN:=(by decide +kernel:List.Nodup (["x","y"]:List Str)))) (iZ (bA (i:=1) (hN:=(by decide +kernel:List.Nodup (["x","y"]:List Str)))) sY)))) (fun _ _ _ _ _ _=>cM) (fun _ _ _ _ _ _=>(iR kO (av 0) (av 1)))) aC))))
theorem uH:b7 ["choices","more","longer","chosen","cut"] ["choices","more"] (aS oj):=⟨rfl,rfl,rfl,by decide +kernel,rfl,by decide +kernel,by decide +kernel⟩
theorem SN(T:Tx K mg):bF P w K mg base bG 2 T.jC T.BY ["choices","more"] (bU K 2 iW) :=
 cD (k:=1) T.CK.fn uH rfl rfl fun cdv A outer s H E hr=>by
  show bL _ _ qE
  unfold qE
  refine aU (bI (i:=2) (mj aC) (hN:=uH.nd)) ?_
  refine aU (gM (k7 (av 0)) (bA (i:=3) (hN:=uH.nd)) (aV (gM (k7 (av 1)) (bA (i:=4) (hN:=uH.nd)) (aV (eH (fY (f6 (cR Kv T.zE boot_any (ay (cN (N':=["each","cut"]) (pick:=[none,some 4]) (bK.of rfl rfl) (k7 (av 3)) (fun _ _ _ _ _ _=>(bA (i:=0) (hN:=(by decide +kernel:List.Nodup (["each","cut"]:List Str))))) (fun _ _ _ _ _ _=>cM) (fun _ _ _ _ _ _=>(aX T.C3 (Td T) (hr.mono (by decide)) (ay (av 1) (ay (av 0) aC))))) aC)))) (aV (iw (zg (av 2) (bC GF (av 3) (gR (ay (av 4) aC)))))) eU))))) ?_
  exact(aV (bP (av 2)))
theorem OM:b7 ["columns"] ["columns"] (aS oz):=⟨rfl,rfl,rfl,by decide +kernel,rfl,by decide +kernel,by decide +kernel⟩
theorem SR(T:Tx K mg):bF P w K mg base bG 1 T.jG T.B4 ["columns"] (bU K 1 iX) :=
 cD (k:=0) T.CN.fn OM rfl rfl fun cdv A outer s H E hr=>by
  show bL _ _ qI
  unfold qI
  exact(aV (bP (gm gy T.fD af9 (ay (cN (N':=["y","columns"]) (pick:=[none,some 0]) (bK.of rfl rfl) (er (ay (cR eO T.dQ afZ (ay (av 0) aC)) aC) T.dB) (fun _ _ _ _ _ _=>(bA (i:=0) (hN:=(by decide +kernel:List.Nodup (["y","columns"]:List Str))))) (fun _ _ _ _ _ _=>cM) (fun _ _ _ _ _ _=>(Ga (av 1) (av 0)))) aC))))
theorem OL:b7 ["chosen"] ["chosen"] (aS oq):=⟨rfl,rfl,rfl,by decide +kernel,rfl,by decide +kernel,by decide +kernel⟩
theorem SQ(T:Tx K mg):bF P w K mg base bG 2 T.jE T.B0 ["chosen"] (bU K 1 kQ) :=
 cD (k:=1) T.CM.fn OL rfl rfl fun cdv A outer s H E hr=>by
  show bL _ _ qG
  unfold qG
  exact(aV (bP (gm gy T.fD af9 (ay (cN (N':=["x","chosen"]) (pick:=[none,some 0]) (bK.of rfl rfl) (er (ay (cR eO T.dQ afZ (ay (av 0) aC)) aC) T.dB) (fun _ _ _ _ _ _=>(bA (i:=0) (hN:=(by decide +kernel:List.Nodup (["x","chosen"]:List Str))))) (fun _ _ _ _ _ _=>cM) (fun _ _ _ _ _ _=>(aX T.CN (SR T) (hr.mono (by decide)) (ay (aX T.xr (Gs T) (hr.mono (by decide)) (ay (av 1) (ay (av 0) aC))) aC)))) aC))))
theorem rJ:b7 ["square","found","choices","sign"] ["square"] (aS ou):=⟨rfl,rfl,rfl,by decide +kernel,rfl,by decide +kernel,by decide +kernel⟩
theorem zo(T:Tx K mg):bF P w K mg base bG 7 T.jF T.B3 ["square"] (bU K 1 gn) :=
 cD (k:=6) T.tK.fn rJ rfl rfl fun cdv A outer s H E hr=>by
  show bL _ _ qH
  unfold qH
  refine aU (iw (aX T.qx (u5 T) (hr.mono (by decide)) (ay (av 0) aC))) ?_
  refine aU (eH (fZ GD (cR eO T.dQ afZ (ay (av 0) aC)) (zf rfl T.IX)) (aV nY) eU) ?_
  refine aU (bI (i:=1) (aX T.tL (zp T) (hr.mono (by decide)) (ay (av 0) aC)) (hN:=rJ.nd)) ?_
  refine aU (bI (i:=2) (gR (ay (gR aC) aC)) (hN:=rJ.nd)) ?_
  refine aU (gM (er (ay (cR eO T.dQ afZ (ay (av 0) aC)) aC) T.dB) (bA (i:=3) (hN:=rJ.nd)) (aV (bI (i:=2) (aX T.CK (SN T) (hr.mono (by decide)) (ay (av 2) (ay (cN (N':=["cut","sign"]) (pick:=[none,some 3]) (bK.of rfl rfl) (k7 (av 1)) (fun _ _ _ _ _ _=>(bA (i:=0) (hN:=(by decide +kernel:List.Nodup (["cut","sign"]:List Str))))) (fun _ _ _ _ _ _=>(F6 (fZ kO (dU dY (av 0) bh) (av 1)))) (fun _ _ _ _ _ _=>(av 0))) aC))) (hN:=rJ.nd)))) ?_
  exact(aV (bP (Sa (R1 (av 2)) (aX T.CM (SQ T) (hr.mono (by decide)) (ay (dU dY (av 2) bh) aC)) ze)))
theorem O0:b7 ["q","factor","x"] ["q","factor","x"] (aS pD):=⟨rfl,rfl,rfl,by decide +kernel,rfl,by decide +kernel,by decide +kernel⟩
theorem S9(T:Tx K mg):bF P w K mg base bG 6 T.j7 T.Cv ["q","factor","x"] (bU K 3 vA) :=
 cD (k:=5) T.C1.fn O0 rfl rfl fun cdv A outer s H E hr=>by
  show bL _ _ nE
  unfold nE
  exact(aV (bP (gm gy T.fD af9 (ay (cN (N':=["y","q","factor","x"]) (pick:=[none,some 0,some 1,some 2]) (bK.of rfl rfl) (er (ay (av 0) aC) T.dB) (fun _ _ _ _ _ _=>(bA (i:=0) (hN:=(by decide +kernel:List.Nodup (["y","q","factor","x"]:List Str))))) (fun _ _ _ _ _ _=>cM) (fun _ _ _ _ _ _=>(aX T.C4 (Te T) (hr.mono (by decide)) (ay (av 1) (ay (aX T.CP (SV T) (hr.mono (by decide)) (ay (av 1) (ay (av 2) (ay (av 3) aC)))) (ay (av 0) aC)))))) aC))))
theorem OZ:b7 ["q","factor"] ["q","factor"] (aS pC):=⟨rfl,rfl,rfl,by decide +kernel,rfl,by decide +kernel,by decide +kernel⟩
theorem S8(T:Tx K mg):bF P w K mg base bG 7 T.j6 T.Cu ["q","factor"] (bU K 2 qb) :=
 cD (k:=6) T.C0.fn OZ rfl rfl fun cdv A outer s H E hr=>by
  show bL _ _ nC
  unfold nC
  exact(aV (bP (gm gy T.fD af9 (ay (cN (N':=["x","q","factor"]) (pick:=[none,some 0,some 1]) (bK.of rfl rfl) (er (ay (av 0) aC) T.dB) (fun _ _ _ _ _ _=>(bA (i:=0) (hN:=(by decide +kernel:List.Nodup (["x","q","factor"]:List Str))))) (fun _ _ _ _ _ _=>cM) (fun _ _ _ _ _ _=>(aX T.C1 (S9 T) (hr.mono (by decide)) (ay (av 1) (ay (av 2) (ay (av 0) aC)))))) aC))))
theorem OY:b7 ["q"] ["q"] (aS pB):=⟨rfl,rfl,rfl,by decide +kernel,rfl,by decide +kernel,by decide +kernel⟩
theorem S7(T:Tx K mg):bF P w K mg base bG 8 T.j5 T.Ct ["q"] (bU K 1 qa) :=
 cD (k:=7) T.CZ.fn OY rfl rfl fun cdv A outer s H E hr=>by
  show bL _ _ nB
  unfold nB
  refine aU (eH (PW.pt (rR (fY (f6 (aX T.xo (Gq T) (hr.mono (by decide)) (ay (av 0) aC)))) (uV (fZ GD (av 0) (zf rfl T.BR))))) (aV nY) eU) ?_
  exact(aV (bP (cN (N':=["factor","q"]) (pick:=[none,some 0]) (bK.of rfl rfl) (Yg (ay bh (ay (av 0) aC)) T.dB) (fun _ _ _ _ _ _=>(bA (i:=0) (hN:=(by decide +kernel:List.Nodup (["factor","q"]:List Str))))) (fun _ _ _ _ _ _=>cM) (fun _ _ _ _ _ _=>(aX T.C0 (S8 T) (hr.mono (by decide)) (ay (av 1) (ay (av 0) aC)))))))
theorem OS:b7 ["script","k"] ["script","k"] (aS oW):=⟨rfl,rfl,rfl,by decide +kernel,rfl,by decide +kernel,by decide +kernel⟩
theorem S4(T:Tx K mg):bF P w K mg base bG 1 T.jW T.Cm ["script","k"] (bU K 2 mL) :=
 cD (k:=0) T.CW.fn OS rfl rfl fun cdv A outer s H E hr=>by
  show bL _ _ ny
  unfold ny
  refine aU (eH (fZ TH (av 1) (cR eO T.dQ afZ (ay (av 0) aC))) (aV (bP (dU dY (av 0) (av 1)))) eU) ?_
  exact(aV (bP bh))
theorem oh:b7 ["cell","number","j","more"] ["cell"] (aS oR):=⟨rfl,rfl,rfl,by decide +kernel,rfl,by decide +kernel,by decide +kernel⟩
theorem S0(T:Tx K mg):bF P w K mg base bG 1 T.jT T.Ci ["cell"] (bU K 1 mJ) :=
 cD (k:=0) T.CU.fn oh rfl rfl fun cdv A outer s H E hr=>by
  show bL _ _ nv
  unfold nv
  refine aU (eH (fZ Ua (av 0) (bC Gy bh bh)) (aV (bP (mj (ay (bC pT (av 0) (bC Gy bh bh)) aC)))) eU) ?_
  refine aU (bI (i:=1) bh (hN:=oh.nd)) ?_
  refine aU (gM (er (ay bh aC) T.dB) (bA (i:=2) (hN:=oh.nd)) (aU (bI (i:=3) (bC jm (bC iU (bC gU (bC gU (bC jm (av 0) bh) (bC iU bh (av 2))) bh) bh) bh) (hN:=oh.nd)) (aU (bI (i:=3) (bC jm (bC gU (bC gU (bC iU (av 3) (av 3)) (bC iU bh (av 2))) bh) bh) (hN:=oh.nd)) (aV (bI (i:=1) (bC gU (bC iU (av 1) bh) (av 3)) (hN:=oh.nd)))))) ?_
  exact(aV (bP (mj (ay (av 1) aC))))
theorem FF:b7 ["pot","far","found"] ["pot","far"] (aS oM):=⟨rfl,rfl,rfl,by decide +kernel,rfl,by decide +kernel,by decide +kernel⟩
theorem mw(T:Tx K mg):bF P w K mg base bG 1 T.jP T.Cd ["pot","far"] (bU K 2 cH) :=
 cD (k:=0) T.jz.fn FF rfl rfl fun cdv A outer s H E hr=>by
  show bL _ _ nt
  unfold nt
  refine aU (bI (i:=2) (bC jm (dU dY (av 0) bh) (av 1)) (hN:=FF.nd)) ?_
  refine aU (OH (bC zu (dU dY (av 0) bh) (av 1)) (Ze (av 0) bh)) ?_
  exact(aV (bP (av 2)))
theorem FG:b7 ["pot","many","left"] ["pot","many"] (aS oU):=⟨rfl,rfl,rfl,by decide +kernel,rfl,by decide +kernel,by decide +kernel⟩
theorem rX(T:Tx K mg):bF P w K mg base bG 2 T.jU T.Cj ["pot","many"] (bU K 2 dF) :=
 cD (k:=1) T.m5.fn FG rfl rfl fun cdv A outer s H E hr=>by
  show bL _ _ qQ
  unfold qQ
  refine aU (bI (i:=2) (R6 (ay (av 1) aC) T.zD T.dB) (hN:=FG.nd)) ?_
  exact(aV (bP (gm gy T.fD af9 (ay (cN (N':=["k","left","pot"]) (pick:=[none,some 2,some 0]) (bK.of rfl rfl) (er (ay (av 1) aC) T.dB) (fun _ _ _ _ _ _=>(bA (i:=0) (hN:=(by decide +kernel:List.Nodup (["k","left","pot"]:List Str))))) (fun _ _ _ _ _ _=>cM) (fun _ _ _ _ _ _=>(R4 (av 1) (aX T.jz (mw T) (hr.mono (by decide)) (ay (av 2) (ay (cR eO T.dQ afZ (ay (av 1) aC)) aC)))))) aC))))
theorem kI:b7 ["pot","n","rows","by","order","names","columns"] ["pot","n"] (aS oV):=⟨rfl,rfl,rfl,by decide +kernel,rfl,by decide +kernel,by decide +kernel⟩
theorem S3(T:Tx K mg):bF P w K mg base bG 3 T.jV T.Ck ["pot","n"] (bU K 2 mK) :=
 cD (k:=2) T.CV.fn kI rfl rfl fun cdv A outer s H E hr=>by
  show bL _ _ qR
  unfold qR
  refine aU (eH (PW.pt (zh (fZ kO (av 1) bh) (zj (fZ kO (aX T.jz (mw T) (hr.mono (by decide)) (ay (av 0) (ay bh aC))) bh)))) (aV (bI (i:=2) (cN (N':=["row","n"]) (pick:=[none,some 1]) (bK.of rfl rfl) (er (ay (av 1) aC) T.dB) (fun _ _ _ _ _ _=>(bA (i:=0) (hN:=(by decide +kernel:List.Nodup (["row","n"]:List Str))))) (fun _ _ _ _ _ _=>cM) (fun _ _ _ _ _ _=>(cN (N':=["column","row"]) (pick:=[none,some 0]) (bK.of rfl rfl) (er (ay (av 1) aC) T.dB) (fun _ _ _ _ _ _=>(bA (i:=0) (hN:=(by decide +kernel:List.Nodup (["column","row"]:List Str))))) (fun _ _ _ _ _ _=>cM) (fun _ _ _ _ _ _=>(bC Th (av 1) (av 0)))))) (hN:=kI.nd))) (aU (bI (i:=3) (bC gU bh (aX T.jz (mw T) (hr.mono (by decide)) (ay (av 0) (ay (cR abK T.G7 boot_max (ay bh (ay (bC pT (av 1) bh) aC))) aC)))) (hN:=kI.nd)) (aU (bI (i:=2) (cN (N':=["row","n","by"]) (pick:=[none,some 1,some 3]) (bK.of rfl rfl) (er (ay (av 1) aC) T.dB) (fun _ _ _ _ _ _=>(bA (i:=0) (hN:=(by decide +kernel:List.Nodup (["row","n","by"]:List Str))))) (fun _ _ _ _ _ _=>cM) (fun _ _ _ _ _ _=>(cN (N':=["column","n","by","row"]) (pick:=[none,some 1,some 2,some 0]) (bK.of rfl rfl) (er (ay (av 1) aC) T.dB) (fun _ _ _ _ _ _=>(bA (i:=0) (hN:=(by decide +kernel:List.Nodup (["column","n","by","row"]:List Str))))) (fun _ _ _ _ _ _=>cM) (fun _ _ _ _ _ _=>(bC jm (bC gU (bC iU (av 2) (av 3)) (av 0)) (av 1)))))) (hN:=kI.nd)) (aV (eH (fZ (GA (k9 hr)) (R3 (ay (cN (N':=["row"]) (pick:=[none]) (bK.of rfl rfl) (k7 (av 2)) (fun _ _ _ _ _ _=>(bA (i:=0) (hN:=(by decide +kernel:List.Nodup (["row"]:List Str))))) (fun _ _ _ _ _ _=>cM) (fun _ _ _ _ _ _=>(dU dY (av 0) bh))) aC) T.G6 T.vp) (R7 (ay (av 1) aC) T.zD T.dB)) (aV (bI (i:=2) (cN (N':=["row","n"]) (pick:=[none,some 1]) (bK.of rfl rfl) (er (ay (av 1) aC) T.dB) (fun _ _ _ _ _ _=>(bA (i:=0) (hN:=(by decide +kernel:List.Nodup (["row","n"]:List Str))))) (fun _ _ _ _ _ _=>cM) (fun _ _ _ _ _ _=>(cN (N':=["column","n","row"]) (pick:=[none,some 1,some 0]) (bK.of rfl rfl) (er (ay (av 1) aC) T.dB) (fun _ _ _ _ _ _=>(bA (i:=0) (hN:=(by decide +kernel:List.Nodup (["column","n","row"]:List Str))))) (fun _ _ _ _ _ _=>cM) (fun _ _ _ _ _ _=>(bC jm (bC gU (av 2) (av 0)) (av 1)))))) (hN:=kI.nd))) eU))))) ?_
  refine aU (bI (i:=4) (aX T.m5 (rX T) (hr.mono (by decide)) (ay (av 0) (ay (av 1) aC))) (hN:=kI.nd)) ?_
  refine aU (bI (i:=5) (aX T.m5 (rX T) (hr.mono (by decide)) (ay (av 0) (ay (av 1) aC))) (hN:=kI.nd)) ?_
  refine aU (bI (i:=6) (aX T.m5 (rX T) (hr.mono (by decide)) (ay (av 0) (ay (av 1) aC))) (hN:=kI.nd)) ?_
  exact(aV (bP (gm gy T.fD af9 (ay (cN (N':=["row","names","columns","rows"]) (pick:=[none,some 5,some 6,some 2]) (bK.of rfl rfl) (iC (av 4)) (fun _ _ _ _ _ _=>(bA (i:=0) (hN:=(by decide +kernel:List.Nodup (["row","names","columns","rows"]:List Str))))) (fun _ _ _ _ _ _=>cM) (fun _ _ _ _ _ _=>(gm gy T.fD af9 (ay (cN (N':=["column","names","rows","row"]) (pick:=[none,some 1,some 3,some 0]) (bK.of rfl rfl) (iC (av 2)) (fun _ _ _ _ _ _=>(bA (i:=0) (hN:=(by decide +kernel:List.Nodup (["column","names","rows","row"]:List Str))))) (fun _ _ _ _ _ _=>cM) (fun _ _ _ _ _ _=>(dU dY (av 1) (dU dY (dU dY (av 2) (av 3)) (av 0))))) aC)))) aC))))
theorem yP:b7 ["pot","rows","order"] ["pot"] (aS oO):=⟨rfl,rfl,rfl,by decide +kernel,rfl,by decide +kernel,by decide +kernel⟩
theorem SY(T:Tx K mg):bF P w K mg base bG 3 T.jR T.Cf ["pot"] (bU K 1 jq) :=
 cD (k:=2) T.CT.fn yP rfl rfl fun cdv A outer s H E hr=>by
  show bL _ _ qP
  unfold qP
  refine aU ?_ ?_
  ·with_reducible refine bI (i:=1) ?_ ?_ ?_ ?_ ?_ ?_
   ·with_reducible refine mj ?_
    with_reducible refine ay ?_ ?_ ?_
    ·with_reducible refine gR ?_
     with_reducible refine mq ?_
     kernel_rfl
    ·skip
     with_reducible refine ay ?_ ?_ ?_
     ·with_reducible refine gR ?_
      with_reducible refine mq ?_
      kernel_rfl
     ·skip
      with_reducible refine ay ?_ ?_ ?_
      ·with_reducible refine gR ?_
       with_reducible refine mq ?_
       kernel_rfl
      ·skip
       with_reducible refine ay ?_ ?_ ?_
       ·with_reducible refine gR ?_
        with_reducible refine mq ?_
        kernel_rfl
       ·skip
        with_reducible refine ay ?_ ?_ ?_
        ·with_reducible refine gR ?_
         with_reducible refine mq ?_
         kernel_rfl
        ·skip
         with_reducible exact aC
        ·exact cL rfl
       ·exact cL rfl
      ·exact cL rfl
     ·exact cL rfl
    ·exact cL rfl
   ·exact yP.nd
   ·rfl
   ·first|exact Or.inl rfl|exact Or.inr rfl
   ·rfl
   ·first|exact .inl rfl|exact .inr rfl
  ·skip
   refine aU (iw (zg (av 1) (gR (mq (by kernel_rfl))))) ?_
   refine aU (bI (i:=2) (aX T.m5 (rX T) (hr.mono (by decide)) (ay (av 0) (ay bh aC))) (hN:=yP.nd)) ?_
   exact(aV (bP (gm gy T.fD af9 (ay (cN (N':=["row","rows"]) (pick:=[none,some 1]) (bK.of rfl rfl) (iC (av 2)) (fun _ _ _ _ _ _=>(bA (i:=0) (hN:=(by decide +kernel:List.Nodup (["row","rows"]:List Str))))) (fun _ _ _ _ _ _=>cM) (fun _ _ _ _ _ _=>(gm gy T.fD af9 (ay (dU dY (av 1) (av 0)) aC)))) aC))))
theorem OQ:b7 ["pot","n"] ["pot","n"] (aS oN):=⟨rfl,rfl,rfl,by decide +kernel,rfl,by decide +kernel,by decide +kernel⟩
theorem SX(T:Tx K mg):bF P w K mg base bG 4 T.jQ T.Ce ["pot","n"] (bU K 2 kR) :=
 cD (k:=3) T.CS.fn OQ rfl rfl fun cdv A outer s H E hr=>by
  show bL _ _ qO
  unfold qO
  refine aU (eH (PW.pt (zh (fZ kO (av 1) bh) (zj (fZ kO (aX T.jz (mw T) (hr.mono (by decide)) (ay (av 0) (ay bh aC))) bh)))) (aV (bP (aX T.CT (SY T) (hr.mono (by decide)) (ay (av 0) aC)))) eU) ?_
  exact(aV (bP (aX T.CV (S3 T) (hr.mono (by decide)) (ay (av 0) (ay (av 1) aC)))))
theorem OR:b7 ["square","sign"] ["square","sign"] (aS oQ):=⟨rfl,rfl,rfl,by decide +kernel,rfl,by decide +kernel,by decide +kernel⟩
theorem Gm(T:Tx K mg):bF P w K mg base bG 1 T.jS T.Cg ["square","sign"] (bU K 2 iY) :=
 cD (k:=0) T.xh.fn OR rfl rfl fun cdv A outer s H E hr=>by
  show bL _ _ nu
  unfold nu
  exact(aV (bP (gm gy T.fD af9 (ay (cN (N':=["row","sign"]) (pick:=[none,some 1]) (bK.of rfl rfl) (iC (av 0)) (fun _ _ _ _ _ _=>(bA (i:=0) (hN:=(by decide +kernel:List.Nodup (["row","sign"]:List Str))))) (fun _ _ _ _ _ _=>cM) (fun _ _ _ _ _ _=>(Ga (av 0) (av 1)))) aC))))
theorem fN:b7 ["script","k","pot","square","many","found","some","order","one","other","q","lined","first"] ["script"] (aS oX):=⟨rfl,rfl,rfl,by decide +kernel,rfl,by decide +kernel,by decide +kernel⟩
theorem S5(T:Tx K mg):bF P w K mg base bG 9 T.jd T.Cn ["script"] (bU K 1 sC) :=
 cD (k:=8) T.JC.fn fN rfl rfl fun cdv A outer s H E hr=>by
  show bL _ _ qS
  unfold qS
  refine aU (gM (er (ay bh aC) T.dB) (bA (i:=1) (hN:=fN.nd)) (aU (bI (i:=2) (aX T.CU (S0 T) (hr.mono (by decide)) (ay (aX T.CW (S4 T) (hr.mono (by decide)) (ay (av 0) (ay (av 1) aC))) aC)) (hN:=fN.nd)) (aU (bI (i:=3) (aX T.CS (SX T) (hr.mono (by decide)) (ay (av 2) (ay (bC gU bh (aX T.jz (mw T) (hr.mono (by decide)) (ay (av 2) (ay bh aC)))) aC))) (hN:=fN.nd)) (aU (bI (i:=4) (cR eO T.dQ afZ (ay (av 3) aC)) (hN:=fN.nd)) (aU (bI (i:=5) (aX T.tK (zo T) (hr.mono (by decide)) (ay (av 3) aC)) (hN:=fN.nd)) (aU (eH (fZ TZ (av 5) ze) (aU (bI (i:=6) (aX T.tL (zp T) (hr.mono (by decide)) (ay (av 3) aC)) (hN:=fN.nd)) (aU (eH (fY (f6 (cR tT T.pX boot_all (ay (cN (N':=["sign","some","found"]) (pick:=[none,some 6,some 5]) (bK.of rfl rfl) (er (ay (av 4) aC) T.dB) (fun _ _ _ _ _ _=>(bA (i:=0) (hN:=(by decide +kernel:List.Nodup (["sign","some","found"]:List Str))))) (fun _ _ _ _ _ _=>cM) (fun _ _ _ _ _ _=>(iR (GC (k9 hr)) (aX T.xh (Gm T) (hr.mono (by decide)) (ay (av 2) (ay (av 0) aC))) (av 1)))) aC)))) (aV (bP pR)) eU) (aU (bI (i:=7) (aX T.m5 (rX T) (hr.mono (by decide)) (ay (av 2) (ay (av 4) aC))) (hN:=fN.nd)) (aU (bI (i:=8) (gm gy T.fD af9 (ay (cN (N':=["row","square"]) (pick:=[none,some 3]) (bK.of rfl rfl) (iC (av 7)) (fun _ _ _ _ _ _=>(bA (i:=0) (hN:=(by decide +kernel:List.Nodup (["row","square"]:List Str))))) (fun _ _ _ _ _ _=>cM) (fun _ _ _ _ _ _=>(dU dY (av 1) (av 0)))) aC)) (hN:=fN.nd)) (aU (bI (i:=9) (gm gy T.fD af9 (ay (cN (N':=["row","found"]) (pick:=[none,some 5]) (bK.of rfl rfl) (iC (av 7)) (fun _ _ _ _ _ _=>(bA (i:=0) (hN:=(by decide +kernel:List.Nodup (["row","found"]:List Str))))) (fun _ _ _ _ _ _=>cM) (fun _ _ _ _ _ _=>(dU dY (av 1) (av 0)))) aC)) (hN:=fN.nd)) (aV (eH (PW.pt (rR (fY (f6 (aX T.tM (zq T) (hr.mono (by decide)) (ay (av 3) (ay (av 5) aC))))) (rR (fY (f6 (aX T.tM (zq T) (hr.mono (by decide)) (ay (av 5) (ay (av 3) aC))))) (uV (fY (f6 (aX T.tM (zq T) (hr.mono (by decide)) (ay (av 8) (ay (av 9) aC))))))))) (aV (bP pR)) eU))))))) eU) (aU (bI (i:=10) (dU dY (gR (ay bh (ay bh (ay bh (ay bh (ay bh aC)))))) (aX T.jz (mw T) (hr.mono (by decide)) (ay (av 2) (ay bh aC)))) (hN:=fN.nd)) (aU (bI (i:=11) (aX T.CZ (S7 T) (hr.mono (by decide)) (ay (av 10) aC)) (hN:=fN.nd)) (aU (bI (i:=12) (dU dY (av 11) (aX T.jz (mw T) (hr.mono (by decide)) (ay (av 2) (ay (bC pT (av 10) bh) aC)))) (hN:=fN.nd)) (aU (bI (i:=6) (aX T.tL (zp T) (hr.mono (by decide)) (ay (av 12) aC)) (hN:=fN.nd)) (aV (gM (k7 (av 11)) (bA (i:=3) (hN:=fN.nd)) (aV (eH (PW.pt (zh (fZ (GA (k9 hr)) (av 3) (av 12)) (zj (fY (f6 (cR tT T.pX boot_all (ay (cN (N':=["sign","some","square"]) (pick:=[none,some 6,some 3]) (bK.of rfl rfl) (er (ay (av 10) aC) T.dB) (fun _ _ _ _ _ _=>(bA (i:=0) (hN:=(by decide +kernel:List.Nodup (["sign","some","square"]:List Str))))) (fun _ _ _ _ _ _=>cM) (fun _ _ _ _ _ _=>(iR (GC (k9 hr)) (aX T.xh (Gm T) (hr.mono (by decide)) (ay (av 2) (ay (av 0) aC))) (av 1)))) aC))))))) (aV (bP pR)) eU)))))))))))))) ?_
  exact(aV (bP (pS (iR (Ue (k9 hr)) (aX T.tK (zo T) (hr.mono (by decide)) (ay (gQ (ay (gQ (ay bh aC)) aC)) aC)) (gQ (ay (gQ (ay bh aC)) aC))) (pP (iR T7 (aX T.tK (zo T) (hr.mono (by decide)) (ay (gQ (ay (gQ (ay bh (ay bh aC))) (ay (gQ (ay bh (ay bh aC))) aC))) aC)) ze)))))
end
end Ev
namespace Ev
open PySem L2
theorem bx{s t:ah}{e e':Ev}{c c':aa}(h:s e c=.ok (.nx e') c'):aE s t e c=t e' c':=by rw[ur,h];rfl
theorem mD{i:Int}(h:0≤i):∃n:Nat,i=n:=⟨i.toNat,by omega⟩
theorem BS{g:Gd}{s:ah}(inv:Nat→Ev→aa→Prop):∀(items:List D) (k:Nat) (e:Ev) (c:aa),inv k e c →
  (∀i x,items[i]? = some x→∀e c,inv (k+i) e c→∃e' e'' c' c'',g x e c=.ok e' c'∧s e' c'=.ok (.nx e'') c''∧inv (k+i+1) e'' c'') →
  ∃e' c',inv (k+items.length) e' c'∧cU (fun _=>True) g s items e c=.ok (.nx e') c'
 |[],k,e,c,hi,_=>⟨e,c,hi,by simp⟩
 |x::xs,k,e,c,hi,h=>by
  obtain⟨e',e'',c',c'',h1,h2,h3⟩:=h 0 x rfl e c hi
  obtain⟨e3,c3,i3,h4⟩:=BS inv xs (k+1) e'' c'' h3 fun i y hy e c hi=>by
   have:=h (i+1) y (by simpa using hy) e c (by rwa[show k+(i+1)=k+1+i by omega])
   rwa[show k+(i+1)+1=k+1+i+1 by omega]at this
  exact⟨e3,c3,by rwa[afO,show k+(xs.length+1)=k+1+xs.length by omega],by rw[jy,h1,R.aD,h2];exact h4⟩
def dP(j:Nat) (n:Nat) (c:aa):Prop:=c.length=n∧j<n∧∃p:Int,c[j]? = some (.lst [.int p])
theorem dP.set{j n:Nat}{c:aa}(h:dP j n c) (p:Int):dP j n (c.set j (.lst [.int p])):=by
 obtain⟨h1,h2,_⟩:=h
 exact⟨by simp[h1],h2,p,by rw[agn (by omega)]⟩
theorem nR{j n:Nat}{c:aa}{cZ:Int}(h:dP j n c) (h0:0<cZ) (h1:cZ<1073741824) :
  ∃(x:Int) (c':aa),0≤x∧x<cZ∧dP j n c'∧cH [.ref j,.int cZ] c=.ok (.int x) c':=by
 obtain⟨hl,hj,p,hp⟩:=id h
 refine⟨p % cZ,c.set j (.lst [.int (p/cZ)]),ahy _ (by omega),ahz _ h0,h.set _,?_⟩
 have e1:aJ (.ref j) (.int 0) c=.ok (.int p) c:=by
  unfold aJ gK
  simp[hp]
 have e2:l5 (.ref j) (.int 0) (.int (p/cZ)) c=.ok () (c.set j (.lst [.int (p/cZ)])):=by
  unfold l5
  simp[hp,eL]
 have e3:(c.set j (.lst [.int (p/cZ)])).take c.length=c.set j (.lst [.int (p/cZ)]):=by
  rw[ahA];simp
 simp(disch:=omega) [cH,nt,e1,mF,wU,e2,e3]
theorem QE(cell:Int) (c:aa):∃p:Int,mJ [.int cell] c=.ok (.ref c.length) (c++[.lst [.int p]]):=by
 by_cases h:10^18≤cell
 ·refine⟨cell-10^18,?_⟩
  simp(disch:=omega) [mJ,nv,F3,h]
  rw[if_pos (by simpa using h)]
  simp[eB]
 ·obtain⟨e',c',⟨⟨q,v1,v2,rfl⟩,rfl⟩,hf⟩:=BU (g:=az 2) (s:=(aE (aH 3 (au cJ (au bX (au cy (au cy (au cJ (ak 0) (dC (.int 2147483629))) (au bX (dC (.int 7919)) (ak 2))) (dC (.int 1))) (dC (.int 48271))) (dC (.int 2147483647)))) (aE (aH 3 (au cJ (au cy (au cy (au bX (ak 3) (ak 3)) (au bX (dC (.int 69621)) (ak 2))) (dC (.int 7))) (dC (.int 2147483587)))) (aH 1 (au cy (au bX (ak 1) (dC (.int 2147483587))) (ak 3))))))
   (fun e c'=>(∃q v1 v2,e=[some (.int cell),some (.int q),v1,v2])∧c'=c) (bg 0 64) [some (.int cell),some (.int 0),none,none] c ⟨⟨0,none,none,rfl⟩,rfl⟩ (fun x hx e c' ⟨⟨q,v1,v2,he⟩,hc⟩=>by
    obtain⟨i,rfl,i0,i1⟩:=vq hx
    subst he;subst hc
    have b0:0≤(cell % 2147483629+7919*i+1)*48271 % 2147483647:=ahy _ (by decide)
    have b1:(cell % 2147483629+7919*i+1)*48271 % 2147483647<2147483647:=ahz _ (by decide)
    generalize hm:(cell % 2147483629+7919*i+1)*48271 % 2147483647=m at b0 b1
    refine⟨_,[some (.int cell),some (.int (q*2147483587+(m*m+69621*i+7) % 2147483587)),some (.int i),some (.int ((m*m+69621*i+7) % 2147483587))],_,_,rfl,by simp(disch:=omega) [mF,zI,mul_r,hm],⟨⟨_,_,_,rfl⟩,rfl⟩⟩)
  refine⟨q,?_⟩
  have hh:¬(1000000000000000000≤cell):=by simpa using h
  simp(disch:=omega) [mJ,nv,F3,hh]
  rw[hf]
  simp[eB]
theorem abJ(ns:List Int) (k:Int) (h:0≤k) (c:aa):∃x:Int,mL [.cG ns,.int k] c=.ok (.int x) c:=by
 by_cases q:k<ns.length
 ·have hk:k.toNat<ns.length:=by omega
  refine⟨ns[k.toNat],?_⟩
  have e:aJ (.cG ns) (.int k) c=.ok (.int ns[k.toNat]) c:=by
   show(match cI (ns.map D.int) k with|some d=>R.ok d c|none=>R.bad)=_
   have:cI (ns.map D.int) k=some (.int ns[k.toNat]):=by
    have:=jA (xs:=ns.map D.int) (j:=k.toNat) (v:=.int ns[k.toNat]) (by simp[hk])
    rw[Int.toNat_of_nonneg h]at this
    exact this
   rw[this]
  simp[mL,ny,q,e]
 ·exact⟨0,by simp[mL,ny,q]⟩
theorem take2{j:Nat}{c:aa}{p cZ:Int}(hp:c[j]? = some (.lst [.int p])) (h0:0<cZ) (h1:cZ<1073741824):cH [.ref j,.int cZ] c=.ok (.int (p % cZ)) (c.set j (.lst [.int (p/cZ)])):=by
 have hj:j<c.length:=(afJ.mp hp).1
 have e1:aJ (.ref j) (.int 0) c=.ok (.int p) c:=by
  unfold aJ gK
  simp[hp]
 have e2:l5 (.ref j) (.int 0) (.int (p/cZ)) c=.ok () (c.set j (.lst [.int (p/cZ)])):=by
  unfold l5
  simp[hp,eL]
 have e3:(c.set j (.lst [.int (p/cZ)])).take c.length=c.set j (.lst [.int (p/cZ)]):=by
  rw[ahA];simp
 simp(disch:=omega) [cH,nt,e1,mF,wU,e2,e3]
theorem Ji(l:List D):l.filter (fun _=>true)=l:=by simp
theorem yW{β:Type}(m:Nat) (F:D→β):(bg 0 (m:Int)).map F=(List.range m).map fun i:Nat=>F (.int (i:Int)):=by
 unfold bg
 rw[afY,show((m:Int)-0).toNat=m by omega]
 refine agR fun i _=>?_
 simp
def PO(j n:Nat) (os:List Nat) (c:aa):Prop:=c.length=n+1∧j<n∧(∃p:Int,c[j]? = some (.lst [.int p]))∧c[n]? = some (.lst (nD os))
def rV:af:=(qz (ak 1) (aA 2 cH (ao (ak 2) (ao (aF aR (ao (ak 1) aq)) aq))))
theorem VZ(l:List Nat) (i:Nat):(nD l).eraseIdx i=nD (l.eraseIdx i):=by
 rw[ahv,ahv]
 simp[nD,List.map_take,List.map_drop]
theorem CF{l:List Nat}{i:Nat}(h:i<l.length):l.Perm (l[i]::l.eraseIdx i):=by
 have e:l.take i++l[i]::l.drop (i+1)=l:=by rw[←ahW h,agQ]
 rw[ahv]
 have p:(l.take i++l[i]::l.drop (i+1)).Perm (l[i]::(l.take i++l.drop (i+1))):=ai6
 rwa[e]at p
theorem Sn{j n:Nat}{left:List Nat}{c:aa}{v:Option D}(hP:PO j n left c) (h1:0<left.length) (h2:left.length<1000) :
  ∃(x:Nat) (rest:List Nat) (c':aa),left.Perm (x::rest)∧PO j n rest c'∧(∀k,k≠j→k<n→c'[k]? = c[k]?)∧rV [v,some (.ref n),some (.ref j)] c=.ok (.int (x:Int)) c':=by
 obtain⟨g1,g2,⟨p,g3⟩,g4⟩:=hP
 have ht:=take2 (cZ:=(left.length:Int)) g3 (by omega) (by omega)
 have x0:=ahy p (show(left.length:Int)≠0 by omega)
 have x1:=ahz p (show(0:Int)<(left.length:Int) by omega)
 generalize p % (left.length:Int)=x at ht x0 x1
 obtain⟨i,rfl⟩:=mD x0
 generalize hc1:c.set j (.lst [.int (p/(left.length:Int))])=c1 at ht
 have l1:c1.length=n+1:=by rw[←hc1];simp[g1]
 have q1:c1[n]? = some (.lst (nD left)):=by rw[←hc1,agu (by omega)];exact g4
 have q0:c1[j]? = some (.lst [.int (p/(left.length:Int))]):=by rw[←hc1,agn (by omega)]
 have hi:i<left.length:=by omega
 have hlen:aR [.ref n] c=.ok (.int (left.length:Int)) c:=by
  unfold aR
  dsimp only[gK]
  rw[g4]
  simp[nD]
 have hget:(nD left)[i]? = some (.int (left[i]:Nat)):=by simp[nD,hi]
 refine⟨left[i],left.eraseIdx i,c1.set n (.lst (nD (left.eraseIdx i))),CF hi,⟨by simp[l1],g2,⟨_,by rw[agu (by omega)];exact q0⟩,by rw[agn (by omega)]⟩,fun k k1 k2=>by rw[agu (by omega),←hc1,agu (by omega)],?_⟩
 unfold rV qz
 simp only[cF,gz,gs,R.aD,x_call,bT,d8,bS,hlen,afO,agd,if_pos,ht,q1]
 rw[if_pos ⟨by omega,by rw[show(nD left).length=left.length by simp[nD]];omega,by rw[show(nD left).length=left.length by simp[nD]];omega⟩,aiy,hget]
 dsimp only
 rw[VZ]
theorem Gg{j n:Nat}:∀(ks:List D) (v:Option D) (acc:List D) (left:List Nat) (c:aa),left.length=ks.length→left.length<1000→PO j n left c →
  ∃(os:List Nat) (c':aa),os.Perm left∧PO j n [] c'∧(∀k,k≠j→k<n→c'[k]? = c[k]?)∧br (fun _=>True) (az 0) aG rV ks [v,some (.ref n),some (.ref j)] acc c=.ok (acc++nD os) c'
 |[],v,acc,left,c,hl,_,hP=>by
  have:left=[]:=ahX.mp (by simpa using hl)
  subst this
  exact⟨[],c,.refl _,hP,fun _ _ _=>rfl,by simp[nD]⟩
 |k::ks,v,acc,left,c,hl,h2,hP=>by
  rw[afO]at hl
  obtain⟨x,rest,c1,hp,P1,f1,h1⟩:=Sn (v:=some k) hP (by omega) h2
  have hr:rest.length+1=left.length:=by have:=hp.length_eq;simpa using this.symm
  obtain⟨os,c2,hp2,P2,f2,h⟩:=Gg ks (some k) (acc++[.int (x:Int)]) rest c1 (by omega) (by omega) P1
  refine⟨x::os,c2,(hp2.cons x).trans hp.symm,P2,fun k k1 k2=>(f2 k k1 k2).trans (f1 k k1 k2),?_⟩
  have e1:az 0 k [v,some (.ref n),some (.ref j)] c=.ok [some k,some (.ref n),some (.ref j)] c:=rfl
  rw[ja,e1,R.aD,kB,R.aD,if_pos rfl,h1,R.aD,h,afU]
  rfl
theorem Sk{j:Nat}{q:Int}{c:aa}(b:0<q∧q<1000):(aH 2 (tP (ao (ak 1) aq))) [some (.ref j),some (.int q),none] c=.ok (.nx [some (.ref j),some (.int q),some (.ref c.length)]) (c++[.lst ((fB 0 q).map D.int)]):=by
 simp only[gF,L7,bT,cF,gz,gs,bS,R.aD]
 rw[if_pos b]
 rfl
theorem Sj{j n:Nat}{q:Int}{l:List D}{c c':aa}(b:-4611686018427387904≤q∧q<4611686018427387904) (hl:(bg 0 q).length<sizeLine) (hc:br (fun _=>True) (az 0) aG rV (bg 0 q) [none,some (.ref n),some (.ref j)] [] c=.ok l c'):(aP (aF bH (ao (aK (aW (ao (ak 1) aq)) [none,some 2,some 0] (az 0) aG (qz (ak 1) (aA 2 cH (ao (ak 2) (ao (aF aR (ao (ak 1) aq)) aq))))) aq))) [some (.ref j),some (.int q),some (.ref n)] c=.ok (.rt (.tup l)) c':=by
 have hp:cA [none,some 2,some 0] [some (.ref j),some (.int q),some (.ref n)]=[none,some (.ref n),some (.ref j)]:=rfl
 unfold rV at hc
 simp only[ir,d8,bT,cV,gG,cF,gz,gs,bS,R.aD]
 rw[if_pos (by omega)]
 simp only[R.aD]
 rw[if_pos hl,hp,hc]
 rfl
theorem FT(m:Nat):fB 0 (m:Int)=(List.range m).map fun k:Nat=>(k:Int):=by
 unfold fB
 rw[show((m:Int)-0).toNat=m by omega]
 refine agR fun k _=>?_
 omega
theorem Ge{j n m:Nat}{c:aa}(hP:dP j n c) (h1:1≤m) (hm:m<1000):∃os c',os.Perm (List.range m)∧dP j n c'∧(∀k,k≠j→k<n→c'[k]? = c[k]?)∧dF [.ref j,.int (m:Int)] c=.ok (.tup (nD os)) c':=by
 have hs:=cX (n:=1000) (by decide)
 obtain⟨hl,hj,p,hp⟩:=hP
 have e0:=Sk (j:=j) (q:=(m:Int)) (c:=c) (by omega)
 have hr:(fB 0 (m:Int)).map D.int=nD (List.range m):=by rw[FT];simp[nD]
 rw[hr]at e0
 have P0:PO j n (List.range m) (c++[.lst (nD (List.range m))]):=⟨by simp[hl],hj,⟨p,by rw[af7 (by omega)];exact hp⟩,by rw[ago (by omega),hl];simp⟩
 obtain⟨os,c2,ho,P2,f2,hc⟩:=Gg (bg 0 (m:Int)) none [] (List.range m) _ (by rw[fz,af2];omega) (by rw[af2];omega) P0
 rw[afP]at hc
 have e1:=Sj (q:=(m:Int)) (by omega) (by rw[fz];omega) hc
 have hb:qQ=aE (aH 2 (tP (ao (ak 1) aq))) (aP (aF bH (ao (aK (aW (ao (ak 1) aq)) [none,some 2,some 0] (az 0) aG (qz (ak 1) (aA 2 cH (ao (ak 2) (ao (aF aR (ao (ak 1) aq)) aq))))) aq))):=rfl
 have es:cS 3 [D.ref j,.int (m:Int)]=[some (.ref j),some (.int (m:Int)),none]:=rfl
 obtain⟨l3,_,⟨p3,q3⟩,_⟩:=P2
 refine⟨os,c2.take n,ho,⟨by rw[ahK];omega,hj,p3,by rw[ahL hj];exact q3⟩,fun k k1 k2=>by rw[ahL k2,f2 k k1 k2,af7 (by omega)],?_⟩
 rw[hl]at e0
 rw[dF,eG,hb,es,bx e0,e1]
 simp only[R.aD]
 rw[jk,if_pos (mC os),hl]
theorem uX{j n m:Nat}{c:aa}(hP:dP j n c) (h1:1≤m) (hm:m<1000):∃os c',os.Perm (List.range m)∧dP j n c'∧dF [.ref j,.int (m:Int)] c=.ok (.tup (nD os)) c' :=
 let⟨os,c',h1,h2,_,h3⟩:=Ge hP h1 hm
 ⟨os,c',h1,h2,h3⟩
end Ev
namespace Ev
open PySem L2
theorem Fx{s t:ah}{e:Ev}{c c':aa}{d:D}(h:s e c=.ok (.rt d) c'):aE s t e c=.ok (.rt d) c':=by
 rw[ur,h]
 rfl
def It(d:D):Prop:=(∃i:Int,d=.int i)∨d=.bl true
def gk(q:Int):D→Bool
 |.int i=>decide (0≤i)&&decide (i≤q-1)
 |_=>false
def sJ:D→Bool
 |.int _=>true
 |_=>false
theorem Mm{d:D}(h:It d) (c:aa):mO [d] c=.ok (.bl (sJ d)) c:=by
 rcases h with⟨i,rfl⟩|rfl<;>simp[mO,nA,sJ]
theorem XZ{d:D}(h:sJ d=false) (q:Int):gk q d=false:=by
 cases d<;>first|(cases h;done)|rfl
theorem XY{d:D}(h:sJ d=true):∃i,d=.int i:=by
 cases d<;>first|(cases h;done)|exact⟨_,rfl⟩
theorem Ml{d:D}(h:It d) (q:Int) (c:aa):gr [d,.int 0,.int (q-1)] c=.ok (.bl (gk q d)) c:=by
 have hw:=Mm h c
 cases hi:sJ d with
 |false =>
  rw[hi]at hw
  rw[XZ hi]
  simp[gr,lJ,hw]
 |true =>
  obtain⟨i,rfl⟩:=XY hi
  rw[hi]at hw
  by_cases q0:0≤i<;>simp[gr,lJ,hw,gk,q0]
theorem KR{a:af}{T:D}{q:Int}{c:aa}(ha:∀d,It d→a [some d,some T] c=.ok (.bl (gk q d)) c):∀(l:List D) (v:Option D) (acc:List D),(∀d∈l,It d)→br (fun _=>True) (az 0) aG a l [v,some T] acc c=.ok (acc++(l.map (gk q)).map D.bl) c
 |[],v,acc,_=>by simp
 |d::l,v,acc,h=>by
  have h1:az 0 d [v,some T] c=.ok [some d,some T] c:=rfl
  rw[ja,h1,R.aD,kB,R.aD,if_pos rfl,ha d (h d (.head _)),R.aD,KR ha l _ _ (fun z hz=>h z (.tail _ hz)),afU]
  rfl
theorem D6(l:List Bool) (c:aa):dM [.lst (l.map D.bl)] c=.ok (.bl (l.all id)) c:=by
 unfold dM l8
 dsimp only
 rw[DW]
theorem kL:∀{A B:List Nat},A.Nodup→(∀x∈A,x∈B)→A.length=B.length→A.Perm B
 |[],B,_,_,hl=>by
  have:B=[]:=ahX.mp (by simpa using hl.symm)
  subst this;exact .refl _
 |a::A,B,hn,hs,hl=>by
  obtain⟨h1,h2⟩:=agE.mp hn
  have ha:=hs a (.head _)
  have hp:=List.perm_cons_erase ha
  have he:(B.erase a).length=B.length-1:=aiL ha
  have ih:=kL (A:=A) (B:=B.erase a) h2 (fun x hx=>(aiK (fun e:x=a=>h1 (by rw[←e];exact hx))).mpr (hs x (.tail _ hx))) (by rw[he];rw[afO]at hl;omega)
  exact(ih.cons a).trans hp.symm
theorem Nu{ps:List Nat}{m:Nat}(hl:ps.length=m) (hm:∀p∈ps,p<m):(b8 ps).length=m↔ps.Perm (List.range m):=by
 have hn:=vn (nO ps)
 constructor
 ·intro h
  have h1:(b8 ps).Perm ps:=kL hn (fun x hx=>kP.mp hx) (by omega)
  have h2:(b8 ps).Perm (List.range m):=kL hn (fun x hx=>aft.mpr (hm x (kP.mp hx))) (by rw[af2];exact h)
  exact h1.symm.trans h2
 ·intro h
  have hd:ps.Nodup:=h.nodup_iff.mpr ahB
  have h1:ps.Perm (b8 ps):=(ajJ hd hn).mpr fun x=>kP.symm
  rw[←h1.length_eq,hl]
theorem pY(ps:List Nat):nD ps=(ps.map fun k:Nat=>(k:Int)).map D.int:=by simp[nD]
theorem Dg:∀{ps qs:List Nat},ps.map (fun k:Nat=>(k:Int))=qs.map (fun k:Nat=>(k:Int))→ps=qs
 |[],[],_=>rfl
 |[],q::qs,h=>by simp at h
 |p::ps,[],h=>by simp at h
 |p::ps,q::qs,h=>by
  rw[afC,afC]at h
  obtain⟨h1,h2⟩:=ai8 h
  rw[Dg h2,show p=q by omega]
theorem Ie:∀{a b:List Int},a.map D.int=b.map D.int→a=b
 |[],[],_=>rfl
 |[],y::b,h=>by simp at h
 |x::a,[],h=>by simp at h
 |x::a,y::b,h=>by
  rw[afC,afC]at h
  obtain⟨h1,h2⟩:=ai8 h
  cases h1
  rw[Ie h2]
theorem VY{ps qs:List Nat}(h:nD ps=nD qs):ps=qs:=by
 rw[pY,pY]at h
 exact Dg (Ie h)
theorem KP{m:Nat}:∀{xs:List D},(xs.map (gk (m:Int))).all id=true→∃ps:List Nat,xs=nD ps∧∀p∈ps,p<m
 |[],_=>⟨[],rfl,fun p hp=>(by cases hp)⟩
 |d::xs,h=>by
  rw[afC,List.all_cons,afE]at h
  obtain⟨ps,rfl,hp⟩:=KP h.2
  have hd:gk (m:Int) d=true:=h.1
  cases d with
  |int i =>
   simp only[gk,afE,decide_eq_true_eq]at hd
   obtain⟨k,rfl⟩:=mD hd.1
   exact⟨k::ps,rfl,fun p gv=>by
    rcases afv.mp gv with rfl|h'
    ·omega
    ·exact hp p h'⟩
  |_=>cases hd
theorem F4{m:Nat}:∀{ps:List Nat},(∀p∈ps,p<m)→((nD ps).map (gk (m:Int))).all id=true
 |[],_=>rfl
 |p::ps,h=>by
  have h1:=F4 (ps:=ps) fun q hq=>h q (.tail _ hq)
  have h2:=h p (.head _)
  show(gk (m:Int) (.int (p:Int))&&((nD ps).map (gk (m:Int))).all id)=true
  rw[h1]
  simp[gk];omega
def adp(m:Nat) (xs:List D):Prop:=∃ps:List Nat,xs=nD ps∧ps.Perm (List.range m)
theorem X8{xs:List D}{q:Int}(h:¬(xs.length:Int)=q) (c:aa):(bw (fj (bR (aM (aF bV (ao (ak 0) (ao (dC (.ty "tuple")) aq))))) (aM (au fC (aF aR (ao (ak 0) aq)) (ak 1)))) (aP (dC (.bl false))) bz) [some (.tup xs),some (.int q)] c=.ok (.rt (.bl false)) c:=by
 simp[h]
theorem X7{xs:List D}{q:Int}(h:(xs.length:Int)=q) (c:aa):(bw (fj (bR (aM (aF bV (ao (ak 0) (ao (dC (.ty "tuple")) aq))))) (aM (au fC (aF aR (ao (ak 0) aq)) (ak 1)))) (aP (dC (.bl false))) bz) [some (.tup xs),some (.int q)] c=.ok (.nx [some (.tup xs),some (.int q)]) c:=by
 simp[h]
theorem Ia{xs:List D}{q:Int}{l:List Bool}{ps:List Nat}{n:Int}{c:aa}(hl:xs.length<sizeLine) (hc:br (fun _=>True) (az 0) aG (aA 3 gr (ao (ak 0) (ao (dC (.int 0)) (ao (au eT (ak 1) (dC (.int 1))) aq)))) xs [none,some (.int q)] [] c=.ok (l.map D.bl) c) (hs:l.all id=true→su c (.tup xs)=some ps) (hn:((b8 ps).length:Int)=n) :
  (aP (gc (aF dM (ao (aK (b9 (ak 0)) [none,some 1] (az 0) aG (aA 3 gr (ao (ak 0) (ao (dC (.int 0)) (ao (au eT (ak 1) (dC (.int 1))) aq))))) aq)) (au bE (qB (ao (ak 0) aq)) (ak 1)))) [some (.tup xs),some (.int q)] c=.ok (.rt (.bl (l.all id&&decide (n=q)))) c:=by
 have hp:cA [none,some 1] [some (D.tup xs),some (.int q)]=[none,some (.int q)]:=rfl
 simp only[ir,Mb,d8,bT,cV,Es,cF,gz,gs,bS,R.aD]
 rw[if_pos hl,hp,hc]
 simp only[R.aD,D6]
 cases hA:l.all id with
 |false=>simp
 |true =>
  have h2:=hs hA
  simp only[if_true,gI,R.aD,cF,gz,gs]
  unfold qB
  simp only[bT,cF,gz,bS,R.aD,h2,hn,L8,aiM]
theorem Yy{m:Nat}(hm:m<60) {xs:List D}(hx:∀d∈xs,It d) (hl:xs.length≤20) (c:aa):∃b,eV [.tup xs,.int (m:Int)] c=.ok (.bl b) c∧(b=true↔adp m xs):=by
 have hs:=cX (n:=1000) (by decide)
 have hb:qV=aE (bw (fj (bR (aM (aF bV (ao (ak 0) (ao (dC (.ty "tuple")) aq))))) (aM (au fC (aF aR (ao (ak 0) aq)) (ak 1)))) (aP (dC (.bl false))) bz) (aP (gc (aF dM (ao (aK (b9 (ak 0)) [none,some 1] (az 0) aG (aA 3 gr (ao (ak 0) (ao (dC (.int 0)) (ao (au eT (ak 1) (dC (.int 1))) aq))))) aq)) (au bE (qB (ao (ak 0) aq)) (ak 1)))):=rfl
 have es:∀q:Int,cS 2 [.tup xs,.int q]=[some (.tup xs),some (.int q)]:=fun _=>rfl
 by_cases h1:(xs.length:Int)=(m:Int)
 ·have hc:=KR (a:=(aA 3 gr (ao (ak 0) (ao (dC (.int 0)) (ao (au eT (ak 1) (dC (.int 1))) aq))))) (T:=.int (m:Int)) (q:=(m:Int)) (c:=c) (fun d h=>by
   have:=Ml h (m:Int) c
   generalize (m:Int)=q at *
   simp[this]) xs none [] hx
  rw[afP]at hc
  have IG:∀{l:List Bool}{n:Int},(aP (gc (aF dM (ao (aK (b9 (ak 0)) [none,some 1] (az 0) aG (aA 3 gr (ao (ak 0) (ao (dC (.int 0)) (ao (au eT (ak 1) (dC (.int 1))) aq))))) aq)) (au bE (qB (ao (ak 0) aq)) (ak 1)))) [some (.tup xs),some (.int (m:Int))] c=.ok (.rt (.bl (l.all id&&decide (n=(m:Int))))) c→eV [.tup xs,.int (m:Int)] c=.ok (.bl (l.all id&&decide (n=(m:Int)))) c:=fun{l n} h=>by
   rw[eV,eG,hb,es,bx (X7 h1 c),h]
   generalize (l.all id&&decide (n=(m:Int)))=z
   simp
  cases hA:(xs.map (gk (m:Int))).all id with
  |false =>
   have h:=IG (Ia (ps:=[]) (n:=0) (by omega) hc (fun h=>by rw[hA]at h;cases h) rfl)
   refine⟨_,h,?_⟩
   rw[hA,aic]
   refine⟨fun h=>(by cases h),fun⟨ps,e,hp⟩=>?_⟩
   subst e
   rw[F4 fun p gv=>aft.mp (hp.mem_iff.mp gv)]at hA
   exact hA.symm
  |true =>
   obtain⟨ps,rfl,hp⟩:=KP hA
   have hpl:ps.length=m:=by
    have:(nD ps).length=ps.length:=by simp[nD]
    omega
   have h64:(b8 ps).length<64:=by
    have:=vo (vn (nO ps)) (fun x hx=>kP.mp hx)
    omega
   have hN:su c (.tup (nD ps))=some ps:=Hf h64 fun x hx=>by have:=hp x hx;omega
   have h:=IG (Ia (ps:=ps) (n:=((b8 ps).length:Int)) (by omega) hc (fun _=>hN) rfl)
   refine⟨_,h,?_⟩
   rw[hA,aiM,decide_eq_true_eq]
   have hk:=Nu hpl hp
   refine⟨fun h=>⟨ps,rfl,hk.mp (by omega)⟩,fun⟨qs,e,hq⟩=>?_⟩
   cases VY e
   have:=hk.mpr hq
   omega
 ·refine⟨false,?_,fun h=>(by cases h),fun⟨ps,e,hp⟩=>?_⟩
  ·rw[eV,eG,hb,es,Fx (X8 h1 c)]
   simp
  ·subst e
   have:=hp.length_eq
   rw[af2]at this
   exact absurd (by simp[nD,this]) h1
def aB(n:Nat) (s:Nat→Nat→Nat):D:=.tup ((List.range n).map fun i=>.tup (nD ((List.range n).map (s i))))
structure cg (n:Nat) (s:Nat→Nat→Nat):Prop where
 row:∀i,i<n→((List.range n).map (s i)).Perm (List.range n)
 col:∀k,k<n→((List.range n).map fun i=>s i k).Perm (List.range n)
theorem XQ{ps:List Nat}:∀d∈nD ps,It d:=fun d hd=>by
 obtain⟨k,_,rfl⟩:=afx.mp hd
 exact .inl ⟨_,rfl⟩
theorem IB{n:Nat}(hn:n<18) {ps:List Nat}(hp:ps.Perm (List.range n)) (c:aa):eV [.tup (nD ps),.int (n:Int)] c=.ok (.bl true) c:=by
 have hl:ps.length=n:=by have:=hp.length_eq;simpa using this
 obtain⟨b,h,i⟩:=Yy (m:=n) (by omega) (xs:=nD ps) XQ (by simp[nD,hl];omega) c
 have:b=true:=i.mpr ⟨ps,rfl,hp⟩
 rw[this]at h
 exact h
theorem JL{n k:Nat}(s:Nat→Nat→Nat) (hk:k<n) (c:aa):∀(l:List Nat) (v:Option D) (acc:List D),br (fun _=>True) (az 0) aG (au aJ (ak 0) (ak 1)) (l.map fun i=>.tup (nD ((List.range n).map (s i)))) [v,some (.int (k:Int))] acc c=.ok (acc++nD (l.map fun i=>s i k)) c
 |[],v,acc=>by simp[nD]
 |i::l,v,acc=>by
  have h1:az 0 (.tup (nD ((List.range n).map (s i)))) [v,some (.int (k:Int))] c=.ok [some (.tup (nD ((List.range n).map (s i)))),some (.int (k:Int))] c:=rfl
  have h2:aJ (.tup (nD ((List.range n).map (s i)))) (.int (k:Int)) c=.ok (.int (s i k:Nat)) c:=by
   rw[uv,jA (v:=.int (s i k:Nat)) (by simp[nD,hk])]
  have hE:(au aJ (ak 0) (ak 1)) [some (.tup (nD ((List.range n).map (s i)))),some (.int (k:Int))] c=.ok (.int (s i k:Nat)) c:=by
   generalize D.tup (nD ((List.range n).map (s i)))=T at *
   simp only[gI,cF,gz,gs,R.aD,h2]
  rw[afC,ja,h1,R.aD,kB,R.aD,if_pos rfl,hE,R.aD,JL s hk c l,afU]
  rfl
theorem abB{n k:Nat}(s:Nat→Nat→Nat) (hn:n<100) (hk:k<n) (c:aa):eK [aB n s,.int (k:Int)] c=.ok (.tup (nD ((List.range n).map fun i=>s i k))) c:=by
 have hs:=cX (n:=1000) (by decide)
 have hc:=JL s hk c (List.range n) none []
 rw[afP]at hc
 have e:(aP (aF bH (ao (aK (i9 (ak 0)) [none,some 1] (az 0) aG (au aJ (ak 0) (ak 1))) aq))) [some (aB n s),some (.int (k:Int))] c=.ok (.rt (.tup (nD ((List.range n).map fun i=>s i k)))) c:=by
  have hp:cA [none,some 1] [some (aB n s),some (.int (k:Int))]=[none,some (.int (k:Int))]:=rfl
  have hd:i9 (ak 0) [some (aB n s),some (.int (k:Int))] c=.ok ⟨(List.range n).map fun i=>.tup (nD ((List.range n).map (s i))),fun _=>True⟩ c:=rfl
  simp only[ir,d8,bT,cV,hd,bS,R.aD]
  rw[if_pos (by rw[afy,af2];omega),hp,hc]
  rfl
 have hb:nG=(aP (aF bH (ao (aK (i9 (ak 0)) [none,some 1] (az 0) aG (au aJ (ak 0) (ak 1))) aq))):=rfl
 rw[eK,eG,hb]
 have es:cS 2 [aB n s,.int (k:Int)]=[some (aB n s),some (.int (k:Int))]:=rfl
 rw[es,e]
 simp only[R.aD]
 rw[jk,if_pos (mC _),agC]
theorem FP{n:Nat}{a:af}{c:aa}{q:Int}(f:Nat→D):∀(l:List Nat) (v:Option D) (acc:List D),(∀i∈l,a [some (f i),some (.int q)] c=.ok (.bl true) c)→br (fun _=>True) (az 0) aG a (l.map f) [v,some (.int q)] acc c=.ok (acc++(l.map fun _=>true).map D.bl) c
 |[],v,acc,_=>by simp
 |i::l,v,acc,h=>by
  have h1:az 0 (f i) [v,some (.int q)] c=.ok [some (f i),some (.int q)] c:=rfl
  rw[afC,ja,h1,R.aD,kB,R.aD,if_pos rfl,h i (.head _),R.aD,FP (n:=n) f l _ _ (fun z hz=>h z (.tail _ hz)),afU]
  rfl
theorem all_true{α:Type}(l:List α):(l.map fun _=>true).all id=true:=by
 induction l with
 |nil=>rfl
 |cons a l ih=>exact ih
theorem Ny{S:D}{xs:List D}{q:Int}{l1 l2:List Bool}{c:aa}(hS:S=.tup xs) (hq:(xs.length:Int)=q) (b:1≤q∧q≤7) (hl:xs.length<sizeLine) (hlr:(bg 0 q).length<sizeLine) (h1:br (fun _=>True) (az 0) aG (aA 2 eV (ao (ak 0) (ao (ak 1) aq))) xs [none,some (.int q)] [] c=.ok (l1.map D.bl) c) (a1:l1.all id=true) (h2:br (fun _=>True) (az 0) aG (aA 2 eV (ao (aA 2 eK (ao (ak 2) (ao (ak 0) aq))) (ao (ak 1) aq))) (bg 0 q) [none,some (.int q),some S] [] c=.ok (l2.map D.bl) c) (a2:l2.all id=true):sD [S] c=.ok (.bl true) c:=by
 subst hS
 have hb:qT=aE (bw (fj (bR (aM (aF bV (ao (ak 0) (ao (dC (.ty "tuple")) aq))))) (bR (aM (m9 jr jr (dC (.int 1)) (aF aR (ao (ak 0) aq)) (dC (.int 7)))))) (aP (dC (.bl false))) bz) (aE (aH 1 (aF aR (ao (ak 0) aq))) (aE (bw (bR (aM (aF dM (ao (aK (b9 (ak 0)) [none,some 1] (az 0) aG (aA 2 eV (ao (ak 0) (ao (ak 1) aq)))) aq)))) (aP (dC (.bl false))) bz) (aP (aF dM (ao (aK (aW (ao (ak 1) aq)) [none,some 1,some 0] (az 0) aG (aA 2 eV (ao (aA 2 eK (ao (ak 2) (ao (ak 0) aq))) (ao (ak 1) aq)))) aq))))):=rfl
 have es:cS 2 [D.tup xs]=[some (.tup xs),none]:=rfl
 have e0:(bw (fj (bR (aM (aF bV (ao (ak 0) (ao (dC (.ty "tuple")) aq))))) (bR (aM (m9 jr jr (dC (.int 1)) (aF aR (ao (ak 0) aq)) (dC (.int 7)))))) (aP (dC (.bl false))) bz) [some (.tup xs),none] c=.ok (.nx [some (.tup xs),none]) c:=by
  have hle:aR [.tup xs] c=.ok (.int q) c:=by rw[yp,hq]
  simp[hq,b.1,b.2]
 have e1:(aH 1 (aF aR (ao (ak 0) aq))) [some (.tup xs),none] c=.ok (.nx [some (.tup xs),some (.int q)]) c:=by simp[hq]
 have e2:(bw (bR (aM (aF dM (ao (aK (b9 (ak 0)) [none,some 1] (az 0) aG (aA 2 eV (ao (ak 0) (ao (ak 1) aq)))) aq)))) (aP (dC (.bl false))) bz) [some (.tup xs),some (.int q)] c=.ok (.nx [some (.tup xs),some (.int q)]) c:=by
  have hp:cA [none,some 1] [some (.tup xs),some (.int q)]=[none,some (.int q)]:=rfl
  simp only[gH,rB,jh,d8,bT,cV,Es,cF,gz,gs,bS,R.aD]
  rw[if_pos hl,hp,h1]
  simp only[R.aD,D6,a1]
  simp
 have e3:(aP (aF dM (ao (aK (aW (ao (ak 1) aq)) [none,some 1,some 0] (az 0) aG (aA 2 eV (ao (aA 2 eK (ao (ak 2) (ao (ak 0) aq))) (ao (ak 1) aq)))) aq))) [some (.tup xs),some (.int q)] c=.ok (.rt (.bl true)) c:=by
  have hp:cA [none,some 1,some 0] [some (.tup xs),some (.int q)]=[none,some (.int q),some (.tup xs)]:=rfl
  simp only[ir,d8,bT,cV,gG,cF,gz,gs,bS,R.aD]
  rw[if_pos (by omega)]
  simp only[R.aD]
  rw[if_pos hlr,hp,h2]
  simp only[R.aD,D6,a2]
 rw[sD,eG,hb,es,bx e0,bx e1,bx e2,e3]
 simp
theorem yG{n:Nat}{s:Nat→Nat→Nat}(h:cg n s) (h1:1≤n) (h7:n≤7) (c:aa):sD [aB n s] c=.ok (.bl true) c:=by
 have hs:=cX (n:=1000) (by decide)
 have c1:=FP (n:=n) (a:=(aA 2 eV (ao (ak 0) (ao (ak 1) aq)))) (c:=c) (q:=(n:Int)) (fun i=>.tup (nD ((List.range n).map (s i)))) (List.range n) none [] (fun i hi=>by
  have:=IB (by omega) (h.row i (aft.mp hi)) c
  generalize D.tup (nD ((List.range n).map (s i)))=T at *
  generalize (n:Int)=q at *
  simp[this])
 have c2:br (fun _=>True) (az 0) aG (aA 2 eV (ao (aA 2 eK (ao (ak 2) (ao (ak 0) aq))) (ao (ak 1) aq))) (bg 0 (n:Int)) [none,some (.int (n:Int)),some (aB n s)] [] c=.ok (((List.range n).map fun _=>true).map D.bl) c:=by
  have:=xD (c:=c) (g:=az 0) (t:=aG) (a:=(aA 2 eV (ao (aA 2 eK (ao (ak 2) (ao (ak 0) aq))) (ao (ak 1) aq)))) (fun e=>∃v,e=[v,some (.int (n:Int)),some (aB n s)]) (fun _=>true) (fun _=>.bl true) (bg 0 (n:Int)) [none,some (.int (n:Int)),some (aB n s)] [] ⟨_,rfl⟩ (fun d hd e ⟨v,he⟩=>by
   subst he
   obtain⟨k',rfl,k0,k1⟩:=vq hd
   obtain⟨k,rfl⟩:=mD k0
   refine⟨_,rfl,⟨_,rfl⟩,rfl,fun _=>?_⟩
   have g1:=abB s (by omega) (show k<n by omega) c
   have g2:=IB (by omega) (h.col k (by omega)) c
   show(aA 2 eV (ao (aA 2 eK (ao (ak 2) (ao (ak 0) aq))) (ao (ak 1) aq))) [some (.int (k:Int)),some (.int (n:Int)),some (aB n s)] c=_
   generalize aB n s=S at *
   generalize D.tup (nD ((List.range n).map fun i=>s i k))=T at *
   generalize (n:Int)=q at *
   simp[g1,g2])
  rw[this,afP,Ji,yW,afY]
  rfl
 rw[afP]at c1
 exact Ny rfl (by simp) (by omega) (by simp;omega) (by rw[fz];omega) c1 (all_true _) c2 (all_true _)
end Ev
namespace Ev
open PySem L2
theorem kJ{E:List (Option D)}{a:af}{n:Nat}{c:aa}(F:Nat→D) (h:∀k:Nat,k<n→a (some (.int (k:Int))::E) c=.ok (F k) c):br (fun _=>True) (az 0) aG a (bg 0 (n:Int)) (none::E) [] c=.ok ((List.range n).map F) c:=by
 have:=xD (c:=c) (g:=az 0) (t:=aG) (a:=a) (fun e=>∃v,e=v::E) (fun _=>true) (fun d=>match d with|.int k=>F k.toNat|d=>d) (bg 0 (n:Int)) (none::E) [] ⟨_,rfl⟩ (fun d hd e ⟨v,he⟩=>by
  subst he
  obtain⟨k',rfl,k0,k1⟩:=vq hd
  obtain⟨k,rfl⟩:=mD k0
  exact⟨_,rfl,⟨_,rfl⟩,rfl,fun _=>h k (by omega)⟩)
 rw[this,afP,Ji,yW]
 congr 1
def cY(n:Nat) (r:Nat→Nat→Nat) (i:Nat):List Nat:=(List.range n).map (r i)
def iO(n:Nat) (r:Nat→Nat→Nat):D:=.lst ((List.range n).map fun i=>.lst (nD (cY n r i)))
theorem yU(n:Nat) (r:Nat→Nat→Nat) (i:Nat):((List.range n).map fun k=>D.int (r i k:Nat))=nD (cY n r i):=by simp[nD,cY]
theorem WI:∀n,n<8→∀b,b<7→b8 ((List.range n).map fun i=>(b*i+0) % n)=List.range n→(∀i,i<n→((List.range n).map fun k=>(b*i+k) % n).Perm (List.range n))∧(∀k,k<n→((List.range n).map fun i=>(b*i+k) % n).Perm (List.range n)):=by decide +kernel
theorem WH:∀n,n<8→(∀i,i<n→((List.range n).map fun k=>(i+k) % n).Perm (List.range n))∧(∀k,k<n→((List.range n).map fun i=>(i+k) % n).Perm (List.range n)):=by decide +kernel
def kq(i k:Nat):Nat:=(Builtin.bitXor (i:Int) (k:Int)).toNat
theorem HC:(∀i,i<4→((List.range 4).map (kq i)).Perm (List.range 4))∧(∀k,k<4→((List.range 4).map fun i=>kq i k).Perm (List.range 4)):=by decide +kernel
theorem LU:∀i:Nat,i<4→∀k:Nat,k<4→Builtin.bitXor (i:Int) (k:Int)=((kq i k:Nat):Int):=by decide +kernel
def six:List (List Nat):=[[0,1,2,3,4,5],[1,0,3,2,5,4],[2,4,0,5,1,3],[3,5,1,4,0,2],[4,2,5,0,3,1],[5,3,4,1,2,0]]
def gJ(i k:Nat):Nat:=(six.getD i []).getD k 0
theorem HB:(∀i,i<6→((List.range 6).map (gJ i)).Perm (List.range 6))∧(∀k,k<6→((List.range 6).map fun i=>gJ i k).Perm (List.range 6)):=by decide +kernel
theorem ab6{q i:Int}{l:List D}{c:aa}(b:-4611686018427387904≤q∧q<4611686018427387904) (hl:(bg 0 q).length<sizeLine) (h:br (fun _=>True) (az 0) aG (au kr (ak 1) (ak 0)) (bg 0 q) [none,some (.int i)] [] c=.ok l c):(aK (aW (ao (ak 1) aq)) [none,some 0] (az 0) aG (au kr (ak 1) (ak 0))) [some (.int i),some (.int q)] c=.ok (.lst l) c:=by
 have hp:cA [none,some 0] [some (.int i),some (.int q)]=[none,some (.int i)]:=rfl
 simp only[cV,gG,bT,cF,gz,gs,bS,R.aD]
 rw[if_pos (by omega)]
 simp only[R.aD]
 rw[if_pos hl,hp,h]
 rfl
theorem abS{q b' i:Int}{l:List D}{c:aa}(b:-4611686018427387904≤q∧q<4611686018427387904) (hl:(bg 0 q).length<sizeLine) (h:br (fun _=>True) (az 0) aG (au cJ (au cy (au bX (ak 2) (ak 3)) (ak 0)) (ak 1)) (bg 0 q) [none,some (.int q),some (.int b'),some (.int i)] [] c=.ok l c):(aK (aW (ao (ak 1) aq)) [none,some 1,some 2,some 0] (az 0) aG (au cJ (au cy (au bX (ak 2) (ak 3)) (ak 0)) (ak 1))) [some (.int i),some (.int q),some (.int b')] c=.ok (.lst l) c:=by
 have hp:cA [none,some 1,some 2,some 0] [some (.int i),some (.int q),some (.int b')]=[none,some (.int q),some (.int b'),some (.int i)]:=rfl
 simp only[cV,gG,bT,cF,gz,gs,bS,R.aD]
 rw[if_pos (by omega)]
 simp only[R.aD]
 rw[if_pos hl,hp,h]
 rfl
def tU:af:=(aK (aW (ao (ak 1) aq)) [none,some 1,some 2,some 0] (az 0) aG (au cJ (au cy (au bX (ak 2) (ak 3)) (ak 0)) (ak 1)))
def tX:af:=(aK (aW (ao (ak 1) aq)) [none,some 0] (az 0) aG (au kr (ak 1) (ak 0)))
def ni:af:=(aK (aW (ao (ak 1) aq)) [none,some 1,some 0] (az 0) aG (au cJ (au cy (ak 2) (ak 0)) (ak 1)))
theorem ab5{q:Int}{l:List D}{a0 a2 a3 a4 a5 a6:Option D}{c:aa}(b:-4611686018427387904≤q∧q<4611686018427387904) (hl:(bg 0 q).length<sizeLine) (h:br (fun _=>True) (az 0) aG tX (bg 0 q) [none,some (.int q)] [] c=.ok l c):(aH 2 (aK (aW (ao (ak 1) aq)) [none,some 1] (az 0) aG tX)) [a0,some (.int q),a2,a3,a4,a5,a6] c=.ok (.nx [a0,some (.int q),some (.lst l),a3,a4,a5,a6]) c:=by
 have hp:cA [none,some 1] [a0,some (.int q),a2,a3,a4,a5,a6]=[none,some (.int q)]:=rfl
 simp only[gF,cV,gG,bT,cF,gz,gs,bS,R.aD]
 rw[if_pos (by omega)]
 simp only[R.aD]
 rw[if_pos hl,hp,h]
 rfl
theorem abN{q:Int}{l:List D}{a0 a2 a3 a4 a5 a6:Option D}{c:aa}(b:-4611686018427387904≤q∧q<4611686018427387904) (hl:(bg 0 q).length<sizeLine) (h:br (fun _=>True) (az 0) aG ni (bg 0 q) [none,some (.int q)] [] c=.ok l c):(aH 2 (aK (aW (ao (ak 1) aq)) [none,some 1] (az 0) aG ni)) [a0,some (.int q),a2,a3,a4,a5,a6] c=.ok (.nx [a0,some (.int q),some (.lst l),a3,a4,a5,a6]) c:=by
 have hp:cA [none,some 1] [a0,some (.int q),a2,a3,a4,a5,a6]=[none,some (.int q)]:=rfl
 simp only[gF,cV,gG,bT,cF,gz,gs,bS,R.aD]
 rw[if_pos (by omega)]
 simp only[R.aD]
 rw[if_pos hl,hp,h]
 rfl
theorem abR{q b':Int}{l:List D}{a0 a2 a4 a5 a6:Option D}{c:aa}(b:-4611686018427387904≤q∧q<4611686018427387904) (hl:(bg 0 q).length<sizeLine) (h:br (fun _=>True) (az 0) aG tU (bg 0 q) [none,some (.int q),some (.int b')] [] c=.ok l c):(aH 2 (aK (aW (ao (ak 1) aq)) [none,some 1,some 3] (az 0) aG tU)) [a0,some (.int q),a2,some (.int b'),a4,a5,a6] c=.ok (.nx [a0,some (.int q),some (.lst l),some (.int b'),a4,a5,a6]) c:=by
 have hp:cA [none,some 1,some 3] [a0,some (.int q),a2,some (.int b'),a4,a5,a6]=[none,some (.int q),some (.int b')]:=rfl
 simp only[gF,cV,gG,bT,cF,gz,gs,bS,R.aD]
 rw[if_pos (by omega)]
 simp only[R.aD]
 rw[if_pos hl,hp,h]
 rfl
theorem abO{q i:Int}{l:List D}{c:aa}(b:-4611686018427387904≤q∧q<4611686018427387904) (hl:(bg 0 q).length<sizeLine) (h:br (fun _=>True) (az 0) aG (au cJ (au cy (ak 2) (ak 0)) (ak 1)) (bg 0 q) [none,some (.int q),some (.int i)] [] c=.ok l c):ni [some (.int i),some (.int q)] c=.ok (.lst l) c:=by
 have hp:cA [none,some 1,some 0] [some (.int i),some (.int q)]=[none,some (.int q),some (.int i)]:=rfl
 unfold ni
 simp only[cV,gG,bT,cF,gz,gs,bS,R.aD]
 rw[if_pos (by omega)]
 simp only[R.aD]
 rw[if_pos hl,hp,h]
 rfl
theorem abP{q b' i k z w:Int}{c:aa}(m1:bX (.int b') (.int i) c=.ok (.int z) c) (m2:cJ (.int (z+k)) (.int q) c=.ok (.int w) c):(au cJ (au cy (au bX (ak 2) (ak 3)) (ak 0)) (ak 1)) [some (.int k),some (.int q),some (.int b'),some (.int i)] c=.ok (.int w) c:=by
 simp only[gI,cF,gz,gs,R.aD,m1,yu,m2]
theorem abL{q i k w:Int}{c:aa}(m2:cJ (.int (i+k)) (.int q) c=.ok (.int w) c):(au cJ (au cy (ak 2) (ak 0)) (ak 1)) [some (.int k),some (.int q),some (.int i)] c=.ok (.int w) c:=by
 simp only[gI,cF,gz,gs,R.aD,yu,m2]
theorem Hj{x q w:Int}(c:aa) (hq:0<q) (h:x % q=w):cJ (.int x) (.int q) c=.ok (.int w) c:=by
 rw[mF c hq,h]
theorem V8{x y w:Int}(c:aa) (h1:-1000<x) (h2:x<1000) (h:x*y=w):bX (.int x) (.int y) c=.ok (.int w) c:=by
 rw[zI c (by omega) (by omega),h]
theorem abQ{n:Nat}(h1:1≤n) (h8:n<8) (c:aa) (b i:Nat) (hb:b<7):tU [some (.int (i:Int)),some (.int (n:Int)),some (.int (b:Int))] c=.ok (.lst (nD (cY n (fun i k=>(b*i+k) % n) i))) c:=by
 have hs:=cX (n:=1000) (by decide)
 have hc:=kJ (E:=[some (.int (n:Int)),some (.int (b:Int)),some (.int (i:Int))]) (a:=(au cJ (au cy (au bX (ak 2) (ak 3)) (ak 0)) (ak 1))) (n:=n) (c:=c) (fun k=>.int ((b*i+k) % n:Nat)) (fun k hk =>
  abP (z:=(b:Int)*(i:Int)) (V8 c (by omega) (by omega) rfl) (Hj c (by omega) (by rw[ajQ,ajR,Int.natCast_mul])))
 rw[yU n (fun i k=>(b*i+k) % n)]at hc
 exact abS (by omega) (by rw[fz];omega) hc
theorem abM{n:Nat}(h1:1≤n) (h8:n<8) (c:aa) (i:Nat):ni [some (.int (i:Int)),some (.int (n:Int))] c=.ok (.lst (nD (cY n (fun i k=>(i+k) % n) i))) c:=by
 have hs:=cX (n:=1000) (by decide)
 have hc:=kJ (E:=[some (.int (n:Int)),some (.int (i:Int))]) (a:=(au cJ (au cy (ak 2) (ak 0)) (ak 1))) (n:=n) (c:=c) (fun k=>.int ((i+k) % n:Nat)) (fun k hk =>
  abL (Hj c (by omega) (by rw[ajQ,ajR])))
 rw[yU n (fun i k=>(i+k) % n)]at hc
 exact abO (by omega) (by rw[fz];omega) hc
theorem ab4(i:Nat) (hi:i<4) (c:aa):tX [some (.int (i:Int)),some (.int ((4:Nat):Int))] c=.ok (.lst (nD (cY 4 kq i))) c:=by
 have hs:=cX (n:=1000) (by decide)
 have hc:=kJ (E:=[some (.int (i:Int))]) (a:=(au kr (ak 1) (ak 0))) (n:=4) (c:=c) (fun k=>.int (kq i k:Nat)) (fun k hk=>by
  have:=LU i hi k hk
  simp only[gI,cF,gz,gs,R.aD,LX,this])
 rw[yU 4 kq]at hc
 exact ab6 (by omega) (by rw[fz];omega) hc
end Ev
namespace Ev
open PySem L2
theorem wR:∀a b:List Int,PyData.eqvAll (a.map PyData.int) (b.map PyData.int)=decide (a=b)
 |[],[]=>by simp[PyData.eqvAll]
 |[],b::bs=>by simp[PyData.eqvAll]
 |a::as,[]=>by simp[PyData.eqvAll]
 |a::as,b::bs=>by
  rw[afC,afC,PyData.eqvAll,wR as bs,PyData.eqv]
  by_cases h:a=b
  ·subst h;simp
  ·simp[h]
theorem Jv(a:List Int):PyData.depthAll (a.map PyData.int)=0:=by
 induction a with
 |nil=>simp[PyData.depthAll]
 |cons x a ih=>simp[PyData.depthAll,PyData.depth,ih]
theorem CJ:∀ns:List Int,c9 (ns.map D.int)=some (ns.map PyData.int)
 |[]=>rfl
 |n::ns=>by
  have:=CJ ns
  simp[c9,dg,this]
theorem ZM(as bs:List Int) (c:aa):lD (.lst (as.map D.int)) (.lst (bs.map D.int)) c=.ok (.bl (decide (as=bs))) c∧d9 (.lst (as.map D.int)) (.lst (bs.map D.int)) c=.ok (.bl (!decide (as=bs))) c:=by
 have h:∀l:List Int,eX c (.lst (l.map D.int))=some (.list (l.map PyData.int)):=fun l=>by
  show(match c9 (l.map D.int)with|some r=>some (PyData.list r)|none=>none)=_
  rw[CJ]
 have dp:∀l:List Int,(PyData.list (l.map PyData.int)).depth≤64:=fun l=>by simp[PyData.depth,Jv]
 refine⟨?_,?_⟩
 ·unfold lD
  rw[h,h]
  dsimp only
  rw[if_pos ⟨dp as,dp bs⟩,PyData.eqv,wR]
 ·unfold d9
  rw[h,h]
  dsimp only
  rw[if_pos ⟨dp as,dp bs⟩,PyData.eqv,wR]
def xF(l:List Nat):List Int:=l.map fun k:Nat=>(k:Int)
theorem V0(l:List Nat):nD l=(xF l).map D.int:=pY l
theorem Jj{n:Nat}(h1:1≤n) (r:Nat→Nat→Nat) (c:aa):∀(l:List Nat) (v:Option D) (acc:List D),br (fun _=>True) (az 0) aG (au aJ (ak 0) (dC (.int 0))) (l.map fun i=>.lst (nD (cY n r i))) [v] acc c=.ok (acc++nD (l.map fun i=>r i 0)) c
 |[],v,acc=>by simp[nD]
 |i::l,v,acc=>by
  have g1:az 0 (.lst (nD (cY n r i))) [v] c=.ok [some (.lst (nD (cY n r i)))] c:=rfl
  have g2:aJ (.lst (nD (cY n r i))) (.int 0) c=.ok (.int (r i 0:Nat)) c:=by
   rw[yq,show(0:Int)=((0:Nat):Int)from rfl,jA (v:=.int (r i 0:Nat)) (by simp[nD,cY,agk (show 0<n by omega)])]
  have hE:(au aJ (ak 0) (dC (.int 0))) [some (.lst (nD (cY n r i)))] c=.ok (.int (r i 0:Nat)) c:=by
   generalize D.lst (nD (cY n r i))=T at *
   simp only[gI,cF,yt,gz,R.aD,g2]
  rw[afC,ja,g1,R.aD,kB,R.aD,if_pos rfl,hE,R.aD,Jj h1 r c l,afU]
  rfl
theorem aaw{q:Int}{rows:List D}{ns:List Nat}{z:Bool}{a0 a3 a4 a5 a6:Option D}{c:aa}(b:0<q∧q<1000) (hl:rows.length<sizeLine) (hc:br (fun _=>True) (az 0) aG (au aJ (ak 0) (dC (.int 0))) rows [none] [] c=.ok (nD ns) c) (hN:iA (nD ns)=some ns) (hq:d9 (.lst (nD (b8 ns))) (.lst ((fB 0 q).map D.int)) c=.ok (.bl z) c) :
  (aM (au d9 (m7 (ao (aK (bJ (ak 2)) [none] (az 0) aG (au aJ (ak 0) (dC (.int 0)))) aq)) (m8 (ao (ak 1) aq)))) [a0,some (.int q),some (.lst rows),a3,a4,a5,a6] c=.ok z c:=by
 have hp:cA [none] [a0,some (.int q),some (.lst rows),a3,a4,a5,a6]=[none]:=rfl
 have hd:bJ (ak 2) [a0,some (.int q),some (.lst rows),a3,a4,a5,a6] c=.ok ⟨rows,fun _=>True⟩ c:=rfl
 have hS:m7 (ao (aK (bJ (ak 2)) [none] (az 0) aG (au aJ (ak 0) (dC (.int 0)))) aq) [a0,some (.int q),some (.lst rows),a3,a4,a5,a6] c=.ok (.lst (nD (b8 ns))) c:=by
  unfold m7
  simp only[bT,cV,hd,bS,R.aD]
  rw[if_pos hl,hp,hc]
  simp only[R.aD,dX,hN]
 have hR:m8 (ao (ak 1) aq) [a0,some (.int q),some (.lst rows),a3,a4,a5,a6] c=.ok (.lst ((fB 0 q).map D.int)) c:=by
  unfold m8
  simp only[bT,cF,gz,gs,bS,R.aD]
  rw[if_pos b]
 simp only[jh,gI,hS,hR,R.aD,hq]
theorem cast_inj{a b:List Nat}(h:xF a=xF b):a=b:=Dg h
theorem Pr(n:Nat):fB 0 (n:Int)=xF (List.range n):=FT n
theorem Vi(A:List Nat) (n:Nat) (c:aa):d9 (.lst (nD A)) (.lst ((fB 0 (n:Int)).map D.int)) c=.ok (.bl (!decide (A=List.range n))) c:=by
 rw[V0,(ZM _ _ c).2,Pr]
 congr 3
 exact decide_eq_decide.mpr ⟨cast_inj,fun h=>by rw[h]⟩
theorem aaH{j:Nat}{q f x:Int}{a2 a3 a4 a5 a6:Option D}{c c1:aa}(hf:(if q-1>1 then q-1 else 1)=f) (t:cH [.ref j,.int f] c=.ok (.int x) c1):(aH 3 (au cy (dC (.int 1)) (aA 2 cH (ao (ak 0) (ao (aF p7 (ao (dC (.int 1)) (ao (au eT (ak 1) (dC (.int 1))) aq))) aq))))) [some (.ref j),some (.int q),a2,a3,a4,a5,a6] c=.ok (.nx [some (.ref j),some (.int q),a2,some (.int (1+x)),a4,a5,a6]) c1:=by
 simp only[gF,gI,yt,x_call,d8,bT,cF,gz,gs,bS,R.aD,LZ,L6,hf,afO,agd,if_pos,t,yu]
 rfl
def xu:ah:=aE (aH 3 (au cy (dC (.int 1)) (aA 2 cH (ao (ak 0) (ao (aF p7 (ao (dC (.int 1)) (ao (au eT (ak 1) (dC (.int 1))) aq))) aq))))) (aE (aH 2 (aK (aW (ao (ak 1) aq)) [none,some 1,some 3] (az 0) aG tU)) (bw (aM (au d9 (m7 (ao (aK (bJ (ak 2)) [none] (az 0) aG (au aJ (ak 0) (dC (.int 0)))) aq)) (m8 (ao (ak 1) aq)))) (aH 2 (aK (aW (ao (ak 1) aq)) [none,some 1] (az 0) aG ni)) bz))
theorem JE{j m n:Nat}{c:aa}(hP:dP j m c) (h1:1≤n) (h8:n<8):∃r v3 c',cg n r∧dP j m c'∧xu [some (.ref j),some (.int (n:Int)),none,none,none,none,none] c=.ok (.nx [some (.ref j),some (.int (n:Int)),some (iO n r),v3,none,none,none]) c':=by
 have hs:=cX (n:=1000) (by decide)
 obtain⟨f,hf⟩:∃f:Int,(if(n:Int)-1>1 then(n:Int)-1 else 1)=f:=⟨_,rfl⟩
 have hf':0<f∧f≤6:=by split at hf<;>omega
 obtain⟨x,c1,x0,x1,P1,t1⟩:=nR (cZ:=f) hP hf'.1 (by omega)
 obtain⟨b,hb⟩:=mD (i:=1+x) (by omega)
 have e1:=aaH (a2:=none) (a3:=none) (a4:=none) (a5:=none) (a6:=none) hf t1
 rw[hb]at e1
 have c2:=kJ (E:=[some (.int (n:Int)),some (.int (b:Int))]) (a:=tU) (n:=n) (c:=c1) (fun i=>.lst (nD (cY n (fun i k=>(b*i+k) % n) i))) (fun i _=>abQ h1 h8 c1 b i (by omega))
 have e2:=abR (a0:=some (.ref j)) (a2:=none) (a4:=none) (a5:=none) (a6:=none) (by omega) (by rw[fz];omega) c2
 have hfc:=Jj h1 (fun i k=>(b*i+k) % n) c1 (List.range n) none []
 rw[afP]at hfc
 have hN:iA (nD ((List.range n).map fun i=>(b*i+0) % n))=some ((List.range n).map fun i=>(b*i+0) % n):=Hf (by
  have:=vo (vn (nO ((List.range n).map fun i=>(b*i+0) % n))) (fun x hx=>kP.mp hx)
  rw[afy,af2]at this
  omega) (fun x hx=>by
  obtain⟨i,_,rfl⟩:=afx.mp hx
  have:=agt (b*i+0) (show 0<n by omega)
  omega)
 have hu:=aaw (a0:=some (.ref j)) (a3:=some (.int (b:Int))) (a4:=none) (a5:=none) (a6:=none) (by omega) (by rw[afy,af2];omega) hfc hN (Vi _ n c1)
 by_cases hk:b8 ((List.range n).map fun i=>(b*i+0) % n)=List.range n
 ·have hL:=WI n h8 b (by omega) hk
  refine⟨fun i k=>(b*i+k) % n,some (.int (b:Int)),c1,⟨hL.1,hL.2⟩,P1,?_⟩
  unfold xu
  rw[bx e1,bx e2,gH,hu,R.aD,decide_eq_true hk]
  rfl
 ·have hL:=WH n h8
  have c3:=kJ (E:=[some (.int (n:Int))]) (a:=ni) (n:=n) (c:=c1) (fun i=>.lst (nD (cY n (fun i k=>(i+k) % n) i))) (fun i _=>abM h1 h8 c1 i)
  have e3:=abN (a0:=some (.ref j)) (a2:=some (.lst ((List.range n).map fun i=>.lst (nD (cY n (fun i k=>(b*i+k) % n) i))))) (a3:=some (.int (b:Int))) (a4:=none) (a5:=none) (a6:=none) (by omega) (by rw[fz];omega) c3
  refine⟨fun i k=>(i+k) % n,some (.int (b:Int)),c1,⟨hL.1,hL.2⟩,P1,?_⟩
  unfold xu
  rw[bx e1,bx e2,gH,hu,R.aD,decide_eq_false hk,if_pos (by decide)]
  exact e3
def tQ:ah:=bw (gf (aM (au bE (ak 1) (dC (.int 4)))) (aM (au bE (aA 2 cH (ao (ak 0) (ao (dC (.int 2)) aq))) (dC (.int 0))))) (aH 2 (aK (aW (ao (ak 1) aq)) [none,some 1] (az 0) aG tX)) xu
theorem aay{q:Int}{a0 a2 a3 a4 a5 a6:Option D}{c:aa}(h:¬q=4):(gf (aM (au bE (ak 1) (dC (.int 4)))) (aM (au bE (aA 2 cH (ao (ak 0) (ao (dC (.int 2)) aq))) (dC (.int 0))))) [a0,some (.int q),a2,a3,a4,a5,a6] c=.ok false c:=by simp[h]
theorem aax{j:Nat}{x:Int}{a2 a3 a4 a5 a6:Option D}{c c1:aa}(t:cH [.ref j,.int 2] c=.ok (.int x) c1):(gf (aM (au bE (ak 1) (dC (.int 4)))) (aM (au bE (aA 2 cH (ao (ak 0) (ao (dC (.int 2)) aq))) (dC (.int 0))))) [some (.ref j),some (.int 4),a2,a3,a4,a5,a6] c=.ok (decide (x=0)) c1:=by simp[t]
theorem aaC{j m n:Nat}{c:aa}(hP:dP j m c) (h1:1≤n) (h8:n<8):∃r v3 c',cg n r∧dP j m c'∧tQ [some (.ref j),some (.int (n:Int)),none,none,none,none,none] c=.ok (.nx [some (.ref j),some (.int (n:Int)),some (iO n r),v3,none,none,none]) c':=by
 have hs:=cX (n:=1000) (by decide)
 by_cases h4:(n:Int)=4
 ·have:n=4:=by omega
  subst this
  obtain⟨x,c1,x0,x1,P1,t1⟩:=nR (cZ:=2) hP (by decide) (by decide)
  have ht:=aax (a2:=none) (a3:=none) (a4:=none) (a5:=none) (a6:=none) t1
  by_cases hx:x=0
  ·have c2:=kJ (E:=[some (.int ((4:Nat):Int))]) (a:=tX) (n:=4) (c:=c1) (fun i=>.lst (nD (cY 4 kq i))) (fun i hi=>ab4 i hi c1)
   have e2:=ab5 (a0:=some (.ref j)) (a2:=none) (a3:=none) (a4:=none) (a5:=none) (a6:=none) (by omega) (by rw[fz];omega) c2
   refine⟨kq,none,c1,⟨HC.1,HC.2⟩,P1,?_⟩
   unfold tQ
   rw[gH,show((4:Nat):Int)=4 from rfl,ht,R.aD,decide_eq_true hx,if_pos rfl]
   exact e2
  ·obtain⟨r,v3,c',hL,P',h⟩:=JE P1 h1 h8
   refine⟨r,v3,c',hL,P',?_⟩
   unfold tQ
   rw[gH,show((4:Nat):Int)=4 from rfl,ht,R.aD,decide_eq_false hx,if_neg (by decide)]
   exact h
 ·obtain⟨r,v3,c',hL,P',h⟩:=JE hP h1 h8
  refine⟨r,v3,c',hL,P',?_⟩
  unfold tQ
  rw[gH,aay h4,R.aD,if_neg (by decide)]
  exact h
end Ev
namespace Ev
open PySem L2
theorem kT{α:Type}{E:List (Option D)}{a:af}{c:aa}(g F:α→D):∀(l:List α) (v:Option D) (acc:List D),(∀x∈l,a (some (g x)::E) c=.ok (F x) c)→br (fun _=>True) (az 0) aG a (l.map g) (v::E) acc c=.ok (acc++l.map F) c
 |[],v,acc,_=>by simp
 |x::l,v,acc,h=>by
  have h1:az 0 (g x) (v::E) c=.ok (some (g x)::E) c:=rfl
  rw[afC,ja,h1,R.aD,kB,R.aD,if_pos rfl,h x (.head _),R.aD,kT g F l _ _ (fun z hz=>h z (.tail _ hz)),afU]
  rfl
theorem iV(l:List Nat):nD l=l.map fun k:Nat=>D.int (k:Int):=by simp[nD]
theorem pO{os:List Nat}{n x:Nat}(h:os.Perm (List.range n)) (hx:x∈os):x<n:=aft.mp (h.mem_iff.mp hx)
theorem gP{os:List Nat}{n:Nat}(h:os.Perm (List.range n)):os.length=n:=by have:=h.length_eq;simpa using this
theorem zM{α:Type}(os:List Nat) (f:Nat→α):os.map f=(List.range os.length).map fun i=>f (os.getD i 0):=by
 refine aiO (by simp) fun i h1 h2=>?_
 simp[afu]
 rw[afz (by simpa using h1)]
 rfl
theorem uR{os:List Nat}{n:Nat}(h:os.Perm (List.range n)):((List.range n).map fun i=>os.getD i 0).Perm (List.range n):=by
 have:=zM os id
 rw[ahx,gP h]at this
 exact(ajI this.symm).trans h
theorem uJ{os:List Nat}{n i:Nat}(h:os.Perm (List.range n)) (hi:i<n):os.getD i 0<n:=by
 have:=gP h
 rw[afu,afz (by omega)]
 exact pO h (afX _)
theorem cg.lt{n:Nat}{r:Nat→Nat→Nat}(h:cg n r) {i k:Nat}(hi:i<n) (hk:k<n):r i k<n:=pO (h.row i hi) (afx.mpr ⟨k,aft.mpr hk,rfl⟩)
theorem cg.rows{n:Nat}{r:Nat→Nat→Nat}(h:cg n r) {os:List Nat}(ho:os.Perm (List.range n)):cg n fun i k=>r (os.getD i 0) k:=by
 refine⟨fun i hi=>h.row _ (uJ ho hi),fun k hk=>?_⟩
 have:=(uR ho).map fun i=>r i k
 rw[afY]at this
 exact this.trans (h.col k hk)
theorem cg.cols{n:Nat}{r:Nat→Nat→Nat}(h:cg n r) {os:List Nat}(ho:os.Perm (List.range n)):cg n fun i k=>r i (os.getD k 0):=by
 refine⟨fun i hi=>?_,fun k hk=>h.col _ (uJ ho hk)⟩
 have:=(uR ho).map fun k=>r i k
 rw[afY]at this
 exact this.trans (h.row i hi)
theorem cg.names{n:Nat}{r:Nat→Nat→Nat}(h:cg n r) {os:List Nat}(ho:os.Perm (List.range n)):cg n fun i k=>os.getD (r i k) 0:=by
 refine⟨fun i hi=>?_,fun k hk=>?_⟩
 ·have:=(h.row i hi).map fun i=>os.getD i 0
  rw[afY]at this
  exact this.trans (uR ho)
 ·have:=(h.col k hk).map fun i=>os.getD i 0
  rw[afY]at this
  exact this.trans (uR ho)
theorem r9(n:Nat) (s:Nat→Nat→Nat):bD ((List.range n).map fun i=>D.tup (nD ((List.range n).map (s i))))=true:=iy.mpr fun d hd=>by
 obtain⟨i,_,rfl⟩:=afx.mp hd
 rw[uN]
 exact mC _
theorem yH{n:Nat}{os:List Nat}{f:Nat→Nat→Nat}(ho:os.length=n):D.tup (os.map fun i=>D.tup (nD ((List.range n).map (f i))))=aB n fun i k=>f (os.getD i 0) k:=by
 unfold aB
 rw[zM,ho]
theorem aaz{A B:D}{row col k v:Int}{r:D}{c:aa}(h1:aJ B (.int row) c=.ok r c) (h2:aJ r (.int col) c=.ok (.int k) c) (h3:aJ A (.int k) c=.ok (.int v) c):(au aJ (ak 1) (au aJ (au aJ (ak 2) (ak 3)) (ak 0))) [some (.int col),some A,some B,some (.int row)] c=.ok (.int v) c:=by
 simp only[gI,cF,gz,gs,R.aD,h1,h2,h3]
theorem aaA{A B:D}{cs l:List D}{row:Int}{c:aa}(hl:cs.length<sizeLine) (h:br (fun _=>True) (az 0) aG (au aJ (ak 1) (au aJ (au aJ (ak 2) (ak 3)) (ak 0))) cs [none,some A,some B,some (.int row)] [] c=.ok l c):(aF bH (ao (aK (b9 (ak 2)) [none,some 1,some 3,some 0] (az 0) aG (au aJ (ak 1) (au aJ (au aJ (ak 2) (ak 3)) (ak 0)))) aq)) [some (.int row),some A,some (.tup cs),some B] c=.ok (.tup l) c:=by
 have hp:cA [none,some 1,some 3,some 0] [some (.int row),some A,some (.tup cs),some B]=[none,some A,some B,some (.int row)]:=rfl
 have hd:b9 (ak 2) [some (.int row),some A,some (.tup cs),some B] c=.ok ⟨cs,fun _=>True⟩ c:=rfl
 simp only[d8,bT,cV,hd,bS,R.aD]
 rw[if_pos hl,hp,h]
 rfl
def xx:af:=(aF bH (ao (aK (b9 (ak 2)) [none,some 1,some 3,some 0] (az 0) aG (au aJ (ak 1) (au aJ (au aJ (ak 2) (ak 3)) (ak 0)))) aq))
theorem aaD{A B C:D}{os l:List D}{a0 a1 a3:Option D}{c:aa}(hl:os.length<sizeLine) (h:br (fun _=>True) (az 0) aG xx os [none,some A,some C,some B] [] c=.ok l c):(aP (aF bH (ao (aK (b9 (ak 4)) [none,some 5,some 6,some 2] (az 0) aG (aF bH (ao (aK (b9 (ak 2)) [none,some 1,some 3,some 0] (az 0) aG (au aJ (ak 1) (au aJ (au aJ (ak 2) (ak 3)) (ak 0)))) aq))) aq))) [a0,a1,some B,a3,some (.tup os),some A,some C] c=.ok (.rt (.tup l)) c:=by
 have hp:cA [none,some 5,some 6,some 2] [a0,a1,some B,a3,some (.tup os),some A,some C]=[none,some A,some C,some B]:=rfl
 have hd:b9 (ak 4) [a0,a1,some B,a3,some (.tup os),some A,some C] c=.ok ⟨os,fun _=>True⟩ c:=rfl
 unfold xx at h
 simp only[ir,d8,bT,cV,hd,bS,R.aD]
 rw[if_pos hl,hp,h]
 rfl
section
variable {j:Nat}{q:Int}{T:D}{c c':aa}(a2 a3 a4 a5 a6:Option D)
theorem aaG(h:dF [.ref j,.int q] c=.ok T c'):(aH 4 (aA 2 dF (ao (ak 0) (ao (ak 1) aq)))) [some (.ref j),some (.int q),a2,a3,a4,a5,a6] c=.ok (.nx [some (.ref j),some (.int q),a2,a3,some T,a5,a6]) c':=by
 simp only[gF,x_call,bT,cF,gz,gs,bS,R.aD,afO,agd,if_pos,h]
 rfl
theorem aaF(h:dF [.ref j,.int q] c=.ok T c'):(aH 5 (aA 2 dF (ao (ak 0) (ao (ak 1) aq)))) [some (.ref j),some (.int q),a2,a3,a4,a5,a6] c=.ok (.nx [some (.ref j),some (.int q),a2,a3,a4,some T,a6]) c':=by
 simp only[gF,x_call,bT,cF,gz,gs,bS,R.aD,afO,agd,if_pos,h]
 rfl
theorem aaE(h:dF [.ref j,.int q] c=.ok T c'):(aH 6 (aA 2 dF (ao (ak 0) (ao (ak 1) aq)))) [some (.ref j),some (.int q),a2,a3,a4,a5,a6] c=.ok (.nx [some (.ref j),some (.int q),a2,a3,a4,a5,some T]) c':=by
 simp only[gF,x_call,bT,cF,gz,gs,bS,R.aD,afO,agd,if_pos,h]
 rfl
end
theorem MN{n:Nat}(r:Nat→Nat→Nat) {i:Nat}(hi:i<n) (c:aa):aJ (iO n r) (.int (i:Int)) c=.ok (.lst (nD (cY n r i))) c:=by
 unfold iO
 rw[yq,jA (v:=.lst (nD (cY n r i))) (by simp[hi])]
theorem Pn{n:Nat}(r:Nat→Nat→Nat) (i:Nat) {k:Nat}(hk:k<n) (c:aa):aJ (.lst (nD (cY n r i))) (.int (k:Int)) c=.ok (.int (r i k:Nat)) c:=by
 rw[yq,jA (v:=.int (r i k:Nat)) (by simp[nD,cY,hk])]
theorem Gf{os:List Nat}{k:Nat}(hk:k<os.length) (c:aa):aJ (.tup (nD os)) (.int (k:Int)) c=.ok (.int (os.getD k 0:Nat)) c:=by
 rw[uv,jA (v:=.int (os.getD k 0:Nat)) (by simp[nD,hk,afu])]
theorem aaB{n:Nat}{r:Nat→Nat→Nat}(hL:cg n r) (h8:n<8) {os ns cs:List Nat}(ho:os.Perm (List.range n)) (hn:ns.Perm (List.range n)) (hc:cs.Perm (List.range n)) (c:aa) :
  br (fun _=>True) (az 0) aG xx (nD os) [none,some (.tup (nD ns)),some (.tup (nD cs)),some (iO n r)] [] c=.ok (os.map fun i=>D.tup (nD ((List.range n).map fun k=>ns.getD (r i (cs.getD k 0)) 0))) c:=by
 have hs:=cX (n:=1000) (by decide)
 have:=kT (E:=[some (.tup (nD ns)),some (.tup (nD cs)),some (iO n r)]) (a:=xx) (c:=c) (fun k:Nat=>D.int (k:Int)) (fun i=>D.tup (nD ((List.range n).map fun k=>ns.getD (r i (cs.getD k 0)) 0))) os none [] (fun i hi=>by
  have hin:=pO ho hi
  have h2:=kT (E:=[some (.tup (nD ns)),some (iO n r),some (.int (i:Int))]) (a:=(au aJ (ak 1) (au aJ (au aJ (ak 2) (ak 3)) (ak 0)))) (c:=c) (fun k:Nat=>D.int (k:Int)) (fun k=>D.int (ns.getD (r i k) 0:Nat)) cs none [] (fun k hk=>by
   have hkn:=pO hc hk
   have h3:=hL.lt hin hkn
   exact aaz (MN r hin c) (Pn r i hkn c) (Gf (by rw[gP hn];exact h3) c))
  rw[afP,←iV]at h2
  have e:(cs.map fun k=>D.int (ns.getD (r i k) 0:Nat))=nD ((List.range n).map fun k=>ns.getD (r i (cs.getD k 0)) 0):=by
   rw[zM,gP hc,iV,afY]
   rfl
  rw[e]at h2
  exact aaA (by rw[iV,afy,gP hc];omega) h2)
 rw[afP,←iV]at this
 exact this
theorem JD{j m n:Nat}{c:aa}(hP:dP j m c) (h1:1≤n) (h8:n<8):∃s c',cg n s∧dP j m c'∧mK [.ref j,.int (n:Int)] c=.ok (aB n s) c':=by
 have hs:=cX (n:=1000) (by decide)
 obtain⟨r,v3,c1,hL,P1,e1⟩:=aaC hP h1 h8
 obtain⟨os,c2,ho,P2,o2⟩:=uX P1 h1 (show n<1000 by omega)
 obtain⟨ns,c3,hn,P3,o3⟩:=uX P2 h1 (show n<1000 by omega)
 obtain⟨cs,c4,hc,P4,o4⟩:=uX P3 h1 (show n<1000 by omega)
 have e2:=aaG (some (iO n r)) v3 none none none o2
 have e3:=aaF (some (iO n r)) v3 (some (.tup (nD os))) none none o3
 have e4:=aaE (some (iO n r)) v3 (some (.tup (nD os))) (some (.tup (nD ns))) none o4
 have e5:=aaD (a0:=some (.ref j)) (a1:=some (.int (n:Int))) (a3:=v3) (by rw[iV,afy,gP ho];omega) (aaB hL h8 ho hn hc c4)
 refine⟨fun i k=>ns.getD (r (os.getD i 0) (cs.getD k 0)) 0,c4,((hL.rows ho).cols hc).names hn,P4,?_⟩
 have hb:qR=aE tQ (aE (aH 4 (aA 2 dF (ao (ak 0) (ao (ak 1) aq)))) (aE (aH 5 (aA 2 dF (ao (ak 0) (ao (ak 1) aq)))) (aE (aH 6 (aA 2 dF (ao (ak 0) (ao (ak 1) aq)))) (aP (aF bH (ao (aK (b9 (ak 4)) [none,some 5,some 6,some 2] (az 0) aG (aF bH (ao (aK (b9 (ak 2)) [none,some 1,some 3,some 0] (az 0) aG (au aJ (ak 1) (au aJ (au aJ (ak 2) (ak 3)) (ak 0)))) aq))) aq)))))):=rfl
 have es:cS 7 [D.ref j,.int (n:Int)]=[some (.ref j),some (.int (n:Int)),none,none,none,none,none]:=rfl
 have hq:D.tup (os.map fun i=>D.tup (nD ((List.range n).map fun k=>ns.getD (r i (cs.getD k 0)) 0)))=aB n fun i k=>ns.getD (r (os.getD i 0) (cs.getD k 0)) 0:=yH (f:=fun i k=>ns.getD (r i (cs.getD k 0)) 0) (gP ho)
 rw[mK,eG,hb,es,bx e1,bx e2,bx e3,bx e4,e5,hq]
 simp only[R.aD]
 unfold aB
 rw[jk,if_pos (r9 n _),ahA (by rw[P4.1,hP.1];exact afs _)]
theorem Nj{a0 a2:Option D}{c:aa}:(aH 1 (dG (ao (b6 (dZ [0,1,2,3,4,5])) (ao (b6 (dZ [1,0,3,2,5,4])) (ao (b6 (dZ [2,4,0,5,1,3])) (ao (b6 (dZ [3,5,1,4,0,2])) (ao (b6 (dZ [4,2,5,0,3,1])) aq))))))) [a0,none,a2] c=.ok (.nx [a0,some (.ref c.length),a2]) (c++[.lst ((six.take 5).map fun l=>D.lst (nD l))]):=by
 simp[six,nD]
theorem Ni{a0 a2:Option D}{c:aa}:(bW (fk (ak 1) (b6 (dZ [5,3,4,1,2,0])))) [a0,some (.ref c.length),a2] (c++[.lst ((six.take 5).map fun l=>D.lst (nD l))])=.ok (.nx [a0,some (.ref c.length),a2]) (c++[.lst ((six.take 5).map (fun l=>D.lst (nD l))++[D.lst (nD [5,3,4,1,2,0])])]):=by
 have h:=KN (dO:=ak 1) (da:=b6 (dZ [5,3,4,1,2,0])) (e:=[a0,some (.ref c.length),a2]) (c:=c) (acc:=(six.take 5).map fun l=>D.lst (nD l)) (y:=D.lst (nD [5,3,4,1,2,0])) (by simp) (by simp[nD]) (by simp[nD]) (by simp[six])
 simp only[nN,h,R.aD]
theorem Oo:(six.take 5).map (fun l=>D.lst (nD l))++[D.lst (nD [5,3,4,1,2,0])]=(List.range 6).map fun i=>D.lst (nD (cY 6 gJ i)):=by
 simp[six,cY,gJ,nD,ahs]
theorem Nh{j:Nat}{T:D}{a1 a2:Option D}{c c':aa}(h:dF [.ref j,.int 6] c=.ok T c'):(aH 2 (aA 2 dF (ao (ak 0) (ao (dC (.int 6)) aq)))) [some (.ref j),a1,a2] c=.ok (.nx [some (.ref j),a1,some T]) c':=by
 simp only[gF,x_call,bT,cF,yt,gz,gs,bS,R.aD,afO,agd,if_pos,h]
 rfl
theorem Nf{k:Nat}{i:Int}{l r:List D}{c:aa}(hk:c[k]? = some (.lst l)) (hi:cI l i=some (.lst r)):(aF bH (ao (au aJ (ak 1) (ak 0)) aq)) [some (.int i),some (.ref k)] c=.ok (.tup r) c:=by
 have:aJ (.ref k) (.int i) c=.ok (.lst r) c:=by
  unfold aJ
  dsimp only[gK]
  rw[hk]
  dsimp only
  rw[hi]
 simp only[d8,bT,gI,cF,gz,gs,bS,R.aD,this]
 rfl
theorem Ng{k:Nat}{os l:List D}{a0:Option D}{c:aa}(hl:os.length<sizeLine) (h:br (fun _=>True) (az 0) aG (aF bH (ao (au aJ (ak 1) (ak 0)) aq)) os [none,some (.ref k)] [] c=.ok l c):(aP (aF bH (ao (aK (b9 (ak 2)) [none,some 1] (az 0) aG (aF bH (ao (au aJ (ak 1) (ak 0)) aq))) aq))) [a0,some (.ref k),some (.tup os)] c=.ok (.rt (.tup l)) c:=by
 have hp:cA [none,some 1] [a0,some (.ref k),some (.tup os)]=[none,some (.ref k)]:=rfl
 have hd:b9 (ak 2) [a0,some (.ref k),some (.tup os)] c=.ok ⟨os,fun _=>True⟩ c:=rfl
 simp only[ir,d8,bT,cV,hd,bS,R.aD]
 rw[if_pos hl,hp,h]
 rfl
theorem Oq{j m:Nat}{c:aa}(hP:dP j m c):∃s c',cg 6 s∧dP j m c'∧jq [.ref j] c=.ok (aB 6 s) c':=by
 have hs:=cX (n:=1000) (by decide)
 obtain⟨hl,hj,p,hp⟩:=id hP
 have e0:=Nj (a0:=some (.ref j)) (a2:=none) (c:=c)
 have e1:=Ni (a0:=some (.ref j)) (a2:=none) (c:=c)
 rw[Oo]at e1
 have P0:dP j (c.length+1) (c++[.lst ((List.range 6).map fun i=>D.lst (nD (cY 6 gJ i)))]):=⟨by simp,by omega,p,by rw[af7 (by omega)];exact hp⟩
 obtain⟨os,c2,ho,P2,f2,o2⟩:=Ge P0 (by decide) (show 6<1000 by decide)
 have g4:c2[c.length]? = some (.lst ((List.range 6).map fun i=>D.lst (nD (cY 6 gJ i)))):=by rw[f2 c.length (by omega) (by omega)];simp
 have e2:=Nh (a1:=some (.ref c.length)) (a2:=none) o2
 have hc:=kT (E:=[some (.ref c.length)]) (a:=(aF bH (ao (au aJ (ak 1) (ak 0)) aq))) (c:=c2) (fun k:Nat=>D.int (k:Int)) (fun i=>D.tup (nD (cY 6 gJ i))) os none [] (fun i hi=>Nf g4 (jA (by simp[pO ho hi])))
 rw[afP,←iV]at hc
 have e3:=Ng (a0:=some (.ref j)) (by rw[iV,afy,gP ho];omega) hc
 have hL:cg 6 gJ:=⟨HB.1,HB.2⟩
 obtain⟨g1,g2,p2,g3⟩:=P2
 refine⟨fun i k=>gJ (os.getD i 0) k,c2.take c.length,hL.rows ho,⟨by rw[ahK];omega,hj,p2,by rw[ahL (by omega)];exact g3⟩,?_⟩
 have hb:qP=aE (aH 1 (dG (ao (b6 (dZ [0,1,2,3,4,5])) (ao (b6 (dZ [1,0,3,2,5,4])) (ao (b6 (dZ [2,4,0,5,1,3])) (ao (b6 (dZ [3,5,1,4,0,2])) (ao (b6 (dZ [4,2,5,0,3,1])) aq))))))) (aE (bW (fk (ak 1) (b6 (dZ [5,3,4,1,2,0])))) (aE (aH 2 (aA 2 dF (ao (ak 0) (ao (dC (.int 6)) aq)))) (aP (aF bH (ao (aK (b9 (ak 2)) [none,some 1] (az 0) aG (aF bH (ao (au aJ (ak 1) (ak 0)) aq))) aq))))):=rfl
 have es:cS 3 [D.ref j]=[some (.ref j),none,none]:=rfl
 have hq:D.tup (os.map fun i=>D.tup (nD (cY 6 gJ i)))=aB 6 fun i k=>gJ (os.getD i 0) k:=yH (f:=gJ) (gP ho)
 rw[jq,eG,hb,es,bx e0,bx e1,bx e2,e3,hq]
 simp only[R.aD]
 unfold aB
 rw[jk,if_pos (r9 6 _)]
theorem Wr{j:Nat}{T:D}{a0:Option D}{c c1 c2:aa}(t:cH [.ref j,.int 2] c=.ok (.int 0) c1) (h:jq [.ref j] c1=.ok T c2):(bw (gf (aM (au bE (ak 1) (dC (.int 6)))) (aM (au bE (aA 2 cH (ao (ak 0) (ao (dC (.int 2)) aq))) (dC (.int 0))))) (aP (aA 1 jq (ao (ak 0) aq))) bz) [some (.ref j),some (.int 6)] c=.ok (.rt T) c2:=by
 simp[t,h]
theorem Ws{j:Nat}{x:Int}{c c1:aa}(t:cH [.ref j,.int 2] c=.ok (.int x) c1) (hx:¬x=0):(bw (gf (aM (au bE (ak 1) (dC (.int 6)))) (aM (au bE (aA 2 cH (ao (ak 0) (ao (dC (.int 2)) aq))) (dC (.int 0))))) (aP (aA 1 jq (ao (ak 0) aq))) bz) [some (.ref j),some (.int 6)] c=.ok (.nx [some (.ref j),some (.int 6)]) c1:=by
 simp[t,hx]
theorem Wt{j:Nat}{q:Int}{c:aa}(hq:¬q=6):(bw (gf (aM (au bE (ak 1) (dC (.int 6)))) (aM (au bE (aA 2 cH (ao (ak 0) (ao (dC (.int 2)) aq))) (dC (.int 0))))) (aP (aA 1 jq (ao (ak 0) aq))) bz) [some (.ref j),some (.int q)] c=.ok (.nx [some (.ref j),some (.int q)]) c:=by
 simp[hq]
theorem Ht{j:Nat}{q:Int}{T:D}{c c':aa}(h:mK [.ref j,.int q] c=.ok T c'):(aP (aA 2 mK (ao (ak 0) (ao (ak 1) aq)))) [some (.ref j),some (.int q)] c=.ok (.rt T) c':=by
 simp[h]
theorem ZS{j m n:Nat}{c:aa}(hP:dP j m c) (h1:1≤n) (h8:n<8):∃s c',cg n s∧dP j m c'∧kR [.ref j,.int (n:Int)] c=.ok (aB n s) c':=by
 have hb:qO=aE (bw (gf (aM (au bE (ak 1) (dC (.int 6)))) (aM (au bE (aA 2 cH (ao (ak 0) (ao (dC (.int 2)) aq))) (dC (.int 0))))) (aP (aA 1 jq (ao (ak 0) aq))) bz) (aP (aA 2 mK (ao (ak 0) (ao (ak 1) aq)))):=rfl
 have es:cS 2 [D.ref j,.int (n:Int)]=[some (.ref j),some (.int (n:Int))]:=rfl
 have fin:∀{c'}{s:Nat→Nat→Nat},dP j m c'→eB false c.length (aB n s) c'=.ok (aB n s) c':=fun{c' s} P'=>by
  unfold aB
  rw[jk,if_pos (r9 n _),ahA (by rw[P'.1,hP.1];exact afs _)]
 by_cases h6:(n:Int)=6
 ·have:n=6:=by omega
  subst this
  obtain⟨x,c1,x0,x1,P1,t1⟩:=nR (cZ:=2) hP (by decide) (by decide)
  by_cases hx:x=0
  ·subst hx
   obtain⟨s,c2,hL,P2,h2⟩:=Oq P1
   refine⟨s,c2,hL,P2,?_⟩
   have e:=Wr (a0:=none) t1 h2
   rw[kR,eG,hb,es,show((6:Nat):Int)=6 from rfl,Fx e]
   exact fin P2
  ·obtain⟨s,c2,hL,P2,h2⟩:=JD P1 h1 h8
   refine⟨s,c2,hL,P2,?_⟩
   have e:=Ws t1 hx
   rw[show((6:Nat):Int)=6 from rfl]at h2
   rw[kR,eG,hb,es,show((6:Nat):Int)=6 from rfl,bx e,Ht h2]
   exact fin P2
 ·obtain⟨s,c2,hL,P2,h2⟩:=JD hP h1 h8
  refine⟨s,c2,hL,P2,?_⟩
  rw[kR,eG,hb,es,bx (Wt h6),Ht h2]
  exact fin P2
end Ev
namespace Ev
open PySem L2
def aQ(p:List Nat):D:=.tup (nD p)
def sgn(s:Nat→Nat→Nat) (p:List Nat):List Nat:=(List.range p.length).map fun i=>s i (p.getD i 0)
def jl(s:Nat→Nat→Nat) (p:List Nat) (k:Nat):Bool:=!decide (k∈p) && !decide (s p.length k∈sgn s p)
def c7(n:Nat) (s:Nat→Nat→Nat) (p:List Nat):List (List Nat):=((List.range n).filter (jl s p)).map fun k=>p++[k]
def bq(n:Nat) (s:Nat→Nat→Nat):Nat→List (List Nat)→List (List Nat)
 |0,L=>L
 |k+1,L=>bq n s k (L.flatMap (c7 n s))
theorem vC{n:Nat}{s:Nat→Nat→Nat}:∀(k:Nat) (L:List (List Nat)),bq n s k L=L.flatMap fun p=>bq n s k [p]
 |0,L=>by simp[bq]
 |k+1,L=>by
  show bq n s k (L.flatMap (c7 n s))=L.flatMap fun p=>bq n s k ([p].flatMap (c7 n s))
  rw[vC k,List.flatMap_assoc]
  congr 1
  funext p
  rw[vC k ([p].flatMap (c7 n s))]
  simp
theorem mS{n:Nat}{s:Nat→Nat→Nat}(k:Nat) (L:List (List Nat)):bq n s (k+1) L=(bq n s k L).flatMap (c7 n s):=by
 induction k generalizing L with
 |zero=>rfl
 |succ k ih=>exact ih _
theorem ZH(n:Nat) (s:Nat→Nat→Nat) (p:List Nat):(c7 n s p).length≤n:=by
 unfold c7
 rw[afy]
 exact afL (aja _ _) (by simp)
theorem BV{α β:Type}(f:α→List β) (n:Nat) (h:∀a,(f a).length≤n):∀l:List α,(l.flatMap f).length≤n*l.length
 |[]=>by simp
 |a::l=>by
  have h1:=h a
  have h2:=BV f n h l
  rw[agK,af4,afO,Nat.mul_succ]
  omega
theorem HR{n:Nat}(h7:n≤7) (s:Nat→Nat→Nat) (p:List Nat):∀k,(bq n s k [p]).length≤7^k
 |0=>by simp[bq]
 |k+1=>by
  rw[mS,Nat.pow_succ]
  have h1:=BV (c7 n s) 7 (fun a=>afL (ZH n s a) h7) (bq n s k [p])
  have h2:=HR h7 s p k
  omega
theorem HQ{n:Nat}(h7:n≤7) (s:Nat→Nat→Nat) (p:List Nat) (k:Nat) (hk:k≤7):(bq n s k [p]).length≤900000:=by
 refine afL (HR h7 s p k) ?_
 exact afL (ajS (by decide) hk) (by decide)
theorem ext_mem{n:Nat}{s:Nat→Nat→Nat}{p q:List Nat}(h:q∈c7 n s p):∃k,k<n∧q=p++[k]:=by
 unfold c7 at h
 obtain⟨k,hk,rfl⟩:=afx.mp h
 exact⟨k,aft.mp (agg.mp hk).1,rfl⟩
def Pre(n i:Nat) (p:List Nat):Prop:=p.length=i∧∀x∈p,x<n
theorem Pre.snoc{n i:Nat}{p:List Nat}(h:Pre n i p) {k:Nat}(hk:k<n):Pre n (i+1) (p++[k]):=by
 refine⟨by simp[h.1],fun x hx=>?_⟩
 rcases af3.mp hx with hx|hx
 ·exact h.2 x hx
 ·rw[af1.mp hx];exact hk
theorem sH{n:Nat}{s:Nat→Nat→Nat}:∀k,∀p∈bq n s k [[]],Pre n k p
 |0,p,h=>by
  have:p=[]:=af1.mp h
  subst this
  exact⟨rfl,fun x hx=>nomatch hx⟩
 |k+1,p,h=>by
  rw[mS]at h
  obtain⟨q,hq,hp⟩:=ahC.mp h
  obtain⟨x,hx,rfl⟩:=ext_mem hp
  exact(sH k q hq).snoc hx
theorem Ov(s:Nat→Nat→Nat) (p:List Nat) (k:Nat):sgn s (p++[k])=sgn s p++[s p.length k]:=by
 unfold sgn
 rw[af4,ahM,ahs,agP]
 congr 1
 ·refine agR fun i hi=>?_
  rw[afu,afu,af7 (aft.mp hi)]
 ·simp[afu]
theorem wX:∀l:List Nat,c9 (nD l)=some (l.map fun n:Nat=>PyData.int (n:Int))
 |[]=>rfl
 |n::ns=>by
  show(match dg (.int (n:Int)),c9 (nD ns)with|some a,some r=>some (a::r)|_,_=>none)=_
  rw[wX ns]
  rfl
theorem KO(l:List Nat) (k:Nat):((l.map fun n:Nat=>PyData.int (n:Int)).any fun z=>z.eqv (.int (k:Int)))=decide (k∈l):=by
 rw[ajb,agD,aiF,decide_eq_true_eq]
 refine⟨fun⟨x,hx,e⟩=>?_,fun h=>⟨k,h,?_⟩⟩
 ·have:(x:Int)=(k:Int):=by simpa[PyData.eqv]using e
  have:x=k:=by omega
  exact this▸hx
 ·simp[PyData.eqv]
theorem U6(l:List Nat) (k:Nat) (c:aa):gb (.int (k:Int)) (.tup (nD l)) c=.ok (.bl (!decide (k∈l))) c:=by
 have h1:eX c (.int (k:Int))=some (.int (k:Int)):=rfl
 have h2:eX c (.tup (nD l))=some (.tuple (l.map fun n:Nat=>PyData.int (n:Int))):=by
  show(match c9 (nD l)with|some r=>some (PyData.tuple r)|none=>none)=_
  rw[wX]
 unfold gb
 rw[h1,h2]
 dsimp only
 rw[if_pos (by simp[PyData.depth]),KO]
theorem U7(l:List Nat) (k:Nat) (c:aa):gb (.int (k:Int)) (.lst (nD l)) c=.ok (.bl (!decide (k∈l))) c:=by
 have h1:eX c (.int (k:Int))=some (.int (k:Int)):=rfl
 have h2:eX c (.lst (nD l))=some (.list (l.map fun n:Nat=>PyData.int (n:Int))):=by
  show(match c9 (nD l)with|some r=>some (PyData.list r)|none=>none)=_
  rw[wX]
 unfold gb
 rw[h1,h2]
 dsimp only
 rw[if_pos (by simp[PyData.depth]),KO]
theorem zl{α:Type}{a:af}{c:aa}(g h F:α→D):∀(l:List α) (v w:Option D) (acc:List D),(∀x∈l,a [some (g x),some (h x)] c=.ok (F x) c)→br (fun _=>True) (eu 2 (cB (az 0) (cB (az 1) eN))) aG a (l.map fun x=>.tup [g x,h x]) [v,w] acc c=.ok (acc++l.map F) c
 |[],v,w,acc,_=>by simp
 |x::l,v,w,acc,H=>by
  have h1:eu 2 (cB (az 0) (cB (az 1) eN)) (.tup [g x,h x]) [v,w] c=.ok [some (g x),some (h x)] c:=rfl
  rw[afC,ja,h1,R.aD,kB,R.aD,if_pos rfl,H x (.head _),R.aD,zl g h F l _ _ _ (fun z hz=>H z (.tail _ hz)),afU]
  rfl
theorem vM{α:Type}{E:List (Option D)}{t:ai}{a:af}{c:aa}(g F:α→D) (b:α→Bool):∀(l:List α) (v:Option D) (acc:List D),(∀x∈l,t (some (g x)::E) c=.ok (b x) c)→(∀x∈l,b x=true→a (some (g x)::E) c=.ok (F x) c)→br (fun _=>True) (az 0) t a (l.map g) (v::E) acc c=.ok (acc++(l.filter b).map F) c
 |[],v,acc,_,_=>by simp
 |x::l,v,acc,h1,h2=>by
  have e1:az 0 (g x) (v::E) c=.ok (some (g x)::E) c:=rfl
  rw[afC,ja,e1,R.aD,h1 x (.head _),R.aD]
  cases hb:b x with
  |true =>
   rw[if_pos rfl,h2 x (.head _) hb,R.aD,vM g F b l _ _ (fun z hz=>h1 z (.tail _ hz)) (fun z hz=>h2 z (.tail _ hz)),ajT hb,afU]
   rfl
  |false =>
   rw[if_neg (by decide),vM g F b l _ _ (fun z hz=>h1 z (.tail _ hz)) (fun z hz=>h2 z (.tail _ hz)),ajU (by simp[hb])]
theorem FU(m:Nat):bg 0 (m:Int)=(List.range m).map fun k:Nat=>D.int (k:Int):=by
 have:=yW m id
 rw[ahx]at this
 exact this
theorem Nx{n:Nat}(s:Nat→Nat→Nat) {i:Nat}(hi:i<n) (c:aa):aJ (aB n s) (.int (i:Int)) c=.ok (.tup (nD ((List.range n).map (s i)))) c:=by
 unfold aB
 rw[uv,jA (v:=.tup (nD ((List.range n).map (s i)))) (by simp[hi])]
theorem Ff{n:Nat}(s:Nat→Nat→Nat) (i:Nat) {k:Nat}(hk:k<n) (c:aa):aJ (.tup (nD ((List.range n).map (s i)))) (.int (k:Int)) c=.ok (.int (s i k:Nat)) c:=by
 rw[uv,jA (v:=.int (s i k:Nat)) (by simp[nD,hk])]
theorem LM{n:Nat}(s:Nat→Nat→Nat) {p:List Nat}(h:p.length≤n):List.zipWith (fun x y=>D.tup [x,y]) ((List.range n).map fun i=>D.tup (nD ((List.range n).map (s i)))) (nD p)=(List.range p.length).map fun i=>D.tup [.tup (nD ((List.range n).map (s i))),.int (p.getD i 0:Nat)]:=by
 refine aiO (by simp[nD];omega) fun i h1 h2=>?_
 have hi:i<p.length:=by simpa using h2
 simp[nD,afu,hi]
theorem Zd{xs ys l:List D}{q:Option D}{c:aa}(hl:(List.zipWith (fun x y=>D.tup [x,y]) xs ys).length<sizeLine) (h:br (fun _=>True) (eu 2 (cB (az 0) (cB (az 1) eN))) aG (au aJ (ak 0) (ak 1)) (List.zipWith (fun x y=>D.tup [x,y]) xs ys) [none,none] [] c=.ok l c):(aH 3 (aK (fh (ao (ak 0) (ao (ak 1) aq))) [none,none] (eu 2 (cB (az 0) (cB (az 1) eN))) aG (au aJ (ak 0) (ak 1)))) [some (.tup xs),some (.tup ys),q,none] c=.ok (.nx [some (.tup xs),some (.tup ys),q,some (.lst l)]) c:=by
 have hp:cA [none,none] [some (.tup xs),some (.tup ys),q,none]=[none,none]:=rfl
 have hd:fh (ao (ak 0) (ao (ak 1) aq)) [some (.tup xs),some (.tup ys),q,none] c=.ok ⟨List.zipWith (fun x y=>D.tup [x,y]) xs ys,fun _=>True⟩ c:=rfl
 simp only[gF,cV,hd,R.aD]
 rw[if_pos hl,hp,h]
 rfl
theorem Zc{S T r G:D}{k m x:Int}{b1 b2:Bool}{c:aa}(h1:gb (.int k) T c=.ok (.bl b1) c) (hl:aR [T] c=.ok (.int m) c) (h2:aJ S (.int m) c=.ok r c) (h3:aJ r (.int k) c=.ok (.int x) c) (h4:gb (.int x) G c=.ok (.bl b2) c):(aP (gc (au gb (ak 2) (ak 1)) (au gb (au aJ (au aJ (ak 0) (aF aR (ao (ak 1) aq))) (ak 2)) (ak 3)))) [some S,some T,some (.int k),some G] c=.ok (.rt (.bl (b1&&b2))) c:=by
 cases b1<;>simp[h1,hl,h2,h3,h4]
theorem Za{r:D}{k x:Int}{c:aa}(h:aJ r (.int k) c=.ok (.int x) c):(au aJ (ak 0) (ak 1)) [some r,some (.int k)] c=.ok (.int x) c:=by
 simp[h]
theorem zS(p:List Nat) (c:aa):aR [.tup (nD p)] c=.ok (.int (p.length:Int)) c:=by
 rw[yp]
 simp[nD]
theorem Zb{n i k:Nat}{s:Nat→Nat→Nat}{p:List Nat}(h8:n<8) (hp:Pre n i p) (hi:i<n) (hk:k<n) (c:aa):eW [aB n s,aQ p,.int (k:Int)] c=.ok (.bl (jl s p k)) c:=by
 have hs:=cX (n:=1000) (by decide)
 obtain⟨hl,hx⟩:=hp
 subst hl
 have hz:=LM s (agL hi)
 have hc:=zl (a:=(au aJ (ak 0) (ak 1))) (c:=c) (fun i=>D.tup (nD ((List.range n).map (s i)))) (fun i=>.int (p.getD i 0:Nat)) (fun i=>.int (s i (p.getD i 0):Nat)) (List.range p.length) none none [] (fun i hi'=>Za (Ff s i (by
  have hi':=aft.mp hi'
  refine hx _ ?_
  rw[afu,afz hi']
  exact afX _) c))
 rw[←hz,afP]at hc
 have e0:=Zd (q:=some (.int (k:Int))) (by rw[hz,afy,af2];omega) hc
 have hg:((List.range p.length).map fun i=>D.int (s i (p.getD i 0):Nat))=nD (sgn s p):=by rw[iV];unfold sgn;rw[afY];rfl
 rw[hg]at e0
 have e1:=Zc (U6 p k c) (zS p c) (Nx s hi c) (Ff s p.length hk c) (U7 (sgn s p) (s p.length k) c)
 have hb:qW=aE (aH 3 (aK (fh (ao (ak 0) (ao (ak 1) aq))) [none,none] (eu 2 (cB (az 0) (cB (az 1) eN))) aG (au aJ (ak 0) (ak 1)))) (aP (gc (au gb (ak 2) (ak 1)) (au gb (au aJ (au aJ (ak 0) (aF aR (ao (ak 1) aq))) (ak 2)) (ak 3)))):=rfl
 have es:cS 4 [aB n s,aQ p,.int (k:Int)]=[some (.tup ((List.range n).map fun i=>D.tup (nD ((List.range n).map (s i))))),some (.tup (nD p)),some (.int (k:Int)),none]:=rfl
 rw[eW,eG,hb,es,bx e0]
 rw[show(some (D.tup ((List.range n).map fun i=>D.tup (nD ((List.range n).map (s i))))))=some (aB n s)from rfl,e1]
 simp only[R.aD]
 rw[Qe,agC]
 rfl
theorem aaI{S P:D}{k:Int}{b:Bool}{c:aa}(h:eW [S,P,.int k] c=.ok (.bl b) c):(aM (aA 3 eW (ao (ak 2) (ao (ak 1) (ao (ak 0) aq))))) [some (.int k),some P,some S] c=.ok b c:=by
 simp[h]
theorem aaJ{xs:List D}{S:D}{k:Int}{c:aa}(h:xs.length+1≤sizeLine):(au fm (ak 1) (bZ (ao (ak 0) aq))) [some (.int k),some (.tup xs),some S] c=.ok (.tup (xs++[.int k])) c:=by
 simp[fm,h]
theorem NG(p:List Nat) (k:Nat):nD p++[D.int (k:Int)]=nD (p++[k]):=by simp[nD]
theorem ZJ{n i:Nat}{s:Nat→Nat→Nat}{p:List Nat}(h8:n<8) (hp:Pre n i p) (hi:i<n) (c:aa):br (fun _=>True) (az 0) (aM (aA 3 eW (ao (ak 2) (ao (ak 1) (ao (ak 0) aq))))) (au fm (ak 1) (bZ (ao (ak 0) aq))) (bg 0 (n:Int)) [none,some (aQ p),some (aB n s)] [] c=.ok ((c7 n s p).map aQ) c:=by
 have hs:=cX (n:=1000) (by decide)
 have:=vM (E:=[some (aQ p),some (aB n s)]) (t:=(aM (aA 3 eW (ao (ak 2) (ao (ak 1) (ao (ak 0) aq)))))) (a:=(au fm (ak 1) (bZ (ao (ak 0) aq)))) (c:=c) (fun k:Nat=>D.int (k:Int)) (fun k=>aQ (p++[k])) (jl s p) (List.range n) none [] (fun k hk=>aaI (Zb h8 hp hi (aft.mp hk) c)) (fun k hk _=>by
  have:=aaJ (xs:=nD p) (S:=aB n s) (k:=(k:Int)) (c:=c) (by simp only[nD,afy];rw[hp.1];omega)
  rw[NG]at this
  exact this)
 rw[afP,←FU]at this
 rw[this]
 unfold c7
 rw[afY]
 rfl
theorem abT{S T P:D}{k:Nat}{q:Int}{l m:List D}{a1:Option D}{c:aa}(hl:aR [T] c=.ok (.int q) c) (b:-4611686018427387904≤q∧q<4611686018427387904) (hlr:(bg 0 q).length<sizeLine) (h:br (fun _=>True) (az 0) (aM (aA 3 eW (ao (ak 2) (ao (ak 1) (ao (ak 0) aq))))) (au fm (ak 1) (bZ (ao (ak 0) aq))) (bg 0 q) [none,some P,some S] [] c=.ok m c) (hk:c[k]? = some (.lst l)) (hs:l.length+m.length≤sizeLine) (hm:bD m=true) :
  (bW (ia (ak 3) (aK (aW (ao (aF aR (ao (ak 2) aq)) aq)) [none,some 4,some 0] (az 0) (aM (aA 3 eW (ao (ak 2) (ao (ak 1) (ao (ak 0) aq))))) (au fm (ak 1) (bZ (ao (ak 0) aq)))))) [some S,a1,some T,some (.ref k),some P] c=.ok (.nx [some S,a1,some T,some (.ref k),some P]) (c.set k (.lst (l++m))):=by
 have hp:cA [none,some 4,some 0] [some S,a1,some T,some (.ref k),some P]=[none,some P,some S]:=rfl
 have hv:ak 3 [some S,a1,some T,some (.ref k),some P] c=.ok (.ref k) c:=rfl
 have hr:aW (ao (aF aR (ao (ak 2) aq)) aq) [some S,a1,some T,some (.ref k),some P] c=.ok ⟨bg 0 q,fun _=>True⟩ c:=by
  simp only[gG,bT,d8,cF,gz,gs,bS,R.aD,hl]
  rw[if_pos (by omega)]
 rw[nN]
 unfold ia
 rw[hv,R.aD]
 simp only[cV,hr,R.aD]
 rw[if_pos hlr,hp,h]
 simp only[R.aD,hk]
 rw[if_pos ⟨hs,hm⟩]
 rfl
theorem EM(L:List (List Nat)):bD (L.map aQ)=true:=iy.mpr fun d hd=>by
 obtain⟨p,_,rfl⟩:=afx.mp hd
 unfold aQ
 rw[uN]
 exact mC _
theorem Ft{α:Type}:∀{l:List α}{i:Nat}{a:α},l[i]? = some a→l.set i a=l
 |[],i,a,h=>rfl
 |b::l,0,a,h=>by cases h;rfl
 |b::l,i+1,a,h=>by rw[ag4,Ft (l:=l) (i:=i) (by simpa using h)]
theorem Ig{n i kf kl:Nat}{s:Nat→Nat→Nat}{L:List D}(h8:n<8) (hi:i<n) (hne:kf≠kl):∀(ps:List (List Nat)) (v:Option D) (acc:List (List Nat)) (c:aa),(∀p∈ps,Pre n i p)→c[kf]? = some (.lst L)→c[kl]? = some (.lst (acc.map aQ))→(acc++ps.flatMap (c7 n s)).length≤900000 →
  ∃v',cU (fun c'=>c'[kf]? = some (.lst L)) (az 4) (bW (ia (ak 3) (aK (aW (ao (aF aR (ao (ak 2) aq)) aq)) [none,some 4,some 0] (az 0) (aM (aA 3 eW (ao (ak 2) (ao (ak 1) (ao (ak 0) aq))))) (au fm (ak 1) (bZ (ao (ak 0) aq)))))) (ps.map aQ) [some (aB n s),some (.ref kf),some (.tup (nD ((List.range n).map (s i)))),some (.ref kl),v] c=.ok (.nx [some (aB n s),some (.ref kf),some (.tup (nD ((List.range n).map (s i)))),some (.ref kl),v']) (c.set kl (.lst ((acc++ps.flatMap (c7 n s)).map aQ)))
 |[],v,acc,c,_,hf,hl,_=>by
  refine⟨v,?_⟩
  rw[ahj]
  unfold cU
  rw[if_pos hf,List.flatMap_nil,agU,Ft hl]
 |p::ps,v,acc,c,hp,hf,hl,hb=>by
  have Yu:900000≤sizeLine:=by decide
  have hs:=cX (n:=1000) (by decide)
  have hb1:(acc++c7 n s p).length≤900000:=by
   rw[agK,←afU,af4]at hb
   omega
  have hlen:aR [.tup (nD ((List.range n).map (s i)))] c=.ok (.int (n:Int)) c:=by rw[zS,afy,af2]
  have e1:=abT (a1:=some (.ref kf)) hlen (by omega) (by rw[fz];omega) (ZJ (s:=s) h8 (hp p (.head _)) hi c) hl (by rw[afy,afy,←af4];omega) (EM _)
  rw[←agP]at e1
  have YD:kl<c.length:=(afJ.mp hl).1
  obtain⟨v',h⟩:=Ig (L:=L) h8 hi hne ps (some (aQ p)) (acc++c7 n s p) (c.set kl (.lst ((acc++c7 n s p).map aQ))) (fun q hq=>hp q (.tail _ hq)) (by rw[agu (af8 hne)];exact hf) (by rw[agn YD]) (by rw[afU,←agK];exact hb)
  refine⟨v',?_⟩
  have g1:az 4 (aQ p) [some (aB n s),some (.ref kf),some (.tup (nD ((List.range n).map (s i)))),some (.ref kl),v] c=.ok [some (aB n s),some (.ref kf),some (.tup (nD ((List.range n).map (s i)))),some (.ref kl),some (aQ p)] c:=rfl
  rw[afC]
  conv=>lhs;unfold cU
  rw[if_pos hf,g1,R.aD,e1,R.aD]
  simp only
  rw[h,List.set_set,afU,←agK]
def C7:ah:=(bW (ia (ak 3) (aK (aW (ao (aF aR (ao (ak 2) aq)) aq)) [none,some 4,some 0] (az 0) (aM (aA 3 eW (ao (ak 2) (ao (ak 1) (ao (ak 0) aq))))) (au fm (ak 1) (bZ (ao (ak 0) aq))))))
theorem Po{S T:D}{kf:Nat}{l:List D}{e':Ev}{c1 c2:aa}{v3 v4:Option D}{c:aa}(hc:c1=c++[.lst []]) (hf:c1[kf]? = some (.lst l)) (h:cU (fun c'=>c'[kf]? = some (.lst l)) (az 4) C7 l [some S,some (.ref kf),some T,some (.ref c.length),v4] c1=.ok (.nx e') c2):(aE (aH 3 (dG aq)) (cz (bJ (ak 1)) (az 4) C7)) [some S,some (.ref kf),some T,v3,v4] c=.ok (.nx e') c2:=by
 have e1:aH 3 (dG aq) [some S,some (.ref kf),some T,v3,v4] c=.ok (.nx [some S,some (.ref kf),some T,some (.ref c.length),v4]) c1:=by
  subst hc
  simp
 have hd:bJ (ak 1) [some S,some (.ref kf),some T,some (.ref c.length),v4] c1=.ok ⟨l,fun c'=>c'[kf]? = some (.lst l)⟩ c1:=by
  simp only[L0,cF,gz,gs,R.aD,hf]
 rw[bx e1,lV,hd,R.aD]
 exact h
theorem seq_assoc(a b d:ah) (e:Ev) (c:aa):aE a (aE b d) e c=aE (aE a b) d e c:=by
 simp only[ur]
 cases a e c with
 |bad=>rfl
 |ok f c1 =>
  simp only[R.aD]
  cases f<;>rfl
structure Ek (n:Nat) (s:Nat→Nat→Nat) (c0:aa) (i:Nat) (e:Ev) (c:aa):Prop where
 env:∃kf w2 w3 w4,e=[some (aB n s),some (.ref kf),w2,w3,w4]∧c0.length≤kf∧c[kf]? = some (.lst ((bq n s i [[]]).map aQ))
 pre:c.take c0.length=c0
theorem Pk{n i:Nat}{s:Nat→Nat→Nat}{c0:aa}(h8:n<8) (hi:i<n) {e:Ev}{c:aa}(I:Ek n s c0 i e c):∃e' c',(aE (aH 3 (dG aq)) (aE (cz (bJ (ak 1)) (az 4) (bW (ia (ak 3) (aK (aW (ao (aF aR (ao (ak 2) aq)) aq)) [none,some 4,some 0] (az 0) (aM (aA 3 eW (ao (ak 2) (ao (ak 1) (ao (ak 0) aq))))) (au fm (ak 1) (bZ (ao (ak 0) aq))))))) (aH 1 (ak 3)))) (e.set 2 (some (.tup (nD ((List.range n).map (s i)))))) c=.ok (.nx e') c'∧Ek n s c0 (i+1) e' c':=by
 obtain⟨⟨kf,w2,w3,w4,rfl,h1,h2⟩,h3⟩:=I
 have hkf:kf<c.length:=(afJ.mp h2).1
 have hb:=HQ (n:=n) (show n≤7 by omega) s [] (i+1) (by omega)
 obtain⟨v',h⟩:=Ig (n:=n) (i:=i) (kf:=kf) (kl:=c.length) (s:=s) (L:=(bq n s i [[]]).map aQ) h8 hi (by omega) (bq n s i [[]]) w4 [] (c++[.lst []]) (sH i) (by rw[af7 hkf];exact h2) (by simp) (by rw[afP,←mS];exact hb)
 have e1:=Po (S:=aB n s) (v3:=w3) rfl (by rw[af7 hkf];exact h2) h
 rw[afP,←mS]at e1
 refine⟨_,(c++[Cell.lst []]).set c.length (Cell.lst ((bq n s (i+1) [[]]).map aQ)),?_,⟨⟨c.length,some (.tup (nD ((List.range n).map (s i)))),some (.ref c.length),v',rfl,by omega,by rw[agn (by simp)]⟩,?_⟩⟩
 ·show(aE (aH 3 (dG aq)) (aE (cz (bJ (ak 1)) (az 4) (bW (ia (ak 3) (aK (aW (ao (aF aR (ao (ak 2) aq)) aq)) [none,some 4,some 0] (az 0) (aM (aA 3 eW (ao (ak 2) (ao (ak 1) (ao (ak 0) aq))))) (au fm (ak 1) (bZ (ao (ak 0) aq))))))) (aH 1 (ak 3)))) [some (aB n s),some (.ref kf),some (.tup (nD ((List.range n).map (s i)))),w3,w4] c=_
  have hb:(aE (aH 3 (dG aq)) (aE (cz (bJ (ak 1)) (az 4) (bW (ia (ak 3) (aK (aW (ao (aF aR (ao (ak 2) aq)) aq)) [none,some 4,some 0] (az 0) (aM (aA 3 eW (ao (ak 2) (ao (ak 1) (ao (ak 0) aq))))) (au fm (ak 1) (bZ (ao (ak 0) aq))))))) (aH 1 (ak 3))))=aE (aH 3 (dG aq)) (aE (cz (bJ (ak 1)) (az 4) C7) (aH 1 (ak 3))):=rfl
  rw[hb,seq_assoc,bx e1]
  rfl
 ·rw[List.take_set_of_le (by omega),List.take_append_of_le_length (by omega),h3]
theorem aaK{n:Nat}{s:Nat→Nat→Nat}(hL:cg n s) (h1:1≤n) (h8:n<8) (c:aa):∃kf c2,nF (cS 5 [aB n s]) c=.ok (.rt (.ref kf)) c2∧c2[kf]? = some (.lst ((bq n s n [[]]).map aQ))∧c.length≤kf∧c2.take c.length=c:=by
 have Bu:=yG hL h1 (by omega) c
 have Bx:dW [aB n s] c=.ok .aL c:=by
  generalize aB n s=S at *
  simp[dW,lI,Bu]
 have e0:(bW (aA 1 dW (ao (ak 0) aq))) [some (aB n s),none,none,none,none] c=.ok (.nx [some (aB n s),none,none,none,none]) c:=by
  generalize aB n s=S at *
  simp[Bx]
 have e1:(aH 1 (dG (ao (bZ aq) aq))) [some (aB n s),none,none,none,none] c=.ok (.nx [some (aB n s),some (.ref c.length),none,none,none]) (c++[.lst [.tup []]]):=by
  generalize aB n s=S at *
  simp
 obtain⟨e2,c2,I2,h2⟩:=BS (g:=az 2) (s:=(aE (aH 3 (dG aq)) (aE (cz (bJ (ak 1)) (az 4) (bW (ia (ak 3) (aK (aW (ao (aF aR (ao (ak 2) aq)) aq)) [none,some 4,some 0] (az 0) (aM (aA 3 eW (ao (ak 2) (ao (ak 1) (ao (ak 0) aq))))) (au fm (ak 1) (bZ (ao (ak 0) aq))))))) (aH 1 (ak 3))))) (fun i e c'=>Ek n s c i e c') ((List.range n).map fun i=>D.tup (nD ((List.range n).map (s i)))) 0 [some (aB n s),some (.ref c.length),none,none,none] (c++[.lst [.tup []]]) ⟨⟨c.length,none,none,none,rfl,afs _,by simp[bq,aQ,nD]⟩,by simp⟩ (fun i x hx e c' I=>by
  have hi:i<n:=by have:=(afJ.mp hx).1;simpa using this
  have hx':x=D.tup (nD ((List.range n).map (s i))):=by
   rw[afS,agk hi]at hx
   exact(afN hx).symm
  subst hx'
  rw[agA]at I ⊢
  obtain⟨e',c'',h,J⟩:=Pk h8 hi I
  exact⟨_,e',c',c'',rfl,h,J⟩)
 rw[agA,afy,af2]at I2
 obtain⟨⟨kf,w2,w3,w4,rfl,g1,g2⟩,g3⟩:=I2
 have e2:(cz (b9 (ak 0)) (az 2) (aE (aH 3 (dG aq)) (aE (cz (bJ (ak 1)) (az 4) (bW (ia (ak 3) (aK (aW (ao (aF aR (ao (ak 2) aq)) aq)) [none,some 4,some 0] (az 0) (aM (aA 3 eW (ao (ak 2) (ao (ak 1) (ao (ak 0) aq))))) (au fm (ak 1) (bZ (ao (ak 0) aq))))))) (aH 1 (ak 3))))) [some (aB n s),some (.ref c.length),none,none,none] (c++[.lst [.tup []]])=.ok (.nx [some (aB n s),some (.ref kf),w2,w3,w4]) c2:=by
  rw[lV]
  exact h2
 have hb:nF=aE (bW (aA 1 dW (ao (ak 0) aq))) (aE (aH 1 (dG (ao (bZ aq) aq))) (aE (cz (b9 (ak 0)) (az 2) (aE (aH 3 (dG aq)) (aE (cz (bJ (ak 1)) (az 4) (bW (ia (ak 3) (aK (aW (ao (aF aR (ao (ak 2) aq)) aq)) [none,some 4,some 0] (az 0) (aM (aA 3 eW (ao (ak 2) (ao (ak 1) (ao (ak 0) aq))))) (au fm (ak 1) (bZ (ao (ak 0) aq))))))) (aH 1 (ak 3))))) (aP (ak 1)))):=rfl
 have es:cS 5 [aB n s]=[some (aB n s),none,none,none,none]:=rfl
 have e3:(aP (ak 1)) [some (aB n s),some (.ref kf),w2,w3,w4] c2=.ok (.rt (.ref kf)) c2:=rfl
 exact⟨kf,c2,by rw[hb,es,bx e0,bx e1,bx e2,e3],g2,g1,g3⟩
theorem C6{n:Nat}{s:Nat→Nat→Nat}(hL:cg n s) (h1:1≤n) (h8:n<8) (c:aa):fO [aB n s] c=.ok (.lst ((bq n s n [[]]).map aQ)) c:=by
 obtain⟨kf,c2,e,g2,g1,g3⟩:=aaK hL h1 h8 c
 rw[fO,eG,e]
 simp only[R.aD]
 unfold eB
 simp only[g2]
 rw[if_pos g1,if_neg (by decide),g3]
end Ev
namespace Ev
open PySem L2
theorem D5(l:List Bool) (c:aa):gg [.lst (l.map D.bl)] c=.ok (.bl (l.any id)) c:=by
 unfold gg l8
 dsimp only
 rw[DW]
def gh(p q:List Nat):Bool:=(p.zip q).any fun a=>decide (a.1=a.2)
theorem xW:∀(p q:List Nat),List.zipWith (fun x y=>D.tup [x,y]) (nD p) (nD q)=(p.zip q).map fun a=>D.tup [.int (a.1:Nat),.int (a.2:Nat)]
 |[],q=>by simp[nD]
 |a::p,[]=>by simp[nD]
 |a::p,b::q=>by
  have:=xW p q
  unfold nD at this ⊢
  simp only[afC,ajs,ajN]at this ⊢
  rw[this]
theorem ach(p q:List Nat):((p.zip q).map fun a=>decide ((a.1:Int)=(a.2:Int))).any id=gh p q:=by
 unfold gh
 rw[ajb]
 congr 1
 funext a
 show decide ((a.1:Int)=(a.2:Int))=decide (a.1=a.2)
 exact decide_eq_decide.mpr (by omega)
theorem ac7{P Q:List D}{l:List Bool}{c:aa}(hl:(List.zipWith (fun x y=>D.tup [x,y]) P Q).length<sizeLine) (h:br (fun _=>True) (eu 2 (cB (az 0) (cB (az 1) eN))) aG (au bE (ak 0) (ak 1)) (List.zipWith (fun x y=>D.tup [x,y]) P Q) [none,none] [] c=.ok (l.map D.bl) c):(aF gg (ao (aK (fh (ao (ak 0) (ao (ak 1) aq))) [none,none] (eu 2 (cB (az 0) (cB (az 1) eN))) aG (au bE (ak 0) (ak 1))) aq)) [some (.tup P),some (.tup Q)] c=.ok (.bl (l.any id)) c:=by
 have hp:cA [none,none] [some (.tup P),some (.tup Q)]=[none,none]:=rfl
 have hd:fh (ao (ak 0) (ao (ak 1) aq)) [some (.tup P),some (.tup Q)] c=.ok ⟨List.zipWith (fun x y=>D.tup [x,y]) P Q,fun _=>True⟩ c:=rfl
 simp only[d8,bT,cV,hd,bS,R.aD]
 rw[if_pos hl,hp,h]
 simp only[R.aD,D5]
theorem ac6(p q:List Nat) (c:aa):br (fun _=>True) (eu 2 (cB (az 0) (cB (az 1) eN))) aG (au bE (ak 0) (ak 1)) (List.zipWith (fun x y=>D.tup [x,y]) (nD p) (nD q)) [none,none] [] c=.ok (((p.zip q).map fun a=>decide ((a.1:Int)=(a.2:Int))).map D.bl) c:=by
 have:=zl (a:=(au bE (ak 0) (ak 1))) (c:=c) (fun a:Nat×Nat=>D.int (a.1:Nat)) (fun a=>.int (a.2:Nat)) (fun a=>.bl (decide ((a.1:Int)=(a.2:Int)))) (p.zip q) none none [] (fun a _=>by
  generalize ((a.1:Nat):Int)=x
  generalize ((a.2:Nat):Int)=y
  simp)
 rw[afP,←xW]at this
 rw[this,afY]
 rfl
theorem ac4(p q:List Nat) (hp:p.length<1000) (c:aa):fE [aQ p,aQ q] c=.ok (.bl (gh p q)) c:=by
 have hs:=cX (n:=1000) (by decide)
 have e:=ac7 (by rw[xW,afy,List.length_zip];omega) (ac6 p q c)
 rw[ach]at e
 have hb:qX=aP (aF gg (ao (aK (fh (ao (ak 0) (ao (ak 1) aq))) [none,none] (eu 2 (cB (az 0) (cB (az 1) eN))) aG (au bE (ak 0) (ak 1))) aq)):=rfl
 have es:cS 2 [aQ p,aQ q]=[some (.tup (nD p)),some (.tup (nD q))]:=rfl
 rw[fE,eG,hb,es,ir,e]
 simp
def bu(ch:List (List Nat)):D:=.lst (ch.map aQ)
def tu(ch:List (List Nat)) (cut:List Nat):Bool:=!(ch.any fun each=>gh cut each)
def fR(more:List (List Nat)) (ch:List (List Nat)):List (List (List Nat)):=(more.filter (tu ch)).map fun cut=>ch++[cut]
def fU(cu:List (List (List Nat))) (more:List (List Nat)):List (List (List Nat)):=cu.flatMap (fR more)
theorem append_at{dO da:af}{e:Ev}{c:aa}{acc:List D}{y:D}(ho:dO e (c++[.lst acc])=.ok (.ref c.length) (c++[.lst acc])) (ha:da e (c++[.lst acc])=.ok y (c++[.lst acc])) (hy:noRef y=true) (hl:acc.length<sizeLine) :
  fk dO da e (c++[.lst acc])=.ok .aL (c++[.lst (acc++[y])]):=by
 unfold fk
 rw[ho,R.aD]
 dsimp only
 rw[ha,R.aD]
 have:(c++[Cell.lst acc])[c.length]? = some (.lst acc):=by simp
 rw[this]
 dsimp only
 rw[if_pos ⟨hl,hy⟩]
 simp
theorem Mg{P Q:D}{b:Bool}{c:aa}(h:fE [P,Q] c=.ok (.bl b) c):(aA 2 fE (ao (ak 1) (ao (ak 0) aq))) [some Q,some P] c=.ok (.bl b) c:=by simp[h]
theorem Mh{A0 A1 P:D}{l:List D}{bs:List Bool}{acc:List D}{c:aa}(hl:l.length<1000) (h:br (fun _=>True) (az 0) aG (aA 2 fE (ao (ak 1) (ao (ak 0) aq))) l [none,some P] [] (c++[.lst acc])=.ok (bs.map D.bl) (c++[.lst acc])) (hb:bs.any id=false) (hn:noRef P=true) (hn2:bD l=true) (ha:acc.length<sizeLine):(bw (bR (aM (aF gg (ao (aK (bJ (ak 3)) [none,some 4] (az 0) aG (aA 2 fE (ao (ak 1) (ao (ak 0) aq)))) aq)))) (bW (fk (ak 2) (au gA (ak 3) (b6 (ao (ak 4) aq))))) bz) [some A0,some A1,some (.ref c.length),some (.lst l),some P] (c++[.lst acc])=.ok (.nx [some A0,some A1,some (.ref c.length),some (.lst l),some P]) (c++[.lst (acc++[.lst (l++[P])])]):=by
 have hs:=cX (n:=1000) (by decide)
 have hp:cA [none,some 4] [some A0,some A1,some (.ref c.length),some (.lst l),some P]=[none,some P]:=rfl
 have hd:bJ (ak 3) [some A0,some A1,some (.ref c.length),some (.lst l),some P] (c++[.lst acc])=.ok ⟨l,fun _=>True⟩ (c++[.lst acc]):=rfl
 have YU:(au gA (ak 3) (b6 (ao (ak 4) aq))) [some A0,some A1,some (.ref c.length),some (.lst l),some P] (c++[.lst acc])=.ok (.lst (l++[P])) (c++[.lst acc]):=by
  have:l.length+1≤sizeLine:=by omega
  simp[gA,dX,this]
 have hap:=append_at (c:=c) (acc:=acc) (dO:=ak 2) (e:=[some A0,some A1,some (.ref c.length),some (.lst l),some P]) (by rfl) YU (by rw[FY,sd,hn2];simp[hn]) ha
 simp only[gH,rB,jh,d8,bT,cV,hd,bS,R.aD]
 rw[if_pos (by omega),hp,h]
 simp only[R.aD,D5,hb,ahb,if_pos,nN,hap]
theorem Mi{A0 A1 P:D}{l:List D}{bs:List Bool}{k:Nat}{c:aa}(hl:l.length<1000) (h:br (fun _=>True) (az 0) aG (aA 2 fE (ao (ak 1) (ao (ak 0) aq))) l [none,some P] [] c=.ok (bs.map D.bl) c) (hb:bs.any id=true):(bw (bR (aM (aF gg (ao (aK (bJ (ak 3)) [none,some 4] (az 0) aG (aA 2 fE (ao (ak 1) (ao (ak 0) aq)))) aq)))) (bW (fk (ak 2) (au gA (ak 3) (b6 (ao (ak 4) aq))))) bz) [some A0,some A1,some (.ref k),some (.lst l),some P] c=.ok (.nx [some A0,some A1,some (.ref k),some (.lst l),some P]) c:=by
 have hs:=cX (n:=1000) (by decide)
 have hp:cA [none,some 4] [some A0,some A1,some (.ref k),some (.lst l),some P]=[none,some P]:=rfl
 have hd:bJ (ak 3) [some A0,some A1,some (.ref k),some (.lst l),some P] c=.ok ⟨l,fun _=>True⟩ c:=rfl
 simp only[gH,rB,jh,d8,bT,cV,hd,bS,R.aD]
 rw[if_pos (by omega),hp,h]
 simp only[R.aD,D5,hb]
 simp
theorem Mj(ch:List (List Nat)) (cut:List Nat) (hc:cut.length<1000) (c:aa):br (fun _=>True) (az 0) aG (aA 2 fE (ao (ak 1) (ao (ak 0) aq))) (ch.map aQ) [none,some (aQ cut)] [] c=.ok ((ch.map fun each=>gh cut each).map D.bl) c:=by
 have:=kT (E:=[some (aQ cut)]) (a:=(aA 2 fE (ao (ak 1) (ao (ak 0) aq)))) (c:=c) aQ (fun each=>.bl (gh cut each)) ch none [] (fun each _=>Mg (ac4 cut each hc c))
 rw[this,afP,afY]
 rfl
theorem EN(p:List Nat):noRef (aQ p)=true:=by
 unfold aQ
 rw[uN]
 exact mC _
theorem yv{A0 A1:D}{ch:List (List Nat)}(hch:ch.length<1000) (c:aa):∀(ms:List (List Nat)) (acc:List (List (List Nat))) (v:Option D),(∀m∈ms,m.length<1000)→(acc++fR ms ch).length≤8000000 →
  ∃v',cU (fun _=>True) (az 4) (bw (bR (aM (aF gg (ao (aK (bJ (ak 3)) [none,some 4] (az 0) aG (aA 2 fE (ao (ak 1) (ao (ak 0) aq)))) aq)))) (bW (fk (ak 2) (au gA (ak 3) (b6 (ao (ak 4) aq))))) bz) (ms.map aQ) [some A0,some A1,some (.ref c.length),some (bu ch),v] (c++[.lst (acc.map bu)])=.ok (.nx [some A0,some A1,some (.ref c.length),some (bu ch),v']) (c++[.lst ((acc++fR ms ch).map bu)])
 |[],acc,v,_,_=>⟨v,by simp[fR]⟩
 |m::ms,acc,v,hm,hb=>by
  have hs8:8000000<sizeLine:=by decide
  have g1:az 4 (aQ m) [some A0,some A1,some (.ref c.length),some (bu ch),v] (c++[.lst (acc.map bu)])=.ok [some A0,some A1,some (.ref c.length),some (bu ch),some (aQ m)] (c++[.lst (acc.map bu)]):=rfl
  have hc:=Mj ch m (hm m (.head _)) (c++[.lst (acc.map bu)])
  have hany:(ch.map fun each=>gh m each).any id=ch.any fun each=>gh m each:=by rw[ajb];rfl
  cases hf:tu ch m with
  |true =>
   have hx:(ch.any fun each=>gh m each)=false:=by unfold tu at hf;simpa using hf
   have e1:=Mh (A0:=A0) (A1:=A1) (by rw[afy];exact hch) hc (by rw[hany,hx]) (EN m) (EM ch) (by
    rw[af4]at hb
    rw[afy]
    omega)
   have e2:fR (m::ms) ch=(ch++[m])::fR ms ch:=by unfold fR;rw[ajT hf,afC]
   obtain⟨v',h⟩:=yv (A0:=A0) (A1:=A1) hch c ms (acc++[ch++[m]]) (some (aQ m)) (fun z hz=>hm z (.tail _ hz)) (by rw[afU];rw[e2]at hb;exact hb)
   refine⟨v',?_⟩
   have tH:(bw (bR (aM (aF gg (ao (aK (bJ (ak 3)) [none,some 4] (az 0) aG (aA 2 fE (ao (ak 1) (ao (ak 0) aq)))) aq)))) (bW (fk (ak 2) (au gA (ak 3) (b6 (ao (ak 4) aq))))) bz) [some A0,some A1,some (.ref c.length),some (bu ch),some (aQ m)] (c++[.lst (acc.map bu)])=.ok (.nx [some A0,some A1,some (.ref c.length),some (bu ch),some (aQ m)]) (c++[.lst ((acc++[ch++[m]]).map bu)]):=by
    rw[agP,afC,ahj]
    show _=R.ok _ (c++[.lst (acc.map bu++[.lst ((ch++[m]).map aQ)])])
    rw[agP]
    exact e1
   rw[afC,jy,g1,R.aD,tH,R.aD,e2]
   simp only
   rw[h,afU]
   rfl
  |false =>
   have hx:(ch.any fun each=>gh m each)=true:=by unfold tu at hf;simpa using hf
   have e1:=Mi (A0:=A0) (A1:=A1) (k:=c.length) (by rw[afy];exact hch) hc (by rw[hany,hx])
   have e2:fR (m::ms) ch=fR ms ch:=by unfold fR;rw[ajU (by simp[hf])]
   obtain⟨v',h⟩:=yv (A0:=A0) (A1:=A1) hch c ms acc (some (aQ m)) (fun z hz=>hm z (.tail _ hz)) (by rw[e2]at hb;exact hb)
   refine⟨v',?_⟩
   have tH:(bw (bR (aM (aF gg (ao (aK (bJ (ak 3)) [none,some 4] (az 0) aG (aA 2 fE (ao (ak 1) (ao (ak 0) aq)))) aq)))) (bW (fk (ak 2) (au gA (ak 3) (b6 (ao (ak 4) aq))))) bz) [some A0,some A1,some (.ref c.length),some (bu ch),some (aQ m)] (c++[.lst (acc.map bu)])=.ok (.nx [some A0,some A1,some (.ref c.length),some (bu ch),some (aQ m)]) (c++[.lst (acc.map bu)]):=e1
   rw[afC,jy,g1,R.aD,tH,R.aD,e2]
   exact h
def rC:ah:=(bw (bR (aM (aF gg (ao (aK (bJ (ak 3)) [none,some 4] (az 0) aG (aA 2 fE (ao (ak 1) (ao (ak 0) aq)))) aq)))) (bW (fk (ak 2) (au gA (ak 3) (b6 (ao (ak 4) aq))))) bz)
theorem Mf{A0 T:D}{ms:List D}{k:Nat}{v:Option D}{e':Ev}{c c':aa}(h:cU (fun _=>True) (az 4) rC ms [some A0,some (.lst ms),some (.ref k),some T,v] c=.ok (.nx e') c'):cz (bJ (ak 1)) (az 4) rC [some A0,some (.lst ms),some (.ref k),some T,v] c=.ok (.nx e') c':=by
 rw[lV]
 exact h
theorem Ey{A0:D}{ms:List (List Nat)}(hm:∀m∈ms,m.length<1000) (c:aa):∀(cu:List (List (List Nat))) (acc:List (List (List Nat))) (v3 v4:Option D),(∀ch∈cu,ch.length<1000)→(acc++fU cu ms).length≤8000000 →
  ∃w3 w4,cU (fun _=>True) (az 3) (cz (bJ (ak 1)) (az 4) rC) (cu.map bu) [some A0,some (.lst (ms.map aQ)),some (.ref c.length),v3,v4] (c++[.lst (acc.map bu)])=.ok (.nx [some A0,some (.lst (ms.map aQ)),some (.ref c.length),w3,w4]) (c++[.lst ((acc++fU cu ms).map bu)])
 |[],acc,v3,v4,_,_=>⟨v3,v4,by simp[fU]⟩
 |ch::cu,acc,v3,v4,hc,hb=>by
  have e2:fU (ch::cu) ms=fR ms ch++fU cu ms:=rfl
  have g1:az 3 (bu ch) [some A0,some (.lst (ms.map aQ)),some (.ref c.length),v3,v4] (c++[.lst (acc.map bu)])=.ok [some A0,some (.lst (ms.map aQ)),some (.ref c.length),some (bu ch),v4] (c++[.lst (acc.map bu)]):=rfl
  obtain⟨v',h1⟩:=yv (A0:=A0) (A1:=.lst (ms.map aQ)) (hc ch (.head _)) c ms acc v4 hm (by
   rw[e2,←afU,af4]at hb
   omega)
  have e1:=Mf (T:=bu ch) h1
  obtain⟨w3,w4,h⟩:=Ey (A0:=A0) hm c cu (acc++fR ms ch) (some (bu ch)) v' (fun z hz=>hc z (.tail _ hz)) (by rw[e2]at hb;rw[afU];exact hb)
  refine⟨w3,w4,?_⟩
  rw[afC,jy,g1,R.aD,e1,R.aD,e2]
  simp only
  rw[h,afU]
theorem Wh{cu:List (List (List Nat))}{ms:List (List Nat)}(hm:∀m∈ms,m.length<1000) (hc:∀ch∈cu,ch.length<1000) (hb:(fU cu ms).length≤8000000) (c:aa):iW [.lst (cu.map bu),.lst (ms.map aQ)] c=.ok (.lst ((fU cu ms).map bu)) c:=by
 obtain⟨w3,w4,h⟩:=Ey (A0:=.lst (cu.map bu)) hm c cu [] none none hc (by rw[afP];exact hb)
 rw[afP,ahj]at h
 have hbd:qE=aE (aH 2 (dG aq)) (aE (cz (bJ (ak 0)) (az 3) (cz (bJ (ak 1)) (az 4) rC)) (aP (ak 2))):=rfl
 have es:cS 5 [D.lst (cu.map bu),.lst (ms.map aQ)]=[some (.lst (cu.map bu)),some (.lst (ms.map aQ)),none,none,none]:=rfl
 have e0:(aH 2 (dG aq)) [some (.lst (cu.map bu)),some (.lst (ms.map aQ)),none,none,none] c=.ok (.nx [some (.lst (cu.map bu)),some (.lst (ms.map aQ)),some (.ref c.length),none,none]) (c++[.lst []]):=by
  generalize cu.map bu=A
  generalize ms.map aQ=B
  simp
 have e1:cz (bJ (ak 0)) (az 3) (cz (bJ (ak 1)) (az 4) rC) [some (.lst (cu.map bu)),some (.lst (ms.map aQ)),some (.ref c.length),none,none] (c++[.lst []])=.ok (.nx [some (.lst (cu.map bu)),some (.lst (ms.map aQ)),some (.ref c.length),w3,w4]) (c++[.lst ((fU cu ms).map bu)]):=by
  rw[lV]
  exact h
 have e2:(aP (ak 2)) [some (.lst (cu.map bu)),some (.lst (ms.map aQ)),some (.ref c.length),w3,w4] (c++[.lst ((fU cu ms).map bu)])=.ok (.rt (.ref c.length)) (c++[.lst ((fU cu ms).map bu)]):=rfl
 rw[iW,eG,hbd,es,bx e0,bx e1,e2]
 simp only[R.aD]
 unfold eB
 have:(c++[Cell.lst ((fU cu ms).map bu)])[c.length]? = some (.lst ((fU cu ms).map bu)):=by simp
 simp only[this]
 rw[if_pos (afs _),if_neg (by decide),List.take_left]
end Ev
namespace Ev
open PySem L2
theorem r8{α:Type}{n:Nat}{f:Nat→α}(h:∀i j,i<n→j<n→f i=f j→i=j):((List.range n).map f).Nodup:=by
 unfold List.Nodup
 rw[ag9]
 refine ajV (R:=(· < ·)) (fun{a b} ha hb hab e=>?_) aiP
 have:=h a b (aft.mp ha) (aft.mp hb) e
 omega
theorem getD_mem{α:Type}{l:List α}{i:Nat}{d:α}(h:i<l.length):l.getD i d∈l:=by
 rw[afu,afz h]
 exact afX h
theorem getD_inj{l:List Nat}{i j:Nat}(hn:l.Nodup) (hi:i<l.length) (hj:j<l.length) (e:l.getD i 0=l.getD j 0):i=j:=by
 rw[afu,afu,afz hi,afz hj]at e
 exact(ahF hn).mp e
def Good(s:Nat→Nat→Nat) (p:List Nat):Prop:=p.Nodup∧(sgn s p).Nodup
theorem GV{l:List Nat}{k:Nat}(h:l.Nodup) (hk:k∉l):(l++[k]).Nodup:=by
 rw[ag5]
 refine⟨h,by simp,fun a ha b hb e=>?_⟩
 rw[af1]at hb
 exact hk (hb▸e▸ha)
theorem Jk{n:Nat}{s:Nat→Nat→Nat}{p q:List Nat}(hp:Good s p) (h:q∈c7 n s p):Good s q:=by
 unfold c7 at h
 obtain⟨k,hk,rfl⟩:=afx.mp h
 have ho:=(agg.mp hk).2
 unfold jl at ho
 simp only[afE,ahe,decide_eq_false_iff_not]at ho
 exact⟨GV hp.1 ho.1,by rw[Ov];exact GV hp.2 ho.2⟩
theorem HU{n:Nat}{s:Nat→Nat→Nat}:∀k,∀p∈bq n s k [[]],Good s p
 |0,p,h=>by
  have:p=[]:=af1.mp h
  subst this
  exact⟨.nil,.nil⟩
 |k+1,p,h=>by
  rw[mS]at h
  obtain⟨q,hq,hp⟩:=ahC.mp h
  exact Jk (HU k q hq) hp
theorem Jg{α β:Type}(f:α→List β) (n:Nat):∀l:List α,(∀a∈l,(f a).length≤n)→(l.flatMap f).length≤l.length*n
 |[],_=>by simp
 |a::l,h=>by
  have h1:=h a (.head _)
  have h2:=Jg f n l (fun z hz=>h z (.tail _ hz))
  rw[agK,af4,afO,ait]
  omega
def vN:Nat→Nat→Nat
 |_,0=>1
 |m,d+1=>m*vN (m-1) d
theorem ZI{n:Nat}{s:Nat→Nat→Nat}{p:List Nat}(hp:p.Nodup) (hx:∀x∈p,x<n):(c7 n s p).length≤n-p.length:=by
 have h1:(c7 n s p).length=((List.range n).filter (jl s p)).length:=by unfold c7;rw[afy]
 have hnd:(((List.range n).filter (jl s p))++p).Nodup:=by
  rw[ag5]
  refine⟨ahB.sublist ajW,hp,fun a ha b hb e=>?_⟩
  have ho:=(agg.mp ha).2
  unfold jl at ho
  simp only[afE,ahe,decide_eq_false_iff_not]at ho
  exact ho.1 (e▸hb)
 have:=vo hnd (m:=List.range n) (fun x hx'=>by
  rcases af3.mp hx' with hx'|hx'
  ·exact(agg.mp hx').1
  ·exact aft.mpr (hx x hx'))
 rw[af4,af2]at this
 omega
theorem HV{n:Nat}{s:Nat→Nat→Nat}:∀(d:Nat) (p:List Nat),Good s p→(∀x∈p,x<n)→(bq n s d [p]).length≤vN (n-p.length) d
 |0,p,_,_=>by simp[bq,vN]
 |d+1,p,hp,hx=>by
  show(bq n s d ([p].flatMap (c7 n s))).length≤_
  rw[ajX,vC]
  have h1:=Jg (fun q=>bq n s d [q]) (vN (n-p.length-1) d) (c7 n s p) (fun q hq=>by
   obtain⟨k,hk,e⟩:=ext_mem hq
   have:=HV d q (Jk hp hq) (fun x hx'=>by
    rw[e]at hx'
    rcases af3.mp hx' with hx'|hx'
    ·exact hx x hx'
    ·rw[af1.mp hx'];exact hk)
   rw[e,af4,ahM]at this
   rw[show n-p.length-1=n-(p.length+1) by omega]
   rw[e]
   exact this)
  exact afL h1 (ajY _ (ZI hp.1 hx))
def mE(n:Nat) (s:Nat→Nat→Nat) (i:Nat):List (List Nat):=(bq n s n [[]]).filter fun p=>decide (p.getD 0 0=i)
theorem IJ{n:Nat}{s:Nat→Nat→Nat}{k:Nat}:∀d,∀q∈bq n s d [[k]],q.head? = some k
 |0,q,h=>by rw[af1.mp h];rfl
 |d+1,q,h=>by
  rw[mS]at h
  obtain⟨p,hp,hq⟩:=ahC.mp h
  obtain⟨x,_,rfl⟩:=ext_mem hq
  have:=IJ d p hp
  cases p with
  |nil=>cases this
  |cons a l=>exact this
theorem GS{α:Type}{i B:Nat}{f:Nat→List α}:∀l:List Nat,(∀k∈l,k≠i→f k=[])→(∀k∈l,(f k).length≤B)→l.Nodup→(l.flatMap f).length≤B
 |[],_,_,_=>by simp
 |a::l,h,hB,hn=>by
  rw[agE]at hn
  rw[agK,af4]
  by_cases ha:a=i
  ·have:l.flatMap f=[]:=List.flatMap_eq_nil_iff.mpr fun k hk=>h k (.tail _ hk) (fun e=>hn.1 (by rw[ha,←e];exact hk))
   rw[this]
   simpa using hB a (.head _)
  ·rw[h a (.head _) ha]
   have:=GS l (fun k hk=>h k (.tail _ hk)) (fun k hk=>hB k (.tail _ hk)) hn.2
   simpa using this
theorem Wi{n:Nat}{s:Nat→Nat→Nat}(h1:1≤n) (h5:n≤5) (i:Nat):(mE n s i).length≤24:=by
 have e:bq n s n [[]]=((List.range n).filter (jl s [])).flatMap fun k=>bq n s (n-1) [[k]]:=by
  obtain⟨m,rfl⟩:∃m,n=m+1:=⟨n-1,by omega⟩
  show bq (m+1) s m ([[]].flatMap (c7 (m+1) s))=_
  rw[ajX,vC]
  unfold c7
  rw[List.flatMap_map]
  rfl
 have hk:∀k,k<n→(bq n s (n-1) [[k]]).length≤24:=fun k hk=>by
  have:=HV (n:=n) (s:=s) (n-1) [k] ⟨by simp,by simp[sgn,ahs]⟩ (fun x hx=>by rw[af1.mp hx];exact hk)
  refine afL this ?_
  rw[ahM]
  have:n=1∨n=2∨n=3∨n=4∨n=5:=by omega
  rcases this with rfl|rfl|rfl|rfl|rfl<;>decide
 unfold mE
 rw[e,List.filter_flatMap]
 refine GS (i:=i) _ (fun k hk' hne=>?_) (fun k hk'=>?_) (ahB.sublist ajW)
 ·refine List.filter_eq_nil_iff.mpr fun q hq=>?_
  have:=IJ (n-1) q hq
  cases q with
  |nil=>cases this
  |cons a l =>
   have:a=k:=afN this
   simp[this,hne]
 ·exact afL (aja _ _) (hk k (aft.mp (agg.mp hk').1))
def lY(n:Nat) (s:Nat→Nat→Nat) (ch:List (List Nat)):List (List (List Nat)):=fR (mE n s ch.length) ch
def fF(n:Nat) (s:Nat→Nat→Nat):Nat→List (List (List Nat))→List (List (List Nat))
 |0,L=>L
 |k+1,L=>fF n s k (L.flatMap (lY n s))
theorem Bm{n:Nat}{s:Nat→Nat→Nat}(k:Nat) (L:List (List (List Nat))):fF n s (k+1) L=(fF n s k L).flatMap (lY n s):=by
 induction k generalizing L with
 |zero=>rfl
 |succ k ih=>exact ih _
structure iJ (n:Nat) (s:Nat→Nat→Nat) (k:Nat) (ch:List (List Nat)):Prop where
 len:ch.length=k
 mem:∀i,i<k→ch.getD i []∈mE n s i
 pw:ch.Pairwise fun a b=>gh b a=false
theorem Nt{n k:Nat}{s:Nat→Nat→Nat}{ch ch':List (List Nat)}(h:iJ n s k ch) (hm:ch'∈lY n s ch):iJ n s (k+1) ch':=by
 unfold lY fR at hm
 obtain⟨cut,hc,rfl⟩:=afx.mp hm
 obtain⟨h1,h2⟩:=agg.mp hc
 have hf:∀each∈ch,gh cut each=false:=fun each he=>by
  unfold tu at h2
  simp only[ahe,aid]at h2
  simpa using h2 each he
 refine⟨by simp[h.len],fun i hi=>?_,?_⟩
 ·by_cases hk:i<k
  ·rw[afu,af7 (by rw[h.len];exact hk),←afu]
   exact h.mem i hk
  ·have:i=k:=by omega
   subst this
   rw[afu,ago (by rw[h.len];exact afs _),h.len,ag6]
   rw[h.len]at h1
   exact h1
 ·rw[ajv]
  exact⟨h.pw,by simp,fun a ha b hb=>by rw[af1.mp hb];exact hf a ha⟩
theorem sG{n:Nat}{s:Nat→Nat→Nat}:∀k,∀ch∈fF n s k [[]],iJ n s k ch
 |0,ch,h=>by
  have:ch=[]:=af1.mp h
  subst this
  exact⟨rfl,fun i hi=>absurd hi (ahq _),.nil⟩
 |k+1,ch,h=>by
  rw[Bm]at h
  obtain⟨q,hq,hp⟩:=ahC.mp h
  exact Nt (sG k q hq) hp
theorem HP{n:Nat}(h1:1≤n) (h5:n≤5) (s:Nat→Nat→Nat):∀k,(fF n s k [[]]).length≤24^k
 |0=>by simp[fF]
 |k+1=>by
  rw[Bm,Nat.pow_succ]
  have g1:=BV (lY n s) 24 (fun ch=>by
   unfold lY fR
   rw[afy]
   exact afL (aja _ _) (Wi h1 h5 _)) (fF n s k [[]])
  have g2:=HP h1 h5 s k
  omega
theorem XT{n:Nat}(h1:1≤n) (h5:n≤5) (s:Nat→Nat→Nat) (k:Nat) (hk:k≤5):(fF n s k [[]]).length≤8000000 :=
 afL (HP h1 h5 s k) (afL (ajS (by decide) hk) (by decide))
theorem Ex{n k:Nat}{s:Nat→Nat→Nat}:fU (fF n s k [[]]) (mE n s k)=fF n s (k+1) [[]]:=by
 rw[Bm]
 unfold fU
 have hl:=fun ch h=>(sG (n:=n) (s:=s) k ch h).len
 generalize fF n s k [[]]=L at hl ⊢
 induction L with
 |nil=>rfl
 |cons a L ih =>
  rw[agK,agK,ih (fun ch h=>hl ch (.tail _ h))]
  unfold lY
  rw[hl a (.head _)]
theorem ac5{p q:List Nat}{n x:Nat}(hp:p.length=n) (hq:q.length=n) (h:gh p q=false) (hx:x<n):p.getD x 0≠q.getD x 0:=by
 unfold gh at h
 rw[aid]at h
 have hm:(p[x]'(by omega),q[x]'(by omega))∈p.zip q:=by
  have:(p.zip q)[x]? = some (p[x]'(by omega),q[x]'(by omega)):=by
   rw[aix]
   exact⟨afz _,afz _⟩
  exact afT this
 have:=h _ hm
 rw[afu,afu,afz (by omega),afz (by omega)]
 simpa using this
def eZ(ch:List (List Nat)) (x:Nat):List Nat:=ch.map fun p=>p.getD x 0
def dI(l:List Nat) (y:Nat):Nat:=(l.findIdx? fun z=>z==y).getD 0
theorem Bl{l:List Nat}{y:Nat}(h:y∈l):(l.findIdx? fun z=>z==y)=some (dI l y)∧dI l y<l.length∧l.getD (dI l y) 0=y:=by
 unfold dI
 cases e:l.findIdx? fun z=>z==y with
 |none =>
  have:=ajB.mp e y h
  simp at this
 |some j =>
  obtain⟨hj,h1,_⟩:=aiS.mp e
  refine⟨rfl,hj,?_⟩
  show l.getD j 0=y
  rw[afu,afz hj]
  simpa using h1
section
variable {n:Nat}{s:Nat→Nat→Nat}{ch:List (List Nat)}(C:iJ n s n ch)
include C
theorem iJ.cut{i:Nat}(hi:i<n):Pre n n (ch.getD i [])∧Good s (ch.getD i []):=by
 have:=(agg.mp (C.mem i hi)).1
 exact⟨sH n _ this,HU n _ this⟩
theorem iJ.all{p:List Nat}(h:p∈ch):Pre n n p∧Good s p:=by
 obtain⟨i,hi,e⟩:=ahm.mp h
 have:=C.cut (i:=i) (by rw[←C.len];exact hi)
 rw[afu,afz hi]at this
 rw[←e]
 exact this
theorem iJ.col{x:Nat}(hx:x<n):(eZ ch x).Perm (List.range n):=by
 refine kL ?_ (fun y hy=>?_) (by unfold eZ;rw[afy,af2,C.len])
 ·unfold eZ List.Nodup
  rw[ag9]
  refine ajV (fun{a b} ha hb h=>?_) C.pw
  have:=ac5 (C.all hb).1.1 (C.all ha).1.1 h hx
  exact af8 this
 ·unfold eZ at hy
  obtain⟨p,hp,rfl⟩:=afx.mp hy
  have h1:=(C.all hp).1
  exact aft.mpr (h1.2 _ (getD_mem (by rw[h1.1];exact hx)))
def tS(ch:List (List Nat)) (x y:Nat):Nat:=dI (eZ ch x) y
theorem iJ.at{x y:Nat}(hx:x<n) (hy:y<n):tS ch x y<n∧(ch.getD (tS ch x y) []).getD x 0=y:=by
 have hm:y∈eZ ch x:=(C.col hx).mem_iff.mpr (aft.mpr hy)
 obtain⟨_,h2,h3⟩:=Bl hm
 have hl:(eZ ch x).length=n:=by unfold eZ;rw[afy,C.len]
 have h2':dI (eZ ch x) y<ch.length:=by rw[C.len];omega
 refine⟨by unfold tS;omega,?_⟩
 unfold eZ at h3
 rw[afu,afS]at h3
 unfold tS
 rw[afu]
 have e:ch[dI (eZ ch x) y]? = some ch[dI (eZ ch x) y]:=afz h2'
 show(ch[dI (eZ ch x) y]?.getD []).getD x 0=y
 rw[e]
 have h3':((ch[dI (eZ ch x) y]?).map fun p=>p.getD x 0).getD 0=y:=h3
 rw[e]at h3'
 exact h3'
theorem iJ.WG:cg n (tS ch):=by
 refine⟨fun x hx=>kL (r8 fun y y' hy hy' e=>?_) (fun z hz=>?_) (by simp),fun y hy=>kL (r8 fun x x' hx hx' e=>?_) (fun z hz=>?_) (by simp)⟩
 ·rw[←(C.at hx hy).2,e,(C.at hx hy').2]
 ·obtain⟨y,hy,rfl⟩:=afx.mp hz
  exact aft.mpr (C.at hx (aft.mp hy)).1
 ·have h1:=C.at hx hy
  have h2:=C.at hx' hy
  have hc:=C.cut h1.1
  rw[←e]at h2
  exact getD_inj hc.2.1 (by rw[hc.1.1];exact hx) (by rw[hc.1.1];exact hx') (by rw[h1.2,h2.2])
 ·obtain⟨x,hx,rfl⟩:=afx.mp hz
  exact aft.mpr (C.at (aft.mp hx) hy).1
theorem iJ.adh{x y x' y':Nat}(hx:x<n) (hy:y<n) (hx':x'<n) (hy':y'<n) (e1:s x y=s x' y') (e2:tS ch x y=tS ch x' y'):x=x'∧y=y':=by
 have h1:=C.at hx hy
 have h2:=C.at hx' hy'
 rw[←e2]at h2
 have hc:=C.cut h1.1
 generalize ch.getD (tS ch x y) []=p at h1 h2 hc
 have hl:p.length=n:=hc.1.1
 have sg:∀z,z<n→(sgn s p).getD z 0=s z (p.getD z 0):=fun z hz=>by
  unfold sgn
  rw[afu,afS,agk (by omega)]
  rfl
 have hsl:(sgn s p).length=n:=by unfold sgn;rw[afy,af2,hl]
 have hxx:x=x':=getD_inj hc.2.2 (by omega) (by omega) (by rw[sg x hx,sg x' hx',h1.2,h2.2,e1])
 subst hxx
 exact⟨rfl,by rw[←h1.2,h2.2]⟩
end
end Ev
namespace Ev
open PySem L2
theorem EO{p:List Nat}{x:Nat}(h:x<p.length) (c:aa):aJ (aQ p) (.int (x:Int)) c=.ok (.int (p.getD x 0:Nat)) c:=Gf h c
theorem abE{r:D}{k v:Int}{c:aa}(h:aJ r (.int k) c=.ok (.int v) c):(au aJ (ak 0) (ak 1)) [some r,some (.int k)] c=.ok (.int v) c:=by
 simp only[gI,cF,gz,gs,R.aD,h]
theorem abC{ch:List (List Nat)}{n x:Nat}(hch:∀p∈ch,p.length=n) (hl:ch.length<1000) (hx:x<n) (c:aa):eK [bu ch,.int (x:Int)] c=.ok (.tup (nD (eZ ch x))) c:=by
 have hs:=cX (n:=1000) (by decide)
 have hc:=kT (E:=[some (.int (x:Int))]) (a:=(au aJ (ak 0) (ak 1))) (c:=c) aQ (fun p=>D.int (p.getD x 0:Nat)) ch none [] (fun p hp=>abE (EO (by rw[hch p hp];exact hx) c))
 have hm:(ch.map fun p=>D.int (p.getD x 0:Nat))=nD (eZ ch x):=by rw[iV];unfold eZ;rw[afY];rfl
 rw[afP,hm]at hc
 have e:(aP (aF bH (ao (aK (i9 (ak 0)) [none,some 1] (az 0) aG (au aJ (ak 0) (ak 1))) aq))) [some (bu ch),some (.int (x:Int))] c=.ok (.rt (.tup (nD (eZ ch x)))) c:=by
  have hp:cA [none,some 1] [some (bu ch),some (.int (x:Int))]=[none,some (.int (x:Int))]:=rfl
  have hd:i9 (ak 0) [some (bu ch),some (.int (x:Int))] c=.ok ⟨ch.map aQ,fun _=>True⟩ c:=rfl
  simp only[ir,d8,bT,cV,hd,bS,R.aD]
  rw[if_pos (by rw[afy];omega),hp,hc]
  rfl
 have hb:nG=(aP (aF bH (ao (aK (i9 (ak 0)) [none,some 1] (az 0) aG (au aJ (ak 0) (ak 1))) aq))):=rfl
 rw[eK,eG,hb]
 have es:cS 2 [bu ch,.int (x:Int)]=[some (bu ch),some (.int (x:Int))]:=rfl
 rw[es,e]
 simp only[R.aD]
 rw[jk,if_pos (mC _),agC]
theorem Nk{ns:List Int}{k:Int}{j:Nat}{c:aa}(h:ns.findIdx? (fun i=>i==k)=some j):(gx (ak 1) (ak 0)) [some (.int k),some (.tup (ns.map D.int))] c=.ok (.int (j:Nat)) c:=by
 have hi:=Bp ns
 generalize ns.map D.int=l at *
 unfold gx
 simp only[cF,gz,gs,R.aD,hi,h]
theorem Jh(l:List Nat) (y:Nat):((l.map fun k:Nat=>(k:Int)).findIdx? fun i=>i==(y:Int))=l.findIdx? fun z=>z==y:=by
 rw[List.findIdx?_map]
 congr 1
 funext z
 show((z:Int)==(y:Int))=(z==y)
 rw[agD,beq_iff_eq,beq_iff_eq]
 omega
theorem Nl{T:D}{q:Int}{l:List D}{c:aa}(hT:aR [T] c=.ok (.int q) c) (b:-4611686018427387904≤q∧q<4611686018427387904) (hl:(bg 0 q).length<sizeLine) (h:br (fun _=>True) (az 0) aG (gx (ak 1) (ak 0)) (bg 0 q) [none,some T] [] c=.ok l c):(aP (aF bH (ao (aK (aW (ao (aF aR (ao (ak 0) aq)) aq)) [none,some 0] (az 0) aG (gx (ak 1) (ak 0))) aq))) [some T] c=.ok (.rt (.tup l)) c:=by
 have hp:cA [none,some 0] [some T]=[none,some T]:=rfl
 simp only[ir,d8,bT,cV,gG,cF,gz,bS,R.aD,hT]
 rw[if_pos (by omega)]
 simp only[R.aD]
 rw[if_pos hl,hp,h]
 rfl
theorem Ot{l:List Nat}{n:Nat}(hl:l.Perm (List.range n)) (hn:n<8) (c:aa):iX [.tup (nD l)] c=.ok (.tup (nD ((List.range n).map (dI l)))) c:=by
 have hs:=cX (n:=1000) (by decide)
 have hc:=kJ (E:=[some (.tup (nD l))]) (a:=(gx (ak 1) (ak 0))) (n:=n) (c:=c) (fun y=>.int (dI l y:Nat)) (fun y hy=>by
  have:=(Bl (hl.mem_iff.mpr (aft.mpr hy))).1
  rw[←Jh]at this
  rw[pY]
  exact Nk this)
 have hm:((List.range n).map fun y=>D.int (dI l y:Nat))=nD ((List.range n).map (dI l)):=by rw[iV,afY];rfl
 rw[hm]at hc
 have hT:=zS l c
 rw[gP hl]at hT
 have e:=Nl hT (by omega) (by rw[fz];omega) hc
 have hb:qI=(aP (aF bH (ao (aK (aW (ao (aF aR (ao (ak 0) aq)) aq)) [none,some 0] (az 0) aG (gx (ak 1) (ak 0))) aq))):=rfl
 have es:cS 1 [D.tup (nD l)]=[some (.tup (nD l))]:=rfl
 rw[iX,eG,hb,es,e]
 simp only[R.aD]
 rw[jk,if_pos (mC _),agC]
theorem OJ{T C S:D}{k:Int}{c:aa}(h1:eK [T,.int k] c=.ok C c) (h2:iX [C] c=.ok S c):(aA 1 iX (ao (aA 2 eK (ao (ak 1) (ao (ak 0) aq))) aq)) [some (.int k),some T] c=.ok S c:=by simp[h1,h2]
theorem OX{T:D}{q:Int}{l:List D}{c:aa}(hT:aR [T] c=.ok (.int q) c) (b:-4611686018427387904≤q∧q<4611686018427387904) (hl:(bg 0 q).length<sizeLine) (h:br (fun _=>True) (az 0) aG (aA 1 iX (ao (aA 2 eK (ao (ak 1) (ao (ak 0) aq))) aq)) (bg 0 q) [none,some T] [] c=.ok l c):(aP (aF bH (ao (aK (aW (ao (aF aR (ao (ak 0) aq)) aq)) [none,some 0] (az 0) aG (aA 1 iX (ao (aA 2 eK (ao (ak 1) (ao (ak 0) aq))) aq))) aq))) [some T] c=.ok (.rt (.tup l)) c:=by
 have hp:cA [none,some 0] [some T]=[none,some T]:=rfl
 simp only[ir,d8,bT,cV,gG,cF,gz,bS,R.aD,hT]
 rw[if_pos (by omega)]
 simp only[R.aD]
 rw[if_pos hl,hp,h]
 rfl
theorem Wn{n:Nat}{s:Nat→Nat→Nat}{ch:List (List Nat)}(C:iJ n s n ch) (hn:n<8) (c:aa):kQ [bu ch] c=.ok (aB n (tS ch)) c:=by
 have hs:=cX (n:=1000) (by decide)
 have hc:=kJ (E:=[some (bu ch)]) (a:=(aA 1 iX (ao (aA 2 eK (ao (ak 1) (ao (ak 0) aq))) aq))) (n:=n) (c:=c) (fun x=>.tup (nD ((List.range n).map (tS ch x)))) (fun x hx =>
  OJ (abC (fun p hp=>(C.all hp).1.1) (by rw[C.len];omega) hx c) (Ot (C.col hx) hn c))
 have hT:aR [bu ch] c=.ok (.int (n:Int)) c:=by unfold bu;rw[Eu,afy,C.len]
 have e:=OX hT (by omega) (by rw[fz];omega) hc
 have hb:qG=(aP (aF bH (ao (aK (aW (ao (aF aR (ao (ak 0) aq)) aq)) [none,some 0] (az 0) aG (aA 1 iX (ao (aA 2 eK (ao (ak 1) (ao (ak 0) aq))) aq))) aq))):=rfl
 have es:cS 1 [bu ch]=[some (bu ch)]:=rfl
 rw[kQ,eG,hb,es,e]
 simp only[R.aD]
 rw[jk,if_pos (r9 n _),agC]
 rfl
theorem O5{P:D}{i x:Int}{c:aa}(h:aJ P (.int 0) c=.ok (.int x) c):(aM (au bE (au aJ (ak 0) (dC (.int 0))) (ak 1))) [some P,some (.int i)] c=.ok (decide (x=i)) c:=by simp[h]
theorem Wj{n:Nat}{s:Nat→Nat→Nat}(h1:1≤n) (i:Nat) (c:aa):br (fun _=>True) (az 0) (aM (au bE (au aJ (ak 0) (dC (.int 0))) (ak 1))) (ak 0) ((bq n s n [[]]).map aQ) [none,some (.int (i:Int))] [] c=.ok ((mE n s i).map aQ) c:=by
 have:=vM (E:=[some (.int (i:Int))]) (t:=(aM (au bE (au aJ (ak 0) (dC (.int 0))) (ak 1)))) (a:=ak 0) (c:=c) aQ aQ (fun p=>decide (p.getD 0 0=i)) (bq n s n [[]]) none [] (fun p hp=>by
  have hx:=EO (p:=p) (x:=0) (by rw[(sH n p hp).1];omega) c
  have:=O5 (i:=(i:Int)) hx
  rw[this]
  congr 1
  exact decide_eq_decide.mpr (by omega)) (fun p _ _=>rfl)
 rw[afP]at this
 exact this
theorem O6{S:D}{L cu ms out:List D}{i:Int}{c:aa}(hl:L.length<sizeLine) (h1:br (fun _=>True) (az 0) (aM (au bE (au aJ (ak 0) (dC (.int 0))) (ak 1))) (ak 0) L [none,some (.int i)] [] c=.ok ms c) (h2:iW [.lst cu,.lst ms] c=.ok (.lst out) c):(aH 2 (aA 2 iW (ao (ak 2) (ao (aK (bJ (ak 1)) [none,some 3] (az 0) (aM (au bE (au aJ (ak 0) (dC (.int 0))) (ak 1))) (ak 0)) aq)))) [some S,some (.lst L),some (.lst cu),some (.int i)] c=.ok (.nx [some S,some (.lst L),some (.lst out),some (.int i)]) c:=by
 have hp:cA [none,some 3] [some S,some (.lst L),some (.lst cu),some (.int i)]=[none,some (.int i)]:=rfl
 have hd:bJ (ak 1) [some S,some (.lst L),some (.lst cu),some (.int i)] c=.ok ⟨L,fun _=>True⟩ c:=rfl
 have hv:ak 2 [some S,some (.lst L),some (.lst cu),some (.int i)] c=.ok (.lst cu) c:=rfl
 simp only[gF,x_call,bT,hv,cV,hd,bS,R.aD]
 rw[if_pos hl,hp,h1]
 simp only[R.aD,afO,agd,if_pos,h2]
 rfl
def jB(n:Nat) (s:Nat→Nat→Nat):D:=match fF n s n [[]]with
 |[]=>.aL
 |ch::_=>aB n (tS ch)
theorem O8{S L v3:Option D}{c:aa}:(aP (qC (qy (ak 2)) (aA 1 kQ (ao (au aJ (ak 2) (dC (.int 0))) aq)) (dC .aL))) [S,L,some (.lst []),v3] c=.ok (.rt .aL) c:=by simp[nQ]
theorem O7{S L v3:Option D}{T Z:D}{l:List D}{c:aa}(h:kQ [T] c=.ok Z c):(aP (qC (qy (ak 2)) (aA 1 kQ (ao (au aJ (ak 2) (dC (.int 0))) aq)) (dC .aL))) [S,L,some (.lst (T::l)),v3] c=.ok (.rt Z) c:=by simp[nQ,h]
theorem Pa{S:D}{q:Int}{a1 a2 a3:Option D}{c:aa}(hl:aR [S] c=.ok (.int q) c) (h:¬(5:Int)<q):(bw (aM (au lC (aF aR (ao (ak 0) aq)) (dC (.int 5)))) fW bz) [some S,a1,a2,a3] c=.ok (.nx [some S,a1,a2,a3]) c:=by simp[hl,h]
theorem O9{S:D}{q:Int}{a1 a2 a3:Option D}{e':Ev}{c c':aa}(hl:aR [S] c=.ok (.int q) c) (b:-4611686018427387904≤q∧q<4611686018427387904) (h:cU (fun _=>True) (az 3) (aH 2 (aA 2 iW (ao (ak 2) (ao (aK (bJ (ak 1)) [none,some 3] (az 0) (aM (au bE (au aJ (ak 0) (dC (.int 0))) (ak 1))) (ak 0)) aq)))) (bg 0 q) [some S,a1,a2,a3] c=.ok (.nx e') c'):(cz (aW (ao (aF aR (ao (ak 0) aq)) aq)) (az 3) (aH 2 (aA 2 iW (ao (ak 2) (ao (aK (bJ (ak 1)) [none,some 3] (az 0) (aM (au bE (au aJ (ak 0) (dC (.int 0))) (ak 1))) (ak 0)) aq))))) [some S,a1,a2,a3] c=.ok (.nx e') c':=by
 simp only[lV,gG,bT,d8,cF,gz,gs,bS,R.aD,hl]
 rw[if_pos (by omega)]
 exact h
theorem yI{n:Nat}{s:Nat→Nat→Nat}(hL:cg n s) (h1:1≤n) (h5:n≤5) (c:aa):gn [aB n s] c=.ok (jB n s) c:=by
 have hs:=cX (n:=1000) (by decide)
 have Yu:1000000≤sizeLine:=by decide
 have Bu:=yG hL h1 (by omega) c
 have hcu:=C6 hL h1 (by omega) c
 have Bx:dW [aB n s] c=.ok .aL c:=by
  generalize aB n s=S at *
  simp[dW,lI,Bu]
 have hlen:aR [aB n s] c=.ok (.int (n:Int)) c:=by unfold aB;rw[yp];simp
 have e0:(bW (aA 1 dW (ao (ak 0) aq))) [some (aB n s),none,none,none] c=.ok (.nx [some (aB n s),none,none,none]) c:=by
  generalize aB n s=S at *
  simp[Bx]
 have e1:(bw (aM (au lC (aF aR (ao (ak 0) aq)) (dC (.int 5)))) fW bz) [some (aB n s),none,none,none] c=.ok (.nx [some (aB n s),none,none,none]) c:=Pa hlen (by omega)
 have e2:(aH 1 (aA 1 fO (ao (ak 0) aq))) [some (aB n s),none,none,none] c=.ok (.nx [some (aB n s),some (.lst ((bq n s n [[]]).map aQ)),none,none]) c:=by
  generalize aB n s=S at *
  generalize (bq n s n [[]]).map aQ=L at *
  simp[hcu]
 have e3:(aH 2 (b6 (ao (b6 aq) aq))) [some (aB n s),some (.lst ((bq n s n [[]]).map aQ)),none,none] c=.ok (.nx [some (aB n s),some (.lst ((bq n s n [[]]).map aQ)),some (.lst [.lst []]),none]) c:=by
  generalize aB n s=S at *
  generalize (bq n s n [[]]).map aQ=L at *
  simp
 have YZ:((bq n s n [[]]).map aQ).length<sizeLine:=by
  have:=HQ (n:=n) (by omega) s [] n (by omega)
  rw[afy]
  omega
 obtain⟨e4',c4,⟨hc4,w3,YN⟩,h4⟩:=BS (g:=az 3) (s:=(aH 2 (aA 2 iW (ao (ak 2) (ao (aK (bJ (ak 1)) [none,some 3] (az 0) (aM (au bE (au aJ (ak 0) (dC (.int 0))) (ak 1))) (ak 0)) aq))))) (fun i e c'=>c'=c∧∃w3,e=[some (aB n s),some (.lst ((bq n s n [[]]).map aQ)),some (.lst ((fF n s i [[]]).map bu)),w3]) (bg 0 (n:Int)) 0 [some (aB n s),some (.lst ((bq n s n [[]]).map aQ)),some (.lst [.lst []]),none] c ⟨rfl,none,rfl⟩ (fun i x hx e c' ⟨hc,w3,he⟩=>by
  subst hc he
  rw[agA]
  have hi:i<n:=by
   have:=(afJ.mp hx).1
   rw[fz]at this
   omega
  rw[FU,afS,agk hi]at hx
  have hx':x=.int (i:Int):=(afN hx).symm
  subst hx'
  have hw:=Wh (cu:=fF n s i [[]]) (ms:=mE n s i) (fun m hm=>by
   have:=(sH n m (agg.mp hm).1).1
   omega) (fun ch hch=>by
   have:=(sG i ch hch).len
   omega) (by rw[Ex];exact XT h1 h5 s (i+1) (by omega)) c'
  rw[Ex]at hw
  have hb:=O6 (S:=aB n s) YZ (Wj h1 i c') hw
  exact⟨_,_,_,_,rfl,hb,rfl,_,rfl⟩)
 subst hc4 YN
 rw[agA,fz,show((n:Int)-0).toNat=n by omega]at h4
 have e4:=O9 hlen (by omega) h4
 have hb:qH=aE (bW (aA 1 dW (ao (ak 0) aq))) (aE (bw (aM (au lC (aF aR (ao (ak 0) aq)) (dC (.int 5)))) fW bz) (aE (aH 1 (aA 1 fO (ao (ak 0) aq))) (aE (aH 2 (b6 (ao (b6 aq) aq))) (aE (cz (aW (ao (aF aR (ao (ak 0) aq)) aq)) (az 3) (aH 2 (aA 2 iW (ao (ak 2) (ao (aK (bJ (ak 1)) [none,some 3] (az 0) (aM (au bE (au aJ (ak 0) (dC (.int 0))) (ak 1))) (ak 0)) aq))))) (aP (qC (qy (ak 2)) (aA 1 kQ (ao (au aJ (ak 2) (dC (.int 0))) aq)) (dC .aL))))))):=rfl
 have es:cS 4 [aB n s]=[some (aB n s),none,none,none]:=rfl
 rw[gn,eG,hb,es,bx e0,bx e1,bx e2,bx e3,bx e4]
 unfold jB
 have sV:=sG (n:=n) (s:=s) n
 cases hW:fF n s n [[]]with
 |nil =>
  rw[ahj,O8]
  simp
 |cons ch r =>
  rw[hW]at sV
  have hm:=Wn (sV ch (.head _)) (by omega) c4
  rw[afC,O7 hm]
  simp only[R.aD]
  unfold aB
  rw[jk,if_pos (r9 n _),agC]
end Ev
namespace Fq
def cj(p:Int):Nat→Int→List Int
 |0,_=>[]
 |n+1,x=>x % p::cj p n (x/p)
def f7(p:Int):List Int→Int
 |[]=>0
 |d::r=>f7 p r*p+d % p
def kX:List Int→Int
 |[]=>0
 |[a]=>a
 |_::b::r=>kX (b::r)
def fV(low row:List Int):List Int:=List.zipWith (fun b d=>b-kX row*d) (0::row) low
def mulR(low ry:List Int):List Int→List Int
 |[]=>ry.map fun _=>0
 |d::rx=>List.zipWith (fun a b=>a+d*b) (fV low (mulR low ry rx)) ry
def nI(p:Int) (n:Nat) (x y:Int):Int:=f7 p (List.zipWith (· + ·) (cj p n x) (cj p n y))
def Hi(p:Int) (n:Nat) (low x y:Int):Int:=f7 p (mulR (cj p n low) (cj p n y) (cj p n x))
theorem GI{p:Int}(hp:0<p):∀r:List Int,0≤f7 p r
 |[]=>ai9 0
 |d::r=>by
  have h1:=GI hp r
  have h2:=ahy d (Int.ne_of_gt hp)
  have h3:=Int.mul_nonneg h1 (Int.le_of_lt hp)
  simp only[f7]
  omega
theorem GJ{p:Int}(hp:0<p):∀r:List Int,f7 p r<p^r.length
 |[]=>by simp[f7]
 |d::r=>by
  have h1:=GJ hp r
  have h2:=ahz d hp
  simp only[f7,afO,Int.pow_succ]
  have h3:(f7 p r+1)*p≤p^r.length*p:=Int.mul_le_mul_of_nonneg_right (by omega) (Int.le_of_lt hp)
  have h4:(f7 p r+1)*p=f7 p r*p+p:=by rw[Int.add_mul,Int.one_mul]
  omega
theorem iP(p:Int):∀(n:Nat) (x:Int),(cj p n x).length=n
 |0,_=>rfl
 |n+1,x=>by simp[cj,iP p n]
theorem LN{f:Int→Int→Int}{p:Int}{n:Nat}{x y:Int}:(List.zipWith f (cj p n x) (cj p n y)).length=n:=by simp[iP]
section
variable {p:Int}(hp:0<p) {n:Nat}
include hp
theorem ade(x y:Int):0≤nI p n x y:=GI hp _
theorem adf(x y:Int):nI p n x y<p^n:=by
 have:=GJ hp (List.zipWith (· + ·) (cj p n x) (cj p n y))
 rwa[LN]at this
end
structure Fd where
 q:Nat
 p:Nat
 n:Nat
 low:Nat
 g:Nat
 E:List Nat
 L:List Nat
def ck:List Fd:=[⟨2,2,1,0,1,[1],[0,0]⟩,
 ⟨3,3,1,0,2,[1,2],[0,0,1]⟩,
 ⟨4,2,2,3,2,[1,2,3],[0,0,1,2]⟩,
 ⟨5,5,1,0,2,[1,2,4,3],[0,0,1,3,2]⟩,
 ⟨7,7,1,0,3,[1,3,2,6,4,5],[0,0,2,1,4,5,3]⟩,
 ⟨8,2,3,3,2,[1,2,4,3,6,7,5],[0,0,1,3,2,6,4,5]⟩,
 ⟨9,3,2,1,4,[1,4,6,7,2,8,3,5],[0,0,4,6,1,7,2,3,5]⟩,
 ⟨11,11,1,0,2,[1,2,4,8,5,10,9,7,3,6],[0,0,1,8,2,4,9,7,3,6,5]⟩,
 ⟨13,13,1,0,2,[1,2,4,8,3,6,12,11,9,5,10,7],[0,0,1,4,2,9,5,11,3,8,10,7,6]⟩,
 ⟨16,2,4,3,2,[1,2,4,8,3,6,12,11,5,10,7,14,15,13,9],[0,0,1,4,2,8,5,10,3,14,9,7,6,13,11,12]⟩,
 ⟨17,17,1,0,3,[1,3,9,10,13,5,15,11,16,14,8,7,4,12,2,6],[0,0,14,1,12,5,15,11,10,2,3,7,13,4,9,6,8]⟩,
 ⟨19,19,1,0,2,[1,2,4,8,16,13,7,14,9,18,17,15,11,3,6,12,5,10],[0,0,1,13,2,16,14,6,3,8,17,12,15,5,7,11,4,10,9]⟩,
 ⟨23,23,1,0,5,[1,5,2,10,4,20,8,17,16,11,9,22,18,21,13,19,3,15,6,7,12,14],[0,0,2,16,4,1,18,19,6,10,3,9,20,14,21,17,8,7,12,15,5,13,11]⟩,
 ⟨25,5,2,2,6,[1,6,14,5,8,21,3,18,7,15,19,13,4,24,16,20,22,9,2,12,23,10,11,17],[0,0,18,6,12,3,1,8,4,17,21,22,19,11,2,9,14,23,7,10,15,5,16,20,13]⟩,
 ⟨27,3,3,7,3,[1,3,9,5,15,23,13,17,20,4,12,14,11,2,6,18,7,21,16,26,22,10,8,24,25,19],[0,0,13,1,9,3,14,16,22,2,21,12,10,6,11,4,18,7,15,25,8,17,20,5,23,24,19]⟩,
 ⟨29,29,1,0,2,[1,2,4,8,16,3,6,12,24,19,9,18,7,14,28,27,25,21,13,26,23,17,5,10,20,11,22,15],[0,0,1,5,2,22,6,12,3,10,23,25,7,18,13,27,4,21,11,9,24,17,26,20,8,16,19,15,14]⟩,
 ⟨31,31,1,0,3,[1,3,9,27,19,26,16,17,20,29,25,13,8,24,10,30,28,22,4,12,5,15,14,11,2,6,18,23,7,21],[0,0,24,1,18,20,25,28,12,2,14,23,19,11,22,21,6,7,26,4,8,29,17,27,13,10,5,3,16,9,15]⟩,
 ⟨32,2,5,5,2,[1,2,4,8,16,5,10,20,13,26,17,7,14,28,29,31,27,19,3,6,12,24,21,15,30,25,23,11,22,9,18],[0,0,1,18,2,5,19,11,3,29,6,27,20,8,12,23,4,10,30,17,7,22,28,26,21,25,9,16,13,14,24,15]⟩,
 ⟨37,37,1,0,2,[1,2,4,8,16,32,27,17,34,31,25,13,26,15,30,23,9,18,36,35,33,29,21,5,10,20,3,6,12,24,11,22,7,14,28,19],[0,0,1,26,2,23,27,32,3,16,24,30,28,11,33,13,4,7,17,35,25,22,31,15,29,10,12,6,34,21,14,9,5,20,8,19,18]⟩,
 ⟨41,41,1,0,6,[1,6,36,11,25,27,39,29,10,19,32,28,4,24,21,3,18,26,33,34,40,35,5,30,16,14,2,12,31,22,9,13,37,17,20,38,23,15,8,7],[0,0,26,15,12,22,1,39,38,30,8,3,27,31,25,37,24,33,16,9,34,14,29,36,13,4,17,5,11,7,23,28,10,18,19,21,2,32,35,6,20]⟩,
 ⟨43,43,1,0,3,[1,3,9,27,38,28,41,37,25,32,10,30,4,12,36,22,23,26,35,19,14,42,40,34,16,5,15,2,6,18,11,33,13,39,31,7,21,20,17,8,24,29],[0,0,27,1,12,25,28,35,39,2,10,30,13,32,20,26,24,38,29,19,37,36,15,16,40,8,17,3,5,41,11,34,9,31,23,18,14,7,4,33,22,6,21]⟩,
 ⟨47,47,1,0,5,[1,5,25,31,14,23,21,11,8,40,12,13,18,43,27,41,17,38,2,10,3,15,28,46,42,22,16,33,24,26,36,39,7,35,34,29,4,20,6,30,9,45,37,44,32,19],[0,0,18,20,36,1,38,32,8,40,19,7,10,11,4,21,26,16,12,45,37,6,25,5,28,2,29,14,22,35,39,3,44,27,34,33,30,42,17,31,9,15,24,13,43,41,23]⟩,
 ⟨49,7,2,1,9,[1,9,31,30,21,46,16,44,5,38,43,45,7,20,24,17,4,29,19,15,35,23,8,22,6,47,25,26,28,10,40,12,2,18,13,11,42,36,32,39,3,27,37,41,14,33,48,34],[0,0,32,40,16,8,24,12,22,1,29,35,31,34,44,19,6,15,33,18,13,4,23,21,14,26,27,41,28,17,3,2,38,45,47,20,37,42,9,39,30,43,36,10,7,11,5,25,46]⟩]
def dc:List Nat→Nat→Nat
 |[],_=>0
 |a::_,0=>a
 |_::l,i+1=>dc l i
def mI(f:Fd) (x y:Nat):Int:=Hi f.p f.n f.low x y
def aI(f:Fd) (x y:Nat):Int:=nI f.p f.n x y
def M(f:Fd) (x y:Nat):Nat:=if x=0∨y=0 then 0 else dc f.E ((dc f.L x+dc f.L y) % (f.q-1))
def Mk(f:Fd) (x y:Nat):Nat:=cond (Nat.beq x 0||Nat.beq y 0) 0 (dc f.E ((dc f.L x+dc f.L y) % (f.q-1)))
theorem xP(f:Fd) (x y:Nat):Mk f x y=M f x y:=by
 unfold Mk M
 by_cases h:x=0∨y=0
 ·rw[if_pos h]
  rcases h with h|h<;>subst h<;>simp
 ·rw[if_neg h]
  rw[not_or]at h
  have h1:Nat.beq x 0=false:=by cases x with|zero=>exact absurd rfl h.1|succ _=>rfl
  have h2:Nat.beq y 0=false:=by cases y with|zero=>exact absurd rfl h.2|succ _=>rfl
  rw[h1,h2];rfl
def HX(i:Int) (k:Nat):Bool:=match i with
 |.ofNat m=>Nat.beq m k
 |.negSucc _=>false
theorem XW{i:Int}{k:Nat}(h:HX i k=true):i=k:=by
 cases i with
 |ofNat m=>have:m=k:=ajZ h;subst this;rfl
 |negSucc _=>cases h
def abF(f:Fd):Bool:=(List.range f.q).all fun x=>(List.range f.q).all fun y=>HX (mI f x y) (Mk f x y)
def abI(f:Fd):Bool:=(List.range f.q).all fun x=>(List.range f.q).all fun y=>Nat.beq (Mk f f.g (aI f x y).toNat) (aI f (Mk f f.g x) (Mk f f.g y)).toNat
def abH(f:Fd):Bool:=(List.range (f.q-1)).all fun i=>Nat.beq (dc f.L (dc f.E i)) i && !Nat.beq (dc f.E i) 0&&Nat.ble (dc f.E i+1) f.q
def abG(f:Fd):Bool:=(List.range f.q).all fun x=>Nat.beq x 0||(Nat.beq (dc f.E (dc f.L x)) x&&Nat.ble (dc f.L x+1) (f.q-1))
def JO(f:Fd):Bool:=Nat.ble 2 f.q&&Nat.beq (f.p^f.n) f.q&&Nat.beq (dc f.E 0) 1&&Nat.ble 2 f.p&&Nat.ble f.p 47&&Nat.ble 1 f.n&&Nat.ble f.n 5&&Nat.beq (dc f.E (1 % (f.q-1))) f.g&&Nat.ble (f.low+1) f.q&&Nat.ble 1 f.g&&Nat.ble (f.g+1) f.q
theorem ac0:ck.all abF=true:=by decide +kernel
theorem ac3:ck.all abI=true:=by decide +kernel
theorem ac2:ck.all abH=true:=by decide +kernel
theorem ac1:ck.all abG=true:=by decide +kernel
theorem acZ:ck.all JO=true:=by decide +kernel
end Fq
namespace Fq
theorem bl{a b:Nat}(h:Nat.ble a b=true):a≤b:=aj0 h
theorem be{a b:Nat}(h:Nat.beq a b=true):a=b:=ajZ h
structure Is (f:Fd):Prop where
 q2:2≤f.q
 pn:f.p^f.n=f.q
 e0:dc f.E 0=1
 p2:2≤f.p
 kN:f.p≤47
 n1:1≤f.n
 n5:f.n≤5
 eg:dc f.E (1 % (f.q-1))=f.g
 lo:f.low<f.q
 g1:1≤f.g
 gq:f.g<f.q
 le:∀i,i<f.q-1→dc f.L (dc f.E i)=i∧dc f.E i≠0∧dc f.E i<f.q
 el:∀x,x<f.q→x≠0→dc f.E (dc f.L x)=x∧dc f.L x<f.q-1
 mm:∀x y,x<f.q→y<f.q→mI f x y=(M f x y:Nat)
 dd:∀x y,x<f.q→y<f.q→M f f.g (aI f x y).toNat=(aI f (M f f.g x) (M f f.g y)).toNat
theorem iB{f:Fd}(h:f∈ck):Is f:=by
 have hM:=afG.mp ac0 f h
 have hD:=afG.mp ac3 f h
 have hE:=afG.mp ac2 f h
 have hL:=afG.mp ac1 f h
 have hO:=afG.mp acZ f h
 simp only[JO,afE]at hO
 obtain⟨⟨⟨⟨⟨⟨⟨⟨⟨⟨o1,o2⟩,o3⟩,o4⟩,o5⟩,o6⟩,o7⟩,o8⟩,o9⟩,U3⟩,U1⟩:=hO
 refine⟨bl o1,be o2,be o3,bl o4,bl o5,bl o6,bl o7,be o8,bl o9,bl U3,bl U1,fun i hi=>?_,fun x hx h0=>?_,fun x y hx hy=>?_,fun x y hx hy=>?_⟩
 ·have:=afG.mp hE i (aft.mpr hi)
  simp only[afE,ahe]at this
  exact⟨be this.1.1,fun z=>by rw[z]at this;simp at this,bl this.2⟩
 ·have:=afG.mp hL x (aft.mpr hx)
  simp only[ahN,afE]at this
  rcases this with this|this
  ·exact absurd (be this) h0
  ·exact⟨be this.1,bl this.2⟩
 ·have:=afG.mp (afG.mp hM x (aft.mpr hx)) y (aft.mpr hy)
  rw[XW this,xP]
 ·have:=afG.mp (afG.mp hD x (aft.mpr hx)) y (aft.mpr hy)
  have:=be this
  rwa[xP,xP,xP]at this
section
variable {f:Fd}(I:Is f)
include I
theorem Is.pp:(0:Int)<f.p:=by have:=I.p2;omega
theorem Is.pw:((f.p:Int))^f.n=(f.q:Int):=by rw[←I.pn];simp
theorem adt(x y:Nat):M f x y<f.q:=by
 have:=I.q2
 unfold M
 split
 ·omega
 ·exact(I.le _ (agt _ (by omega))).2.2
end
def P(f:Fd) (x:Nat):Nat→Nat
 |0=>1
 |k+1=>M f (P f x k) x
section
variable {f:Fd}(I:Is f)
include I
theorem adn(x y:Nat):((aI f x y).toNat:Int)=aI f x y∧(aI f x y).toNat<f.q:=by
 have h1:=ade I.pp (n:=f.n) (x:Int) y
 have h2:=adf I.pp (n:=f.n) (x:Int) y
 rw[I.pw]at h2
 unfold aI
 omega
end
end Fq
namespace Ev
open PySem L2 Fq
theorem Ez(i:Int) (c:aa):mO [.int i] c=.ok (.bl true) c:=by simp[mO,nA]
theorem within_int(i lo hi:Int) (c:aa):gr [.int i,.int lo,.int hi] c=.ok (.bl (decide (lo≤i)&&decide (i≤hi))) c:=by
 simp[gr,lJ,Ez]
 by_cases q:lo≤i<;>simp[q]
theorem tabs_ok:(ck.all fun f=>decide (fy iK f.q=some [(f.p:Int),f.n,f.low]))=true:=by decide +kernel
theorem uy{f:Fd}(h:f∈ck):fy iK f.q=some [(f.p:Int),f.n,f.low]:=by
 have:=afG.mp tabs_ok f h
 simpa using this
theorem HW{f:Fd}(h:f∈ck) (c:aa):mP [.int f.q] c=.ok (.bl true) c:=by
 simp[mP,qU,Ez,uy h]
theorem Pw{f:Fd}(h:f∈ck) (c:aa):vz [.int f.q] c=.ok .aL c:=by
 simp[vz,qL,HW h]
theorem ES{f:Fd}(h:f∈ck) {x y:Int}(x0:0≤x) (x1:x<f.q) (y0:0≤y) (y1:y<f.q) (c:aa):mG [.int f.q,.tup [.int x,.int y]] c=.ok .aL c:=by
 have a1:x≤(f.q:Int)-1:=by omega
 have a2:y≤(f.q:Int)-1:=by omega
 simp[mG,qK,Pw h,within_int,x0,y0,a1,a2]
def uK:ah:=(aE (bW (fk (ak 3) (au cJ (ak 4) (ak 2)))) (aH 4 (au i7 (ak 4) (ak 2))))
theorem Pj{c:aa}{a0 a1 v5:Option D}{p left:Int}{acc:List D}(hp:0<p) (gv:p<1000) (ha:acc.length<1000):uK [a0,a1,some (.int p),some (.ref c.length),some (.int left),v5] (c++[.lst acc]) =
  .ok (.nx [a0,a1,some (.int p),some (.ref c.length),some (.int (left/p)),v5]) (c++[.lst (acc++[.int (left % p)])]):=by
 have h:=KN (c:=c) (acc:=acc) (y:=.int (left % p)) (dO:=ak 3) (da:=au cJ (ak 4) (ak 2)) (e:=[a0,a1,some (.int p),some (.ref c.length),some (.int left),v5]) (by simp) (by simp(disch:=omega) [mF]) rfl (by have:=cX (n:=1000) (by decide);omega)
 unfold uK
 rw[ur,nN,h]
 simp(disch:=omega) [wU]
theorem FQ{c:aa}{a0 a1:Option D}{p:Int}(hp:0<p) (gv:p<1000):∀(items:List D) (left:Int) (acc:List D) (v5:Option D),acc.length+items.length<1000 →
  ∃l' Mr,cU (fun _=>True) (az 5) uK items [a0,a1,some (.int p),some (.ref c.length),some (.int left),v5] (c++[.lst acc]) =
   .ok (.nx [a0,a1,some (.int p),some (.ref c.length),some (.int l'),Mr]) (c++[.lst (acc++(cj p items.length left).map D.int)])
 |[],left,acc,v5,_=>⟨left,v5,by simp[cj]⟩
 |x::xs,left,acc,v5,h=>by
  simp only[afO]at h
  obtain⟨l',v',ih⟩:=FQ hp gv xs (left/p) (acc++[.int (left % p)]) (some x) (by simp;omega)
  refine⟨l',v',?_⟩
  rw[jy]
  simp only[yr,ag4,ajc,R.aD]
  rw[Pj hp gv (by omega)]
  simp only[R.aD]
  rw[ih]
  simp[cj]
theorem Pp{q p N low:Int}(ht:fy iK q=some [p,N,low]) (hp:0<p) (gv:p<1000) {n:Nat}(hl:(bg 0 N).length=n) (hn:n<1000) (b1:-4611686018427387904≤N∧N<4611686018427387904) (x:Int) (c:aa) :
  gp [.int q,.int x] c=.ok (.lst ((cj p n x).map D.int)) c:=by
 obtain⟨l',v',hf⟩:=FQ (c:=c) (a0:=some (.int q)) (a1:=some (.int x)) (p:=p) hp gv (bg 0 N) x [] none (by rw[hl,agd];omega)
 rw[hl,afP]at hf
 unfold uK at hf
 simp[gp,qJ,ht]
 rw[if_pos b1]
 simp only[R.aD]
 rw[hf]
 simp[eB,zx]
theorem uI{f:Fd}(h:f∈ck) (x:Int) (c:aa):gp [.int f.q,.int x] c=.ok (.lst ((cj f.p f.n x).map D.int)) c:=by
 have I:=iB h
 have p2:=I.p2
 have kN:=I.kN
 have n5:=I.n5
 exact Pp (uy h) (by omega) (by omega) (by rw[fz];omega) (by omega) (by omega) x c
def vf:ah:=(aH 3 (au cy (au bX (ak 3) (ak 2)) (au cJ (ak 4) (ak 2))))
theorem GL(p:Int):∀r:List Int,r.foldr (fun d n=>n*p+d % p) 0=f7 p r
 |[]=>rfl
 |d::r=>by simp only[aj1,GL p r,f7]
theorem GK{c:aa}{a0 a1:Option D}{p:Int}(hp:0<p) (gv:p<1000):∀(ds:List Int) (acc:Int) (v4:Option D),
  ∃v',cU (fun _=>True) (az 4) vf (ds.map D.int) [a0,a1,some (.int p),some (.int acc),v4] c=.ok (.nx [a0,a1,some (.int p),some (.int (ds.foldl (fun n d=>n*p+d % p) acc)),v']) c
 |[],acc,v4=>⟨v4,by simp⟩
 |d::ds,acc,v4=>by
  obtain⟨v',ih⟩:=GK hp gv ds (acc*p+d % p) (some (.int d))
  refine⟨v',?_⟩
  rw[afC,jy]
  simp only[yr,ag4,ajc,R.aD]
  have e:vf [a0,a1,some (.int p),some (.int acc),some (.int d)] c=.ok (.nx [a0,a1,some (.int p),some (.int (acc*p+d % p)),some (.int d)]) c:=by
   simp(disch:=omega) [vf,mul_r,mF]
  rw[e]
  simp only[R.aD]
  rw[ih]
  simp
theorem GH{f:Fd}(h:f∈ck) (r:List Int) (c:aa):mH [.int f.q,.lst (r.map D.int)] c=.ok (.int (f7 f.p r)) c:=by
 have I:=iB h
 have p2:=I.p2
 have kN:=I.kN
 obtain⟨v',hf⟩:=GK (c:=c) (a0:=some (.int f.q)) (a1:=some (.lst (r.map D.int))) (p:=f.p) (by omega) (by omega) r.reverse 0 none
 rw[aj2,GL,aj3]at hf
 unfold vf at hf
 simp[mH,qM,uy h]
 rw[hf]
 simp
theorem adb{f:Fd}(h:f∈ck) {x y:Int}(x0:0≤x) (x1:x<f.q) (y0:0≤y) (y1:y<f.q) (c:aa):qc [.int f.q,.int x,.int y] c=.ok (.int (nI f.p f.n x y)) c:=by
 have n5:=(iB h).n5
 have hs:=cX (n:=1000) (by decide)
 have hz:f.n<sizeLine:=by omega
 have hc:=xC (st:=fun _=>True∧True) (c:=c) ⟨trivial,trivial⟩ (a:=au cy (ak 0) (ak 1)) (· + ·) [] (cj f.p f.n x) (cj f.p f.n y) none none [] (fun u _ v _=>by simp)
 have hn:=GH h (List.zipWith (· + ·) (cj f.p f.n x) (cj f.p f.n y)) c
 simp[qc,qY,ES h x0 x1 y0 y1,uI h,kF,iP,hz,cA]
 simp at hc hn
 rw[hc]
 simp[hn,nI]
theorem acf:∀{r:List Int},r≠[]→cI (r.map D.int) (-1)=some (.int (kX r)):=by
 have gen:∀r:List Int,r≠[]→(r.map D.int)[r.length-1]? = some (.int (kX r)):=by
  intro r
  induction r with
  |nil=>intro h;exact absurd rfl h
  |cons a r ih =>
   intro _
   cases r with
   |nil=>rfl
   |cons b r =>
    have:=ih (by simp)
    simpa[kX]using this
 intro r hr
 have hl:0<r.length:=List.length_pos_iff.mpr hr
 have g:=gen r hr
 unfold cI eL
 rw[afy,if_neg (by decide),if_pos (by omega)]
 show(r.map D.int)[((-1:Int)+(r.length:Int)).toNat]? = _
 rw[show((-1:Int)+(r.length:Int)).toNat=r.length-1 by omega]
 exact g
theorem yV{p:Int}(hp:0<p):∀(n:Nat) (x:Int),∀d∈cj p n x,0≤d∧d<p
 |0,x,d,h=>by cases h
 |n+1,x,d,h=>by
  rcases afv.mp h with rfl|h
  ·exact⟨ahy _ (by omega),ahz _ hp⟩
  ·exact yV hp n _ d h
theorem ML{f:Fd}(h:f∈ck) {r:List Int}(hr:r.length=f.n) (c:aa):p8 [.int f.q,.lst (r.map D.int)] c=.ok (.lst ((fV (cj f.p f.n f.low) r).map D.int)) c:=by
 have I:=iB h
 have n1:=I.n1
 have n5:=I.n5
 have p2:=I.p2
 have kN:=I.kN
 have hs:=cX (n:=1000) (by decide)
 have hz:f.n<sizeLine:=by omega
 have hz2:1+r.length≤sizeLine:=by omega
 have hne:r≠[]:=by intro z;subst z;simp at hr;omega
 have hb:=yV (p:=f.p) (by omega) f.n f.low
 have hc:=xC (st:=fun _=>True∧True) (c:=c) ⟨trivial,trivial⟩ (a:=au eT (ak 0) (au bX (au aJ (ak 2) (i8 sf (dC (.int 1)))) (ak 1))) (fun b d=>b-kX r*d) [some (.lst (r.map D.int))] (0::r) (cj f.p f.n f.low) none none [] (fun u _ v hv=>by
  have:=hb v hv
  have e:bX (.int (kX r)) (.int v) c=.ok (.int (kX r*v)) c:=mul_r c (by omega) (by omega)
  simp[acf hne,e])
 simp[p8,qF,uy h,uI h,gA,kF,iP,hz,hz2,cA]
 simp at hc
 rw[if_pos (by rw[hr];omega)]
 rw[hc]
 have hr:=zx (l:=fV (cj f.p f.n f.low) r)
 simp[fV]at hr
 simp[fV,hr]
end Ev
namespace Ev
open PySem L2 Fq
def sy:ah:=(aH 4 (aK (fh (ao (aA 2 p8 (ao (ak 0) (ao (ak 4) aq))) (ao (ak 3) aq))) [none,none,some 5] (eu 2 (cB (az 0) (cB (az 1) eN))) aG (au cy (ak 0) (au bX (ak 2) (ak 1)))))
theorem ER{low r:List Int}{n:Nat}(hl:low.length=n) (hr:r.length=n):(fV low r).length=n:=by
 simp[fV,hl,hr]
theorem V5{f:Fd}(h:f∈ck) {ry r:List Int}(hy:ry.length=f.n) (hr:r.length=f.n) {d:Int}(d0:0≤d) (d1:d<1000) (c:aa) (a1 a2:Option D) :
  sy [some (.int f.q),a1,a2,some (.lst (ry.map D.int)),some (.lst (r.map D.int)),some (.int d)] c =
   .ok (.nx [some (.int f.q),a1,a2,some (.lst (ry.map D.int)),some (.lst ((List.zipWith (fun a b=>a+d*b) (fV (cj f.p f.n f.low) r) ry).map D.int)),some (.int d)]) c:=by
 have n5:=(iB h).n5
 have hs:=cX (n:=1000) (by decide)
 have hz:f.n<sizeLine:=by omega
 have ht:(fV (cj f.p f.n f.low) r).length=f.n:=ER (iP _ _ _) hr
 have hc:=xC (st:=fun _=>True∧True) (c:=c) ⟨trivial,trivial⟩ (a:=au cy (ak 0) (au bX (ak 2) (ak 1))) (fun a b=>a+d*b) [some (.int d)] (fV (cj f.p f.n f.low) r) ry none none [] (fun u _ v hv=>by
  have e:bX (.int d) (.int v) c=.ok (.int (d*v)) c:=zI c (by omega) (by omega)
  simp[e])
 simp[sy,ML h hr,kF,ht,hy,hz,cA]
 simp at hc
 rw[hc]
 simp
theorem Hg{f:Fd}(h:f∈ck) {ry:List Int}(hy:ry.length=f.n) (c:aa) (a1 a2:Option D):∀(ds r:List Int) (v5:Option D),r.length=f.n→(∀d∈ds,0≤d∧d<1000) →
  ∃v',cU (fun _=>True) (az 5) sy (ds.map D.int) [some (.int f.q),a1,a2,some (.lst (ry.map D.int)),some (.lst (r.map D.int)),v5] c =
   .ok (.nx [some (.int f.q),a1,a2,some (.lst (ry.map D.int)),some (.lst ((ds.foldl (fun r d=>List.zipWith (fun a b=>a+d*b) (fV (cj f.p f.n f.low) r) ry) r).map D.int)),v']) c
 |[],r,v5,_,_=>⟨v5,by simp⟩
 |d::ds,r,v5,hr,hd=>by
  have hd0:=hd d aga
  have hl:(List.zipWith (fun a b=>a+d*b) (fV (cj f.p f.n f.low) r) ry).length=f.n:=by
   rw[aiG,ER (iP _ _ _) hr,hy];omega
  obtain⟨v',ih⟩:=Hg h hy c a1 a2 ds (List.zipWith (fun a b=>a+d*b) (fV (cj f.p f.n f.low) r) ry) (some (.int d)) hl fun x hx=>hd x (af5 _ hx)
  refine⟨v',?_⟩
  rw[afC,jy]
  simp only[yr,ag4,ajc,R.aD]
  rw[V5 h hy hr hd0.1 hd0.2]
  simp only[R.aD]
  rw[ih,agH]
theorem Hh(low ry:List Int):∀rx:List Int,rx.foldr (fun d r=>List.zipWith (fun a b=>a+d*b) (fV low r) ry) (ry.map fun _=>0)=mulR low ry rx
 |[]=>rfl
 |d::rx=>by rw[aj1,Hh low ry rx];rfl
theorem zeros(ry:List Int):(List.replicate ry.length [D.int 0]).flatten=(ry.map fun _=>(0:Int)).map D.int:=by
 induction ry with
 |nil=>rfl
 |cons a r ih=>rw[afO,agG,agM,ih];rfl
theorem Px{N:Int}{n:Nat}(hN:N.toNat=n) (b:-9223372036854775808≤N∧N<9223372036854775808∧n≤sizeLine) (c:aa):pM (.lst [.int 0]) (.int N) c=.ok (.lst (List.replicate n [D.int 0]).flatten) c:=by
 rw[L3,hN,if_pos ⟨by omega,by omega,by simp only[afO,agd];omega⟩]
def bM(L:List D→aa→R D) (Rp:D→D→aa→R D):ah:=(aE (bW (aA 2 mG (ao (ak 0) (ao (bZ (ao (ak 1) (ao (ak 2) aq))) aq)))) (aE (aH 3 (aA 2 gp (ao (ak 0) (ao (ak 2) aq)))) (aE (aH 4 (au Rp (b6 (ao (dC (.int 0)) aq)) (aF L (ao (ak 3) aq)))) (aE (cz (tO (ao (aA 2 gp (ao (ak 0) (ao (ak 1) aq))) aq)) (az 5) (aH 4 (aK (fh (ao (aA 2 p8 (ao (ak 0) (ao (ak 4) aq))) (ao (ak 3) aq))) [none,none,some 5] (eu 2 (cB (az 0) (cB (az 1) eN))) aG (au cy (ak 0) (au bX (ak 2) (ak 1)))))) (aP (aA 2 mH (ao (ak 0) (ao (ak 4) aq))))))))
theorem acd:qN=bM aR pM:=rfl
theorem V9{L:List D→aa→R D}{Rp:D→D→aa→R D}{q x y N w:Int}{rx ry Z Y:List D}{c:aa}{v':Option D}(h0:mG [.int q,.tup [.int x,.int y]] c=.ok .aL c) (h1:gp [.int q,.int y] c=.ok (.lst ry) c) (h2:gp [.int q,.int x] c=.ok (.lst rx) c) (hlen:L [.lst ry] c=.ok (.int N) c)
  (hrep:Rp (.lst [.int 0]) (.int N) c=.ok (.lst Z) c) (hf:cU (fun _=>True) (az 5) sy rx.reverse [some (.int q),some (.int x),some (.int y),some (.lst ry),some (.lst Z),none] c=.ok (.nx [some (.int q),some (.int x),some (.int y),some (.lst ry),some (.lst Y),v']) c)
  (hn:mH [.int q,.lst Y] c=.ok (.int w) c):bN 6 false (bM L Rp) [.int q,.int x,.int y] c=.ok (.int w) c:=by
 unfold sy at hf
 simp[bM,h0,h1,h2,hlen,hrep,hf,hn]
theorem V7{f:Fd}(h:f∈ck) {x y:Int}(x0:0≤x) (x1:x<f.q) (y0:0≤y) (y1:y<f.q) (c:aa):p9 [.int f.q,.int x,.int y] c=.ok (.int (Hi f.p f.n f.low x y)) c:=by
 have I:=iB h
 have n5:=I.n5
 have p2:=I.p2
 have kN:=I.kN
 have hs:=cX (n:=1000) (by decide)
 have hb:=yV (p:=f.p) (by omega) f.n x
 obtain⟨v',hf⟩:=Hg h (iP f.p f.n y) c (some (.int x)) (some (.int y)) (cj f.p f.n x).reverse ((cj f.p f.n y).map fun _=>0) none (by simp[iP]) (fun d hd=>by
  have:=hb d (List.mem_reverse.mp hd);omega)
 rw[aj2,Hh,aj3]at hf
 have z0:=zeros (cj f.p f.n y)
 rw[iP]at z0
 have hlen:aR [.lst ((cj f.p f.n y).map D.int)] c=.ok (.int (f.n:Int)) c:=by
  rw[Eu,afy,iP]
 have hrep:=Px (N:=f.n) (n:=f.n) (by omega) (by omega) c
 rw[z0]at hrep
 rw[p9,acd]
 exact V9 (ES h x0 x1 y0 y1 c) (uI h y c) (uI h x c) hlen hrep hf (GH h (mulR (cj f.p f.n f.low) (cj f.p f.n y) (cj f.p f.n x)) c)
theorem Wa{f:Fd}(h:f∈ck) {x y:Nat}(hx:x<f.q) (hy:y<f.q) (c:aa):p9 [.int f.q,.int x,.int y] c=.ok (.int (M f x y:Nat)) c:=by
 rw[V7 h (by omega) (by omega) (by omega) (by omega)]
 have:=(iB h).mm x y hx hy
 unfold mI at this
 rw[this]
end Ev
namespace Ev
open PySem L2 Fq
theorem jb{f:List D→aa→R D}{d1:af}{e:Ev}{c:aa}{x v:D}(h1:d1 e c=.ok x c) (h:f [x] c=.ok v c):aF f (ao d1 aq) e c=.ok v c:=by
 simp only[d8,bT,h1,bS,R.aD];exact h
theorem kG{i:Nat}{d:af}{e:Ev}{c:aa}{v:D}(h:d e c=.ok v c):aH i d e c=.ok (.nx (e.set i (some v))) c:=by rw[gF,h];rfl
theorem l6{d:af}{e:Ev}{c:aa}{v:D}(h:d e c=.ok v c):aP d e c=.ok (.rt v) c:=by rw[ir,h];rfl
theorem iH{f:D→D→aa→R D}{d1 d2:af}{e:Ev}{c:aa}{x y:D}{r:R D}(h1:d1 e c=.ok x c) (h2:d2 e c=.ok y c) (h:f x y c=r):au f d1 d2 e c=r:=by
 rw[gI,h1]
 simp only[R.aD]
 rw[h2]
 exact h
theorem Dh{m:List D→aa→R D}{d1 d2 d3:af}{e:Ev}{c:aa}{x y z v:D}(h1:d1 e c=.ok x c) (h2:d2 e c=.ok y c) (h3:d3 e c=.ok z c) (h:m [x,y,z] c=.ok v c):aA 3 m (ao d1 (ao d2 (ao d3 aq))) e c=.ok v c:=by
 simp only[x_call,bT,h1,h2,h3,bS,R.aD]
 rw[if_pos (by rfl)];exact h
theorem tW{m:List D→aa→R D}{d1 d2:af}{e:Ev}{c:aa}{x y v:D}(h1:d1 e c=.ok x c) (h2:d2 e c=.ok y c) (h:m [x,y] c=.ok v c):aA 2 m (ao d1 (ao d2 aq)) e c=.ok v c:=by
 simp only[x_call,bT,h1,h2,bS,R.aD]
 rw[if_pos (by rfl)];exact h
theorem qD{m:List D→aa→R D}{d1:af}{e:Ev}{c:aa}{x v:D}(h1:d1 e c=.ok x c) (h:m [x] c=.ok v c):aA 1 m (ao d1 aq) e c=.ok v c:=by
 simp only[x_call,bT,h1,bS,R.aD]
 rw[if_pos (by rfl)];exact h
theorem l7{n:Nat}{b:ah}{xs:List D}{c:aa}{v:D}(h:b (cS n xs) c=.ok (.rt v) c) (hv:noRef v=true) (hr:∀k,v≠.ref k):bN n false b xs c=.ok v c:=by
 rw[eG,h]
 simp only[R.aD]
 cases v<;>first|exact absurd rfl (hr _)|(unfold eB;dsimp only;rw[if_pos hv,agC])
def A(f:Fd) (x y:Nat):Nat:=(nI f.p f.n x y).toNat
theorem adD{f:Fd}(h:f∈ck) (x y:Nat):((A f x y:Nat):Int)=nI f.p f.n x y∧A f x y<f.q:=adn (iB h) x y
theorem adg{f:Fd}(h:f∈ck) {x y:Nat}(hx:x<f.q) (hy:y<f.q) (c:aa):qc [.int f.q,.int x,.int y] c=.ok (.int (A f x y:Nat)) c:=by
 rw[(adD h x y).1]
 exact adb h (by omega) (by omega) (by omega) (by omega) c
def sF(f:Fd) (a x y:Nat):Nat:=A f (M f a x) y
theorem Dc{a:af}{E:Ev}{c:aa}(it g:Nat→D):∀(l:List Nat) (v:Option D) (acc:List D),(∀i∈l,a (some (it i)::E) c=.ok (g i) c)→br (fun _=>True) (az 0) aG a (l.map it) (v::E) acc c=.ok (acc++l.map g) c
 |[],v,acc,_=>by simp
 |i::l,v,acc,h=>by
  have h1:az 0 (it i) (v::E) c=.ok (some (it i)::E) c:=rfl
  rw[afC,ja,h1,R.aD,kB,R.aD,if_pos rfl,h i (.head _),R.aD,Dc it g l _ _ (fun z hz=>h z (.tail _ hz)),afU]
  rfl
theorem uG:1000000<sizeLine:=by decide
theorem yX(lo hi:Int):bg lo hi=(List.range (hi-lo).toNat).map fun i:Nat=>D.int (lo+(i:Int)):=rfl
theorem zT{d a:af}{pick:List (Option Nat)}{e E:Ev}{c:aa}{N:Int}{n:Nat}(g:Nat→D) (hd:d e c=.ok (.int N) c) (hN:N=n) (hn:n<1000) (hp:cA pick e=none::E) (ha:∀i,i<n→a (some (.int (i:Int))::E) c=.ok (g i) c) :
  aK (aW (ao d aq)) pick (az 0) aG a e c=.ok (.lst ((List.range n).map g)) c:=by
 have sz:=uG
 have h1:aW (ao d aq) e c=.ok ⟨bg 0 N,fun _=>True⟩ c:=by
  unfold aW
  simp only[bT,hd,bS,R.aD]
  rw[if_pos (by omega)]
 have hl:(bg 0 N).length=n:=by rw[fz];omega
 have hr:bg 0 N=(List.range n).map fun i:Nat=>D.int (i:Int):=by
  rw[yX,show(N-0).toNat=n by omega]
  simp
 rw[cV,h1,R.aD]
 dsimp only
 rw[if_pos (by rw[hl];omega),hp,hr,Dc _ g (List.range n) none [] (fun i hi=>ha i (aft.mp hi))]
 rfl
theorem yz(l:List D) (c:aa) (h:l.length≤1000):bH [.lst l] c=.ok (.tup l) c:=by
 have sz:=uG
 simp[bH,gK]
theorem ET{d a:af}{pick:List (Option Nat)}{e E:Ev}{c:aa}{N:Int}{n:Nat}(g:Nat→D) (hd:d e c=.ok (.int N) c) (hN:N=n) (hn:n<1000) (hp:cA pick e=none::E) (ha:∀i,i<n→a (some (.int (i:Int))::E) c=.ok (g i) c) :
  aF bH (ao (aK (aW (ao d aq)) pick (az 0) aG a) aq) e c=.ok (.tup ((List.range n).map g)) c :=
 jb (zT g hd hN hn hp ha) (yz _ c (by simp;omega))
theorem GN{l:List D}(h:∀d∈l,noRef d=true):noRef (.tup l)=true:=by unfold noRef;exact iy.mpr h
theorem GP(l:List Nat):noRef (.tup (nD l))=true:=GN fun d hd=>by
 obtain⟨k,_,rfl⟩:=afx.mp hd
 rfl
theorem GO(n:Nat) (s:Nat→Nat→Nat):noRef (aB n s)=true:=GN fun d hd=>by
 obtain⟨k,_,rfl⟩:=afx.mp hd
 exact GP _
theorem F0{f:Fd}(h:f∈ck):f.q≤50:=by
 have:(ck.all fun f=>decide (f.q≤50))=true:=by decide +kernel
 simpa using afG.mp this f h
theorem zH(n:Nat) (g:Nat→Nat):nD ((List.range n).map g)=(List.range n).map fun i=>D.int (g i:Nat):=by simp[nD]
theorem Zp{f:Fd}(h:f∈ck) {a x:Nat}(ha:a<f.q) (hx:x<f.q) (c:aa):vA [.int f.q,.int a,.int x] c=.ok (.tup (nD ((List.range f.q).map (sF f a x)))) c:=by
 have hq:=F0 h
 refine l7 (n:=3) (b:=nE) ?_ (GP _) (fun k h=>by cases h)
 unfold nE
 refine l6 ?_
 rw[zH]
 refine ET (N:=(f.q:Int)) (n:=f.q) (E:=[some (.int f.q),some (.int a),some (.int x)]) (fun y=>D.int (sF f a x y:Nat)) rfl rfl (by omega) rfl fun y hy=>?_
 exact Dh (m:=qc) (d1:=ak 1) (d3:=ak 0) rfl (Dh (m:=p9) (d1:=ak 1) (d2:=ak 2) (d3:=ak 3) rfl rfl rfl (Wa h ha hx c)) rfl (adg h (adt (iB h) a x) hy c)
theorem Zn{f:Fd}(h:f∈ck) {a:Nat}(ha:a<f.q) (c:aa):qb [.int f.q,.int a] c=.ok (aB f.q (sF f a)) c:=by
 have hq:=F0 h
 refine l7 (n:=2) (b:=nC) ?_ (GO _ _) (fun k h=>by cases h)
 unfold nC
 refine l6 ?_
 exact ET (N:=(f.q:Int)) (n:=f.q) (E:=[some (.int f.q),some (.int a)]) (fun x=>D.tup (nD ((List.range f.q).map (sF f a x)))) rfl rfl (by omega) rfl fun x hx=>Dh (m:=vA) (d1:=ak 1) (d2:=ak 2) (d3:=ak 0) rfl rfl rfl (Zp h ha hx c)
def FS(f:Fd):List D:=(List.range (f.q-1)).map fun a=>aB f.q (sF f (1+a))
theorem U5(f:Fd):bD (FS f)=true:=iy.mpr fun d hd=>by
 obtain⟨k,_,rfl⟩:=afx.mp hd
 exact GO _ _
theorem KI{l:List D}{i:Nat}{d:D}(h:l[i]? = some d):cI l (i:Int)=some d:=by
 have hi:=(afJ.mp h).1
 unfold cI eL
 rw[if_pos (by omega),if_pos (by omega)]
 simpa using h
theorem XI{l:List D}{i:Nat}{d:D}{N:Int}(hN:N=i) (h:l[i]? = some d) (c:aa):aJ (.lst l) (.int N) c=.ok d c:=by
 subst hN
 unfold aJ gK
 simp only[KI h]
theorem Bk{l:List D}{i:Nat}{d:D}{N:Int}(hN:N=i) (h:l[i]? = some d) (c:aa):aJ (.tup l) (.int N) c=.ok d c:=by
 subst hN
 unfold aJ gK
 simp only[KI h]
theorem qg(n:Nat) (s:Nat→Nat→Nat) (c:aa):aR [aB n s] c=.ok (.int (n:Int)) c:=by
 unfold aB
 simp
theorem Fo{n i:Nat}(s:Nat→Nat→Nat) (h1:1≤n) (h7:n≤7) (hi:i<n*n) {I:Int}(hI:I=i) (c:aa):gV [aB n s,.int I] c=.ok (.int (s (i/n) (i % n):Nat)) c:=by
 have hd:i/n<n:=ahD hi
 have hm:i % n<n:=agt _ (by omega)
 refine l7 (n:=2) (b:=nk) ?_ rfl (fun k h=>by cases h)
 unfold nk
 refine l6 ?_
 have e:cS 2 [aB n s,.int I]=[some (aB n s),some (.int I)]:=rfl
 rw[e]
 have hl:aF aR (ao (ak 0) aq) [some (aB n s),some (.int I)] c=.ok (.int (n:Int)) c:=jb (d1:=ak 0) rfl (qg n s c)
 have YO:i7 (.int I) (.int (n:Int)) c=.ok (.int (((i/n:Nat)):Int)) c:=by
  rw[wU c (by omega) (by omega),hI]
  rfl
 have hmd:cJ (.int I) (.int (n:Int)) c=.ok (.int (((i % n:Nat)):Int)) c:=by
  rw[mF c (by omega),hI]
  rfl
 have r1:((List.range n).map fun i=>D.tup (nD ((List.range n).map (s i))))[i/n]? = some (.tup (nD ((List.range n).map (s (i/n))))):=by rw[afS,agk hd];rfl
 have r2:(nD ((List.range n).map (s (i/n))))[i % n]? = some (.int (s (i/n) (i % n):Nat)):=by rw[zH,afS,agk hm];rfl
 exact iH (f:=aJ) (iH (f:=aJ) (d1:=ak 0) rfl (iH (f:=i7) (d1:=ak 1) rfl hl YO) (Bk rfl r1 c)) (iH (f:=cJ) (d1:=ak 1) rfl hl hmd) (Bk rfl r2 c)
theorem Jc:∀(l r:List (List Int)),(r++l).Nodup→l.foldl fL r=r++l
 |[],r,_=>by simp
 |k::l,r,h=>by
  have hk:k∉r:=fun hm=>by
   rw[ag5]at h
   exact h.2.2 k hm k (.head _) rfl
  rw[agH,show fL r k=r++[k] by unfold fL;rw[if_neg hk],Jc l (r++[k]) (by rw[afU];exact h),afU]
  rfl
def mh(n:Nat) (s s':Nat→Nat→Nat) (i:Nat):List Int:=[((s (i/n) (i % n):Nat):Int),((s' (i/n) (i % n):Nat):Int)]
def uP(n:Nat) (s s':Nat→Nat→Nat) (i:Nat):D:=.tup [.int (s (i/n) (i % n):Nat),.int (s' (i/n) (i % n):Nat)]
structure xU (n:Nat) (s s':Nat→Nat→Nat):Prop where
 one:∀x y,x<n→y<n→s x y<8
 two:∀x y,x<n→y<n→s' x y<8
 nd:((List.range (n*n)).map (mh n s s')).Nodup
theorem F2{n:Nat}{s s':Nat→Nat→Nat}(A:xU n s s'):∀l:List Nat,(∀i∈l,i<n*n)→l9 (l.map (uP n s s'))=some (l.map (mh n s s'))
 |[],_=>rfl
 |i::l,h=>by
  have hi:=h i (.head _)
  have h0:0<n:=by rcases aju n with e|e;(subst e;simp at hi);exact e
  have a1:=A.one (i/n) (i % n) (ahD hi) (agt _ h0)
  have a2:=A.two (i/n) (i % n) (ahD hi) (agt _ h0)
  have hp:rP (uP n s s' i)=some (mh n s s' i):=by
   unfold rP uP mh
   dsimp only
   rw[if_pos (by omega)]
  rw[afC,afC]
  unfold l9
  rw[hp,F2 A l fun j hj=>h j (.tail _ hj)]
theorem V6{m q:Int}(h0:0≤m) (h1:m<1000) (hq:q=m*m) (c:aa):bX (.int m) (.int m) c=.ok (.int q) c:=by
 unfold bX
 dsimp only
 rw[if_pos (by omega),hq]
theorem ne_self(N:Int) (c:aa):fC (.int N) (.int N) c=.ok (.bl false) c:=by simp
theorem eq_self(N:Int) (c:aa):bE (.int N) (.int N) c=.ok (.bl true) c:=by simp
theorem Wv{n:Nat}{s s':Nat→Nat→Nat}(h1:1≤n) (h7:n≤7) (A:xU n s s') (c:aa):sA [aB n s,aB n s'] c=.ok (.bl true) c:=by
 have hnn:n*n≤49:=Nat.mul_le_mul h7 h7
 refine l7 (n:=3) (b:=nq) ?_ rfl (fun k h=>by cases h)
 obtain⟨Q,hQ⟩:∃Q:Int,Q=((n*n:Nat):Int):=⟨_,rfl⟩
 have hml:bX (.int (n:Int)) (.int (n:Int)) c=.ok (.int Q) c:=by
  rw[hQ]
  exact V6 (m:=(n:Int)) (by omega) (by omega) (by simp) c
 have e0:aH 2 (au bX (aF aR (ao (ak 0) aq)) (aF aR (ao (ak 0) aq))) [some (aB n s),some (aB n s'),none] c=.ok (.nx [some (aB n s),some (aB n s'),some (.int Q)]) c:=kG (i:=2) (iH (f:=bX) (jb (d1:=ak 0) rfl (qg n s c)) (jb (d1:=ak 0) rfl (qg n s c)) hml)
 have t2:(2:Nat)≤sizeLine:=by decide
 have hc:=zT (d:=ak 2) (a:=bZ (ao (aA 2 gV (ao (ak 1) (ao (ak 0) aq))) (ao (aA 2 gV (ao (ak 2) (ao (ak 0) aq))) aq))) (pick:=[none,some 0,some 1]) (e:=[some (aB n s),some (aB n s'),some (.int Q)]) (E:=[some (aB n s),some (aB n s')]) (c:=c) (N:=Q) (n:=n*n) (uP n s s') rfl hQ (by omega) rfl (fun i hi=>by
  have g1:=tW (m:=gV) (d1:=ak 1) (d2:=ak 0) (e:=[some (.int (i:Int)),some (aB n s),some (aB n s')]) rfl rfl (Fo s h1 h7 hi rfl c)
  have g2:=tW (m:=gV) (d1:=ak 2) (d2:=ak 0) (e:=[some (.int (i:Int)),some (aB n s),some (aB n s')]) rfl rfl (Fo s' h1 h7 hi rfl c)
  simp only[LY,bT,g1,g2,bS,R.aD]
  rw[if_pos (by exact t2)]
  rfl)
 have hp:=F2 A (List.range (n*n)) fun i hi=>aft.mp hi
 have hf:c8 ((List.range (n*n)).map (mh n s s'))=(List.range (n*n)).map (mh n s s'):=Jc _ [] (by simpa using A.nd)
 have hs:qA (ao (aK (aW (ao (ak 2) aq)) [none,some 0,some 1] (az 0) aG (bZ (ao (aA 2 gV (ao (ak 1) (ao (ak 0) aq))) (ao (aA 2 gV (ao (ak 2) (ao (ak 0) aq))) aq)))) aq) [some (aB n s),some (aB n s'),some (.int Q)] c=.ok (.int Q) c:=by
  unfold qA
  simp only[bT,hc,bS,R.aD,dX,hp,hf,afy,af2]
  rw[if_pos (by omega),hQ]
 have hb:nq=aE (aH 2 (au bX (aF aR (ao (ak 0) aq)) (aF aR (ao (ak 0) aq)))) (aP (au bE (qA (ao (aK (aW (ao (ak 2) aq)) [none,some 0,some 1] (az 0) aG (bZ (ao (aA 2 gV (ao (ak 1) (ao (ak 0) aq))) (ao (aA 2 gV (ao (ak 2) (ao (ak 0) aq))) aq)))) aq)) (ak 2))):=rfl
 rw[show cS 3 [aB n s,aB n s']=[some (aB n s),some (aB n s'),none]from rfl,hb,bx e0]
 exact l6 (iH (f:=bE) hs (d2:=ak 2) (y:=.int Q) rfl (eq_self Q c))
theorem adi{n:Nat}{s s':Nat→Nat→Nat}(h1:1≤n) (h7:n≤7) (L:cg n s) (L':cg n s') (A:xU n s s') (c:aa):fP [aB n s,aB n s'] c=.ok (.bl true) c:=by
 have r1:∀{s:Nat→Nat→Nat},cg n s→dW [aB n s] c=.ok .aL c:=fun L=>by simp[dW,lI,yG L h1 h7 c]
 refine l7 (n:=2) (b:=nH) ?_ rfl (fun k h=>by cases h)
 have e0:bW (aA 1 dW (ao (ak 0) aq)) [some (aB n s),some (aB n s')] c=.ok (.nx [some (aB n s),some (aB n s')]) c:=by
  rw[nN,qD (m:=dW) (d1:=ak 0) rfl (r1 L)];rfl
 have e1:bW (aA 1 dW (ao (ak 1) aq)) [some (aB n s),some (aB n s')] c=.ok (.nx [some (aB n s),some (aB n s')]) c:=by
  rw[nN,qD (m:=dW) (d1:=ak 1) rfl (r1 L')];rfl
 have e2:bw (aM (au fC (aF aR (ao (ak 0) aq)) (aF aR (ao (ak 1) aq)))) fW bz [some (aB n s),some (aB n s')] c=.ok (.nx [some (aB n s),some (aB n s')]) c:=by
  rw[gH,jh,iH (f:=fC) (jb (d1:=ak 0) rfl (qg n s c)) (jb (d1:=ak 1) rfl (qg n s' c)) (ne_self _ c)]
  rfl
 have hb:nH=aE (bW (aA 1 dW (ao (ak 0) aq))) (aE (bW (aA 1 dW (ao (ak 1) aq))) (aE (bw (aM (au fC (aF aR (ao (ak 0) aq)) (aF aR (ao (ak 1) aq)))) fW bz) (aP (aA 2 sA (ao (ak 0) (ao (ak 1) aq)))))):=rfl
 rw[show cS 2 [aB n s,aB n s']=[some (aB n s),some (aB n s')]from rfl,hb,bx e0,bx e1,bx e2]
 exact l6 (tW (m:=sA) (d1:=ak 0) (d2:=ak 1) rfl rfl (Wv h1 h7 A c))
def Hq(n:Nat) (s:Nat→Nat→Nat):Bool:=(List.range n).all fun i=>decide (((List.range n).map (s i)).Nodup)&&decide (((List.range n).map fun j=>s j i).Nodup)&&(List.range n).all fun j=>Nat.blt (s i j) n
def JR(n:Nat) (s s':Nat→Nat→Nat) (i:Nat):Nat:=8*s (i/n) (i % n)+s' (i/n) (i % n)
def Gw(f:Fd):Bool:=(List.range (f.q-1)).all fun a=>Hq f.q (sF f (1+a))&&(List.range a).all fun b=>decide (((List.range (f.q*f.q)).map (JR f.q (sF f (1+a)) (sF f (1+b)))).Nodup)
theorem acX:((ck.filter fun f=>Nat.ble f.q 7).all Gw)=true:=by decide +kernel
theorem Gv{f:Fd}(h:f∈ck) (h7:f.q≤7):Gw f=true:=afG.mp acX f (agg.mpr ⟨h,Nat.ble_eq_true_of_le h7⟩)
theorem zN{n:Nat}{s:Nat→Nat→Nat}(h:Hq n s=true):cg n s∧∀x y,x<n→y<n→s x y<n:=by
 have h:=afG.mp h
 have hb:∀x y,x<n→y<n→s x y<n:=fun x y hx hy=>by
  have:=h x (aft.mpr hx)
  simp only[afE,afG]at this
  have h3:=this.2 y (aft.mpr hy)
  exact afH (agx _) (aj0 h3)
 refine⟨⟨fun i hi=>?_,fun i hi=>?_⟩,hb⟩
 ·have:=h i (aft.mpr hi)
  simp only[afE,decide_eq_true_eq]at this
  exact kL this.1.1 (fun x hx=>by
   obtain⟨j,hj,rfl⟩:=afx.mp hx
   exact aft.mpr (hb i j hi (aft.mp hj))) (by simp)
 ·have:=h i (aft.mpr hi)
  simp only[afE,decide_eq_true_eq]at this
  exact kL this.1.2 (fun x hx=>by
   obtain⟨j,hj,rfl⟩:=afx.mp hx
   exact aft.mpr (hb j i (aft.mp hj) hi)) (by simp)
end Ev
namespace Ev
open PySem L2 Fq
theorem Om:1000000<sizeLine:=by decide
def fT(n:Nat) (s t:Nat→Nat→Nat):Prop:=∀x y x' y',x<n→y<n→x'<n→y'<n→s x y=s x' y'→t x y=t x' y'→x=x'∧y=y'
theorem fT.symm{n:Nat}{s t:Nat→Nat→Nat}(h:fT n s t):fT n t s:=fun x y x' y' a b c d e f=>h x y x' y' a b c d f e
theorem fT.rows{n:Nat}{s t:Nat→Nat→Nat}(h:fT n s t) {os:List Nat}(ho:os.Perm (List.range n)):fT n (fun i k=>s (os.getD i 0) k) (fun i k=>t (os.getD i 0) k):=fun x y x' y' a b c d e f=>by
 have hl:=gP ho
 obtain⟨h1,h2⟩:=h _ y _ y' (uJ ho a) b (uJ ho c) d e f
 exact⟨getD_inj (ho.nodup_iff.mpr ahB) (by omega) (by omega) h1,h2⟩
theorem adj{n:Nat}{s t:Nat→Nat→Nat}(h1:1≤n) (h7:n≤7) (L:cg n s) (L':cg n t) (h:fT n s t):xU n s t:=by
 refine⟨fun x y hx hy=>by have:=L.lt hx hy;omega,fun x y hx hy=>by have:=L'.lt hx hy;omega,r8 fun i j hi hj e=>?_⟩
 unfold mh at e
 injection e with e1 e2
 injection e2 with e2 _
 have e1:s (i/n) (i % n)=s (j/n) (j % n):=by omega
 have e2:t (i/n) (i % n)=t (j/n) (j % n):=by omega
 obtain⟨q1,q2⟩:=h _ _ _ _ (ahD hi) (agt _ (by omega)) (ahD hj) (agt _ (by omega)) e1 e2
 rw[←aj4 i n,←aj4 j n,q1,q2]
theorem D8{n:Nat}{s t:Nat→Nat→Nat}(h1:1≤n) (h7:n≤7) (L:cg n s) (L':cg n t) (h:fT n s t) (c:aa):fP [aB n s,aB n t] c=.ok (.bl true) c:=adi h1 h7 L L' (adj h1 h7 L L' h) c
theorem zA{n:Nat}{f:Nat→Nat}(h:((List.range n).map f).Nodup) {i j:Nat}(hi:i<n) (hj:j<n) (e:f i=f j):i=j:=by
 have hp:=ag9.mp h
 have hg:=ahp.mp hp
 rcases ahY i j with q|q|q
 ·have:=hg i j (by simpa using hi) (by simpa using hj) q
  simp at this
  exact absurd e this
 ·exact q
 ·have:=hg j i (by simpa using hj) (by simpa using hi) q
  simp at this
  exact absurd e.symm this
theorem Jf{f:Fd}(h:f∈ck) (h7:f.q≤7) {a b:Nat}(ha:a<f.q-1) (hb:b<a):fT f.q (sF f (1+a)) (sF f (1+b)):=by
 have ho:=afG.mp (Gv h h7) a (aft.mpr ha)
 rw[afE]at ho
 have hn:=of_decide_eq_true (afG.mp ho.2 b (aft.mpr hb))
 intro x y x' y' hx hy hx' hy' e1 e2
 have q0:0<f.q:=by omega
 have bd:∀x y,x<f.q→y<f.q→x*f.q+y<f.q*f.q:=fun x y hx hy=>by
  have:x*f.q+f.q≤f.q*f.q:=by
   rw[←ait]
   exact ajY _ hx
  omega
 have dv:∀x y,y<f.q→(x*f.q+y)/f.q=x∧(x*f.q+y) % f.q=y:=fun x y hy=>by
  constructor
  ·rw[aiu,Nat.mul_add_div q0,Nat.div_eq_of_lt hy];omega
  ·rw[aiu,Nat.mul_add_mod,Nat.mod_eq_of_lt hy]
 have:=zA hn (bd x y hx hy) (bd x' y' hx' hy') (by
  unfold JR
  rw[(dv x y hy).1,(dv x y hy).2,(dv x' y' hy').1,(dv x' y' hy').2,e1,e2])
 have d1:=dv x y hy
 have d2:=dv x' y' hy'
 rw[this]at d1
 exact⟨d1.1.symm.trans d2.1,d1.2.symm.trans d2.2⟩
theorem Je{f:Fd}(h:f∈ck) (h7:f.q≤7) {a:Nat}(ha:a<f.q-1):cg f.q (sF f (1+a)):=by
 have ho:=afG.mp (Gv h h7) a (aft.mpr ha)
 rw[afE]at ho
 exact(zN ho.1).1
theorem ZC{f:Fd}(h:f∈ck) (h7:f.q≤7) {a b:Nat}(ha:a<f.q-1) (hb:b<f.q-1) (hne:a≠b):fT f.q (sF f (1+a)) (sF f (1+b)):=by
 rcases Nat.lt_or_gt_of_ne hne with q|q
 ·exact(Jf h h7 hb q).symm
 ·exact Jf h h7 ha q
def jj(n:Nat) (t:Nat→Nat→Nat) (z:Nat):List Nat:=(List.range n).map fun i=>dI ((List.range n).map (t i)) z
theorem nX{n:Nat}{t:Nat→Nat→Nat}(L:cg n t) {z i:Nat}(hz:z<n) (hi:i<n):((List.range n).map (t i)).findIdx? (fun x=>x==z)=some (dI ((List.range n).map (t i)) z)∧dI ((List.range n).map (t i)) z<n∧t i (dI ((List.range n).map (t i)) z)=z:=by
 have hm:z∈(List.range n).map (t i):=(L.row i hi).mem_iff.mpr (aft.mpr hz)
 obtain⟨h1,h2,h3⟩:=Bl hm
 have h2:dI ((List.range n).map (t i)) z<n:=by simpa using h2
 refine⟨h1,h2,?_⟩
 rw[afu,afS,agk h2]at h3
 exact h3
theorem Fp{n:Nat}{t:Nat→Nat→Nat}{z i:Nat}(hi:i<n):(jj n t z).getD i 0=dI ((List.range n).map (t i)) z:=by
 unfold jj
 rw[afu,afS,agk hi]
 rfl
theorem Hl{n:Nat}{s:Nat→Nat→Nat}{p:List Nat}(hp:Pre n n p) (hg:Good s p):∀k,k≤n→p.take k∈bq n s k [[]]
 |0,_=>by simp[bq]
 |k+1,hk=>by
  have ih:=Hl hp hg k (by omega)
  have hl:=hp.1
  rw[mS]
  refine ahC.mpr ⟨p.take k,ih,?_⟩
  unfold c7
  refine afx.mpr ⟨p[k]'(by omega),agg.mpr ⟨aft.mpr (hp.2 _ (afX _)),?_⟩,(aiV (by omega)).symm⟩
  unfold jl
  rw[afE,ahe,ahe,decide_eq_false_iff_not,decide_eq_false_iff_not]
  have tl:(p.take k).length=k:=by rw[ahK];omega
  constructor
  ·intro hm
   obtain⟨j,hj,e⟩:=agI hm
   rw[aiH]at e
   have hjk:j<k:=by rw[tl]at hj;exact hj
   have:=ahp.mp hg.1 j k (by omega) (by omega) hjk
   exact this e
  ·intro hm
   rw[tl]at hm
   unfold sgn at hm
   rw[tl]at hm
   obtain⟨j,hj,e⟩:=afx.mp hm
   have hj:=aft.mp hj
   have sN:=hg.2
   unfold sgn at sN
   rw[hl]at sN
   have e2:s j (p.getD j 0)=s k (p.getD k 0):=by
    rw[afu,ahn,if_pos hj]at e
    rw[afu,e,afu,afz (by omega)]
    rfl
   have:=zA sN (by omega) (by omega) e2
   omega
theorem Ou{n:Nat}{s t:Nat→Nat→Nat}(L:cg n t) (h:fT n s t) {z:Nat}(hz:z<n):jj n t z∈bq n s n [[]]:=by
 have hl:(jj n t z).length=n:=by simp[jj]
 have hp:Pre n n (jj n t z):=⟨hl,fun x hx=>by
  obtain⟨i,hi,rfl⟩:=afx.mp hx
  exact(nX L hz (aft.mp hi)).2.1⟩
 have YQ:∀k,k<n→∀i j,i<n→j<n→t i k=t j k→i=j:=fun k hk i j hi hj e=>zA (f:=fun i=>t i k) ((L.col k hk).nodup_iff.mpr ahB) hi hj e
 have hg:Good s (jj n t z):=by
  constructor
  ·refine r8 fun i j hi hj e=>?_
   obtain⟨_,a2,a3⟩:=nX L hz hi
   obtain⟨_,b2,b3⟩:=nX L hz hj
   rw[←e]at b3
   exact YQ _ a2 i j hi hj (a3.trans b3.symm)
  ·unfold sgn
   rw[hl]
   refine r8 fun i j hi hj e=>?_
   rw[Fp hi,Fp hj]at e
   obtain⟨_,a2,a3⟩:=nX L hz hi
   obtain⟨_,b2,b3⟩:=nX L hz hj
   exact(h i _ j _ hi a2 hj b2 e (a3.trans b3.symm)).1
 have:=Hl hp hg n (afs _)
 rwa[ahA (by omega)]at this
theorem XG{ns:List Int}{k:Int}{j:Nat}{c:aa}(h:ns.findIdx? (fun i=>i==k)=some j):(gx (ak 0) (ak 1)) [some (.tup (ns.map D.int)),some (.int k)] c=.ok (.int (j:Nat)) c:=by
 have hh:ju (ns.map D.int)=some ns:=Bp ns
 unfold gx
 simp only[cF,gz,gs,R.aD,hh,h]
theorem Wq{n:Nat}{t:Nat→Nat→Nat}(L:cg n t) (h8:n<8) {z:Nat}(hz:z<n) {Z:Int}(hZ:Z=z) (c:aa):iY [aB n t,.int Z] c=.ok (aQ (jj n t z)) c:=by
 have sz:=Om
 refine l7 (n:=2) (b:=nu) ?_ (EN _) (fun k h=>by cases h)
 unfold nu
 refine l6 (jb (x:=.lst ((List.range n).map fun i=>D.int (dI ((List.range n).map (t i)) z:Nat))) ?_ ?_)
 ·have hc:=kT (E:=[some (.int Z)]) (a:=gx (ak 0) (ak 1)) (c:=c) (fun i=>D.tup (nD ((List.range n).map (t i)))) (fun i=>D.int (dI ((List.range n).map (t i)) z:Nat)) (List.range n) none [] (fun i hi=>by
   have hi:=aft.mp hi
   rw[pY]
   refine XG ?_
   rw[hZ,Jh]
   exact(nX L hz hi).1)
  rw[afP]at hc
  have hd:b9 (ak 0) (cS 2 [aB n t,.int Z]) c=.ok ⟨(List.range n).map fun i=>D.tup (nD ((List.range n).map (t i))),fun _=>True⟩ c:=rfl
  rw[cV,hd,R.aD]
  dsimp only
  rw[if_pos (by simp;omega)]
  show(br (fun _=>True) (az 0) aG (gx (ak 0) (ak 1)) ((List.range n).map fun i=>D.tup (nD ((List.range n).map (t i)))) [none,some (.int Z)] [] c).bind _=_
  rw[hc]
  rfl
 ·have:=yz ((List.range n).map fun i=>D.int (dI ((List.range n).map (t i)) z:Nat)) c (by simp;omega)
  rw[this]
  unfold aQ jj
  rw[zH]
theorem wV(p:List Nat):dg (aQ p)=some (.tuple ((p.map fun k:Nat=>(k:Int)).map PyData.int)):=by
 show(match c9 (nD p)with|some r=>some (PyData.tuple r)|none=>none)=_
 rw[pY,CJ]
theorem Ih{p:List Nat}:∀(L:List (List Nat)),p∈L→∃r,c9 (L.map aQ)=some r∧r.any (fun z=>z.eqv (.tuple ((p.map fun k:Nat=>(k:Int)).map PyData.int)))=true
 |[],h=>by cases h
 |q::L,h=>by
  have hd:∀L:List (List Nat),∃r,c9 (L.map aQ)=some r:=fun L=>by
   induction L with
   |nil=>exact⟨[],rfl⟩
   |cons q L ih =>
    obtain⟨r,e⟩:=ih
    refine⟨.tuple ((q.map fun k:Nat=>(k:Int)).map PyData.int)::r,?_⟩
    rw[afC]
    unfold c9
    rw[wV,e]
  rcases afv.mp h with rfl|h
  ·obtain⟨r,e⟩:=hd L
   refine⟨.tuple ((p.map fun k:Nat=>(k:Int)).map PyData.int)::r,?_,?_⟩
   ·rw[afC]
    unfold c9
    rw[wV,e]
   ·rw[List.any_cons,PyData.eqv,wR,decide_eq_true rfl,Bool.true_or]
  ·obtain⟨r,e,ha⟩:=Ih L h
   refine⟨.tuple ((q.map fun k:Nat=>(k:Int)).map PyData.int)::r,?_,?_⟩
   ·rw[afC]
    unfold c9
    rw[wV,e]
   ·rw[List.any_cons,ha,Bool.or_true]
theorem Ye{p:List Nat}{L:List (List Nat)}(h:p∈L) (c:aa):inD (aQ p) (.lst (L.map aQ)) c=.ok (.bl true) c:=by
 obtain⟨r,e,ha⟩:=Ih L h
 have h1:eX c (aQ p)=some (.tuple ((p.map fun k:Nat=>(k:Int)).map PyData.int)):=wV p
 have h2:eX c (.lst (L.map aQ))=some (.list r):=by
  show(match c9 (L.map aQ)with|some r=>some (PyData.list r)|none=>none)=_
  rw[e]
 unfold inD
 rw[h1,h2]
 dsimp only
 rw[if_pos (by rw[PyData.depth,Jv];decide),ha]
end Ev
namespace Ev
open PySem L2 Fq
theorem Jm{l:List PyData}(h:∀p∈l,p.eqv p=true):PyData.eqvAll l l=true:=by
 induction l with
 |nil=>rfl
 |cons p l ih =>
  simp only[PyData.eqvAll,h p (.head _),ih (fun q hq=>h q (.tail _ hq)),aiU]
theorem Jw{l:List PyData}{n:Nat}(h:∀p∈l,p.depth≤n):PyData.depthAll l≤n:=by
 induction l with
 |nil=>simp[PyData.depthAll]
 |cons p l ih =>
  have h1:=h p (.head _)
  have h2:=ih (fun q hq=>h q (.tail _ hq))
  simp only[PyData.depthAll]
  omega
def gZ(l:List Nat):PyData:=.tuple (l.map fun n:Nat=>PyData.int (n:Int))
theorem aau(l:List Nat):(gZ l).eqv (gZ l)=true:=by
 unfold gZ
 rw[PyData.eqv]
 exact Jm fun p hp=>by
  obtain⟨k,_,rfl⟩:=afx.mp hp
  simp[PyData.eqv]
theorem aav(l:List Nat):(gZ l).depth≤1:=by
 unfold gZ
 have:=Jw (l:=l.map fun n:Nat=>PyData.int (n:Int)) (n:=0) (fun p hp=>by
  obtain⟨k,_,rfl⟩:=afx.mp hp
  simp[PyData.depth])
 simp only[PyData.depth]
 omega
theorem JB:∀ls:List (List Nat),c9 (ls.map fun l=>D.tup (nD l))=some (ls.map gZ)
 |[]=>rfl
 |l::ls=>by
  show(match dg (.tup (nD l)),c9 (ls.map fun l=>D.tup (nD l))with|some a,some r=>some (a::r)|_,_=>none)=_
  rw[JB ls]
  have:dg (.tup (nD l))=some (gZ l):=by
   show(match c9 (nD l)with|some r=>some (PyData.tuple r)|none=>none)=_
   rw[wX]
   rfl
  rw[this]
  rfl
theorem wW(n:Nat) (t:Nat→Nat→Nat) (c:aa):eX c (aB n t)=some (.tuple (((List.range n).map fun i=>(List.range n).map (t i)).map gZ)):=by
 show(match c9 ((List.range n).map fun i=>D.tup (nD ((List.range n).map (t i))))with|some r=>some (PyData.tuple r)|none=>none)=_
 have:=JB ((List.range n).map fun i=>(List.range n).map (t i))
 rw[afY]at this
 rw[show((List.range n).map fun i=>D.tup (nD ((List.range n).map (t i))))=(List.range n).map ((fun l=>D.tup (nD l)) ∘ fun i=>(List.range n).map (t i))from rfl,this]
theorem qw(n:Nat) (t:Nat→Nat→Nat):(PyData.tuple (((List.range n).map fun i=>(List.range n).map (t i)).map gZ)).depth≤64:=by
 have:=Jw (l:=((List.range n).map fun i=>(List.range n).map (t i)).map gZ) (n:=1) (fun p hp=>by
  obtain⟨l,_,rfl⟩:=afx.mp hp
  exact aav l)
 simp only[PyData.depth]
 omega
theorem Fy(n:Nat) (t:Nat→Nat→Nat):(PyData.tuple (((List.range n).map fun i=>(List.range n).map (t i)).map gZ)).eqv (.tuple (((List.range n).map fun i=>(List.range n).map (t i)).map gZ))=true:=by
 rw[PyData.eqv]
 exact Jm fun p hp=>by
  obtain⟨l,_,rfl⟩:=afx.mp hp
  exact aau l
theorem Vj(n m:Nat) (s t:Nat→Nat→Nat) (c:aa):∃b,d9 (aB n s) (aB m t) c=.ok (.bl b) c:=by
 unfold d9
 rw[wW,wW]
 dsimp only
 rw[if_pos ⟨qw _ _,qw _ _⟩]
 exact⟨_,rfl⟩
theorem Vh(n:Nat) (t:Nat→Nat→Nat) (c:aa):d9 (aB n t) (aB n t) c=.ok (.bl false) c:=by
 unfold d9
 rw[wW]
 dsimp only
 rw[if_pos ⟨qw _ _,qw _ _⟩,Fy]
 rfl
theorem ZL(n:Nat) (t:Nat→Nat→Nat) (c:aa):lD (aB n t) (aB n t) c=.ok (.bl true) c:=by
 unfold lD
 rw[wW]
 dsimp only
 rw[if_pos ⟨qw _ _,qw _ _⟩,Fy]
theorem Zm{f:Fd}(h:f∈ck) {N:Int}(hN:N=f.q) (h7:N≤7) (c:aa):qa [.int N] c=.ok (.lst (FS f)) c:=by
 have sz:=uG
 have q2:=(iB h).q2
 have hf:mP [.int N] c=.ok (.bl true) c:=by rw[hN];exact HW h c
 have h1:tN (ao (dC (.int 1)) (ao (ak 0) aq)) [some (.int N)] c=.ok ⟨bg 1 N,fun _=>True⟩ c:=by
  simp
  omega
 have hl:(bg 1 N).length=f.q-1:=by rw[yX];simp;omega
 have hr:bg 1 N=(List.range (f.q-1)).map fun i:Nat=>D.int (((1+i:Nat)):Int):=by
  rw[yX,show(N-1).toNat=f.q-1 by omega]
  refine agR fun i _=>?_
  congr 1
 have YR:=Dc (c:=c) (E:=[some (.int N)]) (a:=aA 2 qb (ao (ak 1) (ao (ak 0) aq))) (fun i:Nat=>D.int (((1+i:Nat)):Int)) (fun a=>aB f.q (sF f (1+a))) (List.range (f.q-1)) none [] (fun i hi=>by
  have hi:=aft.mp hi
  refine tW (m:=qb) (d1:=ak 1) (d2:=ak 0) rfl rfl ?_
  rw[hN]
  exact Zn h (by omega) c)
 have hg:lC (.int N) (.int 7) c=.ok (.bl false) c:=by
  have:¬N>7:=by omega
  simp[this]
 have e0:(bw (fj (bR (aM (aA 1 mP (ao (ak 0) aq)))) (aM (au lC (ak 0) (dC (.int 7))))) fW bz) [some (.int N)] c=.ok (.nx [some (.int N)]) c:=by simp[hf,hg,h7]
 have e1:(aP (aK (tN (ao (dC (.int 1)) (ao (ak 0) aq))) [none,some 0] (az 0) aG (aA 2 qb (ao (ak 1) (ao (ak 0) aq))))) [some (.int N)] c=.ok (.rt (.lst (FS f))) c:=by
  refine l6 ?_
  rw[cV,h1,R.aD]
  dsimp only
  rw[if_pos (by rw[hl];omega),show cA [none,some 0] [some (.int N)]=[none,some (.int N)]from rfl,hr,YR,R.aD]
  rfl
 refine l7 (n:=1) (b:=nB) ?_ (by unfold noRef;exact U5 f) (fun k h=>by cases h)
 unfold nB
 rw[show cS 1 [D.int N]=[some (.int N)]from rfl,bx e0]
 exact e1
theorem acV(n:Nat) (c:aa):dM [.lst ((List.range n).map fun _=>D.bl true)] c=.ok (.bl true) c:=by
 have:lH ((List.range n).map fun _=>D.bl true)=some ((List.range n).map fun _=>true):=by
  have:=DW ((List.range n).map fun _=>true)
  rw[afY]at this
  exact this
 unfold dM l8
 simp only[this,all_true]
theorem KQ{n:Nat}{s t:Nat→Nat→Nat}(L':cg n t) (h:fT n s t) (h8:n<8) {N:Int}(hN:N=n) {d:af}{pick:List (Option Nat)}{e:Ev}{c:aa}(hd:d e c=.ok (.int N) c) (hp:cA pick e=[none,some (.lst ((bq n s n [[]]).map aQ)),some (aB n t)]) :
  aF dM (ao (aK (aW (ao d aq)) pick (az 0) aG (au inD (aA 2 iY (ao (ak 2) (ao (ak 0) aq))) (ak 1))) aq) e c=.ok (.bl true) c:=by
 refine jb (zT (N:=N) (n:=n) (E:=[some (.lst ((bq n s n [[]]).map aQ)),some (aB n t)]) (fun _=>D.bl true) hd hN (by omega) hp fun z hz=>?_) (acV n c)
 exact iH (f:=inD) (tW (m:=iY) (d1:=ak 2) (d2:=ak 0) rfl rfl (Wq L' h8 hz rfl c)) (d2:=ak 1) rfl (Ye (Ou L' h hz) c)
theorem FO{n:Nat}{s:Nat→Nat→Nat}{os:List Nat}(ho:os.Perm (List.range n)) (h8:n<8) {d:af}{pick:List (Option Nat)}{e:Ev}{c:aa}(hd:d e c=.ok (.tup (nD os)) c) (hp:cA pick e=[none,some (aB n s)]) :
  aF bH (ao (aK (b9 d) pick (az 0) aG (au aJ (ak 1) (ak 0))) aq) e c=.ok (aB n fun i k=>s (os.getD i 0) k) c:=by
 have sz:=uG
 have hl:=gP ho
 have hs:b9 d e c=.ok ⟨nD os,fun _=>True⟩ c:=by unfold b9;rw[hd,R.aD]
 have hc:=kT (E:=[some (aB n s)]) (a:=au aJ (ak 1) (ak 0)) (c:=c) (fun i:Nat=>D.int (i:Int)) (fun i=>D.tup (nD ((List.range n).map (s i)))) os none [] (fun i hi=>by
  have hi:i<n:=pO ho hi
  refine iH (f:=aJ) (d1:=ak 1) (d2:=ak 0) rfl rfl ?_
  unfold aB
  exact Bk (N:=(i:Int)) rfl (by rw[afS,agk hi];rfl) c)
 rw[afP]at hc
 refine jb (x:=.lst (os.map fun i=>D.tup (nD ((List.range n).map (s i))))) ?_ ?_
 ·rw[cV,hs,R.aD]
  dsimp only
  rw[if_pos (by simp;omega),hp,hc,R.aD]
 ·rw[yz _ c (by simp;omega),yH hl]
theorem ZD{y:Int}(y0:0≤y) (y1:y<5):∃f∈ck,f.q≤7∧cI [D.int 2,.int 3,.int 4,.int 5,.int 7] y=some (.int (f.q:Int)):=by
 have:y=0∨y=1∨y=2∨y=3∨y=4:=by omega
 rcases this with rfl|rfl|rfl|rfl|rfl
 ·exact⟨ck[0],afX _,by decide,rfl⟩
 ·exact⟨ck[1],afX _,by decide,rfl⟩
 ·exact⟨ck[2],afX _,by decide,rfl⟩
 ·exact⟨ck[3],afX _,by decide,rfl⟩
 ·exact⟨ck[4],afX _,by decide,rfl⟩
def s1:Nat→Nat→Nat:=fun _ _=>0
def s2:Nat→Nat→Nat:=fun i k=>(i+k) % 2
theorem Fi:aB 1 s1=.tup [.tup [.int 0]]:=rfl
theorem Nz:aB 2 s2=.tup [.tup [.int 0,.int 1],.tup [.int 1,.int 0]]:=rfl
theorem adl:jB 1 s1=.tup [.tup [.int 0]]:=rfl
theorem adk:jB 2 s2=.aL:=rfl
theorem NF(c:aa):gn [.tup [.tup [.int 0]]] c=.ok (.tup [.tup [.int 0]]) c:=by
 have:=yI (zN (n:=1) (s:=s1) (by decide)).1 (by decide) (by decide) c
 rw[adl,Fi]at this
 exact this
theorem ND(c:aa):gn [.tup [.tup [.int 0,.int 1],.tup [.int 1,.int 0]]] c=.ok .aL c:=by
 have:=yI (zN (n:=2) (s:=s2) (by decide)).1 (by decide) (by decide) c
 rw[adk,Nz]at this
 exact this
end Ev
namespace Ev
open PySem L2 Fq
def uE:ah:=(aH 2 (aA 1 mJ (ao (aA 2 mL (ao (ak 0) (ao (ak 1) aq))) aq)))
def st1:ah:=(aH 3 (aA 2 kR (ao (ak 2) (ao (au cy (dC (.int 1)) (aA 2 cH (ao (ak 2) (ao (dC (.int 5)) aq)))) aq))))
def st2:ah:=(aH 4 (aF aR (ao (ak 3) aq)))
def st3:ah:=(aH 5 (aA 1 gn (ao (ak 3) aq)))
def l0:ah:=(bw (aM (au sI (ak 5) (dC .aL))) (aE (aH 6 (aA 1 fO (ao (ak 3) aq))) (aE (bw (bR (aM (aF dM (ao (aK (aW (ao (ak 4) aq)) [none,some 6,some 5] (az 0) aG (au inD (aA 2 iY (ao (ak 2) (ao (ak 0) aq))) (ak 1))) aq)))) (aP (dC (.bl false))) bz) (aE (aH 7 (aA 2 dF (ao (ak 2) (ao (ak 4) aq)))) (aE (aH 8 (aF bH (ao (aK (b9 (ak 7)) [none,some 3] (az 0) aG (au aJ (ak 1) (ak 0))) aq))) (aE (aH 9 (aF bH (ao (aK (b9 (ak 7)) [none,some 5] (az 0) aG (au aJ (ak 1) (ak 0))) aq))) (bw (fj (bR (aM (aA 2 fP (ao (ak 3) (ao (ak 5) aq))))) (fj (bR (aM (aA 2 fP (ao (ak 5) (ao (ak 3) aq))))) (bR (aM (aA 2 fP (ao (ak 8) (ao (ak 9) aq))))))) (aP (dC (.bl false))) bz)))))) bz)
def iu:ah:=(aH 10 (au aJ (b6 (ao (dC (.int 2)) (ao (dC (.int 3)) (ao (dC (.int 4)) (ao (dC (.int 5)) (ao (dC (.int 7)) aq)))))) (aA 2 cH (ao (ak 2) (ao (dC (.int 5)) aq)))))
def Fe:ah:=(aH 11 (aA 1 qa (ao (ak 10) aq)))
def lZ:ah:=(aH 12 (au aJ (ak 11) (aA 2 cH (ao (ak 2) (ao (au eT (ak 10) (dC (.int 1))) aq)))))
def Fc:ah:=(aH 6 (aA 1 fO (ao (ak 12) aq)))
def yF:ah:=(cz (bJ (ak 11)) (az 3) (bw (gf (aM (au d9 (ak 3) (ak 12))) (bR (aM (aF dM (ao (aK (aW (ao (ak 10) aq)) [none,some 6,some 3] (az 0) aG (au inD (aA 2 iY (ao (ak 2) (ao (ak 0) aq))) (ak 1))) aq))))) (aP (dC (.bl false))) bz))
def FN:ah:=(aH 6 (aA 1 fO (ao (ak 3) aq)))
def yS:ah:=(bw (bR (aM (aF dM (ao (aK (aW (ao (ak 4) aq)) [none,some 6,some 5] (az 0) aG (au inD (aA 2 iY (ao (ak 2) (ao (ak 0) aq))) (ak 1))) aq)))) (aP (dC (.bl false))) bz)
def yR:ah:=(aH 7 (aA 2 dF (ao (ak 2) (ao (ak 4) aq))))
def FL:ah:=(aH 8 (aF bH (ao (aK (b9 (ak 7)) [none,some 3] (az 0) aG (au aJ (ak 1) (ak 0))) aq)))
def FJ:ah:=(aH 9 (aF bH (ao (aK (b9 (ak 7)) [none,some 5] (az 0) aG (au aJ (ak 1) (ak 0))) aq)))
def yQ:ah:=(bw (fj (bR (aM (aA 2 fP (ao (ak 3) (ao (ak 5) aq))))) (fj (bR (aM (aA 2 fP (ao (ak 5) (ao (ak 3) aq))))) (bR (aM (aA 2 fP (ao (ak 8) (ao (ak 9) aq))))))) (aP (dC (.bl false))) bz)
def qd:ah:=(bw (gf (aM (au d9 (ak 3) (ak 12))) (bR (aM (aF dM (ao (aK (aW (ao (ak 10) aq)) [none,some 6,some 3] (az 0) aG (au inD (aA 2 iY (ao (ak 2) (ao (ak 0) aq))) (ak 1))) aq))))) (aP (dC (.bl false))) bz)
def zV:ah:=(aP (gc (au lD (aA 1 gn (ao (bZ (ao (bZ (ao (dC (.int 0)) aq)) aq)) aq)) (bZ (ao (bZ (ao (dC (.int 0)) aq)) aq))) (au qh (aA 1 gn (ao (bZ (ao (bZ (ao (dC (.int 0)) (ao (dC (.int 1)) aq))) (ao (bZ (ao (dC (.int 1)) (ao (dC (.int 0)) aq))) aq))) aq)) (dC .aL))))
def rS:ah:=aE uE (aE st1 (aE st2 (aE st3 (aE l0 (aE iu (aE Fe (aE lZ (aE Fc yF))))))))
section
variable {a0 a1 a2 a3 a4 a5 a6 a7 a8 a9 cQ cE cP:Option D}
theorem g0{ns:List Int}{i x:Int}{j:Nat}{c c':aa}(hx:mL [.cG ns,.int i] c=.ok (.int x) c) (hp:mJ [.int x] c=.ok (.ref j) c'):uE [some (.cG ns),some (.int i),a2,a3,a4,a5,a6,a7,a8,a9,cQ,cE,cP] c=.ok (.nx [some (.cG ns),some (.int i),some (.ref j),a3,a4,a5,a6,a7,a8,a9,cQ,cE,cP]) c':=by simp[uE,hx,hp]
theorem g1{j:Nat}{k:Int}{S:D}{c c1 c':aa}(ht:cH [.ref j,.int 5] c=.ok (.int k) c1) (h:kR [.ref j,.int (1+k)] c1=.ok S c'):st1 [a0,a1,some (.ref j),a3,a4,a5,a6,a7,a8,a9,cQ,cE,cP] c=.ok (.nx [a0,a1,some (.ref j),some S,a4,a5,a6,a7,a8,a9,cQ,cE,cP]) c':=by simp[st1,ht,h]
theorem g2{S:D}{N:Int}{c:aa}(h:aR [S] c=.ok (.int N) c):st2 [a0,a1,a2,some S,a4,a5,a6,a7,a8,a9,cQ,cE,cP] c=.ok (.nx [a0,a1,a2,some S,some (.int N),a5,a6,a7,a8,a9,cQ,cE,cP]) c:=kG (i:=4) (jb (d1:=ak 3) rfl h)
theorem g3{S Z:D}{c:aa}(h:gn [S] c=.ok Z c):st3 [a0,a1,a2,some S,a4,a5,a6,a7,a8,a9,cQ,cE,cP] c=.ok (.nx [a0,a1,a2,some S,a4,some Z,a6,a7,a8,a9,cQ,cE,cP]) c:=kG (i:=5) (qD (m:=gn) (d1:=ak 3) rfl h)
theorem f0{S Z:D}{c:aa}(h:fO [S] c=.ok Z c):FN [a0,a1,a2,some S,a4,a5,a6,a7,a8,a9,cQ,cE,cP] c=.ok (.nx [a0,a1,a2,some S,a4,a5,some Z,a7,a8,a9,cQ,cE,cP]) c:=kG (i:=6) (qD (m:=fO) (d1:=ak 3) rfl h)
theorem f1{n:Nat}{s t:Nat→Nat→Nat}(L':cg n t) (h:fT n s t) (h8:n<8) {N:Int}(hN:N=n) {c:aa}:yS [a0,a1,a2,a3,some (.int N),some (aB n t),some (.lst ((bq n s n [[]]).map aQ)),a7,a8,a9,cQ,cE,cP] c=.ok (.nx [a0,a1,a2,a3,some (.int N),some (aB n t),some (.lst ((bq n s n [[]]).map aQ)),a7,a8,a9,cQ,cE,cP]) c:=by
 unfold yS
 rw[gH,rB,jh,KQ L' h h8 hN (d:=ak 4) rfl rfl]
 rfl
theorem f2{j:Nat}{N:Int}{T:D}{c c':aa}(h:dF [.ref j,.int N] c=.ok T c'):yR [a0,a1,some (.ref j),a3,some (.int N),a5,a6,a7,a8,a9,cQ,cE,cP] c=.ok (.nx [a0,a1,some (.ref j),a3,some (.int N),a5,a6,some T,a8,a9,cQ,cE,cP]) c':=by simp[yR,h]
theorem f3{n:Nat}{s:Nat→Nat→Nat}{os:List Nat}(ho:os.Perm (List.range n)) (h8:n<8) {c:aa}:FL [a0,a1,a2,some (aB n s),a4,a5,a6,some (.tup (nD os)),a8,a9,cQ,cE,cP] c=.ok (.nx [a0,a1,a2,some (aB n s),a4,a5,a6,some (.tup (nD os)),some (aB n fun i k=>s (os.getD i 0) k),a9,cQ,cE,cP]) c:=kG (i:=8) (FO ho h8 (d:=ak 7) rfl rfl)
theorem f4{n:Nat}{t:Nat→Nat→Nat}{os:List Nat}(ho:os.Perm (List.range n)) (h8:n<8) {c:aa}:FJ [a0,a1,a2,a3,a4,some (aB n t),a6,some (.tup (nD os)),a8,a9,cQ,cE,cP] c=.ok (.nx [a0,a1,a2,a3,a4,some (aB n t),a6,some (.tup (nD os)),a8,some (aB n fun i k=>t (os.getD i 0) k),cQ,cE,cP]) c:=kG (i:=9) (FO ho h8 (d:=ak 7) rfl rfl)
theorem f5{S Z O Q:D}{c:aa}(h1:fP [S,Z] c=.ok (.bl true) c) (h2:fP [Z,S] c=.ok (.bl true) c) (h3:fP [O,Q] c=.ok (.bl true) c):yQ [a0,a1,a2,some S,a4,some Z,a6,a7,some O,some Q,cQ,cE,cP] c=.ok (.nx [a0,a1,a2,some S,a4,some Z,a6,a7,some O,some Q,cQ,cE,cP]) c:=by simp[yQ,h1,h2,h3]
theorem Zk{c:aa}:l0 [a0,a1,a2,a3,a4,some .aL,a6,a7,a8,a9,cQ,cE,cP] c=.ok (.nx [a0,a1,a2,a3,a4,some .aL,a6,a7,a8,a9,cQ,cE,cP]) c:=rfl
theorem g4{j m n:Nat}{s:Nat→Nat→Nat}{N:Int}{c:aa}(P:dP j m c) (L:cg n s) (h1:1≤n) (h5:n≤5) (hN:N=n):∃w6 w7 w8 w9 c',dP j m c'∧l0 [a0,a1,some (.ref j),some (aB n s),some (.int N),some (jB n s),a6,a7,a8,a9,cQ,cE,cP] c=.ok (.nx [a0,a1,some (.ref j),some (aB n s),some (.int N),some (jB n s),w6,w7,w8,w9,cQ,cE,cP]) c':=by
 have sV:=sG (n:=n) (s:=s) n
 unfold jB
 cases hW:fF n s n [[]]with
 |nil=>exact⟨a6,a7,a8,a9,c,P,Zk⟩
 |cons ch r =>
  rw[hW]at sV
  have C:=sV ch (.head _)
  have L':=C.WG
  have J:fT n s (tS ch):=fun _ _ _ _ q1 q2 q3 q4 q5 q6=>C.adh q1 q2 q3 q4 q5 q6
  obtain⟨os,c1,ho,P1,t1⟩:=uX P h1 (by omega)
  rw[←hN]at t1
  refine⟨some (.lst ((bq n s n [[]]).map aQ)),some (.tup (nD os)),some (aB n fun i k=>s (os.getD i 0) k),some (aB n fun i k=>tS ch (os.getD i 0) k),c1,P1,?_⟩
  have e0:l0 [a0,a1,some (.ref j),some (aB n s),some (.int N),some (aB n (tS ch)),a6,a7,a8,a9,cQ,cE,cP] c=(aE FN (aE yS (aE yR (aE FL (aE FJ yQ))))) [a0,a1,some (.ref j),some (aB n s),some (.int N),some (aB n (tS ch)),a6,a7,a8,a9,cQ,cE,cP] c:=rfl
  exact e0.trans ((bx (f0 (C6 L h1 (by omega) c))).trans ((bx (f1 L' J (by omega) hN)).trans ((bx (f2 t1)).trans ((bx (f3 ho (by omega))).trans ((bx (f4 ho (by omega))).trans (f5 (D8 h1 (by omega) L L' J c1) (D8 h1 (by omega) L' L J.symm c1) (D8 h1 (by omega) (L.rows ho) (L'.rows ho) (J.rows ho) c1)))))))
theorem g5{j:Nat}{y N:Int}{c c1:aa}(ht:cH [.ref j,.int 5] c=.ok (.int y) c1) (hf:cI [D.int 2,.int 3,.int 4,.int 5,.int 7] y=some (.int N)):iu [a0,a1,some (.ref j),a3,a4,a5,a6,a7,a8,a9,cQ,cE,cP] c=.ok (.nx [a0,a1,some (.ref j),a3,a4,a5,a6,a7,a8,a9,some (.int N),cE,cP]) c1:=by
 have h5:(5:Nat)≤sizeLine:=by decide
 simp[iu,ht,hf,h5]
theorem g6{N:Int}{Z:D}{c:aa}(h:qa [.int N] c=.ok Z c):Fe [a0,a1,a2,a3,a4,a5,a6,a7,a8,a9,some (.int N),cE,cP] c=.ok (.nx [a0,a1,a2,a3,a4,a5,a6,a7,a8,a9,some (.int N),some Z,cP]) c:=kG (i:=11) (qD (m:=qa) (d1:=ak 10) rfl h)
theorem g7{j:Nat}{y N:Int}{Z X:D}{c c1:aa}(ht:cH [.ref j,.int (N-1)] c=.ok (.int y) c1) (hi:aJ Z (.int y) c1=.ok X c1):lZ [a0,a1,some (.ref j),a3,a4,a5,a6,a7,a8,a9,some (.int N),some Z,cP] c=.ok (.nx [a0,a1,some (.ref j),a3,a4,a5,a6,a7,a8,a9,some (.int N),some Z,some X]) c1:=by simp[lZ,ht,hi]
theorem g8{S Z:D}{c:aa}(h:fO [S] c=.ok Z c):Fc [a0,a1,a2,a3,a4,a5,a6,a7,a8,a9,cQ,cE,some S] c=.ok (.nx [a0,a1,a2,a3,a4,a5,some Z,a7,a8,a9,cQ,cE,some S]) c:=kG (i:=6) (qD (m:=fO) (d1:=ak 12) rfl h)
theorem Hy{X Y:D}{c:aa}(h:d9 X Y c=.ok (.bl false) c):qd [a0,a1,a2,some X,a4,a5,a6,a7,a8,a9,cQ,cE,some Y] c=.ok (.nx [a0,a1,a2,some X,a4,a5,a6,a7,a8,a9,cQ,cE,some Y]) c:=by
 unfold qd
 rw[gH,Ew,jh,iH (f:=d9) (d1:=ak 3) (d2:=ak 12) rfl rfl h]
 rfl
theorem Wx{n:Nat}{s t:Nat→Nat→Nat}(L':cg n t) (h:fT n s t) (h8:n<8) {N:Int}(hN:N=n) {Y:D}{c:aa}(hv:d9 (aB n t) Y c=.ok (.bl true) c):qd [a0,a1,a2,some (aB n t),a4,a5,some (.lst ((bq n s n [[]]).map aQ)),a7,a8,a9,some (.int N),cE,some Y] c=.ok (.nx [a0,a1,a2,some (aB n t),a4,a5,some (.lst ((bq n s n [[]]).map aQ)),a7,a8,a9,some (.int N),cE,some Y]) c:=by
 unfold qd
 rw[gH,Ew,jh,iH (f:=d9) (d1:=ak 3) (d2:=ak 12) rfl rfl hv]
 dsimp only[R.bind]
 rw[if_pos rfl,rB,jh,KQ L' h h8 hN (d:=ak 10) rfl rfl]
 rfl
theorem g9{f:Fd}(h:f∈ck) (h7:f.q≤7) {a:Nat}(ha:a<f.q-1) {N:Int}(hN:N=f.q) (c:aa):∃w,yF [a0,a1,a2,a3,a4,a5,some (.lst ((bq f.q (sF f (1+a)) f.q [[]]).map aQ)),a7,a8,a9,some (.int N),some (.lst (FS f)),some (aB f.q (sF f (1+a)))] c=.ok (.nx [a0,a1,a2,w,a4,a5,some (.lst ((bq f.q (sF f (1+a)) f.q [[]]).map aQ)),a7,a8,a9,some (.int N),some (.lst (FS f)),some (aB f.q (sF f (1+a)))]) c:=by
 obtain⟨e',c',⟨hc,w,rfl⟩,hf⟩:=BU (g:=az 3) (s:=qd) (fun e c'=>c'=c∧∃w,e=[a0,a1,a2,w,a4,a5,some (.lst ((bq f.q (sF f (1+a)) f.q [[]]).map aQ)),a7,a8,a9,some (.int N),some (.lst (FS f)),some (aB f.q (sF f (1+a)))]) (FS f) [a0,a1,a2,a3,a4,a5,some (.lst ((bq f.q (sF f (1+a)) f.q [[]]).map aQ)),a7,a8,a9,some (.int N),some (.lst (FS f)),some (aB f.q (sF f (1+a)))] c ⟨rfl,_,rfl⟩ (fun x hx e c' ⟨hc,w,he⟩=>by
  subst he hc
  obtain⟨b,hb,rfl⟩:=afx.mp hx
  have hb:=aft.mp hb
  refine⟨[a0,a1,a2,some (aB f.q (sF f (1+b))),a4,a5,some (.lst ((bq f.q (sF f (1+a)) f.q [[]]).map aQ)),a7,a8,a9,some (.int N),some (.lst (FS f)),some (aB f.q (sF f (1+a)))],[a0,a1,a2,some (aB f.q (sF f (1+b))),a4,a5,some (.lst ((bq f.q (sF f (1+a)) f.q [[]]).map aQ)),a7,a8,a9,some (.int N),some (.lst (FS f)),some (aB f.q (sF f (1+a)))],c',c',rfl,?_,rfl,_,rfl⟩
  by_cases hab:a=b
  ·subst hab
   exact Hy (Vh _ _ c')
  ·obtain⟨z,hz⟩:=Vj f.q f.q (sF f (1+b)) (sF f (1+a)) c'
   cases z with
   |false=>exact Hy hz
   |true=>exact Wx (Je h h7 hb) (ZC h h7 ha hb hab) (by omega) hN hz)
 subst hc
 refine⟨w,?_⟩
 have Bt:bJ (ak 11) [a0,a1,a2,a3,a4,a5,some (.lst ((bq f.q (sF f (1+a)) f.q [[]]).map aQ)),a7,a8,a9,some (.int N),some (.lst (FS f)),some (aB f.q (sF f (1+a)))] c'=.ok ⟨FS f,fun _=>True⟩ c':=rfl
 have hst:yF=cz (bJ (ak 11)) (az 3) qd:=rfl
 rw[hst,lV,Bt,R.aD]
 exact hf
end
theorem Si{ns:List Int}{i:Int}(hi:0≤i) (c:aa) (v2 v3 v4 v5 v6 v7 v8 v9 v10 v11 ED:Option D) :
  ∃e' c',(∃w1 w2 w3 w4 w5 w6 w7 w8 w9 iM kD kC,e'=[some (.cG ns),w1,w2,w3,w4,w5,w6,w7,w8,w9,iM,kD,kC])∧rS [some (.cG ns),some (.int i),v2,v3,v4,v5,v6,v7,v8,v9,v10,v11,ED] c=.ok (.nx e') c':=by
 obtain⟨x,hx⟩:=abJ ns i hi c
 obtain⟨p,hp⟩:=QE x c
 obtain⟨y,c1,y0,y1,P1,t1⟩:=nR (j:=c.length) (n:=c.length+1) (c:=c++[.lst [.int p]]) (cZ:=5) ⟨by simp,by omega,p,by simp⟩ (by decide) (by decide)
 obtain⟨n,hn⟩:=mD (i:=1+y) (by omega)
 have n1:1≤n:=by omega
 have n5:n≤5:=by omega
 obtain⟨s,c2,hL,P2,t2⟩:=ZS P1 n1 (by omega)
 rw[←hn]at t2
 obtain⟨N,hN⟩:∃N:Int,N=(n:Int):=⟨_,rfl⟩
 have hlen:=qg n s c2
 rw[←hN]at hlen
 obtain⟨u6,u7,u8,u9,c3,P3,e4⟩:=g4 (a0:=some (.cG ns)) (a1:=some (.int i)) (a6:=v6) (a7:=v7) (a8:=v8) (a9:=v9) (cQ:=v10) (cE:=v11) (cP:=ED) P2 hL n1 n5 hN
 obtain⟨y',c4,z0,z1,P4,t4⟩:=nR (cZ:=5) P3 (by decide) (by decide)
 obtain⟨f,hf,h7,hat⟩:=ZD z0 z1
 have q2:=(iB hf).q2
 obtain⟨M,hM⟩:∃M:Int,M=(f.q:Int):=⟨_,rfl⟩
 rw[←hM]at hat
 obtain⟨x',c5,x0,x1,P5,t5⟩:=nR (cZ:=M-1) P4 (by omega) (by omega)
 obtain⟨a,ha⟩:=mD x0
 have BE:a<f.q-1:=by omega
 have hix:=XI (l:=FS f) (i:=a) (d:=aB f.q (sF f (1+a))) (N:=x') ha (by unfold FS;rw[afS,agk BE];rfl) c5
 obtain⟨w,e9⟩:=g9 (a0:=some (.cG ns)) (a1:=some (.int i)) (a2:=some (.ref c.length)) (a3:=some (aB n s)) (a4:=some (.int N)) (a5:=some (jB n s)) (a7:=u7) (a8:=u8) (a9:=u9) hf h7 BE hM c5
 refine⟨[some (.cG ns),some (.int i),some (.ref c.length),w,some (.int N),some (jB n s),some (.lst ((bq f.q (sF f (1+a)) f.q [[]]).map aQ)),u7,u8,u9,some (.int M),some (.lst (FS f)),some (aB f.q (sF f (1+a)))],c5,⟨_,_,_,_,_,_,_,_,_,_,_,_,rfl⟩,?_⟩
 unfold rS
 exact(bx (g0 hx hp)).trans ((bx (g1 t1 t2)).trans ((bx (g2 hlen)).trans ((bx (g3 (yI hL n1 n5 c2))).trans ((bx e4).trans ((bx (g5 t4 hat)).trans ((bx (g6 (Zm hf hM (by omega) c4))).trans ((bx (g7 t5 hix)).trans ((bx (g8 (C6 (Je hf h7 BE) (by omega) (by omega) c5))).trans e9))))))))
theorem WD(ns:List Int) (hl:ns.length≤63):∃c,sC [.cG ns] []=.ok (.bl true) c:=by
 obtain⟨e',c',⟨w1,w2,w3,w4,w5,w6,w7,w8,w9,iM,kD,kC,rfl⟩,hf⟩:=Ja (g:=az 1) (s:=rS)
  (fun e=>∃w1 w2 w3 w4 w5 w6 w7 w8 w9 iM kD kC,e=[some (.cG ns),w1,w2,w3,w4,w5,w6,w7,w8,w9,iM,kD,kC]) (bg 0 3) [some (.cG ns),none,none,none,none,none,none,none,none,none,none,none,none] [] ⟨_,_,_,_,_,_,_,_,_,_,_,_,rfl⟩ (fun t ht e c ⟨w1,w2,w3,w4,w5,w6,w7,w8,w9,iM,kD,kC,he⟩=>by
   subst he
   obtain⟨i,rfl,i0,i1⟩:=vq ht
   obtain⟨e',c',ie,ho⟩:=Si (ns:=ns) i0 c w2 w3 w4 w5 w6 w7 w8 w9 iM kD kC
   exact⟨_,e',_,c',rfl,ho,ie⟩)
 have hb2:qS=aE (cz (aW (ao (dC (.int 3)) aq)) (az 1) rS) zV:=rfl
 have Bt:aW (ao (dC (.int 3)) aq) [some (.cG ns),none,none,none,none,none,none,none,none,none,none,none,none] []=.ok ⟨bg 0 3,fun _=>True⟩ []:=by
  unfold aW
  simp
 have e1:cz (aW (ao (dC (.int 3)) aq)) (az 1) rS [some (.cG ns),none,none,none,none,none,none,none,none,none,none,none,none] []=.ok (.nx [some (.cG ns),w1,w2,w3,w4,w5,w6,w7,w8,w9,iM,kD,kC]) c':=by
  rw[lV,Bt,R.aD]
  exact hf
 have hq:=ZL 1 s1 c'
 rw[Fi]at hq
 have t1:(1:Nat)≤sizeLine:=by decide
 have t2:(2:Nat)≤sizeLine:=by decide
 have e2:zV [some (.cG ns),w1,w2,w3,w4,w5,w6,w7,w8,w9,iM,kD,kC] c'=.ok (.rt (.bl true)) c':=by
  simp[zV,NF,ND,hq,t1,t2,qh,fG]
 refine⟨c'.take 0,?_⟩
 unfold sC bN
 rw[show cS 13 [D.cG ns]=[some (.cG ns),none,none,none,none,none,none,none,none,none,none,none,none]from rfl,hb2,bx e1,e2]
 rfl
end Ev
namespace Ev
open PySem L2 PyProof.Rows
theorem all_mk{l:PySem.W.OpenLaw}{w:World}{K:PySem.W.Frag}{h:Heap}{mg:Str→Option Value}{fa:Addr}{wC wB wF vY vW vV vZ wO vP wc wG wL wD vX vU we wQ wM wK wN vO vS vQ vR wJ wI wH wA wo wg wu wz wk wj wm CD:Addr}(X:K.In h) (G:h.Ns mainGlobals mg) (YK:mg "law"=some (.ref fa))
  {T4 acI T3 acH T6 acK Tv acs Tt acq Tr acp Tz acu Ul acT Tj acj TF acv T9 acL Uh acQ T5 acJ Tu acr Tq aco TJ acw Um acU Uj acR Ug acP Uk acS Ti aci Tp acn Tn ack To acm Ud acO Uc acN Ub acM TX acF TR acC TL acy TU acD TV acE TN acA TM acz TQ acB TY acG:Option Addr}{N7 N6 N9 NS NQ NP NT Oi NJ NU Oa Of N8 NR NO NV Oj Og Oe Oh NI NN NK NL Od Oc Ob N4 N1 NW N2 N3 NY NX NZ N5:Array (Option Value)}{UN Xo aah Q8 Kh aa8 UM Xn aag Q7 Kg aa7 UP Xq aaj Ra Km aba Uy W9 Z3 QT J2 aaU Uw W7 Z1 QO J0 aaS Uv W0 Z0 QN JZ aaR Uz Xa Z4 QU J3 aaV UZ XA aas Rn Ky abj Uq WV ZV QI JU aaM UA Xb Z5 QV J4 aaW UQ Xr aak Rb Kn abb UW Xx aap Ri Ks abg UO Xp aai Q9 Kl aa9 Ux W8 Z2 QS J1 aaT Uu WZ ZZ QM JY aaQ UB Xd Z6 QW J5 aaX U0 XC aat Ro Kz abk UX Xy aaq Rj Ku abh UU Xw aao Rh Kr abf UY Xz aar Rk Kw abi Uo WU ZU QH JT aaL Ut WY ZY QL JX aaP Ur WW ZW QJ JV aaN Us WX ZX QK JW aaO UT Xv aan Rg Kq abe US Xu aam Rf Kp abd UR Xs aal Rc Ko abc UK Xl aae Q5 Ke aa5 UH Xi aab Q2 Ka aa2 UC Xe Z7 QX J6 aaY UI Xj aac Q3 Kc aa3 UJ Xk aad Q4 Kd aa4 UE Xg Z9 QZ J8 aa0 UD Xf Z8 QY J7 aaZ UG Xh aaa Q0 J9 aa1 UL Xm aaf Q6 Kf aa6:Value}
  (jY:PySem.W.nsIn K mainGlobals "is_whole"=some (some (.ref wC))) (Ao:K.lookup wC=some ⟨UN,T4,.func (PySem.W.fnOf "is_whole" "is_whole" (bY oZ) (bQ oZ) (aS oZ) .none Xo aah Q8 acI Kh aa8),N7⟩) (DI:PySem.W.codeIn K Kh "is_whole"=true) (A5:PySem.W.keepIn K (.ref wC)=true)
  (jX:PySem.W.nsIn K mainGlobals "is_whole_within"=some (some (.ref wB))) (An:K.lookup wB=some ⟨UM,T3,.func (PySem.W.fnOf "is_whole_within" "is_whole_within" (bY oY) (bQ oY) (aS oY) .none Xn aag Q7 acH Kg aa7),N6⟩) (DH:PySem.W.codeIn K Kg "is_whole_within"=true) (A4:PySem.W.keepIn K (.ref wB)=true)
  (j3:PySem.W.nsIn K mainGlobals "is_field"=some (some (.ref wF))) (Ar:K.lookup wF=some ⟨UP,T6,.func (PySem.W.fnOf "is_field" "is_field" (bY pq) (bQ pq) (aS pq) .none Xq aaj Ra acK Km aba),N9⟩) (DK:PySem.W.codeIn K Km "is_field"=true) (A7:PySem.W.keepIn K (.ref wF)=true)
  (jL:PySem.W.nsIn K mainGlobals "require_field"=some (some (.ref vY))) (Aa:K.lookup vY=some ⟨Uy,Tv,.func (PySem.W.fnOf "require_field" "require_field" (bY oG) (bQ oG) (aS oG) .none W9 Z3 QT acs J2 aaU),NS⟩) (Ds:PySem.W.codeIn K J2 "require_field"=true) (AN:PySem.W.keepIn K (.ref vY)=true)
  (jJ:PySem.W.nsIn K mainGlobals "require_things"=some (some (.ref vW))) (z8:K.lookup vW=some ⟨Uw,Tt,.func (PySem.W.fnOf "require_things" "require_things" (bY oE) (bQ oE) (aS oE) .none W7 Z1 QO acq J0 aaS),NQ⟩) (Dq:PySem.W.codeIn K J0 "require_things"=true) (AL:PySem.W.keepIn K (.ref vW)=true)
  (jI:PySem.W.nsIn K mainGlobals "row_of"=some (some (.ref vV))) (z7:K.lookup vV=some ⟨Uv,Tr,.func (PySem.W.fnOf "row_of" "row_of" (bY oB) (bQ oB) (aS oB) .none W0 Z0 QN acp JZ aaR),NP⟩) (Dp:PySem.W.codeIn K JZ "row_of"=true) (AK:PySem.W.keepIn K (.ref vV)=true)
  (jM:PySem.W.nsIn K mainGlobals "number_of"=some (some (.ref vZ))) (Ab:K.lookup vZ=some ⟨Uz,Tz,.func (PySem.W.fnOf "number_of" "number_of" (bY oH) (bQ oH) (aS oH) .none Xa Z4 QU acu J3 aaV),NT⟩) (Dt:PySem.W.codeIn K J3 "number_of"=true) (AO:PySem.W.keepIn K (.ref vZ)=true)
  (kh:PySem.W.nsIn K mainGlobals "added"=some (some (.ref wO))) (AB:K.lookup wO=some ⟨UZ,Ul,.func (PySem.W.fnOf "added" "added" (bY pJ) (bQ pJ) (aS pJ) .none XA aas Rn acT Ky abj),Oi⟩) (DT:PySem.W.codeIn K Ky "added"=true) (Bg:PySem.W.keepIn K (.ref wO)=true)
  (jD:PySem.W.nsIn K mainGlobals "times_letter"=some (some (.ref vP))) (zX:K.lookup vP=some ⟨Uq,Tj,.func (PySem.W.fnOf "times_letter" "times_letter" (bY om) (bQ om) (aS om) .none WV ZV QI acj JU aaM),NJ⟩) (Dj:PySem.W.codeIn K JU "times_letter"=true) (AF:PySem.W.keepIn K (.ref vP)=true)
  (jN:PySem.W.nsIn K mainGlobals "multiplied"=some (some (.ref wc))) (Ac:K.lookup wc=some ⟨UA,TF,.func (PySem.W.fnOf "multiplied" "multiplied" (bY oJ) (bQ oJ) (aS oJ) .none Xb Z5 QV acv J4 aaW),NU⟩) (Du:PySem.W.codeIn K J4 "multiplied"=true) (AQ:PySem.W.keepIn K (.ref wc)=true)
  (j4:PySem.W.nsIn K mainGlobals "holds_each_once"=some (some (.ref wG))) (As:K.lookup wG=some ⟨UQ,T9,.func (PySem.W.fnOf "holds_each_once" "holds_each_once" (bY pA) (bQ pA) (aS pA) .none Xr aak Rb acL Kn abb),Oa⟩) (DL:PySem.W.codeIn K Kn "holds_each_once"=true) (A8:PySem.W.keepIn K (.ref wG)=true)
  (j9:PySem.W.nsIn K mainGlobals "column_of"=some (some (.ref wL))) (Ay:K.lookup wL=some ⟨UW,Uh,.func (PySem.W.fnOf "column_of" "column_of" (bY pG) (bQ pG) (aS pG) .none Xx aap Ri acQ Ks abg),Of⟩) (DQ:PySem.W.codeIn K Ks "column_of"=true) (Bd:PySem.W.keepIn K (.ref wL)=true)
  (jZ:PySem.W.nsIn K mainGlobals "is_square"=some (some (.ref wD))) (Aq:K.lookup wD=some ⟨UO,T5,.func (PySem.W.fnOf "is_square" "is_square" (bY pe) (bQ pe) (aS pe) .none Xp aai Q9 acJ Kl aa9),N8⟩) (DJ:PySem.W.codeIn K Kl "is_square"=true) (A6:PySem.W.keepIn K (.ref wD)=true)
  (jK:PySem.W.nsIn K mainGlobals "require_square"=some (some (.ref vX))) (z9:K.lookup vX=some ⟨Ux,Tu,.func (PySem.W.fnOf "require_square" "require_square" (bY oF) (bQ oF) (aS oF) .none W8 Z2 QS acr J1 aaT),NR⟩) (Dr:PySem.W.codeIn K J1 "require_square"=true) (AM:PySem.W.keepIn K (.ref vX)=true)
  (jH:PySem.W.nsIn K mainGlobals "sign_in"=some (some (.ref vU))) (z6:K.lookup vU=some ⟨Uu,Tq,.func (PySem.W.fnOf "sign_in" "sign_in" (bY oA) (bQ oA) (aS oA) .none WZ ZZ QM aco JY aaQ),NO⟩) (Dn:PySem.W.codeIn K JY "sign_in"=true) (AJ:PySem.W.keepIn K (.ref vU)=true)
  (jO:PySem.W.nsIn K mainGlobals "lie_across"=some (some (.ref we))) (Ad:K.lookup we=some ⟨UB,TJ,.func (PySem.W.fnOf "lie_across" "lie_across" (bY oK) (bQ oK) (aS oK) .none Xd Z6 QW acw J5 aaX),NV⟩) (Dv:PySem.W.codeIn K J5 "lie_across"=true) (AR:PySem.W.keepIn K (.ref we)=true)
  (ki:PySem.W.nsIn K mainGlobals "across"=some (some (.ref wQ))) (AD:K.lookup wQ=some ⟨U0,Um,.func (PySem.W.fnOf "across" "across" (bY pK) (bQ pK) (aS pK) .none XC aat Ro acU Kz abk),Oj⟩) (DU:PySem.W.codeIn K Kz "across"=true) (Bh:PySem.W.keepIn K (.ref wQ)=true)
  (kc:PySem.W.nsIn K mainGlobals "can_go_on"=some (some (.ref wM))) (Az:K.lookup wM=some ⟨UX,Uj,.func (PySem.W.fnOf "can_go_on" "can_go_on" (bY pH) (bQ pH) (aS pH) .none Xy aaq Rj acR Ku abh),Og⟩) (DR:PySem.W.codeIn K Ku "can_go_on"=true) (Be:PySem.W.keepIn K (.ref wM)=true)
  (j8:PySem.W.nsIn K mainGlobals "cuts"=some (some (.ref wK))) (Ax:K.lookup wK=some ⟨UU,Ug,.func (PySem.W.fnOf "cuts" "cuts" (bY pF) (bQ pF) (aS pF) .none Xw aao Rh acP Kr abf),Oe⟩) (DP:PySem.W.codeIn K Kr "cuts"=true) (Bc:PySem.W.keepIn K (.ref wK)=true)
  (kg:PySem.W.nsIn K mainGlobals "agree_somewhere"=some (some (.ref wN))) (AA:K.lookup wN=some ⟨UY,Uk,.func (PySem.W.fnOf "agree_somewhere" "agree_somewhere" (bY pI) (bQ pI) (aS pI) .none Xz aar Rk acS Kw abi),Oh⟩) (DS:PySem.W.codeIn K Kw "agree_somewhere"=true) (Bf:PySem.W.keepIn K (.ref wN)=true)
  (jC:PySem.W.nsIn K mainGlobals "with_one_more"=some (some (.ref vO))) (zW:K.lookup vO=some ⟨Uo,Ti,.func (PySem.W.fnOf "with_one_more" "with_one_more" (bY oj) (bQ oj) (aS oj) .none WU ZU QH aci JT aaL),NI⟩) (Di:PySem.W.codeIn K JT "with_one_more"=true) (AE:PySem.W.keepIn K (.ref vO)=true)
  (jG:PySem.W.nsIn K mainGlobals "signs_where"=some (some (.ref vS))) (z5:K.lookup vS=some ⟨Ut,Tp,.func (PySem.W.fnOf "signs_where" "signs_where" (bY oz) (bQ oz) (aS oz) .none WY ZY QL acn JX aaP),NN⟩) (Dm:PySem.W.codeIn K JX "signs_where"=true) (AI:PySem.W.keepIn K (.ref vS)=true)
  (jE:PySem.W.nsIn K mainGlobals "square_of_cuts"=some (some (.ref vQ))) (zY:K.lookup vQ=some ⟨Ur,Tn,.func (PySem.W.fnOf "square_of_cuts" "square_of_cuts" (bY oq) (bQ oq) (aS oq) .none WW ZW QJ ack JV aaN),NK⟩) (Dk:PySem.W.codeIn K JV "square_of_cuts"=true) (AG:PySem.W.keepIn K (.ref vQ)=true)
  (jF:PySem.W.nsIn K mainGlobals "some_across"=some (some (.ref vR))) (zZ:K.lookup vR=some ⟨Us,To,.func (PySem.W.fnOf "some_across" "some_across" (bY ou) (bQ ou) (aS ou) .none WX ZX QK acm JW aaO),NL⟩) (Dl:PySem.W.codeIn K JW "some_across"=true) (AH:PySem.W.keepIn K (.ref vR)=true)
  (j7:PySem.W.nsIn K mainGlobals "field_row"=some (some (.ref wJ))) (Aw:K.lookup wJ=some ⟨UT,Ud,.func (PySem.W.fnOf "field_row" "field_row" (bY pD) (bQ pD) (aS pD) .none Xv aan Rg acO Kq abe),Od⟩) (DO:PySem.W.codeIn K Kq "field_row"=true) (Bb:PySem.W.keepIn K (.ref wJ)=true)
  (j6:PySem.W.nsIn K mainGlobals "field_square"=some (some (.ref wI))) (Av:K.lookup wI=some ⟨US,Uc,.func (PySem.W.fnOf "field_square" "field_square" (bY pC) (bQ pC) (aS pC) .none Xu aam Rf acN Kp abd),Oc⟩) (DN:PySem.W.codeIn K Kp "field_square"=true) (Ba:PySem.W.keepIn K (.ref wI)=true)
  (j5:PySem.W.nsIn K mainGlobals "field_squares"=some (some (.ref wH))) (Au:K.lookup wH=some ⟨UR,Ub,.func (PySem.W.fnOf "field_squares" "field_squares" (bY pB) (bQ pB) (aS pB) .none Xs aal Rc acM Ko abc),Ob⟩) (DM:PySem.W.codeIn K Ko "field_squares"=true) (A9:PySem.W.keepIn K (.ref wH)=true)
  (jW:PySem.W.nsIn K mainGlobals "_law_cell_at"=some (some (.ref wA))) (Al:K.lookup wA=some ⟨UK,TX,.func (PySem.W.fnOf "_law_cell_at" "_law_cell_at" (bY oW) (bQ oW) (aS oW) .none Xl aae Q5 acF Ke aa5),N4⟩) (DF:PySem.W.codeIn K Ke "_law_cell_at"=true) (A2:PySem.W.keepIn K (.ref wA)=true)
  (jT:PySem.W.nsIn K mainGlobals "_law_pot"=some (some (.ref wo))) (Ai:K.lookup wo=some ⟨UH,TR,.func (PySem.W.fnOf "_law_pot" "_law_pot" (bY oR) (bQ oR) (aS oR) .none Xi aab Q2 acC Ka aa2),N1⟩) (DB:PySem.W.codeIn K Ka "_law_pot"=true) (AX:PySem.W.keepIn K (.ref wo)=true)
  (jP:PySem.W.nsIn K mainGlobals "_law_take"=some (some (.ref wg))) (Ae:K.lookup wg=some ⟨UC,TL,.func (PySem.W.fnOf "_law_take" "_law_take" (bY oM) (bQ oM) (aS oM) .none Xe Z7 QX acy J6 aaY),NW⟩) (Dw:PySem.W.codeIn K J6 "_law_take"=true) (AS:PySem.W.keepIn K (.ref wg)=true)
  (jU:PySem.W.nsIn K mainGlobals "_law_order"=some (some (.ref wu))) (Aj:K.lookup wu=some ⟨UI,TU,.func (PySem.W.fnOf "_law_order" "_law_order" (bY oU) (bQ oU) (aS oU) .none Xj aac Q3 acD Kc aa3),N2⟩) (DC:PySem.W.codeIn K Kc "_law_order"=true) (AY:PySem.W.keepIn K (.ref wu)=true)
  (jV:PySem.W.nsIn K mainGlobals "_law_cycled"=some (some (.ref wz))) (Ak:K.lookup wz=some ⟨UJ,TV,.func (PySem.W.fnOf "_law_cycled" "_law_cycled" (bY oV) (bQ oV) (aS oV) .none Xk aad Q4 acE Kd aa4),N3⟩) (DE:PySem.W.codeIn K Kd "_law_cycled"=true) (AZ:PySem.W.keepIn K (.ref wz)=true)
  (jR:PySem.W.nsIn K mainGlobals "_law_six"=some (some (.ref wk))) (Ag:K.lookup wk=some ⟨UE,TN,.func (PySem.W.fnOf "_law_six" "_law_six" (bY oO) (bQ oO) (aS oO) .none Xg Z9 QZ acA J8 aa0),NY⟩) (Dz:PySem.W.codeIn K J8 "_law_six"=true) (AV:PySem.W.keepIn K (.ref wk)=true)
  (jQ:PySem.W.nsIn K mainGlobals "_law_square"=some (some (.ref wj))) (Af:K.lookup wj=some ⟨UD,TM,.func (PySem.W.fnOf "_law_square" "_law_square" (bY oN) (bQ oN) (aS oN) .none Xf Z8 QY acz J7 aaZ),NX⟩) (Dy:PySem.W.codeIn K J7 "_law_square"=true) (AU:PySem.W.keepIn K (.ref wj)=true)
  (jS:PySem.W.nsIn K mainGlobals "_law_signs"=some (some (.ref wm))) (Ah:K.lookup wm=some ⟨UG,TQ,.func (PySem.W.fnOf "_law_signs" "_law_signs" (bY oQ) (bQ oQ) (aS oQ) .none Xh aaa Q0 acB J9 aa1),NZ⟩) (DA:PySem.W.codeIn K J9 "_law_signs"=true) (AW:PySem.W.keepIn K (.ref wm)=true)
  (jd:PySem.W.nsIn K mainGlobals "law"=some (some (.ref CD))) (Am:K.lookup CD=some ⟨UL,TY,.func (PySem.W.fnOf "law" "law" (bY oX) (bQ oX) (aS oX) .none Xm aaf Q6 acG Kf aa6),N5⟩) (DG:PySem.W.codeIn K Kf "law"=true) (A3:PySem.W.keepIn K (.ref CD)=true)
  (yh:PySem.W.nsIn K mainGlobals "all"=some none)
  (yg:PySem.W.nsIn K mainGlobals "any"=some none)
  (yf:PySem.W.nsIn K mainGlobals "bool"=some none)
  (ye:PySem.W.nsIn K mainGlobals "int"=some none)
  (yd:PySem.W.nsIn K mainGlobals "isinstance"=some none)
  (yc:PySem.W.nsIn K mainGlobals "len"=some none)
  (yb:PySem.W.nsIn K mainGlobals "list"=some none)
  (ya:PySem.W.nsIn K mainGlobals "max"=some none)
  (x9:PySem.W.nsIn K mainGlobals "range"=some none)
  (x8:PySem.W.nsIn K mainGlobals "reversed"=some none)
  (x6:PySem.W.nsIn K mainGlobals "set"=some none)
  (xZ:PySem.W.nsIn K mainGlobals "sorted"=some none)
  (xY:PySem.W.nsIn K mainGlobals "tuple"=some none)
  (xX:PySem.W.nsIn K mainGlobals "zip"=some none)
  {rF:Tok}(yi:PySem.W.nsIn K mainGlobals "MOST_SIGNS"=some (some (.int 7 rF)))
  {rG:Tok}(yj:PySem.W.nsIn K mainGlobals "MOST_CROSSED"=some (some (.int 5 rG)))
  {lK:Addr}(um:PySem.W.nsIn K mainGlobals "FIELDS"=some (some (.ref lK))) (yy:mY K lK iK=true)
  : ∃fd:FuncData,(∀(s:Shared) (v:Value),BindsTo s fd ⟨[v],[]⟩ [("script",v)])∧∀base:Heap,K.In base→base.Ns mainGlobals mg→bF l.prog w K mg base bG 9 fa fd ["script"] (bU K 1 sC):=by
 have e:=YK.symm.trans (afD X G jd)
 cases e
 have Ls:=cC (st:=oZ) Ao DI A5
 have nA:=Ls.binds (ps:=["thing"]) fun _ _ _ _ _ _ us hl=>match us,hl with|[_],_=>rfl
 have Lr:=cC (st:=oY) An DH A4
 have lJ:=Lr.binds (ps:=["thing","least","most"]) fun _ _ _ _ _ _ us hl=>match us,hl with|[_,_,_],_=>rfl
 have Lv:=cC (st:=pq) Ar DK A7
 have qU:=Lv.binds (ps:=["thing"]) fun _ _ _ _ _ _ us hl=>match us,hl with|[_],_=>rfl
 have Le:=cC (st:=oG) Aa Ds AN
 have qL:=Le.binds (ps:=["thing"]) fun _ _ _ _ _ _ us hl=>match us,hl with|[_],_=>rfl
 have Lc:=cC (st:=oE) z8 Dq AL
 have qK:=Lc.binds (ps:=["q","things"]) fun _ _ _ _ _ _ us hl=>match us,hl with|[_,_],_=>rfl
 have Lb:=cC (st:=oB) z7 Dp AK
 have qJ:=Lb.binds (ps:=["q","number"]) fun _ _ _ _ _ _ us hl=>match us,hl with|[_,_],_=>rfl
 have Lf:=cC (st:=oH) Ab Dt AO
 have qM:=Lf.binds (ps:=["q","row"]) fun _ _ _ _ _ _ us hl=>match us,hl with|[_,_],_=>rfl
 have LF:=cC (st:=pJ) AB DT Bg
 have qY:=LF.binds (ps:=["q","one","other"]) fun _ _ _ _ _ _ us hl=>match us,hl with|[_,_,_],_=>rfl
 have K6:=cC (st:=om) zX Dj AF
 have qF:=K6.binds (ps:=["q","row"]) fun _ _ _ _ _ _ us hl=>match us,hl with|[_,_],_=>rfl
 have Lg:=cC (st:=oJ) Ac Du AQ
 have qN:=Lg.binds (ps:=["q","one","other"]) fun _ _ _ _ _ _ us hl=>match us,hl with|[_,_,_],_=>rfl
 have Lw:=cC (st:=pA) As DL A8
 have qV:=Lw.binds (ps:=["thing","many"]) fun _ _ _ _ _ _ us hl=>match us,hl with|[_,_],_=>rfl
 have LB:=cC (st:=pG) Ay DQ Bd
 have nG:=LB.binds (ps:=["rows","y"]) fun _ _ _ _ _ _ us hl=>match us,hl with|[_,_],_=>rfl
 have Lu:=cC (st:=pe) Aq DJ A6
 have qT:=Lu.binds (ps:=["thing"]) fun _ _ _ _ _ _ us hl=>match us,hl with|[_],_=>rfl
 have Ld:=cC (st:=oF) z9 Dr AM
 have lI:=Ld.binds (ps:=["thing"]) fun _ _ _ _ _ _ us hl=>match us,hl with|[_],_=>rfl
 have La:=cC (st:=oA) z6 Dn AJ
 have nk:=La.binds (ps:=["square","cell"]) fun _ _ _ _ _ _ us hl=>match us,hl with|[_,_],_=>rfl
 have Lh:=cC (st:=oK) Ad Dv AR
 have nq:=Lh.binds (ps:=["one","other"]) fun _ _ _ _ _ _ us hl=>match us,hl with|[_,_],_=>rfl
 have LG:=cC (st:=pK) AD DU Bh
 have nH:=LG.binds (ps:=["one","other"]) fun _ _ _ _ _ _ us hl=>match us,hl with|[_,_],_=>rfl
 have LC:=cC (st:=pH) Az DR Be
 have qW:=LC.binds (ps:=["square","cut","column"]) fun _ _ _ _ _ _ us hl=>match us,hl with|[_,_,_],_=>rfl
 have LA:=cC (st:=pF) Ax DP Bc
 have nF:=LA.binds (ps:=["square"]) fun _ _ _ _ _ _ us hl=>match us,hl with|[_],_=>rfl
 have LD:=cC (st:=pI) AA DS Bf
 have qX:=LD.binds (ps:=["one","other"]) fun _ _ _ _ _ _ us hl=>match us,hl with|[_,_],_=>rfl
 have K5:=cC (st:=oj) zW Di AE
 have qE:=K5.binds (ps:=["choices","more"]) fun _ _ _ _ _ _ us hl=>match us,hl with|[_,_],_=>rfl
 have K9:=cC (st:=oz) z5 Dm AI
 have qI:=K9.binds (ps:=["columns"]) fun _ _ _ _ _ _ us hl=>match us,hl with|[_],_=>rfl
 have K7:=cC (st:=oq) zY Dk AG
 have qG:=K7.binds (ps:=["chosen"]) fun _ _ _ _ _ _ us hl=>match us,hl with|[_],_=>rfl
 have K8:=cC (st:=ou) zZ Dl AH
 have qH:=K8.binds (ps:=["square"]) fun _ _ _ _ _ _ us hl=>match us,hl with|[_],_=>rfl
 have Lz:=cC (st:=pD) Aw DO Bb
 have nE:=Lz.binds (ps:=["q","factor","x"]) fun _ _ _ _ _ _ us hl=>match us,hl with|[_,_,_],_=>rfl
 have Ly:=cC (st:=pC) Av DN Ba
 have nC:=Ly.binds (ps:=["q","factor"]) fun _ _ _ _ _ _ us hl=>match us,hl with|[_,_],_=>rfl
 have Lx:=cC (st:=pB) Au DM A9
 have nB:=Lx.binds (ps:=["q"]) fun _ _ _ _ _ _ us hl=>match us,hl with|[_],_=>rfl
 have Lp:=cC (st:=oW) Al DF A2
 have ny:=Lp.binds (ps:=["script","k"]) fun _ _ _ _ _ _ us hl=>match us,hl with|[_,_],_=>rfl
 have Lm:=cC (st:=oR) Ai DB AX
 have nv:=Lm.binds (ps:=["cell"]) fun _ _ _ _ _ _ us hl=>match us,hl with|[_],_=>rfl
 have Li:=cC (st:=oM) Ae Dw AS
 have nt:=Li.binds (ps:=["pot","far"]) fun _ _ _ _ _ _ us hl=>match us,hl with|[_,_],_=>rfl
 have Ln:=cC (st:=oU) Aj DC AY
 have qQ:=Ln.binds (ps:=["pot","many"]) fun _ _ _ _ _ _ us hl=>match us,hl with|[_,_],_=>rfl
 have Lo:=cC (st:=oV) Ak DE AZ
 have qR:=Lo.binds (ps:=["pot","n"]) fun _ _ _ _ _ _ us hl=>match us,hl with|[_,_],_=>rfl
 have Lk:=cC (st:=oO) Ag Dz AV
 have qP:=Lk.binds (ps:=["pot"]) fun _ _ _ _ _ _ us hl=>match us,hl with|[_],_=>rfl
 have Lj:=cC (st:=oN) Af Dy AU
 have qO:=Lj.binds (ps:=["pot","n"]) fun _ _ _ _ _ _ us hl=>match us,hl with|[_,_],_=>rfl
 have Ll:=cC (st:=oQ) Ah DA AW
 have nu:=Ll.binds (ps:=["square","sign"]) fun _ _ _ _ _ _ us hl=>match us,hl with|[_,_],_=>rfl
 have Lq:=cC (st:=oX) Am DG A3
 have qS:=Lq.binds (ps:=["script"]) fun _ _ _ _ _ _ us hl=>match us,hl with|[_],_=>rfl
 let T:Tx K mg:={
  jY:=wC,Cp:=_,xm:=⟨Ls,afD X G jY,nA⟩,VL:=jY,
  jX:=wB,Co:=_,xj:=⟨Lr,afD X G jX,lJ⟩,VJ:=jX,
  j3:=wF,Cr:=_,xo:=⟨Lv,afD X G j3,qU⟩,VN:=j3,
  jL:=vY,B9:=_,CO:=⟨Le,afD X G jL,qL⟩,Vw:=jL,
  jJ:=vW,B7:=_,wZ:=⟨Lc,afD X G jJ,qK⟩,Vt:=jJ,
  jI:=vV,B6:=_,mZ:=⟨Lb,afD X G jI,qJ⟩,Vs:=jI,
  jM:=vZ,Ca:=_,xg:=⟨Lf,afD X G jM,qM⟩,Vx:=jM,
  kh:=wO,CB:=_,C4:=⟨LF,afD X G kh,qY⟩,VW:=kh,
  jD:=vP,BZ:=_,CL:=⟨K6,afD X G jD,qF⟩,Vn:=jD,
  jN:=wc,Cb:=_,CP:=⟨Lg,afD X G jN,qN⟩,Vy:=jN,
  j4:=wG,Cs:=_,xq:=⟨Lw,afD X G j4,qV⟩,VO:=j4,
  j9:=wL,Cy:=_,xr:=⟨LB,afD X G j9,nG⟩,VT:=j9,
  jZ:=wD,Cq:=_,CY:=⟨Lu,afD X G jZ,qT⟩,VM:=jZ,
  jK:=vX,B8:=_,qx:=⟨Ld,afD X G jK,lI⟩,Vu:=jK,
  jH:=vU,B5:=_,wY:=⟨La,afD X G jH,nk⟩,Vr:=jH,
  jO:=we,Cc:=_,CQ:=⟨Lh,afD X G jO,nq⟩,Vz:=jO,
  ki:=wQ,CC:=_,tM:=⟨LG,afD X G ki,nH⟩,VX:=ki,
  kc:=wM,Cz:=_,C2:=⟨LC,afD X G kc,qW⟩,VU:=kc,
  j8:=wK,Cw:=_,tL:=⟨LA,afD X G j8,nF⟩,VS:=j8,
  kg:=wN,CA:=_,C3:=⟨LD,afD X G kg,qX⟩,VV:=kg,
  jC:=vO,BY:=_,CK:=⟨K5,afD X G jC,qE⟩,Vm:=jC,
  jG:=vS,B4:=_,CN:=⟨K9,afD X G jG,qI⟩,Vq:=jG,
  jE:=vQ,B0:=_,CM:=⟨K7,afD X G jE,qG⟩,Vo:=jE,
  jF:=vR,B3:=_,tK:=⟨K8,afD X G jF,qH⟩,Vp:=jF,
  j7:=wJ,Cv:=_,C1:=⟨Lz,afD X G j7,nE⟩,VR:=j7,
  j6:=wI,Cu:=_,C0:=⟨Ly,afD X G j6,nC⟩,VQ:=j6,
  j5:=wH,Ct:=_,CZ:=⟨Lx,afD X G j5,nB⟩,VP:=j5,
  jW:=wA,Cm:=_,CW:=⟨Lp,afD X G jW,ny⟩,VH:=jW,
  jT:=wo,Ci:=_,CU:=⟨Lm,afD X G jT,nv⟩,VE:=jT,
  jP:=wg,Cd:=_,jz:=⟨Li,afD X G jP,nt⟩,VA:=jP,
  jU:=wu,Cj:=_,m5:=⟨Ln,afD X G jU,qQ⟩,VF:=jU,
  jV:=wz,Ck:=_,CV:=⟨Lo,afD X G jV,qR⟩,VG:=jV,
  jR:=wk,Cf:=_,CT:=⟨Lk,afD X G jR,qP⟩,VC:=jR,
  jQ:=wj,Ce:=_,CS:=⟨Lj,afD X G jQ,qO⟩,VB:=jQ,
  jS:=wm,Cg:=_,xh:=⟨Ll,afD X G jS,nu⟩,VD:=jS,
  jd:=fa,Cn:=_,JC:=⟨Lq,afD X G jd,qS⟩,VI:=jd,
  pX:=age X G yh,
  zE:=age X G yg,
  G9:=age X G yf,
  G8:=age X G ye,
  sj:=age X G yd,
  dQ:=age X G yc,
  zD:=age X G yb,
  G7:=age X G ya,
  dB:=age X G x9,
  zC:=age X G x8,
  vp:=age X G x6,
  G6:=age X G xZ,
  fD:=age X G xY,
  pW:=age X G xX,
  rF:=rF,BR:=afD X G yi,
  rG:=rG,IX:=afD X G yj,
  lK:=lK,qm:=afD X G um,zG:=um,nS:=yy}
 exact⟨_,fun s v=>.of_eq rfl,fun base _ _=>S5 T⟩
theorem walk{l:PySem.W.OpenLaw}{q:Program}{loose:List Str}{XP:(Str→Option Value)→Heap→Prop}{YP:World→Heap→Prop}{d:DefRec}{K:Params→PySem.W.Frag}(hn:l.most=some 63) (hdf:d.params.defaults=[])
  (hY:∀(w:World) (h:Heap),YP w h→(K w.params).In h) (hK:∀p,PySem.W.noTabs (K p)=true∧yD (K p) []=true)
  (F:∀(w:World) (mg:Str→Option Value) (fa:Addr) (h:Heap),(K w.params).In h→h.Ns mainGlobals mg→mg d.name=some (.ref fa) →
   ∃fd:FuncData,(∀(s:Shared) (u:Value),BindsTo s fd ⟨[u],[]⟩ [("script",u)])∧∀base:Heap,(K w.params).In base→base.Ns mainGlobals mg→bF l.prog w (K w.params) mg base bG 9 fa fd ["script"] (bU (K w.params) 1 sC)) :
  PySem.W.WalkO q loose XP YP l.row.toRowW d [] (fun f vs=>PySem.call f vs) :=
 L2.Mn (ts:=[]) (n:=63) (k:=9) (x:="script") hn (by decide) hdf ⟨rfl,by decide,by decide⟩ (fun w h Y=>⟨hY w h Y,fun _ h=>nomatch h⟩) (fun p=>⟨rfl,(hK p).1,(hK p).2⟩) F WD
end Ev
noncomputable 
def PySem.W.Fast.tw17772704681478498091:Nat:=0
noncomputable def PySem.W.Fast.tw5703447845815010697:Nat:=0
noncomputable def PySem.W.Fast.tw5395479269660923590:Nat:=0
noncomputable def PySem.W.Fast.tw6761286414780295936:Nat:=0
noncomputable def PySem.W.Fast.tw779929970287480740:Nat:=0
noncomputable def PySem.W.Fast.tw11015068503961261865:Nat:=0
noncomputable def PySem.W.Fast.tw8903117620218401321:Nat:=0
noncomputable def PySem.W.Fast.tw2984713044981202163:Nat:=0
noncomputable def PySem.W.Fast.tw1231160057554665077:Nat:=0
noncomputable def PySem.W.Fast.tw11858112938089818685:Nat:=0
noncomputable def PySem.W.Fast.tw17876603563352806406:Nat:=0
noncomputable def PySem.W.Fast.tw3728928512238900171:Nat:=0
noncomputable def PySem.W.Fast.tw15359546504714206206:Nat:=0
noncomputable def PySem.W.Fast.tw9787416766551576169:Nat:=0
noncomputable def PySem.W.Fast.tw396587550538908279:Nat:=0
noncomputable def PySem.W.Fast.tw10073012036869293909:Nat:=0
noncomputable def PySem.W.Fast.tw5135810528221845999:Nat:=0
noncomputable def PySem.W.Fast.tw4803189872245702541:Nat:=0
noncomputable def PySem.W.Fast.tw12956376009020783617:Nat:=0
noncomputable def PySem.W.Fast.tw5613658682075949668:Nat:=0
noncomputable def PySem.W.Fast.tw15050485908794827634:Nat:=0
noncomputable def PySem.W.Fast.tw6949704610000203258:Nat:=0
noncomputable def PySem.W.Fast.tw7586266285763424811:Nat:=0
noncomputable def PySem.W.Fast.tw10224397541130689694:Nat:=0
noncomputable def PySem.W.Fast.tw9705229413170400261:Nat:=0
noncomputable def PySem.W.Fast.tw14195986812740310293:Nat:=0
noncomputable def PySem.W.Fast.tw6327119816120071645:Nat:=0
noncomputable def PySem.W.Fast.tw8126845720000032441:Nat:=0
noncomputable def PySem.W.Fast.tw12819583047517950595:Nat:=0
noncomputable def PySem.W.Fast.tw15658088343055772862:Nat:=0
noncomputable def PySem.W.Fast.tw10787039211172844489:Nat:=0
open PySem PySem.W PyProof.Rows
set_option maxRecDepth 100000 in
set_option maxHeartbeats 0 in
theorem PySem.Challenge.cw_evenwebs_k59_whole_cuts_and_squares_acro_holds : PySem.Challenge.rw_evenwebs_k59_whole_cuts_and_squares_acro.Holds := by
  w_on; o_law; k_head; (case hw => w_witness2)
  k_fill
  refine Ev.walk (l := PySem.Challenge.rw_evenwebs_k59_whole_cuts_and_squares_acro) rfl rfl (fun w h Y => PySem.W.kIn_of Y) (fun p => ⟨by kernel_rfl, by kernel_rfl⟩) ?F
  case F =>
    intro w mg fa h KX G hmg
    refine' Ev.all_mk KX G hmg ?jY ?Ao ?DI ?A5 ?jX ?An ?DH ?A4 ?j3 ?Ar ?DK ?A7 ?jL ?Aa ?Ds ?AN ?jJ ?z8 ?Dq ?AL ?jI ?z7 ?Dp ?AK ?jM ?Ab ?Dt ?AO ?kh ?AB ?DT ?Bg ?jD ?zX ?Dj ?AF ?jN ?Ac ?Du ?AQ ?j4 ?As ?DL ?A8 ?j9 ?Ay ?DQ ?Bd ?jZ ?Aq ?DJ ?A6 ?jK ?z9 ?Dr ?AM ?jH ?z6 ?Dn ?AJ ?jO ?Ad ?Dv ?AR ?ki ?AD ?DU ?Bh ?kc ?Az ?DR ?Be ?j8 ?Ax ?DP ?Bc ?kg ?AA ?DS ?Bf ?jC ?zW ?Di ?AE ?jG ?z5 ?Dm ?AI ?jE ?zY ?Dk ?AG ?jF ?zZ ?Dl ?AH ?j7 ?Aw ?DO ?Bb ?j6 ?Av ?DN ?Ba ?j5 ?Au ?DM ?A9 ?jW ?Al ?DF ?A2 ?jT ?Ai ?DB ?AX ?jP ?Ae ?Dw ?AS ?jU ?Aj ?DC ?AY ?jV ?Ak ?DE ?AZ ?jR ?Ag ?Dz ?AV ?jQ ?Af ?Dy ?AU ?jS ?Ah ?DA ?AW ?jd ?Am ?DG ?A3 ?yh ?yg ?yf ?ye ?yd ?yc ?yb ?ya ?x9 ?x8 ?x6 ?xZ ?xY ?xX ?yi ?yj ?um ?yy
    (case jY => k_is)
    (case Ao => k_is)
    (case DI => k_is)
    (case A5 => k_is)
    (case jX => k_is)
    (case An => k_is)
    (case DH => k_is)
    (case A4 => k_is)
    (case j3 => k_is)
    (case Ar => k_is)
    (case DK => k_is)
    (case A7 => k_is)
    (case jL => k_is)
    (case Aa => k_is)
    (case Ds => k_is)
    (case AN => k_is)
    (case jJ => k_is)
    (case z8 => k_is)
    (case Dq => k_is)
    (case AL => k_is)
    (case jI => k_is)
    (case z7 => k_is)
    (case Dp => k_is)
    (case AK => k_is)
    (case jM => k_is)
    (case Ab => k_is)
    (case Dt => k_is)
    (case AO => k_is)
    (case kh => k_is)
    (case AB => k_is)
    (case DT => k_is)
    (case Bg => k_is)
    (case jD => k_is)
    (case zX => k_is)
    (case Dj => k_is)
    (case AF => k_is)
    (case jN => k_is)
    (case Ac => k_is)
    (case Du => k_is)
    (case AQ => k_is)
    (case j4 => k_is)
    (case As => k_is)
    (case DL => k_is)
    (case A8 => k_is)
    (case j9 => k_is)
    (case Ay => k_is)
    (case DQ => k_is)
    (case Bd => k_is)
    (case jZ => k_is)
    (case Aq => k_is)
    (case DJ => k_is)
    (case A6 => k_is)
    (case jK => k_is)
    (case z9 => k_is)
    (case Dr => k_is)
    (case AM => k_is)
    (case jH => k_is)
    (case z6 => k_is)
    (case Dn => k_is)
    (case AJ => k_is)
    (case jO => k_is)
    (case Ad => k_is)
    (case Dv => k_is)
    (case AR => k_is)
    (case ki => k_is)
    (case AD => k_is)
    (case DU => k_is)
    (case Bh => k_is)
    (case kc => k_is)
    (case Az => k_is)
    (case DR => k_is)
    (case Be => k_is)
    (case j8 => k_is)
    (case Ax => k_is)
    (case DP => k_is)
    (case Bc => k_is)
    (case kg => k_is)
    (case AA => k_is)
    (case DS => k_is)
    (case Bf => k_is)
    (case jC => k_is)
    (case zW => k_is)
    (case Di => k_is)
    (case AE => k_is)
    (case jG => k_is)
    (case z5 => k_is)
    (case Dm => k_is)
    (case AI => k_is)
    (case jE => k_is)
    (case zY => k_is)
    (case Dk => k_is)
    (case AG => k_is)
    (case jF => k_is)
    (case zZ => k_is)
    (case Dl => k_is)
    (case AH => k_is)
    (case j7 => k_is)
    (case Aw => k_is)
    (case DO => k_is)
    (case Bb => k_is)
    (case j6 => k_is)
    (case Av => k_is)
    (case DN => k_is)
    (case Ba => k_is)
    (case j5 => k_is)
    (case Au => k_is)
    (case DM => k_is)
    (case A9 => k_is)
    (case jW => k_is)
    (case Al => k_is)
    (case DF => k_is)
    (case A2 => k_is)
    (case jT => k_is)
    (case Ai => k_is)
    (case DB => k_is)
    (case AX => k_is)
    (case jP => k_is)
    (case Ae => k_is)
    (case Dw => k_is)
    (case AS => k_is)
    (case jU => k_is)
    (case Aj => k_is)
    (case DC => k_is)
    (case AY => k_is)
    (case jV => k_is)
    (case Ak => k_is)
    (case DE => k_is)
    (case AZ => k_is)
    (case jR => k_is)
    (case Ag => k_is)
    (case Dz => k_is)
    (case AV => k_is)
    (case jQ => k_is)
    (case Af => k_is)
    (case Dy => k_is)
    (case AU => k_is)
    (case jS => k_is)
    (case Ah => k_is)
    (case DA => k_is)
    (case AW => k_is)
    (case jd => k_is)
    (case Am => k_is)
    (case DG => k_is)
    (case A3 => k_is)
    (case yh => k_is)
    (case yg => k_is)
    (case yf => k_is)
    (case ye => k_is)
    (case yd => k_is)
    (case yc => k_is)
    (case yb => k_is)
    (case ya => k_is)
    (case x9 => k_is)
    (case x8 => k_is)
    (case x6 => k_is)
    (case xZ => k_is)
    (case xY => k_is)
    (case xX => k_is)
    (case yi => k_is)
    (case yj => k_is)
    (case um => k_is)
    (case yy => kernel_rfl)
