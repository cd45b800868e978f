import PyProof.Rows.All
import Wide.All
import OpenK.AllK
import Wide.FinOn
import Lean
import PyProof.EqAt
import PyProof.EqKinds
import PyProof.TupleCall
import PySem.Challenge.RW_evenwebs_k31_ways_between_places
import PyProof.P3In
import PyProof.EqLayable
import PyProof.SumAny
import PyProof.NoPylong
import PyProof.FitsBits
import PyProof.SetScanFacts
import PyProof.SetKind
import PyProof.DictKinds
import PyProof.Rows.SetFrom
import PyProof.Walks
import PyProof.DictValues
import PyProof.FactsAll.set_1
import PyProof.DictWalks
import KE.KDictSum
set_option Elab.async false
set_option linter.all false
set_option maxHeartbeats 4000000
set_option maxRecDepth 100000
set_option bootstrap.genMatcherCode false
set_option genSizeOfSpec false
set_option genSizeOf false
namespace L2
open PySem PySem.Spec PyProof.Rows
noncomputable abbrev Key:=Sum Int Str
noncomputable def keyIs:Key→Value→Bool
  | .inl k,v=>Value.isInt k v
  | .inr x,v=>Value.isStrOf x v
noncomputable def keyH (w:World):Key→Int
  | .inl k=>hashInt k
  | .inr x=>hashStr w x
theorem keyIs_shape:∀ {k:Key} {v:Value},keyIs k v=true→(∃ i t,k=Sum.inl i∧v=Value.int i t)∨(∃ x t,k=Sum.inr x∧v=Value.str x t)
  | .inl i,v,h=>by
    obtain ⟨t,e⟩:=Value.isInt_shape (k:=i) (v:=v) h
    exact .inl ⟨i,t,rfl,e⟩
  | .inr x,v,h=>by
    obtain ⟨t,e⟩:=Value.isStrOf_shape (x:=x) (v:=v) h
    exact .inr ⟨x,t,rfl,e⟩
theorem keyIs_int (i:Int) (t:Tok):keyIs (.inl i) (.int i t)=true:=by simp [keyIs,Value.isInt]
theorem keyIs_str (x:Str) (t:Tok):keyIs (.inr x) (.str x t)=true:=by simp [keyIs,Value.isStrOf]
theorem key_ll (a b:Int):decide ((Sum.inl a:Key)=Sum.inl b)=(a == b):=by
  by_cases e:a=b
  · subst e; simp
  · have h:¬ (Sum.inl a:Key)=Sum.inl b:=fun q=>e (Sum.inl.inj q)
    rw [decide_eq_false h]
    exact (beq_eq_false_iff_ne.mpr e).symm
theorem key_rr (a b:Str):decide ((Sum.inr a:Key)=Sum.inr b)=decide (a=b):=by
  by_cases e:a=b
  · subst e; simp
  · have h:¬ (Sum.inr a:Key)=Sum.inr b:=fun q=>e (Sum.inr.inj q)
    rw [decide_eq_false h,decide_eq_false e]
theorem key_lr (a:Int) (b:Str):decide ((Sum.inl a:Key)=Sum.inr b)=false:=decide_eq_false (fun q=>nomatch q)
theorem key_rl (a:Str) (b:Int):decide ((Sum.inr a:Key)=Sum.inl b)=false:=decide_eq_false (fun q=>nomatch q)
noncomputable def mixKind (prog:Program) (w:World):PySem.KeyKind prog w Key where
  is:=keyIs
  hash:=keyH w
  inj:=fun v a b ha hb=>by
    rcases keyIs_shape ha with ⟨i,t,rfl,rfl⟩ | ⟨x,t,rfl,rfl⟩
    · rcases keyIs_shape hb with ⟨j,u,rfl,e⟩ | ⟨y,u,rfl,e⟩
      · injection e with e1 _; rw [e1]
      · exact nomatch e
    · rcases keyIs_shape hb with ⟨j,u,rfl,e⟩ | ⟨y,u,rfl,e⟩
      · exact nomatch e
      · injection e with e1 _; rw [e1]
  byValue:=fun k v h=>by
    rcases keyIs_shape h with ⟨i,t,rfl,rfl⟩ | ⟨x,t,rfl,rfl⟩ <;> rfl
  pyHash:=fun hv h=>by
    rcases keyIs_shape hv with ⟨i,t,rfl,rfl⟩ | ⟨x,t,rfl,rfl⟩
    · exact wpAny_pyHash_int h
    · exact wpAny_pyHash_str h
  eqBool:=fun hu hv h=>by
    rcases keyIs_shape hu with ⟨i,t,rfl,rfl⟩ | ⟨x,t,rfl,rfl⟩
    · rcases keyIs_shape hv with ⟨j,u,rfl,rfl⟩ | ⟨y,u,rfl,rfl⟩
      · rw [key_ll] at h; exact wpAny_eqBool_int h
      · rw [key_lr] at h; exact SeqAt.EqAt.int_str i t y u _ _ _ _ h
    · rcases keyIs_shape hv with ⟨j,u,rfl,rfl⟩ | ⟨y,u,rfl,rfl⟩
      · rw [key_rl] at h; exact SeqAt.EqAt.str_int x t j u _ _ _ _ h
      · rw [key_rr] at h; exact wpAny_eqBool_str h
  «strs»:=fun k x t v h=>by
    rcases keyIs_shape h with ⟨i,u,rfl,e⟩ | ⟨y,u,rfl,e⟩
    · exact nomatch e
    · injection e with e1 _
      subst e1
      cases v <;> rfl
theorem mixKind_int (prog:Program) (w:World) (i:Int) (t:Tok):(mixKind prog w).is (.inl i) (.int i t)=true:=keyIs_int i t
theorem mixKind_str (prog:Program) (w:World) (x:Str) (t:Tok):(mixKind prog w).is (.inr x) (.str x t)=true:=keyIs_str x t
end L2
namespace L2
open PySem PySem.Spec PyProof.Rows
inductive V where
  | non | bl (b:Bool) | int (i:Int) | str (x:Str) | byt (b:Array UInt8) | flt (b:UInt64) | ref (a:Addr) | ty (n:String)
  deriving DecidableEq
noncomputable def RelV:V→Value→Prop
  | .non,u=>u=Value.none
  | .bl b,u=>u=Value.bool b
  | .int i,u=>∃ t,u=Value.int i t
  | .str x,u=>∃ t,u=Value.str x t
  | .byt b,u=>∃ t,u=Value.bytes b t
  | .flt b,u=>∃ t,u=Value.float b t
  | .ref a,u=>u=Value.ref a
  | .ty n,u=>u=Value.type n
noncomputable abbrev Vals:List V→List Value→Prop:=Paired RelV
theorem Vals.length {xs:List V} {us:List Value} (r:Vals xs us):xs.length=us.length:=Paired.length r
theorem Vals.get:∀ {xs:List V} {us:List Value} {i:Nat} {x:V},Vals xs us→xs[i]? = some x→∃ u,us[i]? = some u∧RelV x u
  | _,_,_,_,.nil,e=>by simp at e
  | _,_,0,_,.cons r _,e=>by simp at e; subst e; exact ⟨_,rfl,r⟩
  | _,_,i + 1,x,.cons _ t,e=>by
    obtain ⟨u,h1,h2⟩:=Vals.get (i:=i) (x:=x) t (by simpa using e)
    exact ⟨u,by simpa using h1,h2⟩
theorem Vals.set {x:V} {u:Value} (r:RelV x u):∀ {xs:List V} {us:List Value} (i:Nat),Vals xs us→Vals (xs.set i x) (us.set i u)
  | _,_,_,.nil=>.nil
  | _,_,0,.cons _ t=>.cons r t
  | _,_,i + 1,.cons q t=>.cons q (Vals.set r i t)
theorem Vals.append:∀ {xs ys:List V} {us ws:List Value},Vals xs us→Vals ys ws→Vals (xs ++ ys) (us ++ ws)
  | _,_,_,_,.nil,s=>s
  | _,_,_,_,.cons r t,s=>.cons r (Vals.append t s)
theorem Vals.take:∀ {xs:List V} {us:List Value} (n:Nat),Vals xs us→Vals (xs.take n) (us.take n)
  | _,_,0,_=>.nil
  | _,_,_ + 1,.nil=>.nil
  | _,_,n + 1,.cons r t=>.cons r (Vals.take n t)
theorem Vals.drop:∀ {xs:List V} {us:List Value} (n:Nat),Vals xs us→Vals (xs.drop n) (us.drop n)
  | _,_,0,r=>r
  | _,_,_ + 1,.nil=>.nil
  | _,_,n + 1,.cons _ t=>Vals.drop n t
noncomputable def RelO:Option V→Option Value→Prop
  | some v,some u=>RelV v u
  | none,none=>True
  | _,_=>False
noncomputable def KV {κ:Type}:List (κ×V)→List (κ×Value)→Prop:=Paired fun (p:κ×V) (q:κ×Value)=>p.1=q.1∧RelV p.2 q.2
noncomputable def kV:Key→V
  | .inl i=>.int i
  | .inr x=>.str x
inductive HO where
  /-- a list -/
  | lst (xs:List V)
  /-- a tuple (never changes) -/
  | tup (xs:List V)
  /-- a dict whose keys are ints and texts; one whose keys are tuples of ints and texts (the empty one is both) -/
  | dK (kvs:List (Key×V)) | dT (kvs:List (List Key×V))
  /-- a set of ints: its members,its size -/
  | set (S:Int→Bool) (n:Nat)
  /-- an instance of the class at C,its dict at dx,its attributes -/
  | ins (C dx:Addr) (fs:List (Str×V))
  /-- the dict of the instance at x -/
  | own (x:Addr)
  /-- the dict of an exception -/
  | xd (fs:List (Str×V))
  /-- a bound method,f of x -/
  | met (f x:Addr)
  /-- a range object lo,lo + 1,.. below hi -/
  | rng (lo hi:Int)
  /-- a thing that is known to the object (the script; a dict while a loop walks it): read,never written while it is so -/
  | frz (o:Obj) (u:HO)
  /-- a code object's table -/
  | tbl (ps:Array Value)
  /-- any other thing,by what is true of its one object (a def of one's own: SetO a S n:=HO.ext fun h=>..) -/
  | ext (φ:Heap→Prop)
noncomputable abbrev Hp:=Addr→Option HO
noncomputable def upd (H:Hp) (a:Addr) (o:HO):Hp:=fun b=>if b=a then some o else H b
theorem upd_same {H:Hp} {a:Addr} {o:HO}:upd H a o a=some o:=by unfold upd; rw [if_pos rfl]
theorem upd_ne {H:Hp} {a b:Addr} {o:HO} (h:b≠a):upd H a o b=H b:=by unfold upd; rw [if_neg h]
theorem ne_of {H:Hp} {a b:Addr} {o u:HO} (h:H a=some o) (h':H b=some u) (d:o≠u):a≠b:=by
  intro e; subst e; rw [h] at h'; exact d (Option.some.inj h')
theorem ne_of_none {H:Hp} {a b:Addr} {o:HO} (h:H a=some o) (h':H b=none):a≠b:=by
  intro e; subst e; rw [h] at h'; cases h'
noncomputable def TupN (h:Heap) (a:Addr) (items:Array Value):Prop:=∃ o,h.get? a=some o∧o.cls=.type "tuple"∧(∃ n,o.data=.seq items n)∧o.dict=none
theorem TupN.tup {h:Heap} {a:Addr} {items:Array Value}:TupN h a items→IsTup h a items:=fun ⟨o,e,c,d,_⟩=>⟨o,e,c,d⟩
theorem TupN.new (h:Heap) (items:Array Value):TupN (h.push { cls:=.type "tuple",data:=.seq items }) h.objs.size items:=⟨_,Heap.get?_push_size _ rfl,rfl,⟨_,rfl⟩,rfl⟩
section
variable (P:Program) (w:World)
noncomputable def ObjOk (H:Hp) (h:Heap) (a:Addr):HO→Prop
  | .lst xs=>xs.length≤sizeLine∧∃ (its:List Value) (n:Nat),Vals xs its∧h.get? a=some { cls:=.type "list",data:=.seq its.toArray n }
  | .tup xs=>xs.length≤sizeLine∧∃ its:List Value,Vals xs its∧TupN h a its.toArray
  | .dK kvs=>kvs.length≤sizeLine∧(a == sysModules)=false∧∃ vs,KV kvs vs∧h.DictOf (mixKind P w) a vs
  | .dT kvs=>kvs.length≤sizeLine∧(a == sysModules)=false∧∃ xs:List (List Key×Addr×Value),
      Paired (fun (p:List Key×V) (q:List Key×Addr×Value)=>p.1=q.1∧H q.2.1=some (.tup (p.1.map kV))∧RelV p.2 q.2.2) kvs xs ∧
      ∃ o es ep,h.get? a=some o∧o.ExactDict∧o.data=.dict es ep∧es.toList=xs.map (entryOfKey (tupleKind (mixKind P w)))∧(xs.map (·.1)).Nodup
  | .set S n=>h.SetOf (intKind P w) a S n
  | .ins C dx fs=>H dx=some (.own a)∧fs.length≤1000∧dx≠a∧h.get? a=some (PySem.W.instObj C dx) ∧
      ∃ mA,h.Ns1 dx mA∧(∀ f,RelO (fs.lookup f) (mA f))∧PySem.Within mA (fs.map (·.1))
  | .own _=>∃ o,h.get? a=some o
  | .xd fs=>∃ mA,h.Ns1 a mA∧∀ f,RelO (fs.lookup f) (mA f)
  | .rng lo hi=>∃ t u v,h.get? a=some { cls:=.type "range",data:=.fields #[.int lo t,.int hi u,.int 1 v] }
  | .frz o u=>h.get? a=some o∧ObjOk H h a u
  | .tbl ps=>h.get? a=some { cls:=.none,data:=.fields ps }
  | .met f x=>h.get? a=some (PySem.W.methodObj (.ref f) (.ref x))
  | .ext φ=>φ h∧(∃ o,h.get? a=some o)∧∀ h1 h2:Heap,φ h1→(∀ o,h1.get? a=some o→h2.get? a=some o)→φ h2
noncomputable def HOk (H:Hp) (h:Heap):Prop:=∀ a o,H a=some o→ObjOk P w H h a o
end
section
variable {P:Program} {w:World} {H H':Hp} {h h':Heap} {a:Addr} {o:HO}
theorem ObjOk.lt (x:ObjOk P w H h a o):a < h.objs.size:=by
  cases o with
  | lst xs=>obtain ⟨_,_,_,_,e⟩:=x; exact Heap.lt_size e
  | tup xs=>obtain ⟨_,_,_,p⟩:=x; exact p.tup.lt
  | dK kvs=>obtain ⟨_,_,_,_,o,_,_,e,_⟩:=x; exact Heap.lt_size e
  | dT kvs=>obtain ⟨_,_,_,_,o,_,_,e,_⟩:=x; exact Heap.lt_size e
  | set S n=>obtain ⟨o,_,_,_,e,_⟩:=x; exact Heap.lt_size e
  | ins C dx fs=>obtain ⟨_,_,_,e,_⟩:=x; exact Heap.lt_size e
  | own y=>obtain ⟨_,e⟩:=x; exact Heap.lt_size e
  | xd fs=>obtain ⟨_,⟨_,_,_,e,_⟩,_⟩:=x; exact Heap.lt_size e
  | rng lo hi=>obtain ⟨_,_,_,e⟩:=x; exact Heap.lt_size e
  | frz ob u=>obtain ⟨e,_⟩:=x; exact Heap.lt_size e
  | tbl ps=>exact Heap.lt_size (show h.get? a=some _ from x)
  | met f y=>exact Heap.lt_size (show h.get? a=some _ from x)
  | ext φ=>obtain ⟨_,⟨_,e⟩,_⟩:=x; exact Heap.lt_size e
theorem Paired.mapP {α β:Type} {F G:α→β→Prop}:∀ {l₁:List α} {l₂:List β},Paired F l₁ l₂→(∀ a b,F a b→G a b)→Paired G l₁ l₂
  | _,_,.nil,_=>.nil
  | _,_,.cons r t,f=>.cons (f _ _ r) (Paired.mapP t f)
theorem ObjOk.stay (x:ObjOk P w H h a o) (k:∀ b u,(b=a∨H b=some (.own a))→h.get? b=some u→h'.get? b=some u)
    (ho:∀ b,H b=some (.own a)→H' b=some (.own a)) (ht:∀ b xs,H b=some (.tup xs)→H' b=some (.tup xs)):ObjOk P w H' h' a o:=by
  induction o with
  | lst xs=>obtain ⟨z,its,n,r,e⟩:=x; exact ⟨z,its,n,r,k _ _ (.inl rfl) e⟩
  | tup xs=>obtain ⟨z,its,r,ob,e,c⟩:=x; exact ⟨z,its,r,ob,k _ _ (.inl rfl) e,c⟩
  | dK kvs=>obtain ⟨z,y,vs,r,ob,es,ep,e,c⟩:=x; exact ⟨z,y,vs,r,ob,es,ep,k _ _ (.inl rfl) e,c⟩
  | dT kvs =>
    obtain ⟨z,y,xs,r,ob,es,ep,e,c⟩:=x
    exact ⟨z,y,xs,Paired.mapP r fun p q z=>⟨z.1,ht _ _ z.2.1,z.2.2⟩,ob,es,ep,k _ _ (.inl rfl) e,c⟩
  | set S n=>obtain ⟨ob,es,ep,t,e,c⟩:=x; exact ⟨ob,es,ep,t,k _ _ (.inl rfl) e,c⟩
  | ins C dx fs =>
    obtain ⟨d,z,ne,e,mA,⟨od,es,ep,e2,c⟩,r⟩:=x
    exact ⟨ho _ d,z,ne,k _ _ (.inl rfl) e,mA,⟨od,es,ep,k _ _ (.inr d) e2,c⟩,r⟩
  | own y=>obtain ⟨ob,e⟩:=x; exact ⟨ob,k _ _ (.inl rfl) e⟩
  | xd fs=>obtain ⟨mA,⟨od,es,ep,e,c⟩,r⟩:=x; exact ⟨mA,⟨od,es,ep,k _ _ (.inl rfl) e,c⟩,r⟩
  | rng lo hi=>obtain ⟨t,u,v,e⟩:=x; exact ⟨t,u,v,k _ _ (.inl rfl) e⟩
  | frz ob u ih=>obtain ⟨e,q⟩:=x; exact ⟨k _ _ (.inl rfl) e,ih q⟩
  | tbl ps =>
    have e:h.get? a=some { cls:=.none,data:=.fields ps }:=x
    show h'.get? a=some { cls:=.none,data:=.fields ps }
    exact k a _ (.inl rfl) e
  | met f y =>
    have e:h.get? a=some (PySem.W.methodObj (.ref f) (.ref y)):=x
    show h'.get? a=some (PySem.W.methodObj (.ref f) (.ref y))
    exact k a _ (.inl rfl) e
  | ext φ=>obtain ⟨p,⟨o,e⟩,st⟩:=x; exact ⟨st _ _ p fun o q=>k _ _ (.inl rfl) q,⟨o,k _ _ (.inl rfl) e⟩,st⟩
theorem HOk.lt (x:HOk P w H h) (e:H a=some o):a < h.objs.size:=(x a o e).lt
theorem HOk.fresh (x:HOk P w H h) (e:h.objs.size≤a):H a=none:=by
  cases q:H a with
  | none=>rfl
  | some u=>exact absurd (Nat.lt_of_lt_of_le (x.lt q) e) (Nat.lt_irrefl _)
theorem HOk.kept (x:HOk P w H h) (k:∀ b u,h.get? b=some u→h'.get? b=some u):HOk P w H h':=fun a o e =>
  (x a o e).stay (fun b u _ q=>k b u q) (fun _ q=>q) fun _ _ q=>q
theorem HOk.laid (x:HOk P w H h) (k:∀ b u,h.get? b=some u→h'.get? b=some u) (hp:h.objs.size≤a) (new:ObjOk P w (upd H a o) h' a o):HOk P w (upd H a o) h':=fun b u e=>by
  have hn:=x.fresh hp
  by_cases hb:b=a
  · subst hb; rw [upd_same] at e; cases e; exact new
  · rw [upd_ne hb] at e
    exact (x b u e).stay (fun c v _ q=>k c v q) (fun c q=>by rw [upd_ne (ne_of_none q hn)]; exact q) fun c xs q=>by rw [upd_ne (ne_of_none q hn)]; exact q
end
noncomputable def Rd (H:Hp) (a:Addr) (u:HO):Prop:=H a=some u∨∃ o,H a=some (.frz o u)
theorem Rd.ok {P:Program} {w:World} {H:Hp} {h:Heap} {a:Addr} {u:HO} (r:Rd H a u) (x:HOk P w H h):ObjOk P w H h a u:=by
  rcases r with r | ⟨o,r⟩
  · exact x a u r
  · obtain ⟨_,q⟩:=x a _ r
    exact q
noncomputable def Mut:Option HO→Prop
  | some (.lst _)=>True
  | some (.dK _)=>True
  | some (.dT _)=>True
  | some (.set _ _)=>True
  | some (.ins _ _ _)=>True
  | some (.ext _)=>True
  | _=>False
section
variable {P:Program} {w:World} {H:Hp} {h h':Heap} {x e:Addr} {o':HO}
theorem HOk.write (ok:HOk P w H h) (mu:Mut (H x)) (he:e=x∨H e=some (.own x)) (k:∀ b u,b≠e→h.get? b=some u→h'.get? b=some u) (heo:∃ u,h'.get? e=some u)
    (new:ObjOk P w (upd H x o') h' x o'):HOk P w (upd H x o') h':=fun b u q=>by
  have nown:∀ c y,H c=some (.own y)→c≠x:=fun c y r z=>by subst z; rw [r] at mu; exact mu
  have ntup:∀ c xs,H c=some (.tup xs)→c≠x:=fun c xs r z=>by subst z; rw [r] at mu; exact mu
  by_cases hb:b=x
  · subst hb; rw [upd_same] at q; cases q; exact new
  · rw [upd_ne hb] at q
    by_cases hbe:b=e
    · have q':H b=some (.own x):=by
        rcases he with z | z
        · exact absurd (hbe.trans z) hb
        · rw [hbe]; exact z
      rw [q] at q'; cases q'
      obtain ⟨v,hv⟩:=heo
      exact ⟨v,by rw [hbe]; exact hv⟩
    · refine (ok b u q).stay (fun c v hc r=>k c v ?_ r) (fun c r=>by rw [upd_ne (nown c b r)]; exact r) fun c xs r=>by rw [upd_ne (ntup c xs r)]; exact r
      rcases hc with rfl | hc
      · exact hbe
      · rintro rfl
        rcases he with z | z
        · exact nown c b hc z
        · rw [hc] at z; cases z; exact hb rfl
end
structure Un (fs ex:List Addr) (H H':Hp) (h h':Heap):Prop where
  keep:∀ b o,h.get? b=some o→H b=none→b∉fs→b∉ex→h'.get? b=some o
  slot:∀ b o,h.get? b=some o→H b=none→b∈fs→b∉ex→∃ sl,h'.get? b=some { o with slots:=sl }
  free:∀ b o,h.get? b=some o→H b=none→b∉ex→H' b=none
  there:∀ b o,h.get? b=some o→b∉ex→∃ o',h'.get? b=some o'
  tups:∀ b xs,H b=some (.tup xs)→H' b=some (.tup xs)
  frzs:∀ b o u,H b=some (.frz o u)→H' b=some (.frz o u)
  tbls:∀ b ps,H b=some (.tbl ps)→∃ more,H' b=some (.tbl (ps ++ more))
section
variable {fs fs' ex ex':List Addr} {H H1 H2:Hp} {h h1 h2 h':Heap} {a x e:Addr} {o:HO}
theorem Un.any (u:Un fs ex H H1 h h1) {b:Addr} {ob:Obj} (q:h.get? b=some ob) (n:H b=none) (hx:b∉ex):∃ sl,h1.get? b=some { ob with slots:=sl }:=by
  by_cases hb:b∈fs
  · exact u.slot b ob q n hb hx
  · exact ⟨ob.slots,u.keep b ob q n hb hx⟩
theorem Un.kept (k:∀ b u,h.get? b=some u→h'.get? b=some u):Un fs ex H H h h' :=
  ⟨fun b ob q _ _ _=>k b ob q,fun b ob q _ _ _=>⟨ob.slots,k b ob q⟩,fun _ _ _ n _=>n,fun b ob q _=>⟨ob,k b ob q⟩,fun _ _ q=>q,fun _ _ _ q=>q,fun _ ps q=>⟨#[],by rw [q]; simp⟩⟩
theorem Un.refl:Un fs ex H H h h:=Un.kept fun _ _ q=>q
theorem Un.laid (k:∀ b u,h.get? b=some u→h'.get? b=some u) (hp:h.objs.size≤a) (hn:H a=none):Un fs ex H (upd H a o) h h' where
  keep:=fun b u q _ _ _=>k b u q
  slot:=fun b u q _ _ _=>⟨u.slots,k b u q⟩
  free:=fun b u q n _=>by rw [upd_ne (Nat.ne_of_lt (Nat.lt_of_lt_of_le (Heap.lt_size q) hp))]; exact n
  there:=fun b u q _=>⟨u,k b u q⟩
  tups:=fun b xs q=>by rw [upd_ne (ne_of_none q hn)]; exact q
  frzs:=fun b u xs q=>by rw [upd_ne (ne_of_none q hn)]; exact q
  tbls:=fun b ps q=>⟨#[],by rw [upd_ne (ne_of_none q hn),q]; simp⟩
theorem Un.write (mu:Mut (H x)) (he:e=x∨H e=some (.own x)) (k:∀ b u,b≠e→h.get? b=some u→h'.get? b=some u) (heo:∃ u,h'.get? e=some u):Un fs ex H (upd H x o) h h':=by
  have hx:∀ b,H b=none→b≠x:=fun b n z=>by subst z; rw [n] at mu; exact mu
  have hb:∀ b,H b=none→b≠e:=fun b n z=>by
    subst z
    rcases he with r | r
    · exact hx b n r
    · rw [n] at r; cases r
  have hm:∀ b u,H b=some u→¬ Mut (some u)→b≠x:=fun b u q nm z=>by subst z; rw [q] at mu; exact nm mu
  refine ⟨fun b u q n _ _=>k b u (hb b n) q,fun b u q n _ _=>⟨u.slots,k b u (hb b n) q⟩,fun b u q n _=>by rw [upd_ne (hx b n)]; exact n,fun b u q _=>?_,
    fun b xs q=>by rw [upd_ne (hm b _ q fun z=>z)]; exact q,fun b u xs q=>by rw [upd_ne (hm b _ q fun z=>z)]; exact q,fun b ps q=>⟨#[],by rw [upd_ne (hm b _ q fun z=>z),q]; simp⟩⟩
  by_cases hbe:b=e
  · subst hbe; exact heo
  · exact ⟨u,k b u hbe q⟩
end
noncomputable def trk (h:Heap) (H:Hp):List Addr:=(List.range h.objs.size).filter fun a=>(H a).isSome
noncomputable def hidT (h:Heap) (H:Hp):Heap:=PySem.W.hideAll h (trk h H)
theorem hidT_size (h:Heap) (H:Hp):(hidT h H).objs.size=h.objs.size:=PySem.W.hideAll_size _ _
theorem hidT_get {h:Heap} {H:Hp} {b:Addr} {o:Obj} (e:h.get? b=some o) (n:H b=none):(hidT h H).get? b=some o :=
  PySem.W.hideAll_get _ e fun hm=>by
    have q:(H b).isSome=true:=(List.mem_filter.mp hm).2
    rw [n] at q; simp at q
theorem of_hidT {h:Heap} {H:Hp} {b:Addr} {o:Obj} (e:(hidT h H).get? b=some o):h.get? b=some o∧H b=none:=by
  have e':h.get? b=some o:=PySem.W.of_hideAll (trk h H) e
  refine ⟨e',?_⟩
  cases q:H b with
  | none=>rfl
  | some x =>
    have hm:b∈trk h H:=List.mem_filter.mpr ⟨List.mem_range.mpr (Heap.lt_size e'),by simp [q]⟩
    have z:(hidT h H).get? b=none:=PySem.W.hideAll_none (trk h H) hm
    rw [z] at e; cases e
end L2
namespace L2
open PySem PySem.Spec PyProof.Rows
structure Mod (K:PySem.W.Frag) (mg:Str→Option Value) (base:Heap):Prop where
  kin:K.In base
  glob:base.Ns mainGlobals mg
  blt:∃ mb,base.Ns builtinsNs mb∧∀ x:Str,x≠"__name__"→mb x=bootBuiltins x
  nolimit:base.NoLimit
  bmod:∃ bm ob,mg "__builtins__"=some (.ref bm)∧bm≠builtinsNs∧base.get? bm=some ob∧ob.cls=.type "module"∧ob.dict=some builtinsNs∧ob.data=.plain
structure Cx where
  prog:Program
  w:World
  K:PySem.W.Frag
  mg:Str→Option Value
  base:Heap
  A:Around
  N:List Str
  s₀:Shared
  H₀:Hp
  env:Env
  outer:List Env
  stack:List Env
  ex:List Addr
  fn:Str→Bool
  calm:Bool
  pn:List (Addr×Obj)
  xe:Value→Shared→Prop
noncomputable def frs (l:List Env):List Addr:=l.filterMap (·.frame)
noncomputable abbrev Cx.fs (X:Cx):List Addr:=frs X.outer
noncomputable def Vis (sc:Scope) (x:Str):Prop:=sc.names.lookup x=some .local∨sc.names.lookup x=some .cell∨sc.names.lookup x=some .free
noncomputable def Loc (sc:Scope) (x:Str):Prop:=sc.names.lookup x=some .local∨sc.names.lookup x=some .cell
noncomputable def Look (env:Env) (h:Heap) (m:Str→Option Value) (x:Str) (u:Value):Prop :=
  (env.kindOf x=some .local∧m x=some u)∨((env.kindOf x=some .cell∨env.kindOf x=some .free)∧∃ c,env.cells.lookup x=some c∧h.IsCell c (some u))
structure Cx.Ok (X:Cx):Prop where
  mod:Mod X.K X.mg X.base
  kind:X.env.scope.kind=.function
  glob:X.env.globals=mainGlobals
  blt:X.env.builtins=builtinsNs
  above:X.s₀.heap.objs.size≤X.env.locals
  inj:∀ x y c,X.env.cells.lookup x=some c→X.env.cells.lookup y=some c→x=y
  has:∀ x,(X.env.kindOf x=some .cell∨X.env.kindOf x=some .free)→∃ c,X.env.cells.lookup x=some c
  cab:∀ x c,X.fn x=true→X.env.cells.lookup x=some c→X.s₀.heap.objs.size≤c
  hd:X.calm=true→X.A.handled=none
  frames:X.A.frames=some X.stack
  stk:X.stack=X.outer∨(X.stack=X.env :: X.outer∧X.env.frame=some X.env.locals)
  exf:∀ b∈X.ex,b≠X.env.locals∧∀ x c,X.env.cells.lookup x=some c→c≠b
  bs:∀ b o,X.base.get? b=some o→X.s₀.heap.get? b=some o∧X.H₀ b=none
  bsz:X.base.objs.size≤X.s₀.heap.objs.size
  noex:∀ b o,X.base.get? b=some o→b∉X.ex
  exfs:∀ b∈X.ex,b∉X.fs
  funs:X.s₀.heap.FunFrames X.base X.outer
  frf:∀ b∈X.fs,X.H₀ b=none
structure Inv (X:Cx) (pins:List (Addr×Obj)) (σ:List (Option V)) (H:Hp) (s:Shared):Prop where
  ok:X.Ok
  os:s.os=X.s₀.os
  bare:AllBare s.gens
  base:Un X.fs X.ex X.H₀ H X.s₀.heap s.heap
  loc:∃ m,s.heap.Ns X.env.locals m∧∀ (i:Nat) (x:Str) (v:V),X.N[i]? = some x→σ[i]? = some (some v)→Vis X.env.scope x→∃ u,RelV v u∧Look X.env s.heap m x u
  cell:∀ x c,X.env.cells.lookup x=some c→∃ v,s.heap.IsCell c v
  free:H X.env.locals=none
  freeC:∀ x c,X.env.cells.lookup x=some c→H c=none
  pin:∀ p∈X.pn ++ pins,s.heap.get? p.1=some p.2∧H p.1=none∧p.1≠X.env.locals∧p.1∉X.fs∧∀ v,p.2.data≠.cell v
  hok:HOk X.prog X.w H s.heap
  len:σ.length=X.N.length
section
variable {X:Cx} {pins:List (Addr×Obj)} {σ:List (Option V)} {H H':Hp} {s:Shared} {h':Heap}
theorem Cx.Ok.nofr (ok:X.Ok) {b:Addr} {o:Obj} (e:X.base.get? b=some o):b∉X.fs:=fun hb=>by
  have:=(ok.funs.mem hb).1
  rw [e] at this; cases this
theorem Inv.bs (I:Inv X pins σ H s):∀ b o,X.base.get? b=some o→s.heap.get? b=some o∧H b=none:=fun b o e =>
  ⟨I.base.keep b o (I.ok.bs b o e).1 (I.ok.bs b o e).2 (I.ok.nofr e) (I.ok.noex b o e),I.base.free b o (I.ok.bs b o e).1 (I.ok.bs b o e).2 (I.ok.noex b o e)⟩
theorem Inv.bk (I:Inv X pins σ H s):∀ b o,X.base.get? b=some o→s.heap.get? b=some o:=fun b o e=>(I.bs b o e).1
theorem Inv.mod (I:Inv X pins σ H s):Mod X.K X.mg X.base:=I.ok.mod
theorem Inv.kIn (I:Inv X pins σ H s):X.K.In s.heap:=I.ok.mod.kin.keeps I.bk
theorem Inv.lt (I:Inv X pins σ H s):X.env.locals < s.heap.objs.size:=let ⟨_,hn,_⟩:=I.loc; hn.lt
theorem Inv.sz (I:Inv X pins σ H s):X.s₀.heap.objs.size≤s.heap.objs.size:=Nat.le_trans I.ok.above (Nat.le_of_lt I.lt)
theorem Inv.nofs (I:Inv X pins σ H s) {a:Addr} (h:s.heap.objs.size≤a):a∉X.fs:=fun hb=>by
  obtain ⟨_,o,ho,_⟩:=I.ok.funs.mem hb
  exact absurd (Nat.lt_of_lt_of_le (Heap.lt_size ho) (Nat.le_trans I.sz h)) (Nat.lt_irrefl _)
theorem Inv.cne (I:Inv X pins σ H s):∀ x c,X.env.cells.lookup x=some c→c≠X.env.locals:=fun x c e z=>by
  obtain ⟨v,o,ho,hd⟩:=I.cell x c e
  obtain ⟨m,⟨o',es,ep,ho',hd',_⟩,_⟩:=I.loc
  rw [z,ho'] at ho; cases ho; rw [hd'] at hd; cases hd
theorem Inv.funs (I:Inv X pins σ H s):s.heap.FunFrames X.base X.outer:=by
  have all:∀ (l:List Env),(∀ b∈frs l,b∈X.fs)→X.s₀.heap.FunFrames X.base l→s.heap.FunFrames X.base l:=by
    intro l
    induction l with
    | nil=>intro _ _; trivial
    | cons env r ih =>
      intro hs hl
      obtain ⟨hk,⟨L,o,hf,hn,ho,hd⟩,hr⟩:=hl
      have hL:L∈X.fs:=hs L (by unfold frs; rw [List.filterMap_cons,hf]; exact List.mem_cons_self)
      obtain ⟨sl,e⟩:=I.base.slot L o ho (I.ok.frf L hL) hL fun z=>I.ok.exfs L z hL
      exact ⟨hk,⟨L,_,hf,hn,e,hd⟩,ih (fun b hb=>hs b (by unfold frs; rw [List.filterMap_cons,hf]; exact List.mem_cons_of_mem _ hb)) hr⟩
  exact all X.outer (fun _ hb=>hb) I.ok.funs
theorem Inv.stack (I:Inv X pins σ H s):s.heap.FunFrames X.base X.stack:=by
  rcases I.ok.stk with e | ⟨e,hf⟩
  · rw [e]; exact I.funs
  · rw [e]
    obtain ⟨m,hn,_⟩:=I.loc
    refine .cons (by rw [I.ok.kind]; decide) hf hn ?_ I.funs
    exact Heap.get?_none_of_le (Nat.le_trans I.ok.bsz I.ok.above)
theorem Inv.stkSub (I:Inv X pins σ H s):∀ b∈frs X.stack,b∈X.env.locals :: X.fs:=fun b hb=>by
  rcases I.ok.stk with e | ⟨e,hf⟩
  · rw [e] at hb; exact List.mem_cons_of_mem _ hb
  · rw [e] at hb
    unfold frs at hb
    rw [List.filterMap_cons,hf] at hb
    exact hb
theorem Inv.stkFree (I:Inv X pins σ H s):∀ b∈frs X.stack,H b=none:=fun b hb=>by
  rcases List.mem_cons.mp (I.stkSub b hb) with e | hb
  · rw [e]; exact I.free
  · obtain ⟨_,o,ho,_⟩:=I.ok.funs.mem hb
    exact I.base.free b o ho (I.ok.frf b hb) fun z=>I.ok.exfs b z hb
theorem Inv.step {g':Array GenState} {t':Nat} {d':Drawn} {ch:List Addr} (I:Inv X pins σ H s)
    (hch:∀ b∈ch,(b∈X.ex∨X.s₀.heap.objs.size≤b)∧b≠X.env.locals∧(∀ x c,X.env.cells.lookup x=some c→c≠b)∧∀ p∈X.pn ++ pins,p.1≠b)
    (keep:∀ b o,b≠X.env.locals→b∉X.fs→b∉ch→s.heap.get? b=some o→H b=none→h'.get? b=some o)
    (slot:∀ b o,b≠X.env.locals→b∈X.fs→b∉ch→s.heap.get? b=some o→H b=none→∃ sl,h'.get? b=some { o with slots:=sl }) (free:∀ b o,b∉ch→s.heap.get? b=some o→H b=none→H' b=none)
    (there:∀ b o,b∉ch→s.heap.get? b=some o→∃ o',h'.get? b=some o')
    (tups:∀ b xs,H b=some (.tup xs)→H' b=some (.tup xs)) (frzs:∀ b o u,H b=some (.frz o u)→H' b=some (.frz o u)) (tbls:∀ b ps,H b=some (.tbl ps)→∃ more,H' b=some (.tbl (ps ++ more)))
    (ns:∀ m,s.heap.Ns X.env.locals m→h'.Ns X.env.locals m) (hok:HOk X.prog X.w H' h') (hg:AllBare g') :
    Inv X pins σ H' { s with heap:=h',gens:=g',drawn:=d',toks:=t' }:=by
  have neL:∀ b o,X.s₀.heap.get? b=some o→b≠X.env.locals:=fun b o e=>Nat.ne_of_lt (Nat.lt_of_lt_of_le (Heap.lt_size e) I.ok.above)
  have neC:∀ b o,X.s₀.heap.get? b=some o→b∉X.ex→b∉ch:=fun b o e hx hb=>by
    rcases (hch b hb).1 with z | z
    · exact hx z
    · exact absurd (Nat.lt_of_lt_of_le (Heap.lt_size e) z) (Nat.lt_irrefl _)
  have cellK:∀ x c,X.env.cells.lookup x=some c→∀ v,s.heap.IsCell c v→h'.IsCell c v:=fun x c e v ⟨o,ho,hd⟩=>by
    have nch:c∉ch:=fun z=>(hch c z).2.2.1 x c e rfl
    by_cases hc:c∈X.fs
    · obtain ⟨sl,q⟩:=slot c o (I.cne x c e) hc nch ho (I.freeC x c e)
      exact ⟨_,q,hd⟩
    · exact ⟨o,keep c o (I.cne x c e) hc nch ho (I.freeC x c e),hd⟩
  refine ⟨I.ok,I.os,hg,⟨fun b o e n hb hx=>?_,fun b o e n hb hx=>?_,fun b o e n hx=>?_,fun b o e hx=>?_,fun b xs e=>tups b xs (I.base.tups b xs e),fun b o xs e=>frzs b o xs (I.base.frzs b o xs e),fun b ps e=>?_⟩,?_,fun x c e=>?_,?_,fun x c e=>?_,fun p hp=>?_,hok,I.len⟩
  · exact keep b o (neL b o e) hb (neC b o e hx) (I.base.keep b o e n hb hx) (I.base.free b o e n hx)
  · obtain ⟨sl,e1⟩:=I.base.slot b o e n hb hx
    obtain ⟨sl',e2⟩:=slot b _ (neL b o e) hb (neC b o e hx) e1 (I.base.free b o e n hx)
    exact ⟨sl',e2⟩
  · obtain ⟨o',e1⟩:=I.base.there b o e hx
    exact free b o' (neC b o e hx) e1 (I.base.free b o e n hx)
  · obtain ⟨o',e1⟩:=I.base.there b o e hx
    exact there b o' (neC b o e hx) e1
  · obtain ⟨m1,e1⟩:=I.base.tbls b ps e
    obtain ⟨m2,e2⟩:=tbls b _ e1
    exact ⟨m1 ++ m2,by rw [e2,Array.append_assoc]⟩
  · obtain ⟨m,hn,hl⟩:=I.loc
    refine ⟨m,ns m hn,fun i x v e1 e2 e3=>?_⟩
    obtain ⟨u,r,l⟩:=hl i x v e1 e2 e3
    refine ⟨u,r,?_⟩
    rcases l with l | ⟨k,c,e,z⟩
    · exact .inl l
    · exact .inr ⟨k,c,e,cellK x c e _ z⟩
  · obtain ⟨v,z⟩:=I.cell x c e
    exact ⟨v,cellK x c e v z⟩
  · obtain ⟨m,⟨o,_,_,ho,_⟩,_⟩:=I.loc
    exact free _ o (fun z=>(hch _ z).2.1 rfl) ho I.free
  · obtain ⟨v,o,ho,hd⟩:=I.cell x c e
    exact free c o (fun z=>(hch c z).2.2.1 x c e rfl) ho (I.freeC x c e)
  · obtain ⟨e,n,ne,nf,d⟩:=I.pin p hp
    have nch:p.1∉ch:=fun z=>(hch p.1 z).2.2.2 p hp rfl
    exact ⟨keep p.1 p.2 ne nf nch e n,free p.1 p.2 nch e n,ne,nf,d⟩
theorem Inv.un {t':Nat} (I:Inv X pins σ H s) (u:Un X.fs [] H H' s.heap h') (hok:HOk X.prog X.w H' h'):Inv X pins σ H' { s with heap:=h',toks:=t' }:=by
  obtain ⟨m,⟨o,es,ep,ho,r⟩,_⟩:=id I.loc
  obtain ⟨sl,hL⟩:=u.any ho I.free (by simp)
  exact I.step (g':=s.gens) (d':=s.drawn) (ch:=[]) (fun _ z=>nomatch z) (fun b o _ hb _ e n=>u.keep b o e n hb (by simp)) (fun b o _ hb _ e n=>u.slot b o e n hb (by simp)) (fun b o _ e n=>u.free b o e n (by simp)) (fun b o _ e=>u.there b o e (by simp)) u.tups u.frzs u.tbls (fun m' hm=>by
    obtain ⟨o',es',ep',ho',r'⟩:=hm
    rw [ho] at ho'; cases ho'
    exact ⟨_,es',ep',hL,r'⟩) hok I.bare
theorem Inv.call {g':Array GenState} {t':Nat} {d':Drawn} {ch:List Addr} (I:Inv X pins σ H s) (u:Un (frs X.stack) ch H H' s.heap h') (hok:HOk X.prog X.w H' h') (hg:AllBare g')
    (hch:∀ b∈ch,(b∈X.ex∨X.s₀.heap.objs.size≤b)∧b≠X.env.locals∧(∀ x c,X.env.cells.lookup x=some c→c≠b)∧∀ p∈X.pn ++ pins,p.1≠b) :
    Inv X pins σ H' { s with heap:=h',gens:=g',drawn:=d',toks:=t' }:=by
  obtain ⟨m,⟨o,es,ep,ho,r⟩,_⟩:=id I.loc
  obtain ⟨sl,hL⟩:=u.any ho I.free fun z=>(hch _ z).2.1 rfl
  exact I.step (ch:=ch) hch (fun b o hL hb hc e n=>u.keep b o e n (fun z=>(List.mem_cons.mp (I.stkSub b z)).elim hL hb) hc) (fun b o _ _ hc e n=>u.any e n hc) (fun b o hc e n=>u.free b o e n hc) (fun b o hc e=>u.there b o e hc) u.tups u.frzs u.tbls (fun m' hm=>by
    obtain ⟨o',es',ep',ho',r'⟩:=hm
    rw [ho] at ho'; cases ho'
    exact ⟨_,es',ep',hL,r'⟩) hok hg
theorem Inv.turned {t':Nat} {it:Addr} (I:Inv X pins σ H s) (k:∀ b o,b≠it→s.heap.get? b=some o→h'.get? b=some o) (hn:H it=none) (hL:it≠X.env.locals)
    (h1:it∈X.ex∨X.s₀.heap.objs.size≤it) (h2:∀ x c,X.env.cells.lookup x=some c→c≠it) (h3:∀ p∈X.pn ++ pins,p.1≠it):Inv X pins σ H { s with heap:=h',toks:=t' }:=by
  have nit:∀ b u,H b=some u→b≠it:=fun b u e z=>by rw [z,hn] at e; cases e
  refine I.step (g':=s.gens) (d':=s.drawn) (ch:=[it]) (fun b hb=>?_) (fun b o _ _ hc e _=>k b o (fun z=>hc (by simp [z])) e) (fun b o _ _ hc e _=>⟨o.slots,k b o (fun z=>hc (by simp [z])) e⟩) (fun _ _ _ _ n=>n)
    (fun b o hc e=>⟨o,k b o (fun z=>hc (by simp [z])) e⟩) (fun _ _ e=>e) (fun _ _ _ e=>e) (fun b ps e=>⟨#[],by rw [e]; simp⟩) (fun m hm=>?_) (fun b u e=>?_) I.bare
  · have e:b=it:=by simpa using hb
    subst e
    exact ⟨h1,hL,h2,h3⟩
  · obtain ⟨o,es,ep,ho,r⟩:=hm
    exact ⟨o,es,ep,k _ o (Ne.symm hL) ho,r⟩
  · refine (I.hok b u e).stay (fun c v hc q=>k c v ?_ q) (fun _ q=>q) fun _ _ q=>q
    rcases hc with z | z
    · rw [z]; exact nit b u e
    · exact nit c _ z
theorem Inv.tok (I:Inv X pins σ H s) (t:Nat):Inv X pins σ H { s with toks:=t }:=I.un (h':=s.heap) (t':=t) Un.refl I.hok
theorem Inv.kept {t':Nat} (I:Inv X pins σ H s) (k:∀ b u,s.heap.get? b=some u→h'.get? b=some u):Inv X pins σ H { s with heap:=h',toks:=t' }:=I.un (Un.kept k) (I.hok.kept k)
theorem Inv.laid {a:Addr} {o:HO} {t':Nat} (I:Inv X pins σ H s) (k:∀ b u,s.heap.get? b=some u→h'.get? b=some u) (hp:s.heap.objs.size≤a) (new:ObjOk X.prog X.w (upd H a o) h' a o) :
    Inv X pins σ (upd H a o) { s with heap:=h',toks:=t' }:=I.un (Un.laid k hp (I.hok.fresh hp)) (I.hok.laid k hp new)
theorem Inv.write {x e:Addr} {o:HO} {t':Nat} (I:Inv X pins σ H s) (mu:Mut (H x)) (he:e=x∨H e=some (.own x)) (k:∀ b u,b≠e→s.heap.get? b=some u→h'.get? b=some u) (heo:∃ u,h'.get? e=some u)
    (new:ObjOk X.prog X.w (upd H x o) h' x o):Inv X pins σ (upd H x o) { s with heap:=h',toks:=t' }:=I.un (Un.write mu he k heo) (I.hok.write mu he k heo new)
theorem Inv.pins_of {pins':List (Addr×Obj)} (I:Inv X pins σ H s) (h:∀ p∈pins',s.heap.get? p.1=some p.2∧H p.1=none∧p.1≠X.env.locals∧p.1∉X.fs∧∀ v,p.2.data≠.cell v):Inv X pins' σ H s :=
  ⟨I.ok,I.os,I.bare,I.base,I.loc,I.cell,I.free,I.freeC,fun p hp=>(List.mem_append.mp hp).elim (fun z=>I.pin p (List.mem_append_left _ z)) (h p),I.hok,I.len⟩
theorem nodup_ix {N:List Str} (hN:N.Nodup) {i j:Nat} {x:Str} (a:N[i]? = some x) (b:N[j]? = some x):i=j:=by
  obtain ⟨h1,e1⟩:=List.getElem?_eq_some_iff.mp a
  obtain ⟨h2,e2⟩:=List.getElem?_eq_some_iff.mp b
  exact (List.getElem_inj hN).mp (e1.trans e2.symm)
theorem store_ok2 {M:Model} {A:Around} {E:Value→Shared→Prop} {i:Nat} {x:Str} {v:V} {u:Value} {Q:Unit→Shared→Prop} (I:Inv X pins σ H s) (hN:X.N.Nodup) (hi:X.N[i]? = some x) (hx:Loc X.env.scope x) (r:RelV v u)
    (h:∀ s',Inv X pins (σ.set i (some v)) H s'→(∃ a,Heap.SameBut a s.heap s'.heap∧(a=X.env.locals∨X.env.cells.lookup x=some a))→Q () s') (hf:X.fn x=true∨X.env.scope.names.lookup x=some .local:=by first | exact .inl rfl | exact .inr rfl | assumption):wpAny M A (storeName X.env x u) Q E s:=by
  obtain ⟨m,hn,hl⟩:=id I.loc
  have hcls:(X.env.scope.kind == .class || (X.env.scope.kind == .module && X.env.locals != X.env.globals))=false:=by rw [I.ok.kind]; rfl
  have hiσ:i < σ.length:=by rw [I.len]; exact (List.getElem?_eq_some_iff.mp hi).1
  have cne:=I.cne
  have tracked:∀ {a:Addr} {h':Heap},(∃ o,s.heap.get? a=some o∧H a=none)→Heap.SameBut a s.heap h'→HOk X.prog X.w H h':=fun {a h'} ha hs b ob e=>by
    obtain ⟨_,_,hfree⟩:=ha
    refine (I.hok b ob e).stay (fun c w' hc q=>(hs.2 c ?_).trans q) (fun _ q=>q) fun _ _ q=>q
    rintro rfl
    rcases hc with rfl | hc
    · rw [hfree] at e; cases e
    · rw [hfree] at hc; cases hc
  rcases hx with hk | hk
  · refine wpAny_storeName_local hk hn (fun h' hn' hs=>?_) hcls
    obtain ⟨oL,_,_,hoL,_⟩:=id hn
    refine h _ ⟨I.ok,I.os,I.bare,⟨fun b o e n hb hx=>?_,fun b o e n hb hx=>?_,I.base.free,fun b o e hx=>?_,I.base.tups,I.base.frzs,I.base.tbls⟩,⟨_,hn',fun j y v' e1 e2 e3=>?_⟩,fun y c e=>?_,I.free,I.freeC,fun p hp=>?_,tracked ⟨oL,hoL,I.free⟩ hs,by simpa using I.len⟩ ⟨_,hs,.inl rfl⟩
    · exact (hs.2 b (Nat.ne_of_lt (Nat.lt_of_lt_of_le (Heap.lt_size e) I.ok.above))).trans (I.base.keep b o e n hb hx)
    · obtain ⟨sl,e1⟩:=I.base.slot b o e n hb hx
      exact ⟨sl,(hs.2 b (Nat.ne_of_lt (Nat.lt_of_lt_of_le (Heap.lt_size e) I.ok.above))).trans e1⟩
    · obtain ⟨o',e1⟩:=I.base.there b o e hx
      exact ⟨o',(hs.2 b (Nat.ne_of_lt (Nat.lt_of_lt_of_le (Heap.lt_size e) I.ok.above))).trans e1⟩
    · by_cases hj:j=i
      · subst hj
        rw [hi] at e1; cases e1
        rw [List.getElem?_set_self hiσ] at e2
        cases e2
        exact ⟨u,r,.inl ⟨hk,by simp⟩⟩
      · rw [List.getElem?_set_ne (Ne.symm hj)] at e2
        obtain ⟨u',r',q⟩:=hl j y v' e1 e2 e3
        refine ⟨u',r',?_⟩
        rcases q with ⟨k,e⟩ | ⟨k,c,e,z⟩
        · refine .inl ⟨k,?_⟩
          have:y≠x:=fun e=>hj (nodup_ix hN e1 (e ▸ hi))
          simp [this,e]
        · exact .inr ⟨k,c,e,z.sameBut hs (cne y c e)⟩
    · obtain ⟨w',z⟩:=I.cell y c e
      exact ⟨w',z.sameBut hs (cne y c e)⟩
    · obtain ⟨e,n,ne,nf,d⟩:=I.pin p hp
      exact ⟨(hs.2 p.1 ne).trans e,n,ne,nf,d⟩
  · have hfn:X.fn x=true:=by
      rcases hf with z | z
      · exact z
      · rw [z] at hk; cases hk
    obtain ⟨c,hc⟩:=I.ok.has x (.inl hk)
    obtain ⟨w',z⟩:=I.cell x c hc
    refine wpAny_storeName_cell I.ok.kind hk hc z (fun h' hc' hs=>?_)
    obtain ⟨oc,hoc,hocd⟩:=id z
    refine h { s with heap:=h' } ⟨I.ok,I.os,I.bare,⟨fun b o e n hb hx=>?_,fun b o e n hb hx=>?_,I.base.free,fun b o e hx=>?_,I.base.tups,I.base.frzs,I.base.tbls⟩,⟨m,hn.sameBut hs (Ne.symm (cne x c hc)),fun j y v' e1 e2 e3=>?_⟩,fun y c' e=>?_,I.free,I.freeC,fun p hp=>?_,tracked ⟨oc,hoc,I.freeC x c hc⟩ hs,by simpa using I.len⟩ ⟨c,hs,.inr hc⟩
    · exact (hs.2 b (Nat.ne_of_lt (Nat.lt_of_lt_of_le (Heap.lt_size e) (I.ok.cab x c hfn hc)))).trans (I.base.keep b o e n hb hx)
    · obtain ⟨sl,e1⟩:=I.base.slot b o e n hb hx
      exact ⟨sl,(hs.2 b (Nat.ne_of_lt (Nat.lt_of_lt_of_le (Heap.lt_size e) (I.ok.cab x c hfn hc)))).trans e1⟩
    · obtain ⟨o',e1⟩:=I.base.there b o e hx
      exact ⟨o',(hs.2 b (Nat.ne_of_lt (Nat.lt_of_lt_of_le (Heap.lt_size e) (I.ok.cab x c hfn hc)))).trans e1⟩
    · by_cases hj:j=i
      · subst hj
        rw [hi] at e1; cases e1
        rw [List.getElem?_set_self hiσ] at e2
        cases e2
        exact ⟨u,r,.inr ⟨.inl hk,c,hc,hc'⟩⟩
      · rw [List.getElem?_set_ne (Ne.symm hj)] at e2
        obtain ⟨u',r',q⟩:=hl j y v' e1 e2 e3
        refine ⟨u',r',?_⟩
        rcases q with q | ⟨k,c',e,z'⟩
        · exact .inl q
        · refine .inr ⟨k,c',e,z'.sameBut hs ?_⟩
          rintro rfl
          exact hj (nodup_ix hN e1 (I.ok.inj _ _ _ e hc ▸ hi))
    · by_cases hcc:c'=c
      · subst hcc; exact ⟨_,hc'⟩
      · obtain ⟨w2,z2⟩:=I.cell y c' e
        exact ⟨w2,z2.sameBut hs hcc⟩
    · obtain ⟨e,n,ne,nf,d⟩:=I.pin p hp
      refine ⟨(hs.2 p.1 ?_).trans e,n,ne,nf,d⟩
      intro q
      rw [q,hoc] at e
      have q':oc=p.2:=Option.some.inj e
      exact d w' (by rw [← q']; exact hocd)
theorem store_ok {M:Model} {A:Around} {E:Value→Shared→Prop} {i:Nat} {x:Str} {v:V} {u:Value} {Q:Unit→Shared→Prop} (I:Inv X pins σ H s) (hN:X.N.Nodup) (hi:X.N[i]? = some x) (hx:Loc X.env.scope x) (r:RelV v u)
    (h:∀ s',Inv X pins (σ.set i (some v)) H s'→Q () s') (hf:X.fn x=true∨X.env.scope.names.lookup x=some .local:=by first | exact .inl rfl | exact .inr rfl | assumption):wpAny M A (storeName X.env x u) Q E s :=
  store_ok2 I hN hi hx r (fun s' I' _=>h s' I') hf
theorem Inv.call' {s':Shared} {ch:List Addr} (I:Inv X pins σ H s) (ho:s'.os=s.os) (u:Un (frs X.stack) ch H H' s.heap s'.heap) (hok:HOk X.prog X.w H' s'.heap) (hg:AllBare s'.gens)
    (hch:∀ b∈ch,(b∈X.ex∨X.s₀.heap.objs.size≤b)∧b≠X.env.locals∧(∀ x c,X.env.cells.lookup x=some c→c≠b)∧∀ p∈X.pn ++ pins,p.1≠b):Inv X pins σ H' s':=by
  obtain ⟨h',g',d',t',o'⟩:=s'
  have e:o'=s.os:=ho
  subst e
  exact I.call (g':=g') (t':=t') (d':=d') u hok hg hch
end
noncomputable abbrev XK:=Value→Option Addr→Hp→Prop
noncomputable abbrev St:=List (Option V)
noncomputable abbrev VK:=V→Hp→Prop
noncomputable abbrev TE:=St→Hp→VK→Prop
noncomputable abbrev TT:=St→Hp→(Bool→Hp→Prop)→Prop
noncomputable abbrev TA:=St→Hp→(List V→Hp→Prop)→Prop
structure Ends where
  nx:St→Hp→Prop
  rt:VK
  bk:St→Hp→Prop:=fun _ _=>False
  ct:St→Hp→Prop:=fun _ _=>False
noncomputable abbrev TS:=Ends→St→Hp→Prop
noncomputable def EP (X:Cx) (pins:List (Addr×Obj)) (σ:St) (Q:VK) (u:Value) (s':Shared):Prop:=∃ v H',Inv X pins σ H' s'∧RelV v u∧Q v H'
noncomputable def TP (X:Cx) (pins:List (Addr×Obj)) (σ:St) (Q:Bool→Hp→Prop) (b:Bool) (s':Shared):Prop:=∃ H',Inv X pins σ H' s'∧Q b H'
noncomputable def AP (X:Cx) (pins:List (Addr×Obj)) (σ:St) (Q:List V→Hp→Prop) (us:List Value) (s':Shared):Prop:=∃ vs H',Inv X pins σ H' s'∧Vals vs us∧Q vs H'
noncomputable def SP (X:Cx) (pins:List (Addr×Obj)) (D:Ends) (f:Flow) (s':Shared):Prop :=
  match f with
  | .next=>∃ σ' H',Inv X pins σ' H' s'∧D.nx σ' H'
  | .brk=>∃ σ' H',Inv X pins σ' H' s'∧D.bk σ' H'
  | .cont=>∃ σ' H',Inv X pins σ' H' s'∧D.ct σ' H'
  | .ret u=>∃ v σ' H',Inv X pins σ' H' s'∧RelV v u∧D.rt v H'
noncomputable def PE (X:Cx) (e:Expr) (t:TE):Prop :=
  ∀ (pins:List (Addr×Obj)) (s:Shared) (σ:St) (H:Hp) (Q:VK),Inv X pins σ H s→t σ H Q→wpAny (model X.prog X.w) X.A (eval e X.env) (EP X pins σ Q) X.xe s
noncomputable def PT (X:Cx) (e:Expr) (t:TT):Prop :=
  ∀ (pins:List (Addr×Obj)) (s:Shared) (σ:St) (H:Hp) (Q:Bool→Hp→Prop),Inv X pins σ H s→t σ H Q→wpAny (model X.prog X.w) X.A (isTrue e X.env (eval e X.env)) (TP X pins σ Q) X.xe s
noncomputable def PW (X:Cx) (e:Expr) (t:TT):Prop :=
  ∀ (whole:Sem Value) (pins:List (Addr×Obj)) (s:Shared) (σ:St) (H:Hp) (Q:Bool→Hp→Prop),Inv X pins σ H s→t σ H Q→wpAny (model X.prog X.w) X.A (isTrue e X.env whole) (TP X pins σ Q) X.xe s
theorem PW.pt {X:Cx} {e:Expr} {t:TT} (h:PW X e t):PT X e t:=h _
noncomputable def PA (X:Cx) (es:List Expr) (t:TA):Prop :=
  ∀ (pos:Pos) (pins:List (Addr×Obj)) (s:Shared) (σ:St) (H:Hp) (Q:List V→Hp→Prop),Inv X pins σ H s→t σ H Q→wpAny (model X.prog X.w) X.A (spliced (backTo pos (starEach es X.env))) (AP X pins σ Q) X.xe s
noncomputable def PS (X:Cx) (st:Stmt) (t:TS):Prop :=
  ∀ (pins:List (Addr×Obj)) (s:Shared) (σ:St) (H:Hp) (D:Ends),Inv X pins σ H s→t D σ H→wpAny (model X.prog X.w) X.A (exec st X.env) (SP X pins D) X.xe s
noncomputable def PSs (X:Cx) (st:List Stmt) (t:TS):Prop :=
  ∀ (pins:List (Addr×Obj)) (s:Shared) (σ:St) (H:Hp) (D:Ends),Inv X pins σ H s→t D σ H→wpAny (model X.prog X.w) X.A (execs st X.env) (SP X pins D) X.xe s
theorem thn {α:Type} {t:Sem α} {Q Q':α→Shared→Prop} {M:Model} {A:Around} {E:Value→Shared→Prop} {s:Shared} (h:wpAny M A t Q E s) (hQ:∀ a s,Q a s→Q' a s):wpAny M A t Q' E s:=wpAny_mono h hQ fun _ _ x=>x
end L2
namespace L2
open PySem PySem.Spec PyProof.Rows
section
variable {X:Cx}
theorem bin {a b:Expr} {ta tb:TE} (ha:PE X a ta) (hb:PE X b tb) {pins:List (Addr×Obj)} {s:Shared} {σ:St} {H:Hp} {R:V→V→Hp→Prop} (I:Inv X pins σ H s) (h:ta σ H fun x H1=>tb σ H1 fun y H2=>R x y H2)
    {α:Type} {Q:α→Shared→Prop} {f:Value→Value→Sem α}
    (hf:∀ v u s2 x y H2,Inv X pins σ H2 s2→RelV x v→RelV y u→R x y H2→wpAny (model X.prog X.w) X.A (f v u) Q X.xe s2) :
    wpAny (model X.prog X.w) X.A (eval a X.env) (fun v s₁=>wpAny (model X.prog X.w) X.A (eval b X.env) (fun u s₂=>wpAny (model X.prog X.w) X.A (f v u) Q X.xe s₂) X.xe s₁) X.xe s:=by
  refine thn (ha pins s σ H _ I h) fun v s1 ⟨x,H1,I1,r1,q1⟩=>?_
  refine thn (hb pins s1 σ H1 _ I1 q1) fun u s2 ⟨y,H2,I2,r2,q2⟩=>?_
  exact hf v u s2 x y H2 I2 r1 r2 q2
noncomputable def tVar (i:Nat):TE:=fun σ H Q=>∃ v,σ[i]? = some (some v)∧Q v H
noncomputable def tC (v:V):TE:=fun _ H Q=>Q v H
theorem pe_var {i:Nat} {x:Str} {pos:Pos} (hN:X.N[i]? = some x) (hv:Vis X.env.scope x) (hd:(x == ("__debug__":Str))=false:=by decide) (hcd:(x == ("__classdict__":Str))=false:=by decide):PE X (.Name x pos) (tVar i):=by
  intro pins s σ H Q I h
  obtain ⟨v,e,h⟩:=h
  obtain ⟨m,hn,hl⟩:=I.loc
  obtain ⟨u,r,l⟩:=hl i x v hN e hv
  have fin:EP X pins σ Q u s:=⟨v,H,I,r,h⟩
  rcases l with ⟨hk,hm⟩ | ⟨hk,c,hc,hcell⟩
  · exact wpAny_Name (wpAny_loadName_local I.ok.kind hk hn hm fin) hd
  · rcases hk with hk | hk
    · exact wpAny_Name (wpAny_loadName_cell I.ok.kind hk hc hcell fin) hd
    · exact wpAny_Name (wpAny_loadName_free I.ok.kind hk hc hcell fin hcd) hd
theorem pe_int {i j pos}:PE X (.Constant (.int i) j pos) (tC (.int i)):=fun _ _ _ H _ I h=>wpAny_Constant_int ⟨.int i,H,I.tok _,⟨_,rfl⟩,h⟩
theorem pe_bl {b j pos}:PE X (.Constant (.bool b) j pos) (tC (.bl b)):=fun _ _ _ H _ I h=>Constant_bool ⟨.bl b,H,I,rfl,h⟩
theorem pe_non {j pos}:PE X (.Constant .none j pos) (tC .non):=fun _ _ _ H _ I h=>Constant_none ⟨.non,H,I,rfl,h⟩
noncomputable def Gl (X:Cx) (x:Str):Prop:=X.env.kindOf x=some .globalImplicit
theorem ld_glob {E:Value→Shared→Prop} {pins:List (Addr×Obj)} {s:Shared} {σ:St} {H:Hp} {x:Str} {u:Value} {pos:Pos} {Q:Value→Shared→Prop} (I:Inv X pins σ H s) (hg:Gl X x) (hm:X.mg x=some u) (h:Q u s)
    (hd:(x == ("__debug__":Str))=false:=by decide):wpAny (model X.prog X.w) X.A (eval (.Name x pos) X.env) Q E s :=
  Calls.Name_function_global I.ok.kind hg (Calls.loadGlobal_global (by rw [I.ok.glob]; exact I.mod.glob.keeps I.bk) hm h) hd
theorem ld_blt {E:Value→Shared→Prop} {pins:List (Addr×Obj)} {s:Shared} {σ:St} {H:Hp} {x:Str} {u:Value} {pos:Pos} {Q:Value→Shared→Prop} (I:Inv X pins σ H s) (hg:Gl X x) (hm:X.mg x=none) (hv:bootBuiltins x=some u) (h:Q u s)
    (hn:x≠"__name__":=by decide) (hd:(x == ("__debug__":Str))=false:=by decide):wpAny (model X.prog X.w) X.A (eval (.Name x pos) X.env) Q E s:=by
  obtain ⟨mb,h1,h2⟩:=I.mod.blt
  exact Calls.Name_function_global I.ok.kind hg (Calls.loadGlobal_builtin (by rw [I.ok.glob]; exact I.mod.glob.keeps I.bk) hm (by rw [I.ok.blt]; exact h1.keeps I.bk) ((h2 x hn).trans hv) h) hd
theorem pe_bltn {x:Str} {v:V} {u:Value} {pos:Pos} (hg:Gl X x) (hm:X.mg x=none) (hv:bootBuiltins x=some u) (r:RelV v u) (hn:x≠"__name__":=by decide) (hd:(x == ("__debug__":Str))=false:=by decide):PE X (.Name x pos) (tC v) :=
  fun _ _ _ H _ I h=>ld_blt I hg hm hv ⟨v,H,I,r,h⟩ hn hd
variable {a b:Expr} {ta tb:TE} {pos:Pos}
noncomputable def PC (X:Cx) (op:CmpOp) (a b:Expr) (t:TE):Prop :=
  ∀ (pins:List (Addr×Obj)) (s:Shared) (σ:St) (H:Hp) (Q:VK),Inv X pins σ H s→t σ H Q →
    wpAny (model X.prog X.w) X.A (eval a X.env) (fun v s₁=>wpAny (model X.prog X.w) X.A (eval b X.env) (fun u s₂=>wpAny (model X.prog X.w) X.A (compareOp op v u) (EP X pins σ Q) X.xe s₂) X.xe s₁) X.xe s
noncomputable def tB (t:TE):TT:=fun σ H Q=>t σ H fun x H1=>∃ c,x=.bl c∧Q c H1
theorem pt_cmp {op:CmpOp} {t:TE} (h:PC X op a b t) (h1:behindInMarks op b=false:=by first | exact nobehind _ (by decide) (by decide) | rfl):PT X (.Compare a [op] [b] pos) (tB t):=by
  intro pins s σ H Q I hw
  refine wpAny_isTrue_Compare1 (thn (h pins s σ H _ I hw) fun v s1 h1=>thn h1 fun u s2 h2=>thn h2 fun c s3 ⟨x,H1,I1,r1,q1⟩=>?_) h1
  obtain ⟨d,rfl,q⟩:=q1
  cases r1
  exact wpAny_truthy_bool ⟨H1,I1,q⟩
theorem pt_val {e:Expr} {t:TE} (h:PE X e t) (he:∀ whole,isTrue e X.env whole=(do let v ← whole; standAt e.pos; holding [v] (truthy v)):=by intro _; rfl):PT X e (tB t):=by
  intro pins s σ H Q I hw
  refine isTrue_plain (thn (h pins s σ H _ I hw) fun v s1 ⟨x,H1,I1,r1,q1⟩=>?_) (he _)
  obtain ⟨d,rfl,q⟩:=q1
  cases r1
  exact wpAny_truthy_bool ⟨H1,I1,q⟩
variable {tA tB':TT} {rest:List Expr}
noncomputable def tAnd (t u:TT):TT:=fun σ H Q=>t σ H fun c H1=>if c=true then u σ H1 Q else Q false H1
noncomputable def tOr (t u:TT):TT:=fun σ H Q=>t σ H fun c H1=>if c=true then Q true H1 else u σ H1 Q
noncomputable def tNot (t:TT):TT:=fun σ H Q=>t σ H fun c H1=>Q (!c) H1
theorem pw_and1 (ha:PT X a tA):PW X (.BoolOp .And [a] pos) tA:=by
  intro wh pins s σ H Q I h
  refine isTrue_and (thn (ha pins s σ H Q I h) fun c s1 e=>?_)
  cases c with
  | true=>exact isTrue_and_nil e
  | false=>exact e
theorem pw_or1 (ha:PT X a tA):PW X (.BoolOp .Or [a] pos) tA:=by
  intro wh pins s σ H Q I h
  refine isTrue_or (thn (ha pins s σ H Q I h) fun c s1 e=>?_)
  cases c with
  | false=>exact isTrue_or_nil e
  | true=>exact e
theorem pw_and (ha:PT X a tA) (hb:PW X (.BoolOp .And (b :: rest) pos) tB'):PW X (.BoolOp .And (a :: b :: rest) pos) (tAnd tA tB'):=by
  intro wh pins s σ H Q I h
  refine isTrue_and (thn (ha pins s σ H _ I h) fun c s1 ⟨H1,I1,q1⟩=>?_)
  cases c with
  | true=>exact hb wh pins s1 σ H1 Q I1 q1
  | false=>exact ⟨H1,I1,q1⟩
theorem pw_or (ha:PT X a tA) (hb:PW X (.BoolOp .Or (b :: rest) pos) tB'):PW X (.BoolOp .Or (a :: b :: rest) pos) (tOr tA tB'):=by
  intro wh pins s σ H Q I h
  refine isTrue_or (thn (ha pins s σ H _ I h) fun c s1 ⟨H1,I1,q1⟩=>?_)
  cases c with
  | true=>exact ⟨H1,I1,q1⟩
  | false=>exact hb wh pins s1 σ H1 Q I1 q1
theorem pt_not (ha:PT X a tA):PT X (.UnaryOp .Not a pos) (tNot tA):=by
  intro pins s σ H Q I h
  exact isTrue_not (ha pins s σ H (fun c H1=>Q (!c) H1) I h)
noncomputable def tAndV (ta tb:TE):TE:=fun σ H Q=>ta σ H fun x H1=>∃ c,x=.bl c∧if c=true then tb σ H1 Q else Q (.bl false) H1
noncomputable def tNotV (ta:TE):TE:=fun σ H Q=>ta σ H fun x H1=>∃ c,x=.bl c∧Q (.bl (!c)) H1
theorem pe_one {op} {t:TE} (h:PE X a t):PE X (.BoolOp op [a] pos) t:=fun pins s σ H Q I hw=>BoolOp_one (h pins s σ H Q I hw)
theorem pe_and (ha:PE X a ta) (hb:PE X (.BoolOp .And (b :: rest) pos) tb):PE X (.BoolOp .And (a :: b :: rest) pos) (tAndV ta tb):=by
  intro pins s σ H Q I h
  refine BoolOp_and (thn (ha pins s σ H _ I h) fun v s1 ⟨x,H1,I1,r1,q1⟩=>?_)
  obtain ⟨c,rfl,q1⟩:=q1
  cases r1
  refine wpAny_truthy_bool ?_
  cases c with
  | true=>exact hb pins s1 σ H1 Q I1 q1
  | false=>exact ⟨.bl false,H1,I1,rfl,q1⟩
theorem pe_not (ha:PE X a ta):PE X (.UnaryOp .Not a pos) (tNotV ta):=by
  intro pins s σ H Q I h
  refine UnaryOp_ (thn (ha pins s σ H _ I h) fun v s1 ⟨x,H1,I1,r1,q1⟩=>?_)
  obtain ⟨c,rfl,q1⟩:=q1
  cases r1
  exact not_of (wpAny_truthy_bool ⟨.bl (!c),H1,I1,rfl,q1⟩)
noncomputable def tIf (t:TT) (ta tb:TE):TE:=fun σ H Q=>t σ H fun c H1=>if c=true then ta σ H1 Q else tb σ H1 Q
theorem pe_ifExp {c:Expr} (hc:PT X c tA) (ha:PE X a ta) (hb:PE X b tb):PE X (.IfExp c a b pos) (tIf tA ta tb):=by
  intro pins s σ H Q I h
  refine wpAny_IfExp (thn (hc pins s σ H _ I h) fun d s1 ⟨H1,I1,q1⟩=>?_)
  cases d with
  | true=>exact ha pins s1 σ H1 Q I1 q1
  | false=>exact hb pins s1 σ H1 Q I1 q1
end
end L2
namespace L2
open PySem PySem.Spec PyProof.Rows
noncomputable def SqL (K:PySem.W.Frag) (H:Hp) (a:Addr) (xs:List V):Prop :=
  Rd H a (.lst xs) ∨
    ∃ (o:Obj) (its:Array Value) (n:Nat),K.lookup a=some o∧o.cls=.type "list"∧o.dict=none∧o.data=.seq its n∧its.size≤sizeLine∧Vals xs its.toList
noncomputable def SqT (K:PySem.W.Frag) (H:Hp) (a:Addr) (xs:List V):Prop :=
  Rd H a (.tup xs) ∨
    ∃ (o:Obj) (its:Array Value) (n:Nat),K.lookup a=some o∧o.cls=.type "tuple"∧o.data=.seq its n∧its.size≤sizeLine∧Vals xs its.toList
noncomputable def absV:Value→Option V
  | .none=>some .non
  | .bool b=>some (.bl b)
  | .int i _=>some (.int i)
  | .str x _=>some (.str x)
  | .bytes b _=>some (.byt b)
  | .float b _=>some (.flt b)
  | .ref a=>some (.ref a)
  | .type n=>some (.ty n)
  | _=>none
theorem RelV.abs {x:V} {u:Value} (r:RelV x u):absV u=some x:=by
  cases x with
  | non=>cases r; rfl
  | bl _=>cases r; rfl
  | int _=>obtain ⟨t,rfl⟩:=r; rfl
  | str _=>obtain ⟨t,rfl⟩:=r; rfl
  | byt _=>obtain ⟨t,rfl⟩:=r; rfl
  | flt _=>obtain ⟨t,rfl⟩:=r; rfl
  | ref _=>cases r; rfl
  | ty _=>cases r; rfl
theorem RelV.inj {x y:V} {u:Value} (r:RelV x u) (q:RelV y u):x=y:=Option.some.inj (r.abs.symm.trans q.abs)
theorem Vals.inj:∀ {xs ys:List V} {us:List Value},Vals xs us→Vals ys us→xs=ys
  | _,_,_,.nil,.nil=>rfl
  | _,_,_,.cons r t,.cons r' t'=>by rw [r.inj r',Vals.inj t t']
section
variable {X:Cx} {pins:List (Addr×Obj)} {σ:St} {H:Hp} {s:Shared} {a:Addr} {xs ys:List V}
theorem SqL.of {K:PySem.W.Frag} (h:H a=some (.lst xs)):SqL K H a xs:=.inl (.inl h)
theorem SqT.of {K:PySem.W.Frag} (h:H a=some (.tup xs)):SqT K H a xs:=.inl (.inl h)
theorem Inv.list (I:Inv X pins σ H s) (h:SqL X.K H a xs):∃ its:List Value,Vals xs its∧PlainL s.heap a its.toArray∧xs.length≤sizeLine:=by
  rcases h with h | ⟨o,its,n,hk,hc,hd,hs,hz,r⟩
  · obtain ⟨z,its,n,r,e⟩:=h.ok I.hok
    exact ⟨its,r,⟨_,n,e,rfl,rfl,rfl⟩,z⟩
  · refine ⟨its.toList,r,⟨o,n,I.kIn a o hk,hc,hd,by simpa using hs⟩,?_⟩
    have e:=r.length
    simp only [Array.length_toList] at e
    omega
theorem Inv.tuple (I:Inv X pins σ H s) (h:SqT X.K H a xs):∃ its:List Value,Vals xs its∧IsTup s.heap a its.toArray∧xs.length≤sizeLine:=by
  rcases h with h | ⟨o,its,n,hk,hc,hs,hz,r⟩
  · obtain ⟨z,its,r,p⟩:=h.ok I.hok
    exact ⟨its,r,p.tup,z⟩
  · refine ⟨its.toList,r,⟨o,I.kIn a o hk,hc,n,by simpa using hs⟩,?_⟩
    have e:=r.length
    simp only [Array.length_toList] at e
    omega
theorem Inv.list_inj (I:Inv X pins σ H s) (h:SqL X.K H a xs) (h':SqL X.K H a ys):xs=ys:=by
  obtain ⟨its,r,⟨o,n,e,_,_,d⟩,_⟩:=I.list h
  obtain ⟨its',r',⟨o',n',e',_,_,d'⟩,_⟩:=I.list h'
  rw [e] at e'; cases e'
  rw [d] at d'
  injection d' with d1 _
  have:its=its':=by simpa using congrArg Array.toList d1
  subst this
  exact r.inj r'
theorem Inv.tuple_inj (I:Inv X pins σ H s) (h:SqT X.K H a xs) (h':SqT X.K H a ys):xs=ys:=by
  obtain ⟨its,r,⟨o,e,_,n,d⟩,_⟩:=I.tuple h
  obtain ⟨its',r',⟨o',e',_,n',d'⟩,_⟩:=I.tuple h'
  rw [e] at e'; cases e'
  rw [d] at d'
  injection d' with d1 _
  have:its=its':=by simpa using congrArg Array.toList d1
  subst this
  exact r.inj r'
end
noncomputable abbrev Cx.wish (X:Cx) (E:Value→Shared→Prop):Cx:={ X with xe:=E }
noncomputable abbrev Cx.nox (X:Cx):Cx:=X.wish fun _ _=>False
theorem Cx.Ok.wish {X:Cx} (ok:X.Ok) (E:Value→Shared→Prop):(X.wish E).Ok :=
  ⟨ok.mod,ok.kind,ok.glob,ok.blt,ok.above,ok.inj,ok.has,ok.cab,ok.hd,ok.frames,ok.stk,ok.exf,ok.bs,ok.bsz,ok.noex,ok.exfs,ok.funs,ok.frf⟩
theorem Cx.Ok.unwish {X:Cx} {E:Value→Shared→Prop} (ok:(X.wish E).Ok):X.Ok :=
  ⟨ok.mod,ok.kind,ok.glob,ok.blt,ok.above,ok.inj,ok.has,ok.cab,ok.hd,ok.frames,ok.stk,ok.exf,ok.bs,ok.bsz,ok.noex,ok.exfs,ok.funs,ok.frf⟩
section
variable {X:Cx} {pins:List (Addr×Obj)} {σ:St} {H:Hp} {s:Shared} {E:Value→Shared→Prop}
theorem Inv.wish (I:Inv X pins σ H s) (E:Value→Shared→Prop):Inv (X.wish E) pins σ H s:=⟨I.ok.wish E,I.os,I.bare,I.base,I.loc,I.cell,I.free,I.freeC,I.pin,I.hok,I.len⟩
theorem Inv.unwish (I:Inv (X.wish E) pins σ H s):Inv X pins σ H s:=⟨I.ok.unwish,I.os,I.bare,I.base,I.loc,I.cell,I.free,I.freeC,I.pin,I.hok,I.len⟩
theorem SP.unwish {D:Ends} {f:Flow} {s':Shared} (h:SP (X.wish E) pins D f s'):SP X pins D f s':=by
  cases f with
  | next=>obtain ⟨σ',H',I,q⟩:=h; exact ⟨σ',H',I.unwish,q⟩
  | brk=>obtain ⟨σ',H',I,q⟩:=h; exact ⟨σ',H',I.unwish,q⟩
  | cont=>obtain ⟨σ',H',I,q⟩:=h; exact ⟨σ',H',I.unwish,q⟩
  | ret u=>obtain ⟨v,σ',H',I,r,q⟩:=h; exact ⟨v,σ',H',I.unwish,r,q⟩
theorem PSs.nox {st:List Stmt} {t:TS} (h:PSs X.nox st t):PSs X st t:=fun pins s σ H D I hw =>
  wpAny_mono (h pins s σ H D (I.wish _) hw) (fun _ _ q=>q.unwish) fun _ _ z=>False.elim z
end
section
variable {X:Cx} {st:Stmt} {rest:List Stmt} {t u:TS} {e:Expr} {te:TE} {pos:Pos}
noncomputable def tNext:TS:=fun D σ H=>D.nx σ H
noncomputable def tSeq (t u:TS):TS:=fun D σ H=>t { D with nx:=u D } σ H
theorem pss_nil:PSs X [] tNext:=fun _ _ σ H _ I h=>wpAny_execs_nil ⟨σ,H,I,h⟩
theorem pss_cons (h1:PS X st t) (h2:PSs X rest u):PSs X (st :: rest) (tSeq t u):=by
  intro pins s σ H D I h
  refine wpAny_execs_cons (thn (h1 pins s σ H { D with nx:=u D } I h) fun f s1 q=>?_)
  cases f with
  | next =>
    obtain ⟨σ',H',I',q⟩:=q
    exact h2 pins s1 σ' H' D I' q
  | ret v=>exact q
  | brk=>exact q
  | cont=>exact q
theorem pss_one (h1:PS X st t):PSs X [st] t:=by
  intro pins s σ H D I h
  refine wpAny_execs_cons (thn (h1 pins s σ H D I h) fun f s1 q=>?_)
  cases f with
  | next=>exact wpAny_execs_nil q
  | ret v=>exact q
  | brk=>exact q
  | cont=>exact q
theorem Inv.quiet {pins:List (Addr×Obj)} {σ:St} {H:Hp} {s:Shared} (I:Inv X pins σ H s):interactive X.env=false:=by simp [interactive,I.ok.kind]
noncomputable def tDrop (te:TE):TS:=fun D σ H=>te σ H fun _ H1=>D.nx σ H1
theorem ps_expr (he:PE X e te) (hs:swapsWith e none pos.line X.env=pure false:=by rfl):PS X (.Expr e pos) (tDrop te):=by
  intro pins s σ H D I h
  exact wpAny_Expr_any (thn (he pins s σ H _ I h) fun v s1 ⟨x,H1,I1,r1,q1⟩=>⟨σ,H1,I1,q1⟩) I.quiet hs
noncomputable def tRet (te:TE):TS:=fun D σ H=>te σ H D.rt
theorem ps_ret (he:PE X e te):PS X (.Return (some e) pos) (tRet te):=by
  intro pins s σ H D I h
  exact wpAny_Return_some (thn (he pins s σ H _ I h) fun v s1 ⟨x,H1,I1,r1,q1⟩=>⟨x,σ,H1,I1,r1,q1⟩)
noncomputable def tIfS (c:TT) (t u:TS):TS:=fun D σ H=>c σ H fun b H1=>if b=true then t D σ H1 else u D σ H1
theorem ps_if {c:Expr} {a b:List Stmt} {tc:TT} (hc:PT X c tc) (ha:PSs X a t) (hb:PSs X b u):PS X (.If c a b pos) (tIfS tc t u):=by
  intro pins s σ H D I h
  refine wpAny_If (thn (hc pins s σ H _ I h) fun d s1 ⟨H1,I1,q1⟩=>?_)
  cases d with
  | true=>exact ha pins s1 σ H1 D I1 q1
  | false=>exact hb pins s1 σ H1 D I1 q1
end
noncomputable abbrev TG:=V→St→Hp→(St→Hp→Prop)→Prop
noncomputable abbrev TGs:=List V→St→Hp→(St→Hp→Prop)→Prop
noncomputable def PG (X:Cx) (target:Expr) (t:TG):Prop :=
  ∀ (pins:List (Addr×Obj)) (s:Shared) (σ:St) (H:Hp) (v:V) (u:Value) (Q:St→Hp→Prop),Inv X pins σ H s→RelV v u→t v σ H Q →
    wpAny (model X.prog X.w) X.A (assign target X.env u) (fun _ s'=>∃ σ' H',Inv X pins σ' H' s'∧Q σ' H') X.xe s
noncomputable def PGs (X:Cx) (ts:List Expr) (t:TGs):Prop :=
  ∀ (pins:List (Addr×Obj)) (s:Shared) (σ:St) (H:Hp) (vs:List V) (us:List Value) (Q:St→Hp→Prop),Inv X pins σ H s→Vals vs us→t vs σ H Q →
    wpAny (model X.prog X.w) X.A (assignInOrder ((assignEach ts X.env).map (·.2)) us) (fun _ s'=>∃ σ' H',Inv X pins σ' H' s'∧Q σ' H') X.xe s
noncomputable abbrev TSet:=V→V→V→Hp→(Hp→Prop)→Prop
noncomputable def PSet (X:Cx) (t:TSet):Prop :=
  ∀ (pins:List (Addr×Obj)) (s:Shared) (σ:St) (H:Hp) (o i v:V) (ov iv u:Value) (Q:Hp→Prop),Inv X pins σ H s→RelV o ov→RelV i iv→RelV v u→t o i v H Q →
    wpAny (model X.prog X.w) X.A (setItem ov iv u) (fun _ s'=>∃ H',Inv X pins σ H' s'∧Q H') X.xe s
section
variable {X:Cx} {pos:Pos}
noncomputable def gName (i:Nat):TG:=fun v σ H Q=>Q (σ.set i (some v)) H
theorem pg_name {i:Nat} {x:Str} (hN:X.N.Nodup) (hi:X.N[i]? = some x) (hx:Loc X.env.scope x) (hf:X.fn x=true∨X.env.scope.names.lookup x=some .local:=by first | exact .inl rfl | exact .inr rfl | assumption):PG X (.Name x pos) (gName i):=by
  intro pins s σ H v u Q I r h
  exact wpAny_assign_Name (store_ok I hN hi hx r (fun s' I'=>⟨_,H,I',h⟩) hf)
noncomputable def gNil:TGs:=fun vs σ H Q=>vs=[]∧Q σ H
noncomputable def gCons (t:TG) (u:TGs):TGs:=fun vs σ H Q=>∃ v r,vs=v :: r∧t v σ H fun σ' H'=>u r σ' H' Q
theorem pgs_nil:PGs X [] gNil:=by
  intro pins s σ H vs us Q I r h
  obtain ⟨e,h⟩:=h
  subst e
  cases r
  exact assignInOrder_nil ⟨σ,H,I,h⟩
theorem pgs_cons {e:Expr} {es:List Expr} {t:TG} {u:TGs} (h1:PG X e t) (h2:PGs X es u)
    (hs:(assignEach (e :: es) X.env).map (·.2)=assign e X.env :: (assignEach es X.env).map (·.2):=by rfl):PGs X (e :: es) (gCons t u):=by
  intro pins s σ H vs us Q I r h
  obtain ⟨v,vr,e1,h⟩:=h
  subst e1
  cases r with
  | cons r rr =>
    rw [hs]
    refine assignInOrder_cons (thn (h1 pins s σ H _ _ _ I r h) fun _ s1 ⟨σ1,H1,I1,q1⟩=>?_)
    exact h2 pins s1 σ1 H1 _ _ Q I1 rr q1
noncomputable def gTup (K:PySem.W.Frag) (n:Nat) (t:TGs):TG:=fun v σ H Q=>∃ a xs,v=.ref a∧SqT K H a xs∧xs.length=n∧t xs σ H Q
theorem pg_tup {es:List Expr} {k:Nat} {t:TGs} {n:Nat} (hc:X.calm=true) (h:PGs X es t)
    (hn:(assignEach es X.env).length=n:=by rfl) (hst:(assignEach es X.env).findIdx? (·.1)=none:=by rfl):PG X (.Tuple es k pos) (gTup X.K n t):=by
  intro pins s σ H v u Q I r hw
  obtain ⟨a,xs,e1,hq,hl,hw⟩:=hw
  subst e1
  cases r
  obtain ⟨its,rv,ht,hz⟩:=I.tuple hq
  refine assign_Tuple_tuple (I.ok.hd hc) ht (by simp [hn,← hl,rv.length]) hst fun h' hx=>?_
  have I1:Inv X pins σ H { s with heap:=h' }:=I.kept (t':=s.toks) fun b o e=>hx b o (Nat.ne_of_lt (Heap.lt_size e)) e
  exact h pins _ σ H xs _ Q I1 (by simpa using rv) hw
noncomputable def gSub (to ti:TE) (t:TSet):TG:=fun v σ H Q=>to σ H fun o H1=>ti σ H1 fun i H2=>t o i v H2 fun H3=>Q σ H3
theorem pg_sub {o i:Expr} {to ti:TE} {t:TSet} (ho:PE X o to) (hi:PE X i ti) (hs:PSet X t)
    (ha:∀ v,assign (.Subscript o i pos) X.env v=(do
      let ov ← holding [v] (eval o X.env)
      let iv ← holding [v,ov] (eval i X.env)
      standAt pos
      holding [v,ov,iv] (setItem ov iv v)
      release [v,ov,iv] []):=by intro _; rfl):PG X (.Subscript o i pos) (gSub to ti t):=by
  intro pins s σ H v u Q I r h
  rw [ha]
  refine wpAny_bind (wpAny_holding (thn (ho pins s σ H _ I h) fun ov s1 ⟨x,H1,I1,r1,q1⟩=>?_))
  refine wpAny_bind (wpAny_holding (thn (hi pins s1 σ H1 _ I1 q1) fun iv s2 ⟨y,H2,I2,r2,q2⟩=>?_))
  refine wpAny_bind (wpAny_standAt (wpAny_bind (wpAny_holding (thn (hs pins s2 σ H2 x y v ov iv u _ I2 r1 r2 r q2) fun _ s3 ⟨H3,I3,q3⟩=>?_))))
  exact wpAny_release ⟨σ,H3,I3,q3⟩
noncomputable def tAsg (te:TE) (g:TG):TS:=fun D σ H=>te σ H fun x H1=>g x σ H1 D.nx
theorem ps_asg {tg e:Expr} {te:TE} {g:TG} (he:PE X e te) (hg:PG X tg g) (hs:swapsWithSole [tg] e pos.line X.env=pure false:=by rfl) (hw:swappedStores [tg] e X.env=pure none:=by rfl)
    (h1:(assignEach [tg] X.env).map (·.2)=[assign tg X.env]:=by rfl):PS X (.Assign [tg] e pos) (tAsg te g):=by
  intro pins s σ H D I h
  refine wpAny_Assign_stores (thn (he pins s σ H _ I h) fun v s1 ⟨x,H1,I1,r1,q1⟩=>?_) hs hw
  rw [h1]
  exact thn (hg pins s1 σ H1 x v _ I1 r1 q1) fun _ s2 q=>q
theorem ps_set {i:Nat} {x:Str} {e:Expr} {te:TE} {pos':Pos} (hN:X.N.Nodup) (hi:X.N[i]? = some x) (hx:Loc X.env.scope x) (he:PE X e te) (hs:swapsWith e (some (.Name x pos')) pos.line X.env=pure false:=by rfl) (hf:X.fn x=true∨X.env.scope.names.lookup x=some .local:=by first | exact .inl rfl | exact .inr rfl | assumption) :
    PS X (.Assign [.Name x pos'] e pos) (tAsg te (gName i)):=by
  intro pins s σ H D I h
  refine wpAny_Assign_Name (thn (he pins s σ H _ I h) fun v s1 ⟨y,H1,I1,r1,q1⟩=>?_) hs
  exact store_ok I1 hN hi hx r1 (fun s2 I2=>⟨_,H1,I2,q1⟩) hf
end
section
variable {X:Cx} {pos:Pos}
end
structure It where
  go:Nat→Hp→Prop
  yld:Nat→Hp→V→Hp→Prop
  stop:Nat→Hp→Prop
noncomputable def FpOk (X:Cx) (pins:List (Addr×Obj)) (H:Hp) (b:Addr):Prop :=
  H b=none∧b≠X.env.locals∧b∉X.fs∧(b∈X.ex∨X.s₀.heap.objs.size≤b)∧(∀ x c,X.env.cells.lookup x=some c→c≠b)∧∀ p∈X.pn ++ pins,p.1≠b
theorem Inv.fpOk {X:Cx} {pins:List (Addr×Obj)} {σ:St} {H H':Hp} {s:Shared} {b:Addr} (I:Inv X pins σ H s) (hb:s.heap.objs.size≤b) (hn:H' b=none):FpOk X pins H' b:=by
  refine ⟨hn,Nat.ne_of_gt (Nat.lt_of_lt_of_le I.lt hb),I.nofs hb,.inr (Nat.le_trans I.sz hb),fun x c e z=>?_,fun p hp z=>?_⟩
  · obtain ⟨v,q⟩:=I.cell x c e
    exact absurd (Nat.lt_of_lt_of_le q.lt (by rw [z]; exact hb)) (Nat.lt_irrefl _)
  · exact absurd (Nat.lt_of_lt_of_le (Heap.lt_size (I.pin p hp).1) (by rw [z]; exact hb)) (Nat.lt_irrefl _)
structure Turn (P:Program) (w:World) (K:PySem.W.Frag) (tg:Expr) (J:It) (fp:List Addr) (it:Addr) (tn:Nat→Heap→Prop):Prop where
  mem:it∈fp
  obj:∀ i h,tn i h→∀ b∈fp,∃ o,h.get? b=some o∧∀ v,o.data≠.cell v
  keep:∀ i h h',tn i h→(∀ b∈fp,∀ o,h.get? b=some o→h'.get? b=some o)→tn i h'
  item:∀ (X:Cx),X.prog=P→X.w=w→X.K=K→X.calm=true→∀ (i:Nat) (pins:List (Addr×Obj)) (s:Shared) (σ:St) (H:Hp) (E:Value→Shared→Prop),Inv X pins σ H s→(∀ b∈fp,FpOk X pins H b)→tn i s.heap→J.go i H →
    wpAny (model P w) X.A (pyNext (.ref it)) (fun r s1=>∃ u,r=some u ∧
      wpAny (model P w) X.A (letOwnedTupleGo tg (.ref it) u) (fun _ s2=>∃ x H',Inv X pins σ H' s2∧RelV x u∧J.yld i H x H'∧tn (i + 1) s2.heap∧∀ b∈fp,H' b=none) E s1) E s
  done:∀ (X:Cx),X.prog=P→X.w=w→X.K=K→X.calm=true→∀ (i:Nat) (pins:List (Addr×Obj)) (s:Shared) (σ:St) (H:Hp) (E:Value→Shared→Prop),Inv X pins σ H s→(∀ b∈fp,FpOk X pins H b)→tn i s.heap→J.stop i H →
    wpAny (model P w) X.A (pyNext (.ref it)) (fun r s1=>r=none∧Inv X pins σ H s1) E s
  self:∀ (A:Around) (i:Nat) (s:Shared) (Q:Value→Shared→Prop) (E:Value→Shared→Prop),tn i s.heap→Q (.ref it) s→wpAny (model P w) A (pyIter (.ref it)) Q E s
noncomputable abbrev TI:=St→Hp→(It→Hp→Prop)→Prop
noncomputable def PIE (X:Cx) (pins:List (Addr×Obj)) (σ:St) (tg:Expr) (R:It→Hp→Prop) (itv:Value) (s2:Shared):Prop :=
  ∃ (it:Addr) (fp:List Addr) (tn:Nat→Heap→Prop) (J:It) (H':Hp),itv=.ref it∧Inv X pins σ H' s2∧Turn X.prog X.w X.K tg J fp it tn∧tn 0 s2.heap∧(∀ b∈fp,FpOk X pins H' b)∧R J H'
noncomputable def PI (X:Cx) (tg iter:Expr) (wi:TI):Prop :=
  ∀ (pins:List (Addr×Obj)) (s:Shared) (σ:St) (H:Hp) (R:It→Hp→Prop),Inv X pins σ H s→wi σ H R →
    wpAny (model X.prog X.w) X.A (eval iter X.env) (fun v s1=>wpAny (model X.prog X.w) X.A (pyIter v) (PIE X pins σ tg R) X.xe s1) X.xe s
theorem go_of {M:Model} {A:Around} {E:Value→Shared→Prop} {s:Shared} {tg:Expr} {it:Addr} {u:Value} {o:Obj} {n:String} {vs:Array Value} {Q:Unit→Shared→Prop} (ho:s.heap.get? it=some o) (hc:o.cls=.type n) (hd:o.data=.fields vs)
    (hn:["enumerate","zip","dict_itemiterator","dict_reverseitemiterator","odict_iterator","itertools.zip_longest","itertools.pairwise"].contains n=false) (hQ:Q () s):wpAny M A (letOwnedTupleGo tg (.ref it) u) Q E s:=by
  unfold letOwnedTupleGo
  cases tg <;> first
    | exact wpAny_pure hQ
    | (cases u <;> first
        | exact wpAny_pure hQ
        | (refine wpAny_bind (wpAny_load ho ?_)
           rw [hc,hd]
           show wpAny M A (if (["enumerate","zip","dict_itemiterator","dict_reverseitemiterator","odict_iterator","itertools.zip_longest","itertools.pairwise"].contains n && vs[0]? == some (rawInt _))=true then _ else _) Q E s
           rw [if_neg (by intro h; rw [hn,Bool.false_and] at h; cases h)]
           exact wpAny_pure hQ))
noncomputable def Itl (K:PySem.W.Frag) (a:Addr):It :=
  ⟨fun i H=>∃ xs x,SqL K H a xs∧xs[i]? = some x,fun i H x H'=>H'=H∧∀ xs,SqL K H a xs→xs[i]? = some x,fun i H=>∃ xs,SqL K H a xs∧xs.length≤i⟩
noncomputable def Itt (K:PySem.W.Frag) (a:Addr):It :=
  ⟨fun i H=>∃ xs x,SqT K H a xs∧xs[i]? = some x,fun i H x H'=>H'=H∧∀ xs,SqT K H a xs→xs[i]? = some x,fun i H=>∃ xs,SqT K H a xs∧xs.length≤i⟩
noncomputable def Itr (lo:Int) (n:Nat):It:=⟨fun i _=>i < n,fun i H x H'=>H'=H∧x=.int (lo + i),fun i _=>n≤i⟩
theorem turn_list {P:Program} {w:World} {K:PySem.W.Frag} {tg:Expr} (a it:Addr):Turn P w K tg (Itl K a) [it] it (fun i h=>h.IsListIter it a i) where
  mem:=by simp
  obj:=fun i h st b hb=>by
    have e:b=it:=by simpa using hb
    subst e
    obtain ⟨o,e,c,d⟩:=st
    exact ⟨o,e,fun v z=>by rw [d] at z; cases z⟩
  keep:=fun i h h' st k=>st.at fun o e=>k it (by simp) o e
  item:=by
    intro X hP hw hK hc i pins s σ H E I hf st hg
    subst hP hw hK
    obtain ⟨xs,x,hq,hx⟩:=hg
    obtain ⟨its,rv,p,hz⟩:=I.list hq
    obtain ⟨u,hu,ru⟩:=rv.get hx
    obtain ⟨f0,f1,f2,f3,f4,f5⟩:=hf it (by simp)
    refine wpAny_pyNext_list_item st p.isList (x:=u) (by simpa using hu) fun h' st' sb=>?_
    have I1:Inv X pins σ H { s with heap:=h' }:=I.turned (t':=s.toks) (fun b o hb e=>(sb.2 b hb).trans e) f0 f1 f3 f4 f5
    obtain ⟨o,e,c,d⟩:=id st'
    exact ⟨u,rfl,go_of (s:={ s with heap:=h' }) e c d (by decide) ⟨x,H,I1,ru,⟨rfl,fun ys hy=>by rw [I.list_inj hy hq]; exact hx⟩,st',fun b hb=>(hf b hb).1⟩⟩
  done:=by
    intro X hP hw hK hc i pins s σ H E I hf st hg
    subst hP hw hK
    obtain ⟨xs,hq,hx⟩:=hg
    obtain ⟨its,rv,p,hz⟩:=I.list hq
    obtain ⟨f0,f1,f2,f3,f4,f5⟩:=hf it (by simp)
    have hl:=rv.length
    exact wpAny_pyNext_list_end (I.ok.hd hc) st p.isList (by simp; omega) fun h' eb=>⟨rfl,I.turned (t':=s.toks) (fun b o hb e=>eb b o hb e) f0 f1 f3 f4 f5⟩
  self:=fun _ _ _ _ _ st h=>wpAny_pyIter_listiter st h
theorem turn_tuple {P:Program} {w:World} {K:PySem.W.Frag} {tg:Expr} (a it:Addr):Turn P w K tg (Itt K a) [it] it (fun i h=>h.IsTupleIter it a i) where
  mem:=by simp
  obj:=fun i h st b hb=>by
    have e:b=it:=by simpa using hb
    subst e
    obtain ⟨o,e,c,d⟩:=st
    exact ⟨o,e,fun v z=>by rw [d] at z; cases z⟩
  keep:=fun i h h' st k=>st.at fun o e=>k it (by simp) o e
  item:=by
    intro X hP hw hK hc i pins s σ H E I hf st hg
    subst hP hw hK
    obtain ⟨xs,x,hq,hx⟩:=hg
    obtain ⟨its,rv,p,hz⟩:=I.tuple hq
    obtain ⟨u,hu,ru⟩:=rv.get hx
    obtain ⟨f0,f1,f2,f3,f4,f5⟩:=hf it (by simp)
    refine wpAny_pyNext_tuple_item st (show s.heap.IsTuple a its.toArray from p) (x:=u) (by simpa using hu) fun h' st' sb=>?_
    have I1:Inv X pins σ H { s with heap:=h' }:=I.turned (t':=s.toks) (fun b o hb e=>(sb.2 b hb).trans e) f0 f1 f3 f4 f5
    obtain ⟨o,e,c,d⟩:=id st'
    exact ⟨u,rfl,go_of (s:={ s with heap:=h' }) e c d (by decide) ⟨x,H,I1,ru,⟨rfl,fun ys hy=>by rw [I.tuple_inj hy hq]; exact hx⟩,st',fun b hb=>(hf b hb).1⟩⟩
  done:=by
    intro X hP hw hK hc i pins s σ H E I hf st hg
    subst hP hw hK
    obtain ⟨xs,hq,hx⟩:=hg
    obtain ⟨its,rv,p,hz⟩:=I.tuple hq
    obtain ⟨f0,f1,f2,f3,f4,f5⟩:=hf it (by simp)
    have hl:=rv.length
    exact wpAny_pyNext_tuple_end (I.ok.hd hc) st (show s.heap.IsTuple a its.toArray from p) (by simp; omega) fun h' eb=>⟨rfl,I.turned (t':=s.toks) (fun b o hb e=>eb b o hb e) f0 f1 f3 f4 f5⟩
  self:=fun _ _ _ _ _ st h=>wpAny_pyIter_tupleiter st h
theorem turn_range {P:Program} {w:World} {K:PySem.W.Frag} {tg:Expr} (it:Addr) (lo:Int) (n:Nat):Turn P w K tg (Itr lo n) [it] it (fun i h=>IsRangeIter h it (lo + (i:Nat) * 1) ((n:Int) - (i:Nat)) 1) where
  mem:=by simp
  obj:=fun i h st b hb=>by
    have e:b=it:=by simpa using hb
    subst e
    exact ⟨_,st,fun v z=>by
      have z':Data.fields _=Data.cell v:=z
      cases z'⟩
  keep:=fun i h h' st k=>k it (by simp) _ st
  item:=by
    intro X hP hw hK hc i pins s σ H E I hf st hg
    subst hP hw hK
    obtain ⟨f0,f1,f2,f3,f4,f5⟩:=hf it (by simp)
    have W:=Walks.range (prog:=X.prog) (w:=X.w) (I.ok.hd hc) it lo 1 n
    refine W.item i s _ _ hg st fun v h' tk hv st' kk=>?_
    obtain ⟨t,rfl⟩:=hv
    have I1:Inv X pins σ H { s with heap:=h',toks:=tk }:=I.turned (fun b o hb e=>kk b o (by simpa using hb) e) f0 f1 f3 f4 f5
    refine ⟨_,rfl,go_of (s:={ s with heap:=h',toks:=tk }) (n:="range_iterator") st' rfl rfl (by decide) ⟨.int (lo + i),H,I1,⟨t,?_⟩,⟨rfl,rfl⟩,st',fun b hb=>(hf b hb).1⟩⟩
    rw [Int.mul_one]
  done:=by
    intro X hP hw hK hc i pins s σ H E I hf st hg
    subst hP hw hK
    obtain ⟨f0,f1,f2,f3,f4,f5⟩:=hf it (by simp)
    exact wpAny_pyNext_range_end (I.ok.hd hc) st (by have:n≤i:=hg; omega) fun h' eb=>⟨rfl,I.turned (t':=s.toks) (fun b o hb e=>eb b o hb e) f0 f1 f3 f4 f5⟩
  self:=fun _ _ _ _ _ st h=>wpAny_pyIter_rangeiter st h
end L2
namespace L2
open PySem PySem.Spec PyProof.Rows
section
variable {X:Cx} {tg:Expr}
noncomputable def iList (K:PySem.W.Frag) (tl:TE):TI:=fun σ H R=>tl σ H fun x H1=>∃ a,x=.ref a∧(∃ xs,SqL K H1 a xs)∧R (Itl K a) H1
noncomputable def iTup (K:PySem.W.Frag) (tl:TE):TI:=fun σ H R=>tl σ H fun x H1=>∃ a,x=.ref a∧(∃ xs,SqT K H1 a xs)∧R (Itt K a) H1
theorem pi_list {l:Expr} {tl:TE} (hl:PE X l tl):PI X tg l (iList X.K tl):=by
  intro pins s σ H R I h
  refine thn (hl pins s σ H _ I h) fun v s1 ⟨x,H1,I1,r1,q1⟩=>?_
  obtain ⟨a,e,⟨xs,hq⟩,q⟩:=q1
  subst e
  cases r1
  obtain ⟨its,rv,p,hz⟩:=I1.list hq
  refine wpAny_pyIter_list p.isList ?_
  refine ⟨s1.heap.objs.size,[s1.heap.objs.size],_,_,H1,rfl,I1.kept (t':=s1.toks) fun b o e=>Heap.get?_push_of_some _ e,turn_list a _,⟨_,Heap.get?_push_size _ rfl,rfl,rfl⟩,fun b hb=>?_,q⟩
  have e:b=s1.heap.objs.size:=by simpa using hb
  subst e
  exact I1.fpOk (Nat.le_refl _) (I1.hok.fresh (Nat.le_refl _))
theorem pi_tup {l:Expr} {tl:TE} (hl:PE X l tl):PI X tg l (iTup X.K tl):=by
  intro pins s σ H R I h
  refine thn (hl pins s σ H _ I h) fun v s1 ⟨x,H1,I1,r1,q1⟩=>?_
  obtain ⟨a,e,⟨xs,hq⟩,q⟩:=q1
  subst e
  cases r1
  obtain ⟨its,rv,p,hz⟩:=I1.tuple hq
  refine wpAny_pyIter_tuple (show s1.heap.IsTuple a its.toArray from p) ?_
  refine ⟨s1.heap.objs.size,[s1.heap.objs.size],_,_,H1,rfl,I1.kept (t':=s1.toks) fun b o e=>Heap.get?_push_of_some _ e,turn_tuple a _,⟨_,Heap.get?_push_size _ rfl,rfl,rfl⟩,fun b hb=>?_,q⟩
  have e:b=s1.heap.objs.size:=by simpa using hb
  subst e
  exact I1.fpOk (Nat.le_refl _) (I1.hok.fresh (Nat.le_refl _))
theorem range_it {pins:List (Addr×Obj)} {σ:St} {H:Hp} {s:Shared} {R:It→Hp→Prop} {E:Value→Shared→Prop} {lo hi:Int} {t u v:Tok} {tk:Nat} (I:Inv X pins σ H s) (h1:-(2 ^ 62)≤lo) (h2:lo < 2 ^ 62) (h3:-(2 ^ 62)≤hi) (h4:hi < 2 ^ 62)
    (q:R (Itr lo (hi - lo).toNat) H):wpAny (model X.prog X.w) X.A (pyIter (.ref s.heap.objs.size)) (PIE X pins σ tg R) E { s with heap:=s.heap.push { cls:=.type "range",data:=.fields #[.int lo t,.int hi u,.int 1 v] },toks:=tk }:=by
  refine wpAny_pyIter_range (IsRange.new ..) (small_one h1 h2 h3 h4) ?_
  have I1:Inv X pins σ H { s with heap:=s.heap.push { cls:=.type "range",data:=.fields #[.int lo t,.int hi u,.int 1 v] },toks:=tk }:=I.kept fun b o e=>Heap.get?_push_of_some _ e
  refine ⟨(s.heap.push { cls:=.type "range",data:=.fields #[.int lo t,.int hi u,.int 1 v] }).objs.size,[(s.heap.push { cls:=.type "range",data:=.fields #[.int lo t,.int hi u,.int 1 v] }).objs.size],_,_,H,rfl,
    I1.kept (t':=tk) fun b o e=>Heap.get?_push_of_some _ e,turn_range _ lo (hi - lo).toNat,?_,fun b hb=>?_,q⟩
  · have e1:lo + ((0:Nat):Int) * 1=lo:=by simp
    have e2:(((hi - lo).toNat:Nat):Int) - ((0:Nat):Int)=Builtin.Range.rangeSize lo hi 1:=by rw [rangeSize_one]; split <;> omega
    show IsRangeIter _ _ (lo + ((0:Nat):Int) * 1) ((((hi - lo).toNat:Nat):Int) - ((0:Nat):Int)) 1
    rw [e1,e2]
    exact Heap.get?_push_size _ rfl
  · have e:b=(s.heap.push { cls:=.type "range",data:=.fields #[.int lo t,.int hi u,.int 1 v] }).objs.size:=by simpa using hb
    subst e
    exact I1.fpOk (Nat.le_refl _) (I1.hok.fresh (Nat.le_refl _))
noncomputable def iRng1 (ta:TA):TI:=fun σ H R=>ta σ H fun vs H1=>∃ j:Int,vs=[.int j]∧-(2 ^ 62)≤j∧j < 2 ^ 62∧R (Itr 0 j.toNat) H1
noncomputable def iRng2 (ta:TA):TI:=fun σ H R=>ta σ H fun vs H1=>∃ i j:Int,vs=[.int i,.int j]∧(-(2 ^ 62)≤i∧i < 2 ^ 62∧-(2 ^ 62)≤j∧j < 2 ^ 62)∧R (Itr i (j - i).toNat) H1
theorem pi_range1 {a:Expr} {ta:TA} {p pos:Pos} (hg:Gl X "range") (hm:X.mg "range"=none) (ha:PA X [a] ta) (hs:starEach [a] X.env=[(false,eval a X.env)]:=by rfl):PI X tg (.Call (.Name "range" p) [a] [] pos) (iRng1 ta):=by
  intro pins s σ H R I h
  refine Call_ (ld_blt I hg hm boot_range (PyProof.Rows.callWith_type1 (thn (ha pos pins s σ H _ I h) fun us s1 ⟨vs,H1,I1,r1,q1⟩=>?_) hs rfl))
  obtain ⟨j,e,q1,q2,q⟩:=q1
  subst e
  cases r1 with
  | cons r rr =>
    cases rr
    obtain ⟨t,rfl⟩:=r
    exact call_range_1 (range_it I1 (by omega) (by omega) q1 q2 (by simpa using q))
theorem pi_range2 {a b:Expr} {ta:TA} {p pos:Pos} (hg:Gl X "range") (hm:X.mg "range"=none) (ha:PA X [a,b] ta) (hs:starEach [a,b] X.env=[(false,eval a X.env),(false,eval b X.env)]:=by rfl) (hs2:starEach [b] X.env=[(false,eval b X.env)]:=by rfl) :
    PI X tg (.Call (.Name "range" p) [a,b] [] pos) (iRng2 ta):=by
  intro pins s σ H R I h
  refine Call_ (ld_blt I hg hm boot_range (PyProof.Rows.callWith_type1 (thn (ha pos pins s σ H _ I h) fun us s1 ⟨vs,H1,I1,r1,q1⟩=>?_) (by rw [hs,hs2]) (by rw [hs2]; rfl)))
  obtain ⟨i,j,e,⟨q1,q2,q3,q4⟩,q⟩:=q1
  subst e
  cases r1 with
  | cons r rr =>
    cases rr with
    | cons r' rr =>
      cases rr
      obtain ⟨t,rfl⟩:=r
      obtain ⟨t',rfl⟩:=r'
      exact call_range_2 (range_it I1 q1 q2 q3 q4 q)
noncomputable def tFor (wi:TI) (g:TG) (tb:TS):TS:=fun D σ H=>wi σ H fun J H1=>∃ W:Nat→Nat→St→Hp→Prop,(∃ m,W 0 m σ H1)∧∀ i m σ H,W i m σ H →
  (J.stop i H∧D.nx σ H)∨(J.go i H∧∃ N:St→Hp→Prop,(∀ σ' H',N σ' H'→∃ m',m' < m∧W (i + 1) m' σ' H')∧∀ x H',J.yld i H x H'→g x σ H' fun σ2 H2=>tb { D with nx:=N,ct:=N,bk:=D.nx } σ2 H2)
noncomputable def pinsAt (fp:List Addr) (h:Heap):List (Addr×Obj):=fp.filterMap fun b=>(h.get? b).map fun o=>(b,o)
theorem mem_pinsAt {fp:List Addr} {h:Heap} {b:Addr} {o:Obj} (hb:b∈fp) (e:h.get? b=some o):(b,o)∈pinsAt fp h:=List.mem_filterMap.mpr ⟨b,hb,by rw [e]; rfl⟩
theorem of_pinsAt {fp:List Addr} {h:Heap} {p:Addr×Obj} (hp:p∈pinsAt fp h):p.1∈fp∧h.get? p.1=some p.2:=by
  obtain ⟨b,hb,e⟩:=List.mem_filterMap.mp hp
  cases q:h.get? b with
  | none=>rw [q] at e; cases e
  | some o =>
    rw [q] at e
    have e':(b,o)=p:=Option.some.inj e
    subst e'
    exact ⟨hb,q⟩
theorem Inv.pinned {pins:List (Addr×Obj)} {σ:St} {H:Hp} {s:Shared} {fp:List Addr} (I:Inv X pins σ H s) (hf:∀ b∈fp,FpOk X pins H b) (ho:∀ b∈fp,∃ o,s.heap.get? b=some o∧∀ v,o.data≠.cell v):Inv X (pins ++ pinsAt fp s.heap) σ H s :=
  I.pins_of fun p hp=>(List.mem_append.mp hp).elim (fun z=>I.pin p (List.mem_append_right _ z)) fun z=>by
    obtain ⟨hb,e⟩:=of_pinsAt z
    obtain ⟨f0,f1,f2,_⟩:=hf p.1 hb
    obtain ⟨o,e',d⟩:=ho p.1 hb
    rw [e] at e'; cases e'
    exact ⟨e,f0,f1,f2,d⟩
theorem Inv.unpinned {pins pl:List (Addr×Obj)} {σ:St} {H:Hp} {s:Shared} (I:Inv X (pins ++ pl) σ H s):Inv X pins σ H s:=I.pins_of fun p hp=>I.pin p (List.mem_append_right _ (List.mem_append_left _ hp))
theorem ps_for {iter:Expr} {body:List Stmt} {wi:TI} {g:TG} {tb:TS} {pos:Pos} (hp:PassesOwn (model X.prog X.w) X.A X.env X.xe) (hc:X.calm=true) (hi:PI X tg iter wi) (hg:PG X tg g) (hb:PSs X body tb)
    (hs:∀ x,foldedSetIterable iter X.env x=pure x:=by intro _; rfl):PS X (.For tg iter body [] pos) (tFor wi g tb):=by
  intro pins s σ H D I h
  refine wpAny_For (thn (hi pins s σ H _ I h) fun v s1 h1=>thn h1 fun itv s2 h2=>?_) hs
  obtain ⟨it,fp,tn,J,H2,e,I2,T,st2,f2,W,⟨m0,w0⟩,turn⟩:=h2
  subst e
  -- what stays true of the iterator's objects through the loop
  have stat:∀ {H':Hp},(∀ b∈fp,H' b=none)→∀ b∈fp,FpOk X pins H' b:=fun hn b hb=>⟨hn b hb,(f2 b hb).2⟩
  refine codeAny_forLoop_any (fun n s'=>∃ i σ' H',Inv X pins σ' H' s'∧tn i s'.heap∧(∀ b∈fp,H' b=none)∧W i n σ' H') ?_ m0 ⟨0,σ,H2,I2,st2,fun b hb=>(f2 b hb).1,w0⟩
  rintro n s3 ⟨i,σ3,H3,I3,st3,fr3,w3⟩
  rcases turn i n σ3 H3 w3 with ⟨stop,qn⟩ | ⟨go,N,hN,step⟩
  · refine wpAny_passesOwn hp (thn (T.done X rfl rfl rfl hc i pins s3 σ3 H3 X.xe I3 (stat fr3) st3 stop) fun r s4 ⟨hr,I4⟩=>?_)
    subst hr
    exact wpAny_execs_nil ⟨σ3,H3,I4,qn⟩
  · refine wpAny_passesOwn hp (thn (T.item X rfl rfl rfl hc i pins s3 σ3 H3 X.xe I3 (stat fr3) st3 go) fun r s4 ⟨u,hr,h4⟩=>?_)
    subst hr
    refine wpAny_passesOwn hp (thn h4 fun _ s5 ⟨x,H5,I5,r5,y5,st5,fr5⟩=>?_)
    have I5':=I5.pinned (stat fr5) (T.obj _ _ st5)
    refine wpAny_passesOwn hp (thn (hg _ s5 σ3 H5 x u _ I5' r5 (step x H5 y5)) fun _ s6 ⟨σ6,H6,I6,q6⟩=>?_)
    refine wpAny_passesOwn hp (thn (hb _ s6 σ6 H6 _ I6 q6) fun f s7 q7=>?_)
    have again:∀ {σ7:St} {H7:Hp},Inv X (pins ++ pinsAt fp s5.heap) σ7 H7 s7→N σ7 H7→∃ m,m < n∧∃ i σ' H',Inv X pins σ' H' s7∧tn i s7.heap∧(∀ b∈fp,H' b=none)∧W i m σ' H':=fun {σ7 H7} I7 n7=>by
      obtain ⟨m',hm,w7⟩:=hN σ7 H7 n7
      refine ⟨m',hm,i + 1,σ7,H7,I7.unpinned,T.keep _ _ _ st5 fun b hb o e=>(I7.pin (b,o) (List.mem_append_right _ (List.mem_append_right _ (mem_pinsAt hb e)))).1,fun b hb=>?_,w7⟩
      obtain ⟨o,e,d⟩:=T.obj _ _ st5 b hb
      exact (I7.pin (b,o) (List.mem_append_right _ (List.mem_append_right _ (mem_pinsAt hb e)))).2.1
    cases f with
    | next=>obtain ⟨σ7,H7,I7,n7⟩:=q7; exact again I7 n7
    | cont=>obtain ⟨σ7,H7,I7,n7⟩:=q7; exact again I7 n7
    | brk=>obtain ⟨σ7,H7,I7,q7⟩:=q7; exact ⟨σ7,H7,I7.unpinned,q7⟩
    | ret v=>obtain ⟨x7,σ7,H7,I7,r7,q7⟩:=q7; exact ⟨x7,σ7,H7,I7.unpinned,r7,q7⟩
end
theorem for_list {K:PySem.W.Frag} {a:Addr} {xs:List V} {g:TG} {tb:TS} {D:Ends} {σ:St} {H:Hp} (Pv:Nat→St→Hp→Prop) (h0:Pv 0 σ H) (hl:∀ i σ H,i≤xs.length→Pv i σ H→SqL K H a xs)
    (hs:∀ i x σ H,xs[i]? = some x→Pv i σ H→g x σ H fun σ2 H2=>tb { D with nx:=Pv (i + 1),ct:=Pv (i + 1),bk:=D.nx } σ2 H2) (hd:∀ σ H,Pv xs.length σ H→D.nx σ H) :
    ∃ W:Nat→Nat→St→Hp→Prop,(∃ m,W 0 m σ H)∧∀ i m σ H,W i m σ H →
      ((Itl K a).stop i H∧D.nx σ H)∨((Itl K a).go i H∧∃ N:St→Hp→Prop,(∀ σ' H',N σ' H'→∃ m',m' < m∧W (i + 1) m' σ' H')∧∀ x H',(Itl K a).yld i H x H'→g x σ H' fun σ2 H2=>tb { D with nx:=N,ct:=N,bk:=D.nx } σ2 H2):=by
  refine ⟨fun i m σ H=>m=xs.length - i∧i≤xs.length∧Pv i σ H,⟨xs.length,by simp,Nat.zero_le _,h0⟩,?_⟩
  rintro i m σ H ⟨rfl,hi,p⟩
  have q:=hl i σ H hi p
  by_cases hlt:i < xs.length
  · refine .inr ⟨⟨xs,xs[i],q,by simp [hlt]⟩,Pv (i + 1),fun σ' H' p'=>⟨xs.length - (i + 1),by omega,rfl,hlt,p'⟩,fun x H' y=>?_⟩
    obtain ⟨e,y⟩:=y
    subst e
    exact hs i x σ _ (y xs q) p
  · have e:i=xs.length:=by omega
    subst e
    exact .inl ⟨⟨xs,q,Nat.le_refl _⟩,hd σ H p⟩
theorem for_tup {K:PySem.W.Frag} {a:Addr} {xs:List V} {g:TG} {tb:TS} {D:Ends} {σ:St} {H:Hp} (Pv:Nat→St→Hp→Prop) (h0:Pv 0 σ H) (hl:∀ i σ H,i≤xs.length→Pv i σ H→SqT K H a xs)
    (hs:∀ i x σ H,xs[i]? = some x→Pv i σ H→g x σ H fun σ2 H2=>tb { D with nx:=Pv (i + 1),ct:=Pv (i + 1),bk:=D.nx } σ2 H2) (hd:∀ σ H,Pv xs.length σ H→D.nx σ H) :
    ∃ W:Nat→Nat→St→Hp→Prop,(∃ m,W 0 m σ H)∧∀ i m σ H,W i m σ H →
      ((Itt K a).stop i H∧D.nx σ H)∨((Itt K a).go i H∧∃ N:St→Hp→Prop,(∀ σ' H',N σ' H'→∃ m',m' < m∧W (i + 1) m' σ' H')∧∀ x H',(Itt K a).yld i H x H'→g x σ H' fun σ2 H2=>tb { D with nx:=N,ct:=N,bk:=D.nx } σ2 H2):=by
  refine ⟨fun i m σ H=>m=xs.length - i∧i≤xs.length∧Pv i σ H,⟨xs.length,by simp,Nat.zero_le _,h0⟩,?_⟩
  rintro i m σ H ⟨rfl,hi,p⟩
  have q:=hl i σ H hi p
  by_cases hlt:i < xs.length
  · refine .inr ⟨⟨xs,xs[i],q,by simp [hlt]⟩,Pv (i + 1),fun σ' H' p'=>⟨xs.length - (i + 1),by omega,rfl,hlt,p'⟩,fun x H' y=>?_⟩
    obtain ⟨e,y⟩:=y
    subst e
    exact hs i x σ _ (y xs q) p
  · have e:i=xs.length:=by omega
    subst e
    exact .inl ⟨⟨xs,q,Nat.le_refl _⟩,hd σ H p⟩
theorem for_range {lo:Int} {n:Nat} {g:TG} {tb:TS} {D:Ends} {σ:St} {H:Hp} (Pv:Nat→St→Hp→Prop) (h0:Pv 0 σ H)
    (hs:∀ i σ H,i < n→Pv i σ H→g (.int (lo + i)) σ H fun σ2 H2=>tb { D with nx:=Pv (i + 1),ct:=Pv (i + 1),bk:=D.nx } σ2 H2) (hd:∀ σ H,Pv n σ H→D.nx σ H) :
    ∃ W:Nat→Nat→St→Hp→Prop,(∃ m,W 0 m σ H)∧∀ i m σ H,W i m σ H →
      ((Itr lo n).stop i H∧D.nx σ H)∨((Itr lo n).go i H∧∃ N:St→Hp→Prop,(∀ σ' H',N σ' H'→∃ m',m' < m∧W (i + 1) m' σ' H')∧∀ x H',(Itr lo n).yld i H x H'→g x σ H' fun σ2 H2=>tb { D with nx:=N,ct:=N,bk:=D.nx } σ2 H2):=by
  refine ⟨fun i m σ H=>m=n - i∧i≤n∧Pv i σ H,⟨n,by simp,Nat.zero_le _,h0⟩,?_⟩
  rintro i m σ H ⟨rfl,hi,p⟩
  by_cases hlt:i < n
  · refine .inr ⟨hlt,Pv (i + 1),fun σ' H' p'=>⟨n - (i + 1),by omega,rfl,hlt,p'⟩,fun x H' y=>?_⟩
    obtain ⟨e,y⟩:=y
    subst e y
    exact hs i σ _ hlt p
  · have e:i=n:=by omega
    subst e
    exact .inl ⟨Nat.le_refl _,hd σ H p⟩
end L2
namespace L2
open PySem PySem.Spec PyProof.Rows
noncomputable abbrev R2:=V→V→Hp→VK→Prop
noncomputable def OpR (X:Cx) (f:Value→Value→Sem Value) (r:R2):Prop :=
  ∀ (pins:List (Addr×Obj)) (s:Shared) (σ:St) (H:Hp) (x y:V) (v u:Value) (Q:VK),Inv X pins σ H s→RelV x v→RelV y u→r x y H Q →
    wpAny (model X.prog X.w) X.A (f v u) (EP X pins σ Q) X.xe s
noncomputable def CallR (X:Cx) (f:Value) (r:List V→Hp→VK→Prop):Prop :=
  ∀ (pins:List (Addr×Obj)) (s:Shared) (σ:St) (H:Hp) (xs:List V) (us:List Value) (Q:VK),Inv X pins σ H s→Vals xs us→r xs H Q →
    wpAny (model X.prog X.w) X.A (call f us) (EP X pins σ Q) X.xe s
noncomputable def tOp (r:R2) (ta tb:TE):TE:=fun σ H Q=>ta σ H fun x H1=>tb σ H1 fun y H2=>r x y H2 Q
noncomputable def rI (C:Int→Int→Prop) (g:Int→Int→V):R2:=fun x y H Q=>∃ i j,x=.int i∧y=.int j∧C i j∧Q (g i j) H
noncomputable def rI0 (g:Int→Int→V):R2:=fun x y H Q=>∃ i j,x=.int i∧y=.int j∧Q (g i j) H
section
variable {X:Cx} {a b c:Expr} {ta tb tc:TE} {pos:Pos}
theorem binT (ha:PE X a ta) (hb:PE X b tb) {pins:List (Addr×Obj)} {s:Shared} {σ:St} {H:Hp} {R:V→V→Hp→Prop} (I:Inv X pins σ H s)
    (h:ta σ H fun x H1=>tb σ H1 fun y H2=>R x y H2) {Q:Value→Shared→Prop} {f:Value→Value→Sem Value}
    (hf:∀ v u s2 x y H2,Inv X pins σ H2 s2→RelV x v→RelV y u→R x y H2→wpAny (model X.prog X.w) X.A (f v u) Q X.xe s2) :
    wpAny (model X.prog X.w) X.A (eval a X.env) (fun v s₁=>wpAny (model X.prog X.w) X.A (eval b X.env) (fun u s₂=>wpAny (model X.prog X.w) X.A (f v u) Q X.xe s₂) X.xe s₁) X.xe s:=by
  refine thn (ha pins s σ H _ I h) fun v s1 ⟨x,H1,I1,r1,q1⟩=>?_
  refine thn (hb pins s1 σ H1 _ I1 q1) fun u s2 ⟨y,H2,I2,r2,q2⟩=>?_
  exact hf v u s2 x y H2 I2 r1 r2 q2
theorem pe_op {op:Operator} {r:R2} (ho:OpR X (binaryOp op) r) (ha:PE X a ta) (hb:PE X b tb):PE X (.BinOp a op b pos) (tOp r ta tb):=by
  intro pins s σ H Q I h
  exact wpAny_BinOp (binT ha hb I h fun v u s2 x y H2 I2 rx ry q=>ho pins s2 σ H2 x y v u Q I2 rx ry q)
theorem opI {f:Value→Value→Sem Value} {C:Int→Int→Prop} {g:Int→Int→Int}
    (rule:∀ (i j:Int) (t u:Tok) (s:Shared) (Q:Value→Shared→Prop) (E:Value→Shared→Prop),C i j→Q (.int (g i j) s.toks) { s with toks:=s.toks + 1 }→wpAny (model X.prog X.w) X.A (f (.int i t) (.int j u)) Q E s) :
    OpR X f (rI C fun i j=>.int (g i j)):=by
  intro pins s σ H x y v u Q I rx ry h
  obtain ⟨i,j,rfl,rfl,hc,q⟩:=h
  obtain ⟨t,rfl⟩:=rx
  obtain ⟨t',rfl⟩:=ry
  exact rule i j t t' s _ _ hc ⟨.int (g i j),H,I.tok _,⟨_,rfl⟩,q⟩
theorem opI0 {f:Value→Value→Sem Value} {g:Int→Int→Int}
    (rule:∀ (i j:Int) (t u:Tok) (s:Shared) (Q:Value→Shared→Prop) (E:Value→Shared→Prop),Q (.int (g i j) s.toks) { s with toks:=s.toks + 1 }→wpAny (model X.prog X.w) X.A (f (.int i t) (.int j u)) Q E s) :
    OpR X f (rI0 fun i j=>.int (g i j)):=by
  intro pins s σ H x y v u Q I rx ry h
  obtain ⟨i,j,rfl,rfl,q⟩:=h
  obtain ⟨t,rfl⟩:=rx
  obtain ⟨t',rfl⟩:=ry
  exact rule i j t t' s _ _ ⟨.int (g i j),H,I.tok _,⟨_,rfl⟩,q⟩
theorem opB0 {f:Value→Value→Sem Value} {g:Int→Int→Bool}
    (rule:∀ (i j:Int) (t u:Tok) (s:Shared) (Q:Value→Shared→Prop) (E:Value→Shared→Prop),Q (.bool (g i j)) s→wpAny (model X.prog X.w) X.A (f (.int i t) (.int j u)) Q E s) :
    OpR X f (rI0 fun i j=>.bl (g i j)):=by
  intro pins s σ H x y v u Q I rx ry h
  obtain ⟨i,j,rfl,rfl,q⟩:=h
  obtain ⟨t,rfl⟩:=rx
  obtain ⟨t',rfl⟩:=ry
  exact rule i j t t' s _ _ ⟨.bl (g i j),H,I,rfl,q⟩
noncomputable def CDiv (i j:Int):Prop:=0 < j∧j < 1073741824
noncomputable def CPow (i j:Int):Prop:=0≤j∧j≤1000000∧i.natAbs < 2 ^ 64
noncomputable def CMul (i j:Int):Prop:=(-(2 ^ 64) < i∧i < 2 ^ 64)∨(-(2 ^ 64) < j∧j < 2 ^ 64)
theorem CMul.ok {i j:Int} (h:CMul i j):IntMulOk i j:=by
  rcases h with ⟨h1,h2⟩ | ⟨h1,h2⟩
  · exact .of_left (intBits_le_64 h1 h2)
  · exact .of_right (intBits_le_64 h1 h2)
theorem op_add:OpR X (binaryOp .Add) (rI0 fun i j=>.int (i + j)):=opI0 fun _ _ _ _ _ _ _ q=>add_int q
theorem op_sub:OpR X (binaryOp .Sub) (rI0 fun i j=>.int (i - j)):=opI0 fun _ _ _ _ _ _ _ q=>sub_int q
theorem op_mul:OpR X (binaryOp .Mult) (rI CMul fun i j=>.int (i * j)):=opI fun _ _ _ _ _ _ _ hc q=>mul_int q hc.ok
theorem op_fdiv:OpR X (binaryOp .FloorDiv) (rI CDiv fun i j=>.int (i / j)):=opI fun i j _ _ _ _ _ hc q=>by
  have h1:(0:Int) < j:=hc.1
  have h2:j < 1073741824:=hc.2
  exact floordiv_int (by omega) (by rw [Int.fdiv_eq_ediv_of_nonneg i (by omega)]; exact q) (.inl (PyProof.noPylong_small (by omega)))
theorem op_mod:OpR X (binaryOp .Mod) (rI (fun _ j=>0 < j) fun i j=>.int (i % j)):=opI fun i j _ _ _ _ _ hc q=>by
  have h1:(0:Int) < j:=hc
  exact mod_int' (by omega) (by rw [Int.fmod_eq_emod_of_nonneg i (by omega)]; exact q)
theorem op_pow:OpR X (binaryOp .Pow) (rI CPow fun i j=>.int (i ^ j.toNat)):=opI fun _ _ _ _ _ _ _ hc q=>pow_int_small hc.1 hc.2.1 hc.2.2 q
end
noncomputable def scal:V→V→Bool
  | .non,.non=>true | .non,.int _=>true | .int _,.non=>true | .non,.bl _=>true | .bl _,.non=>true | .non,.str _=>true | .str _,.non=>true
  | .int _,.int _=>true | .bl _,.bl _=>true | .str _,.str _=>true | .byt _,.byt _=>true
  | .int _,.str _=>true | .str _,.int _=>true | .bl _,.str _=>true | .str _,.bl _=>true
  | _,_=>false
noncomputable def rEq:R2:=fun x y H Q=>scal x y=true∧Q (.bl (decide (x=y))) H
noncomputable def rNe:R2:=fun x y H Q=>scal x y=true∧Q (.bl (!decide (x=y))) H
theorem dec_int {i j:Int}:decide (V.int i=V.int j)=(i == j):=by
  rw [Bool.eq_iff_iff]
  simp
theorem dec_bl {i j:Bool}:decide (V.bl i=V.bl j)=(i == j):=by
  rw [Bool.eq_iff_iff]
  simp
theorem dec_str {i j:Str}:decide (V.str i=V.str j)=(i == j):=by
  rw [Bool.eq_iff_iff]
  simp
theorem dec_byt {i j:Array UInt8}:decide (V.byt i=V.byt j)=(i.toList == j.toList):=by
  rw [Bool.eq_iff_iff]
  cases i
  cases j
  simp
section
variable {X:Cx} {a b c:Expr} {ta tb tc:TE} {pos:Pos}
theorem fin_bl {pins:List (Addr×Obj)} {σ:St} {H:Hp} {s:Shared} {Q:VK} {k k':Bool} (I:Inv X pins σ H s) (q:Q (.bl k) H) (e:k=k'):EP X pins σ Q (.bool k') s:=by
  subst e
  exact ⟨.bl k,H,I,rfl,q⟩
theorem op_eq:OpR X (compareOp .Eq) rEq:=by
  intro pins s σ H x y v u Q I rx ry h
  obtain ⟨hs,q⟩:=h
  cases x with
  | non =>
    cases rx
    cases y with
    | non=>cases ry; exact PySem.EqNone.eq_none_none (fin_bl I q (by simp))
    | bl j=>cases ry; exact PySem.EqNone.eq_none_bool (fin_bl I q (by simp))
    | int j=>obtain ⟨t',rfl⟩:=ry; exact PySem.EqNone.eq_none_int (fin_bl I q (by simp))
    | str j=>obtain ⟨t',rfl⟩:=ry; exact PySem.EqNone.eq_none_str (fin_bl I q (by simp))
    | _=>exact absurd (show false=true from hs) Bool.false_ne_true
  | bl i =>
    cases rx
    cases y with
    | non=>cases ry; exact PySem.EqNone.eq_bool_none (fin_bl I q (by simp))
    | bl j=>cases ry; exact eq_bool (fin_bl I q dec_bl)
    | str j=>obtain ⟨t',rfl⟩:=ry; exact PySem.EqMixed.eq_bool_str (fin_bl I q (by simp))
    | _=>exact absurd (show false=true from hs) Bool.false_ne_true
  | int i =>
    obtain ⟨t,rfl⟩:=rx
    cases y with
    | non=>cases ry; exact PySem.EqNone.eq_int_none (fin_bl I q (by simp))
    | int j=>obtain ⟨t',rfl⟩:=ry; exact eq_int (fin_bl I q dec_int)
    | str j=>obtain ⟨t',rfl⟩:=ry; exact PySem.EqMixed.eq_int_str (fin_bl I q (by simp))
    | _=>exact absurd (show false=true from hs) Bool.false_ne_true
  | str i =>
    obtain ⟨t,rfl⟩:=rx
    cases y with
    | non=>cases ry; exact PySem.EqNone.eq_str_none (fin_bl I q (by simp))
    | bl j=>cases ry; exact PySem.EqMixed.eq_str_bool (fin_bl I q (by simp))
    | int j=>obtain ⟨t',rfl⟩:=ry; exact PySem.EqMixed.eq_str_int (fin_bl I q (by simp))
    | str j=>obtain ⟨t',rfl⟩:=ry; exact eq_str (fin_bl I q dec_str)
    | _=>exact absurd (show false=true from hs) Bool.false_ne_true
  | byt i =>
    obtain ⟨t,rfl⟩:=rx
    cases y with
    | byt j=>obtain ⟨t',rfl⟩:=ry; exact PySem.W.eq_bytes (fin_bl I q dec_byt)
    | _=>exact absurd (show false=true from hs) Bool.false_ne_true
  | _=>cases y <;> exact absurd (show false=true from hs) Bool.false_ne_true
theorem op_ne:OpR X (compareOp .NotEq) rNe:=by
  intro pins s σ H x y v u Q I rx ry h
  obtain ⟨hs,q⟩:=h
  cases x with
  | non =>
    cases rx
    cases y with
    | non=>cases ry; exact PySem.EqNone.ne_none_none (fin_bl I q (by simp))
    | bl j=>cases ry; exact PySem.EqNone.ne_none_bool (fin_bl I q (by simp))
    | int j=>obtain ⟨t',rfl⟩:=ry; exact PySem.EqNone.ne_none_int (fin_bl I q (by simp))
    | str j=>obtain ⟨t',rfl⟩:=ry; exact PySem.EqNone.ne_none_str (fin_bl I q (by simp))
    | _=>exact absurd (show false=true from hs) Bool.false_ne_true
  | bl i =>
    cases rx
    cases y with
    | non=>cases ry; exact PySem.EqNone.ne_bool_none (fin_bl I q (by simp))
    | bl j=>cases ry; exact ne_bool (fin_bl I q (congrArg not dec_bl))
    | str j=>obtain ⟨t',rfl⟩:=ry; exact PySem.EqMixed.ne_bool_str (fin_bl I q (by simp))
    | _=>exact absurd (show false=true from hs) Bool.false_ne_true
  | int i =>
    obtain ⟨t,rfl⟩:=rx
    cases y with
    | non=>cases ry; exact PySem.EqNone.ne_int_none (fin_bl I q (by simp))
    | int j=>obtain ⟨t',rfl⟩:=ry; exact ne_int (fin_bl I q (congrArg not dec_int))
    | str j=>obtain ⟨t',rfl⟩:=ry; exact PySem.EqMixed.ne_int_str (fin_bl I q (by simp))
    | _=>exact absurd (show false=true from hs) Bool.false_ne_true
  | str i =>
    obtain ⟨t,rfl⟩:=rx
    cases y with
    | non=>cases ry; exact PySem.EqNone.ne_str_none (fin_bl I q (by simp))
    | bl j=>cases ry; exact PySem.EqMixed.ne_str_bool (fin_bl I q (by simp))
    | int j=>obtain ⟨t',rfl⟩:=ry; exact PySem.EqMixed.ne_str_int (fin_bl I q (by simp))
    | str j=>obtain ⟨t',rfl⟩:=ry; exact ne_str (fin_bl I q (congrArg not dec_str))
    | _=>exact absurd (show false=true from hs) Bool.false_ne_true
  | byt i =>
    obtain ⟨t,rfl⟩:=rx
    cases y with
    | byt j=>obtain ⟨t',rfl⟩:=ry; exact PySem.W.ne_bytes (fin_bl I q (congrArg not dec_byt))
    | _=>exact absurd (show false=true from hs) Bool.false_ne_true
  | _=>cases y <;> exact absurd (show false=true from hs) Bool.false_ne_true
theorem op_lt:OpR X (compareOp .Lt) (rI0 fun i j=>.bl (decide (i < j))):=opB0 fun _ _ _ _ _ _ _ q=>lt_int q
theorem op_le:OpR X (compareOp .LtE) (rI0 fun i j=>.bl (decide (i≤j))):=opB0 fun _ _ _ _ _ _ _ q=>le_int q
theorem op_gt:OpR X (compareOp .Gt) (rI0 fun i j=>.bl (decide (j < i))):=opB0 fun _ _ _ _ _ _ _ q=>gt_int q
theorem op_ge:OpR X (compareOp .GtE) (rI0 fun i j=>.bl (decide (j≤i))):=opB0 fun _ _ _ _ _ _ _ q=>ge_int q
theorem op_isN:OpR X (compareOp .Is) (fun x y H Q=>y=.non∧Q (.bl (decide (x=.non))) H):=by
  intro pins s σ H x y v u Q I rx ry h
  obtain ⟨rfl,q⟩:=h
  cases ry
  refine is_none_gen (fin_bl I q ?_)
  cases x <;> first
    | (cases rx; rfl)
    | (obtain ⟨t,rfl⟩:=rx; rfl)
theorem nomark (b:Expr) {op:CmpOp} (h:op≠.In:=by decide) (h2:op≠.NotIn:=by decide):behindInMarks op b=false:=by
  have e1:(op == CmpOp.In)=false:=by cases op <;> first | rfl | exact absurd rfl h
  have e2:(op == CmpOp.NotIn)=false:=by cases op <;> first | rfl | exact absurd rfl h2
  cases b <;> simp [behindInMarks,e1,e2]
theorem pe_cmpR {op:CmpOp} {r:R2} (ho:OpR X (compareOp op) r) (ha:PE X a ta) (hb:PE X b tb) (hm:behindInMarks op b=false):PE X (.Compare a [op] [b] pos) (tOp r ta tb):=by
  intro pins s σ H Q I h
  exact wpAny_Compare1 (binT ha hb I h fun v u s2 x y H2 I2 rx ry q=>ho pins s2 σ H2 x y v u Q I2 rx ry q) hm
noncomputable def tTest (t:TE):TT:=fun σ H Q=>t σ H fun x H'=>∃ k,x=.bl k∧Q k H'
theorem pt_cmpR {op:CmpOp} {r:R2} (ho:OpR X (compareOp op) r) (ha:PE X a ta) (hb:PE X b tb) (hm:behindInMarks op b=false):PT X (.Compare a [op] [b] pos) (tTest (tOp r ta tb)):=by
  intro pins s σ H Q I h
  refine wpAny_isTrue_Compare1 (thn (ha pins s σ H _ I h) fun v s1 ⟨x,H1,I1,r1,q1⟩=>thn (hb pins s1 σ H1 _ I1 q1) fun u s2 ⟨y,H2,I2,r2,q2⟩ =>
    thn (ho pins s2 σ H2 x y v u _ I2 r1 r2 q2) fun c s3 ⟨z,H3,I3,r3,k,e,q3⟩=>?_) hm
  subst e
  cases r3
  exact wpAny_truthy_bool ⟨H3,I3,q3⟩
noncomputable def tChain (r r':R2) (ta tb tc:TE):TE:=fun σ H Q=>ta σ H fun x H1=>tb σ H1 fun y H2=>r x y H2 fun z H3=>∃ k,z=.bl k ∧
  (if k=true then tc σ H3 fun w' H4=>r' y w' H4 Q else Q (.bl false) H3)
theorem pe_chain {op op':CmpOp} {r r':R2} (ho:OpR X (compareOp op) r) (ho':OpR X (compareOp op') r') (ha:PE X a ta) (hb:PE X b tb) (hc:PE X c tc)
    (hm:lastMarks [op,op'] [b,c]=false:=by with_unfolding_all rfl):PE X (.Compare a [op,op'] [b,c] pos) (tChain r r' ta tb tc):=by
  intro pins s σ H Q I h
  refine Compare_chain (thn (ha pins s σ H _ I h) fun v s1 ⟨x,H1,I1,r1,q1⟩=>chain_link (thn (hb pins s1 σ H1 _ I1 q1) fun u s2 ⟨y,H2,I2,r2,q2⟩ =>
    thn (ho pins s2 σ H2 x y v u _ I2 r1 r2 q2) fun d s3 ⟨z,H3,I3,r3,k,e,q3⟩=>?_)) hm
  subst e
  cases r3
  refine wpAny_truthy_bool ?_
  cases k with
  | false=>exact ite_ff ⟨.bl false,H3,I3,rfl,q3⟩
  | true=>exact ite_tt (chain_last (thn (hc pins s3 σ H3 _ I3 q3) fun w' s4 ⟨z',H4,I4,r4,q4⟩=>ho' pins s4 σ H4 y z' u w' Q I4 r2 r4 q4))
theorem line63:(sizeLine:Nat) < 2 ^ 63:=by rw [sizeLine_eq]; decide
theorem op_add_str:OpR X (binaryOp .Add) (fun x y H Q=>∃ i j,x=.str i∧y=.str j∧i.length + j.length≤sizeLine∧Q (.str (i ++ j)) H):=by
  intro pins s σ H x y v u Q I rx ry h
  obtain ⟨i,j,rfl,rfl,hz,q⟩:=h
  obtain ⟨t,rfl⟩:=rx
  obtain ⟨t',rfl⟩:=ry
  exact add_str (fun t' tk=>⟨.str (i ++ j),H,I.tok _,⟨_,rfl⟩,q⟩) hz
theorem vals1 {x:V} {us:List Value} (r:Vals [x] us):∃ u,us=[u]∧RelV x u:=by
  cases r with
  | cons r1 r2=>cases r2; exact ⟨_,rfl,r1⟩
theorem call_int1:CallR X (.type "int") (fun xs H Q=>(∃ i,xs=[.int i]∧Q (.int i) H)∨∃ k,xs=[.bl k]∧Q (.int (if k then 1 else 0)) H):=by
  intro pins s σ H xs us Q I r h
  rcases h with ⟨i,rfl,q⟩ | ⟨k,rfl,q⟩
  · obtain ⟨u,rfl,t,rfl⟩:=vals1 r
    exact call_int_int ⟨.int i,H,I,⟨_,rfl⟩,q⟩
  · obtain ⟨u,rfl,r1⟩:=vals1 r
    cases r1
    exact call_int_bool ⟨.int (if k then 1 else 0),H,I.tok _,⟨_,rfl⟩,q⟩
end
end L2
namespace L2
open PySem PySem.Spec PyProof.Rows
structure ObjM (h:Heap) (x dx C:Addr) (mA:Str→Option Value):Prop where
  obj:h.get? x=some (PySem.W.instObj C dx)
  ns:h.Ns1 dx mA
  ne:dx≠x
theorem lookIn_ns {h:Heap} {dx:Addr} {mA:Str→Option Value} (n:h.Ns1 dx mA):∃ od,h.get? dx=some od∧∀ name,PySem.W.lookIn name od=some (mA name):=by
  obtain ⟨o,es,ep,ho,hd,hk,_,hm⟩:=n
  refine ⟨o,ho,fun name=>?_⟩
  have e:=hm name
  unfold nsFind findBy at e
  rw [← Array.find?_toList] at e
  unfold PySem.W.lookIn
  rw [hd]
  dsimp only
  split
  · rename_i y q
    rw [q] at e
    exact congrArg some e
  · rename_i q
    rw [q] at e
    have a:es.toList.any (·.refKey)=false:=by
      rw [List.any_eq_false]
      intro y hy
      obtain ⟨z,t,hkey⟩:=hk y (Array.mem_toList_iff.mp hy)
      simp [DictEntry.refKey,hkey]
    have a':¬ es.toList.any (·.refKey)=true:=by rw [a]; exact Bool.false_ne_true
    rw [if_neg a']
    exact congrArg some e
theorem ObjM.look {h:Heap} {x dx C:Addr} {mA:Str→Option Value} (I:ObjM h x dx C mA):∃ od,PySem.W.InstAt h x (PySem.W.instObj C dx) C (some od)∧∀ name,PySem.W.lookIn name od=some (mA name) :=
  let ⟨od,ho,hl⟩:=lookIn_ns I.ns
  ⟨od,⟨I.obj,rfl,rfl,ho⟩,hl⟩
section
variable {prog:Program} {w:World} {A:Around} {E:Value→Shared→Prop} {s:Shared} {K:PySem.W.Frag} {x dx C f:Addr} {mA:Str→Option Value} {name:Str} {v:Value}
end
theorem RelO.some_of {v:V} {o:Option Value} (r:RelO (some v) o):∃ u,o=some u∧RelV v u:=by
  cases o with
  | none=>exact (show False from r).elim
  | some u=>exact ⟨u,rfl,r⟩
section
variable {P:Program} {w:World} {H H':Hp} {h h':Heap} {a C dx:Addr} {fs fs':List (Str×V)}
theorem ins_get (hok:HOk P w H h) (e:H a=some (.ins C dx fs)):∃ mA,ObjM h a dx C mA∧(∀ f,RelO (fs.lookup f) (mA f))∧PySem.Within mA (fs.map (·.1))∧fs.length≤1000∧H dx=some (.own a):=by
  obtain ⟨d,z,ne,ob,mA,n,r,q⟩:=(show ObjOk P w H h a (.ins C dx fs) from hok a _ e)
  exact ⟨mA,⟨ob,n,ne⟩,r,q,z,d⟩
end
structure Cls (K:PySem.W.Frag) (C:Addr):Prop where
  pg:PySem.W.plainGet K C Str.empty=true
  hd:PySem.W.hasDictIn K C=true
  po:PySem.W.plainOver K C=true
  sa:PySem.W.findIn K (.ref C) "__setattr__"=some (some (.builtin "object.__setattr__"))
theorem Cls.get {K:PySem.W.Frag} {C:Addr} (c:Cls K C) (f:Str):PySem.W.plainGet K C f=true:=c.pg
section
variable {X:Cx} {pins:List (Addr×Obj)} {σ:St} {H:Hp} {s:Shared} {a C dx:Addr} {fs:List (Str×V)} {f:Str} {v:V} {A:Around} {E:Value→Shared→Prop}
end
section
variable {X:Cx} {o e value:Expr} {f:Str} {pos pos' tpos:Pos} {ta tv:TE}
end
section
variable {X:Cx} {pins:List (Addr×Obj)} {σ:St} {H:Hp} {s:Shared} {A:Around} {E:Value→Shared→Prop} {Q:Value→Shared→Prop} {c:Value} {b:Bool}
inductive TyOf (K:PySem.W.Frag) (H:Hp):V→Value→Prop where
  | non:TyOf K H .non (.type "NoneType")
  | bl (x:Bool):TyOf K H (.bl x) (.type "bool")
  | int (i:Int):TyOf K H (.int i) (.type "int")
  | str (x:Str):TyOf K H (.str x) (.type "str")
  | flt (x:UInt64):TyOf K H (.flt x) (.type "float")
  | lst {a:Addr} {xs:List V} (e:H a=some (.lst xs)):TyOf K H (.ref a) (.type "list")
  | frz {a:Addr} {o:Obj} {xs:List V} (e:H a=some (.frz o (.lst xs))):TyOf K H (.ref a) (.type "list")
  | tup {a:Addr} {xs:List V} (e:H a=some (.tup xs)):TyOf K H (.ref a) (.type "tuple")
  | dK {a:Addr} {kvs:List (Key×V)} (e:H a=some (.dK kvs)):TyOf K H (.ref a) (.type "dict")
  | dT {a:Addr} {kvs:List (List Key×V)} (e:H a=some (.dT kvs)):TyOf K H (.ref a) (.type "dict")
  | ins {a C dx:Addr} {fs:List (Str×V)} (e:H a=some (.ins C dx fs)) (cl:Cls K C) (ha:PySem.W.findIn K (.ref C) "__class__"=some (some (.builtin "object.__class__")))
      (hn:PySem.W.specialIn K (.builtin "object.__class__") "__get__"=some (some (.builtin "getset_descriptor.__get__"))) (htk:PySem.W.takesIn K (.builtin "object.__class__")=some true)
      (hm:PySem.W.mroIn K C (.type "object")=some true):TyOf K H (.ref a) (.ref C)
theorem isinst_ok {x:V} {u t:Value} (I:Inv X pins σ H s) (rx:RelV x u) (ty:TyOf X.K H x t) (e:PySem.W.kitOne X.K t c=some b) (h:∀ tk,Q (.bool b) { s with toks:=tk }) :
    wpAny (model X.prog X.w) A (call (.builtin "isinstance") [u,c]) Q E s:=by
  cases ty with
  | non=>cases (show u=Value.none from rx); exact PySem.W.kia_one PySem.W.kitx_none I.kIn True.intro e (fun z=>nomatch z) h
  | bl y=>cases (show u=Value.bool y from rx); exact PySem.W.kia_one PySem.W.kitx_bool I.kIn True.intro e (fun z=>nomatch z) h
  | int i=>obtain ⟨t,q⟩:=(show ∃ t,u=Value.int i t from rx); cases q; exact PySem.W.kia_one PySem.W.kitx_int I.kIn True.intro e (fun z=>nomatch z) h
  | str y=>obtain ⟨t,q⟩:=(show ∃ t,u=Value.str y t from rx); cases q; exact PySem.W.kia_one PySem.W.kitx_str I.kIn True.intro e (fun z=>nomatch z) h
  | flt y=>obtain ⟨t,q⟩:=(show ∃ t,u=Value.float y t from rx); cases q; exact PySem.W.kia_one PySem.W.kitx_float I.kIn True.intro e (fun z=>nomatch z) h
  | @lst a xs ea =>
    cases (show u=Value.ref a from rx)
    obtain ⟨_,_,n,_,h1⟩:=(show ObjOk X.prog X.w H s.heap a (.lst xs) from I.hok a _ ea)
    exact PySem.W.kia_one PySem.W.kitx_list I.kIn ⟨_,h1,rfl⟩ e (fun z=>nomatch z) h
  | @frz a ob xs ea =>
    cases (show u=Value.ref a from rx)
    obtain ⟨_,_,_,n,_,h1⟩:=(show ObjOk X.prog X.w H s.heap a (.frz ob (.lst xs)) from I.hok a _ ea)
    exact PySem.W.kia_one PySem.W.kitx_list I.kIn ⟨_,h1,rfl⟩ e (fun z=>nomatch z) h
  | @tup a xs ea =>
    cases (show u=Value.ref a from rx)
    obtain ⟨_,_,_,p⟩:=(show ObjOk X.prog X.w H s.heap a (.tup xs) from I.hok a _ ea)
    obtain ⟨o,h1,h2,_⟩:=p
    exact PySem.W.kia_one PySem.W.kitx_tuple I.kIn ⟨o,h1,h2⟩ e (fun z=>nomatch z) h
  | @dK a kvs ea =>
    cases (show u=Value.ref a from rx)
    obtain ⟨_,_,vs,_,p⟩:=(show ObjOk X.prog X.w H s.heap a (.dK kvs) from I.hok a _ ea)
    obtain ⟨o,es,ep,h1,h2,_⟩:=p
    exact PySem.W.kia_one PySem.W.kitx_dict I.kIn ⟨o,h1,h2.1⟩ e (fun z=>nomatch z) h
  | @dT a kvs ea =>
    cases (show u=Value.ref a from rx)
    obtain ⟨_,_,xs,_,o,es,ep,h1,h2,_⟩:=(show ObjOk X.prog X.w H s.heap a (.dT kvs) from I.hok a _ ea)
    exact PySem.W.kia_one PySem.W.kitx_dict I.kIn ⟨o,h1,h2.1⟩ e (fun z=>nomatch z) h
  | @ins a C dx fs ea cl ha hn htk hm =>
    cases (show u=Value.ref a from rx)
    obtain ⟨mA,O,_⟩:=ins_get I.hok ea
    obtain ⟨od,J,_⟩:=O.look
    exact PySem.W.kia_one (PySem.W.kitx_own (cl.get _) cl.hd ha hn htk hm) I.kIn J e (fun z=>nomatch z) h
end
end L2
namespace L2
open PySem PySem.Spec PyProof.Rows
structure Room (k:Nat) (A:Around):Prop where
  hd:A.handled=none
  dp:A.depth + 3 * k + 5 < recursionLimit
  un:A.units + 16 * k + 200 < cLine
theorem Room.mono {j k:Nat} {A:Around} (r:Room k A) (h:j≤k):Room j A:=⟨r.hd,by have:=r.dp; omega,by have:=r.un; omega⟩
theorem Room.deeper {k:Nat} {A:Around} (r:Room (k + 1) A) (env:Env):Room k (A.deeper env) :=
  ⟨r.hd,by have:=r.dp; show A.depth + 1 + 3 * k + 5 < _; omega,by have:=r.un; show A.units + 3 + 16 * k + 200 < _; omega⟩
theorem Room.depth {k:Nat} {A:Around} (r:Room k A):A.depth < recursionLimit:=by have:=r.dp; omega
noncomputable def tNil:TA:=fun _ H Q=>Q [] H
noncomputable def tCons (ta:TE) (tr:TA):TA:=fun σ H Q=>ta σ H fun x H1=>tr σ H1 fun xs H2=>Q (x :: xs) H2
section
variable {X:Cx} {e:Expr} {es:List Expr} {te:TE} {t:TA} {pos:Pos}
theorem pa_nil:PA X [] tNil:=fun _ _ _ _ H Q I h=>Calls.spliced_nil ⟨[],H,I,.nil,h⟩
theorem pa_cons (ha:PE X e te) (hr:PA X es t) (hs:starEach (e :: es) X.env=(false,eval e X.env) :: starEach es X.env:=by rfl):PA X (e :: es) (tCons te t):=by
  intro pos pins s σ H Q I h
  rw [hs]
  show wpAny _ _ (spliced ((false,eval e X.env) :: backTo pos (starEach es X.env))) _ _ s
  refine Calls.spliced_cons (thn (ha pins s σ H _ I h) fun u s1 ⟨x,H1,I1,r1,q1⟩=>?_)
  exact thn (hr pos pins s1 σ H1 _ I1 q1) fun us s2 ⟨xs,H2,I2,r2,q2⟩=>⟨x :: xs,H2,I2,.cons r1 r2,q2⟩
noncomputable def tTup (t:TA):TE:=fun σ H Q=>t σ H fun xs H1=>xs.length≤sizeLine∧∀ p,H1 p=none→Q (.ref p) (upd H1 p (.tup xs))
noncomputable def tLst (t:TA):TE:=fun σ H Q=>t σ H fun xs H1=>xs.length≤sizeLine∧∀ p,H1 p=none→Q (.ref p) (upd H1 p (.lst xs))
theorem pe_tup {x1} (h:PA X es t):PE X (.Tuple es x1 pos) (tTup t):=by
  intro pins s σ H Q I hq
  refine wpAny_Tuple_spliced (thn (h pos pins s σ H _ I hq) fun us s1 ⟨xs,H1,I1,r,z,q⟩=>⟨by rw [← r.length]; exact z,?_⟩)
  have hf:H1 s1.heap.objs.size=none:=I1.hok.fresh (Nat.le_refl _)
  refine ⟨.ref s1.heap.objs.size,upd H1 s1.heap.objs.size (.tup xs),I1.laid (t':=s1.toks) (fun b u e=>Heap.get?_push_of_some _ e) (Nat.le_refl _) ?_,rfl,q _ hf⟩
  exact ⟨z,us,r,⟨_,Heap.get?_push_size _ rfl,rfl,⟨_,rfl⟩,rfl⟩⟩
theorem pe_lst (h:PA X es t):PE X (.List es pos) (tLst t):=by
  intro pins s σ H Q I hq
  refine wpAny_List_spliced (thn (h pos pins s σ H _ I hq) fun us s1 ⟨xs,H1,I1,r,z,q⟩=>⟨by rw [← r.length]; exact z,?_⟩)
  have hf:H1 s1.heap.objs.size=none:=I1.hok.fresh (Nat.le_refl _)
  refine ⟨.ref s1.heap.objs.size,upd H1 s1.heap.objs.size (.lst xs),I1.laid (t':=s1.toks) (fun b u e=>Heap.get?_push_of_some _ e) (Nat.le_refl _) ?_,rfl,q _ hf⟩
  exact ⟨z,us,0,r,Heap.get?_push_size _ rfl⟩
end
noncomputable abbrev Sp:=List V→Hp→VK→XK→Prop
noncomputable abbrev CXT:=List Env→Hp→Shared→XK→Value→Shared→Prop
structure Env0 (P:Program) (w:World) (K:PySem.W.Frag) (mg:Str→Option Value) (base:Heap) (A:Around) (outer:List Env) (s:Shared) (H:Hp):Prop where
  frames:A.frames=some outer
  mod:Mod K mg base
  bs:∀ b o,base.get? b=some o→s.heap.get? b=some o∧H b=none
  bsz:base.objs.size≤s.heap.objs.size
  funs:s.heap.FunFrames base outer
  frf:∀ b∈frs outer,H b=none
  hok:HOk P w H s.heap
  bare:AllBare s.gens
noncomputable def CE (outer:List Env) (P:Program) (w:World) (H:Hp) (s:Shared) (Q:VK) (u:Value) (s':Shared):Prop :=
  ∃ v H',s'.os=s.os∧AllBare s'.gens∧Un (frs outer) [] H H' s.heap s'.heap∧HOk P w H' s'.heap∧RelV v u∧Q v H'
noncomputable def CR (CX:CXT) (outer:List Env) (P:Program) (w:World) (H:Hp) (s:Shared) (Q:VK) (E:XK) (r:Result) (s':Shared):Prop :=
  match r with
  | .ok (.ret u)=>CE outer P w H s Q u s'
  | .ok _=>False
  | .error e=>CX outer H s E e s'
structure FnOk (P:Program) (w:World) (K:PySem.W.Frag) (mg:Str→Option Value) (base:Heap) (CX:CXT) (k:Nat) (f:Addr) (fd:FuncData) (ps:List Str) (sp:Sp):Prop where
  len:∀ vs H Q E,sp vs H Q E→vs.length=ps.length
  run:∀ (A:Around) (outer:List Env) (s:Shared) (H:Hp) (args:Args) (us:List Value) (vs:List V) (Q:VK) (E:XK),Room k A→Env0 P w K mg base A outer s H→BindsTo s fd args (ps.zip us)→Vals vs us→sp vs H Q E →
    codeAny (model P w) A (.call (.ref f) args) (CR CX outer P w H s Q E) s
section
variable {X:Cx} {pins:List (Addr×Obj)} {σ:St} {H:Hp} {s s':Shared}
theorem Inv.env0 (I:Inv X pins σ H s):Env0 X.prog X.w X.K X.mg X.base X.A X.stack s H :=
  ⟨I.ok.frames,I.ok.mod,I.bs,Nat.le_trans I.ok.bsz I.sz,I.stack,I.stkFree,I.hok,I.bare⟩
theorem Inv.after {Q:VK} {u:Value} (I:Inv X pins σ H s) (h:CE X.stack X.prog X.w H s Q u s'):EP X pins σ Q u s':=by
  obtain ⟨v,H',os,bare,un,hok,r,q⟩:=h
  obtain ⟨hh,g,d,t,os'⟩:=s'
  obtain rfl:os'=s.os:=os
  exact ⟨v,H',I.call (h':=hh) (g':=g) (d':=d) (t':=t) (ch:=[]) un hok bare (fun b z=>absurd z (by simp)),r,q⟩
end
noncomputable def tCall (sp:Sp) (dvs:List V) (E:XK) (t:TA):TE:=fun σ H Q=>t σ H fun vs H1=>sp (vs ++ dvs) H1 Q E
noncomputable def Binds (K:PySem.W.Frag) (fd:FuncData) (ps:List Str) (ds:List Value):Prop :=
  ∀ (s:Shared) (us:List Value),K.In s.heap→(us ++ ds).length=ps.length→BindsTo s fd ⟨us,[]⟩ (ps.zip (us ++ ds))
theorem Binds.all {K:PySem.W.Frag} {fd:FuncData} {ps:List Str} (h:∀ us:List Value,us.length=ps.length→bindArgs fd ⟨us,[]⟩=pure (ps.zip us)):Binds K fd ps []:=fun s us _ hl=>by
  rw [List.append_nil] at hl ⊢
  exact .of_eq (h us hl)
noncomputable def Passes (CX:CXT) (X:Cx) (E:XK):Prop:=∀ (pins:List (Addr×Obj)) (σ:St) (H:Hp) (s:Shared) (e:Value) (s':Shared),Inv X pins σ H s→CX X.stack H s E e s'→X.xe e s'
section
variable {X:Cx} {CX:CXT} {k:Nat} {f C:Addr} {fd:FuncData} {ps:List Str} {sp:Sp} {dvs:List V} {ds:List Value} {E:XK} {x m:Str} {p pos apos:Pos} {e o:Expr} {es:List Expr} {ta:TE} {t:TA}
theorem run_fn {pins:List (Addr×Obj)} {σ:St} {H:Hp} {s:Shared} {Q:VK} {us:List Value} {vs:List V} (F:FnOk X.prog X.w X.K X.mg X.base CX k f fd ps sp) (hr:Room k X.A) (hb:Binds X.K fd ps ds) (hd:Vals dvs ds) (hx:Passes CX X E)
    (I:Inv X pins σ H s) (r:Vals vs us) (h:sp (vs ++ dvs) H Q E):wpAny (model X.prog X.w) X.A (call (.ref f) us) (EP X pins σ Q) X.xe s:=by
  have r2:Vals (vs ++ dvs) (us ++ ds):=r.append hd
  have hl:(us ++ ds).length=ps.length:=by rw [← r2.length]; exact F.len _ _ _ _ h
  refine wpAny_call (codeAny_mono (F.run X.A X.stack s H ⟨us,[]⟩ (us ++ ds) (vs ++ dvs) Q E hr I.env0 (hb s us I.kIn hl) r2 h) fun r s' hq=>?_)
  cases r with
  | error e=>exact hx pins σ H s e s' I hq
  | ok fl =>
    cases fl with
    | ret u=>exact I.after hq
    | next=>exact False.elim hq
    | brk=>exact False.elim hq
    | cont=>exact False.elim hq
theorem pe_call (F:FnOk X.prog X.w X.K X.mg X.base CX k f fd ps sp) (hr:Room k X.A) (hg:Gl X x) (hm:X.mg x=some (.ref f)) (hk:PySem.W.keepIn X.K (.ref f)=true) (hb:Binds X.K fd ps ds) (hd:Vals dvs ds) (hx:Passes CX X E)
    (ha:PA X (e :: es) t) (hdb:(x == ("__debug__":Str))=false:=by decide) (he:starEach (e :: es) X.env=(false,eval e X.env) :: starEach es X.env:=by rfl) (hpl:(backTo pos (starEach es X.env)).any (·.1)=false:=by rfl) :
    PE X (.Call (.Name x p) (e :: es) [] pos) (tCall sp dvs E t):=by
  intro pins s σ H Q I h
  refine wpAny_Call_Name_kw (ld_glob I hg hm ?_ hdb)
  refine PySem.W.callWith_K (h₀:=X.base) I.ok.mod.kin hk (thn (ha pos pins s σ H _ I h) fun us s1 ⟨vs,H1,I1,r,q⟩=>⟨I1.kIn,?_⟩) he hpl
  exact run_fn F hr hb hd hx I1 r q
end
section
variable {X:Cx} {CX:CXT} {k:Nat} {f C:Addr} {fd:FuncData} {ps ks:List Str} {sp:Sp} {E:XK} {x m:Str} {p pos apos kpos:Pos} {e o:Expr} {es:List Expr} {kws:List Keyword} {te ta:TE} {t tk:TA} {nm:Option Str}
variable {g:List Value→List Value→List Value} {gV:List V→List V→List V}
end
structure FnScope (N P:List Str) (sc:Scope):Prop where
  kind:sc.kind=.function
  co:sc.isCoroutine=false
  gen:sc.isGenerator=false
  nd:N.Nodup
  pre:N.take P.length=P
  par:∀ x∈P,sc.names.lookup x=some .local∨sc.names.lookup x=some .cell
  nofree:∀ y∈sc.names,y.2≠.free
theorem bindL_out {kindOf:Str→Option NameKind} {x:Str}:∀ {binds:List (Str×Value)} {m:Str→Option Value},(∀ v,(x,v)∉binds)→bindL kindOf binds m x=m x
  | [],_,_=>rfl
  | (n,v) :: r,m,h=>by
    unfold bindL
    rw [bindL_out fun w hw=>h w (List.mem_cons_of_mem _ hw)]
    split
    · have:x≠n:=by rintro rfl; exact h v List.mem_cons_self
      simp [this]
    · rfl
theorem bindC_out {kindOf:Str→Option NameKind} {x:Str}:∀ {binds:List (Str×Value)} {m:Str→Option Value},(∀ v,(x,v)∉binds)→bindC kindOf binds m x=m x
  | [],_,_=>rfl
  | (n,v) :: r,m,h=>by
    unfold bindC
    rw [bindC_out fun w hw=>h w (List.mem_cons_of_mem _ hw)]
    split
    · rfl
    · have:x≠n:=by rintro rfl; exact h v List.mem_cons_self
      simp [this]
theorem bindL_get {kindOf:Str→Option NameKind} {x:Str} {v:Value}:∀ {P:List Str} {vs:List Value} {i:Nat} {m:Str→Option Value},P.Nodup→P[i]? = some x→vs[i]? = some v→kindOf x=some .local →
    bindL kindOf (P.zip vs) m x=some v
  | [],_,_,_,_,h,_,_=>by simp at h
  | _ :: _,[],_,_,_,_,h,_=>by simp at h
  | p :: P,w :: vs,0,m,nd,h1,h2,hk=>by
    simp at h1 h2; subst h1; subst h2
    show bindL kindOf ((p,w) :: P.zip vs) m p=_
    unfold bindL
    rw [bindL_out fun v hv=>(List.nodup_cons.mp nd).1 (List.of_mem_zip hv).1,if_pos hk]
    simp
  | p :: P,w :: vs,i + 1,m,nd,h1,h2,hk=>by
    show bindL kindOf ((p,w) :: P.zip vs) m x=_
    unfold bindL
    exact bindL_get (i:=i) (List.nodup_cons.mp nd).2 (by simpa using h1) (by simpa using h2) hk
theorem bindC_get {kindOf:Str→Option NameKind} {x:Str} {v:Value}:∀ {P:List Str} {vs:List Value} {i:Nat} {m:Str→Option Value},P.Nodup→P[i]? = some x→vs[i]? = some v→kindOf x≠some .local →
    bindC kindOf (P.zip vs) m x=some v
  | [],_,_,_,_,h,_,_=>by simp at h
  | _ :: _,[],_,_,_,_,h,_=>by simp at h
  | p :: P,w :: vs,0,m,nd,h1,h2,hk=>by
    simp at h1 h2; subst h1; subst h2
    show bindC kindOf ((p,w) :: P.zip vs) m p=_
    unfold bindC
    rw [bindC_out fun v hv=>(List.nodup_cons.mp nd).1 (List.of_mem_zip hv).1,if_neg hk]
    simp
  | p :: P,w :: vs,i + 1,m,nd,h1,h2,hk=>by
    show bindC kindOf ((p,w) :: P.zip vs) m x=_
    unfold bindC
    exact bindC_get (i:=i) (List.nodup_cons.mp nd).2 (by simpa using h1) (by simpa using h2) hk
noncomputable def start (N:List Str) (vs:List V):St:=vs.map some ++ List.replicate (N.length - vs.length) none
noncomputable def cxOf (CX:CXT) (P:Program) (w:World) (K:PySem.W.Frag) (mg:Str→Option Value) (base:Heap) (N:List Str) (qual:Str) (scope:Scope) (f:Addr) (cd:Value) (A:Around) (outer:List Env) (s:Shared) (H:Hp) (E:XK):Cx where
  prog:=P
  w:=w
  K:=K
  mg:=mg
  base:=base
  A:=A.deeper (envOfC qual scope s.heap.objs.size f cd)
  N:=N
  s₀:=s
  H₀:=H
  env:=envOfC qual scope s.heap.objs.size f cd
  outer:=outer
  stack:=envOfC qual scope s.heap.objs.size f cd :: outer
  ex:=[]
  calm:=true
  fn:=fun _=>true
  pn:=[]
  xe:=fun e s'=>wpAny (model P w) (A.deeper (envOfC qual scope s.heap.objs.size f cd)) (leaving (envOfC qual scope s.heap.objs.size f cd) e) (fun _ s''=>CX outer H s E e s'') (fun e' s''=>CX outer H s E e' s'') s'
theorem cell_has {sc:Scope} {n:Nat} {x:Str} (h:sc.names.lookup x=some .cell):∃ c,(cellsFrom n sc.names []).lookup x=some c:=by
  have q:=PySem.W.cellsFrom_some sc.names n [] (.inl h)
  exact Option.isSome_iff_exists.mp q
theorem inv_start {CX:CXT} {P:Program} {w:World} {K:PySem.W.Frag} {mg:Str→Option Value} {base:Heap} {N ps:List Str} {qual:Str} {scope:Scope} {f:Addr} {cd:Value} {A:Around} {outer:List Env} {s s1:Shared} {H:Hp} {E:XK} {us:List Value} {vs:List V}
    (S:FnScope N ps scope) (hd:A.handled=none) (e0:Env0 P w K mg base A outer s H) (hl:vs.length=ps.length) (r:Vals vs us)
    (x:InCallC s s.heap.objs.size (bindL (envOfC qual scope s.heap.objs.size f cd).kindOf (ps.zip us) fun _=>none) (cellsFrom (s.heap.objs.size + 1) scope.names []) (bindC (envOfC qual scope s.heap.objs.size f cd).kindOf (ps.zip us) fun _=>none) s1) :
    Inv (cxOf CX P w K mg base N qual scope f cd A outer s H E) [] (start N vs) H s1:=by
  have hpl:ps.length≤N.length:=by have:=congrArg List.length S.pre; rw [List.length_take] at this; omega
  obtain ⟨h1,tk,rfl,hk⟩:=x.done
  have noA:∀ b:Addr,b∉(cxOf CX P w K mg base N qual scope f cd A outer s H E).ex:=fun b z=>absurd (show b∈([]:List Addr) from z) (by simp)
  refine ⟨⟨e0.mod,S.kind,rfl,rfl,Nat.le_refl _,fun y z c h1 h2=>?_,fun y hy=>?_,fun y c _ h=>?_,fun _=>hd,Around.frames_deeper e0.frames,.inr ⟨rfl,rfl⟩,fun b z=>absurd z (noA b),e0.bs,e0.bsz,fun b _ _=>noA b,fun b z=>absurd z (noA b),e0.funs,e0.frf⟩,
    rfl,e0.bare,Un.kept hk,⟨_,x.toInCall.ns,fun i y v h1 h2 h3=>?_⟩,fun y c h=>⟨_,x.cell y c h⟩,e0.hok.fresh (Nat.le_refl _),fun y c h=>?_,fun p hp=>absurd (show p∈([]:List (Addr×Obj)) from hp) (by simp),e0.hok.kept hk,?_⟩
  · exact name_of_addr x.apart (PySem.mem_of_lookup h1) (PySem.mem_of_lookup h2)
  · have hy:scope.names.lookup y=some .cell∨scope.names.lookup y=some .free:=hy
    rcases hy with hy | hy
    · exact cell_has hy
    · exact absurd rfl (S.nofree _ (PySem.mem_of_lookup hy))
  · exact Nat.le_of_lt (x.above y c (PySem.mem_of_lookup h))
  · have hi:i < vs.length:=by
      unfold start at h2
      by_cases hi:i < vs.length
      · exact hi
      · rw [List.getElem?_append_right (by simpa using hi)] at h2
        rw [List.getElem?_replicate] at h2
        split at h2 <;> cases h2
    have ha:vs[i]? = some v:=by
      unfold start at h2
      rw [List.getElem?_append_left (by simpa using hi),List.getElem?_map] at h2
      cases e:vs[i]? with
      | none=>rw [e] at h2; cases h2
      | some a=>rw [e] at h2; cases h2; rfl
    obtain ⟨u,hu,rv⟩:=r.get ha
    have hp:ps[i]? = some y:=by
      rw [← S.pre,List.getElem?_take_of_lt (by omega)]; exact h1
    have ndP:ps.Nodup:=by rw [← S.pre]; exact S.nd.sublist (List.take_sublist _ _)
    refine ⟨u,rv,?_⟩
    rcases S.par y (List.mem_of_getElem? hp) with k | k
    · exact .inl ⟨k,bindL_get ndP hp hu k⟩
    · obtain ⟨c,e⟩:=cell_has (n:=s.heap.objs.size + 1) k
      refine .inr ⟨.inl k,c,e,?_⟩
      have q:=x.cell y c e
      rw [bindC_get ndP hp hu (by show scope.names.lookup y≠_; rw [k]; decide)] at q
      exact q
  · exact e0.hok.fresh (Nat.le_of_lt (x.above y c (PySem.mem_of_lookup h)))
  · unfold start
    show _=N.length
    rw [List.length_append,List.length_map,List.length_replicate]
    omega
theorem fn_of {CX:CXT} {P:Program} {w:World} {K:PySem.W.Frag} {mg:Str→Option Value} {base:Heap} {k:Nat} {f:Addr} {name qual:Str} {params:Arguments} {body:List Stmt} {scope:Scope} {dV kV doc pm cdv ct oc:Value} {an od:Option Addr}
    {osl:Array (Option Value)} {N ps:List Str} {sp:Sp} (lk:K.lookup f=some ⟨oc,od,.func (PySem.W.fnOf name qual params body scope dV kV doc pm an cdv ct),osl⟩) (hcd:PySem.W.codeIn K cdv qual=true) (S:FnScope N ps scope)
    (len:∀ vs H Q E,sp vs H Q E→vs.length=ps.length)
    (hbody:∀ (A:Around) (outer:List Env) (s:Shared) (H:Hp) (vs:List V) (Q:VK) (E:XK),Room k (A.deeper (envOfC qual scope s.heap.objs.size f cdv))→sp vs H Q E →
      ∃ t,PSs (cxOf CX P w K mg base N qual scope f cdv A outer s H E) body t∧t { nx:=fun _ H'=>Q .non H',rt:=Q } (start N vs) H) :
    FnOk P w K mg base CX (k + 1) f (PySem.W.fnOf name qual params body scope dV kV doc pm an cdv ct) ps sp:=by
  refine ⟨len,fun A outer s H args us vs Q E hr e0 hb r hsp=>?_⟩
  have hl:=len _ _ _ _ hsp
  have KX:K.In s.heap:=e0.mod.kin.keeps fun b o e=>(e0.bs b o e).1
  have lim:s.heap.NoLimit:=e0.mod.nolimit.keeps fun b o e=>(e0.bs b o e).1
  have hkind:∀ y∈ps.zip us,scope.names.lookup y.1=some .local∨(scope.names.lookup y.1=some .cell∧((cellsFrom (s.heap.objs.size + 1) scope.names []).lookup y.1).isSome=true):=fun ⟨n,v⟩ hy=>by
    rcases S.par n (List.of_mem_zip hy).1 with q | q
    · exact .inl q
    · exact .inr ⟨q,PySem.W.cellsFrom_some _ _ _ (.inl q)⟩
  refine codeAny_call_function hr.depth (KX _ _ lk) rfl S.co S.gen rfl (PySem.W.codeRec_of KX hcd) (hb _ _ _ _ ?_)
  refine wpAny_newFunctionEnv_cells S.kind hkind fun env he s1 x=>?_
  subst he
  refine ⟨lim.keeps x.toInCall.keep,codeAny_func ?_⟩
  obtain ⟨t,ht,hq⟩:=hbody A outer s H vs Q E (hr.deeper _) hsp
  have I:Inv (cxOf CX P w K mg base N qual scope f cdv A outer s H E) [] (start N vs) H s1:=inv_start S hr.hd e0 hl r x
  refine wpAny_mono (ht [] s1 (start N vs) H _ I hq) (fun fl s' hs=>?_) fun e s' hs=>hs
  have fin:∀ {σ':St} {H':Hp} {v:V} {u:Value},Inv (cxOf CX P w K mg base N qual scope f cdv A outer s H E) [] σ' H' s'→RelV v u→Q v H'→CE outer P w H s Q u s' :=
    fun {σ' H' v u} J rv q=>⟨v,H',J.os,J.bare,J.base,J.hok,rv,q⟩
  cases fl with
  | ret u =>
    obtain ⟨v,σ',H',J,rv,q⟩:=hs
    exact fin J rv q
  | next =>
    obtain ⟨σ',H',J,q⟩:=hs
    exact fin (v:=V.non) (u:=Value.none) J rfl q
  | brk =>
    obtain ⟨_,_,_,q⟩:=hs
    exact False.elim q
  | cont =>
    obtain ⟨_,_,_,q⟩:=hs
    exact False.elim q
end L2
namespace L2
open PySem PySem.Spec PyProof.Rows
section
variable {X:Cx} {x:Str} {p pos:Pos} {e:Expr} {es:List Expr} {t:TA} {id T:String} {r:List V→Hp→VK→Prop}
noncomputable def tCB (r:List V→Hp→VK→Prop) (t:TA):TE:=fun σ H Q=>t σ H fun vs H1=>r vs H1 Q
theorem pe_callB (hc:CallR X (.builtin id) r) (hg:Gl X x) (hm:X.mg x=none) (hv:bootBuiltins x=some (.builtin id)) (ha:PA X (e :: es) t) (hn:x≠"__name__":=by decide) (hdb:(x == ("__debug__":Str))=false:=by decide)
    (he:starEach (e :: es) X.env=(false,eval e X.env) :: starEach es X.env:=by rfl) (hpl:(backTo pos (starEach es X.env)).any (·.1)=false:=by rfl):PE X (.Call (.Name x p) (e :: es) [] pos) (tCB r t):=by
  intro pins s σ H Q I h
  refine wpAny_Call_Name_kw (ld_blt I hg hm hv ?_ hn hdb)
  exact PyProof.Rows.callWith_builtin1 (thn (ha pos pins s σ H _ I h) fun us s1 ⟨vs,H1,I1,r1,q1⟩=>hc pins s1 σ H1 vs us Q I1 r1 q1) he hpl
theorem pe_callTy (hc:CallR X (.type T) r) (hg:Gl X x) (hm:X.mg x=none) (hv:bootBuiltins x=some (.type T)) (ha:PA X (e :: es) t) (hn:x≠"__name__":=by decide) (hdb:(x == ("__debug__":Str))=false:=by decide)
    (he:starEach (e :: es) X.env=(false,eval e X.env) :: starEach es X.env:=by rfl) (hpl:(backTo pos (starEach es X.env)).any (·.1)=false:=by rfl):PE X (.Call (.Name x p) (e :: es) [] pos) (tCB r t):=by
  intro pins s σ H Q I h
  refine wpAny_Call_Name_kw (ld_blt I hg hm hv ?_ hn hdb)
  exact PyProof.Rows.callWith_type1 (thn (ha pos pins s σ H _ I h) fun us s1 ⟨vs,H1,I1,r1,q1⟩=>hc pins s1 σ H1 vs us Q I1 r1 q1) he hpl
end
end L2
namespace HT
open PySem PyProof.Rows
section
open PySem.SeqAt
open PySem.AutoSeq1 (wpAny_loadPart')
open PySem.MeetsSeq PySem.MeetsSeq2 PySem.MeetsSeq3
end
section
variable {prog:Program} {w:World} {A:Around} {E:Value→Shared→Prop} {s:Shared}
theorem cat_tup {t b:Addr} {vs ws:List Value} {Q:Value→Shared→Prop} (ht:IsTup s.heap t vs.toArray) (hb:IsTup s.heap b ws.toArray) (hv:vs≠[])
    (h1:ws=[]→Q (.ref t) s) (h2:ws≠[]→Q (.ref s.heap.objs.size) { s with heap:=s.heap.push { cls:=.type "tuple",data:=.seq (vs ++ ws).toArray } })
    (hsz:vs.length + ws.length≤sizeLine):wpAny (model prog w) A (binaryOp .Add (.ref t) (.ref b)) Q E s:=by
  obtain ⟨⟨cls,dd,data,sl⟩,ho,hc,n,hd⟩:=id ht
  obtain ⟨⟨cls2,dd2,data2,sl2⟩,ho2,hc2,n2,hd2⟩:=id hb
  simp only at hc hd hc2 hd2
  subst hc hd hc2 hd2
  have e:vs.toArray ++ ws.toArray=(vs ++ ws).toArray:=by simp
  by_cases hw:ws=[]
  · exact concat_meets ⟨_,ho,rfl⟩ ⟨_,ho2,rfl⟩ noFill_tuple_add seq_tuple_add PySem.F.slot_tuple_add PySem.F.entry_tuple_add (PySem.F.args_tuple_add_2 _ _)
      (tuple_addW1 t b vs.toArray ws.toArray n n2 dd dd2 sl sl2 (by simpa using hv) (by simp [hw])) ⟨ho,ho2,h1 hw⟩
  · refine concat_meets ⟨_,ho,rfl⟩ ⟨_,ho2,rfl⟩ noFill_tuple_add seq_tuple_add PySem.F.slot_tuple_add PySem.F.entry_tuple_add (PySem.F.args_tuple_add_2 _ _)
      (tuple_addW2 t b vs.toArray ws.toArray n n2 dd dd2 sl sl2 (by simpa using hv) (by simpa using hw) (by rw [List.size_toArray,List.size_toArray]; exact hsz)) ⟨ho,ho2,?_⟩
    rw [e]
    exact h2 hw
noncomputable def sIx (n d:Nat):Option Int→Nat
  | none=>d
  | some v=>if v < 0 then (v + (n:Int)).toNat else min v.toNat n
end
end HT
namespace L2
open PySem PySem.Spec PyProof.Rows
noncomputable abbrev TO:=St→Hp→(Option Int→Hp→Prop)→Prop
noncomputable def PO (X:Cx) (e:Option Expr) (t:TO):Prop :=
  ∀ (pins:List (Addr×Obj)) (s:Shared) (σ:St) (H:Hp) (Q:Option Int→Hp→Prop),Inv X pins σ H s→t σ H Q →
    wpAny (model X.prog X.w) X.A (evalPart e X.env) (fun u s'=>∃ o H',Inv X pins σ H' s'∧IsPart u o∧Q o H') X.xe s
section
variable {X:Cx} {e:Expr} {te:TE} {lo hi:Option Expr} {tl th:TO} {pos p2:Pos}
noncomputable def SlR (X:Cx) (r:V→Option Int→Option Int→Hp→VK→Prop):Prop :=
  ∀ (pins:List (Addr×Obj)) (s:Shared) (σ:St) (H:Hp) (x:V) (v vl vu:Value) (lo hi:Option Int) (sl:Addr) (Q:VK),Inv X pins σ H s→RelV x v→s.heap.IsSliceOf sl vl vu .none→IsPart vl lo→IsPart vu hi→r x lo hi H Q →
    ∃ T id,typeLookup (.type T) "__getitem__"=pure (some (.builtin id))∧s.TypeIs v T∧wpAny (model X.prog X.w) X.A (getItem v (.ref sl)) (EP X pins σ Q) X.xe s
noncomputable def cutV (xs:List V) (lo hi:Option Int):List V:=(xs.drop (HT.sIx xs.length 0 lo)).take (HT.sIx xs.length xs.length hi - HT.sIx xs.length 0 lo)
theorem cutV_length (xs:List V) (lo hi:Option Int):(cutV xs lo hi).length≤xs.length:=by
  unfold cutV
  rw [List.length_take,List.length_drop]
  omega
noncomputable def rCatT (K:PySem.W.Frag):R2:=fun x y H Q=>∃ a b xs ys,x=.ref a∧y=.ref b∧SqT K H a xs∧SqT K H b ys∧xs≠[]∧xs.length + ys.length≤sizeLine ∧
  (ys=[]→Q (.ref a) H)∧(ys≠[]→∀ p,H p=none→Q (.ref p) (upd H p (.tup (xs ++ ys))))
theorem Vals.nil_iff {xs:List V} {us:List Value} (r:Vals xs us):us=[]↔xs=[]:=by
  cases r with
  | nil=>simp
  | cons _ _=>simp
theorem op_catT:OpR X (binaryOp .Add) (rCatT X.K):=by
  intro pins s σ H x y v u Q I rx ry h
  obtain ⟨a,b,xs,ys,rfl,rfl,ha,hb,hx,hz,q1,q2⟩:=h
  cases rx
  cases ry
  obtain ⟨its,r1,p1,_⟩:=I.tuple ha
  obtain ⟨its2,r2,p2,_⟩:=I.tuple hb
  refine HT.cat_tup p1 p2 (fun z=>hx (r1.nil_iff.mp z)) (fun z=>⟨.ref a,H,I,rfl,q1 (r2.nil_iff.mp z)⟩) (fun z=>?_) (by rw [← r1.length,← r2.length]; exact hz)
  refine ⟨.ref s.heap.objs.size,_,I.laid (t':=s.toks) (o:=.tup (xs ++ ys)) (fun b ob q=>Heap.get?_push_of_some _ q) (Nat.le_refl _) ?_,rfl,q2 (fun w=>z (r2.nil_iff.mpr w)) _ (I.hok.fresh (Nat.le_refl _))⟩
  exact ⟨by rw [List.length_append]; exact hz,_,r1.append r2,TupN.new _ _⟩
end
end L2
namespace L2
open PySem PySem.Spec PyProof.Rows
noncomputable def ixN (n:Nat) (i:Int):Option Nat:=if 0≤i then (if i < n then some i.toNat else none) else if -(n:Int)≤i then some (i + n).toNat else none
noncomputable def atI {α:Type} (xs:List α) (i:Int):Option α:=(ixN xs.length i).bind fun j=>xs[j]?
theorem ixN_seq {n:Nat} {i:Int} {j:Nat} (h:ixN n i=some j):seqIndex? i n=some j∧j < n∧-(n:Int)≤i∧i < n:=by
  unfold ixN at h
  by_cases h0:0≤i
  · rw [if_pos h0] at h
    by_cases h1:i < n
    · rw [if_pos h1] at h
      have e:i.toNat=j:=Option.some.inj h
      exact ⟨by rw [seqIndex_of h0 h1,e],by omega,by omega,h1⟩
    · rw [if_neg h1] at h; cases h
  · rw [if_neg h0] at h
    by_cases h1:-(n:Int)≤i
    · rw [if_pos h1] at h
      have e:(i + n).toNat=j:=Option.some.inj h
      exact ⟨by rw [seqIndex_neg (by omega) h1,e],by omega,h1,by omega⟩
    · rw [if_neg h1] at h; cases h
theorem atI_get {α:Type} {xs:List α} {i:Int} {v:α} (h:atI xs i=some v):∃ j,seqIndex? i xs.length=some j∧xs[j]? = some v∧j < xs.length∧-(xs.length:Int)≤i∧i < xs.length:=by
  unfold atI at h
  cases e:ixN xs.length i with
  | none=>rw [e] at h; cases h
  | some j =>
    rw [e] at h
    obtain ⟨h1,h2,h3,h4⟩:=ixN_seq e
    exact ⟨j,h1,h,h2,h3,h4⟩
theorem atI_nat {α:Type} {xs:List α} {j:Nat} {v:α} (h:xs[j]? = some v):atI xs (j:Int)=some v:=by
  have hj:j < xs.length:=(List.getElem?_eq_some_iff.mp h).1
  have e:ixN xs.length (j:Int)=some j:=by
    unfold ixN
    rw [if_pos (by omega),if_pos (by omega)]; simp
  unfold atI; rw [e]; exact h
noncomputable def PlainIx (b:Expr):Prop:=∀ o i,subscripted b false o i=operate [o,i] (getItem o i)
noncomputable def IxR (X:Cx) (r:R2):Prop :=
  ∀ (value slice:Expr) (pins:List (Addr×Obj)) (s:Shared) (σ:St) (H:Hp) (x y:V) (v u:Value) (Q:VK),Inv X pins σ H s→RelV x v→RelV y u→r x y H Q →
    subscripted slice false v u=operate [v,u] (getItem v u)→wpAny (model X.prog X.w) X.A (subscriptTail value slice v u) (EP X pins σ Q) X.xe s
noncomputable def MtR (X:Cx) (id:String) (r:V→List V→Hp→VK→Prop):Prop :=
  ∀ (pins:List (Addr×Obj)) (s:Shared) (σ:St) (H:Hp) (x:V) (xs:List V) (v:Value) (us:List Value) (Q:VK),Inv X pins σ H s→RelV x v→Vals xs us→r x xs H Q →
    wpAny (model X.prog X.w) X.A (call (.builtin id) (v :: us)) (EP X pins σ Q) X.xe s
section
variable {X:Cx} {a b:Expr} {ta tb:TE} {pos:Pos}
theorem pe_ix {r:R2} (hr:IxR X r) (ha:PE X a ta) (hb:PE X b tb) (hs:PlainIx b):PE X (.Subscript a b pos) (tOp r ta tb):=by
  intro pins s σ H Q I h
  exact Subscript_ (binT ha hb I h fun v u s2 x y H2 I2 rx ry q=>hr a b pins s2 σ H2 x y v u Q I2 rx ry q (hs _ _))
noncomputable def rIxL (K:PySem.W.Frag):R2:=fun x y H Q=>∃ p xs i v,x=.ref p∧y=.int i∧SqL K H p xs∧atI xs i=some v∧Q v H
noncomputable def rIxT (K:PySem.W.Frag):R2:=fun x y H Q=>∃ p xs i v,x=.ref p∧y=.int i∧SqT K H p xs∧atI xs i=some v∧Q v H
theorem ix_list:IxR X (rIxL X.K):=by
  intro value slice pins s σ H x y v u Q I rx ry h hs
  obtain ⟨p,xs,i,z,rfl,rfl,hq,he,q⟩:=h
  cases rx
  obtain ⟨t,rfl⟩:=ry
  obtain ⟨its,r,pl,hz⟩:=I.list hq
  obtain ⟨j,h1,h2,h3,h4,h5⟩:=atI_get he
  obtain ⟨w,ew,rw'⟩:=r.get h2
  have hl:=r.length
  have hn:=line63
  have fin:EP X pins σ Q w s:=⟨z,H,I,rw',q⟩
  by_cases h0:0≤i
  · have hj:i.toNat=j:=by
      rw [seqIndex_of h0 h5] at h1
      exact Option.some.inj h1
    exact item_listR pl.isList h0 (by omega) (by rw [hj]; simpa using ew) fin hs
  · have hj:(i + (its.toArray.size:Int)).toNat=j:=by
      rw [seqIndex_neg (by omega) h4] at h1
      rw [List.size_toArray,← hl]
      exact Option.some.inj h1
    exact subscriptTail_builtinR (x:=w) pl.isList.typeIs slot_list_getitem.lookup
      (wpAny_getItem_list_neg (Q:=fun r s'=>r=w∧EP X pins σ Q r s') pl.isList (by omega) (by rw [List.size_toArray] <;> omega) (by omega) (by rw [hj]; simpa using ew) ⟨rfl,fin⟩) hs
theorem ix_tup:IxR X (rIxT X.K):=by
  intro value slice pins s σ H x y v u Q I rx ry h hs
  obtain ⟨p,xs,i,z,rfl,rfl,hq,he,q⟩:=h
  cases rx
  obtain ⟨t,rfl⟩:=ry
  obtain ⟨its,r,pl,hz⟩:=I.tuple hq
  obtain ⟨j,h1,h2,h3,h4,h5⟩:=atI_get he
  obtain ⟨w,ew,rw'⟩:=r.get h2
  have hl:=r.length
  have hn:=line63
  have fin:EP X pins σ Q w s:=⟨z,H,I,rw',q⟩
  exact subscriptTail_builtinR (x:=w) pl.typeIs slot_tuple_getitem.lookup
    (getItem_tuple (j:=j) (Q:=fun r s'=>r=w∧EP X pins σ Q r s') pl (by omega) (by omega) (by rw [List.size_toArray,← hl]; exact h1) (by simpa using ew) ⟨rfl,fin⟩) hs
theorem mapSeq_set (its:List Value) (n j:Nat) (u:Value):Obj.mapSeq (·.setIfInBounds j u) { cls:=.type "list",data:=.seq its.toArray n }={ cls:=.type "list",data:=.seq (its.set j u).toArray n }:=by
  simp [Obj.mapSeq]
theorem Inv.lst {pins:List (Addr×Obj)} {σ:St} {H:Hp} {s:Shared} {p:Addr} {xs:List V} (I:Inv X pins σ H s) (h:H p=some (.lst xs)) :
    ∃ (its:List Value) (n:Nat),Vals xs its∧s.heap.get? p=some { cls:=.type "list",data:=.seq its.toArray n }∧xs.length≤sizeLine:=by
  obtain ⟨z,its,n,r,e⟩:=I.hok p _ h
  exact ⟨its,n,r,e,z⟩
theorem Inv.lstUpd {pins:List (Addr×Obj)} {σ:St} {H:Hp} {s:Shared} {p:Addr} {xs ys:List V} {its its':List Value} {n n':Nat} {f:Obj→Obj} (I:Inv X pins σ H s) (h:H p=some (.lst xs))
    (ho:s.heap.get? p=some { cls:=.type "list",data:=.seq its.toArray n }) (hf:f { cls:=.type "list",data:=.seq its.toArray n }={ cls:=.type "list",data:=.seq its'.toArray n' }) (r:Vals ys its') (hz:ys.length≤sizeLine) (t:Nat) :
    Inv X pins σ (upd H p (.lst ys)) { s with heap:=s.heap.update p f,toks:=t }:=by
  have e:(s.heap.update p f).get? p=some { cls:=.type "list",data:=.seq its'.toArray n' }:=by
    rw [Heap.get?_update_self f ho (by rw [hf] <;> rfl),hf]
  refine I.write (x:=p) (e:=p) (by rw [h]; trivial) (.inl rfl) (fun b u hb q=>(Heap.get?_update_other _ _ (Ne.symm hb)).trans q) ⟨_,e⟩ ?_
  exact ⟨hz,its',n',r,e⟩
noncomputable def rSetL:V→V→V→Hp→(Hp→Prop)→Prop:=fun o i v H Q=>∃ p xs k j,o=.ref p∧i=.int k∧H p=some (.lst xs)∧ixN xs.length k=some j∧Q (upd H p (.lst (xs.set j v)))
theorem set_list:PSet X rSetL:=by
  intro pins s σ H o i v ov iv u Q I ro ri rv h
  obtain ⟨p,xs,k,j,rfl,rfl,hp,hj,q⟩:=h
  cases ro
  obtain ⟨t,rfl⟩:=ri
  obtain ⟨its,n,r,ho,hz⟩:=I.lst hp
  obtain ⟨h1,h2,h3,h4⟩:=ixN_seq hj
  have hl:=r.length
  have hn:=line63
  have I':Inv X pins σ (upd H p (.lst (xs.set j v))) { s with heap:=s.heap.update p (Obj.mapSeq (·.setIfInBounds j u)) } :=
    I.lstUpd hp ho (mapSeq_set its n j u) (r.set rv j) (by rw [List.length_set]; exact hz) s.toks
  by_cases h0:0≤k
  · have hk:k.toNat=j:=by
      rw [seqIndex_of h0 h4] at h1
      exact Option.some.inj h1
    exact PySem.W.ki_setAt ho h0 (by omega) (by rw [List.size_toArray,← hl]; exact h4) (by rw [hk]; exact ⟨_,I',q⟩)
  · have hk:(k + (its.toArray.size:Int)).toNat=j:=by
      rw [seqIndex_neg (by omega) h3] at h1
      rw [List.size_toArray,← hl]
      exact Option.some.inj h1
    exact PySem.W.ki_setBack ho (by omega) (by rw [List.size_toArray,← hl]; exact h3) (by omega) (by rw [hk]; exact ⟨_,I',q⟩)
theorem slice_bounds (lo hi:Option Int) (n:Nat):(sliceBounds lo hi none n).1=((HT.sIx n 0 lo:Nat):Int)∧(sliceBounds lo hi none n).2.1=((HT.sIx n n hi:Nat):Int)∧(sliceBounds lo hi none n).2.2=1:=by
  refine ⟨?_,?_,rfl⟩
  · cases lo with
    | none=>simp [sliceBounds,HT.sIx]
    | some i =>
      simp only [sliceBounds,HT.sIx,Option.getD_none,show (1:Int) > 0 by decide,if_true]
      by_cases h:i < 0
      · simp only [h,if_true] <;> omega
      · simp only [h,if_false] <;> omega
  · cases hi with
    | none=>simp [sliceBounds,HT.sIx]
    | some i =>
      simp only [sliceBounds,HT.sIx,Option.getD_none,show (1:Int) > 0 by decide,if_true]
      by_cases h:i < 0
      · simp only [h,if_true] <;> omega
      · simp only [h,if_false] <;> omega
theorem slicePick_cut (its:List Value) (lo hi:Option Int):slicePick its.toArray lo hi none=((its.drop (HT.sIx its.length 0 lo)).take (HT.sIx its.length its.length hi - HT.sIx its.length 0 lo)).toArray:=by
  obtain ⟨h1,h2,h3⟩:=slice_bounds lo hi its.toArray.size
  unfold slicePick
  rw [h1,h2,h3]
  simp only [sliceRange_one,pick_run,List.size_toArray] <;> rfl
noncomputable def rSlL (K:PySem.W.Frag):V→Option Int→Option Int→Hp→VK→Prop:=fun x lo hi H Q=>∃ a xs,x=.ref a∧SqL K H a xs∧∀ p,H p=none→Q (.ref p) (upd H p (.lst (cutV xs lo hi)))
theorem sl_list:SlR X (rSlL X.K):=by
  intro pins s σ H x v vl vu lo hi sl Q I rx hs pl pu h
  obtain ⟨a,xs,rfl,hx,q⟩:=h
  cases rx
  obtain ⟨its,r,ht,hz⟩:=I.list hx
  have hlen:=r.length
  refine ⟨"list",_,slot_list_getitem.lookup,ht.isList.typeIs,?_⟩
  refine wpAny_getItem_list_slice ht.isList hs pl pu .none (by simp) ?_ (by rw [List.size_toArray] <;> omega)
  rw [slicePick_cut,← hlen]
  refine ⟨.ref s.heap.objs.size,_,I.laid (t':=s.toks) (o:=.lst (cutV xs lo hi)) (fun b ob q=>Heap.get?_push_of_some _ q) (Nat.le_refl _) ?_,rfl,q _ (I.hok.fresh (Nat.le_refl _))⟩
  exact ⟨Nat.le_trans (cutV_length xs lo hi) hz,_,0,(r.drop (HT.sIx xs.length 0 lo)).take (HT.sIx xs.length xs.length hi - HT.sIx xs.length 0 lo),Heap.get?_push_size _ rfl⟩
theorem call_len_seq:CallR X (.builtin "len") (fun xs H Q=>∃ p ys,xs=[.ref p]∧(SqL X.K H p ys∨SqT X.K H p ys)∧Q (.int ys.length) H):=by
  intro pins s σ H xs us Q I r h
  obtain ⟨p,ys,rfl,hq,q⟩:=h
  obtain ⟨u,rfl,rx⟩:=vals1 r
  cases rx
  have hn:=line63
  rcases hq with hq | hq
  · obtain ⟨its,r',pl,hz⟩:=I.list hq
    have hlen:=r'.length
    exact Calls.call_len_list pl.isList (by simp only [List.size_toArray] <;> omega) ⟨.int ys.length,H,I.tok _,⟨s.toks + 1,by rw [List.size_toArray,hlen]⟩,q⟩
  · obtain ⟨its,r',pl,hz⟩:=I.tuple hq
    have hlen:=r'.length
    exact len_tuple pl (by simp only [List.size_toArray] <;> omega) ⟨.int ys.length,H,I.tok _,⟨s.toks + 1,by rw [List.size_toArray,hlen]⟩,q⟩
theorem call_len_str:CallR X (.builtin "len") (fun xs H Q=>∃ z,xs=[.str z]∧z.length≤sizeLine∧Q (.int z.length) H):=by
  intro pins s σ H xs us Q I r h
  obtain ⟨z,rfl,hz,q⟩:=h
  obtain ⟨u,rfl,t,rfl⟩:=vals1 r
  have hn:=line63
  exact len_str (by omega) ⟨.int z.length,H,I.tok _,⟨_,rfl⟩,q⟩
theorem call_tuple_of:CallR X (.type "tuple") (fun xs H Q=>∃ p ys,xs=[.ref p]∧((SqL X.K H p ys∧∀ l,H l=none→Q (.ref l) (upd H l (.tup ys)))∨(SqT X.K H p ys∧Q (.ref p) H))):=by
  intro pins s σ H xs us Q I r h
  obtain ⟨p,ys,rfl,h⟩:=h
  obtain ⟨u,rfl,rx⟩:=vals1 r
  cases rx
  rcases h with ⟨hq,q⟩ | ⟨hq,q⟩
  · obtain ⟨its,r',pl,hz⟩:=I.list hq
    have hlen:=r'.length
    refine call_tuple_list pl.isList (fun h' kp=>?_) (by simp only [List.size_toArray] <;> omega)
    have I1:Inv X pins σ H { s with heap:=h' }:=I.kept (t':=s.toks) kp
    have I2:Inv X pins σ (upd H h'.objs.size (.tup ys)) { s with heap:=h'.push { cls:=.type "tuple",data:=.seq its.toArray } } :=
      I1.laid (t':=s.toks) (fun b o e=>Heap.get?_push_of_some _ e) (Nat.le_refl _) (show ObjOk X.prog X.w _ _ _ (.tup ys) from ⟨hz,its,r',TupN.new _ _⟩)
    exact ⟨.ref h'.objs.size,_,I2,rfl,q _ (I1.hok.fresh (Nat.le_refl _))⟩
  · obtain ⟨its,r',pl,hz⟩:=I.tuple hq
    exact call_tuple_same pl ⟨.ref p,H,I,rfl,q⟩
noncomputable def tyV (K:PySem.W.Frag) (T:String) (x:V) (H:Hp):Prop:=match x with
  | .str _=>T="str"
  | .int _=>T="int"
  | .ref p=>(T="list"∧∃ xs,SqL K H p xs)∨(T="tuple"∧((∃ xs,H p=some (.tup xs))∨∃ o,K.lookup p=some o∧o.cls=.type "tuple"∧o.dict=none)) ∨
      (T="dict"∧((∃ kvs,H p=some (.dK kvs))∨∃ kvs,H p=some (.dT kvs)))∨(T="set"∧∃ S n,H p=some (.set S n))
  | _=>False
theorem tyV_is {pins:List (Addr×Obj)} {σ:St} {H:Hp} {s:Shared} {T:String} {x:V} {v:Value} (I:Inv X pins σ H s) (r:RelV x v) (ty:tyV X.K T x H) :
    s.TypeIs v T∧∀ a,v=.ref a→∃ ob,s.heap.get? a=some ob∧ob.dict=none:=by
  cases x with
  | str z =>
    obtain ⟨t,rfl⟩:=r
    cases (show T="str" from ty)
    exact ⟨typeIs_str s z t,fun _ e=>nomatch e⟩
  | int i =>
    obtain ⟨t,rfl⟩:=r
    cases (show T="int" from ty)
    exact ⟨typeIs_int s i t,fun _ e=>nomatch e⟩
  | ref p =>
    cases r
    rcases ty with ⟨rfl,xs,hq⟩ | ⟨rfl,⟨xs,hk⟩ | ⟨o,hk,hc,hd⟩⟩ | ⟨rfl,hk⟩ | ⟨rfl,S,n,hk⟩
    · obtain ⟨its,_,pl,_⟩:=I.list hq
      refine ⟨pl.isList.typeIs,fun a e=>?_⟩
      cases e
      obtain ⟨o,n,e,c,hd,_⟩:=pl
      exact ⟨o,e,hd⟩
    · obtain ⟨_,its,_,o,e,c,_,hd⟩:=(show ObjOk X.prog X.w H s.heap p (.tup xs) from I.hok p _ hk)
      refine ⟨⟨o,e,c⟩,fun a e2=>?_⟩
      cases e2
      exact ⟨o,e,hd⟩
    · refine ⟨⟨o,I.kIn p o hk,hc⟩,fun a e=>?_⟩
      cases e
      exact ⟨o,I.kIn _ o hk,hd⟩
    · have z:∃ o,s.heap.get? p=some o∧o.ExactDict:=by
        rcases hk with ⟨kvs,hk⟩ | ⟨kvs,hk⟩
        · obtain ⟨_,_,_,_,o,_,_,e,ex,_⟩:=I.hok p _ hk
          exact ⟨o,e,ex⟩
        · obtain ⟨_,_,_,_,o,_,_,e,ex,_⟩:=I.hok p _ hk
          exact ⟨o,e,ex⟩
      obtain ⟨o,e,ex⟩:=z
      refine ⟨⟨o,e,ex.1⟩,fun a e2=>?_⟩
      cases e2
      exact ⟨o,e,ex.2.1⟩
    · obtain ⟨o,_,_,_,e,ex,_⟩:=I.hok p _ hk
      refine ⟨⟨o,e,ex.1⟩,fun a e2=>?_⟩
      cases e2
      exact ⟨o,e,ex.2.1⟩
  | _=>exact False.elim ty
noncomputable def tBM (K:PySem.W.Frag) (T:String) (r:V→List V→Hp→VK→Prop) (to:TE) (t:TA):TE:=fun σ H Q=>to σ H fun x H1=>tyV K T x H1∧t σ H1 fun xs H2=>r x xs H2 Q
variable {o e:Expr} {es:List Expr} {to:TE} {t:TA} {name:Str} {apos cpos:Pos} {T id:String} {r:V→List V→Hp→VK→Prop}
theorem pe_bm (pa:PlainAttrs T) (slot:Slot T name id) (hty:typeOf (.builtin id)=pure (.type "method_descriptor")) (hm:MtR X id r) (ho:PE X o to) (ha:PA X (e :: es) t)
    (hbase:attributeBase o name X.env (eval o X.env)=eval o X.env:=by rfl)
    (hfew:((backTo cpos (starEach (e :: es) X.env)).all (fun x=>!x.1) && (backToKw cpos (keywordEach [] X.env)).all (fun x=>x.1.isSome)
      && decide ((e :: es).length + ([]:List Keyword).length + (if ([]:List Keyword).isEmpty then 0 else 1) < 30))=true:=by rfl)
    (hline:(apos.endLine == cpos.line)=true:=by rfl) (hs:starEach (e :: es) X.env=(false,eval e X.env) :: starEach es X.env:=by rfl) (hplain:(backTo cpos (starEach es X.env)).any (·.1)=false:=by rfl) :
    PE X (.Call (.Attribute o name apos) (e :: es) [] cpos) (tBM X.K T r to t):=by
  intro pins s σ H Q I h
  refine wpAny_Call_method_late hbase hfew hline rfl (thn (ho pins s σ H _ I h) fun v s1 ⟨x,H1,I1,r1,ty,q1⟩=>?_)
  obtain ⟨h1,h2⟩:=tyV_is I1 r1 ty
  refine ⟨T,id,pa,slot,hty,h1,h2,?_⟩
  have hA:=ha cpos pins s1 σ H1 _ I1 q1
  rw [hs] at hA ⊢
  refine Calls.callWith_builtin (by show (false || (backTo cpos (starEach es X.env)).any (·.1))=false; rw [hplain] <;> rfl) (Calls.evalArgs_plain ?_)
  exact thn hA fun us s2 ⟨vs,H2,I2,r2,q2⟩=>hm pins s2 σ H2 x vs v us Q I2 r1 r2 q2
end
end L2
namespace L2
open PySem PySem.Spec PyProof.Rows
noncomputable def MtM (X:Cx) (id:String) (r:V→List V→Hp→VK→Prop):Prop :=
  ∀ (pins:List (Addr×Obj)) (s:Shared) (σ:St) (H:Hp) (x:V) (xs:List V) (v:Value) (us:List Value) (Q:VK),Inv X pins σ H s→RelV x v→Vals xs us→r x xs H Q →
    wpAny (model X.prog X.w) X.A (call (.builtin id) (v :: us)) (EP X pins σ Q) X.xe s
theorem Vals.one:∀ {x:V} {us:List Value},Vals [x] us→∃ u,us=[u]∧RelV x u
  | _,_,.cons r .nil=>⟨_,rfl,r⟩
theorem Vals.two:∀ {x y:V} {us:List Value},Vals [x,y] us→∃ u v,us=[u,v]∧RelV x u∧RelV y v
  | _,_,_,.cons r (.cons q .nil)=>⟨_,_,rfl,r,q⟩
section
variable {X:Cx} {pins:List (Addr×Obj)} {σ:St} {H:Hp} {s:Shared} {l b:Addr} {xs ys zs:List V}
theorem Inv.lset {its its':List Value} {n:Nat} {f:Array Value→Array Value} {t':Nat} (I:Inv X pins σ H s) (hH:H l=some (.lst xs))
    (e:s.heap.get? l=some { cls:=.type "list",data:=.seq its.toArray n }) (hf:f its.toArray=its'.toArray) (hv:Vals ys its') (hz:ys.length≤sizeLine) :
    Inv X pins σ (upd H l (.lst ys)) { s with heap:=s.heap.update l (Obj.mapSeq f),toks:=t' }:=by
  have q:=PySem.IsL.update e f
  rw [hf] at q
  refine I.write (x:=l) (e:=l) (by rw [hH]; exact trivial) (.inl rfl) (fun b' u hb hu=>(Heap.get?_update_other s.heap (Obj.mapSeq f) (Ne.symm hb)).trans hu) ⟨_,q⟩ ?_
  exact ⟨hz,its',_,hv,q⟩
theorem Inv.lstM (I:Inv X pins σ H s) (hH:H l=some (.lst xs)):xs.length≤sizeLine∧∃ (its:List Value) (n:Nat),Vals xs its∧xs.length=its.length∧s.heap.get? l=some { cls:=.type "list",data:=.seq its.toArray n }:=by
  obtain ⟨z,its,n,r,e⟩:=I.hok l _ hH
  exact ⟨z,its,n,r,r.length,e⟩
theorem notLongL {n:Nat} (h:n≤sizeLine):Builtin.List.listTooLong n=false:=by
  unfold Builtin.List.listTooLong
  exact decide_eq_false (by omega)
end
section
variable {X:Cx}
noncomputable def rAppend:V→List V→Hp→VK→Prop:=fun x vs H Q=>∃ l xs y,x=.ref l∧vs=[y]∧H l=some (.lst xs)∧xs.length < sizeLine∧Q .non (upd H l (.lst (xs ++ [y])))
theorem mt_append:MtM X "list.append" rAppend:=by
  intro pins s σ H x vs v us Q I rx rv h
  obtain ⟨l,xs,y,rfl,rfl,hH,hz,q⟩:=h
  cases rx
  obtain ⟨u,rfl,ru⟩:=rv.one
  obtain ⟨z,its,n,r,hl,e⟩:=I.lstM hH
  refine call_meets F.slot_list_append ⟨_,e,rfl⟩ F.entry_list_append (F.args_list_append_2 _ _) (PySem.list_append l its.toArray n u (by rw [List.size_toArray]; omega)) ⟨e,?_⟩
  refine ⟨.non,_,I.lset (its':=its ++ [u]) hH e (by simp) (r.append (.cons ru .nil)) ?_,rfl,q⟩
  rw [List.length_append,List.length_singleton]
  omega
noncomputable def rExtend:V→List V→Hp→VK→Prop:=fun x vs H Q=>∃ l b xs zs,x=.ref l∧vs=[.ref b]∧H l=some (.lst xs)∧H b=some (.lst zs)∧xs.length + zs.length≤sizeLine∧Q .non (upd H l (.lst (xs ++ zs)))
theorem mt_extend:MtM X "list.extend" rExtend:=by
  intro pins s σ H x vs v us Q I rx rv h
  obtain ⟨l,b,xs,zs,rfl,rfl,hH,hB,hz,q⟩:=h
  cases rx
  obtain ⟨u,rfl,ru⟩:=rv.one
  cases ru
  obtain ⟨z,its,n,r,hl,e⟩:=I.lstM hH
  obtain ⟨z2,its2,n2,r2,hl2,e2⟩:=I.lstM hB
  have hsz:its.toArray.size + its2.toArray.size≤sizeLine:=by rw [List.size_toArray,List.size_toArray]; omega
  have hlong:¬ (!its.toArray.isEmpty && Builtin.List.listTooLong (its.toArray.size + its2.toArray.size))=true:=by
    rw [notLongL hsz,Bool.and_false]
    exact Bool.false_ne_true
  refine call_meets F.slot_list_extend ⟨_,e,rfl⟩ F.entry_list_extend (F.args_list_extend_2 _ _)
    (AutoSeq1.list_extend_list_list_0 l its.toArray n b its2.toArray n2 hlong (by rw [List.size_toArray]; omega) (by omega)) ⟨e,e2,?_⟩
  refine ⟨.non,_,I.lset (its':=its ++ its2) hH e (by simp) (r.append r2) ?_,rfl,q⟩
  rw [List.length_append]
  omega
end
section
variable {prog:Program} {w:World} {A:Around} {E:Value→Shared→Prop} {s:Shared}
set_option maxRecDepth 100000 in
end
section
variable {X:Cx}
end
end L2
namespace Att
open PySem PySem.W PySem.Calls PyProof.Rows
theorem ints_of_wellAll {P:Params} {h:Heap}:∀ (ns:List Int) (vs:List Value),WellAll P h vs (ns.map WData.int)→IntsAre vs ns:=by
  intro ns
  induction ns with
  | nil =>
    intro vs w
    rw [List.map_nil] at w
    cases w
    exact .nil
  | cons n ns ih =>
    intro vs w
    rw [List.map_cons] at w
    cases w with
    | cons a b =>
      cases a
      exact .cons _ _ (ih _ b)
theorem script_of {l:OpenLaw} {n:Nat} (hn:l.most=some n) {P:Params} {h:Heap} {args:List WData} {vals:List Value}
    (hpre:l.row.toRowW.claim.pre args=true) (hwl:WellAll P h vals args) :
    ∃ a vs ns,vals=[Value.ref a]∧args=[WData.list (ns.map WData.int)]∧h.get? a=some { cls:=.type "list",data:=.seq vs.toArray }∧IntsAre vs ns∧ns.length≤n:=by
  have hsh:WShape.hasAll [] args [.list .int]=true:=(pre_splitW hpre).1
  have hc:l.pre.holds [] { args:=args }=true:=(pre_splitW hpre).2
  obtain ⟨d,r,rfl,h1,h2⟩:=hasAllW_cons hsh
  obtain rfl:=hasAllW_nil h2
  obtain ⟨xs,rfl,h3⟩:=hasW_list h1
  obtain ⟨ns,rfl⟩:=items_int h3
  have hlen:ns.length≤n:=by
    unfold OpenLaw.pre at hc
    have h4:(WTm.not (.lt (.lit (.int (n:Int))) (.len (.arg 0)))).holds [] { args:=[.list (ns.map .int)] }=true:=by
      have h4:=(holds_andW hc).1
      rw [hn] at h4
      exact h4
    have h5:=condW_of h4 (w_not (w_lt w_lit (w_len_list (w_arg rfl))))
    rw [List.length_map] at h5
    refine Nat.le_of_not_lt fun q=>?_
    have q':(n:Int) < ((ns.length:Nat):Int):=by omega
    first
      | (rw [decide_eq_true q'] at h5; exact absurd h5 (by decide))
      | (simp at h5; omega)
  cases hwl with
  | cons w1 w2 =>
    cases w2
    cases w1 with
    | list ho hall=>exact ⟨_,_,ns,rfl,rfl,ho,ints_of_wellAll ns _ hall,hlen⟩
theorem post_true (l:OpenLaw) (args:List WData):l.row.toRowW.claim.post args (.bool true) args=true :=
  postW_of (r:=l.row.toRowW) (X:=(true == true))
    (show WShape.has [] (.bool true) .bool=true by first | rfl | decide | simp [WShape.has,WShape.arms,WShape.armsAll])
    (show (WTm.eq .res (.lit (.bool true))).value [] { args:=args,res:=some (.bool true),after:=args }=some (.bool (true == true)) from w_eq_bool (w_res rfl) w_lit) rfl
theorem attach_call {l:OpenLaw} {n:Nat} {q:Program} {loose:List Str} {XP:(Str→Option Value)→Heap→Prop} {YP:World→Heap→Prop} {d:DefRec}
    (hn:l.most=some n) (hdf:d.params.defaults=[])
    (call:∀ (w:World) (s₀ s₁:Shared) (mg mb:Str→Option Value) (fa:Addr) (o:Obj) (pm cd doc:Value) (a:Addr) (vs:List Value) (ns:List Int),
      Ground q loose [] XP w s₀ mg mb s₁.heap→YP w s₁.heap →
      s₁.heap.get? fa=some o→o.data=.func (docDef d.name d.params d.body d.scope pm cd doc)→s₁.heap.CodeRec cd d.name→mg d.name=some (.ref fa) →
      s₁.heap.get? a=some { cls:=.type "list",data:=.seq vs.toArray }→IntsAre vs ns→ns.length≤n→s₁.gens=#[] →
      codeAny (model l.prog w) callerA (.call (.ref fa) ⟨[.ref a],[]⟩) (fun r s'=>r=.ok (.ret (.bool true))∧OldK s₁.heap s'.heap∧s'.os=s₁.os∧AllBare s'.gens) s₁) :
    WalkO q loose XP YP l.row.toRowW d [] (fun f vs=>PySem.call f vs):=by
  intro w s₀ s₁ mg mb G Y fa o pm cd doc dV kV ho hd hcd hD hmg hg args vals as hpre hlay hrd hwl hlo
  obtain rfl:dV=.none:=Dflts.none hD hdf
  obtain rfl:kV=.none:=Dflts.noKw hD
  obtain ⟨a,vs,ns,rfl,rfl,hobj,hints,hlen⟩:=script_of hn hpre hwl
  refine enter_call (codeAny_mono (call w s₀ s₁ mg mb fa o pm cd doc a vs ns G Y ho (fd_plain hd) hcd hmg hobj hints hlen hg) fun r s' hq=>?_)
  obtain ⟨rfl,h2,h3,h4⟩:=hq
  exact ⟨.inl ⟨.bool true,.bool true,[],rfl,fun _=>rfl,.bool true,post_true l _,fun _=>⟨List.Pairwise.nil,fun _ hm=>(nomatch hm)⟩⟩,h2,h3,h4⟩
section
variable {prog:Program} {w:World} {A:Around} {E:Value→Shared→Prop} {s:Shared} {K:Frag}
end
end Att
namespace L2
open PySem PySem.Spec PyProof.Rows
theorem vals_ints:∀ {vs:List Value} {ns:List Int},IntsAre vs ns→Vals (ns.map V.int) vs
  | _,_,.nil=>.nil
  | _,_,.cons n t h=>.cons ⟨t,rfl⟩ (vals_ints h)
end L2
namespace L2
open PySem PySem.Spec PyProof.Rows
end L2
namespace L2
open PySem PySem.Spec PyProof.Rows
noncomputable def defArgs (s:Stmt):Arguments:=match s with
  | .FunctionDef _ a _ _ _ _ _ _ _ _=>a
  | _=>{ posonlyargs:=[],args:=[],vararg:=none,kwonlyargs:=[],kw_defaults:=[],kwarg:=none,defaults:=[] }
noncomputable def defBody (s:Stmt):List Stmt:=match s with
  | .FunctionDef _ _ b _ _ _ _ _ _ _=>b
  | _=>[]
noncomputable def defScope (s:Stmt):Scope:=match s with
  | .FunctionDef _ _ _ _ _ _ sc _ _ _=>sc
  | _=>{ kind:=.function,names:=[],isGenerator:=false,isCoroutine:=false }
noncomputable abbrev CX0:CXT:=fun _ _ _ _ _ _=>False
noncomputable abbrev E0:XK:=fun _ _ _=>False
theorem pass0 {X:Cx}:Passes CX0 X E0:=fun _ _ _ _ _ _ _ h=>h.elim
structure Fun (K:PySem.W.Frag) (x qual:Str) (st:Stmt) (f:Addr) (fd:FuncData):Prop where
  ex:∃ (oc:Value) (od:Option Addr) (kV doc pm:Value) (an:Option Addr) (cdv ct:Value) (osl:Array (Option Value)),
    fd=PySem.W.fnOf x qual (defArgs st) (defBody st) (defScope st) .none kV doc pm an cdv ct∧K.lookup f=some ⟨oc,od,.func fd,osl⟩∧PySem.W.codeIn K cdv qual=true
  kp:PySem.W.keepIn K (.ref f)=true
section
variable {P:Program} {w:World} {K:PySem.W.Frag} {mg:Str→Option Value} {base:Heap}
theorem Fun.ok {x qual:Str} {st:Stmt} {f:Addr} {fd:FuncData} {N ps:List Str} {k:Nat} {sp:Sp} (F:Fun K x qual st f fd) (S:FnScope N ps (defScope st)) (len:∀ vs H Q E,sp vs H Q E→vs.length=ps.length)
    (hbody:∀ (cdv:Value) (A:Around) (outer:List Env) (s:Shared) (H:Hp) (vs:List V) (Q:VK) (E:XK),Room k (A.deeper (envOfC qual (defScope st) s.heap.objs.size f cdv))→sp vs H Q E →
      ∃ t,PSs (cxOf CX0 P w K mg base N qual (defScope st) f cdv A outer s H E).nox (defBody st) t∧t { nx:=fun _ H'=>Q .non H',rt:=Q } (start N vs) H):FnOk P w K mg base CX0 (k + 1) f fd ps sp:=by
  obtain ⟨oc,od,kV,doc,pm,an,cdv,ct,osl,rfl,lk,hcd⟩:=F.ex
  refine fn_of lk hcd S len fun A outer s H vs Q E hr hsp=>?_
  obtain ⟨t,h,q⟩:=hbody cdv A outer s H vs Q E hr hsp
  exact ⟨t,h.nox,q⟩
theorem Fun.binds {x qual:Str} {st:Stmt} {f:Addr} {fd:FuncData} {ps:List Str} (F:Fun K x qual st f fd)
    (h:∀ (kV doc pm:Value) (an:Option Addr) (cdv ct:Value) (us:List Value),us.length=ps.length→bindArgs (PySem.W.fnOf x qual (defArgs st) (defBody st) (defScope st) .none kV doc pm an cdv ct) ⟨us,[]⟩=pure (ps.zip us)):Binds K fd ps []:=by
  obtain ⟨oc,od,kV,doc,pm,an,cdv,ct,osl,rfl,lk,hcd⟩:=F.ex
  exact .all (h kV doc pm an cdv ct)
theorem fun_mk {x qual:Str} {st:Stmt} {f:Addr} {oc:Value} {od an:Option Addr} {osl:Array (Option Value)} {kV doc pm cdv ct:Value} (l:K.lookup f=some ⟨oc,od,.func (PySem.W.fnOf x qual (defArgs st) (defBody st) (defScope st) .none kV doc pm an cdv ct),osl⟩)
    (c:PySem.W.codeIn K cdv qual=true) (k:PySem.W.keepIn K (.ref f)=true):Fun K x qual st f (PySem.W.fnOf x qual (defArgs st) (defBody st) (defScope st) .none kV doc pm an cdv ct):=⟨⟨oc,od,kV,doc,pm,an,cdv,ct,osl,rfl,l,c⟩,k⟩
end
section
variable {X:Cx}
theorem pv (i:Nat) {x:Str} {pos:Pos} (hN:X.N[i]? = some x:=by rfl) (hv:Vis X.env.scope x:=by first | exact Or.inl rfl | exact Or.inr (Or.inl rfl) | exact Or.inr (Or.inr rfl)) (hd:(x == ("__debug__":Str))=false:=by decide)
    (hcd:(x == ("__classdict__":Str))=false:=by decide):PE X (.Name x pos) (tVar i):=pe_var hN hv hd hcd
end
theorem iteF {A B:Prop} (h:B):if false=true then A else B:=by
  rw [if_neg Bool.false_ne_true]
  exact h
theorem iteT {A B:Prop} (h:A):if true=true then A else B:=by
  rw [if_pos rfl]
  exact h
end L2
namespace L2
open PySem PySem.Spec PyProof.Rows
noncomputable def compCx (X:Cx) (N':List Str) (scope:Scope) (cl:List (Str×Addr)) (C:Addr) (s₀:Shared) (H₀:Hp) (ex:List Addr) (pn:List (Addr×Obj)):Cx where
  prog:=X.prog
  w:=X.w
  K:=X.K
  mg:=X.mg
  base:=X.base
  A:=X.A
  N:=N'
  s₀:=s₀
  H₀:=H₀
  env:=compEnvC scope cl C X.env
  outer:=X.stack
  stack:=X.stack
  ex:=ex
  fn:=fun x=>scope.names.lookup x == some NameKind.cell
  calm:=X.calm
  pn:=pn
  xe:=fun _ _=>False
structure CompScope (X:Cx) (N':List Str) (pick:List (Option Nat)) (scope:Scope):Prop where
  kind:scope.kind=.function
  nd:N'.Nodup
  names:∀ x∈scope.names,x.2=.local→scope.names.lookup x.1=some .local
  uniq:(scope.names.map (·.1)).Nodup
  len:pick.length=N'.length
  got:∀ (i j:Nat) (x:Str),pick[i]? = some (some j)→N'[i]? = some x→scope.names.lookup x=some .free∧X.N[j]? = some x
  free:∀ x∈scope.names,x.2=.free→X.env.kindOf x.1=some .cell∨X.env.kindOf x.1=some .free
noncomputable def spick (pick:List (Option Nat)) (σ:St):St:=pick.map fun o=>o.bind fun j=>(σ[j]?).bind id
noncomputable def PIfs (X:Cx) (ifs:List Expr) (t:TT):Prop :=
  ∀ (pins:List (Addr×Obj)) (s:Shared) (σ:St) (H:Hp) (Q:Bool→Hp→Prop),Inv X pins σ H s→t σ H Q →
    wpAny (model X.prog X.w) X.A (forIn ifs true fun c r=>if r=true then do let ok ← isTrue c X.env (eval c X.env); pure (ForInStep.yield ok) else pure (ForInStep.yield r)) (TP X pins σ Q) X.xe s
noncomputable def tYes:TT:=fun _ H Q=>Q true H
theorem pifs_nil {X:Cx}:PIfs X [] tYes:=fun pins s σ H Q I h=>wpAny_tests_nil ⟨H,I,h⟩
noncomputable def CompW (J:It) (g:TG) (tt:TT) (te:TE) (Q:VK) (σ:St) (H:Hp):Prop:=∃ W:Nat→Nat→St→List V→Hp→Prop,(∃ m,W 0 m σ [] H) ∧
  ∀ i m σ' ys H,W i m σ' ys H→ys.length < sizeLine ∧
    ((J.stop i H∧∀ p,H p=none→Q (.ref p) (upd H p (.lst ys))) ∨
     (J.go i H∧∃ N:St→List V→Hp→Prop,(∀ σ2 zs H2,N σ2 zs H2→∃ m',m' < m∧W (i + 1) m' σ2 zs H2)∧∀ x H',J.yld i H x H'→g x σ' H' fun σ2 H2=>tt σ2 H2 fun b H3 =>
        if b=true then te σ2 H3 fun y H4=>N σ2 (ys ++ [y]) H4 else N σ2 ys H3))
noncomputable def tComp (wi:TI) (pick:List (Option Nat)) (g:TG) (tt:TT) (te:TE):TE:=fun σ H Q=>wi σ H fun J H1=>CompW J g tt te Q (spick pick σ) H1
noncomputable def addFree (env:Env):List (Str×NameKind)→List (Str×Addr)→List (Str×Addr)
  | [],acc=>acc
  | (n,k) :: r,acc=>addFree env r (if (k == NameKind.free)=true then (n,(env.cells.lookup n).getD 0) :: acc else acc)
theorem addFree_eq {env:Env}:∀ (names:List (Str×NameKind)) (acc:List (Str×Addr)),(∀ x∈names,x.2=.free→∃ c,env.cells.lookup x.1=some c) →
    (forIn names acc fun (x:Str×NameKind) cs=>(if (x.2 == NameKind.free)=true then do let a ← cellOf env x.1; pure (ForInStep.yield ((x.1,a) :: cs)) else pure (ForInStep.yield cs):Sem (ForInStep (List (Str×Addr)))))=pure (addFree env names acc)
  | [],acc,_=>rfl
  | (n,k) :: r,acc,h=>by
    rw [List.forIn_cons]
    by_cases hk:(k == NameKind.free)=true
    · obtain ⟨c,hc⟩:=h (n,k) List.mem_cons_self (by simpa using hk)
      have e1:cellOf env n=pure c:=by unfold cellOf; rw [show env.cells.lookup n=some c from hc]
      simp only [hk,if_true,e1,pure_bind]
      rw [addFree_eq r _ fun x hx=>h x (List.mem_cons_of_mem _ hx)]
      show _=pure (addFree env r (if (k == NameKind.free)=true then _ else _))
      rw [if_pos hk,show env.cells.lookup n=some c from hc]
      rfl
    · simp only [hk,Bool.false_eq_true,if_false,pure_bind]
      rw [addFree_eq r _ fun x hx=>h x (List.mem_cons_of_mem _ hx)]
      show _=pure (addFree env r (if (k == NameKind.free)=true then _ else _))
      rw [if_neg hk]
theorem addFree_from {env:Env} {x:Str} {c:Addr}:∀ (names:List (Str×NameKind)) (acc:List (Str×Addr)),(addFree env names acc).lookup x=some c →
    ((x,NameKind.free)∈names∧c=(env.cells.lookup x).getD 0)∨acc.lookup x=some c
  | [],acc,h=>.inr h
  | (n,k) :: r,acc,h=>by
    unfold addFree at h
    rcases addFree_from r _ h with ⟨a,b⟩ | q
    · exact .inl ⟨List.mem_cons_of_mem _ a,b⟩
    · by_cases hk:(k == NameKind.free)=true
      · rw [if_pos hk,List.lookup_cons] at q
        cases hx:x == n with
        | true =>
          rw [hx] at q
          have e1:x=n:=by simpa using hx
          have e2:k=.free:=by simpa using hk
          subst e1; subst e2
          exact .inl ⟨List.mem_cons_self,(Option.some.inj q).symm⟩
        | false=>rw [hx] at q; exact .inr q
      · rw [if_neg hk] at q; exact .inr q
theorem addFree_acc {env:Env} {x:Str}:∀ (names:List (Str×NameKind)) (acc:List (Str×Addr)),(acc.lookup x).isSome=true∨(x,NameKind.free)∈names→((addFree env names acc).lookup x).isSome=true
  | [],acc,h=>h.elim id fun z=>by cases z
  | (n,k) :: r,acc,h=>by
    unfold addFree
    refine addFree_acc r _ ?_
    by_cases hk:(k == NameKind.free)=true
    · rw [if_pos hk,List.lookup_cons]
      cases hx:x == n with
      | true=>exact .inl rfl
      | false =>
        refine h.imp id fun z=>?_
        rcases List.mem_cons.mp z with e | z
        · exact absurd (show (x == n)=true by cases e; simp) (by rw [hx]; simp)
        · exact z
    · rw [if_neg hk]
      refine h.imp id fun z=>?_
      rcases List.mem_cons.mp z with e | z
      · exact absurd (show (k == NameKind.free)=true by cases e; rfl) hk
      · exact z
theorem cf_from {x:Str} {c:Addr}:∀ (names:List (Str×NameKind)) (n:Nat) (acc:List (Str×Addr)),(cellsFrom n names acc).lookup x=some c→(n≤c∧(x,NameKind.cell)∈names)∨acc.lookup x=some c
  | [],_,_,h=>.inr h
  | (y,k) :: r,n,acc,h=>by
    unfold cellsFrom at h
    by_cases hk:(k == NameKind.cell)=true
    · rw [if_pos hk] at h
      rcases cf_from r _ _ h with ⟨a,b⟩ | q
      · exact .inl ⟨Nat.le_trans (Nat.le_succ _) a,List.mem_cons_of_mem _ b⟩
      · rw [List.lookup_cons] at q
        cases hx:x == y with
        | true =>
          rw [hx] at q
          have e1:x=y:=by simpa using hx
          have e2:k=.cell:=by simpa using hk
          subst e1; subst e2
          exact .inl ⟨Nat.le_of_eq (Option.some.inj q),List.mem_cons_self⟩
        | false=>rw [hx] at q; exact .inr q
    · rw [if_neg hk] at h
      rcases cf_from r _ _ h with ⟨a,b⟩ | q
      · exact .inl ⟨a,List.mem_cons_of_mem _ b⟩
      · exact .inr q
theorem cf_inj:∀ (names:List (Str×NameKind)) (n:Nat) (acc:List (Str×Addr)),(∀ x y c,acc.lookup x=some c→acc.lookup y=some c→x=y)→(∀ x c,acc.lookup x=some c→c < n) →
    ∀ x y c,(cellsFrom n names acc).lookup x=some c→(cellsFrom n names acc).lookup y=some c→x=y
  | [],_,_,hi,_,x,y,c,h1,h2=>hi x y c h1 h2
  | (z,k) :: r,n,acc,hi,hl,x,y,c,h1,h2=>by
    unfold cellsFrom at h1 h2
    by_cases hk:(k == NameKind.cell)=true
    · rw [if_pos hk] at h1 h2
      refine cf_inj r (n + 1) ((z,n) :: acc) (fun x y c e1 e2=>?_) (fun x c e=>?_) x y c h1 h2
      · rw [List.lookup_cons] at e1 e2
        cases hx:x == z with
        | true =>
          rw [hx] at e1
          cases hy:y == z with
          | true=>exact (by simpa using hx:x=z).trans (by simpa using hy:y=z).symm
          | false =>
            rw [hy] at e2
            have e3:n=c:=Option.some.inj e1
            exact absurd (e3 ▸ hl y c e2) (Nat.lt_irrefl _)
        | false =>
          rw [hx] at e1
          cases hy:y == z with
          | true =>
            rw [hy] at e2
            have e3:n=c:=Option.some.inj e2
            exact absurd (e3 ▸ hl x c e1) (Nat.lt_irrefl _)
          | false=>rw [hy] at e2; exact hi x y c e1 e2
      · rw [List.lookup_cons] at e
        cases hx:x == z with
        | true=>rw [hx] at e; have e3:n=c:=Option.some.inj e; exact e3 ▸ Nat.lt_succ_self n
        | false=>rw [hx] at e; exact Nat.lt_succ_of_lt (hl x c e)
    · rw [if_neg hk] at h1 h2
      exact cf_inj r n acc hi hl x y c h1 h2
theorem cf_cell {x:Str} {c:Addr}:∀ (names:List (Str×NameKind)) (h:Heap) (acc:List (Str×Addr)),(cellsFrom h.objs.size names acc).lookup x=some c→acc.lookup x=some c∨(h.objs.size≤c∧(pushCells h names).IsCell c none)
  | [],_,_,e=>.inl e
  | (y,k) :: r,h,acc,e=>by
    unfold cellsFrom at e
    unfold pushCells
    by_cases hk:(k == NameKind.cell)=true
    · rw [if_pos hk] at e ⊢
      have e':=e
      rw [show h.objs.size + 1=(h.push { cls:=.type "cell",data:=.cell none }).objs.size from (Heap.size_push ..).symm] at e'
      rcases cf_cell r _ _ e' with q | ⟨a,q⟩
      · rw [List.lookup_cons] at q
        cases hx:x == y with
        | true =>
          rw [hx] at q
          have e3:h.objs.size=c:=Option.some.inj q
          subst e3
          exact .inr ⟨Nat.le_refl _,_,pushCells_keeps _ _ _ _ (Heap.get?_push_size _ rfl),rfl⟩
        | false=>rw [hx] at q; exact .inl q
      · refine .inr ⟨?_,q⟩
        rw [Heap.size_push] at a
        omega
    · rw [if_neg hk] at e ⊢
      exact cf_cell r h acc e
theorem wpAny_newBlock {M:Model} {A:Around} {E:Value→Shared→Prop} {s:Shared} {scope:Scope} {globals:Addr} {cl:List (Str×Addr)} {qual:Str} {env:Env} {Q:Env→Shared→Prop}
    (hQ:∀ h',(∀ b o,s.heap.get? b=some o→h'.get? b=some o)→h'.Ns s.heap.objs.size (fun _=>none) →
      (∀ x c,(cellsFrom (s.heap.objs.size + 1) scope.names cl).lookup x=some c→cl.lookup x=some c∨(s.heap.objs.size < c∧h'.IsCell c none)) →
      Q { scope,locals:=s.heap.objs.size,globals,cells:=cellsFrom (s.heap.objs.size + 1) scope.names cl,qual,func:=none,code:=env.code,frame:=env.frame,builtins:=env.builtins } { s with heap:=h' }) :
    wpAny M A (newFunctionEnv scope globals cl [] qual none .none (some env)) Q E s:=by
  simp only [newFunctionEnv,Option.isSome_some,if_true]
  refine wpAny_bind (wpAny_alloc ?_)
  refine wpAny_bind (wpAny_layCells _ (fun name kind cells=>by cases hkc:kind == NameKind.cell <;> simp [hkc]) _ _ _ _ ?_)
  rw [show ({ s with heap:=s.heap.push { cls:=.type "dict",data:=.dict #[] } }:Shared).heap.objs.size=s.heap.objs.size + 1 from Heap.size_push ..]
  refine wpAny_bind (wpAny_pure (wpAny_pure ?_))
  refine hQ _ (fun b o e=>pushCells_keeps _ _ b o (Heap.get?_push_of_some _ e)) ((Heap.Ns.new s.heap (.type "dict")).keeps (pushCells_keeps _ _)) fun x c e=>?_
  have e':=e
  rw [show s.heap.objs.size + 1=(s.heap.push { cls:=.type "dict",data:=.dict #[] }).objs.size from (Heap.size_push ..).symm] at e'
  rcases cf_cell scope.names (s.heap.push { cls:=.type "dict",data:=.dict #[] }) cl e' with q | ⟨a,q⟩
  · exact .inl q
  · refine .inr ⟨?_,q⟩
    rw [Heap.size_push] at a
    omega
end L2
namespace L2
open PySem PySem.Spec PyProof.Rows
theorem rl_from {env:Env} {x:Str} {k':NameKind}:∀ {names:List (Str×NameKind)},(names.map fun (n,k)=>if (k == NameKind.free && env.scope.kind == .function && env.kindOf n == some .cell) then (n,NameKind.cell) else (n,k)).lookup x=some k' →
  ∃ k,names.lookup x=some k∧(k'=k∨(k=.free∧k'=.cell))
 | [],h=>by cases h
 | (n,k) :: r,h=>by
  rw [List.map_cons] at h
  by_cases hc:(k == NameKind.free && env.scope.kind == .function && env.kindOf n == some .cell)=true
  ·have e:(match ((n,k):Str×NameKind) with | (n,k)=>if (k == NameKind.free && env.scope.kind == .function && env.kindOf n == some .cell) then (n,NameKind.cell) else (n,k))=(n,NameKind.cell):=if_pos hc
   rw [e,List.lookup_cons] at h
   rw [List.lookup_cons]
   cases hx:x == n with
   | true =>
    rw [hx] at h
    have hk:k=.free:=by
     simp only [Bool.and_eq_true] at hc
     simpa using hc.1.1
    exact ⟨k,rfl,.inr ⟨hk,(Option.some.inj h).symm⟩⟩
   | false=>rw [hx] at h; exact rl_from h
  ·have e:(match ((n,k):Str×NameKind) with | (n,k)=>if (k == NameKind.free && env.scope.kind == .function && env.kindOf n == some .cell) then (n,NameKind.cell) else (n,k))=(n,k):=if_neg hc
   rw [e,List.lookup_cons] at h
   rw [List.lookup_cons]
   cases hx:x == n with
   | true=>rw [hx] at h; exact ⟨k,rfl,.inl (Option.some.inj h).symm⟩
   | false=>rw [hx] at h; exact rl_from h
theorem rl_to {env:Env} {x:Str} {k:NameKind}:∀ {names:List (Str×NameKind)},names.lookup x=some k →
  ∃ k',(names.map fun (n,k)=>if (k == NameKind.free && env.scope.kind == .function && env.kindOf n == some .cell) then (n,NameKind.cell) else (n,k)).lookup x=some k'∧(k'=k∨(k=.free∧k'=.cell))
 | [],h=>by cases h
 | (n,j) :: r,h=>by
  rw [List.map_cons]
  rw [List.lookup_cons] at h
  by_cases hc:(j == NameKind.free && env.scope.kind == .function && env.kindOf n == some .cell)=true
  ·have e:(match ((n,j):Str×NameKind) with | (n,k)=>if (k == NameKind.free && env.scope.kind == .function && env.kindOf n == some .cell) then (n,NameKind.cell) else (n,k))=(n,NameKind.cell):=if_pos hc
   rw [e,List.lookup_cons]
   cases hx:x == n with
   | true =>
    rw [hx] at h
    have hk:j=.free:=by
     simp only [Bool.and_eq_true] at hc
     simpa using hc.1.1
    exact ⟨.cell,rfl,.inr ⟨(Option.some.inj h).symm.trans hk,rfl⟩⟩
   | false=>rw [hx] at h; exact rl_to h
  ·have e:(match ((n,j):Str×NameKind) with | (n,k)=>if (k == NameKind.free && env.scope.kind == .function && env.kindOf n == some .cell) then (n,NameKind.cell) else (n,k))=(n,j):=if_neg hc
   rw [e,List.lookup_cons]
   cases hx:x == n with
   | true=>rw [hx] at h; exact ⟨j,rfl,.inl (Option.some.inj h)⟩
   | false=>rw [hx] at h; exact rl_to h
theorem lookup_nodup {x:Str} {k:NameKind}:∀ {names:List (Str×NameKind)},(names.map (·.1)).Nodup→(x,k)∈names→names.lookup x=some k
 | [],_,h=>by cases h
 | (n,j) :: r,nd,h=>by
  have nd:(n :: r.map (·.1)).Nodup:=nd
  obtain ⟨n1,n2⟩:=List.nodup_cons.mp nd
  rw [List.lookup_cons]
  rcases List.mem_cons.mp h with e | h2
  ·cases e; simp
  ·have hx:(x == n)=false:=by
    have:x≠n:=by
     intro e
     exact n1 (List.mem_map.mpr ⟨(x,k),h2,e⟩)
    simpa using this
   rw [hx]; exact lookup_nodup n2 h2
theorem compLoop_gen {prog:Program} {w:World} {A:Around} {R:Result→Shared→Prop} {s:Shared} {elt target iter:Expr} {ifs:List Expr} {scope:Scope} {pos:Pos} {it acc:Value} {env:Env} (I:Nat→Shared→Prop)
  (turn:∀ n s,I n s→wpAny (model prog w) A (pyNext it) (fun r s₁=>match r with
   | none=>R (.ok .next) s₁
   | some v=>wpAny (model prog w) A (letOwnedTupleGo target it v) (fun _ s₁'=>wpAny (model prog w) A (assign target env v) (fun _ s₂ =>
     wpAny (model prog w) A (forIn ifs true fun c r=>if r=true then do let ok ← isTrue c env (eval c env); pure (ForInStep.yield ok) else pure (ForInStep.yield r)) (fun ok s₃ =>
      if ok=true then wpAny (model prog w) A (eval elt env) (fun x s₄ =>
       wpAny (model prog w) A (call (.builtin "list.append") [acc,x]) (fun _ s₅=>∃ m,m < n∧I m s₅) (fun _ _=>False) s₄) (fun _ _=>False) s₃
      else ∃ m,m < n∧I m s₃) (fun _ _=>False) s₂) (fun _ _=>False) s₁') (fun _ _=>False) s₁) (fun _ _=>False) s)
  (n:Nat) (h:I n s) :
  codeAny (model prog w) A (.compLoop (.ListComp elt [⟨target,iter,ifs,0⟩] scope pos) 0 it acc env) R s:=by
 refine codeAny_loop rfl I (fun n s hI=>?_) n h
 show wpAny _ A ((compTurn (.ListComp elt [⟨target,iter,ifs,0⟩] scope pos) 0 it acc env).onRaise (fun x=>do noteFrame x env; theTreesLotGoes x)) _ _ s
 refine wpAny_noted ?_
 rw [compTurn_list]
 refine wpAny_bind (wpAny_standAt (wpAny_bind (wpAny_mono (turn n s hI) (fun r s₁ h₁=>?_) fun _ _ h'=>h'.elim)))
 cases r with
 | none=>exact wpAny_pure h₁
 | some v =>
  refine wpAny_bind (wpAny_mono h₁ (fun _ s₁' h₁'=>?_) fun _ _ h'=>h'.elim)
  refine wpAny_bind (wpAny_mono h₁' (fun _ s₂ h₂=>wpAny_bind (wpAny_mono h₂ (fun ok s₃ h₃=>?_) fun _ _ h'=>h'.elim)) fun _ _ h'=>h'.elim)
  cases ok with
  | false=>exact wpAny_pure ⟨rfl,h₃⟩
  | true =>
   exact wpAny_bind (wpAny_bind (wpAny_mono h₃ (fun x s₄ h₄=>wpAny_bind (wpAny_mono h₄ (fun _ s₅ h₅=>wpAny_pure (wpAny_pure ⟨rfl,h₅⟩)) fun _ _ h'=>h'.elim)) fun _ _ h'=>h'.elim))
section
variable {X:Cx} {N':List Str} {pick:List (Option Nat)} {scope:Scope} {pins:List (Addr×Obj)} {σ:St} {H₂:Hp} {s₂:Shared} {tg:Expr} {J:It} {fp:List Addr} {it:Addr} {tn:Nat→Heap→Prop}
theorem clos_of (S:CompScope X N' pick scope) (I:Inv X pins σ H₂ s₂):closureFor scope X.env=pure (addFree X.env scope.names []):=by
 have e:=addFree_eq (env:=X.env) scope.names [] fun x hx hk=>I.ok.has x.1 (S.free x hx hk)
 show ((forIn scope.names ([]:List (Str×Addr)) fun (x:Str×NameKind) cs=>(if (x.2 == NameKind.free)=true then do let a ← cellOf X.env x.1; pure (ForInStep.yield ((x.1,a) :: cs)) else pure (ForInStep.yield cs):Sem (ForInStep (List (Str×Addr))))) >>= fun cs=>pure cs)=_
 rw [e,pure_bind]
theorem cap_of (S:CompScope X N' pick scope) (I:Inv X pins σ H₂ s₂) {x:Str} {c:Addr} (h:(addFree X.env scope.names []).lookup x=some c):(x,NameKind.free)∈scope.names∧X.env.cells.lookup x=some c:=by
 rcases addFree_from _ _ h with ⟨a,b⟩ | q
 ·refine ⟨a,?_⟩
  obtain ⟨c',hc⟩:=I.ok.has x (S.free _ a rfl)
  rw [hc] at b ⊢
  rw [b]; rfl
 ·cases q
theorem cells_of (S:CompScope X N' pick scope) (I:Inv X pins σ H₂ s₂) {n:Nat} {x:Str} {c:Addr} (h:(cellsFrom n scope.names (addFree X.env scope.names [])).lookup x=some c) :
  (n≤c∧scope.names.lookup x=some .cell)∨(scope.names.lookup x=some .free∧X.env.cells.lookup x=some c):=by
 rcases cf_from _ _ _ h with ⟨a,b⟩ | q
 ·exact .inl ⟨a,lookup_nodup S.uniq b⟩
 ·obtain ⟨a,b⟩:=cap_of S I q
  exact .inr ⟨lookup_nodup S.uniq a,b⟩
theorem cells_free (S:CompScope X N' pick scope) (I:Inv X pins σ H₂ s₂) {n:Nat} {x:Str} {c:Addr} (hx:scope.names.lookup x=some .free) (hc:X.env.cells.lookup x=some c) :
  (cellsFrom n scope.names (addFree X.env scope.names [])).lookup x=some c:=by
 have h1:((addFree X.env scope.names []).lookup x).isSome=true:=addFree_acc _ _ (.inr (PySem.mem_of_lookup hx))
 obtain ⟨c',h2⟩:=Option.isSome_iff_exists.mp (PySem.W.cellsFrom_some scope.names n _ (.inr h1))
 rcases cells_of S I h2 with ⟨_,z⟩ | ⟨_,z⟩
 ·rw [hx] at z; cases z
 ·rw [hc] at z; cases z; exact h2
theorem frs_old (I:Inv X pins σ H₂ s₂) {b:Addr} (hb:b∈frs X.stack):b < s₂.heap.objs.size:=by
 rcases List.mem_cons.mp (I.stkSub b hb) with e | hb
 ·rw [e]; exact I.lt
 ·by_cases q:b < s₂.heap.objs.size
  ·exact q
  ·exact absurd hb (I.nofs (Nat.not_lt.mp q))
theorem comp_start (S:CompScope X N' pick scope) (I:Inv X pins σ H₂ s₂) (hf:∀ b∈fp,FpOk X pins H₂ b) (hfo:∀ b∈fp,b < s₂.heap.objs.size) {n:Nat} {C:Addr} {s₄:Shared} (hn:s₂.heap.objs.size≤n) (hC:s₂.heap.objs.size≤C) (hCn:C < n)
  (hos:s₄.os=s₂.os) (hge:s₄.gens=s₂.gens) (kp:∀ b o,s₂.heap.get? b=some o→s₄.heap.get? b=some o) (ns:s₄.heap.Ns C fun _=>none)
  (ce:∀ x c,(cellsFrom n scope.names (addFree X.env scope.names [])).lookup x=some c→(addFree X.env scope.names []).lookup x=some c∨(n≤c∧s₄.heap.IsCell c none)) :
  Inv (compCx X N' scope (cellsFrom n scope.names (addFree X.env scope.names [])) C s₂ H₂ fp (X.pn ++ pins)) [] (spick pick σ) H₂ s₄:=by
 have fr:∀ {a:Addr},s₂.heap.objs.size≤a→H₂ a=none:=fun h=>I.hok.fresh h
 have old:∀ {x:Str} {c:Addr},X.env.cells.lookup x=some c→c < s₂.heap.objs.size:=fun {x c} e=>let ⟨v,z⟩:=I.cell x c e; z.lt
 have pold:∀ p∈X.pn ++ pins,p.1 < s₂.heap.objs.size:=fun p hp=>Heap.lt_size (I.pin p hp).1
 refine ⟨⟨I.ok.mod,S.kind,I.ok.glob,I.ok.blt,hC,?inj,?has,?cab,I.ok.hd,I.ok.frames,.inl rfl,?exf,I.bs,Nat.le_trans I.ok.bsz I.sz,?noex,?exfs,I.stack,I.stkFree⟩,
  hos,by rw [hge]; exact I.bare,Un.kept kp,⟨_,ns,?loc⟩,?cell,fr hC,?freeC,?pin,I.hok.kept kp,?len⟩
 case inj =>
  refine cf_inj _ _ _ (fun x y c h1 h2=>?_) fun x c h=>?_
  ·exact I.ok.inj x y c (cap_of S I h1).2 (cap_of S I h2).2
  ·exact Nat.lt_of_lt_of_le (old (cap_of S I h).2) hn
 case has =>
  intro x hx
  have hx:(relabel scope X.env).names.lookup x=some .cell∨(relabel scope X.env).names.lookup x=some .free:=hx
  have go:∀ k,scope.names.lookup x=some k→k=.cell∨k=.free→∃ c,(cellsFrom n scope.names (addFree X.env scope.names [])).lookup x=some c:=fun k hk hq=>by
   rcases hq with rfl | rfl
   ·exact Option.isSome_iff_exists.mp (PySem.W.cellsFrom_some _ _ _ (.inl hk))
   ·obtain ⟨c,hc⟩:=I.ok.has x (S.free _ (PySem.mem_of_lookup hk) rfl)
    exact ⟨c,cells_free S I hk hc⟩
  rcases hx with hx | hx
  ·obtain ⟨k,hk,e | ⟨e,_⟩⟩:=rl_from hx
   ·exact go k hk (.inl e.symm)
   ·exact go k hk (.inr e)
  ·obtain ⟨k,hk,e | ⟨_,e⟩⟩:=rl_from hx
   ·exact go k hk (.inr e.symm)
   ·cases e
 case cab =>
  intro x c hx hc
  have hx:scope.names.lookup x=some .cell:=by simpa [compCx] using hx
  rcases cells_of S I hc with ⟨a,_⟩ | ⟨a,_⟩
  ·exact Nat.le_trans hn a
  ·rw [hx] at a; cases a
 case exf =>
  intro b hb
  refine ⟨Nat.ne_of_lt (Nat.lt_of_lt_of_le (hfo b hb) hC),fun x c hc=>?_⟩
  rcases cells_of S I hc with ⟨a,_⟩ | ⟨_,a⟩
  ·exact Nat.ne_of_gt (Nat.lt_of_lt_of_le (hfo b hb) (Nat.le_trans hn a))
  ·exact (hf b hb).2.2.2.2.1 x c a
 case noex =>
  intro b o e hb
  rcases (hf b hb).2.2.2.1 with z | z
  ·exact I.ok.noex b o e z
  ·exact absurd (Nat.lt_of_lt_of_le (Heap.lt_size e) (Nat.le_trans I.ok.bsz z)) (Nat.lt_irrefl _)
 case exfs =>
  intro b hb hs
  rcases List.mem_cons.mp (I.stkSub b hs) with e | e
  ·exact (hf b hb).2.1 e
  ·exact (hf b hb).2.2.1 e
 case loc =>
  intro i x v h1 h2 h3
  have h1:N'[i]? = some x:=h1
  have hp:∃ j,pick[i]? = some (some j)∧σ[j]? = some (some v):=by
   unfold spick at h2
   rw [List.getElem?_map] at h2
   cases e:pick[i]? with
   | none=>rw [e] at h2; cases h2
   | some o =>
    rw [e] at h2
    cases o with
    | none=>cases h2
    | some j =>
     refine ⟨j,rfl,?_⟩
     have h2':(σ[j]?).bind id=some v:=Option.some.inj h2
     cases e2:σ[j]? with
     | none=>rw [e2] at h2'; cases h2'
     | some q=>rw [e2] at h2'; exact congrArg some h2'
  obtain ⟨j,hj,hv⟩:=hp
  obtain ⟨hfr,hN⟩:=S.got i j x hj h1
  have hk:=S.free _ (PySem.mem_of_lookup hfr) rfl
  obtain ⟨m,hm,hl⟩:=I.loc
  obtain ⟨u,ru,lk⟩:=hl j x v hN hv (.inr hk)
  refine ⟨u,ru,?_⟩
  rcases lk with ⟨z,_⟩ | ⟨_,c,hc,hcell⟩
  ·rcases hk with q | q <;> (rw [show X.env.kindOf x=_ from z] at q; cases q)
  ·refine .inr ⟨?_,c,cells_free S I hfr hc,hcell.keeps kp⟩
   show (relabel scope X.env).names.lookup x=some .cell∨(relabel scope X.env).names.lookup x=some .free
   obtain ⟨k',hk',e | ⟨_,e⟩⟩:=rl_to (env:=X.env) hfr
   ·exact .inr (by rw [← e]; exact hk')
   ·exact .inl (by rw [← e]; exact hk')
 case cell =>
  intro x c hc
  rcases ce x c hc with z | ⟨_,z⟩
  ·obtain ⟨v,q⟩:=I.cell x c (cap_of S I z).2
   exact ⟨v,q.keeps kp⟩
  ·exact ⟨none,z⟩
 case freeC =>
  intro x c hc
  rcases cells_of S I hc with ⟨a,_⟩ | ⟨_,a⟩
  ·exact fr (Nat.le_trans hn a)
  ·exact I.freeC x c a
 case pin =>
  intro p hp
  have hp:p∈X.pn ++ pins:=by simpa [compCx] using hp
  obtain ⟨e,n0,ne,nf,d⟩:=I.pin p hp
  refine ⟨kp _ _ e,n0,Nat.ne_of_lt (Nat.lt_of_lt_of_le (pold p hp) hC),fun z=>?_,d⟩
  rcases List.mem_cons.mp (I.stkSub _ z) with e | e
  ·exact ne e
  ·exact nf e
 case len =>
  unfold spick
  rw [List.length_map]
  exact S.len
end
end L2
namespace L2
open PySem PySem.Spec PyProof.Rows
section
variable {X:Cx} {N':List Str} {pick:List (Option Nat)} {scope:Scope} {pins:List (Addr×Obj)} {σ:St} {H₂:Hp} {s₂:Shared} {tg:Expr} {J:It} {fp:List Addr} {it:Addr} {tn:Nat→Heap→Prop}
  {elt iter:Expr} {ifs:List Expr} {pos:Pos} {g:TG} {tt:TT} {te:TE}
theorem comp_block {E:Value→Shared→Prop} {RR:Value→Addr→Result→Shared→Prop} {Qv:V→Hp→Prop} (S:CompScope X N' pick scope) (hc:X.calm=true) (I₂:Inv X pins σ H₂ s₂) (T:Turn X.prog X.w X.K tg J fp it tn) (st:tn 0 s₂.heap) (hf:∀ b∈fp,FpOk X pins H₂ b)
    (hg:∀ cl C s₀ H₀ ex pn,PG (compCx X N' scope cl C s₀ H₀ ex pn) tg g) (hi:∀ cl C s₀ H₀ ex pn,PIfs (compCx X N' scope cl C s₀ H₀ ex pn) ifs tt) (he:∀ cl C s₀ H₀ ex pn,PE (compCx X N' scope cl C s₀ H₀ ex pn) elt te)
    {W:Nat→Nat→St→List V→Hp→Prop} {m0:Nat} (h0:W 0 m0 (spick pick σ) [] H₂)
    (turn:∀ i m σ' ys H,W i m σ' ys H→ys.length < sizeLine ∧
      ((J.stop i H∧∀ p,H p=none→Qv (.ref p) (upd H p (.lst ys))) ∨
       (J.go i H∧∃ N:St→List V→Hp→Prop,(∀ σ2 zs H2,N σ2 zs H2→∃ m',m' < m∧W (i + 1) m' σ2 zs H2)∧∀ x H',J.yld i H x H'→g x σ' H' fun σ2 H2=>tt σ2 H2 fun b H3 =>
          if b=true then te σ2 H3 fun y H4=>N σ2 (ys ++ [y]) H4 else N σ2 ys H3)))
    (fin:∀ (D C:Addr) (H':Hp) (s':Shared) (m:Str→Option Value),Inv X pins σ H' s'→FpOk X pins H' C→s'.heap.Ns C m→Qv (.ref D) H'→RR (.ref D) C (.ok .next) s') :
    wpAny (model X.prog X.w) X.A (newList []) (fun acc s₃=>wpAny (model X.prog X.w) X.A (newFunctionEnv scope X.env.globals (addFree X.env scope.names []) [] X.env.qual none .none (some X.env)) (fun cenv s₄ =>
      codeAny (model X.prog X.w) X.A (.compStart (.ListComp elt [⟨tg,iter,ifs,0⟩] scope pos) 0 (.ref it) acc { cenv with scope:=relabel scope X.env }) (RR acc cenv.locals) s₄) E s₃) E s₂:=by
  have hfo:∀ b∈fp,b < s₂.heap.objs.size:=fun b hb=>let ⟨o,e,_⟩:=T.obj 0 _ st b hb; Heap.lt_size e
  refine wpAny_newObj_type (wpAny_newBlock fun h₄ kp ns ce=>?_)
  generalize hH3:s₂.heap.push { cls:=.type "list",dict:=none,data:=.seq ([]:List Value).toArray }=H3 at kp ns ce ⊢
  have hC:H3.objs.size=s₂.heap.objs.size + 1:=by rw [← hH3,Heap.size_push]
  have kp2:∀ b o,s₂.heap.get? b=some o→h₄.get? b=some o:=fun b o e=>kp b o (hH3 ▸ Heap.get?_push_of_some _ e)
  have hD:h₄.get? s₂.heap.objs.size=some { cls:=.type "list",data:=.seq ([]:List Value).toArray }:=kp _ _ (hH3 ▸ Heap.get?_push_size _ rfl)
  have hCle:s₂.heap.objs.size≤H3.objs.size:=by rw [hC]; exact Nat.le_succ _
  have hDC:s₂.heap.objs.size≠H3.objs.size:=by rw [hC]; exact Nat.ne_of_lt (Nat.lt_succ_self _)
  -- names for the block
  generalize hcl:cellsFrom (H3.objs.size + 1) scope.names (addFree X.env scope.names [])=cl at ce
  have I₄:Inv (compCx X N' scope cl H3.objs.size s₂ H₂ fp (X.pn ++ pins)) [] (spick pick σ) H₂ { s₂ with heap:=h₄ }:=by
    subst hcl
    exact comp_start S I₂ hf hfo (n:=H3.objs.size + 1) (Nat.le_trans hCle (Nat.le_succ _)) hCle (Nat.lt_succ_self _) rfl rfl kp2 ns fun x c e=>ce x c e
  have hcells:∀ x c,cl.lookup x=some c→c≠s₂.heap.objs.size:=fun x c e=>by
    subst hcl
    rcases cells_of S I₂ e with ⟨a,_⟩ | ⟨_,a⟩
    · refine Nat.ne_of_gt (Nat.lt_of_lt_of_le ?_ a)
      rw [hC]
      exact Nat.lt_succ_of_lt (Nat.lt_succ_self _)
    · obtain ⟨v,z⟩:=I₂.cell x c a
      exact Nat.ne_of_lt z.lt
  have hcellsC:∀ x c,X.env.cells.lookup x=some c→c≠H3.objs.size:=fun x c e=>by
    obtain ⟨v,z⟩:=I₂.cell x c e
    exact Nat.ne_of_lt (Nat.lt_of_lt_of_le z.lt hCle)
  generalize hX':compCx X N' scope cl H3.objs.size s₂ H₂ fp (X.pn ++ pins)=X' at I₄
  have xprog:X'.prog=X.prog:=by subst hX'; rfl
  have xw:X'.w=X.w:=by subst hX'; rfl
  have xK:X'.K=X.K:=by subst hX'; rfl
  have xA:X'.A=X.A:=by subst hX'; rfl
  have xcalm:X'.calm=true:=by subst hX'; exact hc
  have xloc:X'.env.locals=H3.objs.size:=by subst hX'; rfl
  have xcells:X'.env.cells=cl:=by subst hX'; rfl
  have xenv:X'.env=compEnvC scope cl H3.objs.size X.env:=by subst hX'; rfl
  have xfs:X'.fs=frs X.stack:=by subst hX'; rfl
  have xex:X'.ex=fp:=by subst hX'; rfl
  have xs0:X'.s₀=s₂:=by subst hX'; rfl
  have xpn:X'.pn=X.pn ++ pins:=by subst hX'; rfl
  have xxe:X'.xe=fun _ _=>False:=by subst hX'; rfl
  have xH0:X'.H₀=H₂:=by subst hX'; rfl
  have hg':PG X' tg g:=by subst hX'; exact hg _ _ _ _ _ _
  have hi':PIfs X' ifs tt:=by subst hX'; exact hi _ _ _ _ _ _
  have he':PE X' elt te:=by subst hX'; exact he _ _ _ _ _ _
  -- the records of the iterator,within the block
  have stat:∀ {H':Hp} {pl:List (Addr×Obj)},(∀ b∈fp,H' b=none)→(∀ p∈pl,s₂.heap.objs.size≤p.1)→∀ b∈fp,FpOk X' pl H' b:=fun {H' pl} hn hp b hb=>by
    have hlt:=hfo b hb
    obtain ⟨_,f1,f2,f3,f4,f5⟩:=hf b hb
    refine ⟨hn b hb,by rw [xloc]; exact Nat.ne_of_lt (Nat.lt_of_lt_of_le hlt hCle),?_,.inl (by rw [xex]; exact hb),fun x c e=>?_,fun p hp'=>?_⟩
    · rw [xfs]
      intro z
      rcases List.mem_cons.mp (I₂.stkSub b z) with e | e
      · exact f1 e
      · exact f2 e
    · have:=I₄.ok.exf b (by rw [xex]; exact hb)
      exact this.2 x c e
    · rcases List.mem_append.mp hp' with z | z
      · rw [xpn] at z; exact f5 p z
      · exact Nat.ne_of_gt (Nat.lt_of_lt_of_le hlt (hp p z))
  -- the list's pin
  have pinD:∀ {H':Hp} {s':Shared} {σ':St} {o:Obj},Inv X' [] σ' H' s'→s'.heap.get? s₂.heap.objs.size=some o→H' s₂.heap.objs.size=none→(∀ v,o.data≠.cell v)→Inv X' [(s₂.heap.objs.size,o)] σ' H' s':=fun {H' s' σ' o} I e hn hnc =>
    I.pins_of fun p hp=>by
      obtain rfl:p=(s₂.heap.objs.size,o):=by simpa using hp
      refine ⟨e,hn,by rw [xloc]; exact hDC,?_,hnc⟩
      rw [xfs]
      intro z
      exact absurd (frs_old I₂ z) (Nat.lt_irrefl _)
  have HD0:H₂ s₂.heap.objs.size=none:=I₂.hok.fresh (Nat.le_refl _)
  -- the invariant
  let Iv:Nat→Shared→Prop:=fun n s'=>∃ (i:Nat) (σ':St) (ys:List V) (H':Hp) (its:List Value) (k:Nat),Inv X' [(s₂.heap.objs.size,{ cls:=.type "list",data:=.seq its.toArray k })] σ' H' s'∧Vals ys its∧tn i s'.heap∧(∀ b∈fp,H' b=none)∧W i n σ' ys H'
  have loop:codeAny (model X.prog X.w) X.A (.compLoop (.ListComp elt [⟨tg,iter,ifs,0⟩] scope pos) 0 (.ref it) (.ref s₂.heap.objs.size) X'.env) (RR (.ref s₂.heap.objs.size) H3.objs.size) { s₂ with heap:=h₄ }:=by
    refine compLoop_gen Iv ?_ m0 ⟨0,_,[],H₂,[],_,pinD I₄ hD HD0 (fun v q=>nomatch q),.nil,T.keep _ _ _ st fun b _ o e=>kp2 b o e,fun b hb=>(hf b hb).1,h0⟩
    rintro n s5 ⟨i,σ5,ys,H5,its,k,I5,rv,st5,fr5,w5⟩
    obtain ⟨hlen,tr⟩:=turn i n σ5 ys H5 w5
    have p5:∀ {o:Obj},∀ p∈[(s₂.heap.objs.size,o)],s₂.heap.objs.size≤p.1:=fun {o} p hp=>by
      obtain rfl:p=(s₂.heap.objs.size,o):=by simpa using hp
      exact Nat.le_refl _
    rw [← xA]
    rcases tr with ⟨stop,qf⟩ | ⟨go,N,hN,step⟩
    · have dn:=T.done X' xprog xw xK xcalm i _ s5 σ5 H5 (fun _ _=>False) I5 (stat fr5 p5) st5 stop
      rw [xA] at dn ⊢
      refine wpAny_mono dn (fun r s6 h6=>?_) fun _ _ z=>z
      obtain ⟨rfl,I6⟩:=h6
      show RR (.ref s₂.heap.objs.size) H3.objs.size (.ok .next) s6
      obtain ⟨eD,nD,_⟩:=I6.pin _ (List.mem_append_right _ List.mem_cons_self)
      have un0:Un (frs X.stack) fp H₂ H5 s₂.heap s6.heap:=by
        have:=I6.base
        rw [xfs,xex,xs0,xH0] at this
        exact this
      have lt:∀ {b:Addr} {o:Obj},s₂.heap.get? b=some o→b≠s₂.heap.objs.size:=fun e=>Nat.ne_of_lt (Heap.lt_size e)
      have un1:Un (frs X.stack) fp H₂ (upd H5 s₂.heap.objs.size (.lst ys)) s₂.heap s6.heap :=
        ⟨un0.keep,un0.slot,fun b o e n hx=>by rw [upd_ne (lt e)]; exact un0.free b o e n hx,un0.there,fun b xs e=>by rw [upd_ne (ne_of_none e HD0)]; exact un0.tups b xs e,
          fun b o u e=>by rw [upd_ne (ne_of_none e HD0)]; exact un0.frzs b o u e,fun b ps e=>by rw [upd_ne (ne_of_none e HD0)]; exact un0.tbls b ps e⟩
      have hok1:HOk X.prog X.w (upd H5 s₂.heap.objs.size (.lst ys)) s6.heap:=fun b u e=>by
        by_cases hb:b=s₂.heap.objs.size
        · subst hb
          rw [upd_same] at e; cases e
          exact ⟨Nat.le_of_lt hlen,its,k,rv,eD⟩
        · rw [upd_ne hb] at e
          have:=I6.hok b u e
          rw [xprog,xw] at this
          exact this.stay (fun _ _ _ q=>q) (fun c q=>by rw [upd_ne (ne_of_none q nD)]; exact q) fun c xs q=>by rw [upd_ne (ne_of_none q nD)]; exact q
      have I7:Inv X pins σ (upd H5 s₂.heap.objs.size (.lst ys)) s6:=by
        refine I₂.call' (ch:=fp) ?_ un1 hok1 I6.bare fun b hb=>?_
        · have:=I6.os; rw [xs0] at this; exact this
        · obtain ⟨_,f1,f2,f3,f4,f5⟩:=hf b hb
          exact ⟨f3,f1,f4,f5⟩
      obtain ⟨m6,n6,_⟩:=I6.loc
      rw [xloc] at n6
      have hC6:H5 H3.objs.size=none:=by have:=I6.free; rw [xloc] at this; exact this
      refine fin _ _ _ s6 m6 I7 ⟨by rw [upd_ne (Ne.symm hDC)]; exact hC6,?_,?_,.inr (Nat.le_trans I₂.sz hCle),hcellsC,fun p hp=>?_⟩ n6 (qf _ nD)
      · exact Nat.ne_of_gt (Nat.lt_of_lt_of_le I₂.lt hCle)
      · intro z
        exact absurd z (I₂.nofs hCle)
      · exact Nat.ne_of_lt (Nat.lt_of_lt_of_le (Heap.lt_size (I₂.pin p hp).1) hCle)
    · have itm:=T.item X' xprog xw xK xcalm i _ s5 σ5 H5 (fun _ _=>False) I5 (stat fr5 p5) st5 go
      refine wpAny_mono itm (fun r s6 h6=>?_) fun _ _ z=>z
      obtain ⟨u,rfl,h6⟩:=h6
      refine wpAny_mono h6 (fun _ s7 h7=>?_) fun _ _ z=>z
      obtain ⟨x,H7,I7,rx,y7,st7,fr7⟩:=h7
      have I7':=I7.pinned (stat fr7 p5) (T.obj _ _ st7)
      have mp:∀ {α:Type} {t:Sem α} {Q:α→Shared→Prop} {s:Shared},wpAny (model X'.prog X'.w) X'.A t Q X'.xe s→wpAny (model X.prog X.w) X'.A t Q (fun _ _=>False) s:=fun {α t Q s} h=>by
        rw [xprog,xw,xxe] at h; exact h
      refine wpAny_mono (mp (hg' _ s7 σ5 H7 x u _ I7' rx (step x H7 y7))) (fun _ s8 h8=>?_) fun _ _ z=>z
      obtain ⟨σ8,H8,I8,q8⟩:=h8
      refine wpAny_mono (mp (hi' _ s8 σ8 H8 _ I8 q8)) (fun ok s9 h9=>?_) fun _ _ z=>z
      obtain ⟨H9,I9,q9⟩:=h9
      have keepT:∀ {σ':St} {H':Hp} {s':Shared},Inv X' ([(s₂.heap.objs.size,{ cls:=.type "list",data:=.seq its.toArray k })] ++ pinsAt fp s7.heap) σ' H' s'→tn (i + 1) s'.heap∧∀ b∈fp,H' b=none:=fun {σ' H' s'} I=>by
        refine ⟨T.keep _ _ _ st7 fun b hb o e=>(I.pin (b,o) (List.mem_append_right _ (List.mem_append_right _ (mem_pinsAt hb e)))).1,fun b hb=>?_⟩
        obtain ⟨o,e,d⟩:=T.obj _ _ st7 b hb
        exact (I.pin (b,o) (List.mem_append_right _ (List.mem_append_right _ (mem_pinsAt hb e)))).2.1
      cases ok with
      | false =>
        rw [if_neg Bool.false_ne_true] at q9 ⊢
        obtain ⟨m',hm,w9⟩:=hN _ _ _ q9
        obtain ⟨t9,f9⟩:=keepT I9
        exact ⟨m',hm,i + 1,σ8,ys,H9,its,k,I9.unpinned,rv,t9,f9,w9⟩
      | true =>
        rw [if_pos rfl] at q9 ⊢
        refine wpAny_mono (mp (he' _ s9 σ8 H9 _ I9 q9)) (fun v s10 h10=>?_) fun _ _ z=>z
        obtain ⟨y,H10,I10,ry,n10⟩:=h10
        obtain ⟨m',hm,w10⟩:=hN _ _ _ n10
        obtain ⟨t10,f10⟩:=keepT I10
        have I10':=I10.unpinned
        obtain ⟨eD,nD,neD,nfD,dD⟩:=I10'.pin _ (List.mem_append_right _ List.mem_cons_self)
        have hl:=rv.length
        refine call_meets F.slot_list_append ⟨_,eD,rfl⟩ F.entry_list_append (F.args_list_append_2 _ _) (PySem.list_append s₂.heap.objs.size its.toArray k v (by rw [List.size_toArray]; omega)) ⟨eD,?_⟩
        have q:=PySem.IsL.update eD (·.push v)
        have I11:Inv X' [] σ8 H10 { s10 with heap:=s10.heap.update s₂.heap.objs.size (Obj.mapSeq (·.push v)) }:=by
          refine (I10'.pins_of (pins':=[]) fun p hp=>by cases hp).turned (t':=s10.toks) (it:=s₂.heap.objs.size) (fun b o hb e=>(Heap.get?_update_other s10.heap (Obj.mapSeq (·.push v)) (Ne.symm hb)).trans e) nD neD (.inr (by rw [xs0]; exact Nat.le_refl _)) (fun x c hc=>hcells x c (by rw [← xcells]; exact hc)) fun p hp=>?_
          have hp:p∈X.pn ++ pins:=by rw [List.append_nil,xpn] at hp; exact hp
          exact Nat.ne_of_lt (Heap.lt_size (I₂.pin p hp).1)
        rw [show its.toArray.push v=(its ++ [v]).toArray by simp] at q
        refine ⟨m',hm,i + 1,σ8,ys ++ [y],H10,its ++ [v],_,pinD I11 q nD (fun v q=>nomatch q),rv.append (.cons ry .nil),?_,f10,w10⟩
        refine T.keep _ _ _ t10 fun b hb o e=>(Heap.get?_update_other s10.heap (Obj.mapSeq (·.push v)) ?_).trans e
        exact Nat.ne_of_gt (hfo b hb)
  have e4:({ scope:=relabel scope X.env,locals:=H3.objs.size,globals:=X.env.globals,cells:=cl,qual:=X.env.qual,func:=none,code:=X.env.code,frame:=X.env.frame,builtins:=X.env.builtins }:Env)=X'.env:=by rw [xenv]; rfl
  have st4:tn 0 h₄:=T.keep _ _ _ st fun b _ o e=>kp2 b o e
  have goal:codeAny (model X.prog X.w) X.A (.compStart (.ListComp elt [⟨tg,iter,ifs,0⟩] scope pos) 0 (.ref it) (.ref s₂.heap.objs.size) X'.env) (RR (.ref s₂.heap.objs.size) H3.objs.size) { s₂ with heap:=h₄ } :=
    codeAny_compStart_list loop (T.self _ 0 _ _ _ st4 loop)
  rw [← e4] at goal
  exact goal
theorem Inv.gone {H':Hp} {s':Shared} {h':Heap} {C:Addr} (I:Inv X pins σ H' s') (f:FpOk X pins H' C) (hs:Heap.SameBut C s'.heap h'):Inv X pins σ H' { s' with heap:=h' }:=by
  obtain ⟨f0,f1,f2,f3,f4,f5⟩:=f
  exact I.turned (t':=s'.toks) (fun b o hb e=>(hs.2 b hb).trans e) f0 f1 f3 f4 f5
theorem pe_comp {wi:TI} (S:CompScope X N' pick scope) (hc:X.calm=true) (hit:PI X tg iter wi)
    (hg:∀ cl C s₀ H₀ ex pn,PG (compCx X N' scope cl C s₀ H₀ ex pn) tg g) (hi:∀ cl C s₀ H₀ ex pn,PIfs (compCx X N' scope cl C s₀ H₀ ex pn) ifs tt) (he:∀ cl C s₀ H₀ ex pn,PE (compCx X N' scope cl C s₀ H₀ ex pn) elt te)
    (hs:∀ x,foldedSetIterable iter X.env x=pure x:=by intro _; rfl) :
    PE X (.ListComp elt [⟨tg,iter,ifs,0⟩] scope pos) (tComp wi pick g tt te):=by
  intro pins s σ H Q I h
  rw [eval_ListComp]
  refine wpAny_comprehension_free (use:=none) rfl hs (clos_of S I) S.kind S.names (thn (hit pins s σ H _ I h) fun v s1 h1=>thn h1 fun itv s2 h2=>?_)
  obtain ⟨it,fp,tn,J,H2,rfl,I2,T,st2,f2,W,⟨m0,w0⟩,turn⟩:=h2
  refine comp_block (RR:=fun acc C=>compPost (model X.prog X.w) X.A X.xe none (EP X pins σ Q) acc C) (Qv:=Q) S hc I2 T st2 f2 hg hi he w0 turn ?_
  intro D C H' s' m I' f' n' q'
  exact ⟨m,n',fun h' hs'=>⟨.ref D,H',I'.gone f' hs',rfl,q'⟩⟩
noncomputable def tSetComp (i:Nat) (t:TE):TS:=fun D σ H=>t σ H fun v H1=>D.nx (σ.set i (some v)) H1
theorem ps_setComp {wi:TI} {i:Nat} {y:Str} {py spos:Pos} (hsw:swapsWith (.ListComp elt [⟨tg,iter,ifs,0⟩] scope pos) (some (.Name y py)) spos.line X.env=pure true) (hN:X.N.Nodup) (hy:X.N[i]? = some y) (hl:X.env.scope.names.lookup y=some .local)
    (S:CompScope X N' pick scope) (hc:X.calm=true) (hit:PI X tg iter wi)
    (hg:∀ cl C s₀ H₀ ex pn,PG (compCx X N' scope cl C s₀ H₀ ex pn) tg g) (hi:∀ cl C s₀ H₀ ex pn,PIfs (compCx X N' scope cl C s₀ H₀ ex pn) ifs tt) (he:∀ cl C s₀ H₀ ex pn,PE (compCx X N' scope cl C s₀ H₀ ex pn) elt te)
    (hs:∀ x,foldedSetIterable iter X.env x=pure x:=by intro _; rfl) :
    PS X (.Assign [.Name y py] (.ListComp elt [⟨tg,iter,ifs,0⟩] scope pos) spos) (tSetComp i (tComp wi pick g tt te)):=by
  intro pins s σ H D I h
  rw [exec_Assign_Name_used _ _ _ _ hsw]
  refine wpAny_bind (wpAny_standAt (wpAny_bind ?_))
  show wpAny _ X.A (do let _ ← comprehension (.ListComp elt [⟨tg,iter,ifs,0⟩] scope pos) scope X.env _ (newList []) false (eval iter X.env) (some (assign (.Name y py) X.env))) _ _ s
  refine wpAny_bind (wpAny_mono (wpAny_comprehension_free (use:=some (assign (.Name y py) X.env)) (Q:=fun _ s'=>SP X pins D .next s') rfl hs (clos_of S I) S.kind S.names
    (thn (hit pins s σ H _ I h) fun v s1 h1=>thn h1 fun itv s2 h2=>?_)) (fun _ s' hq=>wpAny_pure (wpAny_pure hq)) fun _ _ e=>e)
  obtain ⟨it,fp,tn,J,H2,rfl,I2,T,st2,f2,W,⟨m0,w0⟩,turn⟩:=h2
  refine comp_block (RR:=fun acc C=>compPost (model X.prog X.w) X.A X.xe (some (assign (.Name y py) X.env)) (fun _ s'=>SP X pins D .next s') acc C) (Qv:=fun v H1=>D.nx (σ.set i (some v)) H1) S hc I2 T st2 f2 hg hi he w0 turn ?_
  intro Da C H' s' m I' f' n' q'
  show wpAny _ X.A (assign (.Name y py) X.env (.ref Da)) _ _ _
  refine wpAny_assign_Name (store_ok2 I' hN hy (.inl hl) (v:=.ref Da) rfl (fun s'' I'' ⟨a,sb,ha⟩=>?_) (.inr hl))
  have hCa:C≠a:=by
    rcases ha with e | e
    · rw [e]; exact f'.2.1
    · exact Ne.symm (f'.2.2.2.2.1 _ _ e)
  exact ⟨m,n'.sameBut sb hCa,fun h' hs'=>⟨_,H',I''.gone f' hs',q'⟩⟩
end
noncomputable def compB (XN:List Str) (xn:List (Str×NameKind)) (N':List Str) (pick:List (Option Nat)) (names:List (Str×NameKind)):Bool :=
  decide N'.Nodup && names.all (fun x=>decide (names.lookup x.1=some x.2)) && decide ((names.map (·.1)).Nodup) && (pick.length == N'.length) &&
  (pick.zip N').all (fun q=>match q.1 with | none=>true | some j=>decide (names.lookup q.2=some NameKind.free) && decide (XN[j]? = some q.2)) &&
  names.all (fun x=>decide (x.2≠NameKind.free) || (decide (xn.lookup x.1=some NameKind.cell) || decide (xn.lookup x.1=some NameKind.free)))
theorem CompScope.of {X:Cx} {N':List Str} {pick:List (Option Nat)} {scope:Scope} (hk:scope.kind=.function) (h:compB X.N X.env.scope.names N' pick scope.names=true):CompScope X N' pick scope:=by
  unfold compB at h
  simp only [Bool.and_eq_true,List.all_eq_true,decide_eq_true_eq,beq_iff_eq,Bool.or_eq_true] at h
  obtain ⟨⟨⟨⟨⟨h1,h2⟩,h3⟩,h4⟩,h5⟩,h6⟩:=h
  refine ⟨hk,h1,fun x hx e=>by rw [← e]; exact h2 x hx,h3,h4,fun i j x hp hN=>?_,fun x hx e=>?_⟩
  · have hm:(some j,x)∈pick.zip N':=by
      have:(pick.zip N')[i]? = some (some j,x):=by rw [List.getElem?_zip_eq_some]; exact ⟨hp,hN⟩
      exact List.mem_of_getElem? this
    exact h5 _ hm |> fun z=>by simpa using z
  · rcases h6 x hx with z | z | z
    · exact absurd e z
    · exact .inl z
    · exact .inr z
end L2
namespace PySem
open Sem (wp)
section
variable {prog:Program} {w:World} {A:Around} {E:Value→Shared→Prop} {s:Shared}
theorem nextOf_tuple_item {it l:Addr} {i:Nat} {items:Array Value} {x:Value} {Q:Value→Shared→Prop} (hit:s.heap.IsTupleIter it l i)
  (hl:s.heap.IsTuple l items) (hx:items[i]? = some x)
  (hQ:∀ h',h'.IsTupleIter it l (i + 1)→Heap.SameBut it s.heap h'→Q x { s with heap:=h' }) :
  wpAny (model prog w) A (Builtin.SmallTypes.nextOf (.ref it)) Q E s:=by
 obtain ⟨o,ho,hc,hd⟩:=id hit
 obtain ⟨ol,hol,_,nl,hdl⟩:=hl
 unfold Builtin.SmallTypes.nextOf
 refine wpAny_bind (wpAny_callSpecial?_slot (name:=Str.ofString "__next__") hit.typeIs F.slot_tuple_iterator_next
  (wpAny_call_entry F.slot_tuple_iterator_next hit.typeIs F.entry_tuple_iterator_next ?_ (F.args_tuple_iterator_next_1 _)))
 show wpAny _ _ (field (.ref it) 0 >>= _) _ _ s
 refine wpAny_bind (wpAny_field ho hd (x:=.ref l) rfl ?_)
 show wpAny _ _ (if (Value.ref l == Value.none)=true then _ else _) _ _ s
 rw [if_neg (show ¬ ((Value.ref l == Value.none)=true) from Bool.false_ne_true)]
 show wpAny _ _ (field (.ref it) 1 >>= _) _ _ s
 refine wpAny_bind (wpAny_field ho hd (x:=.int i 0) rfl ?_)
 show wpAny _ _ (seqItems? (.ref l) >>= _) _ _ s
 refine wpAny_bind (wpAny_seqItems hol hdl ?_)
 simp only [Int.toNat_natCast,hx]
 refine wpAny_bind (wpAny_setField ho hd (by simp) (wpAny_pure ⟨x,rfl,wpAny_pure (hQ _ ?_ (Heap.SameBut.update ..))⟩))
 exact ⟨_,Heap.get?_update_self _ ho (Obj.isFreed_of_fields (Obj.data_mapFields hd _)),(Obj.cls_mapFields ..).trans hc,by
  rw [Obj.data_mapFields hd]; simp [rawInt]⟩
theorem nextOf_tuple_end {it l:Addr} {i:Nat} {items:Array Value} {Q:Value→Shared→Prop} (hh:A.handled=none)
  (hit:s.heap.IsTupleIter it l i) (hl:s.heap.IsTuple l items) (hx:items[i]? = none)
  (hE:∀ h' e,Heap.ExtBut it s.heap h'→(∃ o,h'.get? e=some o∧o.cls=.type "StopIteration")→E (.ref e) { s with heap:=h' }) :
  wpAny (model prog w) A (Builtin.SmallTypes.nextOf (.ref it)) Q E s:=by
 obtain ⟨o,ho,hc,hd⟩:=id hit
 obtain ⟨ol,hol,_,nl,hdl⟩:=hl
 unfold Builtin.SmallTypes.nextOf
 refine wpAny_bind (wpAny_callSpecial?_slot (name:=Str.ofString "__next__") hit.typeIs F.slot_tuple_iterator_next
  (wpAny_call_entry F.slot_tuple_iterator_next hit.typeIs F.entry_tuple_iterator_next ?_ (F.args_tuple_iterator_next_1 _)))
 show wpAny _ _ (field (.ref it) 0 >>= _) _ _ s
 refine wpAny_bind (wpAny_field ho hd (x:=.ref l) rfl ?_)
 show wpAny _ _ (if (Value.ref l == Value.none)=true then _ else _) _ _ s
 rw [if_neg (show ¬ ((Value.ref l == Value.none)=true) from Bool.false_ne_true)]
 show wpAny _ _ (field (.ref it) 1 >>= _) _ _ s
 refine wpAny_bind (wpAny_field ho hd (x:=.int i 0) rfl ?_)
 show wpAny _ _ (seqItems? (.ref l) >>= _) _ _ s
 refine wpAny_bind (wpAny_seqItems hol hdl ?_)
 simp only [Int.toNat_natCast,hx]
 refine wpAny_bind (wpAny_rule (wpAny_bind (wpAny_setField ho hd (by simp) ?_)))
 show wpAny _ _ (newExc (.type "StopIteration") [] >>= _) _ _ _
 refine wpAny_bind ?_
 simp only [newExc,newTuple]
 refine wpAny_bind (wpAny_newObj_type ?_ (by size_fits))
 refine wpAny_bind (m:=firstArgMember _ _) (wpAny_of_eq (a:=Value.none) (by first | rfl | (simp only [firstArgMember]; rfl)) ?_)
 refine wpAny_newObj_type ?_ (by size_fits)
 simp only [raiseNew]
 refine wpAny_bind (wpAny_handled ?_)
 first | rw [show A.in1.handled=none from hh] | rw [hh]
 refine wpAny_bind (wpAny_pure (wpAny_throw ?_))
 exact hE _ _ (((Heap.SameBut.update ..).extBut.push _).push _) ⟨_,Heap.get?_push_size _ rfl,rfl⟩
theorem Draws.tuple {prog:Program} {w:World} {A:Around} (hh:A.handled=none) (it l:Addr) (hne:l≠it) (items:Array Value) :
  Draws prog w A it [it,l] items.size (fun i v=>items[i]? = some v) (fun i h=>h.IsTupleIter it l i∧h.IsTuple l items) where
 live:=fun _ _ st=>let ⟨o,ho,_⟩:=st.1; ⟨o,ho⟩
 frame:=fun _ _ _ st hk=>⟨st.1.at fun o e=>hk it (by simp) o e,let ⟨o,e,r⟩:=st.2; ⟨o,hk l (by simp) o e,r⟩⟩
 item:=fun i s Q E hi st hQ=>by
  refine nextOf_tuple_item st.1 st.2 (x:=items[i]) (by simp [hi]) fun h' hit' hs'=>?_
  exact hQ _ h' s.toks (by simp [hi]) ⟨hit',let ⟨o,e,r⟩:=st.2; ⟨o,hs'.extBut _ _ hne e,r⟩⟩ hs'
 done:=fun s Q E st hE=>nextOf_tuple_end hh st.1 st.2 (by simp) hE
structure ZA (z TI TO i1 i2:Addr) (f1 f2:List Addr):Prop where
 TIz:TI≠z
 TOz:TO≠z
 TITO:TI≠TO
 TIi1:TI≠i1
 TIi2:TI≠i2
 m1:i1∈f1
 m2:i2∈f2
 z1:z∉f1
 z2:z∉f2
 o1:TO∉f1
 o2:TO∉f2
 x1:i1∉f2
 x2:i2∉f1
theorem zipD_item {z TI TO i1 i2:Addr} {f1 f2:List Addr} {n1 n2 k:Nat} {P1 P2:Nat→Value→Prop} {S1 S2:Nat→Heap→Prop} {a b:Value} {Q:Value→Shared→Prop} (D:ZA z TI TO i1 i2 f1 f2) (D1:Draws prog w A i1 f1 n1 P1 S1) (D2:Draws prog w A i2 f2 n2 P2 S2)
  (hz:IsZip s.heap z TI TO .none) (hTI:IsPair s.heap TI (.ref i1) (.ref i2)) (hTO:IsPair s.heap TO a b)
  (h1:S1 k s.heap) (h2:S2 k s.heap) (hx:k < n1) (hy:k < n2)
  (hQ:∀ x y h' tk,P1 k x→P2 k y→IsZip h' z TI TO (rawInt s.heap.objs.size)→IsPair h' TO x y→S1 (k + 1) h'→S2 (k + 1) h'→IsPair h' s.heap.objs.size x y →
   (∀ c o,c≠z→c≠TO→c≠i1→c≠i2→s.heap.get? c=some o→h'.get? c=some o)→Q (.ref s.heap.objs.size) { s with heap:=h',toks:=tk }) :
  wpAny (model prog w) A (Builtin.«zip.__next__» ⟨[.ref z],[]⟩) (fun fin s'=>∃ v,fin=.done (.ret v)∧Q v s') E s:=by
 have nz1:i1≠z:=fun e=>D.z1 (e ▸ D.m1)
 have nz2:i2≠z:=fun e=>D.z2 (e ▸ D.m2)
 have no1:TO≠i1:=fun e=>D.o1 (e ▸ D.m1)
 have no2:TO≠i2:=fun e=>D.o2 (e ▸ D.m2)
 have n12:i1≠i2:=fun e=>D.x1 (e ▸ D.m2)
 show wpAny _ _ (field (.ref z) 2 >>= _) _ _ _
 refine wpAny_bind (wpAny_field hz rfl (x:=.bool false) rfl ?_)
 show wpAny _ _ (field (.ref z) 3 >>= _) _ _ _
 refine wpAny_bind (wpAny_field hz rfl (x:=.ref TI) rfl ?_)
 refine wpAny_bind (wpAny_seqItems hTI rfl ?_)
 show wpAny _ _ (Builtin.SmallTypes.ownedTupleIsFree (.ref z) >>= _) _ _ _
 refine wpAny_bind ?_
 unfold Builtin.SmallTypes.ownedTupleIsFree
 refine wpAny_bind (wpAny_field hz rfl (x:=.none) rfl (wpAny_pure ?_))
 simp only [if_true]
 refine wpAny_bind (wpAny_rule ?_)
 refine wpAny_bind (wpAny_field hz rfl (x:=.ref TO) rfl ?_)
 refine wpAny_bind (wpAny_setField_rec hz (by simp) fun h₁ hz₁ hs₁=>?_)
 replace hz₁:IsZip h₁ z TI TO .ellipsis:=hz₁
 refine wpAny_bind ?_
 simp only [List.zipIdx_cons,List.zipIdx_nil,List.forIn_cons,List.forIn_nil]
 refine wpAny_bind (wpAny_bind (wpAny_onRaise ?_))
 show wpAny _ _ (Builtin.SmallTypes.nextOf (.ref i1) >>= _) _ _ _
 refine wpAny_bind (D1.item k _ _ _ hx (D1.frame _ _ _ h1 fun c hc o e=>hs₁.extBut _ _ (fun q=>D.z1 (q ▸ hc)) e) fun x h₂ tk₂ px h1₂ hs₂=>wpAny_pure ?_)
 have hTO₂:IsPair h₂ TO a b:=hs₂.extBut _ _ no1 (hs₁.extBut _ _ D.TOz hTO)
 refine wpAny_bind (wpAny_seqItems hTO₂ rfl ?_)
 refine wpAny_bind (wpAny_updateSeq_pair hTO₂ fun h₃ hTO₃ hs₃=>?_)
 replace hTO₃:IsPair h₃ TO x b:=hTO₃
 refine wpAny_bind (wpAny_letGo (wpAny_pure ?_))
 refine wpAny_bind (wpAny_bind (wpAny_onRaise ?_))
 show wpAny _ _ (Builtin.SmallTypes.nextOf (.ref i2) >>= _) _ _ _
 refine wpAny_bind (D2.item k _ _ _ hy (D2.frame _ _ _ h2 fun c hc o e=>hs₃.extBut _ _ (fun q=>D.o2 (q ▸ hc)) (hs₂.extBut _ _ (fun q=>D.x1 (q ▸ hc)) (hs₁.extBut _ _ (fun q=>D.z2 (q ▸ hc)) e))) fun y h₄ tk₄ py h2₄ hs₄=>wpAny_pure ?_)
 have hTO₄:IsPair h₄ TO x b:=hs₄.extBut _ _ no2 hTO₃
 refine wpAny_bind (wpAny_seqItems hTO₄ rfl ?_)
 refine wpAny_bind (wpAny_updateSeq_pair hTO₄ fun h₅ hTO₅ hs₅=>?_)
 replace hTO₅:IsPair h₅ TO x y:=hTO₅
 refine wpAny_bind (wpAny_letGo (wpAny_pure (wpAny_pure ?_)))
 refine wpAny_bind (wpAny_seqItems hTO₅ rfl ?_)
 refine wpAny_bind (wpAny_newTuple ?_)
 have hsz:h₅.objs.size=s.heap.objs.size:=by rw [hs₅.1,hs₄.1,hs₃.1,hs₂.1,hs₁.1]
 have hz₅:IsZip h₅ z TI TO .ellipsis:=hs₅.extBut _ _ D.TOz.symm (hs₄.extBut _ _ nz2.symm (hs₃.extBut _ _ D.TOz.symm (hs₂.extBut _ _ nz1.symm hz₁)))
 have hk₅:∀ c o,c≠z→c≠TO→c≠i1→c≠i2→s.heap.get? c=some o→h₅.get? c=some o:=fun c o c1 c2 c3 c4 e =>
  hs₅.extBut _ _ c2 (hs₄.extBut _ _ c4 (hs₃.extBut _ _ c2 (hs₂.extBut _ _ c3 (hs₁.extBut _ _ c1 e))))
 have h1₅:S1 (k + 1) h₅:=D1.frame _ _ _ h1₂ fun c hc o e=>hs₅.extBut _ _ (fun q=>D.o1 (q ▸ hc)) (hs₄.extBut _ _ (fun q=>D.x2 (q ▸ hc)) (hs₃.extBut _ _ (fun q=>D.o1 (q ▸ hc)) e))
 have h2₅:S2 (k + 1) h₅:=D2.frame _ _ _ h2₄ fun c hc o e=>hs₅.extBut _ _ (fun q=>D.o2 (q ▸ hc)) e
 have hzlt:z < h₅.objs.size:=Heap.lt_size hz₅
 show wpAny _ _ (Builtin.SmallTypes.ownedTupleHandOut (.ref z) (.ref h₅.objs.size) >>= _) _ _ _
 refine wpAny_bind ?_
 unfold Builtin.SmallTypes.ownedTupleHandOut
 have hz₆:IsZip (h₅.push { cls:=.type "tuple",data:=.seq #[x,y] }) z TI TO .ellipsis:=Heap.get?_push_of_some _ hz₅
 refine wpAny_bind (wpAny_setField_rec hz₆ (by simp) fun h₇ hz₇ hs₇=>?_)
 replace hz₇:IsZip h₇ z TI TO (rawInt h₅.objs.size):=hz₇
 refine wpAny_setField_rec hz₇ (by simp) fun h₈ hz₈ hs₈=>?_
 replace hz₈:IsZip h₈ z TI TO (rawInt h₅.objs.size):=hz₈
 have up:∀ c o,c≠z→h₅.get? c=some o→h₈.get? c=some o:=fun c o c1 e=>hs₈.extBut _ _ c1 (hs₇.extBut _ _ c1 (Heap.get?_push_of_some _ e))
 have hT₈:IsPair h₈ h₅.objs.size x y:=hs₈.extBut _ _ (Nat.ne_of_gt hzlt) (hs₇.extBut _ _ (Nat.ne_of_gt hzlt) (Heap.get?_push_size _ rfl))
 rw [hsz] at hz₈ hT₈
 refine wpAny_pure ⟨_,rfl,?_⟩
 show Q (.ref h₅.objs.size) _
 rw [hsz]
 exact hQ x y h₈ _ px py hz₈ (up _ _ D.TOz hTO₅) (D1.frame _ _ _ h1₅ fun c hc o e=>up c o (fun q=>D.z1 (q ▸ hc)) e) (D2.frame _ _ _ h2₅ fun c hc o e=>up c o (fun q=>D.z2 (q ▸ hc)) e) hT₈ fun c o c1 c2 c3 c4 e=>up c o c1 (hk₅ c o c1 c2 c3 c4 e)
theorem zipD_end {z TI TO i1 i2:Addr} {f1 f2:List Addr} {n1 n2 k:Nat} {P1 P2:Nat→Value→Prop} {S1 S2:Nat→Heap→Prop} {a b:Value} {Q:Fin→Shared→Prop} (D:ZA z TI TO i1 i2 f1 f2) (D1:Draws prog w A i1 f1 n1 P1 S1) (D2:Draws prog w A i2 f2 n2 P2 S2)
  (hz:IsZip s.heap z TI TO .none) (hTI:IsPair s.heap TI (.ref i1) (.ref i2)) (hTO:IsPair s.heap TO a b)
  (h1:S1 k s.heap) (h2:S2 k s.heap) (hend:k=n1∨(k < n1∧k=n2))
  (hE:∀ h' tk e,(∀ c o,c≠z→c≠TO→c≠i1→c≠i2→s.heap.get? c=some o→h'.get? c=some o)→(∃ o,h'.get? e=some o∧o.cls=.type "StopIteration")→E (.ref e) { s with heap:=h',toks:=tk }) :
  wpAny (model prog w) A (Builtin.«zip.__next__» ⟨[.ref z],[]⟩) Q E s:=by
 have nz1:i1≠z:=fun e=>D.z1 (e ▸ D.m1)
 have nz2:i2≠z:=fun e=>D.z2 (e ▸ D.m2)
 have no1:TO≠i1:=fun e=>D.o1 (e ▸ D.m1)
 have no2:TO≠i2:=fun e=>D.o2 (e ▸ D.m2)
 show wpAny _ _ (field (.ref z) 2 >>= _) _ _ _
 refine wpAny_bind (wpAny_field hz rfl (x:=.bool false) rfl ?_)
 show wpAny _ _ (field (.ref z) 3 >>= _) _ _ _
 refine wpAny_bind (wpAny_field hz rfl (x:=.ref TI) rfl ?_)
 refine wpAny_bind (wpAny_seqItems hTI rfl ?_)
 show wpAny _ _ (Builtin.SmallTypes.ownedTupleIsFree (.ref z) >>= _) _ _ _
 refine wpAny_bind ?_
 unfold Builtin.SmallTypes.ownedTupleIsFree
 refine wpAny_bind (wpAny_field hz rfl (x:=.none) rfl (wpAny_pure ?_))
 simp only [if_true]
 refine wpAny_bind (wpAny_rule ?_)
 refine wpAny_bind (wpAny_field hz rfl (x:=.ref TO) rfl ?_)
 refine wpAny_bind (wpAny_setField_rec hz (by simp) fun h₁ hz₁ hs₁=>?_)
 replace hz₁:IsZip h₁ z TI TO .ellipsis:=hz₁
 refine wpAny_bind ?_
 simp only [List.zipIdx_cons,List.zipIdx_nil,List.forIn_cons,List.forIn_nil]
 refine wpAny_bind (wpAny_bind (wpAny_onRaise ?_))
 show wpAny _ _ (Builtin.SmallTypes.nextOf (.ref i1) >>= _) _ _ _
 have h1₁:S1 k h₁:=D1.frame _ _ _ h1 fun c hc o e=>hs₁.extBut _ _ (fun q=>D.z1 (q ▸ hc)) e
 rcases hend with rfl | ⟨hlt,rfl⟩
 ·refine wpAny_bind (D1.done _ _ _ h1₁ fun h₂ e hs₂ he=>?_)
  obtain ⟨oe,hoe,hce⟩:=he
  have hz₂:IsZip h₂ z TI TO .ellipsis:=hs₂ _ _ nz1.symm hz₁
  have hez:e≠z:=fun x=>by subst x; rw [hz₂] at hoe; cases hoe; simp at hce
  refine wpAny_setField_rec hz₂ (by simp) fun h₃ _ hs₃=>hE h₃ _ e (fun c o c1 _ c3 _ x=>hs₃.extBut _ _ c1 (hs₂ _ _ c3 (hs₁.extBut _ _ c1 x))) ⟨oe,hs₃.extBut _ _ hez hoe,hce⟩
 ·refine wpAny_bind (D1.item k _ _ _ hlt h1₁ fun x h₂ tk₂ px h1₂ hs₂=>wpAny_pure ?_)
  have hTO₂:IsPair h₂ TO a b:=hs₂.extBut _ _ no1 (hs₁.extBut _ _ D.TOz hTO)
  refine wpAny_bind (wpAny_seqItems hTO₂ rfl ?_)
  refine wpAny_bind (wpAny_updateSeq_pair hTO₂ fun h₃ hTO₃ hs₃=>?_)
  refine wpAny_bind (wpAny_letGo (wpAny_pure ?_))
  refine wpAny_bind (wpAny_bind (wpAny_onRaise ?_))
  show wpAny _ _ (Builtin.SmallTypes.nextOf (.ref i2) >>= _) _ _ _
  refine wpAny_bind (D2.done _ _ _ (D2.frame _ _ _ h2 fun c hc o e=>hs₃.extBut _ _ (fun q=>D.o2 (q ▸ hc)) (hs₂.extBut _ _ (fun q=>D.x1 (q ▸ hc)) (hs₁.extBut _ _ (fun q=>D.z2 (q ▸ hc)) e))) fun h₄ e hs₄ he=>?_)
  obtain ⟨oe,hoe,hce⟩:=he
  have hz₄:IsZip h₄ z TI TO .ellipsis:=hs₄ _ _ nz2.symm (hs₃.extBut _ _ D.TOz.symm (hs₂.extBut _ _ nz1.symm hz₁))
  have hez:e≠z:=fun x=>by subst x; rw [hz₄] at hoe; cases hoe; simp at hce
  refine wpAny_setField_rec hz₄ (by simp) fun h₅ _ hs₅=>hE h₅ _ e (fun c o c1 c2 c3 c4 x=>hs₅.extBut _ _ c1 (hs₄ _ _ c4 (hs₃.extBut _ _ c2 (hs₂.extBut _ _ c3 (hs₁.extBut _ _ c1 x))))) ⟨oe,hs₅.extBut _ _ hez hoe,hce⟩
theorem pyNext_zipD_item {z TI TO i1 i2:Addr} {f1 f2:List Addr} {n1 n2 k:Nat} {P1 P2:Nat→Value→Prop} {S1 S2:Nat→Heap→Prop} {a b:Value} {Q:Option Value→Shared→Prop} (D:ZA z TI TO i1 i2 f1 f2) (D1:Draws prog w A.in1 i1 f1 n1 P1 S1) (D2:Draws prog w A.in1 i2 f2 n2 P2 S2)
  (hz:IsZip s.heap z TI TO .none) (hTI:IsPair s.heap TI (.ref i1) (.ref i2)) (hTO:IsPair s.heap TO a b)
  (h1:S1 k s.heap) (h2:S2 k s.heap) (hx:k < n1) (hy:k < n2)
  (hQ:∀ x y h' tk,P1 k x→P2 k y→IsZip h' z TI TO (rawInt s.heap.objs.size)→IsPair h' TO x y→S1 (k + 1) h'→S2 (k + 1) h'→IsPair h' s.heap.objs.size x y →
   (∀ c o,c≠z→c≠TO→c≠i1→c≠i2→s.heap.get? c=some o→h'.get? c=some o)→Q (some (.ref s.heap.objs.size)) { s with heap:=h',toks:=tk }) :
  wpAny (model prog w) A (pyNext (.ref z)) Q E s:=by
 have hT:s.TypeIs (.ref z) "zip":=⟨_,hz,rfl⟩
 unfold pyNext
 exact wpAny_bind (wpAny_attempt (wpAny_callSpecial?_slot (name:=Str.ofString "__next__") hT F.slot_zip_next
  (wpAny_call_entry F.slot_zip_next hT F.entry_zip_next
   (zipD_item D D1 D2 hz hTI hTO h1 h2 hx hy fun x y h' tk a0 b0 a1 a2 a3 a4 a5 a7=>wpAny_pure (hQ x y h' tk a0 b0 a1 a2 a3 a4 a5 a7)) (F.args_zip_next_1 _))))
theorem pyNext_zipD_end {z TI TO i1 i2:Addr} {f1 f2:List Addr} {n1 n2 k:Nat} {P1 P2:Nat→Value→Prop} {S1 S2:Nat→Heap→Prop} {a b:Value} {Q:Option Value→Shared→Prop} (D:ZA z TI TO i1 i2 f1 f2) (D1:Draws prog w A.in1 i1 f1 n1 P1 S1) (D2:Draws prog w A.in1 i2 f2 n2 P2 S2)
  (hz:IsZip s.heap z TI TO .none) (hTI:IsPair s.heap TI (.ref i1) (.ref i2)) (hTO:IsPair s.heap TO a b)
  (h1:S1 k s.heap) (h2:S2 k s.heap) (hend:k=n1∨(k < n1∧k=n2))
  (hQ:∀ h' tk,(∀ c o,c≠z→c≠TO→c≠i1→c≠i2→s.heap.get? c=some o→h'.get? c=some o)→Q none { s with heap:=h',toks:=tk }):wpAny (model prog w) A (pyNext (.ref z)) Q E s:=by
 have hT:s.TypeIs (.ref z) "zip":=⟨_,hz,rfl⟩
 unfold pyNext
 refine wpAny_bind (wpAny_attempt (wpAny_callSpecial?_slot (name:=Str.ofString "__next__") hT F.slot_zip_next
  (wpAny_call_entry F.slot_zip_next hT F.entry_zip_next (zipD_end D D1 D2 hz hTI hTO h1 h2 hend fun h' tk e hk he=>?_) (F.args_zip_next_1 _))))
 obtain ⟨o,ho,hc⟩:=he
 refine wpAny_bind (wpAny_isInstance (T:="StopIteration") (b:=true) ⟨o,ho,hc⟩ isSubtype_stop ?_)
 exact wpAny_pure (hQ _ _ hk)
noncomputable abbrev zipT1 (h:Heap) (l1:Addr):Heap:=h.push { cls:=.type "tuple_iterator",data:=.fields #[.ref l1,.int 0 0] }
noncomputable abbrev zipT2 (h:Heap) (l1 l2:Addr):Heap:=(zipT1 h l1).push { cls:=.type "tuple_iterator",data:=.fields #[.ref l2,.int 0 0] }
noncomputable abbrev zipT3 (h:Heap) (l1 l2:Addr):Heap:=(zipT2 h l1 l2).push { cls:=.type "tuple",data:=.seq #[.ref h.objs.size,.ref (zipT1 h l1).objs.size] }
noncomputable abbrev zipT4 (h:Heap) (l1 l2:Addr):Heap:=(zipT3 h l1 l2).push { cls:=.type "tuple",data:=.seq #[.none,.none] }
noncomputable abbrev zipT5 (h:Heap) (l1 l2:Addr):Heap:=(zipT4 h l1 l2).push { cls:=.type "zip",data:=.fields #[.none,.bool false,.bool false,.ref (zipT2 h l1 l2).objs.size,.ref (zipT3 h l1 l2).objs.size] }
theorem IsTuple_push {h:Heap} {a:Addr} {xs:Array Value} (x:h.IsTuple a xs) (o:Obj):(h.push o).IsTuple a xs:=let ⟨q,e,r⟩:=x; ⟨q,Heap.get?_push_of_some _ e,r⟩
theorem meets_zip_newT (l1 l2:Addr) (xs ys:Array Value) :
  Meets (Builtin.«zip.__new__» ⟨[.type "zip",.ref l1,.ref l2],[]⟩) (fun _ R s=>s.heap.IsTuple l1 xs∧s.heap.IsTuple l2 ys ∧
   R (.ok (.ret (.ref (zipT4 s.heap l1 l2).objs.size))) { s with heap:=zipT5 s.heap l1 l2 }) :=
 .of_wp fun prog w A R s h=>by
  obtain ⟨hp,g,d,tk,os⟩:=s; obtain ⟨hl1,hl2,h⟩:=h
  have hsub:=sub_zip
  have hL1:Heap.IsTuple (Shared.heap ⟨hp,g,d,tk,os⟩) l1 xs:=hl1
  have hL2:Heap.IsTuple (Shared.heap ⟨hp.push { cls:=.type "tuple_iterator",data:=.fields #[.ref l1,.int 0 0] },g,d,tk,os⟩) l2 ys:=IsTuple_push hl2 _
  wp_walk using wpAny_pyIter_tuple hL1,wpAny_pyIter_tuple hL2
  exact ⟨_,rfl,h⟩
theorem call_zip_2T {l1 l2:Addr} {xs ys:Array Value} {Q:Value→Shared→Prop} (hl1:s.heap.IsTuple l1 xs) (hl2:s.heap.IsTuple l2 ys)
  (h:∀ h',IsZip h' (s.heap.objs.size + 4) (s.heap.objs.size + 2) (s.heap.objs.size + 3) .none→IsPair h' (s.heap.objs.size + 2) (.ref s.heap.objs.size) (.ref (s.heap.objs.size + 1)) →
   IsPair h' (s.heap.objs.size + 3) .none .none→h'.IsTupleIter s.heap.objs.size l1 0→h'.IsTupleIter (s.heap.objs.size + 1) l2 0 →
   (∀ c o,s.heap.get? c=some o→h'.get? c=some o)→Q (.ref (s.heap.objs.size + 4)) { s with heap:=h' }) :
  wpAny (model prog w) A (call (.type "zip") [.ref l1,.ref l2]) Q E s:=by
 refine callType_new F.called_zip (by decide) (F.typeCall_zip_2 _ _) (F.newCall_zip_2 _ _) (fun obj=>F.args_object_init_3 obj _ _) F.entry_zip_new
  (meets_zip_newT l1 l2 xs ys) ⟨hl1,hl2,?_⟩
 have z1:(zipT1 s.heap l1).objs.size=s.heap.objs.size + 1:=Heap.size_push ..
 have z2:(zipT2 s.heap l1 l2).objs.size=s.heap.objs.size + 2:=by rw [Heap.size_push,z1]
 have z3:(zipT3 s.heap l1 l2).objs.size=s.heap.objs.size + 3:=by rw [Heap.size_push,z2]
 have z4:(zipT4 s.heap l1 l2).objs.size=s.heap.objs.size + 4:=by rw [Heap.size_push,z3]
 have g5:(zipT5 s.heap l1 l2).get? (zipT4 s.heap l1 l2).objs.size=some _:=Heap.get?_push_size _ rfl
 have g4:(zipT5 s.heap l1 l2).get? (zipT3 s.heap l1 l2).objs.size=some _:=Heap.get?_push_of_some _ (Heap.get?_push_size _ rfl)
 have g3:(zipT5 s.heap l1 l2).get? (zipT2 s.heap l1 l2).objs.size=some _:=Heap.get?_push_of_some _ (Heap.get?_push_of_some _ (Heap.get?_push_size _ rfl))
 have g2:(zipT5 s.heap l1 l2).get? (zipT1 s.heap l1).objs.size=some _:=Heap.get?_push_of_some _ (Heap.get?_push_of_some _ (Heap.get?_push_of_some _ (Heap.get?_push_size _ rfl)))
 have g1:(zipT5 s.heap l1 l2).get? s.heap.objs.size=some _:=Heap.get?_push_of_some _ (Heap.get?_push_of_some _ (Heap.get?_push_of_some _ (Heap.get?_push_of_some _ (Heap.get?_push_size _ rfl))))
 show _∧_
 rw [z2,z3,z4] at g5
 rw [z1,z2] at g3
 rw [z3] at g4
 rw [z1] at g2
 rw [z4]
 exact ⟨⟨_,g5,rfl⟩,h _ g5 g3 g4 ⟨_,g1,rfl,rfl⟩ ⟨_,g2,rfl,rfl⟩ fun c o x =>
  Heap.get?_push_of_some _ (Heap.get?_push_of_some _ (Heap.get?_push_of_some _ (Heap.get?_push_of_some _ (Heap.get?_push_of_some _ x))))⟩
open AutoSeq1 (wpAny_loadPart')
end
end PySem
namespace L2
open PySem PySem.Spec PyProof.Rows
section
variable {X:Cx} {pins:List (Addr×Obj)} {σ:St} {H:Hp} {s:Shared} {K:PySem.W.Frag}
theorem fp_neT {a b:Addr} {xs:List V} (I:Inv X pins σ H s) (f:FpOk X pins H b) (q:SqT X.K H a xs):a≠b:=by
  rintro rfl
  rcases q with (q | ⟨o,q⟩) | ⟨o,its,n,q,_⟩
  · rw [f.1] at q; cases q
  · rw [f.1] at q; cases q
  · have e:=I.ok.mod.kin a o q
    rcases f.2.2.2.1 with z | z
    · exact I.ok.noex _ _ e z
    · exact absurd (Nat.lt_of_lt_of_le (Heap.lt_size e) (Nat.le_trans I.ok.bsz z)) (Nat.lt_irrefl _)
theorem fp_neL {a b:Addr} {xs:List V} (I:Inv X pins σ H s) (f:FpOk X pins H b) (q:SqL X.K H a xs):a≠b:=by
  rintro rfl
  rcases q with (q | ⟨o,q⟩) | ⟨o,its,n,q,_⟩
  · rw [f.1] at q; cases q
  · rw [f.1] at q; cases q
  · have e:=I.ok.mod.kin a o q
    rcases f.2.2.2.1 with z | z
    · exact I.ok.noex _ _ e z
    · exact absurd (Nat.lt_of_lt_of_le (Heap.lt_size e) (Nat.le_trans I.ok.bsz z)) (Nat.lt_irrefl _)
theorem Inv.turnedNew {h':Heap} {t':Nat} {ch:List Addr} {T:Addr} {vs:List V} {us:List Value} (I:Inv X pins σ H s) (hf:∀ b∈ch,FpOk X pins H b) (k:∀ b o,b∉ch→s.heap.get? b=some o→h'.get? b=some o)
    (hT:s.heap.objs.size≤T) (th:∀ b∈ch,∃ o,h'.get? b=some o) (rv:Vals vs us) (hz:vs.length≤sizeLine) (tup:TupN h' T us.toArray):Inv X pins σ (upd H T (.tup vs)) { s with heap:=h',toks:=t' }:=by
  have hn:H T=none:=I.hok.fresh hT
  have nch:∀ b u,H b=some u→b∉ch:=fun b u e z=>by rw [(hf b z).1] at e; cases e
  refine I.step (g':=s.gens) (d':=s.drawn) (ch:=ch) (fun b hb=>?_) (fun b o _ _ hc e _=>k b o hc e) (fun b o _ _ hc e _=>⟨o.slots,k b o hc e⟩) (fun b o _ e n=>?_)
    (fun b o hc e=>⟨o,k b o hc e⟩) (fun b xs e=>by rw [upd_ne (ne_of_none e hn)]; exact e) (fun b o u e=>by rw [upd_ne (ne_of_none e hn)]; exact e) (fun b ps e=>⟨#[],by rw [upd_ne (ne_of_none e hn),e]; simp⟩) (fun m hm=>?_) (fun b u e=>?_) I.bare
  · obtain ⟨f0,f1,f2,f3,f4,f5⟩:=hf b hb
    exact ⟨f3,f1,f4,f5⟩
  · rw [upd_ne (Nat.ne_of_lt (Nat.lt_of_lt_of_le (Heap.lt_size e) hT))]; exact n
  · obtain ⟨o,es,ep,ho,r⟩:=hm
    exact ⟨o,es,ep,k _ o (fun z=>(hf _ z).2.1 rfl) ho,r⟩
  · by_cases hb:b=T
    · subst hb
      rw [upd_same] at e; cases e
      exact ⟨hz,us,rv,tup⟩
    · rw [upd_ne hb] at e
      refine (I.hok b u e).stay (fun c v hc q=>k c v ?_ q) (fun c q=>by rw [upd_ne (ne_of_none q hn)]; exact q) fun c xs q=>by rw [upd_ne (ne_of_none q hn)]; exact q
      rcases hc with z | z
      · rw [z]; exact nch b u e
      · exact nch c _ z
theorem Inv.turnedMany {h':Heap} {t':Nat} {ch:List Addr} (I:Inv X pins σ H s) (hf:∀ b∈ch,FpOk X pins H b) (k:∀ b o,b∉ch→s.heap.get? b=some o→h'.get? b=some o):Inv X pins σ H { s with heap:=h',toks:=t' }:=by
  have nch:∀ b u,H b=some u→b∉ch:=fun b u e z=>by rw [(hf b z).1] at e; cases e
  refine I.step (g':=s.gens) (d':=s.drawn) (ch:=ch) (fun b hb=>?_) (fun b o _ _ hc e _=>k b o hc e) (fun b o _ _ hc e _=>⟨o.slots,k b o hc e⟩) (fun b o _ e n=>n)
    (fun b o hc e=>⟨o,k b o hc e⟩) (fun b xs e=>e) (fun b o u e=>e) (fun b ps e=>⟨#[],by rw [e]; simp⟩) (fun m hm=>?_) (fun b u e=>?_) I.bare
  · obtain ⟨f0,f1,f2,f3,f4,f5⟩:=hf b hb
    exact ⟨f3,f1,f4,f5⟩
  · obtain ⟨o,es,ep,ho,r⟩:=hm
    exact ⟨o,es,ep,k _ o (fun z=>(hf _ z).2.1 rfl) ho,r⟩
  · refine (I.hok b u e).stay (fun c v hc q=>k c v ?_ q) (fun c q=>q) fun c xs q=>q
    rcases hc with z | z
    · rw [z]; exact nch b u e
    · exact nch c _ z
end
structure SeqK (P:Program) (w:World) (K:PySem.W.Frag) (Sq:Hp→Addr→List V→Prop) (IsIt:Heap→Addr→Addr→Nat→Prop) (IsSeq:Heap→Addr→Array Value→Prop):Prop where
  get:∀ {X:Cx} {pins:List (Addr×Obj)} {σ:St} {H:Hp} {s:Shared} {a:Addr} {xs:List V},X.K=K→Inv X pins σ H s→Sq H a xs→∃ its:List Value,Vals xs its∧IsSeq s.heap a its.toArray∧xs.length≤sizeLine
  inj:∀ {X:Cx} {pins:List (Addr×Obj)} {σ:St} {H:Hp} {s:Shared} {a:Addr} {xs ys:List V},X.K=K→Inv X pins σ H s→Sq H a xs→Sq H a ys→xs=ys
  ne:∀ {X:Cx} {pins:List (Addr×Obj)} {σ:St} {H:Hp} {s:Shared} {a b:Addr} {xs:List V},X.K=K→Inv X pins σ H s→FpOk X pins H b→Sq H a xs→a≠b
  drw:∀ (A:Around) (it l:Addr) (items:Array Value),A.handled=none→l≠it→Draws P w A it [it,l] items.size (fun i v=>items[i]? = some v) (fun i h=>IsIt h it l i∧IsSeq h l items)
  obj:∀ {h:Heap} {it l:Addr} {i:Nat},IsIt h it l i→∃ o,h.get? it=some o∧∀ v,o.data≠.cell v
  at':∀ {h h':Heap} {it l:Addr} {i:Nat},IsIt h it l i→(∀ o,h.get? it=some o→h'.get? it=some o)→IsIt h' it l i
theorem seqK_tup {P:Program} {w:World} {K:PySem.W.Frag}:SeqK P w K (SqT K) (fun h it l i=>h.IsTupleIter it l i) (fun h a xs=>h.IsTuple a xs) where
  get:=fun e I q=>by subst e; obtain ⟨its,r,p,z⟩:=I.tuple q; exact ⟨its,r,p,z⟩
  inj:=fun e I q q'=>by subst e; exact I.tuple_inj q q'
  ne:=fun e I f q=>by subst e; exact fp_neT I f q
  drw:=fun A it l items hh hne=>Draws.tuple hh it l hne items
  obj:=fun st=>by obtain ⟨o,e,c,d⟩:=st; exact ⟨o,e,fun v z=>by rw [d] at z; cases z⟩
  at':=fun st k=>st.at k
theorem seqK_lst {P:Program} {w:World} {K:PySem.W.Frag}:SeqK P w K (SqL K) (fun h it l i=>h.IsListIter it l i) (fun h a xs=>h.IsList a xs) where
  get:=fun e I q=>by subst e; obtain ⟨its,r,p,z⟩:=I.list q; exact ⟨its,r,p.isList,z⟩
  inj:=fun e I q q'=>by subst e; exact I.list_inj q q'
  ne:=fun e I f q=>by subst e; exact fp_neL I f q
  drw:=fun A it l items hh hne=>Draws.list hh it l hne items
  obj:=fun st=>by obtain ⟨o,e,c,d⟩:=st; exact ⟨o,e,fun v z=>by rw [d] at z; cases z⟩
  at':=fun st k=>st.at k
noncomputable def Itz (Sq:Hp→Addr→List V→Prop) (a1 a2:Addr):It :=
  ⟨fun i H=>∃ xs ys x y,Sq H a1 xs∧Sq H a2 ys∧xs[i]? = some x∧ys[i]? = some y,
   fun i H v H'=>∃ t x y,v=.ref t∧H t=none∧H'=upd H t (.tup [x,y])∧∀ xs ys,Sq H a1 xs→Sq H a2 ys→xs[i]? = some x∧ys[i]? = some y,
   fun i H=>∃ xs ys,Sq H a1 xs∧Sq H a2 ys∧(i=xs.length∨(i < xs.length∧i=ys.length))⟩
theorem vals_get {xs:List V} {us:List Value} {i:Nat} {u:Value} (r:Vals xs us) (h:us.toArray[i]? = some u):∃ x,xs[i]? = some x∧RelV x u:=by
  have h':us[i]? = some u:=by simpa using h
  have hi:i < xs.length:=by rw [r.length]; exact (List.getElem?_eq_some_iff.mp h').1
  obtain ⟨u',e,q⟩:=r.get (i:=i) (x:=xs[i]) (List.getElem?_eq_getElem hi)
  rw [h'] at e; cases e
  exact ⟨xs[i],List.getElem?_eq_getElem hi,q⟩
theorem turn_zip {P:Program} {w:World} {K:PySem.W.Frag} {Sq:Hp→Addr→List V→Prop} {IsIt:Heap→Addr→Addr→Nat→Prop} {IsSeq:Heap→Addr→Array Value→Prop} (S:SeqK P w K Sq IsIt IsSeq) {es:List Expr} {k:Nat} {pt:Pos} (a1 a2 z TI TO i1 i2:Addr)
    (n1:TI≠z) (n2:TO≠z) (n3:TI≠TO) (n4:TI≠i1) (n5:TI≠i2) (n6:TO≠i1) (n7:TO≠i2) (n8:i1≠z) (n9:i2≠z) (n10:i1≠i2) :
    Turn P w K (.Tuple es k pt) (Itz Sq a1 a2) [z,TI,TO,i1,i2] z (fun i h=>IsZip h z TI TO .none∧IsPair h TI (.ref i1) (.ref i2)∧(∃ a b,IsPair h TO a b)∧IsIt h i1 a1 i∧IsIt h i2 a2 i) where
  mem:=by simp
  obj:=fun i h st b hb=>by
    obtain ⟨hz,hTI,⟨a,b',hTO⟩,h1,h2⟩:=st
    simp only [List.mem_cons,List.not_mem_nil,or_false] at hb
    rcases hb with rfl | rfl | rfl | rfl | rfl
    · exact ⟨_,hz,fun v q=>nomatch q⟩
    · exact ⟨_,hTI,fun v q=>nomatch q⟩
    · exact ⟨_,hTO,fun v q=>nomatch q⟩
    · exact S.obj h1
    · exact S.obj h2
  keep:=fun i h h' st kp=>by
    obtain ⟨hz,hTI,⟨a,b,hTO⟩,h1,h2⟩:=st
    exact ⟨kp _ (by simp) _ hz,kp _ (by simp) _ hTI,⟨a,b,kp _ (by simp) _ hTO⟩,S.at' h1 fun o e=>kp _ (by simp) o e,S.at' h2 fun o e=>kp _ (by simp) o e⟩
  item:=by
    intro X hP hw hK hc i pins s σ H E I hf st hg
    subst hP hw
    obtain ⟨xs,ys,x,y,q1,q2,hx,hy⟩:=hg
    obtain ⟨hz,hTI,⟨a,b,hTO⟩,h1,h2⟩:=st
    obtain ⟨us,r1,p1,l1⟩:=S.get hK I q1
    obtain ⟨vs,r2,p2,l2⟩:=S.get hK I q2
    have ne1:∀ {b:Addr},b∈[z,TI,TO,i1,i2]→a1≠b:=fun hb=>S.ne hK I (hf _ hb) q1
    have ne2:∀ {b:Addr},b∈[z,TI,TO,i1,i2]→a2≠b:=fun hb=>S.ne hK I (hf _ hb) q2
    have hx':i < us.toArray.size:=by have:=(List.getElem?_eq_some_iff.mp hx).1; have:=r1.length; simp; omega
    have hy':i < vs.toArray.size:=by have:=(List.getElem?_eq_some_iff.mp hy).1; have:=r2.length; simp; omega
    have D:ZA z TI TO i1 i2 [i1,a1] [i2,a2]:=⟨n1,n2,n3,n4,n5,by simp,by simp,by simp only [List.mem_cons,List.not_mem_nil,or_false,not_or]; exact ⟨n8.symm,(ne1 (by simp)).symm⟩,by simp only [List.mem_cons,List.not_mem_nil,or_false,not_or]; exact ⟨n9.symm,(ne2 (by simp)).symm⟩,
      by simp only [List.mem_cons,List.not_mem_nil,or_false,not_or]; exact ⟨n6,(ne1 (by simp)).symm⟩,by simp only [List.mem_cons,List.not_mem_nil,or_false,not_or]; exact ⟨n7,(ne2 (by simp)).symm⟩,
      by simp only [List.mem_cons,List.not_mem_nil,or_false,not_or]; exact ⟨n10,(ne2 (by simp)).symm⟩,by simp only [List.mem_cons,List.not_mem_nil,or_false,not_or]; exact ⟨n10.symm,(ne1 (by simp)).symm⟩⟩
    refine pyNext_zipD_item D (S.drw X.A.in1 i1 a1 us.toArray (I.ok.hd hc) (ne1 (by simp))) (S.drw X.A.in1 i2 a2 vs.toArray (I.ok.hd hc) (ne2 (by simp))) hz hTI hTO ⟨h1,p1⟩ ⟨h2,p2⟩ hx' hy' fun u v h' tk pu pv hz' hTO' s1 s2 hT kp=>?_
    refine ⟨_,rfl,?_⟩
    refine wpAny_letOwnedTupleGo_zip (s:={ s with heap:=h',toks:=tk }) hz' fun h'' hz'' hs''=>?_
    obtain ⟨x',ex,rx⟩:=vals_get r1 pu
    obtain ⟨y',ey,ry⟩:=vals_get r2 pv
    have lt:∀ {c:Addr} {o:Obj},s.heap.get? c=some o→c≠s.heap.objs.size:=fun e=>Nat.ne_of_lt (Heap.lt_size e)
    have kp2:∀ c o,c∉[z,TO,i1,i2]→s.heap.get? c=some o→h''.get? c=some o:=fun c o hcn e=>by
      simp only [List.mem_cons,List.not_mem_nil,or_false,not_or] at hcn
      exact hs''.extBut _ _ hcn.1 (kp c o hcn.1 hcn.2.1 hcn.2.2.1 hcn.2.2.2 e)
    have hT2:TupN h'' s.heap.objs.size [u,v].toArray:=⟨_,hs''.extBut _ _ (lt hz).symm hT,rfl,⟨_,rfl⟩,rfl⟩
    have I2:Inv X pins σ (upd H s.heap.objs.size (.tup [x',y'])) { s with heap:=h'',toks:=tk }:=by
      refine I.turnedNew (ch:=[z,TO,i1,i2]) (us:=[u,v]) (fun b hb=>hf b ?_) kp2 (Nat.le_refl _) (fun b hb=>?_) (.cons rx (.cons ry .nil)) (by show 2≤sizeLine; decide) hT2
      · simp only [List.mem_cons,List.not_mem_nil,or_false] at hb ⊢
        rcases hb with rfl | rfl | rfl | rfl <;> simp
      · simp only [List.mem_cons,List.not_mem_nil,or_false] at hb
        rcases hb with rfl | rfl | rfl | rfl
        · exact ⟨_,hz''⟩
        · exact ⟨_,hs''.extBut _ _ n2 hTO'⟩
        · obtain ⟨o,e,_⟩:=S.obj s1.1; exact ⟨_,hs''.extBut _ _ n8 e⟩
        · obtain ⟨o,e,_⟩:=S.obj s2.1; exact ⟨_,hs''.extBut _ _ n9 e⟩
    refine ⟨.ref s.heap.objs.size,_,I2,rfl,⟨_,x',y',rfl,I.hok.fresh (Nat.le_refl _),rfl,fun xs' ys' w1 w2=>?_⟩,⟨hz'',?_,⟨_,_,hs''.extBut _ _ n2 hTO'⟩,S.at' s1.1 fun o e=>hs''.extBut _ _ n8 e,S.at' s2.1 fun o e=>hs''.extBut _ _ n9 e⟩,fun b hb=>?_⟩
    · rw [S.inj hK I w1 q1,S.inj hK I w2 q2]; exact ⟨ex,ey⟩
    · exact hs''.extBut _ _ n1 (kp _ _ n1 n3 n4 n5 hTI)
    · have hb':b≠s.heap.objs.size:=by
        simp only [List.mem_cons,List.not_mem_nil,or_false] at hb
        rcases hb with rfl | rfl | rfl | rfl | rfl
        · exact lt hz
        · exact lt hTI
        · exact lt hTO
        · obtain ⟨o,e,_⟩:=S.obj h1; exact lt e
        · obtain ⟨o,e,_⟩:=S.obj h2; exact lt e
      rw [upd_ne hb']; exact (hf b hb).1
  done:=by
    intro X hP hw hK hc i pins s σ H E I hf st hg
    subst hP hw
    obtain ⟨xs,ys,q1,q2,hend⟩:=hg
    obtain ⟨hz,hTI,⟨a,b,hTO⟩,h1,h2⟩:=st
    obtain ⟨us,r1,p1,l1⟩:=S.get hK I q1
    obtain ⟨vs,r2,p2,l2⟩:=S.get hK I q2
    have ne1:∀ {b:Addr},b∈[z,TI,TO,i1,i2]→a1≠b:=fun hb=>S.ne hK I (hf _ hb) q1
    have ne2:∀ {b:Addr},b∈[z,TI,TO,i1,i2]→a2≠b:=fun hb=>S.ne hK I (hf _ hb) q2
    have D:ZA z TI TO i1 i2 [i1,a1] [i2,a2]:=⟨n1,n2,n3,n4,n5,by simp,by simp,by simp only [List.mem_cons,List.not_mem_nil,or_false,not_or]; exact ⟨n8.symm,(ne1 (by simp)).symm⟩,by simp only [List.mem_cons,List.not_mem_nil,or_false,not_or]; exact ⟨n9.symm,(ne2 (by simp)).symm⟩,
      by simp only [List.mem_cons,List.not_mem_nil,or_false,not_or]; exact ⟨n6,(ne1 (by simp)).symm⟩,by simp only [List.mem_cons,List.not_mem_nil,or_false,not_or]; exact ⟨n7,(ne2 (by simp)).symm⟩,
      by simp only [List.mem_cons,List.not_mem_nil,or_false,not_or]; exact ⟨n10,(ne2 (by simp)).symm⟩,by simp only [List.mem_cons,List.not_mem_nil,or_false,not_or]; exact ⟨n10.symm,(ne1 (by simp)).symm⟩⟩
    have e1:=r1.length
    have e2:=r2.length
    refine pyNext_zipD_end D (S.drw X.A.in1 i1 a1 us.toArray (I.ok.hd hc) (ne1 (by simp))) (S.drw X.A.in1 i2 a2 vs.toArray (I.ok.hd hc) (ne2 (by simp))) hz hTI hTO (k:=i) ⟨h1,p1⟩ ⟨h2,p2⟩ (by simp only [List.size_toArray]; omega) fun h' tk kp=>?_
    refine ⟨rfl,I.turnedMany (ch:=[z,TO,i1,i2]) (fun b hb=>hf b ?_) fun c o hcn e=>?_⟩
    · simp only [List.mem_cons,List.not_mem_nil,or_false] at hb ⊢
      rcases hb with rfl | rfl | rfl | rfl <;> simp
    · simp only [List.mem_cons,List.not_mem_nil,or_false,not_or] at hcn
      exact kp c o hcn.1 hcn.2.1 hcn.2.2.1 hcn.2.2.2 e
  self:=fun A i s Q E st h=>wpAny_pyIter_zip st.1 h
section
variable {X:Cx} {es':List Expr} {kt:Nat} {pt:Pos}
noncomputable def iZip (Sq:Hp→Addr→List V→Prop) (ta:TA):TI:=fun σ H R=>ta σ H fun vs H1=>∃ a b,vs=[.ref a,.ref b]∧(∃ xs ys,Sq H1 a xs∧Sq H1 b ys)∧R (Itz Sq a b) H1
theorem zip_fp {pins:List (Addr×Obj)} {σ:St} {H:Hp} {s:Shared} {n:Nat} (I:Inv X pins σ H s) (hn:s.heap.objs.size=n):∀ b∈[n + 4,n + 2,n + 3,n,n + 1],FpOk X pins H b:=fun b hb=>by
  have:s.heap.objs.size≤b:=by
    simp only [List.mem_cons,List.not_mem_nil,or_false] at hb
    rcases hb with rfl | rfl | rfl | rfl | rfl <;> rw [hn]
    · exact Nat.le_add_right _ _
    · exact Nat.le_add_right _ _
    · exact Nat.le_add_right _ _
    · exact Nat.le_refl _
    · exact Nat.le_add_right _ _
  exact I.fpOk this (I.hok.fresh this)
theorem pi_zipT {a b:Expr} {ta:TA} {p pos:Pos} (hg:Gl X "zip") (hm:X.mg "zip"=none) (ha:PA X [a,b] ta) (hs:starEach [a,b] X.env=[(false,eval a X.env),(false,eval b X.env)]:=by rfl) (hs2:starEach [b] X.env=[(false,eval b X.env)]:=by rfl) :
    PI X (.Tuple es' kt pt) (.Call (.Name "zip" p) [a,b] [] pos) (iZip (SqT X.K) ta):=by
  intro pins s σ H R I h
  refine Call_ (ld_blt I hg hm boot_zip (PyProof.Rows.callWith_type1 (thn (ha pos pins s σ H _ I h) fun us s1 ⟨vs,H1,I1,r1,q1⟩=>?_) (by rw [hs,hs2]) (by rw [hs2]; rfl)))
  obtain ⟨a1,a2,e,⟨xs,ys,q1,q2⟩,q⟩:=q1
  subst e
  cases r1 with
  | cons r rr =>
    cases rr with
    | cons r' rr =>
      cases rr
      cases r
      cases r'
      obtain ⟨us,ru,pu,lu⟩:=I1.tuple q1
      obtain ⟨vs,rv,pv,lv⟩:=I1.tuple q2
      refine call_zip_2T pu pv fun h' hz hTI hTO t1 t2 kp=>wpAny_pyIter_zip hz ?_
      generalize hn:s1.heap.objs.size=n at hz hTI hTO t1 t2
      have ne:∀ {i j:Nat},i≠j→n + i≠n + j:=fun h e=>h (Nat.add_left_cancel e)
      have ne0:∀ {i:Nat},i≠0→n + i≠n:=fun h e=>h (Nat.add_left_cancel (e.trans (Nat.add_zero n).symm))
      refine ⟨n + 4,_,_,_,H1,rfl,I1.kept (t':=s1.toks) kp,turn_zip seqK_tup a1 a2 (n + 4) (n + 2) (n + 3) n (n + 1) (ne (by decide)) (ne (by decide)) (ne (by decide)) (ne0 (by decide)) (ne (by decide)) (ne0 (by decide)) (ne (by decide)) (ne0 (by decide)).symm (ne (by decide)) (ne0 (by decide)).symm,⟨hz,hTI,⟨_,_,hTO⟩,t1,t2⟩,zip_fp I1 hn,q⟩
theorem pi_zipL {a b:Expr} {ta:TA} {p pos:Pos} (hg:Gl X "zip") (hm:X.mg "zip"=none) (ha:PA X [a,b] ta) (hs:starEach [a,b] X.env=[(false,eval a X.env),(false,eval b X.env)]:=by rfl) (hs2:starEach [b] X.env=[(false,eval b X.env)]:=by rfl) :
    PI X (.Tuple es' kt pt) (.Call (.Name "zip" p) [a,b] [] pos) (iZip (SqL X.K) ta):=by
  intro pins s σ H R I h
  refine Call_ (ld_blt I hg hm boot_zip (PyProof.Rows.callWith_type1 (thn (ha pos pins s σ H _ I h) fun us s1 ⟨vs,H1,I1,r1,q1⟩=>?_) (by rw [hs,hs2]) (by rw [hs2]; rfl)))
  obtain ⟨a1,a2,e,⟨xs,ys,q1,q2⟩,q⟩:=q1
  subst e
  cases r1 with
  | cons r rr =>
    cases rr with
    | cons r' rr =>
      cases rr
      cases r
      cases r'
      obtain ⟨us,ru,pu,lu⟩:=I1.list q1
      obtain ⟨vs,rv,pv,lv⟩:=I1.list q2
      refine call_zip_2 pu.isList pv.isList fun h' hz hTI hTO t1 t2 _ kp=>wpAny_pyIter_zip hz ?_
      generalize hn:s1.heap.objs.size=n at hz hTI hTO t1 t2
      have ne:∀ {i j:Nat},i≠j→n + i≠n + j:=fun h e=>h (Nat.add_left_cancel e)
      have ne0:∀ {i:Nat},i≠0→n + i≠n:=fun h e=>h (Nat.add_left_cancel (e.trans (Nat.add_zero n).symm))
      refine ⟨n + 4,_,_,_,H1,rfl,I1.kept (t':=s1.toks) kp,turn_zip seqK_lst a1 a2 (n + 4) (n + 2) (n + 3) n (n + 1) (ne (by decide)) (ne (by decide)) (ne (by decide)) (ne0 (by decide)) (ne (by decide)) (ne0 (by decide)) (ne (by decide)) (ne0 (by decide)).symm (ne (by decide)) (ne0 (by decide)).symm,⟨hz,hTI,⟨_,_,hTO⟩,t1,t2⟩,zip_fp I1 hn,q⟩
end
end L2
namespace L2
open PySem PySem.Spec PyProof.Rows
section
variable {X:Cx}
theorem truth_bools {A:Around} {bs:List Bool} {its:List Value} (r:Vals (bs.map V.bl) its):TruthOf X.prog X.w A (fun i v=>its.toArray[i]? = some v) (fun i=>bs.getD i false):=by
 intro i v s Q E hP hQ
 obtain ⟨x,ex,rx⟩:=vals_get r hP
 rw [List.getElem?_map] at ex
 cases e:bs[i]? with
 | none=>rw [e] at ex; cases ex
 | some b =>
  rw [e] at ex
  cases ex
  cases rx
  refine wpAny_truthy_bool ?_
  have:bs.getD i false=b:=by rw [List.getD_eq_getElem?_getD,e]; rfl
  have hQ:Q (bs.getD i false) s:=hQ
  rw [this] at hQ
  exact hQ
theorem range_all (bs:List Bool):((List.range bs.length).all fun i=>bs.getD i false)=bs.all id:=by
 rw [Bool.eq_iff_iff,List.all_eq_true,List.all_eq_true]
 constructor
 ·intro h b hb
  obtain ⟨i,hi,e⟩:=List.mem_iff_getElem.mp hb
  have:=h i (List.mem_range.mpr hi)
  rw [List.getD_eq_getElem?_getD,List.getElem?_eq_getElem hi] at this
  rw [← e]; exact this
 ·intro h i hi
  have hi:=List.mem_range.mp hi
  rw [List.getD_eq_getElem?_getD,List.getElem?_eq_getElem hi]
  exact h _ (List.getElem_mem hi)
theorem after_walk {pins:List (Addr×Obj)} {σ:St} {H:Hp} {s:Shared} {h':Heap} {tk:Nat} {o:Obj} (I:Inv X pins σ H s) (kp:∀ b q,b∉[s.heap.objs.size]→(s.heap.push o).get? b=some q→h'.get? b=some q):Inv X pins σ H { s with heap:=h',toks:=tk } :=
 I.kept fun b q e=>kp b q (by simp only [List.mem_cons,List.not_mem_nil,or_false]; exact Nat.ne_of_lt (Heap.lt_size e)) (Heap.get?_push_of_some _ e)
theorem call_allB (hc:X.calm=true):CallR X (.builtin "all") (fun xs H Q=>∃ (p:Addr) (bs:List Bool),xs=[.ref p]∧SqL X.K H p (bs.map V.bl)∧Q (.bl (bs.all id)) H):=by
 intro pins s σ H xs us Q I r h
 obtain ⟨p,bs,rfl,hp,q⟩:=h
 obtain ⟨u,rfl,ru⟩:=vals1 r
 cases ru
 obtain ⟨its,rv,pl,hz⟩:=I.list hp
 have hL:=pl.isList
 have hpn:p≠s.heap.objs.size:=by obtain ⟨o,e,_⟩:=hL; exact Nat.ne_of_lt (Heap.lt_size e)
 refine call_all_walk (wpAny_pyIter_list hL ⟨s.heap.objs.size,_,_,its.toArray.size,_,_,fun i=>bs.getD i false,rfl,Walks.list (A:=X.A.in1) (I.ok.hd hc) s.heap.objs.size p hpn its.toArray,⟨⟨_,Heap.get?_push_size _ rfl,rfl,rfl⟩,hL.push _⟩,truth_bools rv,fun h' tk kp=>?_⟩)
 have hl:=rv.length
 rw [List.length_map] at hl
 have I1:Inv X pins σ H { s with heap:=h',toks:=tk }:=after_walk I kp
 refine ⟨.bl (bs.all id),H,I1,?_,q⟩
 show Value.bool _=Value.bool _
 rw [List.size_toArray,← hl,range_all]
noncomputable def tyName (H:Hp):V→String→Prop
 | .non,n=>n="NoneType"
 | .bl _,n=>n="bool"
 | .int _,n=>n="int"
 | .str _,n=>n="str"
 | .ref a,n=>(n="list"∧((∃ xs,H a=some (.lst xs))∨∃ o xs,H a=some (.frz o (.lst xs))))∨(n="tuple"∧∃ xs,H a=some (.tup xs))∨(n="dict"∧((∃ k,H a=some (.dK k))∨∃ k,H a=some (.dT k)))
 | _,_=>False
theorem tyOf_name {K:PySem.W.Frag} {H:Hp} {x:V} {n:String} (h:tyName H x n):TyOf K H x (.type n):=by
 cases x with
 | non=>cases (show n="NoneType" from h); exact .non
 | bl b=>cases (show n="bool" from h); exact .bl b
 | int b=>cases (show n="int" from h); exact .int b
 | str b=>cases (show n="str" from h); exact .str b
 | ref a =>
  rcases h with ⟨rfl,⟨xs,e⟩ | ⟨o,xs,e⟩⟩ | ⟨rfl,xs,e⟩ | ⟨rfl,⟨k,e⟩ | ⟨k,e⟩⟩
  ·exact .lst e
  ·exact .frz e
  ·exact .tup e
  ·exact .dK e
  ·exact .dT e
 | _=>exact False.elim h
noncomputable def subT (n T:String):Bool:=n == T || (n == "bool" && T == "int")
noncomputable def kitG (n T:String):Option Bool:=if (Value.type n == Value.type T)=true then some true else if PySem.W.kitMeta T=true then (fastBuiltinMro n).map (·.contains (Value.type T)) else none
theorem kit_sub {K:PySem.W.Frag} {n T:String} (hn:n∈["NoneType","bool","int","str","list","tuple","dict"]) (hT:T∈["bool","int","str","list","tuple","dict"]):PySem.W.kitOne K (.type n) (.type T)=some (subT n T):=by
 show kitG n T=some (subT n T)
 simp only [List.mem_cons,List.not_mem_nil,or_false] at hn hT
 rcases hn with rfl | rfl | rfl | rfl | rfl | rfl | rfl <;> rcases hT with rfl | rfl | rfl | rfl | rfl | rfl <;> decide +kernel
theorem tyName_mem {H:Hp} {x:V} {n:String} (h:tyName H x n):n∈["NoneType","bool","int","str","list","tuple","dict"]:=by
 cases x with
 | non=>cases (show n="NoneType" from h); simp
 | bl b=>cases (show n="bool" from h); simp
 | int b=>cases (show n="int" from h); simp
 | str b=>cases (show n="str" from h); simp
 | ref a=>rcases h with ⟨rfl,_⟩ | ⟨rfl,_⟩ | ⟨rfl,_⟩ <;> simp
 | _=>exact False.elim h
theorem call_isinst:CallR X (.builtin "isinstance") (fun xs H Q=>∃ x n T,xs=[x,.ty T]∧tyName H x n∧T∈["bool","int","str","list","tuple","dict"]∧Q (.bl (subT n T)) H):=by
 intro pins s σ H xs us Q I r h
 obtain ⟨x,n,T,rfl,hx,hT,q⟩:=h
 obtain ⟨u,v,rfl,ru,rv⟩:=Vals.two r
 cases (show v=Value.type T from rv)
 exact isinst_ok I ru (tyOf_name hx) (kit_sub (tyName_mem hx) hT) fun tk=>⟨.bl _,H,I.tok tk,rfl,q⟩
end
end L2
namespace L2
open PySem PySem.Spec PyProof.Rows
noncomputable def excP (ea C:Addr):Heap→Prop:=fun h=>∃ o,h.get? ea=some o∧o.cls=.ref C
noncomputable def dicP (a:Addr):Heap→Prop:=PySem.W.KitAt a "dict"
structure Def (K:PySem.W.Frag) (mg:Str→Option Value) (x:Str) (st:Stmt) (ps:List Str) (f:Addr) (fd:FuncData):Prop where
 fn:Fun K x x st f fd
 at':mg x=some (.ref f)
 bd:Binds K fd ps []
section
variable {X:Cx}
theorem pe_fn {x:Str} {st:Stmt} {ps:List Str} {f:Addr} {fd:FuncData} {k:Nat} {sp:Sp} {e:Expr} {es:List Expr} {t:TA} {p pos:Pos} (D:Def X.K X.mg x st ps f fd) (G:FnOk X.prog X.w X.K X.mg X.base CX0 k f fd ps sp) (hr:Room k X.A) (ha:PA X (e :: es) t) (hg:Gl X x:=by rfl)
  (hdb:(x == ("__debug__":Str))=false:=by decide) (he:starEach (e :: es) X.env=(false,eval e X.env) :: starEach es X.env:=by rfl) (hpl:(backTo pos (starEach es X.env)).any (·.1)=false:=by rfl) :
  PE X (.Call (.Name x p) (e :: es) [] pos) (tCall sp [] E0 t):=pe_call G hr hg D.at' D.fn.kp D.bd .nil pass0 ha hdb he hpl
theorem pe_ty {x:Str} {n:String} {pos:Pos} (hg:Gl X x) (hm:X.mg x=none) (hv:bootBuiltins x=some (.type n)) (hn:x≠"__name__":=by decide) (hd:(x == ("__debug__":Str))=false:=by decide):PE X (.Name x pos) (tC (.ty n)):=pe_bltn hg hm hv rfl hn hd
end
end L2
namespace L2
open PySem PySem.Spec PyProof.Rows
noncomputable def isStar:Expr→Bool
 | .Starred _ _=>true
 | _=>false
theorem starE {a:Expr} {es:List Expr} {env:Env} (h:isStar a=false):starEach (a :: es) env=(false,eval a env) :: starEach es env:=by
 cases a <;> first | (cases h; done) | (simp only [starEach]; done)
noncomputable def noStar (es:List Expr):Bool:=es.all fun a=>!isStar a
theorem starAny {es:List Expr} {env:Env} {pos:Pos} (h:noStar es=true):(backTo pos (starEach es env)).any (·.1)=false:=by
 induction es with
 | nil=>simp only [starEach]; rfl
 | cons a es ih =>
  have h:(!isStar a && noStar es)=true:=h
  rw [Bool.and_eq_true] at h
  rw [starE (by simpa using h.1)]
  have:=ih h.2
  simpa [backTo] using this
theorem star1 {a:Expr} {env:Env} (h:isStar a=false):starEach [a] env=[(false,eval a env)]:=by
 rw [starE h]; simp only [starEach]
theorem star2 {a b:Expr} {env:Env} (h:isStar a=false) (g:isStar b=false):starEach [a,b] env=[(false,eval a env),(false,eval b env)]:=by
 rw [starE h,star1 g]
theorem starFew {a:Expr} {env:Env} {pos:Pos} (h:isStar a=false):((backTo pos (starEach [a] env)).all (fun x=>!x.1) && (backToKw pos (keywordEach [] env)).all (fun x=>x.1.isSome)
   && decide ([a].length + ([]:List Keyword).length + (if ([]:List Keyword).isEmpty then 0 else 1) < 30))=true:=by
 rw [star1 h]; simp [backTo,backToKw,keywordEach]
inductive D where
 | non | bl (b:Bool) | int (i:Int) | str (x:Str) | ty (n:String) | tup (l:List D) | lst (l:List D) | ref (k:Nat) | scr (l:List Int) | fn (x:Str) (n:Nat) | exc (x:Str) | dic | lam (k:Nat) (e:Expr) (ns:List Str) (l:List D)
inductive Cell where
 | lst (l:List D)
mutual
noncomputable def noRef:D→Bool
 | .tup l=>noRefs l
 | .lst l=>noRefs l
 | .ref _=>false
 | .non=>true
 | .bl _=>true
 | .int _=>true
 | .str _=>true
 | .ty _=>true
 | .scr _=>true
 | .fn _ _=>true
 | .exc _=>true
 | .dic=>true
 | .lam _ _ _ _=>false
noncomputable def noRefs:List D→Bool
 | []=>true
 | d :: l=>noRef d && noRefs l
end
mutual
noncomputable def noLam:D→Bool
 | .tup l=>noLams l
 | .lst l=>noLams l
 | .lam _ _ _ _=>false
 | .ref _=>true
 | .non=>true
 | .bl _=>true
 | .int _=>true
 | .str _=>true
 | .ty _=>true
 | .scr _=>true
 | .fn _ _=>true
 | .exc _=>true
 | .dic=>true
noncomputable def noLams:List D→Bool
 | []=>true
 | d :: l=>noLam d && noLams l
end
theorem noRefs_append:∀ {l m:List D},noRefs (l ++ m)=(noRefs l && noRefs m)
 | [],m=>by simp [noRefs]
 | d :: l,m=>by simp [noRefs,noRefs_append (l:=l),Bool.and_assoc]
theorem noRefs_set:∀ {l:List D} {i:Nat} {d:D},noRefs l=true→noRef d=true→noRefs (l.set i d)=true
 | [],i,d,h,g=>h
 | b :: l,0,d,h,g=>by simp_all [noRefs]
 | b :: l,i + 1,d,h,g=>by
  simp only [noRefs,Bool.and_eq_true] at h
  simp only [List.set_cons_succ,noRefs,Bool.and_eq_true]
  exact ⟨h.1,noRefs_set h.2 g⟩
theorem noRefs_iff:∀ {l:List D},noRefs l=true↔∀ d∈l,noRef d=true
 | []=>by simp [noRefs]
 | d :: l=>by simp [noRefs,noRefs_iff (l:=l)]
theorem noRefs_ints {l:List Int}:noRefs (l.map D.int)=true:=noRefs_iff.mpr fun d h=>by
 obtain ⟨i,_,rfl⟩:=List.mem_map.mp h
 rfl
inductive R (α:Type) where
 | ok (a:α) (c:List Cell)
 | bad
noncomputable def R.bind {α β:Type} (r:R α) (f:α→List Cell→R β):R β:=match r with
 | .ok a c=>f a c
 | .bad=>.bad
@[simp] theorem R.bind_ok {α β:Type} {a:α} {c:List Cell} {f:α→List Cell→R β}:(R.ok a c).bind f=f a c:=rfl
@[simp] theorem R.bind_bad {α β:Type} {f:α→List Cell→R β}:(R.bad:R α).bind f=.bad:=rfl
noncomputable def lamNames:List Str:=["web_of","other_web","turned_at","pairs_web","field_web","net_web"]
noncomputable def lamQ (x:Str):Str:=x ++ ".<locals>." ++ "<lambda>"
noncomputable def codeP (c:Addr) (q:Str):Heap→Prop:=fun h=>h.CodeRec (.ref c) q
noncomputable def lamP (a:Addr) (o:Obj):Heap→Prop:=fun h=>h.get? a=some o
noncomputable def LamObj (e:Expr) (o:Obj) (q:Str) (c:Addr) (cl:List (Str×Addr)):Prop:=match e with
 | .Lambda params body scope _=>∃ pm ctv,o=PySem.W.kla_obj "<lambda>" q params body scope cl pm c ctv
 | _=>False
noncomputable def isTbl:HO→Bool
 | .tbl _=>true
 | _=>false
noncomputable def CellsAt (H:Hp) (cl:List (Str×Addr)):List Str→List V→Prop
 | [],xs=>xs=[]
 | x :: ns,xs=>∃ v r c oc u,xs=v :: r∧cl.lookup x=some c∧H c=some (.frz oc (.own 0))∧oc.data=.cell (some u)∧RelV v u∧CellsAt H cl ns r
noncomputable def ClOk (cl:List (Str×Addr)) (ns:List Str):Prop:=(∀ x y c,cl.lookup x=some c→cl.lookup y=some c→x=y)∧∀ x c,cl.lookup x=some c→x∈ns
noncomputable def TabAt (H:Hp) (P:Addr) (q:Str):Prop:=∃ ps,H P=some (.tbl ps)∧TriplesOk ps.toList∧∀ pos cv,codeAmong pos ps.toList=some cv→∃ c,cv=.ref c∧H c=some (.ext (codeP c q))
noncomputable def TabOk (K:PySem.W.Frag) (H:Hp):Prop:=∀ x∈lamNames,∀ c P,PySem.W.tabIn K x=some (c,P)→TabAt H P (lamQ x)
theorem CellsAt.mono {H H':Hp} {cl:List (Str×Addr)}:∀ {ns:List Str} {xs:List V},(∀ c o,H c=some (.frz o (.own 0))→H' c=some (.frz o (.own 0)))→CellsAt H cl ns xs→CellsAt H' cl ns xs
 | [],_,_,h=>h
 | x :: ns,xs,k,h=>by
  obtain ⟨v,r,c,oc,u,e,h0,h1,h2,h3,h4⟩:=h
  exact ⟨v,r,c,oc,u,e,h0,k _ _ h1,h2,h3,CellsAt.mono k h4⟩
theorem TabAt.mono {H H':Hp} {P:Addr} {q:Str} (h:TabAt H P q) (k1:∀ ps,H P=some (.tbl ps)→H' P=some (.tbl ps)) (k2:∀ c φ,H c=some (.ext φ)→H' c=some (.ext φ)):TabAt H' P q:=by
 obtain ⟨ps,h1,h2,h3⟩:=h
 exact ⟨ps,k1 ps h1,h2,fun pos cv e=>let ⟨c,e1,e2⟩:=h3 pos cv e; ⟨c,e1,k2 _ _ e2⟩⟩
theorem TabOk.mono {K:PySem.W.Frag} {H H':Hp} (h:TabOk K H) (k1:∀ P ps,H P=some (.tbl ps)→H' P=some (.tbl ps)) (k2:∀ c φ,H c=some (.ext φ)→H' c=some (.ext φ)):TabOk K H':=fun x hx c P e=>(h x hx c P e).mono (k1 P) k2
noncomputable def SqP (K:PySem.W.Frag) (ρ:List Addr) (H:Hp) (a:Addr) (xs:List V):Prop:=(Rd H a (.lst xs)∧a∉ρ)∨SqL K (fun _=>none) a xs
mutual
noncomputable def Rel (K:PySem.W.Frag) (ρ:List Addr) (H:Hp):D→V→Prop
 | .non,v=>v=.non
 | .bl b,v=>v=.bl b
 | .int i,v=>v=.int i
 | .str x,v=>v=.str x
 | .ty n,v=>v=.ty n
 | .tup l,v=>∃ a xs,v=.ref a∧H a=some (.tup xs)∧Rels K ρ H l xs
 | .lst l,v=>∃ a xs,v=.ref a∧(H a=some (.lst xs)∧a∉ρ)∧Rels K ρ H l xs
 | .ref k,v=>∃ a,v=.ref a∧ρ[k]? = some a
 | .scr l,v=>∃ a,v=.ref a∧SqP K ρ H a (l.map V.int)
 | .fn x n,v=>∃ a,v=.ref a∧PySem.W.nsIn K mainGlobals x=some (some (.ref a))
 | .dic,v=>∃ a,v=.ref a∧H a=some (.ext (dicP a))
 | .exc x,v=>∃ a C,v=.ref a∧PySem.W.nsIn K mainGlobals x=some (some (.ref C))∧H a=some (.ext (excP a C))
 | .lam _ e ns l,v=>∃ a o q c cl xs,v=.ref a∧H a=some (.ext (lamP a o))∧LamObj e o q c cl∧H c=some (.ext (codeP c q))∧ClOk cl ns∧CellsAt H cl ns xs∧Rels K ρ H l xs
noncomputable def Rels (K:PySem.W.Frag) (ρ:List Addr) (H:Hp):List D→List V→Prop
 | [],xs=>xs=[]
 | d :: l,xs=>∃ x r,xs=x :: r∧Rel K ρ H d x∧Rels K ρ H l r
end
theorem SqP.sql {K:PySem.W.Frag} {ρ:List Addr} {H:Hp} {a:Addr} {xs:List V} (h:SqP K ρ H a xs):SqL K H a xs:=by
 rcases h with ⟨h,_⟩ | (h | h)
 ·exact .inl h
 ·rcases h with h | ⟨o,h⟩ <;> cases h
 ·exact .inr h
noncomputable def CellOk (K:PySem.W.Frag) (ρ:List Addr) (H:Hp) (a:Addr):Cell→Prop
 | .lst l=>noRefs l=true∧∃ xs,H a=some (.lst xs)∧Rels K ρ H l xs
structure Wd (K:PySem.W.Frag) (ρ:List Addr) (H:Hp) (c:List Cell):Prop where
 nd:ρ.Nodup
 len:ρ.length=c.length
 cel:∀ (k:Nat) (a:Addr) (cl:Cell),ρ[k]? = some a→c[k]? = some cl→CellOk K ρ H a cl
 tab:TabOk K H
structure Ext (ρ:List Addr) (H:Hp) (ρ':List Addr) (H':Hp):Prop where
 pre:∀ (k:Nat) (a:Addr),ρ[k]? = some a→ρ'[k]? = some a
 keep:∀ a o,H a=some o→a∉ρ→isTbl o=false→H' a=some o∧a∉ρ'
theorem Ext.refl {ρ:List Addr} {H:Hp}:Ext ρ H ρ H:=⟨fun _ _ h=>h,fun _ _ h n _=>⟨h,n⟩⟩
theorem Ext.trans {ρ ρ1 ρ2:List Addr} {H H1 H2:Hp} (x:Ext ρ H ρ1 H1) (y:Ext ρ1 H1 ρ2 H2):Ext ρ H ρ2 H2 :=
 ⟨fun k a h=>y.pre k a (x.pre k a h),fun a o h n t=>let ⟨h1,n1⟩:=x.keep a o h n t; y.keep a o h1 n1 t⟩
section
variable {K:PySem.W.Frag} {ρ ρ':List Addr} {H H':Hp} {c c':List Cell}
theorem Wd.at' (W:Wd K ρ H c) {a:Addr} (h:a∈ρ):∃ xs,H a=some (.lst xs):=by
 obtain ⟨k,hk,e⟩:=List.mem_iff_getElem.mp h
 have hc:k < c.length:=by rw [← W.len]; exact hk
 have q:=W.cel k a c[k] (by rw [List.getElem?_eq_getElem hk,e]) (List.getElem?_eq_getElem hc)
 cases hcl:c[k] with
 | lst l=>rw [hcl] at q; obtain ⟨_,xs,h,_⟩:=q; exact ⟨xs,h⟩
theorem Wd.noT (W:Wd K ρ H c) {a:Addr} {xs:List V} (h:H a=some (.tup xs)):a∉ρ:=fun m=>by
 obtain ⟨ys,e⟩:=W.at' m
 rw [e] at h; cases h
theorem Wd.nil (W:Wd K ρ H c) {a:Addr} (h:H a=none):a∉ρ:=fun m=>by
 obtain ⟨ys,e⟩:=W.at' m
 rw [e] at h; cases h
theorem tup_mono (W:Wd K ρ H c) (x:Ext ρ H ρ' H') {a:Addr} {xs:List V} (h:H a=some (.tup xs)):H' a=some (.tup xs):=(x.keep a _ h (W.noT h) rfl).1
theorem lst_mono (x:Ext ρ H ρ' H') {a:Addr} {xs:List V} (h:H a=some (.lst xs)∧a∉ρ):H' a=some (.lst xs)∧a∉ρ':=x.keep a _ h.1 h.2 rfl
theorem sqP_mono (x:Ext ρ H ρ' H') {a:Addr} {xs:List V} (h:SqP K ρ H a xs):SqP K ρ' H' a xs:=by
 rcases h with ⟨h,n⟩ | h
 ·rcases h with h | ⟨o,h⟩
  ·exact .inl ⟨.inl (x.keep a _ h n rfl).1,(x.keep a _ h n rfl).2⟩
  ·exact .inl ⟨.inr ⟨o,(x.keep a _ h n rfl).1⟩,(x.keep a _ h n rfl).2⟩
 ·exact .inr h
mutual
theorem Rel.mono (W:Wd K ρ H c) (x:Ext ρ H ρ' H'):∀ (d:D) (v:V),Rel K ρ H d v→Rel K ρ' H' d v
 | .non,v,h=>h
 | .bl b,v,h=>h
 | .int i,v,h=>h
 | .str y,v,h=>h
 | .ty n,v,h=>h
 | .tup l,v,h=>by
  obtain ⟨a,xs,e,s,r⟩:=h
  exact ⟨a,xs,e,tup_mono W x s,Rels.mono W x l xs r⟩
 | .lst l,v,h=>by
  obtain ⟨a,xs,e,s,r⟩:=h
  exact ⟨a,xs,e,lst_mono x s,Rels.mono W x l xs r⟩
 | .ref k,v,h=>by
  obtain ⟨a,e,s⟩:=h
  exact ⟨a,e,x.pre k a s⟩
 | .scr l,v,h=>by
  obtain ⟨a,e,s⟩:=h
  exact ⟨a,e,sqP_mono x s⟩
 | .fn a n,v,h=>h
 | .dic,v,h=>by
  obtain ⟨a,e,q⟩:=h
  exact ⟨a,e,(x.keep a _ q (fun m=>by obtain ⟨ys,z⟩:=W.at' m; rw [z] at q; cases q) rfl).1⟩
 | .exc y,v,h=>by
  obtain ⟨a,C,e,n,q⟩:=h
  exact ⟨a,C,e,n,(x.keep a _ q (fun m=>by obtain ⟨ys,z⟩:=W.at' m; rw [z] at q; cases q) rfl).1⟩
 | .lam _ y ns l,v,h=>by
  obtain ⟨a,o,q,c,cl,xs,e,h1,h2,h3,h4,h5,h6⟩:=h
  have nr:∀ (b:Addr) (u:HO),H b=some u→(∀ ys,u≠.lst ys)→b∉ρ:=fun b u q n m=>by obtain ⟨ys,z⟩:=W.at' m; rw [z] at q; exact n ys (Option.some.inj q).symm
  exact ⟨a,o,q,c,cl,xs,e,(x.keep a _ h1 (nr a _ h1 fun _ z=>nomatch z) rfl).1,h2,(x.keep c _ h3 (nr c _ h3 fun _ z=>nomatch z) rfl).1,h4,h5.mono (fun b o z=>(x.keep b _ z (nr b _ z fun _ z=>nomatch z) rfl).1),Rels.mono W x l xs h6⟩
theorem Rels.mono (W:Wd K ρ H c) (x:Ext ρ H ρ' H'):∀ (l:List D) (xs:List V),Rels K ρ H l xs→Rels K ρ' H' l xs
 | [],xs,h=>h
 | d :: l,xs,h=>by
  obtain ⟨y,r,e,h1,h2⟩:=h
  exact ⟨y,r,e,Rel.mono W x d y h1,Rels.mono W x l r h2⟩
end
theorem Rels.length:∀ {l:List D} {xs:List V},Rels K ρ H l xs→xs.length=l.length
 | [],xs,h=>by cases (show xs=[] from h); rfl
 | d :: l,xs,h=>by
  obtain ⟨y,r,rfl,h1,h2⟩:=h
  simp only [List.length_cons,Rels.length h2]
theorem Rels.get:∀ {l:List D} {xs:List V} {i:Nat} {d:D},Rels K ρ H l xs→l[i]? = some d→∃ x,xs[i]? = some x∧Rel K ρ H d x
 | [],_,_,_,_,e=>by cases e
 | _ :: l,_,0,_,h,e=>by
  obtain ⟨y,r,rfl,h1,h2⟩:=h
  cases e
  exact ⟨y,rfl,h1⟩
 | _ :: l,_,i + 1,_,h,e=>by
  obtain ⟨y,r,rfl,h1,h2⟩:=h
  exact Rels.get (i:=i) h2 e
theorem Rels.append:∀ {l m:List D} {xs ys:List V},Rels K ρ H l xs→Rels K ρ H m ys→Rels K ρ H (l ++ m) (xs ++ ys)
 | [],m,xs,ys,h,g=>by cases (show xs=[] from h); exact g
 | d :: l,m,xs,ys,h,g=>by
  obtain ⟨y,r,rfl,h1,h2⟩:=h
  exact ⟨y,r ++ ys,rfl,h1,Rels.append h2 g⟩
theorem Rels.set:∀ {l:List D} {xs:List V} {d:D} {x:V} (i:Nat),Rels K ρ H l xs→Rel K ρ H d x→Rels K ρ H (l.set i d) (xs.set i x)
 | [],xs,d,x,i,h,g=>by cases (show xs=[] from h); exact rfl
 | b :: l,xs,d,x,0,h,g=>by
  obtain ⟨y,r,rfl,h1,h2⟩:=h
  exact ⟨x,r,rfl,g,h2⟩
 | b :: l,xs,d,x,i + 1,h,g=>by
  obtain ⟨y,r,rfl,h1,h2⟩:=h
  exact ⟨y,r.set i x,rfl,h1,Rels.set i h2 g⟩
theorem Rels.ints {l:List Int}:Rels K ρ H (l.map D.int) (l.map V.int):=by
 induction l with
 | nil=>exact rfl
 | cons a l ih=>exact ⟨_,_,rfl,rfl,ih⟩
theorem Rels.ints_inv:∀ {l:List Int} {xs:List V},Rels K ρ H (l.map D.int) xs→xs=l.map V.int
 | [],xs,h=>h
 | a :: l,xs,h=>by
  obtain ⟨y,r,rfl,h1,h2⟩:=h
  cases (show y=V.int a from h1)
  rw [Rels.ints_inv h2]; rfl
theorem Rels.bls_inv:∀ {l:List Bool} {xs:List V},Rels K ρ H (l.map D.bl) xs→xs=l.map V.bl
 | [],xs,h=>h
 | a :: l,xs,h=>by
  obtain ⟨y,r,rfl,h1,h2⟩:=h
  cases (show y=V.bl a from h1)
  rw [Rels.bls_inv h2]; rfl
theorem Ext.fresh {p:Addr} {o:HO} (W:Wd K ρ H c) (h:H p=none):Ext ρ H ρ (upd H p o) :=
 ⟨fun _ _ e=>e,fun a u e n _=>⟨by rw [upd_ne (ne_of_none e h)]; exact e,n⟩⟩
theorem Wd.fresh {p:Addr} {o:HO} (W:Wd K ρ H c) (h:H p=none):Wd K ρ (upd H p o) c :=
 ⟨W.nd,W.len,fun k a cl e1 e2=>by
  have q:=W.cel k a cl e1 e2
  cases cl with
  | lst l =>
   obtain ⟨nr,xs,e,r⟩:=q
   exact ⟨nr,xs,by rw [upd_ne (ne_of_none e h)]; exact e,Rels.mono W (Ext.fresh W h) l xs r⟩,
  W.tab.mono (fun P ps e=>by rw [upd_ne (ne_of_none e h)]; exact e) (fun b φ e=>by rw [upd_ne (ne_of_none e h)]; exact e)⟩
theorem Ext.cell {p:Addr} {o:HO} (W:Wd K ρ H c) (h:H p=none):Ext ρ H (ρ ++ [p]) (upd H p o) :=
 ⟨fun k a e=>by rw [List.getElem?_append_left (List.getElem?_eq_some_iff.mp e).1]; exact e,fun a u e n _=>⟨by rw [upd_ne (ne_of_none e h)]; exact e,by
  rw [List.mem_append]
  rintro (z | z)
  ·exact n z
  ·exact ne_of_none e h (by simpa using z)⟩⟩
theorem Wd.cell {p:Addr} {l:List D} {xs:List V} (W:Wd K ρ H c) (h:H p=none) (nr:noRefs l=true) (r:Rels K ρ H l xs):Wd K (ρ ++ [p]) (upd H p (.lst xs)) (c ++ [.lst l]):=by
 have X:=Ext.cell (o:=.lst xs) W h
 refine ⟨?_,by simp [W.len],fun k a cl e1 e2=>?_,W.tab.mono (fun P ps e=>by rw [upd_ne (ne_of_none e h)]; exact e) (fun b φ e=>by rw [upd_ne (ne_of_none e h)]; exact e)⟩
 ·rw [List.nodup_append]
  refine ⟨W.nd,by simp,?_⟩
  intro a ha b hb
  rw [List.mem_singleton] at hb
  subst hb
  exact fun z=>W.nil h (z ▸ ha)
 ·by_cases hk:k < c.length
  ·rw [List.getElem?_append_left hk] at e2
   rw [List.getElem?_append_left (by rw [W.len]; exact hk)] at e1
   have q:=W.cel k a cl e1 e2
   cases cl with
   | lst l' =>
    obtain ⟨nr',ys,e,r'⟩:=q
    exact ⟨nr',ys,by rw [upd_ne (ne_of_none e h)]; exact e,Rels.mono W X l' ys r'⟩
  ·have hk':k=c.length:=by
    have:=(List.getElem?_eq_some_iff.mp e2).1
    simp at this
    omega
   subst hk'
   rw [List.getElem?_append_right (Nat.le_refl _),Nat.sub_self] at e2
   rw [List.getElem?_append_right (by rw [W.len]; exact Nat.le_refl _),W.len,Nat.sub_self] at e1
   cases e1; cases e2
   exact ⟨nr,xs,upd_same,Rels.mono W X l xs r⟩
theorem Ext.write {k:Nat} {p:Addr} {o:HO} (h:ρ[k]? = some p):Ext ρ H ρ (upd H p o) :=
 ⟨fun _ _ e=>e,fun a u e n _=>⟨by rw [upd_ne (fun z=>n (by rw [z]; exact List.mem_of_getElem? h))]; exact e,n⟩⟩
theorem Wd.write {k:Nat} {p:Addr} {l:List D} {xs:List V} (W:Wd K ρ H c) (h:ρ[k]? = some p) (nr:noRefs l=true) (r:Rels K ρ H l xs):Wd K ρ (upd H p (.lst xs)) (c.set k (.lst l)):=by
 have X:=Ext.write (H:=H) (o:=.lst xs) h
 obtain ⟨ys,hy⟩:=W.at' (List.mem_of_getElem? h)
 refine ⟨W.nd,by simp [W.len],fun j a cl e1 e2=>?_,W.tab.mono (fun P ps e=>by rw [upd_ne (ne_of e hy fun z=>nomatch z)]; exact e) (fun b φ e=>by rw [upd_ne (ne_of e hy fun z=>nomatch z)]; exact e)⟩
 by_cases hj:j=k
 ·subst hj
  rw [h] at e1; cases e1
  have hl:j < c.length:=by rw [← W.len]; exact (List.getElem?_eq_some_iff.mp h).1
  rw [List.getElem?_set_self hl] at e2
  cases e2
  exact ⟨nr,xs,upd_same,Rels.mono W X l xs r⟩
 ·rw [List.getElem?_set_ne (Ne.symm hj)] at e2
  have q:=W.cel j a cl e1 e2
  have hap:a≠p:=by
   intro e
   subst e
   have h1:=(List.getElem?_eq_some_iff.mp h)
   have h2:=(List.getElem?_eq_some_iff.mp e1)
   exact hj ((List.getElem_inj W.nd (h₀:=h2.1) (h₁:=h1.1)).mp (h2.2.trans h1.2.symm))
  cases cl with
  | lst l' =>
   obtain ⟨nr',ys,e,r'⟩:=q
   exact ⟨nr',ys,by rw [upd_ne hap]; exact e,Rels.mono W X l' ys r'⟩
mutual
theorem Rel.low (h:∀ a,a∈ρ'→a∈ρ):∀ (d:D) (v:V),noRef d=true→Rel K ρ H d v→Rel K ρ' H d v
 | .non,v,_,r=>r
 | .bl b,v,_,r=>r
 | .int i,v,_,r=>r
 | .str y,v,_,r=>r
 | .ty n,v,_,r=>r
 | .tup l,v,n,r=>by
  obtain ⟨a,xs,e,s,r⟩:=r
  exact ⟨a,xs,e,s,Rels.low h l xs n r⟩
 | .lst l,v,n,r=>by
  obtain ⟨a,xs,e,s,r⟩:=r
  exact ⟨a,xs,e,⟨s.1,fun q=>s.2 (h a q)⟩,Rels.low h l xs n r⟩
 | .ref k,v,n,r=>by cases n
 | .scr l,v,n,r=>by
  obtain ⟨a,e,s⟩:=r
  refine ⟨a,e,?_⟩
  rcases s with ⟨s,z⟩ | s
  ·exact .inl ⟨s,fun q=>z (h a q)⟩
  ·exact .inr s
 | .fn a m,v,n,r=>r
 | .exc y,v,n,r=>r
 | .dic,v,n,r=>r
 | .lam _ _ _ _,v,n,r=>by cases n
theorem Rels.low (h:∀ a,a∈ρ'→a∈ρ):∀ (l:List D) (xs:List V),noRefs l=true→Rels K ρ H l xs→Rels K ρ' H l xs
 | [],xs,_,r=>r
 | d :: l,xs,n,r=>by
  obtain ⟨y,ys,e,h1,h2⟩:=r
  have n:(noRef d && noRefs l)=true:=n
  rw [Bool.and_eq_true] at n
  exact ⟨y,ys,e,Rel.low h d y n.1 h1,Rels.low h l ys n.2 h2⟩
end
theorem Wd.cut {n:Nat} (W:Wd K ρ H c) (hn:n≤c.length):Wd K (ρ.take n) H (c.take n):=by
 have sub:∀ a,a∈ρ.take n→a∈ρ:=fun a h=>List.mem_of_mem_take h
 refine ⟨W.nd.sublist (List.take_sublist _ _),by simp [W.len],fun k a cl e1 e2=>?_,W.tab⟩
 rw [List.getElem?_take] at e1 e2
 split at e1
 ·rename_i hk
  rw [if_pos hk] at e2
  have q:=W.cel k a cl e1 e2
  cases cl with
  | lst l =>
   obtain ⟨nr,xs,e,r⟩:=q
   exact ⟨nr,xs,e,Rels.low sub l xs nr r⟩
 ·cases e1
theorem Ext.cut {n:Nat} (x:Ext ρ H ρ' H') (hn:ρ.length≤n):Ext ρ H (ρ'.take n) H' :=
 ⟨fun k a e=>by rw [List.getElem?_take,if_pos (Nat.lt_of_lt_of_le (List.getElem?_eq_some_iff.mp e).1 hn)]; exact x.pre k a e,fun a o e z t=>let ⟨h1,h2⟩:=x.keep a o e z t; ⟨h1,fun q=>h2 (List.mem_of_mem_take q)⟩⟩
theorem Ext.len (W:Wd K ρ H c) (W':Wd K ρ' H' c') (x:Ext ρ H ρ' H'):c.length≤c'.length:=by
 rw [← W.len,← W'.len]
 by_cases h:ρ.length≤ρ'.length
 ·exact h
 ·exfalso
  have h':ρ'.length < ρ.length:=Nat.lt_of_not_le h
  have e:=x.pre ρ'.length ρ[ρ'.length] (List.getElem?_eq_getElem h')
  rw [List.getElem?_eq_none (Nat.le_refl _)] at e
  cases e
end
noncomputable abbrev Ev:=List (Option D)
noncomputable def post {α β:Type} (K:PySem.W.Frag) (Rl:List Addr→Hp→α→β→Prop) (r:R α) (ρ:List Addr) (H:Hp) (Q:β→Hp→Prop):Prop:=match r with
 | .ok a c=>∀ ρ' H' b,Wd K ρ' H' c→Ext ρ H ρ' H'→Rl ρ' H' a b→Q b H'
 | .bad=>False
structure REnv (K:PySem.W.Frag) (ρ:List Addr) (H:Hp) (e:Ev) (σ:St):Prop where
 get:∀ (i:Nat) (d:D),e[i]? = some (some d)→∃ v,σ[i]? = some (some v)∧Rel K ρ H d v
 len:e.length=σ.length
noncomputable def tD {α β:Type} (K:PySem.W.Frag) (Rl:List Addr→Hp→α→β→Prop) (d:Ev→List Cell→R α):St→Hp→(β→Hp→Prop)→Prop :=
 fun σ H Q=>∃ ρ e c,Wd K ρ H c∧REnv K ρ H e σ∧post K Rl (d e c) ρ H Q
section
variable {α β γ δ:Type} {K:PySem.W.Frag} {ρ ρ':List Addr} {H H':Hp} {c:List Cell} {e:Ev} {σ:St} {Rl:List Addr→Hp→α→β→Prop} {Rm:List Addr→Hp→γ→δ→Prop}
theorem REnv.mono (V:REnv K ρ H e σ) (W:Wd K ρ H c) (x:Ext ρ H ρ' H'):REnv K ρ' H' e σ :=
 ⟨fun i d h=>let ⟨v,h1,h2⟩:=V.get i d h; ⟨v,h1,Rel.mono W x d v h2⟩,V.len⟩
theorem REnv.set (V:REnv K ρ H e σ) {d:D} {v:L2.V} (r:Rel K ρ H d v) (i:Nat):REnv K ρ H (e.set i (some d)) (σ.set i (some v)):=by
 refine ⟨fun j b h=>?_,by simp [V.len]⟩
 by_cases hj:j=i
 ·subst hj
  have hl:j < e.length:=by
   have:=(List.getElem?_eq_some_iff.mp h).1
   simpa using this
  rw [List.getElem?_set_self hl] at h
  cases h
  exact ⟨v,by rw [List.getElem?_set_self (by rw [← V.len]; exact hl)],r⟩
 ·rw [List.getElem?_set_ne (Ne.symm hj)] at h ⊢
  exact V.get j b h
theorem post.ext {r:R α} {Q:β→Hp→Prop} (p:post K Rl r ρ H Q) (x:Ext ρ H ρ' H'):post K Rl r ρ' H' Q:=by
 cases r with
 | ok a c=>exact fun ρ2 H2 b W y r=>p ρ2 H2 b W (x.trans y) r
 | bad=>exact p
theorem post.bind {r:R α} {f:α→List Cell→R γ} {Q:δ→Hp→Prop} {S:β→Hp→Prop} (p:post K Rm (r.bind f) ρ H Q)
  (h:∀ a c1 ρ' H' b,r=.ok a c1→Wd K ρ' H' c1→Ext ρ H ρ' H'→Rl ρ' H' a b→post K Rm (f a c1) ρ' H' Q→S b H'):post K Rl r ρ H S:=by
 cases r with
 | ok a c1=>exact fun ρ' H' b W x r=>h a c1 ρ' H' b rfl W x r (post.ext (r:=f a c1) p x)
 | bad=>exact p
theorem post.here {a:α} {b:β} {Q:β→Hp→Prop} (p:post K Rl (.ok a c) ρ H Q) (W:Wd K ρ H c) (r:Rl ρ H a b):Q b H:=p ρ H b W Ext.refl r
end
noncomputable abbrev PEd (X:Cx) (e:Expr) (d:Ev→List Cell→R D):Prop:=PE X e (tD X.K (Rel X.K) d)
noncomputable abbrev PTd (X:Cx) (e:Expr) (d:Ev→List Cell→R Bool):Prop:=PT X e (tD X.K (fun _ _ a b=>a=b) d)
noncomputable abbrev PWd (X:Cx) (e:Expr) (d:Ev→List Cell→R Bool):Prop:=PW X e (tD X.K (fun _ _ a b=>a=b) d)
noncomputable abbrev PAd (X:Cx) (es:List Expr) (d:Ev→List Cell→R (List D)):Prop:=PA X es (tD X.K (Rels X.K) d)
section
variable {X:Cx} {e:Expr} {es:List Expr} {st:Stmt} {sts:List Stmt}
theorem PE.imp {t t':TE} (h:PE X e t) (i:∀ σ H Q,t' σ H Q→t σ H Q):PE X e t':=fun pins s σ H Q I q=>h pins s σ H Q I (i _ _ _ q)
theorem PT.imp {t t':TT} (h:PT X e t) (i:∀ σ H Q,t' σ H Q→t σ H Q):PT X e t':=fun pins s σ H Q I q=>h pins s σ H Q I (i _ _ _ q)
theorem PW.imp {t t':TT} (h:PW X e t) (i:∀ σ H Q,t' σ H Q→t σ H Q):PW X e t':=fun wh pins s σ H Q I q=>h wh pins s σ H Q I (i _ _ _ q)
theorem PA.imp {t t':TA} (h:PA X es t) (i:∀ σ H Q,t' σ H Q→t σ H Q):PA X es t':=fun pos pins s σ H Q I q=>h pos pins s σ H Q I (i _ _ _ q)
theorem PS.imp {t t':TS} (h:PS X st t) (i:∀ D σ H,t' D σ H→t D σ H):PS X st t':=fun pins s σ H D I q=>h pins s σ H D I (i _ _ _ q)
theorem PSs.imp {t t':TS} (h:PSs X sts t) (i:∀ D σ H,t' D σ H→t D σ H):PSs X sts t':=fun pins s σ H D I q=>h pins s σ H D I (i _ _ _ q)
end
noncomputable def dVar (i:Nat):Ev→List Cell→R D:=fun e c=>match e[i]? with
 | some (some d)=>.ok d c
 | _=>.bad
noncomputable def dC (d:D):Ev→List Cell→R D:=fun _ c=>.ok d c
section
variable {X:Cx}
theorem pd_var (i:Nat) {x:Str} {pos:Pos} (hN:X.N[i]? = some x:=by rfl) (hv:Vis X.env.scope x:=by first | exact Or.inl rfl | exact Or.inr (Or.inl rfl) | exact Or.inr (Or.inr rfl)) (hd:(x == ("__debug__":Str))=false:=by decide)
  (hcd:(x == ("__classdict__":Str))=false:=by decide):PEd X (.Name x pos) (dVar i):=(pe_var hN hv hd hcd).imp fun σ H Q h=>by
 obtain ⟨ρ,e,c,W,V,p⟩:=h
 unfold dVar at p
 cases q:e[i]? with
 | none=>rw [q] at p; exact p.elim
 | some o =>
  rw [q] at p
  cases o with
  | none=>exact p.elim
  | some d =>
   obtain ⟨v,hv,r⟩:=V.get i d q
   exact ⟨v,hv,p.here W r⟩
theorem pd_const {e:Expr} {v:V} {d:D} (h:PE X e (tC v)) (r:∀ ρ H,Rel X.K ρ H d v):PEd X e (dC d):=h.imp fun σ H Q h=>by
 obtain ⟨ρ,e,c,W,V,p⟩:=h
 exact post.here (r:=r ρ H) p W
theorem pd_int {i j pos}:PEd X (.Constant (.int i) j pos) (dC (.int i)):=pd_const pe_int fun _ _=>rfl
theorem pd_bl {b j pos}:PEd X (.Constant (.bool b) j pos) (dC (.bl b)):=pd_const pe_bl fun _ _=>rfl
theorem pd_non {j pos}:PEd X (.Constant .none j pos) (dC .non):=pd_const pe_non fun _ _=>rfl
theorem pd_ty {x:Str} {n:String} {pos:Pos} (hg:Gl X x) (hm:X.mg x=none) (hv:bootBuiltins x=some (.type n)) (hn:x≠"__name__":=by decide) (hd:(x == ("__debug__":Str))=false:=by decide):PEd X (.Name x pos) (dC (.ty n)):=pd_const (pe_ty hg hm hv hn hd) fun _ _=>rfl
end
end L2
namespace L2
open PySem PySem.Spec PyProof.Rows
noncomputable def dBin (f:D→D→List Cell→R D) (a b:Ev→List Cell→R D):Ev→List Cell→R D:=fun e c=>(a e c).bind fun x c=>(b e c).bind fun y c=>f x y c
noncomputable def dUn (f:D→List Cell→R D) (a:Ev→List Cell→R D):Ev→List Cell→R D:=fun e c=>(a e c).bind fun x c=>f x c
noncomputable def r2 (K:PySem.W.Frag) (f:D→D→List Cell→R D):R2:=fun v u H Q=>∃ ρ x y c,Wd K ρ H c∧Rel K ρ H x v∧Rel K ρ H y u∧post K (Rel K) (f x y c) ρ H Q
noncomputable def r1 (K:PySem.W.Frag) (f:D→List Cell→R D):V→Hp→VK→Prop:=fun v H Q=>∃ ρ x c,Wd K ρ H c∧Rel K ρ H x v∧post K (Rel K) (f x c) ρ H Q
noncomputable def rN (K:PySem.W.Frag) (f:List D→List Cell→R D):List V→Hp→VK→Prop:=fun vs H Q=>∃ ρ xs c,Wd K ρ H c∧Rels K ρ H xs vs∧post K (Rel K) (f xs c) ρ H Q
noncomputable def dCB (f:List D→List Cell→R D) (a:Ev→List Cell→R (List D)):Ev→List Cell→R D:=fun e c=>(a e c).bind fun xs c=>f xs c
section
variable {X:Cx} {a b:Expr} {da db dd:Ev→List Cell→R D} {pos:Pos} {K:PySem.W.Frag} {σ:St} {H:Hp} {Q:VK} {f:D→D→List Cell→R D}
theorem t_bin (h:tD K (Rel K) (dBin f da db) σ H Q):tD K (Rel K) da σ H fun v H1=>tD K (Rel K) db σ H1 fun u H2=>r2 K f v u H2 Q:=by
 obtain ⟨ρ,e,c,W,V,p⟩:=h
 refine ⟨ρ,e,c,W,V,post.bind p fun x c1 ρ1 H1 v _ W1 X1 r1 p1=>⟨ρ1,e,c1,W1,V.mono W X1,post.bind p1 fun y c2 ρ2 H2 u _ W2 X2 r2 p2=>⟨ρ2,x,y,c2,W2,Rel.mono W1 X2 _ _ r1,r2,p2⟩⟩⟩
theorem t_cb {g:List D→List Cell→R D} {ds:Ev→List Cell→R (List D)} (h:tD K (Rel K) (dCB g ds) σ H Q):tD K (Rels K) ds σ H fun vs H1=>rN K g vs H1 Q:=by
 obtain ⟨ρ,e,c,W,V,p⟩:=h
 exact ⟨ρ,e,c,W,V,post.bind p fun x c1 ρ1 H1 v _ W1 X1 r1 p1=>⟨ρ1,x,c1,W1,r1,p1⟩⟩
theorem pd_bin {op:Operator} (ho:OpR X (binaryOp op) (r2 X.K f)) (ha:PEd X a da) (hb:PEd X b db):PEd X (.BinOp a op b pos) (dBin f da db):=(pe_op ho ha hb).imp fun σ H Q h=>t_bin h
theorem pd_cmp {op:CmpOp} (ho:OpR X (compareOp op) (r2 X.K f)) (ha:PEd X a da) (hb:PEd X b db) (hm:behindInMarks op b=false:=by first | exact nomark _ | rfl):PEd X (.Compare a [op] [b] pos) (dBin f da db):=(pe_cmpR ho ha hb hm).imp fun σ H Q h=>t_bin h
theorem pd_ix (hr:IxR X (r2 X.K f)) (ha:PEd X a da) (hb:PEd X b db) (hs:PlainIx b:=by exact fun _ _=>rfl):PEd X (.Subscript a b pos) (dBin f da db):=(pe_ix hr ha hb hs).imp fun σ H Q h=>t_bin h
noncomputable def dChain (f g:D→D→List Cell→R D) (a b d:Ev→List Cell→R D):Ev→List Cell→R D:=fun e c=>(a e c).bind fun x c=>(b e c).bind fun y c=>(f x y c).bind fun z c=>match z with
 | .bl true=>(d e c).bind fun u c=>g y u c
 | .bl false=>.ok (.bl false) c
 | _=>.bad
end
noncomputable def dNil:Ev→List Cell→R (List D):=fun _ c=>.ok [] c
noncomputable def dCons (a:Ev→List Cell→R D) (r:Ev→List Cell→R (List D)):Ev→List Cell→R (List D):=fun e c=>(a e c).bind fun x c=>(r e c).bind fun xs c=>.ok (x :: xs) c
noncomputable def dTup (a:Ev→List Cell→R (List D)):Ev→List Cell→R D:=fun e c=>(a e c).bind fun xs c=>if xs.length≤sizeLine then .ok (.tup xs) c else .bad
noncomputable def dLst (a:Ev→List Cell→R (List D)):Ev→List Cell→R D:=fun e c=>(a e c).bind fun xs c=>if xs.length≤sizeLine then .ok (.lst xs) c else .bad
noncomputable def dLstM (a:Ev→List Cell→R (List D)):Ev→List Cell→R D:=fun e c=>(a e c).bind fun xs c=>if xs.length≤sizeLine∧noRefs xs=true then .ok (.ref c.length) (c ++ [.lst xs]) else .bad
section
variable {X:Cx} {a:Expr} {es:List Expr} {da:Ev→List Cell→R D} {ds:Ev→List Cell→R (List D)} {pos:Pos} {K:PySem.W.Frag} {ρ:List Addr} {H:Hp} {c:List Cell} {Q:VK} {xs:List D} {vs:List V}
theorem pd_nil:PAd X [] dNil:=pa_nil.imp fun σ H Q h=>by
 obtain ⟨ρ,e,c,W,V,p⟩:=h
 exact post.here (b:=[]) p W rfl
theorem pd_cons (ha:PEd X a da) (hr:PAd X es ds) (hs:starEach (a :: es) X.env=(false,eval a X.env) :: starEach es X.env:=by exact starE rfl):PAd X (a :: es) (dCons da ds):=(pa_cons ha hr hs).imp fun σ H Q h=>by
 obtain ⟨ρ,e,c,W,V,p⟩:=h
 refine ⟨ρ,e,c,W,V,post.bind p fun x c1 ρ1 H1 v _ W1 X1 r1 p1=>⟨ρ1,e,c1,W1,V.mono W X1,post.bind p1 fun y c2 ρ2 H2 u _ W2 X2 r2 p2=>?_⟩⟩
 exact p2.here W2 ⟨v,u,rfl,Rel.mono W1 X2 _ _ r1,r2⟩
theorem new_tup (W:Wd K ρ H c) (r:Rels K ρ H xs vs) (p:post K (Rel K) (.ok (.tup xs) c) ρ H Q):∀ q,H q=none→Q (.ref q) (upd H q (.tup vs)):=fun q hq =>
 p ρ _ _ (W.fresh hq) (Ext.fresh W hq) ⟨q,vs,rfl,upd_same,Rels.mono W (Ext.fresh W hq) _ _ r⟩
theorem new_lst (W:Wd K ρ H c) (r:Rels K ρ H xs vs) (p:post K (Rel K) (.ok (.lst xs) c) ρ H Q):∀ q,H q=none→Q (.ref q) (upd H q (.lst vs)):=fun q hq =>
 p ρ _ _ (W.fresh hq) (Ext.fresh W hq) ⟨q,vs,rfl,⟨upd_same,W.nil hq⟩,Rels.mono W (Ext.fresh W hq) _ _ r⟩
theorem new_cell (W:Wd K ρ H c) (nr:noRefs xs=true) (r:Rels K ρ H xs vs) (p:post K (Rel K) (.ok (.ref c.length) (c ++ [.lst xs])) ρ H Q):∀ q,H q=none→Q (.ref q) (upd H q (.lst vs)):=fun q hq =>
 p (ρ ++ [q]) _ _ (W.cell hq nr r) (Ext.cell W hq) ⟨q,rfl,by rw [List.getElem?_append_right (by rw [W.len]; exact Nat.le_refl _),W.len,Nat.sub_self]; rfl⟩
theorem pd_tup {x1} (h:PAd X es ds):PEd X (.Tuple es x1 pos) (dTup ds):=(pe_tup h).imp fun σ H Q h=>by
 obtain ⟨ρ,e,c,W,V,p⟩:=h
 refine ⟨ρ,e,c,W,V,post.bind p fun x c1 ρ1 H1 v _ W1 X1 r1 p1=>?_⟩
 split at p1
 ·rename_i hl
  exact ⟨by rw [r1.length]; exact hl,new_tup W1 r1 p1⟩
 ·exact p1.elim
theorem pd_lst (h:PAd X es ds):PEd X (.List es pos) (dLst ds):=(pe_lst h).imp fun σ H Q h=>by
 obtain ⟨ρ,e,c,W,V,p⟩:=h
 refine ⟨ρ,e,c,W,V,post.bind p fun x c1 ρ1 H1 v _ W1 X1 r1 p1=>?_⟩
 split at p1
 ·rename_i hl
  exact ⟨by rw [r1.length]; exact hl,new_lst W1 r1 p1⟩
 ·exact p1.elim
theorem pd_lstM (h:PAd X es ds):PEd X (.List es pos) (dLstM ds):=(pe_lst h).imp fun σ H Q h=>by
 obtain ⟨ρ,e,c,W,V,p⟩:=h
 refine ⟨ρ,e,c,W,V,post.bind p fun x c1 ρ1 H1 v _ W1 X1 r1 p1=>?_⟩
 split at p1
 ·rename_i hl
  exact ⟨by rw [r1.length]; exact hl.1,new_cell W1 hl.2 r1 p1⟩
 ·exact p1.elim
end
noncomputable def addD:D→D→List Cell→R D:=fun x y c=>match x,y with
 | .int i,.int j=>.ok (.int (i + j)) c
 | .str a,.str b=>if a.length + b.length≤sizeLine then .ok (.str (a ++ b)) c else .bad
 | .tup l,.tup m=>if l.length≠0∧l.length + m.length≤sizeLine then .ok (.tup (l ++ m)) c else .bad
 | _,_=>.bad
noncomputable def subD:D→D→List Cell→R D:=fun x y c=>match x,y with
 | .int i,.int j=>.ok (.int (i - j)) c
 | _,_=>.bad
noncomputable def mulD:D→D→List Cell→R D:=fun x y c=>match x,y with
 | .int i,.int j=>if (-(2 ^ 64) < i∧i < 2 ^ 64)∨(-(2 ^ 64) < j∧j < 2 ^ 64) then .ok (.int (i * j)) c else .bad
 | _,_=>.bad
noncomputable def divD:D→D→List Cell→R D:=fun x y c=>match x,y with
 | .int i,.int j=>if 0 < j∧j < 1073741824 then .ok (.int (i / j)) c else .bad
 | _,_=>.bad
noncomputable def modD:D→D→List Cell→R D:=fun x y c=>match x,y with
 | .int i,.int j=>if 0 < j then .ok (.int (i % j)) c else .bad
 | _,_=>.bad
noncomputable def powD:D→D→List Cell→R D:=fun x y c=>match x,y with
 | .int i,.int j=>if 0≤j∧j≤1000000∧i.natAbs < 2 ^ 64 then .ok (.int (i ^ j.toNat)) c else .bad
 | _,_=>.bad
noncomputable def negD:D→List Cell→R D:=fun x c=>match x with
 | .int i=>.ok (.int (-i)) c
 | _=>.bad
noncomputable def cmpD (p:Int→Int→Bool):D→D→List Cell→R D:=fun x y c=>match x,y with
 | .int i,.int j=>.ok (.bl (p i j)) c
 | _,_=>.bad
section
variable {X:Cx}
theorem od_add:OpR X (binaryOp .Add) (r2 X.K addD):=by
 intro pins s σ H v u vv uu Q I rv ru h
 obtain ⟨ρ,x,y,c,W,rx,ry,p⟩:=h
 unfold addD at p
 split at p
 ·cases rx; cases ry
  exact op_add pins s σ H _ _ vv uu Q I rv ru ⟨_,_,rfl,rfl,p.here W rfl⟩
 ·split at p
  ·rename_i hl
   cases rx; cases ry
   exact op_add_str pins s σ H _ _ vv uu Q I rv ru ⟨_,_,rfl,rfl,hl,p.here W rfl⟩
  ·exact p.elim
 ·split at p
  ·rename_i hl
   obtain ⟨a,xs,rfl,sa,ra⟩:=rx
   obtain ⟨b,ys,rfl,sb,rb⟩:=ry
   refine op_catT pins s σ H _ _ vv uu Q I rv ru ⟨a,b,xs,ys,rfl,rfl,SqT.of sa,SqT.of sb,fun z=>hl.1 ?_,by rw [ra.length,rb.length]; exact hl.2,fun z=>?_,fun _=>new_tup W (ra.append rb) p⟩
   ·rw [← ra.length,z]; rfl
   ·refine p.here W ⟨a,xs ++ ys,rfl,by rw [z,List.append_nil]; exact sa,ra.append rb⟩
  ·exact p.elim
 ·exact p.elim
theorem od_sub:OpR X (binaryOp .Sub) (r2 X.K subD):=by
 intro pins s σ H v u vv uu Q I rv ru h
 obtain ⟨ρ,x,y,c,W,rx,ry,p⟩:=h
 unfold subD at p
 split at p
 ·cases rx; cases ry
  exact op_sub pins s σ H _ _ vv uu Q I rv ru ⟨_,_,rfl,rfl,p.here W rfl⟩
 ·exact p.elim
theorem od_mul:OpR X (binaryOp .Mult) (r2 X.K mulD):=by
 intro pins s σ H v u vv uu Q I rv ru h
 obtain ⟨ρ,x,y,c,W,rx,ry,p⟩:=h
 unfold mulD at p
 split at p
 ·split at p
  ·rename_i hl
   cases rx; cases ry
   exact op_mul pins s σ H _ _ vv uu Q I rv ru ⟨_,_,rfl,rfl,hl,p.here W rfl⟩
  ·exact p.elim
 ·exact p.elim
theorem od_div:OpR X (binaryOp .FloorDiv) (r2 X.K divD):=by
 intro pins s σ H v u vv uu Q I rv ru h
 obtain ⟨ρ,x,y,c,W,rx,ry,p⟩:=h
 unfold divD at p
 split at p
 ·split at p
  ·rename_i hl
   cases rx; cases ry
   exact op_fdiv pins s σ H _ _ vv uu Q I rv ru ⟨_,_,rfl,rfl,hl,p.here W rfl⟩
  ·exact p.elim
 ·exact p.elim
theorem od_mod:OpR X (binaryOp .Mod) (r2 X.K modD):=by
 intro pins s σ H v u vv uu Q I rv ru h
 obtain ⟨ρ,x,y,c,W,rx,ry,p⟩:=h
 unfold modD at p
 split at p
 ·split at p
  ·rename_i hl
   cases rx; cases ry
   exact op_mod pins s σ H _ _ vv uu Q I rv ru ⟨_,_,rfl,rfl,hl,p.here W rfl⟩
  ·exact p.elim
 ·exact p.elim
theorem od_pow:OpR X (binaryOp .Pow) (r2 X.K powD):=by
 intro pins s σ H v u vv uu Q I rv ru h
 obtain ⟨ρ,x,y,c,W,rx,ry,p⟩:=h
 unfold powD at p
 split at p
 ·split at p
  ·rename_i hl
   cases rx; cases ry
   exact op_pow pins s σ H _ _ vv uu Q I rv ru ⟨_,_,rfl,rfl,hl,p.here W rfl⟩
  ·exact p.elim
 ·exact p.elim
theorem od_cmp {f:Value→Value→Sem Value} {q:Int→Int→Bool} (h:OpR X f (rI0 fun i j=>.bl (q i j))):OpR X f (r2 X.K (cmpD q)):=by
 intro pins s σ H v u vv uu Q I rv ru hh
 obtain ⟨ρ,x,y,c,W,rx,ry,p⟩:=hh
 unfold cmpD at p
 split at p
 ·cases rx; cases ry
  exact h pins s σ H _ _ vv uu Q I rv ru ⟨_,_,rfl,rfl,p.here W rfl⟩
 ·exact p.elim
noncomputable abbrev ltD:=cmpD fun i j=>decide (i < j)
noncomputable abbrev leD:=cmpD fun i j=>decide (i≤j)
noncomputable abbrev gtD:=cmpD fun i j=>decide (j < i)
noncomputable abbrev geD:=cmpD fun i j=>decide (j≤i)
theorem od_lt:OpR X (compareOp .Lt) (r2 X.K ltD):=od_cmp op_lt
theorem od_le:OpR X (compareOp .LtE) (r2 X.K leD):=od_cmp op_le
theorem od_gt:OpR X (compareOp .Gt) (r2 X.K gtD):=od_cmp op_gt
theorem od_ge:OpR X (compareOp .GtE) (r2 X.K geD):=od_cmp op_ge
end
noncomputable def eqS:D→D→Option Bool
 | .non,.non=>some true | .non,.int _=>some false | .int _,.non=>some false | .non,.bl _=>some false | .bl _,.non=>some false | .non,.str _=>some false | .str _,.non=>some false
 | .int i,.int j=>some (decide (i=j)) | .bl a,.bl b=>some (decide (a=b)) | .str x,.str y=>some (decide (x=y))
 | .int _,.str _=>some false | .str _,.int _=>some false | .bl _,.str _=>some false | .str _,.bl _=>some false
 | _,_=>none
noncomputable def eqD:D→D→List Cell→R D:=fun x y c=>match eqS x y with
 | some b=>.ok (.bl b) c
 | none=>.bad
noncomputable def neD:D→D→List Cell→R D:=fun x y c=>match eqS x y with
 | some b=>.ok (.bl (!b)) c
 | none=>.bad
noncomputable def isN:D→Bool
 | .non=>true
 | _=>false
noncomputable def isD:D→D→List Cell→R D:=fun x y c=>match y with
 | .non=>.ok (.bl (isN x)) c
 | _=>.bad
noncomputable def isNotD:D→D→List Cell→R D:=fun x y c=>match y with
 | .non=>.ok (.bl (!isN x)) c
 | _=>.bad
section
variable {X:Cx} {K:PySem.W.Frag} {ρ:List Addr} {H:Hp} {c:List Cell}
theorem eqS_ok {x y:D} {v u:V} {b:Bool} (rx:Rel K ρ H x v) (ry:Rel K ρ H y u) (h:eqS x y=some b):scal v u=true∧decide (v=u)=b:=by
 cases x <;> cases y <;> first
  | (cases rx; cases ry; cases h; refine ⟨rfl,?_⟩; simp; done)
  | (cases h; done)
theorem od_eq:OpR X (compareOp .Eq) (r2 X.K eqD):=by
 intro pins s σ H v u vv uu Q I rv ru h
 obtain ⟨ρ,x,y,c,W,rx,ry,p⟩:=h
 unfold eqD at p
 split at p
 ·rename_i b hb
  obtain ⟨h1,h2⟩:=eqS_ok rx ry hb
  exact op_eq pins s σ H _ _ vv uu Q I rv ru ⟨h1,by rw [h2]; exact p.here W rfl⟩
 ·exact p.elim
theorem od_ne:OpR X (compareOp .NotEq) (r2 X.K neD):=by
 intro pins s σ H v u vv uu Q I rv ru h
 obtain ⟨ρ,x,y,c,W,rx,ry,p⟩:=h
 unfold neD at p
 split at p
 ·rename_i b hb
  obtain ⟨h1,h2⟩:=eqS_ok rx ry hb
  exact op_ne pins s σ H _ _ vv uu Q I rv ru ⟨h1,by rw [h2]; exact p.here W rfl⟩
 ·exact p.elim
theorem isN_ok {x:D} {v:V} (rx:Rel K ρ H x v):decide (v=.non)=isN x:=by
 cases x <;> first
  | (cases rx; rfl; done)
  | (cases rx; simp [isN]; done)
  | (obtain ⟨a,xs,rfl,_⟩:=rx; simp [isN]; done)
  | (obtain ⟨a,rfl,_⟩:=rx; simp [isN]; done)
  | (obtain ⟨a,o,q,c,cl,xs,rfl,_⟩:=rx; simp [isN]; done)
theorem od_is:OpR X (compareOp .Is) (r2 X.K isD):=by
 intro pins s σ H v u vv uu Q I rv ru h
 obtain ⟨ρ,x,y,c,W,rx,ry,p⟩:=h
 unfold isD at p
 split at p
 ·cases ry
  exact op_isN pins s σ H _ _ vv uu Q I rv ru ⟨rfl,by rw [isN_ok rx]; exact p.here W rfl⟩
 ·exact p.elim
theorem pd_chain {a b d:Expr} {da db dd:Ev→List Cell→R D} {pos:Pos} {op op':CmpOp} {f g:D→D→List Cell→R D} (ho:OpR X (compareOp op) (r2 X.K f)) (ho':OpR X (compareOp op') (r2 X.K g)) (ha:PEd X a da) (hb:PEd X b db) (hd:PEd X d dd)
  (h1:lastMarks [op,op'] [b,d]=false:=by with_unfolding_all rfl) :
  PEd X (.Compare a [op,op'] [b,d] pos) (dChain f g da db dd):=(pe_chain ho ho' ha hb hd h1).imp fun σ H Q h=>by
 obtain ⟨ρ,e,c,W,V,p⟩:=h
 refine ⟨ρ,e,c,W,V,post.bind p fun x c1 ρ1 H1 v _ W1 X1 r1 p1=>⟨ρ1,e,c1,W1,V.mono W X1,post.bind p1 fun y c2 ρ2 H2 u _ W2 X2 r2 p2=>⟨ρ2,x,y,c2,W2,Rel.mono W1 X2 _ _ r1,r2,post.bind p2 fun z c3 ρ3 H3 w _ W3 X3 r3 p3=>?_⟩⟩⟩
 have V3:=(V.mono W X1).mono W1 (X2.trans X3)
 cases z with
 | bl k =>
  cases r3
  refine ⟨k,rfl,?_⟩
  cases k with
  | true =>
   refine iteT ⟨ρ3,e,c3,W3,V3,post.bind p3 fun t c4 ρ4 H4 w4 _ W4 X4 r4 p4=>⟨ρ4,y,t,c4,W4,Rel.mono W2 (X3.trans X4) _ _ r2,r4,p4⟩⟩
  | false=>exact iteF (p3.here W3 rfl)
 | _=>exact p3.elim
end
noncomputable def seqD (c:List Cell):D→Option (List D)
 | .tup l=>some l
 | .lst l=>some l
 | .scr l=>some (l.map D.int)
 | .ref k=>match c[k]? with
  | some (.lst l)=>some l
  | none=>none
 | _=>none
noncomputable def ixD:D→D→List Cell→R D:=fun x y c=>match y with
 | .int i=>match seqD c x with
  | some l=>match atI l i with
   | some d=>.ok d c
   | none=>.bad
  | none=>.bad
 | _=>.bad
section
variable {X:Cx} {K:PySem.W.Frag} {ρ:List Addr} {H:Hp} {c:List Cell}
theorem seqD_ok {x:D} {v:V} {l:List D} (W:Wd K ρ H c) (rx:Rel K ρ H x v) (h:seqD c x=some l):∃ a xs,v=.ref a∧(SqL K H a xs∨SqT K H a xs)∧Rels K ρ H l xs:=by
 cases x with
 | tup m =>
  cases h
  obtain ⟨a,xs,e,s,r⟩:=rx
  exact ⟨a,xs,e,.inr (SqT.of s),r⟩
 | lst m =>
  cases h
  obtain ⟨a,xs,e,s,r⟩:=rx
  exact ⟨a,xs,e,.inl (SqL.of s.1),r⟩
 | scr m =>
  cases h
  obtain ⟨a,e,s⟩:=rx
  exact ⟨a,_,e,.inl s.sql,Rels.ints⟩
 | ref k =>
  obtain ⟨a,e,s⟩:=rx
  unfold seqD at h
  dsimp only at h
  cases hc:c[k]? with
  | none=>rw [hc] at h; cases h
  | some cl =>
   cases cl with
   | lst m =>
    rw [hc] at h; cases h
    obtain ⟨_,xs,hx,r⟩:=W.cel k a _ s hc
    exact ⟨a,xs,e,.inl (SqL.of hx),r⟩
 | _=>cases h
theorem atI_rel {l:List D} {xs:List V} {i:Int} {d:D} (r:Rels K ρ H l xs) (h:atI l i=some d):∃ v,atI xs i=some v∧Rel K ρ H d v:=by
 unfold atI at h ⊢
 rw [r.length]
 cases e:ixN l.length i with
 | none=>rw [e] at h; cases h
 | some j =>
  rw [e] at h
  exact r.get (i:=j) h
theorem id_seq:IxR X (r2 X.K ixD):=by
 intro value slice pins s σ H v u vv uu Q I rv ru h hs
 obtain ⟨ρ,x,y,c,W,rx,ry,p⟩:=h
 unfold ixD at p
 split at p
 ·split at p
  ·rename_i l hl
   split at p
   ·rename_i d hd
    cases ry
    obtain ⟨a,xs,rfl,sq,r⟩:=seqD_ok W rx hl
    obtain ⟨w,hw,rw'⟩:=atI_rel r hd
    rcases sq with sq | sq
    ·exact ix_list value slice pins s σ H _ _ vv uu Q I rv ru ⟨a,xs,_,w,rfl,rfl,sq,hw,p.here W rw'⟩ hs
    ·exact ix_tup value slice pins s σ H _ _ vv uu Q I rv ru ⟨a,xs,_,w,rfl,rfl,sq,hw,p.here W rw'⟩ hs
   ·exact p.elim
  ·exact p.elim
 ·exact p.elim
end
end L2
namespace L2
open PySem PySem.Spec PyProof.Rows
noncomputable def truD (c:List Cell):D→Option Bool
 | .non=>some false
 | .bl b=>some b
 | .int i=>some (i != 0)
 | .tup l=>some (!l.isEmpty)
 | .lst l=>some (!l.isEmpty)
 | .ref k=>match c[k]? with
  | some (.lst l)=>some (!l.isEmpty)
  | none=>none
 | _=>none
noncomputable def dTru (a:Ev→List Cell→R D):Ev→List Cell→R Bool:=fun e c=>(a e c).bind fun x c=>match truD c x with
 | some b=>.ok b c
 | none=>.bad
noncomputable def dBl (a:Ev→List Cell→R D):Ev→List Cell→R Bool:=fun e c=>(a e c).bind fun x c=>match x with
 | .bl b=>.ok b c
 | _=>.bad
noncomputable def dAndT (a b:Ev→List Cell→R Bool):Ev→List Cell→R Bool:=fun e c=>(a e c).bind fun x c=>if x=true then b e c else .ok false c
noncomputable def dOrT (a b:Ev→List Cell→R Bool):Ev→List Cell→R Bool:=fun e c=>(a e c).bind fun x c=>if x=true then .ok true c else b e c
noncomputable def dNotT (a:Ev→List Cell→R Bool):Ev→List Cell→R Bool:=fun e c=>(a e c).bind fun x c=>.ok (!x) c
noncomputable def dAndV (a b:Ev→List Cell→R D):Ev→List Cell→R D:=fun e c=>(a e c).bind fun x c=>match x with
 | .bl k=>if k=true then b e c else .ok (.bl false) c
 | _=>.bad
noncomputable def dOrV (a b:Ev→List Cell→R D):Ev→List Cell→R D:=fun e c=>(a e c).bind fun x c=>match x with
 | .bl k=>if k=true then .ok (.bl true) c else b e c
 | _=>.bad
noncomputable def dNotV (a:Ev→List Cell→R D):Ev→List Cell→R D:=fun e c=>(a e c).bind fun x c=>match x with
 | .bl k=>.ok (.bl (!k)) c
 | _=>.bad
noncomputable def dIfE (t:Ev→List Cell→R Bool) (a b:Ev→List Cell→R D):Ev→List Cell→R D:=fun e c=>(t e c).bind fun x c=>if x=true then a e c else b e c
section
variable {X:Cx} {a b c':Expr} {da db:Ev→List Cell→R D} {ta tb:Ev→List Cell→R Bool} {pos:Pos} {rest:List Expr}
theorem blT (h:tD X.K (fun _ _ a b=>a=b) (dBl da) σ H Q):tD X.K (Rel X.K) da σ H fun x H'=>∃ k,x=.bl k∧Q k H':=by
 obtain ⟨ρ,e,c,W,V,p⟩:=h
 refine ⟨ρ,e,c,W,V,post.bind p fun x c1 ρ1 H1 v _ W1 X1 r1 p1=>?_⟩
 cases x with
 | bl k=>cases r1; exact ⟨k,rfl,p1.here W1 rfl⟩
 | _=>exact p1.elim
theorem pd_bool (ha:PEd X a da) (he:∀ whole,isTrue a X.env whole=(do let v ← whole; standAt a.pos; holding [v] (truthy v)):=by intro _; rfl):PTd X a (dBl da):=(pt_val ha he).imp fun σ H Q h=>blT h
theorem pd_cmpT {op:CmpOp} {f:D→D→List Cell→R D} (ho:OpR X (compareOp op) (r2 X.K f)) (ha:PEd X a da) (hb:PEd X b db) (hm:behindInMarks op b=false:=by first | exact nomark _ | rfl):PTd X (.Compare a [op] [b] pos) (dBl (dBin f da db)) :=
 (pt_cmpR ho ha hb hm).imp fun σ H Q h=>t_bin (Q:=fun x H'=>∃ k,x=.bl k∧Q k H') (blT h)
theorem pd_and1 (ha:PTd X a ta):PWd X (.BoolOp .And [a] pos) ta:=pw_and1 ha
theorem pd_or1 (ha:PTd X a ta):PWd X (.BoolOp .Or [a] pos) ta:=pw_or1 ha
theorem pd_andT (ha:PTd X a ta) (hb:PWd X (.BoolOp .And (b :: rest) pos) tb):PWd X (.BoolOp .And (a :: b :: rest) pos) (dAndT ta tb):=(pw_and ha hb).imp fun σ H Q h=>by
 obtain ⟨ρ,e,c,W,V,p⟩:=h
 refine ⟨ρ,e,c,W,V,post.bind p fun x c1 ρ1 H1 v _ W1 X1 r1 p1=>?_⟩
 cases r1
 cases x with
 | true=>exact iteT ⟨ρ1,e,c1,W1,V.mono W X1,p1⟩
 | false=>exact iteF (post.here (a:=false) p1 W1 rfl)
theorem pd_orT (ha:PTd X a ta) (hb:PWd X (.BoolOp .Or (b :: rest) pos) tb):PWd X (.BoolOp .Or (a :: b :: rest) pos) (dOrT ta tb):=(pw_or ha hb).imp fun σ H Q h=>by
 obtain ⟨ρ,e,c,W,V,p⟩:=h
 refine ⟨ρ,e,c,W,V,post.bind p fun x c1 ρ1 H1 v _ W1 X1 r1 p1=>?_⟩
 cases r1
 cases x with
 | true=>exact iteT (post.here (a:=true) p1 W1 rfl)
 | false=>exact iteF ⟨ρ1,e,c1,W1,V.mono W X1,p1⟩
theorem pd_notT (ha:PTd X a ta):PTd X (.UnaryOp .Not a pos) (dNotT ta):=(pt_not ha).imp fun σ H Q h=>by
 obtain ⟨ρ,e,c,W,V,p⟩:=h
 refine ⟨ρ,e,c,W,V,post.bind p fun x c1 ρ1 H1 v _ W1 X1 r1 p1=>?_⟩
 cases r1
 exact p1.here W1 rfl
theorem pd_one {op} (h:PEd X a da):PEd X (.BoolOp op [a] pos) da:=pe_one h
theorem pd_and (ha:PEd X a da) (hb:PEd X (.BoolOp .And (b :: rest) pos) db):PEd X (.BoolOp .And (a :: b :: rest) pos) (dAndV da db):=(pe_and ha hb).imp fun σ H Q h=>by
 obtain ⟨ρ,e,c,W,V,p⟩:=h
 refine ⟨ρ,e,c,W,V,post.bind p fun x c1 ρ1 H1 v _ W1 X1 r1 p1=>?_⟩
 cases x with
 | bl k =>
  cases r1
  refine ⟨k,rfl,?_⟩
  cases k with
  | true=>exact iteT ⟨ρ1,e,c1,W1,V.mono W X1,p1⟩
  | false=>exact iteF (post.here (a:=D.bl false) p1 W1 rfl)
 | _=>exact p1.elim
theorem pd_not (ha:PEd X a da):PEd X (.UnaryOp .Not a pos) (dNotV da):=(pe_not ha).imp fun σ H Q h=>by
 obtain ⟨ρ,e,c,W,V,p⟩:=h
 refine ⟨ρ,e,c,W,V,post.bind p fun x c1 ρ1 H1 v _ W1 X1 r1 p1=>?_⟩
 cases x with
 | bl k=>cases r1; exact ⟨k,rfl,p1.here W1 rfl⟩
 | _=>exact p1.elim
theorem pd_ifE (ht:PTd X c' ta) (ha:PEd X a da) (hb:PEd X b db):PEd X (.IfExp c' a b pos) (dIfE ta da db):=(pe_ifExp ht ha hb).imp fun σ H Q h=>by
 obtain ⟨ρ,e,c,W,V,p⟩:=h
 refine ⟨ρ,e,c,W,V,post.bind p fun x c1 ρ1 H1 v _ W1 X1 r1 p1=>?_⟩
 cases r1
 cases x with
 | true=>exact iteT ⟨ρ1,e,c1,W1,V.mono W X1,p1⟩
 | false=>exact iteF ⟨ρ1,e,c1,W1,V.mono W X1,p1⟩
end
inductive Fl where
 | nx (e:Ev) | rt (d:D) | bk (e:Ev) | ct (e:Ev)
inductive FV where
 | nx (σ:St) | rt (v:V) | bk (σ:St) | ct (σ:St)
noncomputable def RelF (K:PySem.W.Frag) (ρ:List Addr) (H:Hp):Fl→FV→Prop
 | .nx e,f=>∃ σ,f=.nx σ∧REnv K ρ H e σ
 | .rt d,f=>∃ v,f=.rt v∧Rel K ρ H d v
 | .bk e,f=>∃ σ,f=.bk σ∧REnv K ρ H e σ
 | .ct e,f=>∃ σ,f=.ct σ∧REnv K ρ H e σ
noncomputable def En (Z:Ends):FV→Hp→Prop
 | .nx σ,H=>Z.nx σ H
 | .rt v,H=>Z.rt v H
 | .bk σ,H=>Z.bk σ H
 | .ct σ,H=>Z.ct σ H
noncomputable def tSD (K:PySem.W.Frag) (d:Ev→List Cell→R Fl):TS:=fun Z σ H=>tD K (RelF K) d σ H (En Z)
noncomputable abbrev PSd (X:Cx) (st:Stmt) (d:Ev→List Cell→R Fl):Prop:=PS X st (tSD X.K d)
noncomputable abbrev PSsd (X:Cx) (st:List Stmt) (d:Ev→List Cell→R Fl):Prop:=PSs X st (tSD X.K d)
noncomputable def sNext:Ev→List Cell→R Fl:=fun e c=>.ok (.nx e) c
noncomputable def sSeq (a b:Ev→List Cell→R Fl):Ev→List Cell→R Fl:=fun e c=>(a e c).bind fun f c=>match f with
 | .nx e=>b e c
 | f=>.ok f c
noncomputable def sRet (a:Ev→List Cell→R D):Ev→List Cell→R Fl:=fun e c=>(a e c).bind fun x c=>.ok (.rt x) c
noncomputable def sDrop (a:Ev→List Cell→R D):Ev→List Cell→R Fl:=fun e c=>(a e c).bind fun _ c=>.ok (.nx e) c
noncomputable def sIf (t:Ev→List Cell→R Bool) (a b:Ev→List Cell→R Fl):Ev→List Cell→R Fl:=fun e c=>(t e c).bind fun x c=>if x=true then a e c else b e c
noncomputable def sSet (i:Nat) (a:Ev→List Cell→R D):Ev→List Cell→R Fl:=fun e c=>(a e c).bind fun x c=>.ok (.nx (e.set i (some x))) c
noncomputable def sBad:Ev→List Cell→R Fl:=fun _ _=>.bad
noncomputable def sBreak:Ev→List Cell→R Fl:=fun e c=>.ok (.bk e) c
noncomputable def sCont:Ev→List Cell→R Fl:=fun e c=>.ok (.ct e) c
section
variable {X:Cx} {st:Stmt} {rest:List Stmt} {t u:Ev→List Cell→R Fl} {e:Expr} {da:Ev→List Cell→R D} {pos:Pos}
theorem sd_nil:PSsd X [] sNext:=pss_nil.imp fun Z σ H h=>by
 obtain ⟨ρ,e,c,W,V,p⟩:=h
 exact p.here W ⟨σ,rfl,V⟩
theorem sd_cons (h1:PSd X st t) (h2:PSsd X rest u):PSsd X (st :: rest) (sSeq t u):=(pss_cons h1 h2).imp fun Z σ H h=>by
 obtain ⟨ρ,e,c,W,V,p⟩:=h
 refine ⟨ρ,e,c,W,V,post.bind p fun f c1 ρ1 H1 b _ W1 X1 r1 p1=>?_⟩
 cases f with
 | nx e1=>obtain ⟨σ1,rfl,V1⟩:=r1; exact ⟨ρ1,e1,c1,W1,V1,p1⟩
 | rt d=>obtain ⟨v,rfl,V1⟩:=r1; exact post.here (Q:=En Z) (show post X.K (RelF X.K) (.ok (Fl.rt d) c1) ρ1 H1 (En Z) from p1) W1 ⟨_,rfl,V1⟩
 | bk e1=>obtain ⟨σ1,rfl,V1⟩:=r1; exact post.here (Q:=En Z) (show post X.K (RelF X.K) (.ok (Fl.bk e1) c1) ρ1 H1 (En Z) from p1) W1 ⟨_,rfl,V1⟩
 | ct e1=>obtain ⟨σ1,rfl,V1⟩:=r1; exact post.here (Q:=En Z) (show post X.K (RelF X.K) (.ok (Fl.ct e1) c1) ρ1 H1 (En Z) from p1) W1 ⟨_,rfl,V1⟩
theorem sd_one (h1:PSd X st t):PSsd X [st] t:=pss_one h1
theorem sd_never:PSd X st sBad:=fun _ _ _ _ _ _ h=>by
 obtain ⟨ρ,e,c,W,V,p⟩:=h
 exact p.elim
theorem sd_ret (he:PEd X e da):PSd X (.Return (some e) pos) (sRet da):=(ps_ret he).imp fun Z σ H h=>by
 obtain ⟨ρ,e,c,W,V,p⟩:=h
 refine ⟨ρ,e,c,W,V,post.bind p fun x c1 ρ1 H1 v _ W1 X1 r1 p1=>p1.here W1 ⟨v,rfl,r1⟩⟩
theorem sd_drop (he:PEd X e da) (hs:swapsWith e none pos.line X.env=pure false:=by rfl):PSd X (.Expr e pos) (sDrop da):=(ps_expr he hs).imp fun Z σ H h=>by
 obtain ⟨ρ,e,c,W,V,p⟩:=h
 refine ⟨ρ,e,c,W,V,post.bind p fun x c1 ρ1 H1 v _ W1 X1 r1 p1=>p1.here W1 ⟨σ,rfl,V.mono W X1⟩⟩
theorem sd_if {c':Expr} {a b:List Stmt} {tc:Ev→List Cell→R Bool} (hc:PTd X c' tc) (ha:PSsd X a t) (hb:PSsd X b u):PSd X (.If c' a b pos) (sIf tc t u):=(ps_if hc ha hb).imp fun Z σ H h=>by
 obtain ⟨ρ,e,c,W,V,p⟩:=h
 refine ⟨ρ,e,c,W,V,post.bind p fun x c1 ρ1 H1 v _ W1 X1 r1 p1=>?_⟩
 cases r1
 cases x with
 | true=>exact iteT ⟨ρ1,e,c1,W1,V.mono W X1,p1⟩
 | false=>exact iteF ⟨ρ1,e,c1,W1,V.mono W X1,p1⟩
theorem sd_set {i:Nat} {x:Str} {pos':Pos} (he:PEd X e da) (hN:X.N.Nodup:=by decide +kernel) (hi:X.N[i]? = some x:=by rfl) (hx:Loc X.env.scope x:=by first | exact Or.inl rfl | exact Or.inr rfl) (hs:swapsWith e (some (.Name x pos')) pos.line X.env=pure false:=by rfl)
  (hf:X.fn x=true∨X.env.scope.names.lookup x=some .local:=by first | exact .inl rfl | exact .inr rfl):PSd X (.Assign [.Name x pos'] e pos) (sSet i da):=(ps_set hN hi hx he hs).imp fun Z σ H h=>by
 obtain ⟨ρ,e,c,W,V,p⟩:=h
 refine ⟨ρ,e,c,W,V,post.bind p fun x c1 ρ1 H1 v _ W1 X1 r1 p1=>p1.here W1 ⟨_,rfl,(V.mono W X1).set r1 i⟩⟩
end
noncomputable abbrev Gd:=D→Ev→List Cell→R Ev
noncomputable def tGD (K:PySem.W.Frag) (g:Gd):TG:=fun v σ H Q=>∃ ρ x e c,Wd K ρ H c∧REnv K ρ H e σ∧Rel K ρ H x v∧post K (fun ρ H e σ=>REnv K ρ H e σ) (g x e c) ρ H Q
noncomputable def tGsD (K:PySem.W.Frag) (g:List D→Ev→List Cell→R Ev):TGs:=fun vs σ H Q=>∃ ρ xs e c,Wd K ρ H c∧REnv K ρ H e σ∧Rels K ρ H xs vs∧post K (fun ρ H e σ=>REnv K ρ H e σ) (g xs e c) ρ H Q
noncomputable abbrev PGd (X:Cx) (e:Expr) (g:Gd):Prop:=PG X e (tGD X.K g)
noncomputable abbrev PGsd (X:Cx) (es:List Expr) (g:List D→Ev→List Cell→R Ev):Prop:=PGs X es (tGsD X.K g)
noncomputable def gdName (i:Nat):Gd:=fun x e c=>.ok (e.set i (some x)) c
noncomputable def gdNil:List D→Ev→List Cell→R Ev:=fun xs e c=>match xs with
 | []=>.ok e c
 | _=>.bad
noncomputable def gdCons (g:Gd) (r:List D→Ev→List Cell→R Ev):List D→Ev→List Cell→R Ev:=fun xs e c=>match xs with
 | x :: xs=>(g x e c).bind fun e c=>r xs e c
 | _=>.bad
noncomputable def gdTup (n:Nat) (g:List D→Ev→List Cell→R Ev):Gd:=fun x e c=>match x with
 | .tup l=>if l.length=n then g l e c else .bad
 | _=>.bad
theorem PG.imp {X:Cx} {e:Expr} {t t':TG} (h:PG X e t) (i:∀ v σ H Q,t' v σ H Q→t v σ H Q):PG X e t':=fun pins s σ H x u Q I r q=>h pins s σ H x u Q I r (i _ _ _ _ q)
theorem PGs.imp {X:Cx} {es:List Expr} {t t':TGs} (h:PGs X es t) (i:∀ v σ H Q,t' v σ H Q→t v σ H Q):PGs X es t':=fun pins s σ H x u Q I r q=>h pins s σ H x u Q I r (i _ _ _ _ q)
section
variable {X:Cx} {pos:Pos}
theorem gd_name {i:Nat} {x:Str} (hN:X.N.Nodup:=by decide +kernel) (hi:X.N[i]? = some x:=by rfl) (hx:Loc X.env.scope x:=by first | exact Or.inl rfl | exact Or.inr rfl) (hf:X.fn x=true∨X.env.scope.names.lookup x=some .local:=by first | exact .inl rfl | exact .inr rfl):PGd X (.Name x pos) (gdName i) :=
 (pg_name hN hi hx hf).imp fun v σ H Q h=>by
  obtain ⟨ρ,x,e,c,W,V,r,p⟩:=h
  exact p.here W (V.set r i)
theorem gds_nil:PGsd X [] gdNil:=pgs_nil.imp fun v σ H Q h=>by
 obtain ⟨ρ,xs,e,c,W,V,r,p⟩:=h
 cases xs with
 | nil=>exact ⟨r,p.here W V⟩
 | cons x xs=>exact p.elim
theorem gds_cons {e:Expr} {es:List Expr} {g:Gd} {u:List D→Ev→List Cell→R Ev} (h1:PGd X e g) (h2:PGsd X es u) (hs:(assignEach (e :: es) X.env).map (·.2)=assign e X.env :: (assignEach es X.env).map (·.2):=by rfl):PGsd X (e :: es) (gdCons g u) :=
 (pgs_cons h1 h2 hs).imp fun v σ H Q h=>by
  obtain ⟨ρ,xs,e,c,W,V,r,p⟩:=h
  cases xs with
  | nil=>exact p.elim
  | cons x xs =>
   obtain ⟨y,ys,rfl,rx,rs⟩:=r
   exact ⟨y,ys,rfl,ρ,x,e,c,W,V,rx,post.bind p fun e1 c1 ρ1 H1 σ1 _ W1 X1 V1 p1=>⟨ρ1,xs,e1,c1,W1,V1,Rels.mono W X1 _ _ rs,p1⟩⟩
theorem gd_tup {es:List Expr} {k:Nat} {g:List D→Ev→List Cell→R Ev} {n:Nat} (h:PGsd X es g) (hc:X.calm=true:=by rfl) (hn:(assignEach es X.env).length=n:=by rfl) (hst:(assignEach es X.env).findIdx? (·.1)=none:=by rfl):PGd X (.Tuple es k pos) (gdTup n g) :=
 (pg_tup hc h hn hst).imp fun v σ H Q h=>by
  obtain ⟨ρ,x,e,c,W,V,r,p⟩:=h
  cases x with
  | tup l =>
   obtain ⟨a,xs,rfl,s,rs⟩:=r
   unfold gdTup at p
   dsimp only at p
   split at p
   ·rename_i hl
    exact ⟨a,xs,rfl,SqT.of s,rs.length.trans hl,ρ,l,e,c,W,V,rs,p⟩
   ·exact p.elim
  | _=>exact p.elim
noncomputable def sAsg (a:Ev→List Cell→R D) (g:Gd):Ev→List Cell→R Fl:=fun e c=>(a e c).bind fun x c=>(g x e c).bind fun e c=>.ok (.nx e) c
theorem sd_asg {tg e:Expr} {da:Ev→List Cell→R D} {g:Gd} (he:PEd X e da) (hg:PGd X tg g) (hs:swapsWithSole [tg] e pos.line X.env=pure false:=by rfl) (hw:swappedStores [tg] e X.env=pure none:=by rfl)
  (h1:(assignEach [tg] X.env).map (·.2)=[assign tg X.env]:=by rfl):PSd X (.Assign [tg] e pos) (sAsg da g):=(ps_asg he hg hs hw h1).imp fun Z σ H h=>by
 obtain ⟨ρ,e,c,W,V,p⟩:=h
 refine ⟨ρ,e,c,W,V,post.bind p fun x c1 ρ1 H1 v _ W1 X1 r1 p1=>⟨ρ1,x,e,c1,W1,V.mono W X1,r1,post.bind p1 fun e2 c2 ρ2 H2 σ2 _ W2 X2 V2 p2=>p2.here W2 ⟨σ2,rfl,V2⟩⟩⟩
noncomputable def setD:D→D→D→List Cell→R Unit:=fun o i v c=>match o,i with
 | .ref k,.int i=>match c[k]? with
  | some (.lst l)=>match ixN l.length i with
   | some j=>if noRef v=true then .ok () (c.set k (.lst (l.set j v))) else .bad
   | none=>.bad
  | none=>.bad
 | _,_=>.bad
noncomputable def gdSub (o i:Ev→List Cell→R D):Gd:=fun x e c=>(o e c).bind fun o c=>(i e c).bind fun i c=>(setD o i x c).bind fun _ c=>.ok e c
theorem gd_sub {o i:Expr} {dO di:Ev→List Cell→R D} (ho:PEd X o dO) (hi:PEd X i di)
  (ha:∀ v,assign (.Subscript o i pos) X.env v=(do
   let ov ← holding [v] (eval o X.env)
   let iv ← holding [v,ov] (eval i X.env)
   standAt pos
   holding [v,ov,iv] (setItem ov iv v)
   release [v,ov,iv] []):=by intro _; rfl):PGd X (.Subscript o i pos) (gdSub dO di):=(pg_sub ho hi set_list ha).imp fun v σ H Q h=>by
 obtain ⟨ρ,x,e,c,W,V,rx,p⟩:=h
 refine ⟨ρ,e,c,W,V,post.bind p fun o c1 ρ1 H1 ov _ W1 X1 r1 p1=>⟨ρ1,e,c1,W1,V.mono W X1,post.bind p1 fun i c2 ρ2 H2 iv _ W2 X2 r2 p2=>?_⟩⟩
 have V2:=(V.mono W X1).mono W1 X2
 have rx2:=Rel.mono W (X1.trans X2) _ _ rx
 have ro:=Rel.mono W1 X2 _ _ r1
 unfold setD at p2
 split at p2
 ·rename_i k i _ _
  split at p2
  ·rename_i l hl
   split at p2
   ·rename_i j hj
    split at p2
    ·rename_i hv
     obtain ⟨a,rfl,ha⟩:=ro
     cases r2
     obtain ⟨nr,ys,hy,rl⟩:=W2.cel k a _ ha hl
     refine ⟨a,ys,i,j,rfl,rfl,hy,by rw [rl.length]; exact hj,?_⟩
     exact p2 ρ2 _ σ (W2.write ha (noRefs_set nr hv) (rl.set j rx2)) (Ext.write ha) (V2.mono W2 (Ext.write ha))
    ·exact p2.elim
   ·exact p2.elim
  ·exact p2.elim
 ·exact p2.elim
end
end L2
namespace L2
open PySem PySem.Spec PyProof.Rows
structure Src where
 items:List D
 stays:List Cell→Prop
noncomputable def JS (K:PySem.W.Frag) (ρ:List Addr) (H:Hp) (s:Src) (J:It):Prop :=
 ∀ ρ' H' c',Wd K ρ' H' c'→Ext ρ H ρ' H'→s.stays c'→∀ i:Nat,
  (∀ d,s.items[i]? = some d→J.go i H'∧∀ x H2,J.yld i H' x H2→Wd K ρ' H2 c'∧Ext ρ' H' ρ' H2∧Rel K ρ' H2 d x)∧(i=s.items.length→J.stop i H')
noncomputable def tID (K:PySem.W.Frag) (d:Ev→List Cell→R Src):TI:=tD K (JS K) d
noncomputable abbrev PId (X:Cx) (tg iter:Expr) (d:Ev→List Cell→R Src):Prop:=PI X tg iter (tID X.K d)
theorem PI.imp {X:Cx} {tg iter:Expr} {t t':TI} (h:PI X tg iter t) (i:∀ σ H Q,t' σ H Q→t σ H Q):PI X tg iter t':=fun pins s σ H Q I q=>h pins s σ H Q I (i _ _ _ q)
noncomputable def dSeq (a:Ev→List Cell→R D):Ev→List Cell→R Src:=fun e c=>(a e c).bind fun x c=>match x with
 | .lst l=>.ok ⟨l,fun _=>True⟩ c
 | .scr l=>.ok ⟨l.map D.int,fun _=>True⟩ c
 | .ref k=>match c[k]? with
  | some (.lst l)=>.ok ⟨l,fun c=>c[k]? = some (.lst l)⟩ c
  | none=>.bad
 | _=>.bad
noncomputable def dSeqT (a:Ev→List Cell→R D):Ev→List Cell→R Src:=fun e c=>(a e c).bind fun x c=>match x with
 | .tup l=>.ok ⟨l,fun _=>True⟩ c
 | _=>.bad
noncomputable def rngD (lo hi:Int):List D:=(List.range (hi - lo).toNat).map fun (i:Nat)=>D.int (lo + (i:Int))
noncomputable def dRng1 (a:Ev→List Cell→R (List D)):Ev→List Cell→R Src:=fun e c=>(a e c).bind fun xs c=>match xs with
 | [.int j]=>if -(2 ^ 62)≤j∧j < 2 ^ 62 then .ok ⟨rngD 0 j,fun _=>True⟩ c else .bad
 | _=>.bad
noncomputable def dRng2 (a:Ev→List Cell→R (List D)):Ev→List Cell→R Src:=fun e c=>(a e c).bind fun xs c=>match xs with
 | [.int i,.int j]=>if -(2 ^ 62)≤i∧i < 2 ^ 62∧-(2 ^ 62)≤j∧j < 2 ^ 62 then .ok ⟨rngD i j,fun _=>True⟩ c else .bad
 | _=>.bad
noncomputable def dZip (a:Ev→List Cell→R (List D)):Ev→List Cell→R Src:=fun e c=>(a e c).bind fun xs c=>match xs with
 | [.tup l,.tup m]=>.ok ⟨List.zipWith (fun x y=>.tup [x,y]) l m,fun _=>True⟩ c
 | _=>.bad
noncomputable def dEnum (a:Ev→List Cell→R (List D)):Ev→List Cell→R Src:=fun e c=>(a e c).bind fun xs c=>match xs with
 | [.tup l]=>.ok ⟨l.mapIdx fun i x=>.tup [.int i,x],fun _=>True⟩ c
 | _=>.bad
section
variable {X:Cx} {tg:Expr} {K:PySem.W.Frag} {ρ:List Addr} {H:Hp}
theorem js_list {l:List D} {a:Addr} {st:List Cell→Prop} (h:∀ ρ' H' c',Wd K ρ' H' c'→Ext ρ H ρ' H'→st c'→∃ xs,SqL K H' a xs∧Rels K ρ' H' l xs):JS K ρ H ⟨l,st⟩ (Itl K a):=by
 intro ρ' H' c' W E s i
 obtain ⟨xs,q,r⟩:=h ρ' H' c' W E s
 refine ⟨fun d hd=>?_,fun e=>⟨xs,q,by rw [r.length]; exact Nat.le_of_eq e.symm⟩⟩
 obtain ⟨x,hx,rx⟩:=r.get hd
 refine ⟨⟨xs,x,q,hx⟩,fun y H2 hy=>?_⟩
 obtain ⟨rfl,hy⟩:=hy
 have:=hy xs q
 rw [hx] at this; cases this
 exact ⟨W,Ext.refl,rx⟩
theorem js_tup {l:List D} {a:Addr} {st:List Cell→Prop} (h:∀ ρ' H' c',Wd K ρ' H' c'→Ext ρ H ρ' H'→st c'→∃ xs,SqT K H' a xs∧Rels K ρ' H' l xs):JS K ρ H ⟨l,st⟩ (Itt K a):=by
 intro ρ' H' c' W E s i
 obtain ⟨xs,q,r⟩:=h ρ' H' c' W E s
 refine ⟨fun d hd=>?_,fun e=>⟨xs,q,by rw [r.length]; exact Nat.le_of_eq e.symm⟩⟩
 obtain ⟨x,hx,rx⟩:=r.get hd
 refine ⟨⟨xs,x,q,hx⟩,fun y H2 hy=>?_⟩
 obtain ⟨rfl,hy⟩:=hy
 have:=hy xs q
 rw [hx] at this; cases this
 exact ⟨W,Ext.refl,rx⟩
theorem rng_get {lo hi:Int} {i:Nat} {d:D} (h:(rngD lo hi)[i]? = some d):i < (hi - lo).toNat∧d=.int (lo + i):=by
 unfold rngD at h
 rw [List.getElem?_map] at h
 cases q:(List.range (hi - lo).toNat)[i]? with
 | none=>rw [q] at h; cases h
 | some j =>
  rw [q] at h
  have h1:=(List.getElem?_eq_some_iff.mp q)
  obtain ⟨h2,h3⟩:=h1
  rw [List.getElem_range] at h3
  subst h3
  cases h
  exact ⟨by simpa using h2,rfl⟩
theorem js_rng {lo hi:Int} {st:List Cell→Prop}:JS K ρ H ⟨rngD lo hi,st⟩ (Itr lo (hi - lo).toNat):=by
 intro ρ' H' c' W E s i
 refine ⟨fun d hd=>?_,fun e=>?_⟩
 ·obtain ⟨h1,rfl⟩:=rng_get hd
  refine ⟨h1,fun x H2 hy=>?_⟩
  obtain ⟨rfl,rfl⟩:=hy
  exact ⟨W,Ext.refl,rfl⟩
 ·have:(rngD lo hi).length=(hi - lo).toNat:=by simp [rngD]
  show (hi - lo).toNat≤i
  rw [e]
  exact Nat.le_of_eq this.symm
theorem id_list {l:Expr} {dl:Ev→List Cell→R D} (hl:PEd X l dl):PId X tg l (dSeq dl):=(pi_list hl).imp fun σ H Q h=>by
 obtain ⟨ρ,e,c,W,V,p⟩:=h
 refine ⟨ρ,e,c,W,V,post.bind p fun x c1 ρ1 H1 v _ W1 X1 r1 p1=>?_⟩
 cases x with
 | lst l =>
  obtain ⟨a,xs,rfl,s,rs⟩:=r1
  exact ⟨a,rfl,⟨xs,SqL.of s.1⟩,p1.here W1 (js_list fun ρ' H' c' W' E _=>⟨xs,SqL.of (lst_mono E s).1,Rels.mono W1 E _ _ rs⟩)⟩
 | scr l =>
  obtain ⟨a,rfl,s⟩:=r1
  exact ⟨a,rfl,⟨_,s.sql⟩,p1.here W1 (js_list fun ρ' H' c' W' E _=>⟨_,(sqP_mono E s).sql,Rels.ints⟩)⟩
 | ref k =>
  obtain ⟨a,rfl,ha⟩:=r1
  dsimp only at p1
  split at p1
  ·rename_i l hl
   obtain ⟨_,xs,hx,rs⟩:=W1.cel k a _ ha hl
   refine ⟨a,rfl,⟨xs,SqL.of hx⟩,p1.here W1 (js_list fun ρ' H' c' W' E st=>?_)⟩
   obtain ⟨_,ys,hy,rs'⟩:=W'.cel k a _ (E.pre k a ha) st
   exact ⟨ys,SqL.of hy,rs'⟩
  ·exact p1.elim
 | _=>exact p1.elim
theorem id_tup {l:Expr} {dl:Ev→List Cell→R D} (hl:PEd X l dl):PId X tg l (dSeqT dl):=(pi_tup hl).imp fun σ H Q h=>by
 obtain ⟨ρ,e,c,W,V,p⟩:=h
 refine ⟨ρ,e,c,W,V,post.bind p fun x c1 ρ1 H1 v _ W1 X1 r1 p1=>?_⟩
 cases x with
 | tup l =>
  obtain ⟨a,xs,rfl,s,rs⟩:=r1
  exact ⟨a,rfl,⟨xs,SqT.of s⟩,p1.here W1 (js_tup fun ρ' H' c' W' E _=>⟨xs,SqT.of (tup_mono W1 E s),Rels.mono W1 E _ _ rs⟩)⟩
 | _=>exact p1.elim
theorem id_rng1 {a:Expr} {da:Ev→List Cell→R (List D)} {p pos:Pos} (ha:PAd X [a] da) (hm:X.mg "range"=none) (hg:Gl X "range":=by rfl) (hs:starEach [a] X.env=[(false,eval a X.env)]:=by exact star1 rfl):PId X tg (.Call (.Name "range" p) [a] [] pos) (dRng1 da) :=
 (pi_range1 hg hm ha hs).imp fun σ H Q h=>by
  obtain ⟨ρ,e,c,W,V,p⟩:=h
  refine ⟨ρ,e,c,W,V,post.bind p fun x c1 ρ1 H1 v _ W1 X1 r1 p1=>?_⟩
  split at p1
  ·rename_i j _
   split at p1
   ·rename_i hj
    obtain ⟨y,ys,rfl,ry,rs⟩:=r1
    cases ry; cases rs
    refine ⟨j,rfl,hj.1,hj.2,p1.here W1 ?_⟩
    have:=js_rng (K:=X.K) (ρ:=ρ1) (H:=H1) (lo:=0) (hi:=j) (st:=fun _=>True)
    rw [Int.sub_zero] at this
    exact this
   ·exact p1.elim
  ·exact p1.elim
theorem id_rng2 {a b:Expr} {da:Ev→List Cell→R (List D)} {p pos:Pos} (ha:PAd X [a,b] da) (hm:X.mg "range"=none) (hg:Gl X "range":=by rfl) (hs:starEach [a,b] X.env=[(false,eval a X.env),(false,eval b X.env)]:=by exact star2 rfl rfl) (hs2:starEach [b] X.env=[(false,eval b X.env)]:=by exact star1 rfl):PId X tg (.Call (.Name "range" p) [a,b] [] pos) (dRng2 da) :=
 (pi_range2 hg hm ha hs hs2).imp fun σ H Q h=>by
  obtain ⟨ρ,e,c,W,V,p⟩:=h
  refine ⟨ρ,e,c,W,V,post.bind p fun x c1 ρ1 H1 v _ W1 X1 r1 p1=>?_⟩
  split at p1
  ·rename_i i j _
   split at p1
   ·rename_i hj
    obtain ⟨y,ys,rfl,ry,z,zs,rfl,rz,rs⟩:=r1
    cases ry; cases rz; cases rs
    exact ⟨i,j,rfl,hj,p1.here W1 js_rng⟩
   ·exact p1.elim
  ·exact p1.elim
theorem js_zip {l m:List D} {a b:Addr} {st:List Cell→Prop} (h:∀ ρ' H' c',Wd K ρ' H' c'→Ext ρ H ρ' H'→st c'→∃ xs ys,SqT K H' a xs∧SqT K H' b ys∧Rels K ρ' H' l xs∧Rels K ρ' H' m ys):JS K ρ H ⟨List.zipWith (fun x y=>.tup [x,y]) l m,st⟩ (Itz (SqT K) a b):=by
 intro ρ' H' c' W E s i
 obtain ⟨xs,ys,q1,q2,r1,r2⟩:=h ρ' H' c' W E s
 refine ⟨fun d hd=>?_,fun e=>⟨xs,ys,q1,q2,?_⟩⟩
 ·have hd:(List.zipWith (fun x y=>D.tup [x,y]) l m)[i]? = some d:=hd
  rw [List.getElem?_zipWith] at hd
  cases e1:l[i]? with
  | none=>rw [e1] at hd; cases hd
  | some x =>
   cases e2:m[i]? with
   | none=>rw [e1,e2] at hd; cases hd
   | some y =>
    rw [e1,e2] at hd
    cases hd
    obtain ⟨v,hv,rv⟩:=r1.get e1
    obtain ⟨u,hu,ru⟩:=r2.get e2
    refine ⟨⟨xs,ys,v,u,q1,q2,hv,hu⟩,fun z H2 hz=>?_⟩
    obtain ⟨t,v',u',rfl,ht,rfl,hz⟩:=hz
    obtain ⟨z1,z2⟩:=hz xs ys q1 q2
    rw [hv] at z1; rw [hu] at z2
    cases z1; cases z2
    exact ⟨W.fresh ht,Ext.fresh W ht,t,[v,u],rfl,upd_same,v,[u],rfl,Rel.mono W (Ext.fresh W ht) _ _ rv,u,[],rfl,Rel.mono W (Ext.fresh W ht) _ _ ru,rfl⟩
 ·have e:i=(List.zipWith (fun x y=>D.tup [x,y]) l m).length:=e
  rw [List.length_zipWith] at e
  rw [r1.length,r2.length]
  omega
open Classical in
noncomputable def forD (st:List Cell→Prop) (g:Gd) (b:Ev→List Cell→R Fl):List D→Ev→List Cell→R Fl
 | [],e,c=>if st c then .ok (.nx e) c else .bad
 | x :: xs,e,c=>if st c then (g x e c).bind fun e c=>(b e c).bind fun f c=>match f with
   | .nx e=>forD st g b xs e c
   | .ct e=>forD st g b xs e c
   | .bk e=>.ok (.nx e) c
   | .rt d=>.ok (.rt d) c
  else .bad
noncomputable def sFor (s:Ev→List Cell→R Src) (g:Gd) (b:Ev→List Cell→R Fl):Ev→List Cell→R Fl:=fun e c=>(s e c).bind fun s c=>forD s.stays g b s.items e c
theorem sd_for {iter:Expr} {body:List Stmt} {ds:Ev→List Cell→R Src} {g:Gd} {db:Ev→List Cell→R Fl} {pos:Pos} (hi:PId X tg iter ds) (hg:PGd X tg g) (hb:PSsd X body db) (hp:PassesOwn (model X.prog X.w) X.A X.env X.xe:=by exact PassesOwn.never) (hc:X.calm=true:=by rfl)
  (hs:∀ x,foldedSetIterable iter X.env x=pure x:=by intro _; rfl):PSd X (.For tg iter body [] pos) (sFor ds g db):=(ps_for hp hc hi hg hb hs).imp fun Z σ H h=>by
 obtain ⟨ρ,e,c,W,V,p⟩:=h
 refine ⟨ρ,e,c,W,V,post.bind p fun s c1 ρ1 H1 J _ W1 X1 j1 p1=>?_⟩
 refine ⟨fun i m σ H=>∃ ρ e c,Wd X.K ρ H c∧Ext ρ1 H1 ρ H∧REnv X.K ρ H e σ∧i≤s.items.length∧m=s.items.length - i∧post X.K (RelF X.K) (forD s.stays g db (s.items.drop i) e c) ρ H (En Z),
  ⟨_,ρ1,e,c1,W1,Ext.refl,V.mono W X1,Nat.zero_le _,rfl,p1⟩,?_⟩
 rintro i m σ2 H2 ⟨ρ2,e2,c2,W2,X2,V2,hi2,rfl,p2⟩
 by_cases hl:i < s.items.length
 ·rw [List.drop_eq_getElem_cons hl] at p2
  unfold forD at p2
  split at p2
  ·rename_i hst
   obtain ⟨go,yl⟩:=(j1 ρ2 H2 c2 W2 X2 hst i).1 _ (List.getElem?_eq_getElem hl)
   refine .inr ⟨go,fun σ' H'=>∃ ρ e c,Wd X.K ρ H' c∧Ext ρ1 H1 ρ H'∧REnv X.K ρ H' e σ'∧i + 1≤s.items.length∧post X.K (RelF X.K) (forD s.stays g db (s.items.drop (i + 1)) e c) ρ H' (En Z),?_,fun x H3 hy=>?_⟩
   ·rintro σ' H' ⟨ρ,e,c,w,x,v,l,q⟩
    exact ⟨s.items.length - (i + 1),by omega,ρ,e,c,w,x,v,l,rfl,q⟩
   ·obtain ⟨W3,X3,r3⟩:=yl x H3 hy
    refine ⟨ρ2,_,e2,c2,W3,V2.mono W2 X3,r3,post.bind (post.ext p2 X3) fun e4 c4 ρ4 H4 σ4 _ W4 X4 V4 p4=>?_⟩
    refine ⟨ρ4,e4,c4,W4,V4,post.bind p4 fun f c5 ρ5 H5 b _ W5 X5 r5 p5=>?_⟩
    have X15:=((X2.trans X3).trans X4).trans X5
    cases f with
    | nx e1=>obtain ⟨σ1,rfl,V1⟩:=r5; exact ⟨ρ5,e1,c5,W5,X15,V1,hl,p5⟩
    | ct e1=>obtain ⟨σ1,rfl,V1⟩:=r5; exact ⟨ρ5,e1,c5,W5,X15,V1,hl,p5⟩
    | bk e1=>obtain ⟨σ1,rfl,V1⟩:=r5; exact post.here (Q:=En Z) (show post X.K (RelF X.K) (.ok (Fl.nx e1) c5) ρ5 H5 (En Z) from p5) W5 ⟨_,rfl,V1⟩
    | rt d=>obtain ⟨v,rfl,V1⟩:=r5; exact post.here (Q:=En Z) (show post X.K (RelF X.K) (.ok (Fl.rt d) c5) ρ5 H5 (En Z) from p5) W5 ⟨_,rfl,V1⟩
  ·exact p2.elim
 ·obtain rfl:i=s.items.length:=by omega
  rw [List.drop_eq_nil_of_le (Nat.le_refl _)] at p2
  unfold forD at p2
  split at p2
  ·rename_i hst
   exact .inl ⟨(j1 ρ2 H2 c2 W2 X2 hst _).2 rfl,post.here (Q:=En Z) p2 W2 ⟨σ2,rfl,V2⟩⟩
  ·exact p2.elim
noncomputable def whileD (t:Ev→List Cell→R Bool) (b:Ev→List Cell→R Fl):Nat→Ev→List Cell→R Fl
 | 0,_,_=>.bad
 | n + 1,e,c=>(t e c).bind fun k c=>if k=true then (b e c).bind fun f c=>match f with
   | .nx e=>whileD t b n e c
   | .ct e=>whileD t b n e c
   | .bk e=>.ok (.nx e) c
   | .rt d=>.ok (.rt d) c
  else .ok (.nx e) c
end
end L2
namespace L2
open PySem PySem.Spec PyProof.Rows
noncomputable def pickD (pick:List (Option Nat)) (e:Ev):Ev:=pick.map fun o=>o.bind fun j=>(e[j]?).bind id
open Classical in
noncomputable def compD (st:List Cell→Prop) (g:Gd) (t:Ev→List Cell→R Bool) (el:Ev→List Cell→R D):List D→Ev→List D→List Cell→R (List D)
 | [],e,acc,c=>if st c then .ok acc c else .bad
 | x :: xs,e,acc,c=>if st c then (g x e c).bind fun e c=>(t e c).bind fun k c=>if k=true then (el e c).bind fun y c=>compD st g t el xs e (acc ++ [y]) c else compD st g t el xs e acc c else .bad
noncomputable def dComp (s:Ev→List Cell→R Src) (pick:List (Option Nat)) (g:Gd) (t:Ev→List Cell→R Bool) (el:Ev→List Cell→R D):Ev→List Cell→R D:=fun e c=>(s e c).bind fun s c =>
 if s.items.length < sizeLine then (compD s.stays g t el s.items (pickD pick e) [] c).bind fun l c=>.ok (.lst l) c else .bad
noncomputable def dYes:Ev→List Cell→R Bool:=fun _ c=>.ok true c
noncomputable abbrev PIfd (X:Cx) (ifs:List Expr) (t:Ev→List Cell→R Bool):Prop:=PIfs X ifs (tD X.K (fun _ _ a b=>a=b) t)
section
variable {X:Cx} {N':List Str} {pick:List (Option Nat)} {scope:Scope} {tg elt iter:Expr} {ifs:List Expr} {pos:Pos} {ds:Ev→List Cell→R Src} {g:Gd} {dt:Ev→List Cell→R Bool} {de:Ev→List Cell→R D}
theorem pifd_nil:PIfd X [] dYes:=fun pins s σ H Q I h=>by
 obtain ⟨ρ,e,c,W,V,p⟩:=h
 exact pifs_nil pins s σ H Q I (post.here (b:=true) p W rfl)
theorem REnv.picked {K:PySem.W.Frag} {ρ:List Addr} {H:Hp} {e:Ev} {σ:St} (V:REnv K ρ H e σ):REnv K ρ H (pickD pick e) (spick pick σ):=by
 refine ⟨fun i d h=>?_,by simp [pickD,spick]⟩
 unfold pickD at h
 unfold spick
 rw [List.getElem?_map] at h ⊢
 cases q:pick[i]? with
 | none=>rw [q] at h; cases h
 | some o =>
  rw [q] at h
  cases o with
  | none=>cases h
  | some j =>
   have h':(e[j]?).bind id=some d:=Option.some.inj h
   cases q2:e[j]? with
   | none=>rw [q2] at h'; cases h'
   | some z =>
    rw [q2] at h'
    have h'':z=some d:=h'
    subst h''
    obtain ⟨v,hv,r⟩:=V.get j d q2
    exact ⟨v,by simp [hv],r⟩
theorem compW_of {K:PySem.W.Frag} {ρ1:List Addr} {H1:Hp} {c1:List Cell} {e:Ev} {σ:St} {s:Src} {J:It} {Q:VK} (W1:Wd K ρ1 H1 c1) (V1:REnv K ρ1 H1 e σ) (j1:JS K ρ1 H1 s J) (hn:s.items.length < sizeLine)
  (p1:post K (Rel K) ((compD s.stays g dt de s.items e [] c1).bind fun l c=>.ok (.lst l) c) ρ1 H1 Q):CompW J (tGD K g) (tD K (fun _ _ a b=>a=b) dt) (tD K (Rel K) de) Q σ H1:=by
 refine ⟨fun i m σ ys H=>∃ ρ e acc c,Wd K ρ H c∧Ext ρ1 H1 ρ H∧REnv K ρ H e σ∧Rels K ρ H acc ys∧acc.length≤i∧i≤s.items.length∧m=s.items.length - i∧post K (Rel K) ((compD s.stays g dt de (s.items.drop i) e acc c).bind fun l c=>.ok (.lst l) c) ρ H Q,
  ⟨_,ρ1,e,[],c1,W1,Ext.refl,V1,rfl,Nat.le_refl _,Nat.zero_le _,rfl,p1⟩,?_⟩
 rintro i m σ2 ys H2 ⟨ρ2,e2,acc,c2,W2,X2,V2,r2,ha,hi2,rfl,p2⟩
 refine ⟨by rw [r2.length]; omega,?_⟩
 by_cases hl:i < s.items.length
 ·rw [List.drop_eq_getElem_cons hl] at p2
  unfold compD at p2
  split at p2
  ·rename_i hst
   obtain ⟨go,yl⟩:=(j1 ρ2 H2 c2 W2 X2 hst i).1 _ (List.getElem?_eq_getElem hl)
   refine .inr ⟨go,fun σ' ys' H'=>∃ ρ e acc c,Wd K ρ H' c∧Ext ρ1 H1 ρ H'∧REnv K ρ H' e σ'∧Rels K ρ H' acc ys'∧acc.length≤i + 1∧i + 1≤s.items.length∧post K (Rel K) ((compD s.stays g dt de (s.items.drop (i + 1)) e acc c).bind fun l c=>.ok (.lst l) c) ρ H' Q,?_,fun x H3 hy=>?_⟩
   ·rintro σ' ys' H' ⟨ρ,e,acc,c,w,x,v,r,a,l,q⟩
    exact ⟨s.items.length - (i + 1),by omega,ρ,e,acc,c,w,x,v,r,a,l,rfl,q⟩
   ·obtain ⟨W3,X3,r3⟩:=yl x H3 hy
    have assoc:∀ {α β γ:Type} (r:R α) (f:α→List Cell→R β) (g:β→List Cell→R γ),(r.bind f).bind g=r.bind fun a c=>(f a c).bind g:=fun r f g=>by cases r <;> rfl
    rw [assoc] at p2
    refine ⟨ρ2,_,e2,c2,W3,V2.mono W2 X3,r3,post.bind (post.ext p2 X3) fun e4 c4 ρ4 H4 σ4 _ W4 X4 V4 p4=>?_⟩
    rw [assoc] at p4
    refine ⟨ρ4,e4,c4,W4,V4,post.bind p4 fun k c5 ρ5 H5 b _ W5 X5 r5 p5=>?_⟩
    cases r5
    have X15:=((X2.trans X3).trans X4).trans X5
    have r25:=Rels.mono W2 ((X3.trans X4).trans X5) _ _ r2
    cases k with
    | true =>
     refine iteT ?_
     rw [if_pos rfl,assoc] at p5
     refine ⟨ρ5,e4,c5,W5,V4.mono W4 X5,post.bind p5 fun y c6 ρ6 H6 v _ W6 X6 r6 p6=>?_⟩
     refine ⟨ρ6,e4,acc ++ [y],c6,W6,X15.trans X6,(V4.mono W4 X5).mono W5 X6,(Rels.mono W5 X6 _ _ r25).append ⟨v,[],rfl,r6,rfl⟩,by simp; exact ha,hl,p6⟩
    | false =>
     refine iteF ?_
     rw [if_neg Bool.false_ne_true] at p5
     exact ⟨ρ5,e4,acc,c5,W5,X15,V4.mono W4 X5,r25,Nat.le_succ_of_le ha,hl,p5⟩
  ·exact p2.elim
 ·obtain rfl:i=s.items.length:=by omega
  rw [List.drop_eq_nil_of_le (Nat.le_refl _)] at p2
  unfold compD at p2
  split at p2
  ·rename_i hst
   exact .inl ⟨(j1 ρ2 H2 c2 W2 X2 hst _).2 rfl,new_lst W2 r2 p2⟩
  ·exact p2.elim
theorem comp_T {σ:St} {H:Hp} {Q:VK} {K:PySem.W.Frag} (h:tD K (Rel K) (dComp ds pick g dt de) σ H Q):tComp (tID K ds) pick (tGD K g) (tD K (fun _ _ a b=>a=b) dt) (tD K (Rel K) de) σ H Q:=by
 obtain ⟨ρ,e,c,W,V,p⟩:=h
 refine ⟨ρ,e,c,W,V,post.bind p fun s c1 ρ1 H1 J _ W1 X1 j1 p1=>?_⟩
 split at p1
 ·rename_i hn
  exact compW_of W1 (V.mono W X1).picked j1 hn p1
 ·exact p1.elim
theorem pd_comp (S:CompScope X N' pick scope) (hit:PId X tg iter ds)
  (hg:∀ cl C s₀ H₀ ex pn,PGd (compCx X N' scope cl C s₀ H₀ ex pn) tg g) (hi:∀ cl C s₀ H₀ ex pn,PIfd (compCx X N' scope cl C s₀ H₀ ex pn) ifs dt) (he:∀ cl C s₀ H₀ ex pn,PEd (compCx X N' scope cl C s₀ H₀ ex pn) elt de)
  (hc:X.calm=true:=by rfl) (hs:∀ x,foldedSetIterable iter X.env x=pure x:=by intro _; rfl) :
  PEd X (.ListComp elt [⟨tg,iter,ifs,0⟩] scope pos) (dComp ds pick g dt de):=(pe_comp S hc hit hg hi he hs).imp fun σ H Q h=>comp_T h
theorem sd_setComp {i:Nat} {y:Str} {py spos:Pos} (S:CompScope X N' pick scope) (hit:PId X tg iter ds)
  (hg:∀ cl C s₀ H₀ ex pn,PGd (compCx X N' scope cl C s₀ H₀ ex pn) tg g) (hi:∀ cl C s₀ H₀ ex pn,PIfd (compCx X N' scope cl C s₀ H₀ ex pn) ifs dt) (he:∀ cl C s₀ H₀ ex pn,PEd (compCx X N' scope cl C s₀ H₀ ex pn) elt de)
  (hsw:swapsWith (.ListComp elt [⟨tg,iter,ifs,0⟩] scope pos) (some (.Name y py)) spos.line X.env=pure true:=by rfl) (hN:X.N.Nodup:=by decide +kernel) (hy:X.N[i]? = some y:=by rfl) (hl:X.env.scope.names.lookup y=some .local:=by rfl)
  (hc:X.calm=true:=by rfl) (hs:∀ x,foldedSetIterable iter X.env x=pure x:=by intro _; rfl) :
  PSd X (.Assign [.Name y py] (.ListComp elt [⟨tg,iter,ifs,0⟩] scope pos) spos) (sSet i (dComp ds pick g dt de)):=(ps_setComp (g:=tGD X.K g) (tt:=tD X.K (fun _ _ a b=>a=b) dt) (te:=tD X.K (Rel X.K) de) hsw hN hy hl S hc hit hg hi he hs).imp fun Z σ H h=>by
 refine comp_T (g:=g) (dt:=dt) (de:=de) ?_
 obtain ⟨ρ,e,c,W,V,p⟩:=h
 refine ⟨ρ,e,c,W,V,post.bind p fun x c1 ρ1 H1 v _ W1 X1 r1 p1=>p1.here W1 ⟨_,rfl,(V.mono W X1).set r1 i⟩⟩
end
noncomputable def spD (K:PySem.W.Frag) (n:Nat) (m:List D→List Cell→R D):Sp:=fun vs H Q _=>∃ ρ xs c,Wd K ρ H c∧Rels K ρ H xs vs∧xs.length=n∧post K (Rel K) (m xs c) ρ H Q
noncomputable def dCall (n:Nat) (m:List D→List Cell→R D) (a:Ev→List Cell→R (List D)):Ev→List Cell→R D:=fun e c=>(a e c).bind fun xs c=>if xs.length=n then m xs c else .bad
noncomputable def startD (n:Nat) (xs:List D):Ev:=xs.map some ++ List.replicate (n - xs.length) none
noncomputable def exitD (own:Bool) (n:Nat) (v:D) (c:List Cell):R D:=match v with
 | .ref k=>match c[k]? with
  | some (.lst l)=>if n≤k then (if own=true then .ok (.ref n) (c.take n ++ [.lst l]) else .ok (.lst l) (c.take n)) else .bad
  | none=>.bad
 | v=>if noRef v=true then .ok v (c.take n) else .bad
noncomputable def fnD (n:Nat) (own:Bool) (d:Ev→List Cell→R Fl):List D→List Cell→R D:=fun xs c=>(d (startD n xs) c).bind fun f c'=>match f with
 | .rt v=>exitD own c.length v c'
 | .nx _=>exitD own c.length .non c'
 | _=>.bad
section
variable {P:Program} {w:World} {K:PySem.W.Frag} {mg:Str→Option Value} {base:Heap}
theorem exit_ok {own:Bool} {ρ ρ1:List Addr} {H H1:Hp} {c c1:List Cell} {v:D} {x:V} {Q:VK} (W:Wd K ρ H c) (W1:Wd K ρ1 H1 c1) (X1:Ext ρ H ρ1 H1) (r:Rel K ρ1 H1 v x) (p:post K (Rel K) (exitD own c.length v c1) ρ H Q):Q x H1:=by
 have hn:=Ext.len W W1 X1
 have Wc:=W1.cut hn
 have Xc:=X1.cut (n:=c.length) (Nat.le_of_eq W.len)
 unfold exitD at p
 split at p
 ·rename_i k
  split at p
  ·rename_i l hl
   split at p
   ·rename_i hk
    obtain ⟨a,rfl,ha⟩:=r
    obtain ⟨nr,xs,hx,rl⟩:=W1.cel k a _ ha hl
    have na:a∉ρ1.take c.length:=by
     intro h
     obtain ⟨j,hj,e⟩:=List.mem_iff_getElem.mp h
     have hj2:j < c.length:=by simp at hj; omega
     rw [List.getElem_take] at e
     have hk1:=List.getElem?_eq_some_iff.mp ha
     have hjl:j < ρ1.length:=by simp at hj; omega
     have:=(List.getElem_inj W1.nd (h₀:=hjl) (h₁:=hk1.1)).mp (e.trans hk1.2.symm)
     omega
    have sub:∀ b,b∈ρ1.take c.length→b∈ρ1:=fun b h=>List.mem_of_mem_take h
    split at p
    ·have lr:(ρ1.take c.length).length=c.length:=by simp [W1.len]; omega
     refine p (ρ1.take c.length ++ [a]) H1 (.ref a) ?_ ?_ ⟨a,rfl,?_⟩
     ·refine ⟨?_,by simp [W1.len],fun j b cl e1 e2=>?_,W1.tab⟩
      ·rw [List.nodup_append]
       refine ⟨Wc.nd,by simp,?_⟩
       intro y hy z hz
       rw [List.mem_singleton] at hz
       subst hz
       exact fun q=>na (q ▸ hy)
      ·by_cases hj:j < c.length
       ·rw [List.getElem?_append_left (by rw [lr]; exact hj)] at e1
        rw [List.getElem?_append_left (by simp; omega)] at e2
        have q:=Wc.cel j b cl e1 e2
        cases cl with
        | lst l' =>
         obtain ⟨nr',ys,hy,r'⟩:=q
         refine ⟨nr',ys,hy,Rels.low (ρ:=ρ1) (fun z hz=>?_) l' ys nr' ?_⟩
         ·rcases List.mem_append.mp hz with hz | hz
          ·exact sub z hz
          ·rw [List.mem_singleton] at hz; subst hz; exact List.mem_of_getElem? ha
         ·have e1':ρ1[j]? = some b:=by rw [List.getElem?_take,if_pos hj] at e1; exact e1
          have e2':c1[j]? = some (.lst l'):=by rw [List.getElem?_take,if_pos hj] at e2; exact e2
          obtain ⟨_,zs,hz,rz⟩:=W1.cel j b _ e1' e2'
          rw [hy] at hz; cases hz
          exact rz
       ·have hj':j=c.length:=by
         have:=(List.getElem?_eq_some_iff.mp e1).1
         rw [List.length_append,lr] at this
         simp at this
         omega
        subst hj'
        rw [List.getElem?_append_right (by rw [lr]; exact Nat.le_refl _),lr,Nat.sub_self] at e1
        rw [List.getElem?_append_right (by simp; omega),show c.length - (List.take c.length c1).length=0 by simp; omega] at e2
        cases e1; cases e2
        refine ⟨nr,xs,hx,Rels.low (ρ:=ρ1) (fun z hz=>?_) l xs nr rl⟩
        rcases List.mem_append.mp hz with hz | hz
        ·exact sub z hz
        ·rw [List.mem_singleton] at hz; subst hz; exact List.mem_of_getElem? ha
     ·refine ⟨fun j b e=>?_,fun b o e z t=>?_⟩
      ·have q:=Xc.pre j b e
       rw [List.getElem?_append_left (List.getElem?_eq_some_iff.mp q).1]; exact q
      ·obtain ⟨h1,h2⟩:=X1.keep b o e z t
       refine ⟨h1,fun q=>h2 ?_⟩
       rcases List.mem_append.mp q with q | q
       ·exact sub b q
       ·rw [List.mem_singleton] at q; subst q; exact List.mem_of_getElem? ha
     ·rw [List.getElem?_append_right (by rw [lr]; exact Nat.le_refl _),lr,Nat.sub_self]; rfl
    ·exact p (ρ1.take c.length) H1 (.ref a) Wc Xc ⟨a,xs,rfl,⟨hx,na⟩,Rels.low sub l xs nr rl⟩
   ·exact p.elim
  ·exact p.elim
 ·split at p
  ·rename_i hv
   exact p _ H1 x Wc Xc (Rel.low (fun b h=>List.mem_of_mem_take h) _ _ hv r)
  ·exact p.elim
theorem REnv.start {ρ:List Addr} {H:Hp} {xs:List D} {vs:List V} {N:List Str} (r:Rels K ρ H xs vs):REnv K ρ H (startD N.length xs) (start N vs):=by
 have hl:=r.length
 refine ⟨fun i d h=>?_,by simp [startD,L2.start,hl]⟩
 unfold startD at h
 unfold L2.start
 by_cases hi:i < xs.length
 ·rw [List.getElem?_append_left (by simpa using hi),List.getElem?_map] at h
  cases q:xs[i]? with
  | none=>rw [q] at h; cases h
  | some x =>
   rw [q] at h
   cases h
   obtain ⟨v,hv,rv⟩:=r.get q
   exact ⟨v,by rw [List.getElem?_append_left (by simp [hl]; exact hi),List.getElem?_map,hv]; rfl,rv⟩
 ·rw [List.getElem?_append_right (by simpa using Nat.le_of_not_lt hi)] at h
  have:=List.mem_of_getElem? h
  rw [List.mem_replicate] at this
  cases this.2
theorem fn_ok {x qual:Str} {st:Stmt} {f:Addr} {fd:FuncData} {N ps:List Str} {k n m:Nat} {own:Bool} {d:Ev→List Cell→R Fl} (F:Fun K x qual st f fd) (S:FnScope N ps (defScope st)) (hN:N.length=n) (hm:ps.length=m)
  (hb:∀ (cdv:Value) (A:Around) (outer:List Env) (s:Shared) (H:Hp) (E:XK),Room k (A.deeper (envOfC qual (defScope st) s.heap.objs.size f cdv))→PSsd (cxOf CX0 P w K mg base N qual (defScope st) f cdv A outer s H E).nox (defBody st) d) :
  FnOk P w K mg base CX0 (k + 1) f fd ps (spD K m (fnD n own d)):=by
 subst hN; subst hm
 refine F.ok S (fun vs H Q E h=>?_) (fun cdv A outer s H vs Q E hr h=>⟨_,hb cdv A outer s H E hr,?_⟩)
 ·obtain ⟨ρ,xs,c,W,r,hl,p⟩:=h
  exact r.length.trans hl
 ·obtain ⟨ρ,xs,c,W,r,hl,p⟩:=h
  refine ⟨ρ,startD N.length xs,c,W,REnv.start r,post.bind p fun fl c1 ρ1 H1 b _ W1 X1 r1 p1=>?_⟩
  cases fl with
  | nx e1 =>
   obtain ⟨σ1,rfl,V1⟩:=r1
   exact exit_ok (v:=.non) (x:=.non) (H1:=H1) W W1 X1 rfl (by
    unfold fnD at p; exact id (α:=post K (Rel K) (exitD own c.length .non c1) ρ H Q) (by
     rename_i he; rw [he] at p; exact p))
  | rt d =>
   obtain ⟨v,rfl,V1⟩:=r1
   exact exit_ok (v:=d) (x:=v) (H1:=H1) W W1 X1 V1 (by
    unfold fnD at p; rename_i he; rw [he] at p; exact p)
  | bk e1=>exact p1.elim
  | ct e1=>exact p1.elim
end
end L2
namespace L2
open PySem PySem.Spec PyProof.Rows
section
variable {X:Cx}
theorem pd_fn {x:Str} {st:Stmt} {ps:List Str} {f:Addr} {fd:FuncData} {k n:Nat} {m:List D→List Cell→R D} {e:Expr} {es:List Expr} {da:Ev→List Cell→R (List D)} {p pos:Pos} (D:Def X.K X.mg x st ps f fd) (G:FnOk X.prog X.w X.K X.mg X.base CX0 k f fd ps (spD X.K n m)) (hr:Room k X.A) (ha:PAd X (e :: es) da) (hg:Gl X x:=by rfl)
  (hdb:(x == ("__debug__":Str))=false:=by decide) (he:starEach (e :: es) X.env=(false,eval e X.env) :: starEach es X.env:=by exact starE rfl) (hpl:(backTo pos (starEach es X.env)).any (·.1)=false:=by exact starAny rfl) :
  PEd X (.Call (.Name x p) (e :: es) [] pos) (dCall n m da):=(pe_fn D G hr ha hg hdb he hpl).imp fun σ H Q h=>by
 obtain ⟨ρ,e,c,W,V,q⟩:=h
 refine ⟨ρ,e,c,W,V,post.bind q fun xs c1 ρ1 H1 vs _ W1 X1 r1 p1=>?_⟩
 split at p1
 ·rename_i hl
  exact ⟨ρ1,xs,c1,W1,by rw [List.append_nil]; exact r1,hl,p1⟩
 ·exact p1.elim
theorem pd_callB {id:String} {x:Str} {p pos:Pos} {e:Expr} {es:List Expr} {da:Ev→List Cell→R (List D)} {f:List D→List Cell→R D} (hc:CallR X (.builtin id) (rN X.K f)) (hm:X.mg x=none) (hv:bootBuiltins x=some (.builtin id)) (ha:PAd X (e :: es) da) (hg:Gl X x:=by rfl) (hn:x≠"__name__":=by decide) (hdb:(x == ("__debug__":Str))=false:=by decide)
  (he:starEach (e :: es) X.env=(false,eval e X.env) :: starEach es X.env:=by exact starE rfl) (hpl:(backTo pos (starEach es X.env)).any (·.1)=false:=by exact starAny rfl):PEd X (.Call (.Name x p) (e :: es) [] pos) (dCB f da):=(pe_callB hc hg hm hv ha hn hdb he hpl).imp fun σ H Q h=>t_cb h
theorem pd_callTy {T:String} {x:Str} {p pos:Pos} {e:Expr} {es:List Expr} {da:Ev→List Cell→R (List D)} {f:List D→List Cell→R D} (hc:CallR X (.type T) (rN X.K f)) (hm:X.mg x=none) (hv:bootBuiltins x=some (.type T)) (ha:PAd X (e :: es) da) (hg:Gl X x:=by rfl) (hn:x≠"__name__":=by decide) (hdb:(x == ("__debug__":Str))=false:=by decide)
  (he:starEach (e :: es) X.env=(false,eval e X.env) :: starEach es X.env:=by exact starE rfl) (hpl:(backTo pos (starEach es X.env)).any (·.1)=false:=by exact starAny rfl):PEd X (.Call (.Name x p) (e :: es) [] pos) (dCB f da):=(pe_callTy hc hg hm hv ha hn hdb he hpl).imp fun σ H Q h=>t_cb h
end
noncomputable def lenD:List D→List Cell→R D:=fun xs c=>match xs with
 | [x]=>match seqD c x with
  | some l=>.ok (.int l.length) c
  | none=>match x with
   | .str z=>if z.length≤sizeLine then .ok (.int z.length) c else .bad
   | _=>.bad
 | _=>.bad
noncomputable def tyD:D→Option String
 | .non=>some "NoneType"
 | .bl _=>some "bool"
 | .int _=>some "int"
 | .str _=>some "str"
 | .tup _=>some "tuple"
 | .lst _=>some "list"
 | .ref _=>some "list"
 | _=>none
noncomputable def isiD:List D→List Cell→R D:=fun xs c=>match xs with
 | [.dic,.ty T]=>if T∈["bool","int","str","list","tuple","dict"] then .ok (.bl (subT "dict" T)) c else .bad
 | [x,.ty T]=>match tyD x with
  | some n=>if T∈["bool","int","str","list","tuple","dict"] then .ok (.bl (subT n T)) c else .bad
  | none=>.bad
 | _=>.bad
noncomputable def blsD:List D→Option (List Bool)
 | []=>some []
 | .bl b :: l=>(blsD l).map (b :: ·)
 | _=>none
noncomputable def intsD:List D→Option (List Int)
 | []=>some []
 | .int i :: l=>(intsD l).map (i :: ·)
 | _=>none
theorem blsD_map (l:List Bool):blsD (l.map D.bl)=some l:=by
 induction l with
 | nil=>rfl
 | cons a l ih=>simp [blsD,ih]
theorem intsD_map (l:List Int):intsD (l.map D.int)=some l:=by
 induction l with
 | nil=>rfl
 | cons a l ih=>simp [intsD,ih]
theorem blsD_eq:∀ {l:List D} {bs:List Bool},blsD l=some bs→l=bs.map D.bl
 | [],bs,h=>by cases h; rfl
 | d :: l,bs,h=>by
  cases d with
  | bl b =>
   unfold blsD at h
   cases q:blsD l with
   | none=>rw [q] at h; cases h
   | some r=>rw [q] at h; cases h; rw [blsD_eq q]; rfl
  | _=>cases h
theorem intsD_eq:∀ {l:List D} {bs:List Int},intsD l=some bs→l=bs.map D.int
 | [],bs,h=>by cases h; rfl
 | d :: l,bs,h=>by
  cases d with
  | int b =>
   unfold intsD at h
   cases q:intsD l with
   | none=>rw [q] at h; cases h
   | some r=>rw [q] at h; cases h; rw [intsD_eq q]; rfl
  | _=>cases h
noncomputable def quantD (f:List Bool→Bool):List D→List Cell→R D:=fun xs c=>match xs with
 | [.lst l]=>match blsD l with
  | some bs=>.ok (.bl (f bs)) c
  | none=>.bad
 | _=>.bad
noncomputable def allD:=quantD fun bs=>bs.all id
noncomputable def anyD:=quantD fun bs=>bs.any id
noncomputable def max2D:List D→List Cell→R D:=fun xs c=>match xs with
 | [.int i,.int j]=>.ok (.int (if j > i then j else i)) c
 | _=>.bad
noncomputable def min2D:List D→List Cell→R D:=fun xs c=>match xs with
 | [.int i,.int j]=>.ok (.int (if j < i then j else i)) c
 | _=>.bad
noncomputable def absD:List D→List Cell→R D:=fun xs c=>match xs with
 | [.int i]=>.ok (.int (if i < 0 then -i else i)) c
 | _=>.bad
noncomputable def minL:Int→List Int→Int
 | a,[]=>a
 | a,b :: l=>minL (if b < a then b else a) l
noncomputable def min1D:List D→List Cell→R D:=fun xs c=>match xs with
 | [.tup l]=>match intsD l with
  | some (a :: r)=>.ok (.int (minL a r)) c
  | _=>.bad
 | _=>.bad
noncomputable def tupleD:List D→List Cell→R D:=fun xs c=>match xs with
 | [x]=>match seqD c x with
  | some l=>.ok (.tup l) c
  | none=>.bad
 | _=>.bad
noncomputable def listD:List D→List Cell→R D:=fun xs c=>match xs with
 | [x]=>match seqD c x with
  | some l=>.ok (.lst l) c
  | none=>.bad
 | _=>.bad
section
variable {X:Cx} {K:PySem.W.Frag} {ρ:List Addr} {H:Hp} {c:List Cell}
theorem cd_len:CallR X (.builtin "len") (rN X.K lenD):=by
 intro pins s σ H vs us Q I rv h
 obtain ⟨ρ,xs,c,W,rx,p⟩:=h
 unfold lenD at p
 split at p
 ·rename_i x
  obtain ⟨v,r,rfl,hx,hr⟩:=rx
  cases hr
  split at p
  ·rename_i l hl
   obtain ⟨a,ys,rfl,sq,r⟩:=seqD_ok W hx hl
   exact call_len_seq pins s σ H _ us Q I rv ⟨a,ys,rfl,sq,by rw [r.length]; exact p.here W rfl⟩
  ·split at p
   ·split at p
    ·rename_i hz
     cases hx
     exact call_len_str pins s σ H _ us Q I rv ⟨_,rfl,hz,p.here W rfl⟩
    ·exact p.elim
   ·exact p.elim
 ·exact p.elim
theorem tyD_ok {x:D} {v:V} {n:String} (W:Wd K ρ H c) (rx:Rel K ρ H x v) (h:tyD x=some n):tyName H v n:=by
 cases x with
 | non=>cases rx; cases h; exact rfl
 | bl b=>cases rx; cases h; exact rfl
 | int b=>cases rx; cases h; exact rfl
 | str b=>cases rx; cases h; exact rfl
 | tup l=>obtain ⟨a,xs,rfl,s,r⟩:=rx; cases h; exact .inr (.inl ⟨rfl,xs,s⟩)
 | lst l=>obtain ⟨a,xs,rfl,s,r⟩:=rx; cases h; exact .inl ⟨rfl,.inl ⟨xs,s.1⟩⟩
 | ref k =>
  obtain ⟨a,rfl,s⟩:=rx
  cases h
  obtain ⟨xs,e⟩:=W.at' (List.mem_of_getElem? s)
  exact .inl ⟨rfl,.inl ⟨xs,e⟩⟩
 | _=>cases h
theorem cd_isi:CallR X (.builtin "isinstance") (rN X.K isiD):=by
 intro pins s σ H vs us Q I rv h
 obtain ⟨ρ,xs,c,W,rx,p⟩:=h
 unfold isiD at p
 split at p
 ·split at p
  ·rename_i hT
   obtain ⟨v,r,rfl,⟨a,rfl,hH⟩,u,r',rfl,hu,hr⟩:=rx
   cases hr
   cases hu
   obtain ⟨u1,u2,rfl,r1,r2⟩:=Vals.two rv
   cases r1; cases r2
   obtain ⟨hp,_,_⟩:=I.hok a _ hH
   exact PySem.W.kia_one PySem.W.kitx_dict I.kIn hp (kit_sub (n:="dict") (by simp) hT) (fun z=>nomatch z) fun tk=>⟨.bl _,H,I.tok _,rfl,p.here W rfl⟩
  ·exact p.elim
 ·split at p
  ·rename_i n hn
   split at p
   ·rename_i hT
    obtain ⟨v,r,rfl,hx,u,r',rfl,hu,hr⟩:=rx
    cases hr
    cases hu
    exact call_isinst pins s σ H _ us Q I rv ⟨v,n,_,rfl,tyD_ok W hx hn,hT,p.here W rfl⟩
   ·exact p.elim
  ·exact p.elim
 ·exact p.elim
theorem cd_all (hc:X.calm=true:=by rfl):CallR X (.builtin "all") (rN X.K allD):=by
 intro pins s σ H vs us Q I rv h
 obtain ⟨ρ,xs,c,W,rx,p⟩:=h
 unfold allD quantD at p
 split at p
 ·split at p
  ·rename_i bs hb
   obtain ⟨v,r,rfl,⟨a,ys,rfl,s1,r1⟩,hr⟩:=rx
   cases hr
   rw [blsD_eq hb] at r1
   cases r1.bls_inv
   exact call_allB hc pins s σ H _ us Q I rv ⟨a,bs,rfl,SqL.of s1.1,p.here W rfl⟩
  ·exact p.elim
 ·exact p.elim
theorem cd_tuple:CallR X (.type "tuple") (rN X.K tupleD):=by
 intro pins s σ H vs us Q I rv h
 obtain ⟨ρ,xs,c,W,rx,p⟩:=h
 unfold tupleD at p
 split at p
 ·rename_i x
  obtain ⟨v,r,rfl,hx,hr⟩:=rx
  cases hr
  split at p
  ·rename_i l hl
   obtain ⟨a,ys,rfl,sq,r⟩:=seqD_ok W hx hl
   refine call_tuple_of pins s σ H _ us Q I rv ⟨a,ys,rfl,?_⟩
   rcases sq with sq | sq
   ·exact .inl ⟨sq,new_tup W r p⟩
   ·refine .inr ⟨sq,?_⟩
    cases x with
    | tup m=>cases hl; exact p.here W hx
    | lst m =>
     obtain ⟨b,zs,e,s1,_⟩:=hx
     cases e
     exfalso
     rcases sq with sq | ⟨o,its,n,hk,hcl,_⟩
     ·rcases sq with sq | ⟨o,sq⟩ <;> (rw [s1.1] at sq; cases sq)
     ·have:=I.bs a o (I.ok.mod.kin a o hk)
      rw [s1.1] at this
      cases this.2
    | scr m =>
     exfalso
     obtain ⟨b,e,s1⟩:=hx
     cases e
     obtain ⟨i1,_,pl,_⟩:=I.list s1.sql
     obtain ⟨i2,_,pt,_⟩:=I.tuple sq
     obtain ⟨o1,e1,c1,_⟩:=pl.isList
     obtain ⟨o2,e2,c2,_⟩:=pt
     rw [e1] at e2; cases e2
     rw [c1] at c2
     exact absurd c2 (by decide)
    | ref k =>
     exfalso
     obtain ⟨b,e,s1⟩:=hx
     cases e
     obtain ⟨zs,hz⟩:=W.at' (List.mem_of_getElem? s1)
     rcases sq with sq | ⟨o,its,n,hk,hcl,_⟩
     ·rcases sq with sq | ⟨o,sq⟩ <;> (rw [hz] at sq; cases sq)
     ·have:=I.bs a o (I.ok.mod.kin a o hk)
      rw [hz] at this
      cases this.2
    | _=>cases hl
  ·exact p.elim
 ·exact p.elim
end
noncomputable def dAppend (o a:Ev→List Cell→R D):Ev→List Cell→R D:=fun e c=>(o e c).bind fun x c=>match x with
 | .ref k=>(a e c).bind fun y c=>match c[k]? with
  | some (.lst l)=>if l.length < sizeLine∧noRef y=true then .ok .non (c.set k (.lst (l ++ [y]))) else .bad
  | none=>.bad
 | _=>.bad
theorem pd_append {X:Cx} {o e:Expr} {dO da:Ev→List Cell→R D} {apos cpos:Pos} (ho:PEd X o dO) (ha:PEd X e da)
  (hbase:attributeBase o "append" X.env (eval o X.env)=eval o X.env:=by rfl)
  (hfew:((backTo cpos (starEach [e] X.env)).all (fun x=>!x.1) && (backToKw cpos (keywordEach [] X.env)).all (fun x=>x.1.isSome)
   && decide ([e].length + ([]:List Keyword).length + (if ([]:List Keyword).isEmpty then 0 else 1) < 30))=true:=by exact starFew rfl)
  (hline:(apos.endLine == cpos.line)=true:=by rfl) (hs:starEach [e] X.env=(false,eval e X.env) :: starEach [] X.env:=by exact starE rfl) (hplain:(backTo cpos (starEach [] X.env)).any (·.1)=false:=by exact starAny rfl) :
  PEd X (.Call (.Attribute o "append" apos) [e] [] cpos) (dAppend dO da) :=
 (pe_bm PySem.F.plainAttrs_list PySem.F.slot_list_append PySem.F.type_list_append mt_append ho (pa_cons ha pa_nil hs) hbase hfew hline hs hplain).imp fun σ H Q h=>by
  obtain ⟨ρ,e,c,W,V,p⟩:=h
  refine ⟨ρ,e,c,W,V,post.bind p fun x c1 ρ1 H1 v _ W1 X1 r1 p1=>?_⟩
  cases x with
  | ref k =>
   obtain ⟨a,rfl,ha⟩:=r1
   obtain ⟨xs,hx⟩:=W1.at' (List.mem_of_getElem? ha)
   refine ⟨.inl ⟨rfl,xs,SqL.of hx⟩,ρ1,e,c1,W1,V.mono W X1,post.bind p1 fun y c2 ρ2 H2 u _ W2 X2 r2 p2=>?_⟩
   split at p2
   ·rename_i l hl
    split at p2
    ·rename_i hh
     obtain ⟨nr,ys,hy,rl⟩:=W2.cel k a _ (X2.pre k a ha) hl
     refine ⟨a,ys,u,rfl,rfl,hy,by rw [rl.length]; exact hh.1,?_⟩
     refine p2 ρ2 _ .non (W2.write (X2.pre k a ha) (by rw [noRefs_append,nr]; simp [noRefs,hh.2]) (rl.append ⟨u,[],rfl,r2,rfl⟩)) (Ext.write (X2.pre k a ha)) rfl
    ·exact p2.elim
   ·exact p2.elim
  | _=>exact p1.elim
end L2
namespace L2
open PySem PySem.Spec PyProof.Rows
noncomputable def FnW (P:Program) (w:World) (K:PySem.W.Frag) (mg:Str→Option Value) (base:Heap) (A:Around) (n:Nat) (m:List D→List Cell→R D) (f:Addr):Prop :=
 ∃ k fd ps,FnOk P w K mg base CX0 k f fd ps (spD K n m)∧Room k A∧PySem.W.keepIn K (.ref f)=true∧Binds K fd ps []
noncomputable abbrev FnV (X:Cx) (n:Nat) (m:List D→List Cell→R D) (f:Addr):Prop:=FnW X.prog X.w X.K X.mg X.base X.A n m f
noncomputable def fnsD (xs:List Str):Ev→List Cell→R Src:=fun _ c=>.ok ⟨xs.mapIdx fun i x=>.fn x i,fun _=>True⟩ c
noncomputable def dCallV (i n:Nat) (tbl:List (Str×(List D→List Cell→R D))) (a:Ev→List Cell→R (List D)):Ev→List Cell→R D:=fun e c=>match e[i]? with
 | some (some (.fn x j))=>match tbl[j]? with
  | some (y,m)=>if x=y then (a e c).bind fun xs c=>if xs.length=n then m xs c else .bad else .bad
  | none=>.bad
 | _=>.bad
section
variable {X:Cx} {tg:Expr}
end
noncomputable def eqE:D→D→List Cell→R D:=fun x y c=>match x,y with
 | .lst l,.lst []=>.ok (.bl l.isEmpty) c
 | _,_=>.bad
end L2
namespace L2
open PySem
section
variable (e:Ev) (c:List Cell) (a b d:Ev→List Cell→R D) (ta tb:Ev→List Cell→R Bool) (s t:Ev→List Cell→R Fl) (l:Ev→List Cell→R (List D)) (g:Gd) (gs:List D→Ev→List Cell→R Ev)
@[simp] theorem x_var (i:Nat):dVar i e c=match e[i]? with | some (some d)=>.ok d c | _=>.bad:=rfl
@[simp] theorem x_c (d:D):dC d e c=.ok d c:=rfl
@[simp] theorem x_bin (f:D→D→List Cell→R D):dBin f a b e c=(a e c).bind fun x c=>(b e c).bind fun y c=>f x y c:=rfl
@[simp] theorem x_un (f:D→List Cell→R D):dUn f a e c=(a e c).bind fun x c=>f x c:=rfl
@[simp] theorem x_cb (f:List D→List Cell→R D):dCB f l e c=(l e c).bind fun xs c=>f xs c:=rfl
@[simp] theorem x_chain (f g:D→D→List Cell→R D):dChain f g a b d e c=(a e c).bind fun x c=>(b e c).bind fun y c=>(f x y c).bind fun z c=>match z with
 | .bl true=>(d e c).bind fun u c=>g y u c
 | .bl false=>.ok (.bl false) c
 | _=>.bad:=rfl
@[simp] theorem x_nil:dNil e c=.ok [] c:=rfl
@[simp] theorem x_cons:dCons a l e c=(a e c).bind fun x c=>(l e c).bind fun xs c=>.ok (x :: xs) c:=rfl
@[simp] theorem x_tup:dTup l e c=(l e c).bind fun xs c=>if xs.length≤sizeLine then .ok (.tup xs) c else .bad:=rfl
@[simp] theorem x_lst:dLst l e c=(l e c).bind fun xs c=>if xs.length≤sizeLine then .ok (.lst xs) c else .bad:=rfl
@[simp] theorem x_lstM:dLstM l e c=(l e c).bind fun xs c=>if xs.length≤sizeLine∧noRefs xs=true then .ok (.ref c.length) (c ++ [.lst xs]) else .bad:=rfl
@[simp] theorem x_bl:dBl a e c=(a e c).bind fun x c=>match x with | .bl b=>.ok b c | _=>.bad:=rfl
@[simp] theorem x_tru:dTru a e c=(a e c).bind fun x c=>match truD c x with | some b=>.ok b c | none=>.bad:=rfl
@[simp] theorem x_andT:dAndT ta tb e c=(ta e c).bind fun x c=>if x=true then tb e c else .ok false c:=rfl
@[simp] theorem x_orT:dOrT ta tb e c=(ta e c).bind fun x c=>if x=true then .ok true c else tb e c:=rfl
@[simp] theorem x_notT:dNotT ta e c=(ta e c).bind fun x c=>.ok (!x) c:=rfl
@[simp] theorem x_andV:dAndV a b e c=(a e c).bind fun x c=>match x with | .bl k=>if k=true then b e c else .ok (.bl false) c | _=>.bad:=rfl
@[simp] theorem x_orV:dOrV a b e c=(a e c).bind fun x c=>match x with | .bl k=>if k=true then .ok (.bl true) c else b e c | _=>.bad:=rfl
@[simp] theorem x_notV:dNotV a e c=(a e c).bind fun x c=>match x with | .bl k=>.ok (.bl (!k)) c | _=>.bad:=rfl
@[simp] theorem x_ifE:dIfE ta a b e c=(ta e c).bind fun x c=>if x=true then a e c else b e c:=rfl
@[simp] theorem x_call (n:Nat) (m:List D→List Cell→R D):dCall n m l e c=(l e c).bind fun xs c=>if xs.length=n then m xs c else .bad:=rfl
@[simp] theorem x_next:sNext e c=.ok (.nx e) c:=rfl
@[simp] theorem x_bad:sBad e c=.bad:=rfl
@[simp] theorem x_break:sBreak e c=.ok (.bk e) c:=rfl
@[simp] theorem x_cont:sCont e c=.ok (.ct e) c:=rfl
@[simp] theorem x_seq:sSeq s t e c=(s e c).bind fun f c=>match f with | .nx e=>t e c | f=>.ok f c:=rfl
@[simp] theorem x_ret:sRet a e c=(a e c).bind fun x c=>.ok (.rt x) c:=rfl
@[simp] theorem x_drop:sDrop a e c=(a e c).bind fun _ c=>.ok (.nx e) c:=rfl
@[simp] theorem x_if:sIf ta s t e c=(ta e c).bind fun x c=>if x=true then s e c else t e c:=rfl
@[simp] theorem x_set (i:Nat):sSet i a e c=(a e c).bind fun x c=>.ok (.nx (e.set i (some x))) c:=rfl
@[simp] theorem x_asg:sAsg a g e c=(a e c).bind fun x c=>(g x e c).bind fun e c=>.ok (.nx e) c:=rfl
@[simp] theorem x_gname (i:Nat) (x:D):gdName i x e c=.ok (e.set i (some x)) c:=rfl
@[simp] theorem x_gnil:gdNil [] e c=.ok e c:=rfl
@[simp] theorem x_gcons (x:D) (xs:List D):gdCons g gs (x :: xs) e c=(g x e c).bind fun e c=>gs xs e c:=rfl
@[simp] theorem x_gtup (n:Nat) (xs:List D):gdTup n gs (.tup xs) e c=if xs.length=n then gs xs e c else .bad:=rfl
@[simp] theorem x_gsub (x:D):gdSub a b x e c=(a e c).bind fun o c=>(b e c).bind fun i c=>(setD o i x c).bind fun _ c=>.ok e c:=rfl
@[simp] theorem x_for (sr:Ev→List Cell→R Src):sFor sr g s e c=(sr e c).bind fun q c=>forD q.stays g s q.items e c:=rfl
@[simp] theorem x_fn (n:Nat) (own:Bool) (xs:List D):fnD n own s xs c=(s (startD n xs) c).bind fun f c'=>match f with
 | .rt v=>exitD own c.length v c'
 | .nx _=>exitD own c.length .non c'
 | _=>.bad:=rfl
@[simp] theorem x_start (n:Nat) (xs:List D):startD n xs=xs.map some ++ List.replicate (n - xs.length) none:=rfl
@[simp] theorem x_comp (sr:Ev→List Cell→R Src) (pick:List (Option Nat)):dComp sr pick g ta a e c=(sr e c).bind fun q c =>
 if q.items.length < sizeLine then (compD q.stays g ta a q.items (pickD pick e) [] c).bind fun l c=>.ok (.lst l) c else .bad:=rfl
@[simp] theorem x_yes:dYes e c=.ok true c:=rfl
@[simp] theorem x_add (i j:Int):addD (.int i) (.int j) c=.ok (.int (i + j)) c:=rfl
@[simp] theorem x_addT (x y:List D):addD (.tup x) (.tup y) c=if x.length≠0∧x.length + y.length≤sizeLine then .ok (.tup (x ++ y)) c else .bad:=rfl
@[simp] theorem x_sub (i j:Int):subD (.int i) (.int j) c=.ok (.int (i - j)) c:=rfl
theorem x_mul (i j:Int):mulD (.int i) (.int j) c=if (-(2 ^ 64) < i∧i < 2 ^ 64)∨(-(2 ^ 64) < j∧j < 2 ^ 64) then .ok (.int (i * j)) c else .bad:=rfl
theorem x_div (i j:Int):divD (.int i) (.int j) c=if 0 < j∧j < 1073741824 then .ok (.int (i / j)) c else .bad:=rfl
theorem x_mod (i j:Int):modD (.int i) (.int j) c=if 0 < j then .ok (.int (i % j)) c else .bad:=rfl
theorem x_pow (i j:Int):powD (.int i) (.int j) c=if 0≤j∧j≤1000000∧i.natAbs < 2 ^ 64 then .ok (.int (i ^ j.toNat)) c else .bad:=rfl
@[simp] theorem x_neg (i:Int):negD (.int i) c=.ok (.int (-i)) c:=rfl
@[simp] theorem x_cmp (p:Int→Int→Bool) (i j:Int):cmpD p (.int i) (.int j) c=.ok (.bl (p i j)) c:=rfl
@[simp] theorem x_eqi (i j:Int):eqD (.int i) (.int j) c=.ok (.bl (decide (i=j))) c:=rfl
@[simp] theorem x_nei (i j:Int):neD (.int i) (.int j) c=.ok (.bl (!decide (i=j))) c:=rfl
@[simp] theorem x_eqb (i j:Bool):eqD (.bl i) (.bl j) c=.ok (.bl (decide (i=j))) c:=rfl
@[simp] theorem x_neb (i j:Bool):neD (.bl i) (.bl j) c=.ok (.bl (!decide (i=j))) c:=rfl
@[simp] theorem x_eqs (i j:Str):eqD (.str i) (.str j) c=.ok (.bl (decide (i=j))) c:=rfl
@[simp] theorem x_nes (i j:Str):neD (.str i) (.str j) c=.ok (.bl (!decide (i=j))) c:=rfl
@[simp] theorem x_is (x:D):isD x .non c=.ok (.bl (isN x)) c:=rfl
@[simp] theorem x_isnot (x:D):isNotD x .non c=.ok (.bl (!isN x)) c:=rfl
@[simp] theorem n_non:isN .non=true:=rfl
@[simp] theorem n_bl (b:Bool):isN (.bl b)=false:=rfl
@[simp] theorem n_int (b:Int):isN (.int b)=false:=rfl
@[simp] theorem n_str (b:Str):isN (.str b)=false:=rfl
@[simp] theorem n_tup (b:List D):isN (.tup b)=false:=rfl
@[simp] theorem n_lst (b:List D):isN (.lst b)=false:=rfl
@[simp] theorem x_ixT (xs:List D) (i:Int):ixD (.tup xs) (.int i) c=match atI xs i with | some d=>.ok d c | none=>.bad:=rfl
@[simp] theorem x_ixL (xs:List D) (i:Int):ixD (.lst xs) (.int i) c=match atI xs i with | some d=>.ok d c | none=>.bad:=rfl
@[simp] theorem x_lenT (xs:List D):lenD [.tup xs] c=.ok (.int xs.length) c:=rfl
@[simp] theorem x_lenL (xs:List D):lenD [.lst xs] c=.ok (.int xs.length) c:=rfl
@[simp] theorem x_lenS (xs:List Int):lenD [.scr xs] c=.ok (.int xs.length) c:=by
 show R.ok (D.int ((xs.map D.int).length:Nat)) c=_
 rw [List.length_map]
@[simp] theorem x_max2 (i j:Int):max2D [.int i,.int j] c=.ok (.int (if j > i then j else i)) c:=rfl
@[simp] theorem x_min2 (i j:Int):min2D [.int i,.int j] c=.ok (.int (if j < i then j else i)) c:=rfl
@[simp] theorem x_abs (i:Int):absD [.int i] c=.ok (.int (if i < 0 then -i else i)) c:=rfl
@[simp] theorem r_non:noRef .non=true:=rfl
@[simp] theorem r_bl (b:Bool):noRef (.bl b)=true:=rfl
@[simp] theorem r_int (b:Int):noRef (.int b)=true:=rfl
@[simp] theorem r_str (b:Str):noRef (.str b)=true:=rfl
@[simp] theorem r_tup (b:List D):noRef (.tup b)=noRefs b:=by simp [noRef]
@[simp] theorem r_lst (b:List D):noRef (.lst b)=noRefs b:=by simp [noRef]
@[simp] theorem r_nil:noRefs []=true:=by simp [noRefs]
@[simp] theorem r_cons (d:D) (b:List D):noRefs (d :: b)=(noRef d && noRefs b):=by simp [noRefs]
@[simp] theorem q_bl (own:Bool) (n:Nat) (b:Bool):exitD own n (.bl b) c=.ok (.bl b) (c.take n):=rfl
@[simp] theorem q_non (own:Bool) (n:Nat):exitD own n .non c=.ok .non (c.take n):=rfl
@[simp] theorem q_int (own:Bool) (n:Nat) (b:Int):exitD own n (.int b) c=.ok (.int b) (c.take n):=rfl
@[simp] theorem q_str (own:Bool) (n:Nat) (b:Str):exitD own n (.str b) c=.ok (.str b) (c.take n):=rfl
@[simp] theorem q_tup (own:Bool) (n:Nat) (b:List D):exitD own n (.tup b) c=if noRefs b=true then .ok (.tup b) (c.take n) else .bad:=by
 show (if noRef (.tup b)=true then R.ok (D.tup b) (c.take n) else R.bad)=_
 rw [r_tup]
@[simp] theorem q_lst (own:Bool) (n:Nat) (b:List D):exitD own n (.lst b) c=if noRefs b=true then .ok (.lst b) (c.take n) else .bad:=by
 show (if noRef (.lst b)=true then R.ok (D.lst b) (c.take n) else R.bad)=_
 rw [r_lst]
@[simp] theorem x_rng1:dRng1 l e c=(l e c).bind fun xs c=>match xs with
 | [.int j]=>if -(2 ^ 62)≤j∧j < 2 ^ 62 then .ok ⟨rngD 0 j,fun _=>True⟩ c else .bad
 | _=>.bad:=rfl
@[simp] theorem x_rng2:dRng2 l e c=(l e c).bind fun xs c=>match xs with
 | [.int i,.int j]=>if -(2 ^ 62)≤i∧i < 2 ^ 62∧-(2 ^ 62)≤j∧j < 2 ^ 62 then .ok ⟨rngD i j,fun _=>True⟩ c else .bad
 | _=>.bad:=rfl
@[simp] theorem x_seqS:dSeq a e c=(a e c).bind fun x c=>match x with
 | .lst l=>.ok ⟨l,fun _=>True⟩ c
 | .scr l=>.ok ⟨l.map D.int,fun _=>True⟩ c
 | .ref k=>match c[k]? with
  | some (.lst l)=>.ok ⟨l,fun c=>c[k]? = some (.lst l)⟩ c
  | none=>.bad
 | _=>.bad:=rfl
@[simp] theorem x_seqT:dSeqT a e c=(a e c).bind fun x c=>match x with
 | .tup l=>.ok ⟨l,fun _=>True⟩ c
 | _=>.bad:=rfl
@[simp] theorem x_zip:dZip l e c=(l e c).bind fun xs c=>match xs with
 | [.tup l,.tup m]=>.ok ⟨List.zipWith (fun x y=>.tup [x,y]) l m,fun _=>True⟩ c
 | _=>.bad:=rfl
@[simp] theorem x_callV (i n:Nat) (tbl:List (Str×(List D→List Cell→R D))):dCallV i n tbl l e c=match e[i]? with
 | some (some (.fn x j))=>match tbl[j]? with
  | some (y,m)=>if x=y then (l e c).bind fun xs c=>if xs.length=n then m xs c else .bad else .bad
  | none=>.bad
 | _=>.bad:=rfl
end
section
variable (g:Gd) (s:Ev→List Cell→R Fl) (t:Ev→List Cell→R Bool) (a:Ev→List Cell→R D) (e:Ev) (c:List Cell)
@[simp] theorem for_nil:forD (fun _=>True) g s [] e c=.ok (.nx e) c:=by simp [forD]
@[simp] theorem for_cons (x:D) (xs:List D):forD (fun _=>True) g s (x :: xs) e c=(g x e c).bind fun e c=>(s e c).bind fun f c=>match f with
   | .nx e=>forD (fun _=>True) g s xs e c
   | .ct e=>forD (fun _=>True) g s xs e c
   | .bk e=>.ok (.nx e) c
   | .rt d=>.ok (.rt d) c:=by
 conv=>lhs; unfold forD
 exact if_pos trivial
@[simp] theorem comp_nil (acc:List D):compD (fun _=>True) g t a [] e acc c=.ok acc c:=by simp [compD]
@[simp] theorem comp_cons (x:D) (xs acc:List D):compD (fun _=>True) g t a (x :: xs) e acc c=(g x e c).bind fun e c=>(t e c).bind fun k c=>if k=true then (a e c).bind fun y c=>compD (fun _=>True) g t a xs e (acc ++ [y]) c else compD (fun _=>True) g t a xs e acc c:=by
 conv=>lhs; unfold compD
 exact if_pos trivial
end
@[simp] theorem gz {α:Type} (a:α) (l:List α):(a :: l)[0]? = some a:=rfl
@[simp] theorem gs {α:Type} (a:α) (l:List α) (n:Nat):(a :: l)[n + 1]? = l[n]?:=rfl
@[simp] theorem at0 {α:Type} (a:α) (l:List α):atI (a :: l) 0=some a:=by simp [atI,ixN]
@[simp] theorem at1 {α:Type} (a b:α) (l:List α):atI (a :: b :: l) 1=some b:=by
 unfold atI ixN
 rw [if_pos (by decide),if_pos (by simp; omega)]
 rfl
@[simp] theorem at2 {α:Type} (a b d:α) (l:List α):atI (a :: b :: d :: l) 2=some d:=by
 unfold atI ixN
 rw [if_pos (by decide),if_pos (by simp; omega)]
 rfl
@[simp] theorem at3 {α:Type} (a b d f:α) (l:List α):atI (a :: b :: d :: f :: l) 3=some f:=by
 unfold atI ixN
 rw [if_pos (by decide),if_pos (by simp; omega)]
 rfl
@[simp] theorem at4 {α:Type} (a b d f h:α) (l:List α):atI (a :: b :: d :: f :: h :: l) 4=some h:=by
 unfold atI ixN
 rw [if_pos (by decide),if_pos (by simp; omega)]
 rfl
theorem small_line {n:Nat} (h:n≤1000):n≤sizeLine:=Nat.le_trans h (by decide)
@[simp] theorem sl0:(0:Nat)≤sizeLine:=Nat.zero_le _
@[simp] theorem sl1:(1:Nat)≤sizeLine:=by decide
@[simp] theorem sl2:(2:Nat)≤sizeLine:=by decide
@[simp] theorem sl3:(3:Nat)≤sizeLine:=by decide
@[simp] theorem sl4:(4:Nat)≤sizeLine:=by decide
@[simp] theorem sl5:(5:Nat)≤sizeLine:=by decide
@[simp] theorem sl6:(6:Nat)≤sizeLine:=by decide
@[simp] theorem st0:(0:Nat) < sizeLine:=by decide
@[simp] theorem st1:(1:Nat) < sizeLine:=by decide
@[simp] theorem st2:(2:Nat) < sizeLine:=by decide
@[simp] theorem st3:(3:Nat) < sizeLine:=by decide
@[simp] theorem st4:(4:Nat) < sizeLine:=by decide
@[simp] theorem st5:(5:Nat) < sizeLine:=by decide
@[simp] theorem i_int_int (i:Int) (c:List Cell):isiD [.int i,.ty "int"] c=.ok (.bl true) c:=rfl
@[simp] theorem i_int_bool (i:Int) (c:List Cell):isiD [.int i,.ty "bool"] c=.ok (.bl false) c:=rfl
@[simp] theorem i_int_str (i:Int) (c:List Cell):isiD [.int i,.ty "str"] c=.ok (.bl false) c:=rfl
@[simp] theorem i_int_tuple (i:Int) (c:List Cell):isiD [.int i,.ty "tuple"] c=.ok (.bl false) c:=rfl
@[simp] theorem i_int_list (i:Int) (c:List Cell):isiD [.int i,.ty "list"] c=.ok (.bl false) c:=rfl
@[simp] theorem i_bl_int (i:Bool) (c:List Cell):isiD [.bl i,.ty "int"] c=.ok (.bl true) c:=rfl
@[simp] theorem i_bl_bool (i:Bool) (c:List Cell):isiD [.bl i,.ty "bool"] c=.ok (.bl true) c:=rfl
@[simp] theorem i_bl_str (i:Bool) (c:List Cell):isiD [.bl i,.ty "str"] c=.ok (.bl false) c:=rfl
@[simp] theorem i_bl_tuple (i:Bool) (c:List Cell):isiD [.bl i,.ty "tuple"] c=.ok (.bl false) c:=rfl
@[simp] theorem i_bl_list (i:Bool) (c:List Cell):isiD [.bl i,.ty "list"] c=.ok (.bl false) c:=rfl
@[simp] theorem i_str_int (i:Str) (c:List Cell):isiD [.str i,.ty "int"] c=.ok (.bl false) c:=rfl
@[simp] theorem i_str_bool (i:Str) (c:List Cell):isiD [.str i,.ty "bool"] c=.ok (.bl false) c:=rfl
@[simp] theorem i_str_str (i:Str) (c:List Cell):isiD [.str i,.ty "str"] c=.ok (.bl true) c:=rfl
@[simp] theorem i_str_tuple (i:Str) (c:List Cell):isiD [.str i,.ty "tuple"] c=.ok (.bl false) c:=rfl
@[simp] theorem i_str_list (i:Str) (c:List Cell):isiD [.str i,.ty "list"] c=.ok (.bl false) c:=rfl
@[simp] theorem i_non_int (c:List Cell):isiD [.non,.ty "int"] c=.ok (.bl false) c:=rfl
@[simp] theorem i_non_bool (c:List Cell):isiD [.non,.ty "bool"] c=.ok (.bl false) c:=rfl
@[simp] theorem i_non_str (c:List Cell):isiD [.non,.ty "str"] c=.ok (.bl false) c:=rfl
@[simp] theorem i_non_tuple (c:List Cell):isiD [.non,.ty "tuple"] c=.ok (.bl false) c:=rfl
@[simp] theorem i_non_list (c:List Cell):isiD [.non,.ty "list"] c=.ok (.bl false) c:=rfl
@[simp] theorem i_tup_int (i:List D) (c:List Cell):isiD [.tup i,.ty "int"] c=.ok (.bl false) c:=rfl
@[simp] theorem i_tup_bool (i:List D) (c:List Cell):isiD [.tup i,.ty "bool"] c=.ok (.bl false) c:=rfl
@[simp] theorem i_tup_str (i:List D) (c:List Cell):isiD [.tup i,.ty "str"] c=.ok (.bl false) c:=rfl
@[simp] theorem i_tup_tuple (i:List D) (c:List Cell):isiD [.tup i,.ty "tuple"] c=.ok (.bl true) c:=rfl
@[simp] theorem i_tup_list (i:List D) (c:List Cell):isiD [.tup i,.ty "list"] c=.ok (.bl false) c:=rfl
@[simp] theorem i_lst_int (i:List D) (c:List Cell):isiD [.lst i,.ty "int"] c=.ok (.bl false) c:=rfl
@[simp] theorem i_lst_bool (i:List D) (c:List Cell):isiD [.lst i,.ty "bool"] c=.ok (.bl false) c:=rfl
@[simp] theorem i_lst_str (i:List D) (c:List Cell):isiD [.lst i,.ty "str"] c=.ok (.bl false) c:=rfl
@[simp] theorem i_lst_tuple (i:List D) (c:List Cell):isiD [.lst i,.ty "tuple"] c=.ok (.bl false) c:=rfl
@[simp] theorem i_lst_list (i:List D) (c:List Cell):isiD [.lst i,.ty "list"] c=.ok (.bl true) c:=rfl
section
variable (c:List Cell) {i j:Int}
theorem mul_l (h1:-18446744073709551616 < i) (h2:i < 18446744073709551616):mulD (.int i) (.int j) c=.ok (.int (i * j)) c:=by
 rw [x_mul,if_pos]; exact .inl ⟨by omega,by omega⟩
theorem mul_r (h1:-18446744073709551616 < j) (h2:j < 18446744073709551616):mulD (.int i) (.int j) c=.ok (.int (i * j)) c:=by
 rw [x_mul,if_pos]; exact .inr ⟨by omega,by omega⟩
theorem div_c (h1:0 < j) (h2:j < 1073741824):divD (.int i) (.int j) c=.ok (.int (i / j)) c:=by
 rw [x_div,if_pos ⟨h1,h2⟩]
theorem mod_c (h1:0 < j):modD (.int i) (.int j) c=.ok (.int (i % j)) c:=by
 rw [x_mod,if_pos h1]
theorem pow_c (h1:0≤j) (h2:j≤1000000) (h3:i.natAbs < 18446744073709551616):powD (.int i) (.int j) c=.ok (.int (i ^ j.toNat)) c:=by
 rw [x_pow,if_pos ⟨h1,h2,h3⟩]
end
section
variable {g:Gd} {s:Ev→List Cell→R Fl} {t:Ev→List Cell→R Bool} {a:Ev→List Cell→R D}
theorem comp_pure {c:List Cell} (inv:Ev→Prop) (F:D→Bool) (G:D→D):∀ (items:List D) (e:Ev) (acc:List D),inv e →
  (∀ x∈items,∀ e,inv e→∃ e',g x e c=.ok e' c∧inv e'∧t e' c=.ok (F x) c∧(F x=true→a e' c=.ok (G x) c)) →
  compD (fun _=>True) g t a items e acc c=.ok (acc ++ (items.filter F).map G) c
 | [],e,acc,_,_=>by simp
 | x :: xs,e,acc,hi,h=>by
  obtain ⟨e',h1,h2,h3,h4⟩:=h x List.mem_cons_self e hi
  rw [comp_cons,h1,R.bind_ok,h3,R.bind_ok]
  cases hF:F x with
  | true =>
   rw [if_pos rfl,h4 hF,R.bind_ok,comp_pure inv F G xs e' _ h2 fun y hy=>h y (List.mem_cons_of_mem _ hy)]
   simp [hF]
  | false =>
   rw [if_neg Bool.false_ne_true,comp_pure inv F G xs e' _ h2 fun y hy=>h y (List.mem_cons_of_mem _ hy)]
   simp [hF]
theorem for_find {c:List Cell} (inv:Ev→Prop) (P:D→Option D):∀ (items:List D) (e:Ev),inv e →
  (∀ x∈items,∀ e,inv e→∃ e' e'',g x e c=.ok e' c∧inv e''∧s e' c=match P x with | none=>.ok (.nx e'') c | some v=>.ok (.rt v) c) →
  match items.findSome? P with | none=>∃ e',inv e'∧forD (fun _=>True) g s items e c=.ok (.nx e') c | some v=>forD (fun _=>True) g s items e c=.ok (.rt v) c
 | [],e,hi,_=>⟨e,hi,by simp⟩
 | x :: xs,e,hi,h=>by
  obtain ⟨e',e'',h1,h2,h3⟩:=h x List.mem_cons_self e hi
  have ih:=for_find inv P xs e'' h2 fun y hy=>h y (List.mem_cons_of_mem _ hy)
  rw [List.findSome?_cons,for_cons,h1,R.bind_ok,h3]
  cases hP:P x with
  | some v=>simp
  | none=>simpa using ih
theorem for_any (inv:Ev→Prop):∀ (items:List D) (e:Ev) (c:List Cell),inv e →
  (∀ x∈items,∀ e c,inv e→∃ e' e'' c' c'',g x e c=.ok e' c'∧s e' c'=.ok (.nx e'') c''∧inv e'') →
  ∃ e' c',inv e'∧forD (fun _=>True) g s items e c=.ok (.nx e') c'
 | [],e,c,hi,_=>⟨e,c,hi,by simp⟩
 | x :: xs,e,c,hi,h=>by
  obtain ⟨e',e'',c',c'',h1,h2,h3⟩:=h x List.mem_cons_self e c hi
  obtain ⟨e3,c3,i3,h4⟩:=for_any inv xs e'' c'' h3 fun y hy=>h y (List.mem_cons_of_mem _ hy)
  exact ⟨e3,c3,i3,by rw [for_cons,h1,R.bind_ok,h2]; exact h4⟩
theorem for_inv (inv:Ev→List Cell→Prop):∀ (items:List D) (e:Ev) (c:List Cell),inv e c →
  (∀ x∈items,∀ e c,inv e c→∃ e' e'' c' c'',g x e c=.ok e' c'∧s e' c'=.ok (.nx e'') c''∧inv e'' c'') →
  ∃ e' c',inv e' c'∧forD (fun _=>True) g s items e c=.ok (.nx e') c'
 | [],e,c,hi,_=>⟨e,c,hi,by simp⟩
 | x :: xs,e,c,hi,h=>by
  obtain ⟨e',e'',c',c'',h1,h2,h3⟩:=h x List.mem_cons_self e c hi
  obtain ⟨e3,c3,i3,h4⟩:=for_inv inv xs e'' c'' h3 fun y hy=>h y (List.mem_cons_of_mem _ hy)
  exact ⟨e3,c3,i3,by rw [for_cons,h1,R.bind_ok,h2]; exact h4⟩
end
theorem mem_rng {lo hi:Int} {d:D} (h:d∈rngD lo hi):∃ i:Int,d=.int i∧lo≤i∧i < hi:=by
 unfold rngD at h
 obtain ⟨k,hk,rfl⟩:=List.mem_map.mp h
 have:=List.mem_range.mp hk
 exact ⟨lo + k,rfl,by omega,by omega⟩
theorem rng_mem {lo hi i:Int} (h1:lo≤i) (h2:i < hi):D.int i∈rngD lo hi:=by
 unfold rngD
 refine List.mem_map.mpr ⟨(i - lo).toNat,List.mem_range.mpr (by omega),?_⟩
 congr 1
 omega
theorem rng_len {lo hi:Int}:(rngD lo hi).length=(hi - lo).toNat:=by simp [rngD]
end L2
namespace L2
open PySem PySem.Spec PyProof.Rows
noncomputable def lstD (c:List Cell):D→Option (List D)
 | .lst l=>some l
 | .ref k=>match c[k]? with
  | some (.lst l)=>some l
  | none=>none
 | _=>none
noncomputable def stayD (c:List Cell):D→List Cell→Prop
 | .ref k=>fun c'=>c'[k]? = c[k]?
 | _=>fun _=>True
noncomputable def catD:D→D→List Cell→R D:=fun x y c=>match lstD c x,lstD c y with
 | some l,some m=>if l.length + m.length≤sizeLine then .ok (.lst (l ++ m)) c else .bad
 | _,_=>.bad
noncomputable def cutD (xs:List D) (lo hi:Option Int):List D:=(xs.drop (HT.sIx xs.length 0 lo)).take (HT.sIx xs.length xs.length hi - HT.sIx xs.length 0 lo)
noncomputable def dSl (a:Ev→List Cell→R D) (lo hi:Ev→List Cell→R (Option Int)):Ev→List Cell→R D:=fun e c=>(a e c).bind fun x c=>(lo e c).bind fun l c=>(hi e c).bind fun u c=>match lstD c x with
 | some xs=>.ok (.lst (cutD xs l u)) c
 | none=>.bad
noncomputable def dNoP:Ev→List Cell→R (Option Int):=fun _ c=>.ok none c
noncomputable def dPart (a:Ev→List Cell→R D):Ev→List Cell→R (Option Int):=fun e c=>(a e c).bind fun x c=>match x with
 | .int i=>.ok (some i) c
 | _=>.bad
noncomputable def dZip2 (a:Ev→List Cell→R (List D)):Ev→List Cell→R Src:=fun e c=>(a e c).bind fun xs c=>match xs with
 | [.tup l,.tup m]=>.ok ⟨List.zipWith (fun x y=>.tup [x,y]) l m,fun _=>True⟩ c
 | [x,y]=>match lstD c x,lstD c y with
  | some l,some m=>.ok ⟨List.zipWith (fun x y=>.tup [x,y]) l m,fun c'=>stayD c x c'∧stayD c y c'⟩ c
  | _,_=>.bad
 | _=>.bad
section
variable {X:Cx} {K:PySem.W.Frag} {ρ ρ':List Addr} {H H':Hp} {c c':List Cell}
theorem lstD_ok {x:D} {v:V} {l:List D} (W:Wd K ρ H c) (rx:Rel K ρ H x v) (h:lstD c x=some l):∃ a xs,v=.ref a∧H a=some (.lst xs)∧Rels K ρ H l xs:=by
 cases x with
 | lst m =>
  cases h
  obtain ⟨a,xs,e,s,r⟩:=rx
  exact ⟨a,xs,e,s.1,r⟩
 | ref k =>
  obtain ⟨a,e,s⟩:=rx
  unfold lstD at h
  dsimp only at h
  cases hc:c[k]? with
  | none=>rw [hc] at h; cases h
  | some cl =>
   cases cl with
   | lst m =>
    rw [hc] at h; cases h
    obtain ⟨_,xs,hx,r⟩:=W.cel k a _ s hc
    exact ⟨a,xs,e,hx,r⟩
 | _=>cases h
theorem lstD_later {x:D} {v:V} {l:List D} (W:Wd K ρ H c) (W':Wd K ρ' H' c') (E:Ext ρ H ρ' H') (rx:Rel K ρ H x v) (h:lstD c x=some l) (st:stayD c x c') {a:Addr} (e:v=.ref a):∃ xs,SqL K H' a xs∧Rels K ρ' H' l xs:=by
 have rx':=Rel.mono W E x v rx
 have h':lstD c' x=some l:=by
  cases x with
  | lst m=>exact h
  | ref k =>
   have st:c'[k]? = c[k]?:=st
   unfold lstD at h ⊢
   dsimp only at h ⊢
   rw [st]; exact h
  | _=>cases h
 obtain ⟨b,xs,e2,hx,r⟩:=lstD_ok W' rx' h'
 rw [e] at e2; cases e2
 exact ⟨xs,SqL.of hx,r⟩
noncomputable abbrev POd (X:Cx) (e:Option Expr) (d:Ev→List Cell→R (Option Int)):Prop:=PO X e (tD X.K (fun _ _ a b=>a=b) d)
theorem PI.or {tg iter:Expr} {t t':TI} (h:PI X tg iter t) (h':PI X tg iter t'):PI X tg iter (fun σ H R=>t σ H R∨t' σ H R):=fun pins s σ H R I q=>q.elim (h pins s σ H R I) (h' pins s σ H R I)
theorem js_zipL {l m:List D} {a b:Addr} {st:List Cell→Prop} (h:∀ ρ' H' c',Wd K ρ' H' c'→Ext ρ H ρ' H'→st c'→∃ xs ys,SqL K H' a xs∧SqL K H' b ys∧Rels K ρ' H' l xs∧Rels K ρ' H' m ys):JS K ρ H ⟨List.zipWith (fun x y=>.tup [x,y]) l m,st⟩ (Itz (SqL K) a b):=by
 intro ρ' H' c' W E s i
 obtain ⟨xs,ys,q1,q2,r1,r2⟩:=h ρ' H' c' W E s
 refine ⟨fun d hd=>?_,fun e=>⟨xs,ys,q1,q2,?_⟩⟩
 ·have hd:(List.zipWith (fun x y=>D.tup [x,y]) l m)[i]? = some d:=hd
  rw [List.getElem?_zipWith] at hd
  cases e1:l[i]? with
  | none=>rw [e1] at hd; cases hd
  | some x =>
   cases e2:m[i]? with
   | none=>rw [e1,e2] at hd; cases hd
   | some y =>
    rw [e1,e2] at hd
    cases hd
    obtain ⟨v,hv,rv⟩:=r1.get e1
    obtain ⟨u,hu,ru⟩:=r2.get e2
    refine ⟨⟨xs,ys,v,u,q1,q2,hv,hu⟩,fun z H2 hz=>?_⟩
    obtain ⟨t,v',u',rfl,ht,rfl,hz⟩:=hz
    obtain ⟨z1,z2⟩:=hz xs ys q1 q2
    rw [hv] at z1; rw [hu] at z2
    cases z1; cases z2
    exact ⟨W.fresh ht,Ext.fresh W ht,t,[v,u],rfl,upd_same,v,[u],rfl,Rel.mono W (Ext.fresh W ht) _ _ rv,u,[],rfl,Rel.mono W (Ext.fresh W ht) _ _ ru,rfl⟩
 ·have e:i=(List.zipWith (fun x y=>D.tup [x,y]) l m).length:=e
  rw [List.length_zipWith] at e
  rw [r1.length,r2.length]
  omega
theorem id_zip2 {es:List Expr} {k:Nat} {pt:Pos} {a b:Expr} {da:Ev→List Cell→R (List D)} {p pos:Pos} (ha:PAd X [a,b] da) (hm:X.mg "zip"=none) (hg:Gl X "zip":=by rfl) (hs:starEach [a,b] X.env=[(false,eval a X.env),(false,eval b X.env)]:=by exact star2 rfl rfl) (hs2:starEach [b] X.env=[(false,eval b X.env)]:=by exact star1 rfl) :
  PId X (.Tuple es k pt) (.Call (.Name "zip" p) [a,b] [] pos) (dZip2 da):=((pi_zipT hg hm ha hs hs2).or (pi_zipL hg hm ha hs hs2)).imp fun σ H Q h=>by
 obtain ⟨ρ,e,c,W,Vv,p⟩:=h
 cases hd:da e c with
 | bad=>unfold dZip2 at p; rw [hd] at p; exact p.elim
 | ok xs c1 =>
  have p0:=p
  unfold dZip2 at p0
  rw [hd,R.bind_ok] at p0
  split at p0
  ·left
   refine ⟨ρ,e,c,W,Vv,?_⟩
   rw [hd]
   intro ρ1 H1 vs W1 X1 r1
   obtain ⟨y,ys,rfl,ry,z,zs,rfl,rz,rs⟩:=r1
   cases rs
   obtain ⟨a1,xs,rfl,s1,t1⟩:=ry
   obtain ⟨a2,ys,rfl,s2,t2⟩:=rz
   exact ⟨a1,a2,rfl,⟨xs,ys,SqT.of s1,SqT.of s2⟩,post.here (post.ext p0 X1) W1 (js_zip fun ρ' H' c' W' E _=>⟨xs,ys,SqT.of (tup_mono W1 E s1),SqT.of (tup_mono W1 E s2),Rels.mono W1 E _ _ t1,Rels.mono W1 E _ _ t2⟩)⟩
  ·rename_i x y _
   split at p0
   ·rename_i l m hl hm'
    right
    refine ⟨ρ,e,c,W,Vv,?_⟩
    rw [hd]
    intro ρ1 H1 vs W1 X1 r1
    obtain ⟨v,ys,rfl,ry,u,zs,rfl,rz,rs⟩:=r1
    cases rs
    obtain ⟨a1,xs,rfl,s1,t1⟩:=lstD_ok W1 ry hl
    obtain ⟨a2,ys,rfl,s2,t2⟩:=lstD_ok W1 rz hm'
    refine ⟨a1,a2,rfl,⟨xs,ys,SqL.of s1,SqL.of s2⟩,post.here (post.ext p0 X1) W1 (js_zipL fun ρ' H' c' W' E st=>?_)⟩
    obtain ⟨xs',q1,q2⟩:=lstD_later W1 W' E ry hl st.1 rfl
    obtain ⟨ys',q3,q4⟩:=lstD_later W1 W' E rz hm' st.2 rfl
    exact ⟨xs',ys',q1,q3,q2,q4⟩
   ·exact p0.elim
  ·exact p0.elim
end
section
variable (e:Ev) (c:List Cell) (a:Ev→List Cell→R D) (lo hi:Ev→List Cell→R (Option Int)) (l:Ev→List Cell→R (List D))
@[simp] theorem x_sl:dSl a lo hi e c=(a e c).bind fun x c=>(lo e c).bind fun l c=>(hi e c).bind fun u c=>match lstD c x with
 | some xs=>.ok (.lst (cutD xs l u)) c
 | none=>.bad:=rfl
@[simp] theorem x_nop:dNoP e c=.ok none c:=rfl
@[simp] theorem x_part:dPart a e c=(a e c).bind fun x c=>match x with
 | .int i=>.ok (some i) c
 | _=>.bad:=rfl
@[simp] theorem x_zip2:dZip2 l e c=(l e c).bind fun xs c=>match xs with
 | [.tup l,.tup m]=>.ok ⟨List.zipWith (fun x y=>.tup [x,y]) l m,fun _=>True⟩ c
 | [x,y]=>match lstD c x,lstD c y with
  | some l,some m=>.ok ⟨List.zipWith (fun x y=>.tup [x,y]) l m,fun c'=>stayD c x c'∧stayD c y c'⟩ c
  | _,_=>.bad
 | _=>.bad:=rfl
@[simp] theorem l_lst (x:List D):lstD c (.lst x)=some x:=rfl
end
section
variable {g:Gd} {s:Ev→List Cell→R Fl} {t:Ev→List Cell→R Bool} {a:Ev→List Cell→R D}
end
end L2
namespace L2
open PySem PySem.Spec PyProof.Rows
mutual
noncomputable def datD:D→Option PyData
 | .non=>some .none
 | .bl b=>some (.bool b)
 | .int i=>some (.int i)
 | .str x=>if PyData.strOk x=true then some (.str x) else none
 | .tup l=>match datDs l with
  | some r=>some (.tuple r)
  | none=>none
 | .lst l=>match datDs l with
  | some r=>some (.list r)
  | none=>none
 | .ty _=>none
 | .ref _=>none
 | .scr _=>none
 | .fn _ _=>none
 | .exc _=>none
 | .dic=>none
 | .lam _ _ _ _=>none
noncomputable def datDs:List D→Option (List PyData)
 | []=>some []
 | d :: l=>match datD d,datDs l with
  | some a,some r=>some (a :: r)
  | _,_=>none
end
noncomputable def datC (c:List Cell):D→Option PyData
 | .ref k=>match c[k]? with
  | some (.lst l)=>match datDs l with
   | some r=>some (.list r)
   | none=>none
  | none=>none
 | d=>datD d
noncomputable def eqvD:D→D→List Cell→R D:=fun x y c=>match datC c x,datC c y with
 | some p,some q=>if p.depth≤64∧q.depth≤64 then .ok (.bl (p.eqv q)) c else .bad
 | _,_=>.bad
noncomputable def nevD:D→D→List Cell→R D:=fun x y c=>match datC c x,datC c y with
 | some p,some q=>if p.depth≤64∧q.depth≤64 then .ok (.bl (!p.eqv q)) c else .bad
 | _,_=>.bad
noncomputable def inD:D→D→List Cell→R D:=fun x y c=>match datC c x,datC c y with
 | some p,some (.list ys)=>if p.depth≤62 then .ok (.bl (ys.any fun z=>z.eqv p)) c else .bad
 | some p,some (.tuple ys)=>if p.depth≤62 then .ok (.bl (ys.any fun z=>z.eqv p)) c else .bad
 | _,_=>.bad
noncomputable def notInD:D→D→List Cell→R D:=fun x y c=>match datC c x,datC c y with
 | some p,some (.list ys)=>if p.depth≤62 then .ok (.bl (!ys.any fun z=>z.eqv p)) c else .bad
 | some p,some (.tuple ys)=>if p.depth≤62 then .ok (.bl (!ys.any fun z=>z.eqv p)) c else .bad
 | _,_=>.bad
section
variable {X:Cx} {pins:List (Addr×Obj)} {σ:St} {ρ:List Addr} {H:Hp} {s:Shared} {c:List Cell}
mutual
theorem rel_reads (I:Inv X pins σ H s):∀ (d:D) (v:V) (u:Value) (p:PyData),Rel X.K ρ H d v→RelV v u→datD d=some p→(∃ as,Reads s.heap u p as)∧p.canLay0=true
 | .non,v,u,p,r,ru,e=>by
  cases r; cases ru; cases e
  exact ⟨⟨_,.none⟩,by simp [PyData.canLay0]⟩
 | .bl b,v,u,p,r,ru,e=>by
  cases r; cases ru; cases e
  exact ⟨⟨_,.bool b⟩,by simp [PyData.canLay0]⟩
 | .int i,v,u,p,r,ru,e=>by
  cases r; obtain ⟨t,rfl⟩:=ru; cases e
  exact ⟨⟨_,.int i t⟩,by simp [PyData.canLay0]⟩
 | .str x,v,u,p,r,ru,e=>by
  cases r; obtain ⟨t,rfl⟩:=ru
  unfold datD at e
  split at e
  ·rename_i hx
   cases e
   exact ⟨⟨_,.str x t⟩,by simpa [PyData.canLay0] using hx⟩
  ·cases e
 | .tup l,v,u,p,r,ru,e=>by
  obtain ⟨a,xs,rfl,ha,rs⟩:=r
  cases ru
  unfold datD at e
  split at e
  ·rename_i q hq
   cases e
   obtain ⟨its,vs,⟨o,h1,h2,n,h3⟩,_⟩:=I.tuple (SqT.of ha)
   obtain ⟨⟨as,ra⟩,hc⟩:=rels_reads I l xs its q rs vs hq
   exact ⟨⟨_,.tuple h1 h2 h3 (by simpa using ra)⟩,by simpa [PyData.canLay0] using hc⟩
  ·cases e
 | .lst l,v,u,p,r,ru,e=>by
  obtain ⟨a,xs,rfl,ha,rs⟩:=r
  cases ru
  unfold datD at e
  split at e
  ·rename_i q hq
   cases e
   obtain ⟨its,vs,pl,_⟩:=I.list (SqL.of ha.1)
   obtain ⟨o,h1,h2,n,h3⟩:=pl.isList
   obtain ⟨⟨as,ra⟩,hc⟩:=rels_reads I l xs its q rs vs hq
   exact ⟨⟨_,.list h1 h2 h3 (by simpa using ra)⟩,by simpa [PyData.canLay0] using hc⟩
  ·cases e
 | .ty _,v,u,p,r,ru,e=>by simp [datD] at e
 | .ref _,v,u,p,r,ru,e=>by simp [datD] at e
 | .scr _,v,u,p,r,ru,e=>by simp [datD] at e
 | .fn _ _,v,u,p,r,ru,e=>by simp [datD] at e
 | .exc _,v,u,p,r,ru,e=>by simp [datD] at e
 | .dic,v,u,p,r,ru,e=>by simp [datD] at e
 | .lam _ _ _ _,v,u,p,r,ru,e=>by simp [datD] at e
theorem rels_reads (I:Inv X pins σ H s):∀ (l:List D) (vs:List V) (us:List Value) (ps:List PyData),Rels X.K ρ H l vs→Vals vs us→datDs l=some ps→(∃ as,ReadsAll s.heap us ps as)∧PyData.canLayAll0 ps=true
 | [],vs,us,ps,r,ru,e=>by
  cases r; cases ru; cases e
  exact ⟨⟨_,.nil⟩,by simp [PyData.canLayAll0]⟩
 | d :: l,vs,us,ps,r,ru,e=>by
  obtain ⟨x,xs,rfl,r1,r2⟩:=r
  cases ru with
  | cons q1 q2 =>
   unfold datDs at e
   split at e
   ·rename_i a r e1 e2
    cases e
    obtain ⟨⟨as,ra⟩,ca⟩:=rel_reads I d x _ a r1 q1 e1
    obtain ⟨⟨bs,rb⟩,cb⟩:=rels_reads I l xs _ r r2 q2 e2
    exact ⟨⟨_,.cons ra rb⟩,by simp [PyData.canLayAll0,ca,cb]⟩
   ·cases e
end
theorem relC_reads (I:Inv X pins σ H s) (W:Wd X.K ρ H c) {d:D} {v:V} {u:Value} {p:PyData} (r:Rel X.K ρ H d v) (ru:RelV v u) (e:datC c d=some p):(∃ as,Reads s.heap u p as)∧p.canLay0=true:=by
 cases d with
 | ref k =>
  unfold datC at e
  dsimp only at e
  cases hc:c[k]? with
  | none=>rw [hc] at e; cases e
  | some cl =>
   cases cl with
   | lst l =>
    rw [hc] at e
    dsimp only at e
    split at e
    ·rename_i q hq
     cases e
     obtain ⟨a,rfl,s1⟩:=r
     cases ru
     obtain ⟨_,xs,hx,rs⟩:=W.cel k a _ s1 hc
     obtain ⟨its,vs,pl,_⟩:=I.list (SqL.of hx)
     obtain ⟨o,h1,h2,n,h3⟩:=pl.isList
     obtain ⟨⟨as,ra⟩,hc⟩:=rels_reads I l xs its q rs vs hq
     exact ⟨⟨_,.list h1 h2 h3 (by simpa using ra)⟩,by simpa [PyData.canLay0] using hc⟩
    ·cases e
 | non=>exact rel_reads I _ v u p r ru e
 | bl b=>exact rel_reads I _ v u p r ru e
 | int b=>exact rel_reads I _ v u p r ru e
 | str b=>exact rel_reads I _ v u p r ru e
 | tup b=>exact rel_reads I _ v u p r ru e
 | lst b=>exact rel_reads I _ v u p r ru e
 | ty b=>exact rel_reads I _ v u p r ru e
 | scr b=>exact rel_reads I _ v u p r ru e
 | fn b n=>exact rel_reads I _ v u p r ru e
 | exc b=>exact rel_reads I _ v u p r ru e
 | dic=>exact rel_reads I _ v u p r ru e
 | lam k y ns l=>exact rel_reads I _ v u p r ru e
theorem in_room {A:Around} {p:PyData} {ys:List PyData} (hu:A.units + 64 < cLine) (hd:p.depth≤62):A.units + 1 + min (PyData.depthAll ys) p.depth < cLine:=by
 have:=Nat.min_le_right (PyData.depthAll ys) p.depth
 omega
theorem od_in (hu:X.A.units + 64 < cLine):OpR X (compareOp .In) (r2 X.K inD):=by
 intro pins s σ H v u vv uu Q I rv ru h
 obtain ⟨ρ,x,y,c,W,rx,ry,p⟩:=h
 unfold inD at p
 split at p
 ·rename_i a ys ha hb
  split at p
  ·rename_i hd
   obtain ⟨⟨as,ra⟩,ca⟩:=relC_reads I W rx rv ha
   obtain ⟨⟨bs,rb⟩,cb⟩:=relC_reads I W ry ru hb
   exact PySem.SeqAt.in_list_reads rb ra (by simpa [PyData.canLay0] using cb) ca (in_room hu hd) ⟨.bl _,H,I,rfl,p.here W rfl⟩
  ·exact p.elim
 ·rename_i a ys ha hb
  split at p
  ·rename_i hd
   obtain ⟨⟨as,ra⟩,ca⟩:=relC_reads I W rx rv ha
   obtain ⟨⟨bs,rb⟩,cb⟩:=relC_reads I W ry ru hb
   exact PySem.SeqAt.in_tuple_reads rb ra (by simpa [PyData.canLay0] using cb) ca (in_room hu hd) ⟨.bl _,H,I,rfl,p.here W rfl⟩
  ·exact p.elim
 ·exact p.elim
end
theorem hu64 {A:Around} {k:Nat} (hr:Room k A):A.units + 64 < cLine:=by have:=hr.un; omega
section
variable (c:List Cell)
@[simp] theorem dat_non:datD .non=some .none:=by simp only [datD]
@[simp] theorem dat_bl (b:Bool):datD (.bl b)=some (.bool b):=by simp only [datD]
@[simp] theorem dat_int (i:Int):datD (.int i)=some (.int i):=by simp only [datD]
@[simp] theorem dats_nil:datDs []=some []:=by simp only [datDs]
end
end L2
namespace L2
open PySem PySem.Spec PyProof.Rows
section
variable {X:Cx}
theorem preSum_ints:∀ (is:List Int),preSum (fun i=>is.getD i 0) is.length=is.sum
 | is=>by
  have key:∀ j,j≤is.length→preSum (fun i=>is.getD i 0) j=(is.take j).sum:=by
   intro j
   induction j with
   | zero=>intro _; simp [preSum]
   | succ j ih =>
    intro hj
    rw [preSum,ih (by omega),List.take_add_one]
    have:is[j]? = some (is.getD j 0):=by
     rw [List.getD_eq_getElem?_getD,List.getElem?_eq_getElem (by omega)]; rfl
    rw [this]
    simp
  rw [key is.length (Nat.le_refl _),List.take_length]
theorem vals_int {is:List Int} {its:List Value} (h:Vals (is.map V.int) its) (i:Nat) (v:Value) (hv:its.toArray[i]? = some v):∃ t,v=.int (is.getD i 0) t:=by
 have hl:=h.length
 rw [List.length_map] at hl
 have hi:i < is.length:=by
  have:=(Array.getElem?_eq_some_iff.mp hv).1
  simp at this
  omega
 obtain ⟨u,e,r⟩:=h.get (i:=i) (x:=V.int is[i]) (by simp [List.getElem?_map,hi])
 rw [List.getElem?_toArray] at hv
 rw [hv] at e
 cases e
 obtain ⟨t,rfl⟩:=r
 exact ⟨t,by rw [List.getD_eq_getElem?_getD,List.getElem?_eq_getElem hi]; rfl⟩
theorem call_sumL (hc:X.calm=true):CallR X (.builtin "sum") (fun xs H Q=>∃ (p:Addr) (is:List Int),xs=[.ref p]∧SqL X.K H p (is.map V.int)∧Q (.int is.sum) H):=by
 intro pins s σ H xs us Q I r h
 obtain ⟨p,is,rfl,hp,q⟩:=h
 obtain ⟨u,rfl,ru⟩:=vals1 r
 cases ru
 obtain ⟨its,rv,pl,hz⟩:=I.list hp
 have hL:=pl.isList
 have hpn:p≠s.heap.objs.size:=by obtain ⟨o,e,_⟩:=hL; exact Nat.ne_of_lt (Heap.lt_size e)
 have hl:=rv.length
 rw [List.length_map] at hl
 refine call_sum_walkAnyS (wpAny_pyIter_list hL ⟨s.heap.objs.size,_,_,_,its.toArray.size,_,_,fun i=>is.getD i 0,rfl,(Walks.list (A:=X.A.in1) (I.ok.hd hc) s.heap.objs.size p hpn its.toArray).toS,⟨⟨_,Heap.get?_push_size _ rfl,rfl,rfl⟩,hL.push _⟩,fun b hb=>?_,fun i v hv=>vals_int rv i v hv,fun s' t' hm=>?_⟩)
 ·obtain ⟨o,e,_⟩:=hL
  rcases List.mem_cons.mp hb with rfl | hb
  ·exact Heap.lt_size (Heap.get?_push_size _ rfl)
  ·obtain rfl:=List.mem_singleton.mp hb
   exact Heap.lt_size (Heap.get?_push_of_some _ e)
 ·obtain ⟨h',g',d',tk',os'⟩:=s'
  have e1:g'=s.gens:=hm.gens
  have e2:d'=s.drawn:=hm.drawn
  have e3:os'=s.os:=hm.os
  subst e1 e2 e3
  have I1:Inv X pins σ H { s with heap:=h',toks:=tk' }:=after_walk I fun b o hb e=>hm.heap b o hb e
  refine ⟨.int is.sum,H,I1,?_,q⟩
  refine ⟨t',?_⟩
  rw [List.size_toArray,← hl,preSum_ints]
end
noncomputable def sumD:List D→List Cell→R D:=fun xs c=>match xs with
 | [.lst l]=>match intsD l with
  | some is=>.ok (.int is.sum) c
  | none=>.bad
 | _=>.bad
theorem cd_sum {X:Cx} (hc:X.calm=true:=by rfl):CallR X (.builtin "sum") (rN X.K sumD):=by
 intro pins s σ H vs us Q I rv h
 obtain ⟨ρ,xs,c,W,rx,p⟩:=h
 unfold sumD at p
 split at p
 ·split at p
  ·rename_i is hb
   obtain ⟨v,r,rfl,⟨a,ys,rfl,s1,r1⟩,hr⟩:=rx
   cases hr
   rw [intsD_eq hb] at r1
   cases r1.ints_inv
   exact call_sumL hc pins s σ H _ us Q I rv ⟨a,is,rfl,SqL.of s1.1,p.here W rfl⟩
  ·exact p.elim
 ·exact p.elim
noncomputable def zip3D:List D→List Cell→R D:=fun xs c=>match xs with
 | [.tup [x0,x1,x2],.tup [y0,y1,y2],.tup [z0,z1,z2]]=>.ok (.lst [.tup [x0,y0,z0],.tup [x1,y1,z1],.tup [x2,y2,z2]]) c
 | _=>.bad
noncomputable def mulB:D→D→List Cell→R D:=fun x y c=>match x,y with
 | .int i,.int j=>if ((-(2 ^ 64) < i∧i < 2 ^ 64)∨(-(2 ^ 64) < j∧j < 2 ^ 64))∨(i.natAbs < 2 ^ 2000∧j.natAbs < 2 ^ 2000) then .ok (.int (i * j)) c else .bad
 | _,_=>.bad
noncomputable def divB:D→D→List Cell→R D:=fun x y c=>match x,y with
 | .int i,.int j=>if 0 < j∧j < 2 ^ 100 then .ok (.int (i / j)) c else .bad
 | _,_=>.bad
noncomputable def shrD:D→D→List Cell→R D:=fun x y c=>match x,y with
 | .int i,.int j=>if 0≤j then .ok (.int (i / 2 ^ j.toNat)) c else .bad
 | _,_=>.bad
noncomputable def andD:D→D→List Cell→R D:=fun x y c=>match x,y with
 | .int i,.int j=>.ok (.int (Builtin.bitAnd i j)) c
 | _,_=>.bad
section
variable {X:Cx}
end
section
variable (c:List Cell)
@[simp] theorem sum_ints (l:List Int):sumD [.lst (l.map D.int)] c=.ok (.int l.sum) c:=by
 unfold sumD
 simp [intsD_map]
@[simp] theorem zip3_ok (x0 x1 x2 y0 y1 y2 z0 z1 z2:D):zip3D [.tup [x0,x1,x2],.tup [y0,y1,y2],.tup [z0,z1,z2]] c=.ok (.lst [.tup [x0,y0,z0],.tup [x1,y1,z1],.tup [x2,y2,z2]]) c:=rfl
end
end L2
namespace L2
open PySem PySem.Spec PyProof.Rows
noncomputable def repM:D→D→List Cell→R D:=fun x y c=>match x,y with
 | .lst l,.int k=>if -(2 ^ 63)≤k∧k < 2 ^ 63∧l.length * k.toNat≤sizeLine∧noRefs l=true then .ok (.ref c.length) (c ++ [.lst (List.replicate k.toNat l).flatten]) else .bad
 | _,_=>.bad
noncomputable def dExtend (o a:Ev→List Cell→R D):Ev→List Cell→R D:=fun e c=>(o e c).bind fun x c=>match x with
 | .ref k=>(a e c).bind fun y c=>match y with
  | .lst m=>match c[k]? with
   | some (.lst l)=>if l.length + m.length≤sizeLine∧noRefs m=true then .ok .non (c.set k (.lst (l ++ m))) else .bad
   | none=>.bad
  | _=>.bad
 | _=>.bad
theorem pd_extend {X:Cx} {o e:Expr} {dO da:Ev→List Cell→R D} {apos cpos:Pos} (ho:PEd X o dO) (ha:PEd X e da)
  (hbase:attributeBase o "extend" X.env (eval o X.env)=eval o X.env:=by rfl)
  (hfew:((backTo cpos (starEach [e] X.env)).all (fun x=>!x.1) && (backToKw cpos (keywordEach [] X.env)).all (fun x=>x.1.isSome)
   && decide ([e].length + ([]:List Keyword).length + (if ([]:List Keyword).isEmpty then 0 else 1) < 30))=true:=by exact starFew rfl)
  (hline:(apos.endLine == cpos.line)=true:=by rfl) (hs:starEach [e] X.env=(false,eval e X.env) :: starEach [] X.env:=by exact starE rfl) (hplain:(backTo cpos (starEach [] X.env)).any (·.1)=false:=by exact starAny rfl) :
  PEd X (.Call (.Attribute o "extend" apos) [e] [] cpos) (dExtend dO da) :=
 (pe_bm PySem.F.plainAttrs_list PySem.F.slot_list_extend PySem.F.type_list_extend mt_extend ho (pa_cons ha pa_nil hs) hbase hfew hline hs hplain).imp fun σ H Q h=>by
  obtain ⟨ρ,e,c,W,V,p⟩:=h
  refine ⟨ρ,e,c,W,V,post.bind p fun x c1 ρ1 H1 v _ W1 X1 r1 p1=>?_⟩
  cases x with
  | ref k =>
   obtain ⟨a,rfl,ha⟩:=r1
   obtain ⟨xs,hx⟩:=W1.at' (List.mem_of_getElem? ha)
   refine ⟨.inl ⟨rfl,xs,SqL.of hx⟩,ρ1,e,c1,W1,V.mono W X1,post.bind p1 fun y c2 ρ2 H2 u _ W2 X2 r2 p2=>?_⟩
   cases y with
   | lst m =>
    obtain ⟨b,zs,rfl,sb,rb⟩:=r2
    dsimp only at p2
    split at p2
    ·rename_i l hl
     split at p2
     ·rename_i hh
      obtain ⟨nr,ys,hy,rl⟩:=W2.cel k a _ (X2.pre k a ha) hl
      refine ⟨a,b,ys,zs,rfl,rfl,hy,sb.1,by rw [rl.length,rb.length]; exact hh.1,?_⟩
      refine p2 ρ2 _ .non (W2.write (X2.pre k a ha) (by rw [noRefs_append,nr,hh.2]; rfl) (rl.append rb)) (Ext.write (X2.pre k a ha)) rfl
     ·exact p2.elim
    ·exact p2.elim
   | _=>exact p2.elim
  | _=>exact p1.elim
section
variable (e:Ev) (c:List Cell) (o a:Ev→List Cell→R D)
@[simp] theorem x_repM (m:List D) (k:Int):repM (.lst m) (.int k) c=if -(2 ^ 63)≤k∧k < 2 ^ 63∧m.length * k.toNat≤sizeLine∧noRefs m=true then .ok (.ref c.length) (c ++ [.lst (List.replicate k.toNat m).flatten]) else .bad:=rfl
end
theorem for_idx {α:Type} {st:List Cell→Prop} {g:Gd} {s:Ev→List Cell→R Fl} (C:Nat→List Cell) (E:Nat→α→Ev):∀ (items:List D) (k:Nat) (v:α),(∀ i,i≤items.length→st (C (k + i))) →
  (∀ i x,items[i]? = some x→∀ v,∃ e',g x (E (k + i) v) (C (k + i))=.ok e' (C (k + i))∧∃ v',s e' (C (k + i))=.ok (.nx (E (k + i + 1) v')) (C (k + i + 1))) →
  ∃ v',forD st g s items (E k v) (C k)=.ok (.nx (E (k + items.length) v')) (C (k + items.length))
 | [],k,v,hst,_=>⟨v,by
   have:=hst 0 (Nat.le_refl _)
   rw [Nat.add_zero] at this
   unfold forD
   rw [if_pos this]; rfl⟩
 | x :: xs,k,v,hst,h=>by
  obtain ⟨e',h1,v',h2⟩:=h 0 x rfl v
  obtain ⟨v2,h3⟩:=for_idx C E xs (k + 1) v' (fun i hi=>by
   have:=hst (i + 1) (by simp only [List.length_cons]; omega)
   rwa [show k + (i + 1)=k + 1 + i by omega] at this) (fun i y hy v=>by
   have:=h (i + 1) y (by simpa using hy) v
   rwa [show k + (i + 1)=k + 1 + i by omega] at this)
  refine ⟨v2,?_⟩
  unfold forD
  rw [if_pos (by have:=hst 0 (Nat.zero_le _); exact this)]
  rw [Nat.add_zero] at h1 h2
  rw [h1,R.bind_ok,h2]
  simp only [R.bind_ok]
  rw [h3,List.length_cons,show k + (xs.length + 1)=k + 1 + xs.length by omega]
noncomputable def allInts:List Expr→Option (List Int)
 | []=>some []
 | e :: r=>match e with
  | .Constant (.int i) _ _=>(allInts r).map (i :: ·)
  | _=>none
noncomputable def dInts (l:List Int):Ev→List Cell→R (List D):=fun _ c=>.ok (l.map D.int) c
@[simp] theorem x_ints (l:List Int) (e:Ev) (c:List Cell):dInts l e c=.ok (l.map D.int) c:=rfl
end L2
namespace L2
open PySem PySem.Spec PyProof.Rows
noncomputable def int1D:List D→List Cell→R D:=fun xs c=>match xs with
 | [.int i]=>.ok (.int i) c
 | [.bl k]=>.ok (.int (if k then 1 else 0)) c
 | _=>.bad
theorem cd_int1 {X:Cx}:CallR X (.type "int") (rN X.K int1D):=by
 intro pins s σ H vs us Q I rv h
 obtain ⟨ρ,xs,c,W,rx,p⟩:=h
 unfold int1D at p
 split at p
 ·obtain ⟨v,r,rfl,hx,hr⟩:=rx
  cases hr; cases hx
  exact call_int1 pins s σ H _ us Q I rv (.inl ⟨_,rfl,p.here W rfl⟩)
 ·obtain ⟨v,r,rfl,hx,hr⟩:=rx
  cases hr; cases hx
  exact call_int1 pins s σ H _ us Q I rv (.inr ⟨_,rfl,p.here W rfl⟩)
 ·exact p.elim
@[simp] theorem x_int1b (k:Bool) (c:List Cell):int1D [.bl k] c=.ok (.int (if k then 1 else 0)) c:=rfl
@[simp] theorem x_int1 (i:Int) (c:List Cell):int1D [.int i] c=.ok (.int i) c:=rfl
end L2
namespace L2
open PySem
noncomputable abbrev Up (l:List Nat):Prop:=l.Pairwise (· < ·)
theorem getD_list (xs:Array Nat) (i d:Nat):xs.getD i d=xs.toList.getD i d:=by
 simp [Array.getD_eq_getD_getElem?,List.getD_eq_getElem?_getD]
theorem up_lt {l:List Nat} (h:Up l) {i k:Nat} (hik:i < k) (hk:k < l.length):l.getD i 0 < l.getD k 0:=by
 have:=List.pairwise_iff_getElem.mp h i k (by omega) hk hik
 simpa [List.getD_eq_getElem?_getD,List.getElem?_eq_getElem hk,List.getElem?_eq_getElem (show i < l.length by omega)] using this
noncomputable def Parts (l:List Nat) (j p:Nat):Prop:=p≤l.length∧(∀ i,i < p→l.getD i 0 < j)∧∀ i,p≤i→i < l.length→j≤l.getD i 0
theorem below_go {xs:Array Nat} {j:Nat} (h:Up xs.toList):∀ fuel lo hi,lo≤hi→hi≤xs.toList.length→hi - lo≤fuel→(∀ i,i < lo→xs.toList.getD i 0 < j)→(∀ i,hi≤i→i < xs.toList.length→j≤xs.toList.getD i 0) →
  Parts xs.toList j (SetTable.below.go xs j fuel lo hi)
 | 0,lo,hi,h1,h2,h3,h4,h5=>⟨by unfold SetTable.below.go; omega,fun i hi'=>h4 i (by unfold SetTable.below.go at hi'; exact hi'),fun i hi'=>h5 i (by unfold SetTable.below.go at hi'; omega)⟩
 | fuel + 1,lo,hi,h1,h2,h3,h4,h5=>by
  unfold SetTable.below.go
  by_cases hl:lo < hi
  ·rw [if_pos hl]
   dsimp only
   have hm:(lo + hi) / 2 < xs.toList.length:=by omega
   have he:xs.getD ((lo + hi) / 2) j=xs.toList.getD ((lo + hi) / 2) 0:=by
    rw [getD_list]; simp [List.getD_eq_getElem?_getD,List.getElem?_eq_getElem hm]
   rw [he]
   by_cases hc:xs.toList.getD ((lo + hi) / 2) 0 < j
   ·rw [if_pos hc]
    refine below_go h fuel _ _ (by omega) h2 (by omega) (fun i hi'=>?_) h5
    by_cases hq:i=(lo + hi) / 2
    ·rw [hq]; exact hc
    ·exact Nat.lt_trans (up_lt h (show i < (lo + hi) / 2 by omega) hm) hc
   ·rw [if_neg hc]
    refine below_go h fuel _ _ (by omega) (by omega) (by omega) h4 (fun i hi' hl'=>?_)
    by_cases hq:i=(lo + hi) / 2
    ·rw [hq]; omega
    ·exact Nat.le_trans (by omega) (Nat.le_of_lt (up_lt h (show (lo + hi) / 2 < i by omega) hl'))
  ·rw [if_neg hl]
   exact ⟨by omega,h4,fun i hi'=>h5 i (by omega)⟩
theorem below_parts {xs:Array Nat} (h:Up xs.toList) (j:Nat):Parts xs.toList j (SetTable.below xs j):=by
 unfold SetTable.below
 exact below_go h _ _ _ (Nat.zero_le _) (by simp) (by simp) (fun i hi=>absurd hi (Nat.not_lt_zero _)) (fun i h1 h2=>by simp at h2; omega)
theorem below_zero {xs:Array Nat} (h:Up xs.toList):SetTable.below xs 0=0:=by
 obtain ⟨_,h2,_⟩:=below_parts h 0
 rcases Nat.eq_zero_or_pos (SetTable.below xs 0) with e | e
 ·exact e
 ·exact absurd (h2 0 e) (Nat.not_lt_zero _)
theorem below_next {xs:Array Nat} (h:Up xs.toList) {i:Nat} (hi:i < xs.toList.length):SetTable.below xs (xs.toList.getD i 0 + 1)=i + 1:=by
 obtain ⟨h1,h2,h3⟩:=below_parts h (xs.toList.getD i 0 + 1)
 rcases Nat.lt_trichotomy (SetTable.below xs (xs.toList.getD i 0 + 1)) (i + 1) with e | e | e
 ·have:=h3 i (by omega) hi; omega
 ·exact e
 ·have a:=h2 (i + 1) e
  have b:=up_lt h (show i < i + 1 by omega) (show i + 1 < xs.toList.length by omega)
  omega
theorem below_mem {xs:Array Nat} (h:Up xs.toList) {j:Nat} (hj:j∈xs.toList):xs[SetTable.below xs j]? = some j:=by
 obtain ⟨i,hi,e⟩:=List.getElem_of_mem hj
 obtain ⟨h1,h2,h3⟩:=below_parts h j
 have e':xs.toList.getD i 0=j:=by rw [List.getD_eq_getElem?_getD,List.getElem?_eq_getElem hi]; exact e
 have hp:SetTable.below xs j=i:=by
  rcases Nat.lt_trichotomy (SetTable.below xs j) i with q | q | q
  ·have a:=h3 (SetTable.below xs j) (Nat.le_refl _) (by omega)
   have b:=up_lt h q hi
   omega
  ·exact q
  ·have a:=h2 i q; omega
 rw [hp,← Array.getElem?_toList,List.getElem?_eq_getElem hi,e]
theorem up_put {xs:Array Nat} (h:Up xs.toList) {j:Nat} (hj:j∉xs.toList):Up (SetTable.insertAt xs (SetTable.below xs j) j).toList:=by
 rw [SetTable.toList_insertAt]
 obtain ⟨h1,h2,h3⟩:=below_parts h j
 generalize SetTable.below xs j=p at h1 h2 h3
 have ht:∀ a∈xs.toList.take p,a < j:=by
  intro a ha
  obtain ⟨i,hi,e⟩:=List.getElem_of_mem ha
  have hi':i < p∧i < xs.toList.length:=by simp at hi ⊢; omega
  have:=h2 i hi'.1
  rw [List.getElem_take] at e
  rw [List.getD_eq_getElem?_getD,List.getElem?_eq_getElem hi'.2] at this
  simpa [← e] using this
 have hd:∀ a∈xs.toList.drop p,j < a:=by
  intro a ha
  have hm:a∈xs.toList:=List.mem_of_mem_drop ha
  obtain ⟨i,hi,e⟩:=List.getElem_of_mem ha
  have hi':p + i < xs.toList.length:=by simp at hi ⊢; omega
  have:=h3 (p + i) (by omega) hi'
  rw [List.getElem_drop] at e
  rw [List.getD_eq_getElem?_getD,List.getElem?_eq_getElem hi'] at this
  have hle:j≤a:=by simpa [← e] using this
  exact Nat.lt_of_le_of_ne hle fun q=>hj (q ▸ hm)
 refine List.pairwise_append.mpr ⟨h.sublist (List.take_sublist _ _),List.pairwise_cons.mpr ⟨hd,h.sublist (List.drop_sublist _ _)⟩,fun a ha b hb=>?_⟩
 rcases List.mem_cons.mp hb with rfl | hb
 ·exact ht a ha
 ·exact Nat.lt_trans (ht a ha) (hd b hb)
theorem pigeon:∀ (n:Nat) (l:List Nat),(∀ j,j < n→j∈l)→n≤l.length
 | 0,_,_=>Nat.zero_le _
 | n + 1,l,h=>by
  have hn:=h n (Nat.lt_succ_self _)
  have:=pigeon n (l.erase n) fun j hj=>(List.mem_erase_of_ne (by omega)).mpr (h j (by omega))
  rw [List.length_erase_of_mem hn] at this
  have:=List.length_pos_of_mem hn
  omega
noncomputable def cov (mask:Nat):Nat→Nat→Nat→Nat→Nat→Nat→Bool
 | 0,_,_,_,_,_=>false
 | n + 1,j,more,i,q,acc =>
  if acc ||| (1 <<< j)=2 ^ (mask + 1) - 1 then true
  else if more > 0 then cov mask n (j + 1) (more - 1) i q (acc ||| (1 <<< j))
  else cov mask n ((i * 5 + 1 + q / 32) % (mask + 1)) (SetTable.runEnd mask ((i * 5 + 1 + q / 32) % (mask + 1)) - (i * 5 + 1 + q / 32) % (mask + 1)) ((i * 5 + 1 + q / 32) % (mask + 1)) (q / 32) (acc ||| (1 <<< j))
noncomputable def covAll (mask:Nat):Bool:=(List.range 128).all fun h=>cov mask (10 * (mask + 15)) (h % (mask + 1)) (SetTable.runEnd mask (h % (mask + 1)) - h % (mask + 1)) (h % (mask + 1)) h 0
noncomputable def covR (mask:Nat):Nat→Nat→Nat→Nat→Bool
 | 0,_,_,_=>false
 | n + 1,i,q,acc =>
  if acc ||| ((2 ^ (SetTable.runEnd mask i + 1 - i) - 1) <<< i)=2 ^ (mask + 1) - 1 then true
  else covR mask n ((i * 5 + 1 + q / 32) % (mask + 1)) (q / 32) (acc ||| ((2 ^ (SetTable.runEnd mask i + 1 - i) - 1) <<< i))
noncomputable def covRAll (mask:Nat):Bool:=(List.range 128).all fun h=>covR mask (mask + 15) (h % (mask + 1)) h 0
theorem cov7:covAll 7=true:=by decide +kernel
theorem cov31:covAll 31=true:=by decide +kernel
theorem cov127:covAll 127=true:=by decide +kernel
theorem covR31:covRAll 31=true:=by decide +kernel
theorem covR127:covRAll 127=true:=by decide +kernel
end L2
namespace L2
open PySem
theorem bit_step (acc j k:Nat):(acc ||| (1 <<< j)).testBit k=(acc.testBit k || decide (k=j)):=by
 rw [Nat.testBit_or,Nat.one_shiftLeft,Nat.testBit_two_pow]
 by_cases h:j=k
 ·subst h; simp
 ·simp [h,Ne.symm h]
theorem cov_le {mask:Nat}:∀ n j more i q acc,cov mask n j more i q acc=true→∀ k,acc.testBit k=true→k≤mask
 | 0,_,_,_,_,_,h,_,_=>by cases h
 | n + 1,j,more,i,q,acc,h,k,hk=>by
  have hk':(acc ||| (1 <<< j)).testBit k=true:=by rw [bit_step,hk]; rfl
  unfold cov at h
  split at h
  ·rename_i e
   rw [e,Nat.testBit_two_pow_sub_one] at hk'
   have:=of_decide_eq_true hk'; omega
  ·split at h
   ·exact cov_le _ _ _ _ _ _ h k hk'
   ·exact cov_le _ _ _ _ _ _ h k hk'
theorem slot_two {t:SetTable} (hd:t.dummies=#[]) (j:Nat):t.slot j=.empty∨∃ i,t.slot j=.live i:=by
 unfold SetTable.slot
 dsimp only
 split
 ·exact .inr ⟨_,rfl⟩
 ·rw [hd]
  exact .inl rfl
theorem go_finds {t:SetTable} {h:Int} (hd:t.dummies=#[]):∀ n (p:SetTable.Probe) acc fuel,cov t.mask n p.j p.more p.i p.perturb acc=true→p.dummy=none→n≤fuel →
  (∀ k,acc.testBit k=true→t.slot k≠.empty)→(∃ j,j≤t.mask∧t.slot j=.empty) →
  ∃ j,SetTable.probe.go t (fun _=>h + 1) h fuel p=some (.empty j none)∧t.slot j=.empty∧j≤t.mask
 | 0,_,_,_,h,_,_,_,_=>by simp [cov] at h
 | n + 1,p,acc,0,_,_,h,_,_=>by omega
 | n + 1,p,acc,fuel + 1,hc,hn,hf,ha,hj=>by
  have hle:p.j≤t.mask:=by
   have hk':(acc ||| (1 <<< p.j)).testBit p.j=true:=by rw [bit_step]; simp
   unfold cov at hc
   split at hc
   ·rename_i e
    rw [e,Nat.testBit_two_pow_sub_one] at hk'
    have:=of_decide_eq_true hk'; omega
   ·split at hc
    ·exact cov_le _ _ _ _ _ _ hc _ hk'
    ·exact cov_le _ _ _ _ _ _ hc _ hk'
  unfold SetTable.probe.go
  rcases slot_two hd p.j with e | ⟨i,e⟩
  ·rw [e]
   dsimp only
   exact ⟨p.j,by rw [hn],e,hle⟩
  ·rw [e]
   dsimp only
   have hne:(h + 1 == h)=false:=by simp; omega
   rw [hne]
   simp only [Bool.false_eq_true,if_false]
   have ha':∀ k,(acc ||| (1 <<< p.j)).testBit k=true→t.slot k≠.empty:=by
    intro k hk
    rw [bit_step,Bool.or_eq_true,decide_eq_true_eq] at hk
    rcases hk with hk | rfl
    ·exact ha k hk
    ·rw [e]; intro q; cases q
   unfold cov at hc
   split at hc
   ·rename_i ef
    obtain ⟨j0,h0,e0⟩:=hj
    exact absurd e0 (ha' j0 (by rw [ef,Nat.testBit_two_pow_sub_one]; exact decide_eq_true (by omega)))
   ·split at hc
    ·rename_i hm
     have hadv:t.advance p={ p with j:=p.j + 1,more:=p.more - 1 }:=by unfold SetTable.advance; rw [if_pos hm]
     rw [hadv]
     exact go_finds hd n _ _ fuel hc hn (by omega) ha' hj
    ·rename_i hm
     have hadv:t.advance p={ p with j:=(p.i * 5 + 1 + p.perturb / 32) % (t.mask + 1),more:=SetTable.runEnd t.mask ((p.i * 5 + 1 + p.perturb / 32) % (t.mask + 1)) - (p.i * 5 + 1 + p.perturb / 32) % (t.mask + 1),i:=(p.i * 5 + 1 + p.perturb / 32) % (t.mask + 1),perturb:=p.perturb / 32 }:=by
      unfold SetTable.advance; rw [if_neg hm]; rfl
     rw [hadv]
     exact go_finds hd n _ _ fuel hc hn (by omega) ha' hj
theorem bits_small {n:Nat} (h:n < 128):SetTable.bits (n:Int)=n:=by
 unfold SetTable.bits
 have:((n:Int) % (2 ^ 64:Int))=n:=Int.emod_eq_of_lt (by omega) (by omega)
 rw [this]; rfl
noncomputable def okMask (m:Nat):Prop:=m=7∨m=31∨m=127
theorem cov_of {m:Nat} (h:okMask m) {n:Nat} (hn:n < 128):cov m (10 * (m + 15)) (n % (m + 1)) (SetTable.runEnd m (n % (m + 1)) - n % (m + 1)) (n % (m + 1)) n 0=true:=by
 have:covAll m=true:=h.elim (fun e=>e ▸ cov7) fun h=>h.elim (fun e=>e ▸ cov31) fun e=>e ▸ cov127
 exact List.all_eq_true.mp this n (List.mem_range.mpr hn)
theorem free_slot {t:SetTable} {n:Nat} (hd:t.dummies=#[]) (hm:okMask t.mask) (hn:n < 128) (hs:t.place.toList.length≤t.mask) (hu:Up t.place.toList) :
  ∃ j,t.freeSlot (n:Int)=some (j,false)∧j∉t.place.toList∧j≤t.mask:=by
 have hmem:∀ j,t.slot j=.empty→j∉t.place.toList:=by
  intro j e hj
  unfold SetTable.slot at e
  dsimp only at e
  rw [below_mem hu hj] at e
  simp at e
 have hemp:∀ j,j∉t.place.toList→t.slot j=.empty:=by
  intro j hj
  rcases slot_two hd j with e | ⟨i,e⟩
  ·exact e
  ·unfold SetTable.slot at e
   dsimp only at e
   split at e
   ·rename_i q
    have:=eq_of_beq q
    rw [← Array.getElem?_toList] at this
    exact absurd (List.mem_of_getElem? this) hj
   ·split at e <;> cases e
 have hex:∃ j,j≤t.mask∧t.slot j=.empty:=by
  by_cases q:∃ j,j≤t.mask∧j∉t.place.toList
  ·obtain ⟨j,a,b⟩:=q; exact ⟨j,a,hemp j b⟩
  ·have:=pigeon (t.mask + 1) t.place.toList fun j hj=>Classical.byContradiction fun x=>q ⟨j,by omega,x⟩
   omega
 have hb:=bits_small hn
 obtain ⟨j,e,e1,e2⟩:=go_finds (t:=t) (h:=(n:Int)) hd (10 * (t.mask + 15)) (t.probeStart n) 0 (10 * SetTable.turns t.mask)
  (by show cov _ _ (SetTable.bits n % _) (SetTable.runEnd t.mask (SetTable.bits n % (t.mask + 1)) - SetTable.bits n % (t.mask + 1)) (SetTable.bits n % _) (SetTable.bits n) _=true; rw [hb]; exact cov_of hm hn) rfl (Nat.le_refl _) (fun k hk=>by simp at hk) hex
 refine ⟨j,?_,hmem j e1,e2⟩
 unfold SetTable.freeSlot SetTable.probe
 rw [e]
 rfl
theorem run_bit (c i k:Nat):((2 ^ c - 1) <<< i).testBit k=decide (i≤k∧k < i + c):=by
 rw [Nat.testBit_shiftLeft,Nat.testBit_two_pow_sub_one]
 by_cases h:i≤k
 ·simp only [ge_iff_le,h,decide_true,Bool.true_and,true_and]
  exact decide_eq_decide.mpr (by omega)
 ·simp [h]
theorem lay_free {mask:Nat} {owner:Array (Option Nat)}:∀ n i q acc fuel,covR mask n i q acc=true→n≤fuel→(∀ k,k≤mask→acc.testBit k=true→owner.getD k (some 0)≠none) →
  (∃ j,j≤mask∧owner.getD j (some 0)=none)→∃ j,SetTable.layClean.free mask owner fuel i q=some j∧owner.getD j (some 0)=none
 | 0,_,_,_,_,h,_,_,_=>by simp [covR] at h
 | n + 1,i,q,acc,0,_,h,_,_=>by omega
 | n + 1,i,q,acc,fuel + 1,hc,hf,ha,hj=>by
  unfold SetTable.layClean.free
  cases hr:(List.range (SetTable.runEnd mask i + 1 - i)).find? (fun k=>(owner.getD (i + k) (some 0)).isNone) with
  | some k =>
   dsimp only
   have:=List.find?_some hr
   exact ⟨i + k,rfl,by simpa using this⟩
  | none =>
   dsimp only
   have hno:=List.find?_eq_none.mp hr
   have ha':∀ k,k≤mask→(acc ||| ((2 ^ (SetTable.runEnd mask i + 1 - i) - 1) <<< i)).testBit k=true→owner.getD k (some 0)≠none:=by
    intro k hk hb
    rw [Nat.testBit_or,run_bit,Bool.or_eq_true,decide_eq_true_eq] at hb
    rcases hb with hb | hb
    ·exact ha k hk hb
    ·intro e
     have:=hno (k - i) (List.mem_range.mpr (by omega))
     rw [show i + (k - i)=k by omega,e] at this
     exact this rfl
   unfold covR at hc
   split at hc
   ·rename_i ef
    obtain ⟨j0,h0,e0⟩:=hj
    exact absurd e0 (ha' j0 h0 (by rw [ef,Nat.testBit_two_pow_sub_one]; exact decide_eq_true (by omega)))
   ·exact lay_free n _ _ _ fuel hc (by omega) ha' hj
noncomputable def okMask2 (m:Nat):Prop:=m=31∨m=127
theorem covR_of {m:Nat} (h:okMask2 m) {n:Nat} (hn:n < 128):covR m (m + 15) (n % (m + 1)) n 0=true:=by
 have:covRAll m=true:=h.elim (fun e=>e ▸ covR31) fun e=>e ▸ covR127
 exact List.all_eq_true.mp this n (List.mem_range.mpr hn)
theorem filt_set:∀ (l:List (Option Nat)) (j k:Nat),j < l.length→l.getD j (some 0)=none→((l.set j (some k)).filterMap id).Perm (k :: l.filterMap id)
 | [],_,_,h,_=>absurd h (Nat.not_lt_zero _)
 | x :: l,0,k,_,e=>by
  have:x=none:=by simpa using e
  subst this
  simp
 | x :: l,j + 1,k,h,e=>by
  have ih:=filt_set l j k (by simpa using h) (by simpa using e)
  rw [List.set_cons_succ]
  cases x with
  | none=>simpa using ih
  | some a =>
   simp only [List.filterMap_cons,id]
   exact (ih.cons a).trans (List.Perm.swap _ _ _)
theorem filt_full:∀ (l:List (Option Nat)),(∀ j,j < l.length→l.getD j (some 0)≠none)→(l.filterMap id).length=l.length
 | [],_=>rfl
 | x :: l,h=>by
  cases x with
  | none=>exact absurd rfl (h 0 (by simp))
  | some a =>
   have:=filt_full l fun j hj=>by simpa using h (j + 1) (by simpa using hj)
   simp [this]
noncomputable def LayI (mask:Nat) (owner:Array (Option Nat)) (k:Nat):Prop:=owner.toList.length=mask + 1∧(owner.toList.filterMap id).Perm (List.range k)
theorem getD_opt (xs:Array (Option Nat)) (i:Nat) (d:Option Nat):xs.getD i d=xs.toList.getD i d:=by
 simp [Array.getD_eq_getD_getElem?,List.getD_eq_getElem?_getD]
theorem lay_step {mask:Nat} {owner:Array (Option Nat)} {k n:Nat} (hm:okMask2 mask) (hn:n < 128) (I:LayI mask owner k) (hk:k≤mask) :
  ∃ j,SetTable.layClean.free mask owner (SetTable.turns mask) (SetTable.bits n % (mask + 1)) (SetTable.bits n)=some j∧LayI mask (owner.setIfInBounds j (some k)) (k + 1):=by
 obtain ⟨h1,h2⟩:=I
 have hex:∃ j,j≤mask∧owner.getD j (some 0)=none:=by
  by_cases q:∃ j,j≤mask∧owner.getD j (some 0)=none
  ·exact q
  ·have:=filt_full owner.toList fun j hj e=>q ⟨j,by omega,by rw [getD_opt]; exact e⟩
   have h3:=h2.length_eq
   rw [List.length_range] at h3
   omega
 obtain ⟨j,e,e1⟩:=lay_free (mask + 15) _ _ 0 (SetTable.turns mask) (covR_of hm hn) (Nat.le_refl _) (fun k _ hb=>by simp at hb) hex
 refine ⟨j,by rw [bits_small hn]; exact e,by simpa using h1,?_⟩
 rw [getD_opt] at e1
 have hj:j < owner.toList.length:=by
  rcases Nat.lt_or_ge j owner.toList.length with q | q
  ·exact q
  ·rw [List.getD_eq_getElem?_getD,List.getElem?_eq_none q] at e1; cases e1
 rw [Array.toList_setIfInBounds]
 refine (filt_set _ j k hj e1).trans ?_
 rw [List.range_succ]
 exact (h2.cons k).trans (List.perm_append_singleton k _).symm
theorem lay_all {mask:Nat} (hm:okMask2 mask):∀ (hs:List Int) (owner:Array (Option Nat)) (k:Nat),(∀ h∈hs,∃ n:Nat,h=n∧n < 128)→LayI mask owner k→k + hs.length≤mask →
  ∃ ow,hs.foldl (fun acc h=>(do
   let (owner,k) ← acc
   let j ← SetTable.layClean.free mask owner (SetTable.turns mask) (SetTable.bits h % (mask + 1)) (SetTable.bits h)
   pure (owner.setIfInBounds j (some k),k + 1):Option (Array (Option Nat)×Nat))) (some (owner,k))=some (ow,k + hs.length)∧LayI mask ow (k + hs.length)
 | [],owner,k,_,I,_=>⟨owner,rfl,I⟩
 | h :: hs,owner,k,hh,I,hl=>by
  obtain ⟨n,e,hn⟩:=hh h (.head _)
  subst e
  simp only [List.length_cons] at hl
  obtain ⟨j,e,I'⟩:=lay_step hm hn I (by omega)
  obtain ⟨ow,e',I''⟩:=lay_all hm hs _ (k + 1) (fun h x=>hh h (.tail _ x)) I' (by omega)
  refine ⟨ow,?_,by rw [List.length_cons,show k + (hs.length + 1)=k + 1 + hs.length by omega]; exact I''⟩
  rw [List.foldl_cons,List.length_cons,show k + (hs.length + 1)=k + 1 + hs.length by omega,← e']
  congr 1
  show (do let j ← SetTable.layClean.free mask owner (SetTable.turns mask) (SetTable.bits n % (mask + 1)) (SetTable.bits n); pure (owner.setIfInBounds j (some k),k + 1):Option (Array (Option Nat)×Nat))=_
  rw [e]
  rfl
theorem lay_clean {mask:Nat} (hm:okMask2 mask) (hs:Array Int) (hh:∀ h∈hs.toList,∃ n:Nat,h=n∧n < 128) (hl:hs.toList.length≤mask) :
  ∃ ow,SetTable.layClean mask hs=some ow∧LayI mask ow hs.toList.length:=by
 obtain ⟨ow,e,I⟩:=lay_all hm hs.toList (Array.replicate (mask + 1) none) 0 hh ⟨by simp,by simp⟩ (by omega)
 rw [Nat.zero_add] at e I
 refine ⟨ow,?_,I⟩
 unfold SetTable.layClean
 rw [← Array.foldl_toList]
 exact congrArg (Option.map (fun x:Array (Option Nat)×Nat=>x.1)) e
theorem range_filt (l:List (Option Nat)):(List.range l.length).filterMap (fun j=>l.getD j none)=l.filterMap id:=by
 have:l=(List.range l.length).map (fun j=>l.getD j none):=by
  apply List.ext_getElem
  ·simp
  ·intro i h1 h2
   simp [List.getD_eq_getElem?_getD,List.getElem?_eq_getElem h1]
 conv=>rhs; rw [this]
 rw [List.filterMap_map]
 rfl
theorem laid_ok {mask:Nat} (hm:okMask2 mask) (f mv:Nat) (led plain:Bool) (hs:Array Int) (hh:∀ h∈hs.toList,∃ n:Nat,h=n∧n < 128) (hl:hs.toList.length≤mask) :
  ∃ place order,SetTable.laid mask f mv led plain hs=some ({ mask:=mask,place:=place,dummies:=#[],finger:=f,led:=led,moves:=mv,plain:=plain },order)∧Up place.toList∧(∀ j∈place.toList,j≤mask)∧place.size=hs.size∧order.toList.Perm (List.range hs.size):=by
 obtain ⟨ow,e,h1,h2⟩:=lay_clean hm hs hh hl
 refine ⟨(((List.range (mask + 1)).filterMap fun j=>(ow.getD j none).map (j,·)).map (·.1)).toArray,(((List.range (mask + 1)).filterMap fun j=>(ow.getD j none).map (j,·)).map (·.2)).toArray,?_,?_,?_,?_,?_⟩
 ·unfold SetTable.laid
  rw [e]
  rfl
 ·show Up ((((List.range (mask + 1)).filterMap fun j=>(ow.getD j none).map (j,·)).map (·.1)).toArray).toList
  show List.Pairwise _ _
  rw [List.pairwise_map]
  refine List.Pairwise.filterMap _ (fun a a' hlt b hb b' hb'=>?_) List.pairwise_lt_range
  cases ha:ow.getD a none <;> rw [ha] at hb <;> simp at hb
  cases ha':ow.getD a' none <;> rw [ha'] at hb' <;> simp at hb'
  rw [← hb,← hb']
  exact hlt
 ·intro j hj
  simp only [List.mem_map,List.mem_filterMap,List.mem_range] at hj
  obtain ⟨⟨a,b⟩,⟨c,hc,hq⟩,rfl⟩:=hj
  cases ha:ow.getD c none <;> rw [ha] at hq <;> simp at hq
  obtain ⟨rfl,_⟩:=hq
  omega
 ·have:((List.range (mask + 1)).filterMap fun j=>(ow.getD j none).map (j,·)).length=(ow.toList.filterMap id).length:=by
   rw [← range_filt,h1,← List.length_map (f:=Prod.snd),List.map_filterMap]
   congr 1
   congr 1
   funext j
   rw [getD_opt]
   cases ow.toList.getD j none <;> rfl
  rw [List.size_toArray,List.length_map,this,h2.length_eq,List.length_range]
  simp
 ·show (((List.range (mask + 1)).filterMap fun j=>(ow.getD j none).map (j,·)).map (·.2)).Perm _
  have:(((List.range (mask + 1)).filterMap fun j=>(ow.getD j none).map (j,·)).map (·.2))=ow.toList.filterMap id:=by
   rw [← range_filt,h1,List.map_filterMap]
   congr 1
   funext j
   rw [getD_opt]
   cases ow.toList.getD j none <;> rfl
  rw [this]
  simpa using h2
end L2
namespace L2
open PySem
structure TblI (t:SetTable) (n:Nat):Prop where
 size:t.place.size=n
 up:Up t.place.toList
 le:∀ j∈t.place.toList,j≤t.mask
 dm:t.dummies=#[]
 mask:(t.mask=7∧n≤4)∨(t.mask=31∧n≤18)∨(t.mask=127∧n≤76)
 plain:t.plain=true
theorem TblI.fits {t:SetTable} {n:Nat} (h:TblI t n):t.fits n=true:=by
 have:=h.mask
 simp only [SetTable.fits,SetTable.fill,h.size,h.dm,Bool.and_eq_true,beq_self_eq_true,true_and,decide_eq_true_eq]
 simp only [List.size_toArray,List.length_nil]
 omega
theorem ti_fresh (led:Bool):TblI (.fresh 0 0 led) 0:=⟨rfl,.nil,fun j h=>by simp [SetTable.fresh] at h,rfl,.inl ⟨rfl,by omega⟩,rfl⟩
noncomputable def HS (es:List (Int×Value)):Prop:=∀ e∈es,∃ n:Nat,e.1=n∧n < 128
theorem lay_new {t:SetTable} {es:Array (Int×Value)} {x:Value} {m:Nat} (I:TblI t es.size) (hm:m < 128) (hn:es.size < 64) :
  ∃ es1 t1,layNew t es (m:Int) x=(es1,t1,false,false)∧es1.size=es.size + 1∧t1.led=t.led∧t1.plain=true∧t1.place.size=es1.size∧Up t1.place.toList∧(∀ j∈t1.place.toList,j≤t1.mask)∧t1.dummies=#[]∧t1.mask=t.mask∧t1.fits es1.size=true:=by
 have hk:=I.mask
 have hok:okMask t.mask:=by unfold okMask; omega
 have hsz:=I.size
 obtain ⟨j,e,h1,h2⟩:=free_slot (t:=t) I.dm hok hm (by simp [hsz]; omega) I.up
 have hnd:(if SetTable.has t.dummies j then SetTable.eraseAt t.dummies (SetTable.below t.dummies j) else t.dummies)=#[]:=by
  rw [I.dm]; rfl
 have hs1:(SetTable.insertAt es (SetTable.below t.place j) ((m:Int),x)).size=es.size + 1:=by
  rw [← Array.length_toList,(SetTable.insertAt_perm ..).length_eq]; simp
 have hs2:(SetTable.insertAt t.place (SetTable.below t.place j) j).size=es.size + 1:=by
  rw [← Array.length_toList,(SetTable.insertAt_perm ..).length_eq]; simp [hsz]
 have hfit:(t.put j).1.fits (es.size + 1)=true:=by
  simp only [SetTable.put,SetTable.fits,SetTable.fill,hnd,hs2,Bool.and_eq_true,beq_self_eq_true,true_and,decide_eq_true_eq]
  simp only [List.size_toArray,List.length_nil]
  omega
 refine ⟨SetTable.insertAt es (SetTable.below t.place j) ((m:Int),x),(t.put j).1,?_,hs1,rfl,I.plain,?_,?_,?_,hnd,rfl,?_⟩
 ·unfold layNew
  rw [e]
  dsimp only
  have hp:(t.put j).2=SetTable.below t.place j:=rfl
  rw [hp,hs1]
  unfold SetTable.orStandIn
  rw [hfit]
  rfl
 ·rw [hs1]; exact hs2
 ·exact up_put I.up h1
 ·intro k hk'
  have:k∈(t.place.push j).toList:=(SetTable.insertAt_perm t.place (SetTable.below t.place j) j).mem_iff.mp hk'
  rw [Array.toList_push,List.mem_append,List.mem_singleton] at this
  rcases this with q | rfl
  ·exact I.le k q
  ·exact h2
 ·rw [hs1]; exact hfit
theorem relay_ok {t:SetTable} {es:Array (Int×Value)} (hp:t.plain=true) (hh:HS es.toList) (hm:(t.mask=7∧es.size=5)∨(t.mask=31∧es.size=19)) :
  ∃ es2 t2,relayAll t es (SetTable.grown es.size)=(es2,t2,false)∧es2.size=es.size∧TblI t2 es2.size∧t2.led=t.led:=by
 have hw:∃ m,SetTable.sizeAbove (SetTable.grown es.size) - 1=m∧((m=31∧es.size=5)∨(m=127∧es.size=19)):=by
  rcases hm with ⟨_,e⟩ | ⟨_,e⟩
  ·rw [e]; exact ⟨31,by decide,.inl ⟨rfl,rfl⟩⟩
  ·rw [e]; exact ⟨127,by decide,.inr ⟨rfl,rfl⟩⟩
 obtain ⟨m,ew,hq⟩:=hw
 have hs:(es.map (·.1)).toList=es.toList.map (·.1):=by simp
 obtain ⟨place,order,e,u1,u2,u3,u4⟩:=laid_ok (mask:=m) (by unfold okMask2; omega) t.finger (t.movedTo m) t.led t.plain (es.map (·.1)) (fun h hx=>by
  rw [hs,List.mem_map] at hx
  obtain ⟨y,hy,rfl⟩:=hx
  exact hh y hy) (by rw [hs,List.length_map,Array.length_toList]; omega)
 rw [Array.size_map] at u3 u4
 have hes:(order.filterMap (es[·]?)).size=es.size:=by
  rw [← Array.length_toList,Array.toList_filterMap]
  exact ((u4.filterMap _).trans (by rw [filterMap_getElem?_range])).length_eq
 have hfit:SetTable.fits { mask:=m,place:=place,dummies:=#[],finger:=t.finger,led:=t.led,moves:=t.movedTo m,plain:=t.plain } es.size=true:=by
  simp only [SetTable.fits,SetTable.fill,u3,Bool.and_eq_true,beq_self_eq_true,true_and,decide_eq_true_eq]
  simp only [List.size_toArray,List.length_nil]
  omega
 refine ⟨order.filterMap (es[·]?),{ mask:=m,place:=place,dummies:=#[],finger:=t.finger,led:=t.led,moves:=t.movedTo m,plain:=t.plain },?_,hes,?_,?_⟩
 rotate_left
 ·rw [hes]
  exact ⟨u3,u1,u2,rfl,.inr (by show (m=31∧_)∨(m=127∧_); omega),hp⟩
 ·rfl
 ·unfold relayAll SetTable.relaid
  rw [ew,e]
  dsimp only
  rw [hes,hfit]
  have hc:coversAll order es.size=true:=by unfold coversAll; exact List.isPerm_iff.mpr u4
  rw [hc]
  rfl
theorem full_cases {t t1:SetTable} {n:Nat} (I:TblI t n) (hm:t1.mask=t.mask) (hs:t1.place.size=n + 1) (hd:t1.dummies=#[]) (hn:n < 64) :
  (t1.tooFull=true→(t1.mask=7∧n + 1=5)∨(t1.mask=31∧n + 1=19))∧(t1.tooFull=false→((t1.mask=7∧n + 1≤4)∨(t1.mask=31∧n + 1≤18)∨(t1.mask=127∧n + 1≤76))):=by
 have hk:=I.mask
 have hz:(#[]:Array Nat).size=0:=rfl
 simp only [SetTable.tooFull,SetTable.fill,hs,hd,hm,hz,decide_eq_true_eq,decide_eq_false_iff_not]
 omega
end L2
namespace L2
open PySem
theorem hash_small {n:Nat} (h:n < 128):hashInt (n:Int)=n:=by
 have:((List.range 128).all fun n=>hashInt (n:Int) == (n:Int))=true:=by decide +kernel
 exact eq_of_beq (List.all_eq_true.mp this n (List.mem_range.mpr h))
noncomputable def byTx (w:World):Bool:=w.params.followText "set-order"
noncomputable def stepS (ns:List Nat) (x:Nat):List Nat:=if x∈ns then ns else ns ++ [x]
noncomputable def Smalls (l:List (Int×Value)) (ns:List Nat):Prop:=(l.map (·.1)).Perm (ns.map fun n:Nat=>(n:Int))∧∀ e∈l,∃ (n:Nat) (tk:Tok),e=((n:Int),.int n tk)∧n < 128
noncomputable def SetI (w:World) (h:Heap) (a:Addr) (ns:List Nat):Prop:=∃ o es ep t,h.get? a=some o∧o.ExactSet∧o.data=.set es ep t∧TblI t es.size∧t.led = !byTx w∧Smalls es.toList ns
theorem Smalls.hs {l:List (Int×Value)} {ns:List Nat} (h:Smalls l ns):HS l:=fun e he=>by
 obtain ⟨n,tk,rfl,hn⟩:=h.2 e he
 exact ⟨n,rfl,hn⟩
theorem Smalls.len {l:List (Int×Value)} {ns:List Nat} (h:Smalls l ns):l.length=ns.length:=by
 have:=h.1.length_eq; simpa using this
theorem Smalls.mem {l:List (Int×Value)} {ns:List Nat} (h:Smalls l ns) (n:Nat):n∈ns↔∃ e∈l,e.1=(n:Int):=by
 constructor
 ·intro hn
  have:(n:Int)∈l.map (·.1):=h.1.mem_iff.mpr (List.mem_map.mpr ⟨n,hn,rfl⟩)
  obtain ⟨e,he,q⟩:=List.mem_map.mp this
  exact ⟨e,he,q⟩
 ·rintro ⟨e,he,q⟩
  have:(n:Int)∈ns.map (fun n:Nat=>(n:Int)):=h.1.mem_iff.mp (List.mem_map.mpr ⟨e,he,q⟩)
  obtain ⟨m,hm,r⟩:=List.mem_map.mp this
  have:m=n:=by omega
  exact this ▸ hm
theorem Smalls.perm {l l':List (Int×Value)} {ns:List Nat} (h:Smalls l ns) (p:l'.Perm l):Smalls l' ns:=⟨(p.map _).trans h.1,fun e he=>h.2 e (p.mem_iff.mp he)⟩
theorem Smalls.push {l:List (Int×Value)} {ns:List Nat} (h:Smalls l ns) {m:Nat} (hm:m < 128) (tk:Tok):Smalls (l ++ [((m:Int),.int m tk)]) (ns ++ [m]):=by
 refine ⟨?_,fun e he=>?_⟩
 ·rw [List.map_append,List.map_append]
  exact h.1.append_right _
 ·rcases List.mem_append.mp he with he | he
  ·exact h.2 e he
  ·rw [List.mem_singleton] at he
   exact ⟨m,tk,he,hm⟩
section
variable {prog:Program} {w:World} {A:Around} {E:Value→Shared→Prop} {s:Shared}
theorem Smalls.els {l:List (Int×Value)} {ns:List Nat} (h:Smalls l ns):ElemsOf (intKind prog w) l:=fun e he=>by
 obtain ⟨n,tk,rfl,hn⟩:=h.2 e he
 exact ⟨⟨n,by simp [intKind,Value.isInt],(hash_small hn).symm⟩,rfl⟩
theorem put_at {h:Heap} {a:Addr} {o:Obj} {es es':Array (Int×Value)} {ep:Nat} {t t':SetTable} (ho:h.get? a=some o) (hd:o.data=.set es ep t) :
  (h.update a (Obj.putSet es' t')).get? a=some { o with data:=.set es' (ep + 1) t' }:=by
 have:=Heap.get?_update_self (Obj.putSet es' t') ho (by rw [putSet_of es' t' hd]; rfl)
 rwa [putSet_of es' t' hd] at this
theorem set_add {a:Addr} {ns:List Nat} {m:Nat} {tk:Tok} {Q:Bool→Shared→Prop} (hm:m < 128) (hS:SetI w s.heap a ns) (hn:ns.length < 64)
  (h:∀ b h',Heap.SameBut a s.heap h'→SetI w h' a (stepS ns m)→Q b { s with heap:=h' }):wpAny (model prog w) A (setAddHashed a (.int m tk) (hashInt m)) Q E s:=by
 obtain ⟨o,es,ep,t,ho,hex,hd,hI,hl,hs⟩:=hS
 have hsz:es.size=ns.length:=by rw [← Array.length_toList]; exact hs.len
 have hel:ElemsOf (intKind prog w) es.toList:=hs.els
 have hkey:(intKind prog w).is (m:Int) (.int m tk)=true:=by simp [intKind,Value.isInt]
 unfold setAddHashed setAddHashedIn
 refine wpAny_holding (wpAny_bind (wpAny_setState_of ho hd hI.fits ?_))
 dsimp only
 rw [byScan_of (knd:=intKind prog w) rfl (by unfold scanBound; omega) hel]
 simp only [↓reduceIte]
 unfold setAddByScan
 refine wpAny_bind (wpAny_bind (wpAny_rule (wpAny_bind (wpAny_setScan_of (knd:=intKind prog w) hkey ho hd hI.fits hel ?_))))
 have hfind:∀ e∈es.toList,(intKind prog w).is (m:Int) e.2=true→e.1=(m:Int):=fun e he q=>by
  obtain ⟨n,tk',rfl,_⟩:=hs.2 e he
  obtain ⟨t',q⟩:=Value.isInt_shape (show Value.isInt (m:Int) (.int (n:Int) tk')=true from q)
  injection q
 cases hr:es.toList.findIdx? (fun e=>(intKind prog w).is (m:Int) e.2) with
 | some j =>
  dsimp only
  obtain ⟨hj,hpj,_⟩:=List.findIdx?_eq_some_iff_getElem.mp hr
  have hmem:m∈ns:=(hs.mem m).mpr ⟨_,List.getElem_mem hj,hfind _ (List.getElem_mem hj) hpj⟩
  refine wpAny_pure (wpAny_pure ?_)
  exact h false s.heap (Heap.SameBut.refl a s.heap) (by unfold stepS; rw [if_pos hmem]; exact ⟨o,es,ep,t,ho,hex,hd,hI,hl,hs⟩)
 | none =>
  dsimp only
  have hmem:m∉ns:=fun hq=>by
   obtain ⟨e,he,q⟩:=(hs.mem m).mp hq
   have:=List.findIdx?_eq_none_iff.mp hr e he
   obtain ⟨n,tk',rfl,_⟩:=hs.2 e he
   have e:n=m:=by dsimp only at q; omega
   subst e
   simp [intKind,Value.isInt] at this
  have hst:stepS ns m=ns ++ [m]:=by unfold stepS; rw [if_neg hmem]
  rw [hst] at h
  rw [hash_small hm]
  have hperm:=layNew_perm t es (m:Int) (.int m tk)
  obtain ⟨es1,t1,e1,q1,q2,q3,q4,q5,q6,q7,q8,q9⟩:=lay_new (x:=.int m tk) hI hm (by omega)
  rw [e1] at hperm ⊢
  dsimp only at hperm ⊢
  rw [Array.toList_push] at hperm
  have hs1:Smalls es1.toList (ns ++ [m]):=(hs.push hm tk).perm hperm
  refine wpAny_bind (wpAny_pure ?_)
  rw [q3]
  simp only [↓reduceIte]
  refine wpAny_bind ?_
  rw [hashByValue_scannable 8 (x:=.int m tk) rfl]
  refine wpAny_pure ?_
  dsimp only [plainKind]
  simp only [↓reduceIte]
  refine wpAny_bind (wpAny_storeSet_of ho hd ?_ (fits_of_scanBound (by unfold scanBound; omega)))
  have ho1:=put_at (es':=es1) (t':=t1) ho hd
  have hsb:=Heap.SameBut.update s.heap a (Obj.putSet es1 t1)
  have hcs:=full_cases hI q8 (q4.trans q1) q7 (by omega)
  cases hf:t1.tooFull with
  | false =>
   simp only [Bool.not_false,Bool.and_false,Bool.false_eq_true,↓reduceIte]
   refine wpAny_pure (wpAny_pure (h true _ hsb ⟨_,es1,ep + 1,t1,ho1,hex,rfl,⟨q4,q5,q6,q7,?_,q3⟩,q2.trans hl,hs1⟩))
   rw [q1]; exact hcs.2 hf
  | true =>
   simp only [Bool.not_false,Bool.and_self,↓reduceIte]
   have hp2:=relayAll_perm t1 es1 (SetTable.grown es1.size)
   obtain ⟨es2,t2,e2,r1,r2,r3⟩:=relay_ok q3 hs1.hs (by rw [q1]; exact hcs.1 hf)
   rw [e2] at hp2 ⊢
   dsimp only at hp2 ⊢
   refine wpAny_bind (wpAny_pure ?_)
   refine wpAny_bind (wpAny_storeSet_of ho1 rfl ?_ (fits_of_scanBound (by unfold scanBound; omega)))
   exact wpAny_pure (wpAny_pure (h true _ (hsb.trans (Heap.SameBut.update _ a _)) ⟨_,es2,ep + 1 + 1,t2,put_at ho1 rfl,hex,rfl,r2,r3.trans (q2.trans hl),hs1.perm hp2⟩))
end
end L2
namespace L2
open PySem PySem.Spec PyProof.Rows
noncomputable def foldS (xs:List Nat):List Nat:=xs.foldl stepS []
theorem foldS_len:∀ (xs ns:List Nat),(xs.foldl stepS ns).length≤ns.length + xs.length
 | [],ns=>by simp
 | x :: xs,ns=>by
  have:=foldS_len xs (stepS ns x)
  have h:(stepS ns x).length≤ns.length + 1:=by unfold stepS; split <;> simp
  rw [List.foldl_cons,List.length_cons]; omega
theorem foldS_take {xs:List Nat} {i:Nat} (h:i < xs.length):foldS (xs.take (i + 1))=stepS (foldS (xs.take i)) xs[i]:=by
 unfold foldS
 rw [List.take_succ_eq_append_getElem h,List.foldl_append]
 rfl
theorem foldS_mono:∀ (xs ns:List Nat),ns.length≤(xs.foldl stepS ns).length
 | [],ns=>Nat.le_refl _
 | x :: xs,ns=>by
  have:=foldS_mono xs (stepS ns x)
  have h:ns.length≤(stepS ns x).length:=by unfold stepS; split <;> simp
  rw [List.foldl_cons]; omega
theorem foldS_part (xs:List Nat) (i:Nat):(foldS (xs.take i)).length≤(foldS xs).length:=by
 have:foldS xs=(xs.drop i).foldl stepS (foldS (xs.take i)):=by
  unfold foldS
  rw [← List.foldl_append,List.take_append_drop]
 rw [this]
 exact foldS_mono _ _
theorem SetI.at {w:World} {h h':Heap} {a:Addr} {ns:List Nat} (x:SetI w h a ns) (k:∀ o,h.get? a=some o→h'.get? a=some o):SetI w h' a ns :=
 let ⟨o,es,ep,t,ho,r⟩:=x; ⟨o,es,ep,t,k o ho,r⟩
section
variable {prog:Program} {w:World} {A:Around} {s:Shared} {E:Value→Shared→Prop}
theorem set_loop {R:Result→Shared→Prop} {I:Addr} {fp wr:List Addr} {G:Array GenState→Array GenState→Prop} {P:Nat→Value→Prop} {St:Nat→Shared→Prop} {xs:List Nat}
  (W:WalksS prog w A.in1 I fp wr G xs.length P St) (S:Addr) (hSf:S∉fp) (hval:∀ (i:Nat) v,(hi:i < xs.length)→P i v→∃ t,v=Value.int (xs[i]:Nat) t) (hx:∀ x∈xs,x < 128) (h64:(foldS xs).length < 64) :
  ∀ (k i:Nat) (s:Shared),xs.length - i=k→i≤xs.length→St i s→SetI w s.heap S (foldS (xs.take i)) →
   (∀ s',Moved (S :: wr) G s s'→SetI w s'.heap S (foldS xs)→R (.ok (.ret .none)) s') →
   codeAny (model prog w) A (.builtin "set.update.loop" ⟨[.ref S,.ref I],[]⟩) R s:=by
 have hSw:S∉wr:=fun h=>hSf (W.sub _ h)
 have hup:∀ b∈wr,b∈S :: wr:=fun b hb=>.tail _ hb
 intro k
 induction k with
 | zero =>
  intro i s hk hi st hS hR
  cases (show i=xs.length by omega)
  refine codeAny_builtin F.entry_set_update_loop ?_
  rw [Around.under_plainId F.plain_set_update_loop _]
  show wpAny _ A.in1 (pyNext (.ref I) >>= _) _ _ s
  refine wpAny_bind (W.done s _ _ st fun s' hm=>?_)
  rw [List.take_length] at hS
  exact wpAny_pure (hR s' (hm.mono hup) (hS.at fun o e=>hm.heap S _ hSw e))
 | succ k ih =>
  intro i s hk hi st hS hR
  have hlt:i < xs.length:=by omega
  refine codeAny_builtin F.entry_set_update_loop ?_
  rw [Around.under_plainId F.plain_set_update_loop _]
  show wpAny _ A.in1 (pyNext (.ref I) >>= _) _ _ s
  refine wpAny_bind (W.item i s _ _ hlt st fun v s' hP st' hm=>?_)
  obtain ⟨t,rfl⟩:=hval i v hlt hP
  have hS':SetI w s'.heap S (foldS (xs.take i)):=hS.at fun o e=>hm.heap S _ hSw e
  show wpAny _ A.in1 (holding [Value.int (xs[i]:Nat) t] (setAdd S (.int (xs[i]:Nat) t)) >>= _) _ _ s'
  refine wpAny_bind (wpAny_holding ?_)
  unfold setAdd
  refine wpAny_holding (wpAny_bind ((intKind prog w).pyHash (k:=(xs[i]:Nat)) (by simp [intKind,Value.isInt]) ?_))
  have hl:(foldS (xs.take i)).length < 64:=Nat.lt_of_le_of_lt (foldS_part xs i) h64
  refine set_add (s:={ s' with toks:=s'.toks + 1 }) (hx _ (List.getElem_mem hlt)) hS' hl fun b h' hsb hS2=>?_
  rw [← foldS_take hlt] at hS2
  refine wpAny_pure ⟨plainId_quiet F.plain_set_update_loop _,ih (i + 1) _ (by omega) hlt (W.frame _ s' _ _ st' (Nat.le_succ _) fun b hb o e=>?_) hS2 fun s'' hm'' hS''=>?_⟩
  ·rw [hsb.2 b (fun q:b=S=>hSf (q ▸ hb))]; exact e
  ·refine hR s'' (Moved.trans W.gtrans ((hm.mono hup).then_heap (Nat.le_succ _) fun b o hb e=>?_) hm'') hS''
   rw [hsb.2 b (fun q:b=S=>hb (q ▸ .head _))]; exact e
noncomputable def emptyS (w:World):Obj:={ cls:=.type "set",dict:=none,data:=.set #[] 0 (.fresh 0 0 (!byTx w)) }
theorem empty_ok (w:World) {h:Heap} {a:Addr} (e:h.get? a=some (emptyS w)):SetI w h a [] :=
 ⟨_,#[],0,_,e,⟨rfl,rfl,rfl⟩,rfl,ti_fresh _,rfl,.refl _,fun e he=>by cases he⟩
theorem set_new1 (a:Value) {Q₁:Value→Shared→Prop} (h:Q₁ (.ref s.heap.objs.size) { s with heap:=s.heap.push (emptyS w) }) :
  codeAny (model prog w) A (.call (.builtin "set.__new__") ⟨[.type "set",a],[]⟩) (wants Q₁ E) s:=by
 refine codeAny_of_tree (show wpAny _ A.in1 (do checkBuiltinCall "set.__new__" ⟨[.type "set",a],[]⟩; again (.builtin "set.__new__" ⟨[.type "set",a],[]⟩)) _ _ s from ?_)
 refine wpAny_bind (wpAny_of_eq (PySem.F.newCall_set_1 a) (wpAny_pure ⟨plainId_quiet PySem.F.plain_set_new _,codeAny_builtin PySem.F.entry_set_new ?_⟩))
 rw [Around.under_plainId PySem.F.plain_set_new _]
 unfold Builtin.«set.__new__» Builtin.Frozenset.newClass
 have hsub:=sub_set_self
 obtain ⟨hp,g,d,tk,os⟩:=s
 dsimp only; wp_walk
 refine wpAny_askSetting (wpAny_pure ?_)
 dsimp only; simp only [newObj]
 exact wpAny_bind (wpAny_alloc (wpAny_pure (wpAny_pure h)))
set_option maxHeartbeats 3200000 in
theorem set_of {l:Addr} {items:Array Value} {xs:List Nat} {Q:Value→Shared→Prop} (hh:A.handled=none) (hl:s.heap.IsList l items) (hi:IntsAre items.toList (xs.map fun n:Nat=>(n:Int))) (hx:∀ x∈xs,x < 128) (h64:(foldS xs).length < 64)
  (h:∀ (h':Heap) (tk:Nat),SetI w h' s.heap.objs.size (foldS xs)→(∀ b o,b < s.heap.objs.size→s.heap.get? b=some o→h'.get? b=some o)→Q (.ref s.heap.objs.size) { s with heap:=h',toks:=tk }) :
  wpAny (model prog w) A (call (.type "set") [.ref l]) Q E s:=by
 obtain ⟨c,tl,hmro⟩:=PySem.F.called_set.mro
 have hmade:=PySem.F.called_set.made
 have hsub:=PySem.F.called_set.sub
 refine wpAny_call (codeAny_of_tree (show wpAny _ _ (callAny (.type "set") _) _ _ _ from ?_))
 refine wpAny_pure ⟨Code.quiet_builtin _ (by decide +kernel),codeAny_builtin PySem.F.entry_type_call ?_⟩
 rw [Around.under_plain (weight_type_call_type "set" [.ref l] []) rfl]
 have h1:=PySem.F.called_set.notType
 have h2:=PySem.F.called_set.canCreate
 have hct:=PySem.F.typeCall_set_1 (.ref l)
 repeat any_goals (first | assumption | wp_step)
 refine codeAny_mono (set_new1 (.ref l) (E:=E) (Q₁:=fun obj s₁=>obj=.ref s.heap.objs.size∧s₁={ s with heap:=s.heap.push (emptyS w) }) ⟨rfl,rfl⟩) fun r s₁ hr=>?_
 cases r with
 | error e=>exact hr
 | ok fl =>
  cases fl with
  | ret obj =>
   obtain ⟨rfl,rfl⟩:=hr
   have hS:(s.heap.push (emptyS w)).get? s.heap.objs.size=some (emptyS w):=Heap.get?_push_size _ rfl
   have hT:Shared.TypeIs { s with heap:=s.heap.push (emptyS w) } (.ref s.heap.objs.size) "set":=⟨_,hS,rfl⟩
   have hli:=PySem.F.called_set.init.lookup
   have hbi:=PySem.F.called_set.init.bind (.ref s.heap.objs.size)
   repeat any_goals (first | assumption | wp_step)
   refine codeAny_mono (codeAny_call_builtin (R:=wants (fun r s₂=>r=.none∧∃ h' tk,s₂={ s with heap:=h',toks:=tk }∧SetI w h' s.heap.objs.size (foldS xs) ∧
     (∀ b o,b < s.heap.objs.size→s.heap.get? b=some o→h'.get? b=some o)) E) PySem.F.called_set.init.plain PySem.F.entry_set_init (check_set_init_1 hT ?_)) fun r₂ s₂ hr₂=>?_
   ·obtain ⟨ol,hol,hcl,nl,hdl⟩:=hl
    obtain ⟨ocls,odict,odata,oslots⟩:=ol
    simp only at hcl hdl
    subst hcl; subst hdl
    have hol':(s.heap.push (emptyS w)).get? l=some { cls:=.type "list",dict:=odict,data:=.seq items nl,slots:=oslots }:=Heap.get?_push_of_some _ hol
    have hsls:=PySem.F.sub_list_set
    have hslf:=PySem.F.sub_list_frozenset
    have hne:(Value.type "list" == Value.type "dict")=false:=by decide
    have hl1:(s.heap.push (emptyS w)).IsList l items:=⟨_,hol',rfl,nl,rfl⟩
    unfold emptyS at hS hT hol' ⊢
    unfold Builtin.«set.__init__» noKeywords Builtin.Frozenset.updateFrom
    generalize hPI:pyIter=PI
    wp_walk
    subst hPI
    refine wpAny_pyIter_list hl1 (wpAny_bind (wpAny_runValue ?_))
    have hlS:l < s.heap.objs.size:=Heap.lt_size hol
    have hlen:items.size=xs.length:=by have:=hi.length; simpa using this
    have hneI:l≠(s.heap.push (emptyS w)).objs.size:=by rw [Heap.size_push]; exact Nat.ne_of_lt (Nat.lt_succ_of_lt hlS)
    have hSf:s.heap.objs.size∉[(s.heap.push (emptyS w)).objs.size,l]:=by
     rw [Heap.size_push]; simp only [List.mem_cons,List.not_mem_nil,or_false,not_or]; exact ⟨Nat.ne_of_lt (Nat.lt_succ_self _),Nat.ne_of_gt hlS⟩
    have W:=(Walks.list (prog:=prog) (w:=w) (A:=A.in1.in1.in1) (by simp [hh]) (s.heap.push (emptyS w)).objs.size l hneI items).toS
    rw [hlen] at W
    refine set_loop (xs:=xs) W s.heap.objs.size hSf (fun i v hi' hv=>?_) hx h64 xs.length 0 _ (by omega) (Nat.zero_le _) ⟨⟨_,Heap.get?_push_size _ rfl,rfl,rfl⟩,hl1.push _⟩ (empty_ok w (Heap.get?_push_of_some _ hS)) fun s' hm hS'=>?_
    ·obtain ⟨t,e⟩:=IntsAre.int_at hi i v (by rw [Array.getElem?_toList]; exact hv)
     exact ⟨t,by rw [e]; simp [List.getD_eq_getElem?_getD,List.getElem?_eq_getElem hi']⟩
    ·obtain ⟨h',g',d',tk',os'⟩:=s'
     cases (show g'=s.gens from hm.gens)
     cases (show d'=s.drawn from hm.drawn)
     cases (show os'=s.os from hm.os)
     refine wpAny_pure (wpAny_pure ⟨rfl,h',tk',rfl,hS',fun b o hb e=>?_⟩)
     exact hm.heap b o (by rw [Heap.size_push]; simp only [List.mem_cons,List.not_mem_nil,or_false,not_or]; exact ⟨Nat.ne_of_lt hb,Nat.ne_of_lt (Nat.lt_succ_of_lt hb)⟩) (Heap.get?_push_of_some _ (Heap.get?_push_of_some _ e))
   ·cases r₂ with
    | error e=>exact hr₂
    | ok fl₂ =>
     cases fl₂ with
     | ret r =>
      obtain ⟨rfl,h',tk,rfl,hS',hk'⟩:=hr₂
      repeat any_goals (first | assumption | wp_step)
      exact h _ _ hS' hk'
     | _=>exact hr₂.elim
  | _=>exact hr.elim
end
end L2
namespace L2
open PySem
theorem sw_slot_next:Slot "set_iterator" "__next__" "set_iterator.__next__" :=
 .of (owner:="set_iterator") (n:="__next__") (by rw [typeLookup_type,builtinLookup_eq_fast]; kernel_rfl) (by decide +kernel) (by decide +kernel)
  (by decide +kernel) (by first | exact .inl (by decide +kernel) | exact .inr (by decide +kernel)) (by rw [isSubtype_type]; kernel_rfl)
theorem sw_slot_iter:Slot "set_iterator" "__iter__" "set_iterator.__iter__" :=
 .of (owner:="set_iterator") (n:="__iter__") (by rw [typeLookup_type,builtinLookup_eq_fast]; kernel_rfl) (by decide +kernel) (by decide +kernel)
  (by decide +kernel) (by first | exact .inl (by decide +kernel) | exact .inr (by decide +kernel)) (by rw [isSubtype_type]; kernel_rfl)
theorem sw_entry_next:entryFor table "set_iterator.__next__"=some Builtin.«set_iterator.__next__»:=entryFor_of_tree (by kernel_rfl)
theorem sw_entry_iter:entryFor table "set_iterator.__iter__"=some Builtin.«dict_keyiterator.__iter__» :=
 entryFor_alias (id':="dict_keyiterator.__iter__") (by kernel_rfl) rfl (by decide +kernel) (by kernel_rfl)
theorem sw_entry_set_iter:entryFor table "set.__iter__"=some Builtin.«frozenset.__iter__» :=
 entryFor_alias (id':="frozenset.__iter__") (by kernel_rfl) rfl (by decide +kernel) (by kernel_rfl)
theorem sw_owner:Manifest.owners.lookup (String.ofList ['r','o','t','a','r','e','t','i','_','t','e','s'].reverse)=some Manifest.sig_set_iterator:=by kernel_rfl
theorem sw_args_next (a:Value):argsOk "set_iterator.__next__" ⟨[a],[]⟩:=by
 unfold argsOk
 rw [signature?_of (id:="set_iterator.__next__") (n:=['_','_','t','x','e','n','_','_']) (o:=['r','o','t','a','r','e','t','i','_','t','e','s']) (by kernel_rfl) sw_owner]; kernel_rfl
theorem sw_args_iter (a:Value):argsOk "set_iterator.__iter__" ⟨[a],[]⟩:=by
 unfold argsOk
 rw [signature?_of (id:="set_iterator.__iter__") (n:=['_','_','r','e','t','i','_','_']) (o:=['r','o','t','a','r','e','t','i','_','t','e','s']) (by kernel_rfl) sw_owner]; kernel_rfl
theorem erase_perm {α:Type} {l:List α} {i:Nat} (h:i < l.length):([l[i]] ++ l.eraseIdx i).Perm l:=by
 rw [List.eraseIdx_eq_take_drop_succ]
 have e:l=l.take i ++ l[i] :: l.drop (i + 1):=by rw [← List.drop_eq_getElem_cons h,List.take_append_drop]
 conv=>rhs; rw [e]
 exact (List.perm_middle (a:=l[i]) (l₁:=l.take i) (l₂:=l.drop (i + 1))).symm
theorem pick_perm {α:Type} (next:Nat→Nat):∀ (fuel k:Nat) (left:List α) (out:Array α),fuel=left.length→(pickOrder.go next fuel k left out).toList.Perm (out.toList ++ left)
 | 0,k,left,out,h=>by
  have:left=[]:=List.length_eq_zero_iff.mp h.symm
  subst this
  unfold pickOrder.go; simp
 | fuel + 1,k,left,out,h=>by
  unfold pickOrder.go
  have hlt:next k % left.length < left.length:=Nat.mod_lt _ (by omega)
  rw [List.getElem?_eq_getElem hlt]
  dsimp only
  refine (pick_perm next fuel _ _ _ (by rw [List.length_eraseIdx_of_lt hlt]; omega)).trans ?_
  rw [Array.toList_push,List.append_assoc]
  exact (erase_perm hlt).append_left _
noncomputable def ordS (w:World) (a:Addr) (ep:Nat) (es:Array (Int×Value)):Array (Int×Value):=if byTx w then pickOrder (w.params.setOrder a ep) es else es
theorem ord_perm (w:World) (a:Addr) (ep:Nat) (es:Array (Int×Value)):(ordS w a ep es).toList.Perm es.toList:=by
 unfold ordS
 split
 ·unfold pickOrder
  simpa using pick_perm (w.params.setOrder a ep) es.size 0 es.toList #[] (by simp)
 ·exact .rfl
noncomputable def slotI (b:Bool) (place:Array Nat):Nat→Nat
 | 0=>0
 | i + 1=>if b then 0 else place.toList.getD i 0 + 1
noncomputable def ItS (h:Heap) (it a:Addr) (sl i n ep:Nat):Prop:=∃ o,h.get? it=some o∧o.cls=.type "set_iterator"∧o.data=.fields #[.int sl 0,.int i 0,.ref a,.int n 0,.int ep 0]
theorem ItS.typeIs {s:Shared} {it a:Addr} {sl i n ep:Nat} (h:ItS s.heap it a sl i n ep):s.TypeIs (.ref it) "set_iterator":=let ⟨o,ho,hc,_⟩:=h; ⟨o,ho,hc⟩
theorem ItS.at {h h':Heap} {it a:Addr} {sl i n ep:Nat} (x:ItS h it a sl i n ep) (k:∀ o,h.get? it=some o→h'.get? it=some o):ItS h' it a sl i n ep:=let ⟨o,ho,r⟩:=x; ⟨o,k o ho,r⟩
noncomputable def SetAt (w:World) (h:Heap) (a:Addr) (es:Array (Int×Value)) (ep:Nat) (t:SetTable):Prop:=∃ o,h.get? a=some o∧o.ExactSet∧o.data=.set es ep t∧TblI t es.size∧t.led = !byTx w
theorem SetAt.at {w:World} {h h':Heap} {a:Addr} {es:Array (Int×Value)} {ep:Nat} {t:SetTable} (x:SetAt w h a es ep t) (k:∀ o,h.get? a=some o→h'.get? a=some o):SetAt w h' a es ep t:=let ⟨o,ho,r⟩:=x; ⟨o,k o ho,r⟩
section
variable {prog:Program} {w:World} {A:Around} {E:Value→Shared→Prop} {s:Shared}
theorem set_next {a:Addr} {es:Array (Int×Value)} {ep i:Nat} {t:SetTable} {Q:Option (Value×Nat)→Shared→Prop} (hS:SetAt w s.heap a es ep t) (hi:i≤es.size)
  (h:Q ((ordS w a ep es)[i]?.map fun e=>(e.2,slotI (byTx w) t.place (i + 1))) s):wpAny (model prog w) A (setNext a (slotI (byTx w) t.place i) i ep) Q E s:=by
 obtain ⟨o,ho,hex,hd,hI,hl⟩:=hS
 unfold setNext
 refine wpAny_bind (wpAny_setState_of ho hd hI.fits ?_)
 dsimp only
 refine wpAny_bind ?_
 unfold setsByText
 refine wpAny_bind (wpAny_askSetting (wpAny_pure ?_))
 show wpAny _ _ (if byTx w=true then _ else _) _ _ _
 unfold ordS at h
 cases hb:byTx w with
 | true =>
  rw [hb] at h
  simp only [if_true,bne_self_eq_false,Bool.false_eq_true,if_false] at h ⊢
  refine wpAny_bind ?_
  unfold setWalk
  refine wpAny_bind (wpAny_setState_of ho hd hI.fits ?_)
  dsimp only
  refine wpAny_bind ?_
  unfold setsByText
  refine wpAny_bind (wpAny_askSetting (wpAny_pure ?_))
  show wpAny _ _ (if byTx w=true then _ else _) _ _ _
  rw [hb]
  simp only [if_true]
  refine wpAny_bind (wpAny_askSetting (wpAny_pure (wpAny_pure ?_)))
  have e:slotI true t.place (i + 1)=slotI true t.place i:=by cases i <;> rfl
  rw [e] at h
  exact h
 | false =>
  rw [hb] at h hl
  simp only [Bool.false_eq_true,if_false] at h ⊢
  show wpAny _ _ (if (!t.plain && decide (es.size > 1))=true then _ else _) _ _ _
  rw [hI.plain]
  simp only [Bool.not_true,Bool.false_and,Bool.false_eq_true,if_false]
  refine wpAny_bind (wpAny_of_eq (a:=()) ?_ ?_)
  ·show (if (!t.led && !es.isEmpty)=true then _ else _)=_
   rw [hl]; rfl
  have hbl:SetTable.below t.place (slotI false t.place i)=i:=by
   cases i with
   | zero=>exact below_zero hI.up
   | succ i=>exact below_next hI.up (by rw [Array.length_toList,hI.size]; omega)
  rw [hbl]
  refine wpAny_pure ?_
  rcases Nat.lt_or_ge i es.size with hlt | hge
  ·have hp:i < t.place.size:=by rw [hI.size]; exact hlt
   rw [Array.getElem?_eq_getElem hlt] at h ⊢
   rw [Array.getElem?_eq_getElem hp]
   have e:slotI false t.place (i + 1)=t.place[i] + 1:=by
    simp [slotI,List.getD_eq_getElem?_getD,List.getElem?_eq_getElem (show i < t.place.toList.length by simpa using hp)]
   rw [e] at h
   exact h
  ·rw [Array.getElem?_eq_none hge] at h ⊢
   exact h
end
end L2
namespace L2
open PySem
section
variable {prog:Program} {w:World} {A:Around} {E:Value→Shared→Prop} {s:Shared}
theorem it_item {it a:Addr} {es:Array (Int×Value)} {ep i:Nat} {t:SetTable} {v:Int×Value} {Q:Option Value→Shared→Prop} (hit:ItS s.heap it a (slotI (byTx w) t.place i) i es.size ep) (hS:SetAt w s.heap a es ep t) (hi:i < es.size)
  (hv:(ordS w a ep es)[i]? = some v) (hQ:∀ h',ItS h' it a (slotI (byTx w) t.place (i + 1)) (i + 1) es.size ep→Heap.SameBut it s.heap h'→Q (some v.2) { s with heap:=h' }) :
  wpAny (model prog w) A (pyNext (.ref it)) Q E s:=by
 obtain ⟨o,ho,hc,hd⟩:=id hit
 obtain ⟨oS,hoS,hexS,hdS,hI,hl⟩:=id hS
 unfold pyNext
 refine wpAny_bind (wpAny_attempt (wpAny_callSpecial?_slot (name:=Str.ofString "__next__") hit.typeIs sw_slot_next (wpAny_call_entry sw_slot_next hit.typeIs sw_entry_next ?_ (sw_args_next _))))
 unfold Builtin.«set_iterator.__next__»
 refine wpAny_bind (wpAny_pure ?_)
 refine wpAny_bind (wpAny_fieldsOf ho hd ?_)
 dsimp only
 refine wpAny_bind (wpAny_setEntries_of hoS hdS hI.fits ?_)
 rw [if_neg (by simp)]
 refine wpAny_bind (set_next (ep:=ep) (i:=i) hS (Nat.le_of_lt hi) ?_)
 rw [hv]
 dsimp only [Option.map]
 refine wpAny_bind (wpAny_setField ho hd (by simp) ?_)
 have g1:=Heap.get?_update_self (Obj.mapFields (·.setIfInBounds 0 (rawInt ((slotI (byTx w) t.place (i + 1):Nat):Int)))) ho (Obj.isFreed_of_fields (Obj.data_mapFields hd _))
 have d1:=Obj.data_mapFields hd (·.setIfInBounds 0 (rawInt ((slotI (byTx w) t.place (i + 1):Nat):Int)))
 refine wpAny_bind (wpAny_setField g1 d1 (by simp) ?_)
 have g2:=Heap.get?_update_self (Obj.mapFields (·.setIfInBounds 1 (rawInt ((i:Int) + 1)))) g1 (Obj.isFreed_of_fields (Obj.data_mapFields d1 _))
 have d2:=Obj.data_mapFields d1 (·.setIfInBounds 1 (rawInt ((i:Int) + 1)))
 refine wpAny_pure ⟨_,rfl,wpAny_pure (hQ _ ⟨_,g2,?_,?_⟩ ((Heap.SameBut.update ..).trans (Heap.SameBut.update ..)))⟩
 ·exact (Obj.cls_mapFields ..).trans ((Obj.cls_mapFields ..).trans hc)
 ·rw [d2]; simp [rawInt]
theorem it_end {it a:Addr} {es:Array (Int×Value)} {ep:Nat} {t:SetTable} {Q:Option Value→Shared→Prop} (hh:A.handled=none) (hit:ItS s.heap it a (slotI (byTx w) t.place es.size) es.size es.size ep) (hS:SetAt w s.heap a es ep t)
  (hQ:∀ h',Heap.ExtBut it s.heap h'→Q none { s with heap:=h' }):wpAny (model prog w) A (pyNext (.ref it)) Q E s:=by
 obtain ⟨o,ho,hc,hd⟩:=id hit
 obtain ⟨oS,hoS,hexS,hdS,hI,hl⟩:=id hS
 unfold pyNext
 refine wpAny_bind (wpAny_attempt (wpAny_callSpecial?_slot (name:=Str.ofString "__next__") hit.typeIs sw_slot_next (wpAny_call_entry sw_slot_next hit.typeIs sw_entry_next ?_ (sw_args_next _))))
 unfold Builtin.«set_iterator.__next__»
 refine wpAny_bind (wpAny_pure ?_)
 refine wpAny_bind (wpAny_fieldsOf ho hd ?_)
 dsimp only
 refine wpAny_bind (wpAny_setEntries_of hoS hdS hI.fits ?_)
 rw [if_neg (by simp)]
 refine wpAny_bind (set_next (ep:=ep) (i:=es.size) hS (Nat.le_refl _) ?_)
 have hv:(ordS w a ep es)[es.size]? = none:=by
  have:=(ord_perm w a ep es).length_eq
  rw [Array.length_toList,Array.length_toList] at this
  exact Array.getElem?_eq_none (by omega)
 rw [hv]
 dsimp only [Option.map]
 refine wpAny_bind (wpAny_setField ho hd (by simp) ?_)
 show wpAny _ _ (newExc (.type "StopIteration") [] >>= _) _ _ _
 refine wpAny_bind ?_
 simp only [newExc,newTuple]
 refine wpAny_bind (wpAny_newObj_type ?_ (by size_fits))
 refine wpAny_bind (m:=firstArgMember _ _) (wpAny_of_eq (a:=Value.none) (by first | rfl | (simp only [firstArgMember]; rfl)) (wpAny_newObj_type ?_ (by size_fits)))
 simp only [raiseNew]
 refine wpAny_bind (wpAny_handled ?_)
 rw [show A.in1.handled=none from hh]
 refine wpAny_bind (wpAny_pure (wpAny_throw ?_))
 refine wpAny_bind (wpAny_isInstance (b:=true) (T:="StopIteration") ⟨_,Heap.get?_push_size _ rfl,rfl⟩ isSubtype_stop ?_)
 exact wpAny_pure (hQ _ (((Heap.SameBut.update ..).extBut.push _).push _))
theorem it_self {it a:Addr} {sl i n ep:Nat} {Q:Value→Shared→Prop} (hit:ItS s.heap it a sl i n ep) (h:Q (.ref it) s):wpAny (model prog w) A (pyIter (.ref it)) Q E s:=by
 refine wpAny_pyIter_slot hit.typeIs sw_slot_iter (wpAny_call_entry sw_slot_iter hit.typeIs sw_entry_iter (show wpAny _ _ (ret (.ref it)) _ _ s from ?_) (sw_args_iter _))
 exact wpAny_pure ⟨_,rfl,"set_iterator",_,hit.typeIs,sw_slot_next.lookup,h⟩
theorem set_walks (hh:A.handled=none) (I a:Addr) (hne:a≠I) (es:Array (Int×Value)) (ep:Nat) (t:SetTable) :
  Walks prog w A I [I,a] [I] es.size (fun i v=>(ordS w a ep es)[i]?.map (·.2)=some v) (fun i h=>ItS h I a (slotI (byTx w) t.place i) i es.size ep∧SetAt w h a es ep t) where
 sub:=fun b hb=>by simp at hb; simp [hb]
 frame:=fun _ _ _ st hk=>⟨st.1.at fun o e=>hk I (by simp) o e,st.2.at fun o e=>hk a (by simp) o e⟩
 item:=fun i s Q E hi st hQ=>by
  have hl:=(ord_perm w a ep es).length_eq
  rw [Array.length_toList,Array.length_toList] at hl
  have hv:(ordS w a ep es)[i]? = some (ordS w a ep es)[i]:=Array.getElem?_eq_getElem (by omega)
  refine it_item st.1 st.2 hi hv fun h' hit' hs'=>hQ _ h' s.toks (by rw [hv]; rfl) ⟨hit',st.2.at fun o e=>?_⟩ fun b o hb e=>hs'.extBut b o (fun h=>hb (by simp [h])) e
  exact hs'.extBut a o hne e
 done:=fun s Q E st hQ=>it_end hh st.1 st.2 fun h' he'=>hQ h' s.toks fun b o hb e=>he' b o (fun h=>hb (by simp [h])) e
 self:=fun _ _ _ _ st hQ=>it_self st.1 hQ
theorem SetAt.typeIs {a:Addr} {es:Array (Int×Value)} {ep:Nat} {t:SetTable} (h:SetAt w s.heap a es ep t):s.TypeIs (.ref a) "set":=let ⟨o,ho,hx,_⟩:=h; ⟨o,ho,hx.1⟩
theorem set_iter {a:Addr} {es:Array (Int×Value)} {ep:Nat} {t:SetTable} {Q:Value→Shared→Prop} (hS:SetAt w s.heap a es ep t)
  (hQ:Q (.ref s.heap.objs.size) { s with heap:=s.heap.push { cls:=.type "set_iterator",data:=.fields #[.int 0 0,.int 0 0,.ref a,.int es.size 0,.int ep 0] } }):wpAny (model prog w) A (pyIter (.ref a)) Q E s:=by
 obtain ⟨oS,hoS,hexS,hdS,hI,hl⟩:=id hS
 refine wpAny_pyIter_slot hS.typeIs PySem.F.slot_set_iter (wpAny_call_entry PySem.F.slot_set_iter hS.typeIs sw_entry_set_iter ?_ (PySem.F.args_set_iter_1 _))
 unfold Builtin.«frozenset.__iter__» Builtin.Frozenset.slot0
 refine wpAny_bind (wpAny_bind (wpAny_pure (wpAny_pure ?_)))
 unfold Builtin.Frozenset.sizeOf
 refine wpAny_bind (wpAny_bind (wpAny_setEntries_of hoS hdS hI.fits (wpAny_pure ?_)))
 refine wpAny_bind ?_
 unfold setDrawn
 refine wpAny_bind (wpAny_setState_of hoS hdS hI.fits ?_)
 dsimp only
 refine wpAny_bind ?_
 unfold setsByText
 refine wpAny_bind (wpAny_askSetting (wpAny_pure (wpAny_pure ?_)))
 have e:(!byTx w && (!t.plain && decide (es.size > 1)))=false:=by rw [hI.plain]; simp
 show wpAny _ _ (if (!byTx w && (!t.plain && decide (es.size > 1)))=true then _ else _) _ _ _
 rw [e]
 simp only [Bool.false_eq_true,if_false]
 refine wpAny_bind (wpAny_pure ?_)
 refine wpAny_bind (wpAny_setEpoch_of hoS hdS hI.fits ?_)
 refine wpAny_bind ?_
 refine wpAny_newObj_type (wpAny_pure ⟨_,rfl,"set_iterator",_,⟨_,Heap.get?_push_size _ rfl,rfl⟩,sw_slot_next.lookup,?_⟩)
 exact hQ
end
end L2
namespace L2
open PySem PySem.Spec PyProof.Rows PySem.W
noncomputable def insS (x:Nat):List Nat→List Nat
 | []=>[x]
 | y :: l=>if x < y then x :: y :: l else if x=y then y :: l else y :: insS x l
noncomputable def ssort:List Nat→List Nat
 | []=>[]
 | x :: l=>insS x (ssort l)
theorem mem_insS {x y:Nat}:∀ {l:List Nat},y∈insS x l↔y=x∨y∈l
 | []=>by simp [insS]
 | z :: l=>by
  unfold insS
  split
  ·simp
  ·split
   ·rename_i h; subst h; simp
   ·simp only [List.mem_cons,mem_insS (l:=l)]
    constructor
    ·rintro (h | h | h) <;> simp [h]
    ·rintro (h | h | h) <;> simp [h]
theorem up_insS {x:Nat}:∀ {l:List Nat},Up l→Up (insS x l)
 | [],_=>by simp [insS]
 | z :: l,h=>by
  obtain ⟨h1,h2⟩:=List.pairwise_cons.mp h
  unfold insS
  split
  ·rename_i hx
   exact List.pairwise_cons.mpr ⟨fun b hb=>by
    rcases List.mem_cons.mp hb with rfl | hb
    ·exact hx
    ·exact Nat.lt_trans hx (h1 b hb),h⟩
  ·split
   ·exact h
   ·refine List.pairwise_cons.mpr ⟨fun b hb=>?_,up_insS h2⟩
    rcases mem_insS.mp hb with rfl | hb
    ·omega
    ·exact h1 b hb
theorem up_ssort:∀ l:List Nat,Up (ssort l)
 | []=>.nil
 | x :: l=>up_insS (up_ssort l)
theorem mem_ssort {y:Nat}:∀ {l:List Nat},y∈ssort l↔y∈l
 | []=>by simp [ssort]
 | x :: l=>by simp [ssort,mem_insS,mem_ssort (l:=l)]
theorem up_eq:∀ {l m:List Nat},Up l→Up m→(∀ x,x∈l↔x∈m)→l=m
 | [],[],_,_,_=>rfl
 | [],y :: m,_,_,h=>absurd ((h y).mpr (.head _)) (by simp)
 | x :: l,[],_,_,h=>absurd ((h x).mp (.head _)) (by simp)
 | x :: l,y :: m,h1,h2,h=>by
  obtain ⟨a1,a2⟩:=List.pairwise_cons.mp h1
  obtain ⟨b1,b2⟩:=List.pairwise_cons.mp h2
  have e:x=y:=by
   rcases List.mem_cons.mp ((h x).mp (.head _)) with e | hx
   ·exact e
   ·rcases List.mem_cons.mp ((h y).mpr (.head _)) with e | hy
    ·exact e.symm
    ·have:=a1 y hy; have:=b1 x hx; omega
  subst e
  rw [up_eq a2 b2 fun z=>?_]
  constructor
  ·intro hz
   rcases List.mem_cons.mp ((h z).mp (.tail _ hz)) with e | q
   ·subst e; exact absurd (a1 z hz) (Nat.lt_irrefl _)
   ·exact q
  ·intro hz
   rcases List.mem_cons.mp ((h z).mpr (.tail _ hz)) with e | q
   ·subst e; exact absurd (b1 z hz) (Nat.lt_irrefl _)
   ·exact q
theorem mem_stepS {ns:List Nat} {x y:Nat}:y∈stepS ns x↔y∈ns∨y=x:=by
 unfold stepS
 split
 ·rename_i h
  exact ⟨.inl,fun q=>q.elim id fun e=>e ▸ h⟩
 ·simp
theorem nd_stepS {ns:List Nat} {x:Nat} (h:ns.Nodup):(stepS ns x).Nodup:=by
 unfold stepS
 split
 ·exact h
 ·rename_i hx
  refine List.nodup_append.mpr ⟨h,by simp,fun a ha b hb=>?_⟩
  rw [List.mem_singleton] at hb
  subst hb
  exact fun e=>hx (e ▸ ha)
theorem mem_fold:∀ {xs ns:List Nat} {y:Nat},y∈xs.foldl stepS ns↔y∈ns∨y∈xs
 | [],ns,y=>by simp
 | x :: xs,ns,y=>by
  rw [List.foldl_cons,mem_fold,mem_stepS,List.mem_cons,or_assoc]
theorem nd_fold:∀ {xs ns:List Nat},ns.Nodup→(xs.foldl stepS ns).Nodup
 | [],_,h=>h
 | x :: xs,_,h=>nd_fold (xs:=xs) (nd_stepS h)
theorem sort_eq {xs:List Nat} {zs:List Int} (h1:zs.Perm ((foldS xs).map fun n:Nat=>(n:Int))) (h2:zs.Pairwise (·≤·)):zs=(ssort xs).map fun n:Nat=>(n:Int):=by
 have hz:∀ z∈zs,∃ n:Nat,z=n:=fun z hz=>by
  obtain ⟨n,_,e⟩:=List.mem_map.mp (h1.mem_iff.mp hz)
  exact ⟨n,e.symm⟩
 have e:zs=(zs.map Int.toNat).map fun n:Nat=>(n:Int):=by
  rw [List.map_map]
  conv=>lhs; rw [← List.map_id zs]
  refine List.map_congr_left fun z hq=>?_
  obtain ⟨n,rfl⟩:=hz z hq
  simp
 have hp:(zs.map Int.toNat).Perm (foldS xs):=by
  have:=h1.map Int.toNat
  rw [List.map_map] at this
  refine this.trans (List.Perm.of_eq ?_)
  conv=>rhs; rw [← List.map_id (foldS xs)]
  exact List.map_congr_left fun n _=>by simp
 have hnd:(zs.map Int.toNat).Nodup:=hp.nodup_iff.mpr (nd_fold .nil)
 have hup:Up (zs.map Int.toNat):=by
  have hle:(zs.map Int.toNat).Pairwise (·≤·):=by
   rw [List.pairwise_map]
   exact h2.imp fun {a b} h=>by omega
  refine (hle.and hnd).imp fun {a b} h=>?_
  have h2:a≠b:=h.2
  omega
 rw [e,up_eq hup (up_ssort xs) fun x=>by
  rw [hp.mem_iff,mem_ssort]
  unfold foldS
  rw [mem_fold]
  simp]
theorem nd_up:∀ {l:List Nat},Up l→l.Nodup:=fun {l} h=>h.imp fun {a b} h=>Nat.ne_of_lt h
theorem ssort_fold (xs:List Nat):(ssort xs).length=(foldS xs).length:=by
 have hp:(ssort xs).Perm (foldS xs):=by
  refine (List.perm_ext_iff_of_nodup (nd_up (up_ssort xs)) (nd_fold .nil)).mpr fun x=>?_
  rw [mem_ssort,mem_fold]
  simp
 exact hp.length_eq
theorem up_ge {l:List Nat} (h:Up l):∀ i,i < l.length→i≤l.getD i 0
 | 0,_=>Nat.zero_le _
 | i + 1,hi=>by
  have a:=up_ge h i (by omega)
  have b:=up_lt h (show i < i + 1 by omega) hi
  omega
theorem up_len {l:List Nat} (h:Up l) {m:Nat} (hm:∀ x∈l,x < m):l.length≤m:=by
 rcases Nat.eq_zero_or_pos l.length with e | e
 ·omega
 ·have a:=up_ge h (l.length - 1) (by omega)
  have hi:l.length - 1 < l.length:=by omega
  have b:l.getD (l.length - 1) 0 < m:=hm _ (by rw [List.getD_eq_getElem?_getD,List.getElem?_eq_getElem hi]; exact List.getElem_mem hi)
  omega
theorem ints_pairs:∀ {l:List (Int×Value)},(∀ e∈l,∃ (n:Nat) (tk:Tok),e=((n:Int),.int n tk)∧n < 128)→IntsAre (l.map (·.2)) (l.map (·.1))
 | [],_=>.nil
 | e :: l,h=>by
  obtain ⟨n,tk,rfl,_⟩:=h e (.head _)
  exact .cons _ _ (ints_pairs fun e he=>h e (.tail _ he))
section
variable {prog:Program} {w:World} {A:Around} {E:Value→Shared→Prop} {s:Shared}
theorem hint_set {r:Addr} {Q:Bool→Shared→Prop} (hT:s.TypeIs (.ref r) "set") (h:Q false s):wpAny (model prog w) A (Builtin.List.listLengthHint (.ref r)) Q E s:=by
 unfold Builtin.List.listLengthHint
 refine wpAny_bind (wpAny_specialOf hT PySem.F.slot_set_len.lookup ?_)
 generalize hid:("set.__len__":String)=id0
 wp_delta
 rw [show splitId id0=some ("set","__len__") from by subst hid; decide +kernel]
 subst hid
 refine wpAny_bind (wpAny_isInstance (T:="set") (b:=true) hT sub_set_self ?_)
 refine wpAny_ite_split (fun q=>absurd q (by decide)) fun _=>wpAny_ite_split (fun _=>?_) fun q=>absurd (by decide +kernel) q
 exact wpAny_bind (wpAny_typeOf hT (wpAny_pure h))
theorem SetAt.lt {h:Heap} {a:Addr} {es:Array (Int×Value)} {ep:Nat} {t:SetTable} (x:SetAt w h a es ep t):a < h.objs.size:=let ⟨_,ho,_⟩:=x; Heap.lt_size ho
theorem src_set {a:Addr} {es:Array (Int×Value)} {ep:Nat} {t:SetTable}:KdlSrc prog w "set" a a es.size (fun i v=>(ordS w a ep es)[i]?.map (·.2)=some v) (fun h=>SetAt w h a es ep t) where
 type:=fun _ h=>h.typeIs
 there:=fun _ h=>⟨h.lt,h.lt⟩
 keep:=fun _ _ h k=>h.at fun o e=>k a (.inl rfl) o e
 notList:=by decide
 notTuple:=by decide
 hint:=fun _ _ _ _ h q=>hint_set h.typeIs q
 iter:=fun _ s hh h=>⟨_,_,(fun _ _ q=>set_iter h q),set_walks hh _ a (Nat.ne_of_lt h.lt) es ep t,⟨⟨_,Heap.get?_push_size _ rfl,rfl,rfl⟩,h.at fun o e=>Heap.get?_push_of_some _ e⟩⟩
theorem sorted_set {a:Addr} {xs:List Nat} {Q:Value→Shared→Prop} (hh:A.handled=none) (hS:SetI w s.heap a (foldS xs)) (hn:(foldS xs).length < 64)
  (h:∀ (h1 h':Heap) (tk c:Nat) (out:Array Value),(∀ b o,s.heap.get? b=some o→h1.get? b=some o)→(∀ b o,h1.get? b=some o→h'.get? b=some o)→h'.get? h1.objs.size=some (seqObj "list" out c) →
   IntsAre out.toList ((ssort xs).map fun n:Nat=>(n:Int))→Q (.ref h1.objs.size) { s with heap:=h',toks:=tk }) :
  wpAny (model prog w) A (call (.builtin "sorted") [.ref a]) Q E s:=by
 obtain ⟨o,es,ep,t,ho,hex,hd,hI,hl,hs⟩:=hS
 have hlen:es.size < 64:=by
  have h1:=hs.len
  rw [Array.length_toList] at h1
  omega
 have hok:SetAt w s.heap a es ep t:=⟨o,ho,hex,hd,hI,hl⟩
 refine Calls.call_function_entry kind_sorted plain_sorted entry_sorted (args_sorted1 _) ?_
 unfold Builtin.«sorted»
 refine wpAny_bind (m:=checkCount "sorted" 1 1 _) (wpAny_pure ?_)
 refine wpAny_bind (kdu_collect (A:=A.in1) (src_set (prog:=prog)) hh hok (by rw [sizeLine_eq]; omega) fun h1 tk acc hk hacc=>?_)
 have eacc:acc.toList=(ordS w a ep es).toList.map (·.2):=by
  have hlo:=(ord_perm w a ep es).length_eq
  rw [Array.length_toList,Array.length_toList] at hlo
  apply List.ext_getElem?
  intro i
  rcases Nat.lt_or_ge i acc.size with q | q
  ·have h3:=hacc.2 i acc[i] (Array.getElem?_eq_getElem q)
   rw [List.getElem?_map,Array.getElem?_toList,Array.getElem?_toList,h3,Array.getElem?_eq_getElem q]
  ·have h4:=hacc.1
   rw [List.getElem?_eq_none (by simpa using q),List.getElem?_eq_none (by simp; omega)]
 have hp:=ord_perm w a ep es
 have hI2:IntsAre acc.toList ((ordS w a ep es).toList.map (·.1)):=by
  rw [eacc]
  exact ints_pairs fun e he=>hs.2 e (hp.mem_iff.mp he)
 have hal:acc.toList.length < 64:=by rw [Array.length_toList,hacc.1]; exact hlen
 refine wpAny_bind (wpAny_newList ?_ (by rw [sizeLine_eq]; omega))
 have hoL:(h1.push (seqObj "list" acc.toList.toArray 0)).get? h1.objs.size=some (seqObj "list" acc.toList.toArray 0):=Heap.get?_push_size _ rfl
 refine wpAny_bind (wpAny_holding (wpAny_call_entry slot_list_sort ⟨_,hoL,rfl⟩ entry_list_sort (list_sort_tree (s:={ s with heap:=h1.push (seqObj "list" acc.toList.toArray 0),toks:=tk }) hoL hI2 hal fun out zs a1 a2 a3=>⟨_,rfl,?_⟩) (args_list_sort _)))
 refine wpAny_pure ⟨_,rfl,?_⟩
 have hz:=sort_eq (a2.trans ((hp.map _).trans hs.1)) a3
 rw [hz] at a1
 have hne:∀ b o,h1.get? b=some o→b≠h1.objs.size:=fun b o e=>Nat.ne_of_lt (Heap.lt_size e)
 have g1:=get?_update_seq hoL (fun _=>#[])
 have g2:=get?_update_seq (Heap.get?_push_of_some (seqObj "list" #[] 0) (Heap.get?_push_of_some (seqObj "tuple" acc.toList.toArray 0) g1)) fun _=>out
 refine h h1 _ tk _ out hk (fun b o e=>?_) g2 a1
 have q:=Ne.symm (hne b o e)
 exact (Heap.get?_update_other _ _ q).trans (Heap.get?_push_of_some _ (Heap.get?_push_of_some _ ((Heap.get?_update_other _ _ q).trans (Heap.get?_push_of_some _ e))))
end
end L2
namespace L2
open PySem PySem.Spec PyProof.Rows
noncomputable abbrev nV (ns:List Nat):List V:=ns.map fun n:Nat=>V.int n
noncomputable abbrev nD (ns:List Nat):List D:=ns.map fun n:Nat=>D.int n
noncomputable def setQ (w:World) (a:Addr) (ns:List Nat):Heap→Prop:=fun h=>SetI w h a (foldS ns)
theorem vals_IA:∀ {ns:List Nat} {us:List Value},Vals (nV ns) us→IntsAre us (ns.map fun n:Nat=>(n:Int))
 | [],_,.nil=>.nil
 | n :: ns,_,.cons ⟨t,e⟩ r=>by subst e; exact .cons _ _ (vals_IA r)
theorem IA_vals:∀ {ns:List Nat} {us:List Value},IntsAre us (ns.map fun n:Nat=>(n:Int))→Vals (nV ns) us
 | [],_,.nil=>.nil
 | n :: ns,_,.cons _ t r=>.cons ⟨t,rfl⟩ (IA_vals r)
section
variable {X:Cx}
noncomputable def rSetS (X:Cx):List V→Hp→VK→Prop:=fun xs H Q=>∃ a ns,xs=[.ref a]∧SqL X.K H a (nV ns)∧(ssort ns).length < 64∧(∀ x∈ns,x < 128)∧∀ p,H p=none→Q (.ref p) (upd H p (.ext (setQ X.w p ns)))
theorem cr_setS (hc:X.calm=true:=by rfl):CallR X (.type "set") (rSetS X):=by
 intro pins s σ H xs us Q I rv h
 obtain ⟨a,ns,rfl,sq,hb,hx,q⟩:=h
 obtain ⟨u,rfl,ru⟩:=vals1 rv
 cases ru
 obtain ⟨its,ri,pl,hz⟩:=I.list sq
 refine set_of (xs:=ns) (I.ok.hd hc) pl.isList (by simpa using vals_IA ri) hx (by rw [← ssort_fold]; exact hb) fun h' tk hS kp=>?_
 have hf:H s.heap.objs.size=none:=I.hok.fresh (Nat.le_refl _)
 have hS2:=hS
 obtain ⟨o,es,ep,t,ho,_⟩:=hS2
 refine ⟨.ref s.heap.objs.size,upd H s.heap.objs.size (.ext (setQ X.w s.heap.objs.size ns)),I.laid (t':=tk) (fun b u e=>kp b u (Heap.lt_size e) e) (Nat.le_refl _) ?_,rfl,q _ hf⟩
 exact ⟨hS,⟨o,ho⟩,fun h1 h2 x k=>x.at k⟩
noncomputable def rSortS (X:Cx):List V→Hp→VK→Prop:=fun xs H Q=>∃ a ns,xs=[.ref a]∧H a=some (.ext (setQ X.w a ns))∧(ssort ns).length < 64∧∀ p,H p=none→Q (.ref p) (upd H p (.lst (nV (ssort ns))))
theorem cr_sortS (hc:X.calm=true:=by rfl):CallR X (.builtin "sorted") (rSortS X):=by
 intro pins s σ H xs us Q I rv h
 obtain ⟨a,ns,rfl,hH,hn,q⟩:=h
 obtain ⟨u,rfl,ru⟩:=vals1 rv
 cases ru
 obtain ⟨hS,_,_⟩:=I.hok a _ hH
 refine sorted_set (I.ok.hd hc) hS (by rw [← ssort_fold]; exact hn) fun h1 h' tk c out k1 k2 hp hI=>?_
 have I1:Inv X pins σ H { s with heap:=h1,toks:=tk }:=I.kept k1
 have hf:H h1.objs.size=none:=I1.hok.fresh (Nat.le_refl _)
 refine ⟨.ref h1.objs.size,upd H h1.objs.size (.lst (nV (ssort ns))),I1.laid (t':=tk) k2 (Nat.le_refl _) ⟨?_,out.toList,c,IA_vals hI,by simpa using hp⟩,rfl,q _ hf⟩
 simp only [List.length_map]
 rw [sizeLine_eq]; omega
noncomputable def natsD (l:List D):Option (List Nat):=match intsD l with
 | some ns=>if ns.all (fun n=>decide (0≤n∧n < 128))=true∧(ssort (ns.map Int.toNat)).length < 64 then some (ns.map Int.toNat) else none
 | none=>none
theorem natsD_ok {l:List D} {ns:List Nat} (h:natsD l=some ns):l=nD ns∧(ssort ns).length < 64∧∀ x∈ns,x < 128:=by
 unfold natsD at h
 split at h
 ·rename_i zs hz
  split at h
  ·rename_i hc
   cases h
   refine ⟨?_,hc.2,fun x hx=>?_⟩
   ·rw [intsD_eq hz]
    unfold nD
    rw [List.map_map]
    refine List.map_congr_left fun z hq=>?_
    have:=of_decide_eq_true (List.all_eq_true.mp hc.1 z hq)
    show D.int z=D.int (z.toNat:Int)
    congr 1; omega
   ·obtain ⟨z,hq,rfl⟩:=List.mem_map.mp hx
    have:=of_decide_eq_true (List.all_eq_true.mp hc.1 z hq)
    omega
  ·cases h
 ·cases h
theorem natsD_nD {ns:List Nat} (h:(ssort ns).length < 64) (hx:∀ x∈ns,x < 128):natsD (nD ns)=some ns:=by
 unfold natsD
 have e:nD ns=(ns.map fun n:Nat=>(n:Int)).map D.int:=by simp [nD]
 rw [e,intsD_map]
 dsimp only
 have e:(ns.map fun n:Nat=>(n:Int)).map Int.toNat=ns:=by
  rw [List.map_map]
  have:(Int.toNat ∘ fun n:Nat=>(n:Int))=id:=by funext n; simp
  rw [this,List.map_id]
 rw [e,if_pos ⟨List.all_eq_true.mpr fun z hz=>by
  obtain ⟨n,hn,rfl⟩:=List.mem_map.mp hz
  have:=hx n hn
  exact decide_eq_true (by omega),h⟩]
theorem rels_nD {K:PySem.W.Frag} {ρ:List Addr} {H:Hp} {ns:List Nat} {xs:List V} (h:Rels K ρ H (nD ns) xs):xs=nV ns:=by
 have e:nD ns=(ns.map fun n:Nat=>(n:Int)).map D.int:=by simp [nD]
 rw [e] at h
 rw [Rels.ints_inv h]
 simp [nV]
theorem rels_new {K:PySem.W.Frag} {ρ:List Addr} {H:Hp} (ns:List Nat):Rels K ρ H (nD ns) (nV ns):=by
 have e:nD ns=(ns.map fun n:Nat=>(n:Int)).map D.int:=by simp [nD]
 have e':nV ns=(ns.map fun n:Nat=>(n:Int)).map V.int:=by simp [nV]
 rw [e,e']
 exact Rels.ints
theorem noRefs_nD (ns:List Nat):noRefs (nD ns)=true:=by
 have e:nD ns=(ns.map fun n:Nat=>(n:Int)).map D.int:=by simp [nD]
 rw [e]; exact noRefs_ints
noncomputable def dSortSet (a:Ev→List Cell→R (List D)):Ev→List Cell→R D:=fun e c=>(a e c).bind fun xs c=>match xs with
 | [x]=>match lstD c x with
  | some l=>match natsD l with
   | some ns=>.ok (.lst (nD (ssort ns))) c
   | none=>.bad
  | none=>.bad
 | _=>.bad
noncomputable def dSortSetM (a:Ev→List Cell→R (List D)):Ev→List Cell→R D:=fun e c=>(a e c).bind fun xs c=>match xs with
 | [x]=>match lstD c x with
  | some l=>match natsD l with
   | some ns=>.ok (.ref c.length) (c ++ [.lst (nD (ssort ns))])
   | none=>.bad
  | none=>.bad
 | _=>.bad
theorem pe_sortset {e:Expr} {da:Ev→List Cell→R (List D)} {p1 p2 q1 q2:Pos} {f:List D→List Cell→R D} (ha:PAd X [e] da) (hm:X.mg "sorted"=none) (hm2:X.mg "set"=none) (hg:Gl X "sorted") (hg2:Gl X "set") (hc:X.calm=true)
  (he:starEach [e] X.env=(false,eval e X.env) :: starEach [] X.env)
  (hf:∀ xs c ρ H (Q:VK) vs,Wd X.K ρ H c→Rels X.K ρ H xs vs→post X.K (Rel X.K) (f xs c) ρ H Q→∃ a ns,vs=[.ref a]∧SqL X.K H a (nV ns)∧(ssort ns).length < 64∧(∀ x∈ns,x < 128) ∧
   ∀ p,H p=none→∀ q,upd H p (.ext (setQ X.w p ns)) q=none→Q (.ref q) (upd (upd H p (.ext (setQ X.w p ns))) q (.lst (nV (ssort ns))))) :
  PEd X (.Call (.Name "sorted" p1) [.Call (.Name "set" p2) [e] [] q2] [] q1) (dCB f da):=by
 have hset:PE X (.Call (.Name "set" p2) [e] [] q2) _:=pe_callTy (cr_setS hc) hg2 hm2 (by decide +kernel) ha (by decide) (by decide) he (by exact starAny rfl)
 refine (pe_callB (cr_sortS hc) hg hm (by decide +kernel) (pa_cons hset pa_nil (starE rfl)) (by decide) (by decide) (by exact starE rfl) (by exact starAny rfl)).imp fun σ H Q h=>?_
 obtain ⟨ρ,e,c,W,V,p⟩:=h
 refine ⟨ρ,e,c,W,V,post.bind p fun xs c1 ρ1 H1 vs ex W1 X1 r1 p1=>?_⟩
 obtain ⟨a,ns,rfl,sq,h64,hx,q⟩:=hf xs c1 ρ1 H1 Q vs W1 r1 p1
 exact ⟨a,ns,rfl,sq,h64,hx,fun p hp=>⟨p,ns,rfl,upd_same,h64,fun q' hq=>q p hp q' hq⟩⟩
noncomputable def sortF:List D→List Cell→R D:=fun xs c=>match xs with
 | [x]=>match lstD c x with
  | some l=>match natsD l with
   | some ns=>.ok (.lst (nD (ssort ns))) c
   | none=>.bad
  | none=>.bad
 | _=>.bad
noncomputable def sortFM:List D→List Cell→R D:=fun xs c=>match xs with
 | [x]=>match lstD c x with
  | some l=>match natsD l with
   | some ns=>.ok (.ref c.length) (c ++ [.lst (nD (ssort ns))])
   | none=>.bad
  | none=>.bad
 | _=>.bad
theorem pd_sortset {e:Expr} {da:Ev→List Cell→R (List D)} {p1 p2 q1 q2:Pos} (ha:PAd X [e] da) (hm:X.mg "sorted"=none) (hm2:X.mg "set"=none) (hg:Gl X "sorted":=by rfl) (hg2:Gl X "set":=by rfl) (hc:X.calm=true:=by rfl)
  (he:starEach [e] X.env=(false,eval e X.env) :: starEach [] X.env:=by exact starE rfl):PEd X (.Call (.Name "sorted" p1) [.Call (.Name "set" p2) [e] [] q2] [] q1) (dSortSet da) :=
 pe_sortset (f:=sortF) ha hm hm2 hg hg2 hc he fun xs c ρ H Q vs W r p=>by
  unfold sortF at p
  split at p
  ·rename_i x
   obtain ⟨v,rr,rfl,hx,hr⟩:=r
   cases hr
   split at p
   ·rename_i l hl
    split at p
    ·rename_i ns hn
     obtain ⟨rfl,h64,hx'⟩:=natsD_ok hn
     obtain ⟨a,ys,rfl,ha',rl⟩:=lstD_ok W hx hl
     cases rels_nD rl
     refine ⟨a,ns,rfl,SqL.of ha',h64,hx',fun q hq q' hq'=>?_⟩
     exact new_lst (W.fresh hq) (rels_new _) (post.ext p (Ext.fresh W hq)) q' hq'
    ·exact p.elim
   ·exact p.elim
  ·exact p.elim
end
section
variable (a:Ev→List Cell→R (List D)) (e:Ev) (c:List Cell)
@[simp] theorem x_sortset:dSortSet a e c=(a e c).bind fun xs c=>match xs with
 | [x]=>match lstD c x with
  | some l=>match natsD l with
   | some ns=>.ok (.lst (nD (ssort ns))) c
   | none=>.bad
  | none=>.bad
 | _=>.bad:=rfl
@[simp] theorem x_sortsetM:dSortSetM a e c=(a e c).bind fun xs c=>match xs with
 | [x]=>match lstD c x with
  | some l=>match natsD l with
   | some ns=>.ok (.ref c.length) (c ++ [.lst (nD (ssort ns))])
   | none=>.bad
  | none=>.bad
 | _=>.bad:=rfl
end
end L2
namespace L2
open PySem PySem.Spec PyProof.Rows
noncomputable def lamD (d:Ev→List Cell→R D):List D→List Cell→R D:=fun xs c=>d (xs.map some) c
section
variable {P:Program} {w:World} {K:PySem.W.Frag} {mg:Str→Option Value} {base:Heap}
end
noncomputable def OnlyT (H:Hp) (ts:List Addr):Prop:=∀ b,H b=none∨(∃ o xs,H b=some (.frz o (.lst xs)))∨(b∈ts∧H b=some (.tbl #[]))
theorem law_callT {P:Program} {w:World} {K:PySem.W.Frag} {mg mb:Str→Option Value} {k:Nat} {fa a:Addr} {fd:FuncData} {x:Str} {sp:Sp} {s₁:Shared} {vs:List Value} {ns:List Int} {ts:List (Addr×Addr)}
  (KX:K.In s₁.heap) (hns:s₁.heap.Ns mainGlobals mg) (hb:s₁.heap.Ns builtinsNs mb) (hbb:∀ x:Str,x≠"__name__"→mb x=bootBuiltins x) (hlim:s₁.heap.NoLimit)
  (hbm:∃ bm ob,mg "__builtins__"=some (.ref bm)∧bm≠builtinsNs∧s₁.heap.get? bm=some ob∧ob.cls=.type "module"∧ob.dict=some builtinsNs∧ob.data=.plain) (hg:s₁.gens=#[])
  (ha:s₁.heap.get? a=some { cls:=.type "list",data:=.seq vs.toArray }) (hi:IntsAre vs ns) (hl:ns.length≤sizeLine) (hr:Room k callerA)
  (hTs:∀ q∈ts,PySem.W.codeHdIn K q.1 q.2=true∧s₁.heap.get? q.2=some (PySem.W.tabObj #[])) (hKt:PySem.W.noTabs K=true)
  (F:∀ base:Heap,K.In base→base.Ns mainGlobals mg→FnOk P w K mg base CX0 k fa fd [x] sp) (hbind:∀ (s:Shared) (u:Value),BindsTo s fd ⟨[u],[]⟩ [(x,u)])
  (hsp:∀ H:Hp,(∀ q∈ts,H q.2=some (.tbl #[]))→SqL K H a (ns.map V.int)→sp [.ref a] H (fun v _=>v=.bl true) fun _ _ _=>False) :
  codeAny (model P w) callerA (.call (.ref fa) ⟨[.ref a],[]⟩) (fun r s'=>r=.ok (.ret (.bool true))∧OldK s₁.heap s'.heap∧s'.os=s₁.os∧AllBare s'.gens) s₁:=by
 have rv:=vals_ints hi
 have lenV:=hi.length
 have hta:∀ b,b∈ts.map (·.2)→s₁.heap.get? b=some (PySem.W.tabObj #[]):=fun b h=>by
  obtain ⟨q,hq,rfl⟩:=List.mem_map.mp h
  exact (hTs q hq).2
 have nat:a∉ts.map (·.2):=fun h=>by have:=hta a h; rw [ha] at this; cases this
 have core:∀ H:Hp,OnlyT H (ts.map (·.2))→(∀ q∈ts,H q.2=some (.tbl #[]))→SqL K H a (ns.map V.int)→HOk P w H s₁.heap→(∀ b,H b≠none→b=a∨b∈ts.map (·.2))→(H a≠none→K.lookup a=none) →
   codeAny (model P w) callerA (.call (.ref fa) ⟨[.ref a],[]⟩) (fun r s'=>r=.ok (.ret (.bool true))∧OldK s₁.heap s'.heap∧s'.os=s₁.os∧AllBare s'.gens) s₁:=by
  intro H hO hT hS hok hA hK
  have base_of:∀ {b:Addr} {o:Obj},s₁.heap.get? b=some o→H b=none→(hidT s₁.heap H).get? b=some o:=fun e n=>hidT_get e n
  have noB:∀ {b:Addr} {o:Obj},s₁.heap.get? b=some o→o.cls≠.type "list"→o.cls≠.none→H b=none:=fun {b o} e d1 d2=>by
   cases q:H b with
   | none=>rfl
   | some u =>
    rcases hA b (by rw [q]; simp) with e' | e'
    ·subst e'
     rw [ha] at e; cases e
     exact absurd rfl d1
    ·rw [hta b e'] at e; cases e
     exact absurd rfl d2
  have noA:∀ {b:Addr} {o:Obj} {es:Array DictEntry} {ep:Nat},s₁.heap.get? b=some o→o.data=.dict es ep→H b=none:=fun {b o es ep} e d=>by
   cases q:H b with
   | none=>rfl
   | some u =>
    rcases hA b (by rw [q]; simp) with e' | e'
    ·subst e'
     rw [ha] at e; cases e
     have d':Data.seq vs.toArray _=Data.dict es ep:=d
     cases d'
    ·rw [hta b e'] at e; cases e
     have d':Data.fields #[]=Data.dict es ep:=d
     cases d'
  have nsK:∀ {b:Addr} {m:Str→Option Value},s₁.heap.Ns b m→(hidT s₁.heap H).Ns b m:=fun {b m} ⟨o,es,ep,e,d,r⟩=>⟨o,es,ep,base_of e (noA e d),d,r⟩
  have hKb:K.In (hidT s₁.heap H):=fun b o e=>base_of (KX b o e) (by
   cases q:H b with
   | none=>rfl
   | some u =>
    rcases hA b (by rw [q]; simp) with e' | e'
    ·subst e'
     rw [hK (by rw [q]; simp)] at e; cases e
    ·have h1:=KX b o e
     rw [hta b e'] at h1; cases h1
     have h2:=List.all_eq_true.mp hKt (b,_) (PySem.W.mem_of_lookupK e)
     exact absurd (show false=true from h2) Bool.false_ne_true)
  have hM:Mod K mg (hidT s₁.heap H):=⟨hKb,nsK hns,⟨mb,nsK hb,hbb⟩,let ⟨mc,h1,h2⟩:=hlim; ⟨mc,nsK h1,h2⟩,let ⟨bm,ob,b1,b2,b3,b4,b5⟩:=hbm; ⟨bm,ob,b1,b2,base_of b3 (noB b3 (by rw [b4]; simp) (by rw [b4]; simp)),b4,b5⟩⟩
  have e0:Env0 P w K mg (hidT s₁.heap H) callerA [] s₁ H:=⟨rfl,hM,fun b o e=>of_hidT e,Nat.le_of_eq (hidT_size _ _),trivial,fun b hb=>absurd (show b∈([]:List Addr) from hb) (by simp),hok,.of_eq hg⟩
  refine codeAny_mono ((F _ hKb (nsK hns)).run callerA [] s₁ H ⟨[.ref a],[]⟩ [.ref a] [.ref a] _ _ hr e0 (hbind s₁ (.ref a)) (.cons rfl .nil) (hsp H hT hS)) fun r s' h=>?_
  cases r with
  | error e=>exact False.elim h
  | ok fl =>
   cases fl with
   | next=>exact False.elim h
   | brk=>exact False.elim h
   | cont=>exact False.elim h
   | ret u =>
    obtain ⟨v,H',os,bare,un,hok',r',q⟩:=h
    have q':v=.bl true:=q
    subst q'
    obtain rfl:u=Value.bool true:=r'
    have main:∀ b o,s₁.heap.get? b=some o→s'.heap.get? b=some o∨(b∈ts.map (·.2)∧o=PySem.W.tabObj #[]∧∃ ps,s'.heap.get? b=some (PySem.W.tabObj ps)):=fun b o e=>by
     rcases hO b with z | ⟨ob,xs,z⟩ | ⟨hm,z⟩
     ·exact .inl (un.keep b o e z (by intro z; exact absurd (show b∈([]:List Addr) from z) (by simp)) (by simp))
     ·have z2:=un.frzs b ob _ z
      obtain ⟨e1,_⟩:=hok b _ z
      obtain ⟨e2,_⟩:=hok' b _ z2
      rw [e] at e1; cases e1
      exact .inl e2
     ·obtain ⟨more,z2⟩:=un.tbls b _ z
      have e2:s'.heap.get? b=some (PySem.W.tabObj (#[] ++ more)):=hok' b _ z2
      have e1:=hta b hm
      rw [e] at e1; cases e1
      exact .inr ⟨hm,rfl,_,e2⟩
    refine ⟨rfl,⟨fun b o e=>?_,fun b o e=>?_⟩,os,bare⟩
    ·rcases main b o e with z | ⟨hm,rfl,ps,z⟩
     ·exact .inl z
     ·obtain ⟨q,hq,rfl⟩:=List.mem_map.mp hm
      have hC:=PySem.W.codeHd_of_K KX (hTs q hq).1
      exact .inr (.inl ⟨(hC.tab (hTs q hq).2).isCodeTable,rfl,#[],ps,rfl,by rw [Array.empty_append]; exact z⟩)
    ·rcases main b o e with z | ⟨_,_,ps,z⟩
     ·exact ⟨o,z⟩
     ·exact ⟨_,z⟩
 have tabOk:∀ (H:Hp) b,H b=some (.tbl #[])→b∈ts.map (·.2)→ObjOk P w H s₁.heap b (.tbl #[]):=fun H b _ h=>hta b h
 cases hk:K.lookup a with
 | some o =>
  have e:=KX a o hk
  rw [ha] at e
  cases e
  let H:Hp:=fun b=>if b∈ts.map (·.2) then some (.tbl #[]) else none
  refine core H (fun b=>?_) (fun q hq=>if_pos (List.mem_map_of_mem hq)) (.inr ⟨_,vs.toArray,_,hk,rfl,rfl,rfl,by rw [List.size_toArray,lenV]; exact hl,by simpa using rv⟩) (fun b u z=>?_) (fun b z=>?_) fun z=>absurd (if_neg nat) z
  ·by_cases hb:b∈ts.map (·.2)
   ·exact .inr (.inr ⟨hb,if_pos hb⟩)
   ·exact .inl (if_neg hb)
  ·by_cases hb:b∈ts.map (·.2)
   ·have z':=(if_pos hb).symm.trans z
    cases z'
    exact hta b hb
   ·have z':=(if_neg hb).symm.trans z
    cases z'
  ·by_cases hb:b∈ts.map (·.2)
   ·exact .inr hb
   ·exact absurd (if_neg hb) z
 | none =>
  let H:Hp:=fun b=>if b∈ts.map (·.2) then some (.tbl #[]) else if b=a then some (.frz { cls:=.type "list",data:=.seq vs.toArray } (.lst (ns.map V.int))) else none
  have Ha:H a=some (.frz { cls:=.type "list",data:=.seq vs.toArray } (.lst (ns.map V.int))):=(if_neg nat).trans (if_pos rfl)
  refine core H (fun b=>?_) (fun q hq=>if_pos (List.mem_map_of_mem hq)) (.inl (.inr ⟨_,Ha⟩)) (fun b u z=>?_) (fun b z=>?_) fun _=>hk
  ·by_cases hb:b∈ts.map (·.2)
   ·exact .inr (.inr ⟨hb,if_pos hb⟩)
   ·by_cases hb2:b=a
    ·exact .inr (.inl ⟨_,_,(if_neg hb).trans (if_pos hb2)⟩)
    ·exact .inl ((if_neg hb).trans (if_neg hb2))
  ·by_cases hb:b∈ts.map (·.2)
   ·have z':=(if_pos hb).symm.trans z
    cases z'
    exact hta b hb
   ·by_cases hb2:b=a
    ·have z':=((if_neg hb).trans (if_pos hb2)).symm.trans z
     cases z'
     subst hb2
     exact ⟨ha,by rw [List.length_map]; exact hl,vs,_,rv,ha⟩
    ·have z':=((if_neg hb).trans (if_neg hb2)).symm.trans z
     cases z'
  ·by_cases hb:b∈ts.map (·.2)
   ·exact .inr hb
   ·by_cases hb2:b=a
    ·exact .inl hb2
    ·exact absurd ((if_neg hb).trans (if_neg hb2)) z
noncomputable def tabsIn (K:PySem.W.Frag) (ts:List (Addr×Addr)):Bool:=lamNames.all fun x=>match PySem.W.tabIn K x with
 | some q=>decide (q∈ts)
 | none=>true
theorem tabOk_start {K:PySem.W.Frag} {H:Hp} {ts:List (Addr×Addr)} (h:tabsIn K ts=true) (hT:∀ q∈ts,H q.2=some (.tbl #[])):TabOk K H:=fun x hx c P e=>by
 have:=List.all_eq_true.mp h x hx
 rw [e] at this
 exact ⟨#[],hT (c,P) (of_decide_eq_true this),trivial,fun pos cv z=>by cases z⟩
theorem walk_ofT {l:PySem.W.OpenLaw} {n k:Nat} {q:Program} {loose:List Str} {XP:(Str→Option Value)→Heap→Prop} {YP:World→Heap→Prop} {d:DefRec} {K:Params→PySem.W.Frag} {x:Str} {m:List D→List Cell→R D} {ts:List (Addr×Addr)}
  (hn:l.most=some n) (hn2:n≤sizeLine) (hdf:d.params.defaults=[]) (hr:Room k callerA)
  (hY:∀ (w:World) (h:Heap),YP w h→(K w.params).In h∧∀ q∈ts,h.get? q.2=some (PySem.W.tabObj #[]))
  (hK:∀ p,(ts.all fun q=>PySem.W.codeHdIn (K p) q.1 q.2)=true∧PySem.W.noTabs (K p)=true∧tabsIn (K p) ts=true)
  (F:∀ (w:World) (mg:Str→Option Value) (fa:Addr) (h:Heap),(K w.params).In h→h.Ns mainGlobals mg→mg d.name=some (.ref fa) →
   ∃ fd:FuncData,(∀ (s:Shared) (u:Value),BindsTo s fd ⟨[u],[]⟩ [(x,u)]) ∧
    ∀ base:Heap,(K w.params).In base→base.Ns mainGlobals mg→FnOk l.prog w (K w.params) mg base CX0 k fa fd [x] (spD (K w.params) 1 m))
  (hm:∀ ns:List Int,ns.length≤n→∃ c,m [.scr ns] []=.ok (.bl true) c) :
  PySem.W.WalkO q loose XP YP l.row.toRowW d [] (fun f vs=>PySem.call f vs):=by
 refine Att.attach_call hn hdf fun w s₀ s₁ mg mb fa o pm cd doc a vs ns G Y ho hd hcd hmg hobj hints hlen hg=>?_
 obtain ⟨KX,hT⟩:=hY w _ Y
 obtain ⟨fd,hb,hF⟩:=F w mg fa _ KX G.T.g hmg
 obtain ⟨k1,k2,k3⟩:=hK w.params
 refine law_callT (ts:=ts) KX G.T.g G.T.b G.T.builtins G.T.nolimit G.T.bmain hg hobj hints (Nat.le_trans hlen hn2) hr (fun q hq=>⟨List.all_eq_true.mp k1 q hq,hT q hq⟩) k2 hF hb fun H h1 h2=>?_
 obtain ⟨c,hc⟩:=hm ns hlen
 refine ⟨[],[.scr ns],[],⟨.nil,rfl,fun k a cl e=>(by cases e),tabOk_start k3 h1⟩,⟨.ref a,[],rfl,⟨a,rfl,?_⟩,rfl⟩,rfl,?_⟩
 ·rcases h2 with hS | hS
  ·exact .inl ⟨hS,by simp⟩
  ·exact .inr (.inr hS)
 ·rw [hc]
  exact fun ρ' H' b _ _ r=>r
end L2
namespace L2
open PySem PySem.Spec PyProof.Rows
section
variable {κ:Type} [DecidableEq κ]
noncomputable def valV (kvs:List (κ×V)) (k:κ):Option V:=(kvs.find? fun kv=>decide (kv.1=k)).map (·.2)
noncomputable def putK (kvs:List (κ×V)) (k:κ) (v:V):List (κ×V) :=
 if (kvs.any fun kv=>decide (kv.1=k))=true then kvs.map (fun kv=>if kv.1=k then (kv.1,v) else kv) else kvs ++ [(k,v)]
theorem valV_pos {p:κ×V} {r:List (κ×V)} {k:κ} (e:p.1=k):valV (p :: r) k=some p.2:=by simp [valV,List.find?_cons,e]
theorem valV_neg {p:κ×V} {r:List (κ×V)} {k:κ} (e:¬ p.1=k):valV (p :: r) k=valV r k:=by simp [valV,List.find?_cons,e]
theorem valV_any (k:κ):∀ kvs:List (κ×V),(kvs.any fun kv=>decide (kv.1=k))=(valV kvs k).isSome
 | []=>rfl
 | p :: r=>by
  rw [List.any_cons]
  by_cases e:p.1=k
  ·simp only [valV_pos e,decide_eq_true e,Bool.true_or,Option.isSome_some]
  ·rw [valV_neg e,decide_eq_false e,Bool.false_or]; exact valV_any k r
theorem length_putK (kvs:List (κ×V)) (k:κ) (v:V):(putK kvs k v).length≤kvs.length + 1:=by
 unfold putK
 split
 ·rw [List.length_map]; omega
 ·rw [List.length_append,List.length_cons,List.length_nil]; omega
theorem RelO.isSome_eq {o:Option V} {u:Option Value} (r:RelO o u):o.isSome=u.isSome:=by
 cases o with
 | none=>cases u with
  | none=>rfl
  | some _=>exact (show False from r).elim
 | some _=>cases u with
  | none=>exact (show False from r).elim
  | some _=>rfl
theorem RelO.getD {o:Option V} {u:Option Value} {d:V} {d':Value} (r:RelO o u) (rd:RelV d d'):RelV (o.getD d) (u.getD d'):=by
 cases o with
 | none=>cases u with
  | none=>exact rd
  | some _=>exact (show False from r).elim
 | some _=>cases u with
  | none=>exact (show False from r).elim
  | some _=>exact r
theorem KV.val {kvs:List (κ×V)} {vs:List (κ×Value)} (r:KV kvs vs) (k:κ):RelO (valV kvs k) (valueAt vs k):=by
 unfold KV at r
 induction r with
 | nil=>exact True.intro
 | @cons p q ps qs h t ih =>
  obtain ⟨h1,h2⟩:=h
  by_cases e:p.1=k
  ·have e':q.1=k:=h1.symm.trans e
   have b:valueAt (q :: qs) k=some q.2:=by simp [valueAt,List.find?_cons,e']
   rw [valV_pos e,b]; exact h2
  ·have e':¬ q.1=k:=fun z=>e (h1.trans z)
   have b:valueAt (q :: qs) k=valueAt qs k:=by simp [valueAt,List.find?_cons,e']
   rw [valV_neg e,b]; exact ih
theorem KV.any {kvs:List (κ×V)} {vs:List (κ×Value)} (r:KV kvs vs) (k:κ):(kvs.any fun kv=>decide (kv.1=k))=vs.any fun kv=>decide (kv.1=k):=by
 unfold KV at r
 induction r with
 | nil=>rfl
 | cons h t ih=>rw [List.any_cons,List.any_cons,ih,h.1]
theorem KV.repl {kvs:List (κ×V)} {vs:List (κ×Value)} (r:KV kvs vs) (k:κ) {y:V} {u:Value} (ry:RelV y u) :
  KV (kvs.map fun kv=>if kv.1=k then (kv.1,y) else kv) (vs.map fun kv=>if kv.1=k then (kv.1,u) else kv):=by
 unfold KV at r ⊢
 induction r with
 | nil=>exact .nil
 | @cons p q ps qs h t ih =>
  rw [List.map_cons,List.map_cons]
  refine .cons ?_ ih
  obtain ⟨h1,h2⟩:=h
  by_cases e:p.1=k
  ·rw [if_pos e,if_pos (h1.symm.trans e)]; exact ⟨h1,ry⟩
  ·rw [if_neg e,if_neg (fun z=>e (h1.trans z))]; exact ⟨h1,h2⟩
theorem KV.put {kvs:List (κ×V)} {vs:List (κ×Value)} (r:KV kvs vs) (k:κ) {y:V} {u:Value} (ry:RelV y u):KV (putK kvs k y) (stored vs k u):=by
 unfold putK stored
 rw [r.any k]
 by_cases e:(vs.any fun kv=>decide (kv.1=k))=true
 ·rw [if_pos e,if_pos e]; exact r.repl k ry
 ·rw [if_neg e,if_neg e]; exact Paired.snoc r ⟨rfl,ry⟩
theorem KV.length {kvs:List (κ×V)} {vs:List (κ×Value)} (r:KV kvs vs):kvs.length=vs.length:=Paired.length r
end
theorem kV_is {P:Program} {w:World} {k:Key} {u:Value} (r:RelV (kV k) u):(mixKind P w).is k u=true:=by
 cases k with
 | inl i=>obtain ⟨t,e⟩:=(show ∃ t,u=Value.int i t from r); subst e; exact mixKind_int P w i t
 | inr x=>obtain ⟨t,e⟩:=(show ∃ t,u=Value.str x t from r); subst e; exact mixKind_str P w x t
theorem items_are {P:Program} {w:World}:∀ {ks:List Key} {us:List Value},Vals (ks.map kV) us→ItemsAre (mixKind P w) ks us
 | [],_,r=>by rw [List.map_nil] at r; cases r; exact .nil
 | k :: ks,_,r=>by
  rw [List.map_cons] at r
  cases r with
  | cons h t=>exact .cons (kV_is h) (items_are t)
noncomputable abbrev KT (H:Hp):List (List Key×V)→List (List Key×Addr×Value)→Prop:=Paired fun p q=>p.1=q.1∧H q.2.1=some (.tup (p.1.map kV))∧RelV p.2 q.2.2
theorem KT.val {H:Hp} {kvs:List (List Key×V)} {xs:List (List Key×Addr×Value)} (r:KT H kvs xs) (k:List Key):RelO (valV kvs k) ((atKey xs k).map (·.2)):=by
 induction r with
 | nil=>exact True.intro
 | @cons p q ps qs h t ih =>
  obtain ⟨h1,_,h2⟩:=h
  by_cases e:p.1=k
  ·have e':q.1=k:=h1.symm.trans e
   have b:atKey (q :: qs) k=some q.2:=by simp [atKey,List.find?_cons,e']
   rw [valV_pos e,b]; exact h2
  ·have e':¬ q.1=k:=fun z=>e (h1.trans z)
   have b:atKey (q :: qs) k=atKey qs k:=by simp [atKey,List.find?_cons,e']
   rw [valV_neg e,b]; exact ih
theorem KT.repl {H:Hp} {kvs:List (List Key×V)} {xs:List (List Key×Addr×Value)} (r:KT H kvs xs) (k:List Key) {y:V} {u:Value} (ry:RelV y u) :
  KT H (kvs.map fun kv=>if kv.1=k then (kv.1,y) else kv) (xs.map (putAt k u)):=by
 induction r with
 | nil=>exact .nil
 | @cons p q ps qs h t ih =>
  rw [List.map_cons,List.map_cons]
  refine .cons ?_ ih
  obtain ⟨h1,h2,h3⟩:=h
  unfold putAt
  by_cases e:p.1=k
  ·rw [if_pos e,if_pos (h1.symm.trans e)]; exact ⟨h1,h2,ry⟩
  ·rw [if_neg e,if_neg (fun z=>e (h1.trans z))]; exact ⟨h1,h2,h3⟩
theorem KT.put {H:Hp} {kvs:List (List Key×V)} {xs:List (List Key×Addr×Value)} (r:KT H kvs xs) (k:List Key) {b:Addr} {y:V} {u:Value} (hb:H b=some (.tup (k.map kV))) (ry:RelV y u) :
  KT H (putK kvs k y) (storedH xs k b u):=by
 have e:(kvs.any fun kv=>decide (kv.1=k))=(atKey xs k).isSome:=by
  rw [valV_any,(r.val k).isSome_eq,Option.isSome_map]
 unfold putK storedH
 rw [e]
 by_cases q:(atKey xs k).isSome=true
 ·rw [if_pos q,if_pos q]; exact r.repl k ry
 ·rw [if_neg q,if_neg q]; exact Paired.snoc r ⟨rfl,hb,ry⟩
theorem KT.keeps {H H':Hp} {kvs:List (List Key×V)} {xs:List (List Key×Addr×Value)} (r:KT H kvs xs) (ht:∀ b ys,H b=some (.tup ys)→H' b=some (.tup ys)):KT H' kvs xs :=
 Paired.mapP r fun _ _ z=>⟨z.1,ht _ _ z.2.1,z.2.2⟩
section
variable {P:Program} {w:World} {H:Hp} {h:Heap} {a:Addr}
theorem rd_of {u:HO} (ok:HOk P w H h) (e:Rd H a u):ObjOk P w H h a u:=e.ok ok
theorem dk_rd {kvs:List (Key×V)} (ok:HOk P w H h) (e:Rd H a (.dK kvs)):kvs.length≤sizeLine∧(a == sysModules)=false∧∃ vs,KV kvs vs∧h.DictOf (mixKind P w) a vs :=
 show ObjOk P w H h a (.dK kvs) from rd_of ok e
theorem dk_of {kvs:List (Key×V)} (ok:HOk P w H h) (e:H a=some (.dK kvs)):kvs.length≤sizeLine∧(a == sysModules)=false∧∃ vs,KV kvs vs∧h.DictOf (mixKind P w) a vs:=dk_rd ok (.inl e)
theorem key_of {ks:List Key} (ok:HOk P w H h) (e:H a=some (.tup (ks.map kV))):(tupleKind (mixKind P w)).is h ks a:=by
 obtain ⟨_,its,r,o,h1,h2,⟨n,h3⟩,_⟩:=(show ObjOk P w H h a (.tup (ks.map kV)) from ok a _ e)
 exact ⟨o,its.toArray,n,h1,h2,h3,by simpa using items_are r⟩
theorem dt_rd {kvs:List (List Key×V)} (ok:HOk P w H h) (e:Rd H a (.dT kvs)):kvs.length≤sizeLine∧(a == sysModules)=false ∧
  ∃ xs,KT H kvs xs∧h.DictOfH (tupleKind (mixKind P w)) a xs:=by
 obtain ⟨z,y,xs,r,o,es,ep,h1,h2,h3,h4,h5⟩:=(show ObjOk P w H h a (.dT kvs) from rd_of ok e)
 refine ⟨z,y,xs,r,o,es,ep,h1,h2,h3,h4,fun x hx=>?_,h5⟩
 have all:∀ {l:List (List Key×V)} {m:List (List Key×Addr×Value)},KT H l m→∀ x∈m,(tupleKind (mixKind P w)).is h x.1 x.2.1:=by
  intro l m q
  induction q with
  | nil=>intro x hx; exact nomatch hx
  | @cons p q ps qs hq t ih =>
   intro x hx
   rcases List.mem_cons.mp hx with e | hx
   ·subst e
    exact key_of ok (by rw [← hq.1]; exact hq.2.1)
   ·exact ih x hx
 exact all r x hx
theorem dt_of {kvs:List (List Key×V)} (ok:HOk P w H h) (e:H a=some (.dT kvs)):kvs.length≤sizeLine∧(a == sysModules)=false ∧
  ∃ xs,KT H kvs xs∧h.DictOfH (tupleKind (mixKind P w)) a xs:=dt_rd ok (.inl e)
end
noncomputable def DGet (H:Hp) (a:Addr) (y:V) (r:Option V):Prop :=
 (∃ kvs k,Rd H a (.dK kvs)∧y=kV k∧r=valV kvs k)∨∃ kvs k b,Rd H a (.dT kvs)∧y=.ref b∧H b=some (.tup (k.map kV))∧r=valV kvs k
noncomputable def DPut (H:Hp) (a:Addr) (y v:V) (H':Hp):Prop :=
 (∃ kvs k,H a=some (.dK kvs)∧y=kV k∧kvs.length < sizeLine∧H'=upd H a (.dK (putK kvs k v))) ∨
 ∃ kvs k b,H a=some (.dT kvs)∧y=.ref b∧H b=some (.tup (k.map kV))∧kvs.length < sizeLine∧H'=upd H a (.dT (putK kvs k v))
theorem DGet.k {H:Hp} {a:Addr} {kvs:List (Key×V)} {k:Key} (e:H a=some (.dK kvs)):DGet H a (kV k) (valV kvs k):=.inl ⟨kvs,k,.inl e,rfl,rfl⟩
theorem DPut.k {H:Hp} {a:Addr} {kvs:List (Key×V)} {k:Key} {v:V} (e:H a=some (.dK kvs)) (hl:kvs.length < sizeLine):DPut H a (kV k) v (upd H a (.dK (putK kvs k v))):=.inl ⟨kvs,k,e,rfl,hl,rfl⟩
section
variable {X:Cx} {pins:List (Addr×Obj)} {σ:St} {H:Hp} {s:Shared} {a:Addr} {y v:V} {u r:Value} {o:Option V} {A:Around} {E:Value→Shared→Prop}
theorem Inv.big (I:Inv X pins σ H s):sysModules < s.heap.objs.size:=by
 have h:mainGlobals < s.heap.objs.size:=(I.mod.glob.keeps I.bk).lt
 exact Nat.lt_trans (by decide) h
theorem d_getItem {Q:Value→Shared→Prop} (hu:A.units + 1 < cLine) (I:Inv X pins σ H s) (g:DGet H a y (some v)) (ry:RelV y u) (h:∀ w' s',Inv X pins σ H s'→RelV v w'→Q w' s') :
  wpAny (model X.prog X.w) A (getItem (.ref a) u) Q E s:=by
 rcases g with ⟨kvs,k,e,ey,l⟩ | ⟨kvs,k,b,e,ey,eb,l⟩
 ·subst ey
  obtain ⟨z,hd,vs,rel,dd⟩:=dk_rd I.hok e
  obtain ⟨w',hw,rw'⟩:=RelO.some_of (v:=v) (o:=valueAt vs k) (by rw [l]; exact rel.val k)
  exact wpAny_getItem_of (kV_is ry) dd.mapOf hw (h w' _ (I.tok _) rw')
 ·subst ey
  cases (show u=Value.ref b from ry)
  obtain ⟨z,hd,xs,rel,dd⟩:=dt_rd I.hok e
  obtain ⟨w',hw,rw'⟩:=RelO.some_of (v:=v) (o:=(atKey xs k).map (·.2)) (by rw [l]; exact rel.val k)
  obtain ⟨p,hp,hp2⟩:=Option.map_eq_some_iff.mp hw
  refine wpAny_getItem_heap (tupleKind_room_in1 hu) (key_of I.hok eb) dd hp ?_
  rw [hp2]
  exact h w' _ (I.tok _) rw'
theorem d_write {h':Heap} {t':Nat} {ob:HO} (I:Inv X pins σ H s) (mu:Mut (H a)) (hs:Heap.SameBut a s.heap h') (he:∃ q,h'.get? a=some q) (new:ObjOk X.prog X.w (upd H a ob) h' a ob) :
  Inv X pins σ (upd H a ob) { s with heap:=h',toks:=t' } :=
 I.write (x:=a) (e:=a) mu (.inl rfl) (fun b q hb z=>(hs.2 b hb).trans z) he new
theorem dk_new {P:Program} {w:World} {H':Hp} {h':Heap} {kvs:List (Key×V)} {vs:List (Key×Value)} (z:kvs.length≤sizeLine) (hd:(a == sysModules)=false) (rel:KV kvs vs) (dd:h'.DictOf (mixKind P w) a vs) :
  ObjOk P w H' h' a (.dK kvs):=⟨z,hd,vs,rel,dd⟩
theorem d_setItem {H':Hp} {Q:Unit→Shared→Prop} (hu:A.units + 1 < cLine) (I:Inv X pins σ H s) (g:DPut H a y v H') (ry:RelV y u) (rv:RelV v r) (h:∀ s',Inv X pins σ H' s'→Q () s') :
  wpAny (model X.prog X.w) A (setItem (.ref a) u r) Q E s:=by
 rcases g with ⟨kvs,k,e,ey,l,eH⟩ | ⟨kvs,k,b,e,ey,eb,l,eH⟩
 ·subst ey eH
  obtain ⟨z,hd,vs,rel,dd⟩:=dk_of I.hok e
  have hz:vs.length≤sizeLine:=by rw [← rel.length]; exact z
  have hl:(putK kvs k v).length≤sizeLine:=by have:=length_putK kvs k v; omega
  refine wpAny_setItem_pairs (hsz:=hz) (kV_is ry) dd fun h' dd' hs=>h _ ?_
  have he:∃ q,h'.get? a=some q:=let ⟨q,_,_,hq,_⟩:=dd'; ⟨q,hq⟩
  exact d_write I (by rw [e]; exact True.intro) hs he (dk_new hl hd (rel.put k rv) dd')
 ·subst ey eH
  cases (show u=Value.ref b from ry)
  obtain ⟨z,hd,xs,rel,dd⟩:=dt_of I.hok e
  have hz:xs.length≤sizeLine:=by rw [← Paired.length rel]; exact z
  have hl:(putK kvs k v).length≤sizeLine:=by have:=length_putK kvs k v; omega
  refine wpAny_setItem_heap (hsz:=hz) (tupleKind_room_in1 hu) (key_of I.hok eb) dd fun h' dd' hs=>h _ ?_
  obtain ⟨q,es,ep,hq,h2,h3,h4,_,h5⟩:=dd'
  refine d_write I (by rw [e]; exact True.intro) hs ⟨q,hq⟩ ⟨hl,hd,_,(rel.put k eb rv).keeps fun c ys ec=>?_,q,es,ep,hq,h2,h3,h4,h5⟩
  rw [upd_ne (ne_of ec e (fun z=>nomatch z))]
  exact ec
end
section
variable {X:Cx} {pins:List (Addr×Obj)} {σ:St} {H:Hp} {s:Shared} {a:Addr} {kvs:List (Key×V)} {k:Key} {u:Value} {A:Around} {E:Value→Shared→Prop}
end
noncomputable def NoSl (i:Expr):Prop:=∀ ov iv,subscripted i false ov iv=operate [ov,iv] (getItem ov iv)
theorem subD_of {prog:Program} {w:World} {A:Around} {E:Value→Shared→Prop} {s:Shared} {env:Env} {value slice:Expr} {pos:Pos} {T id:String} {Q:Value→Shared→Prop}
  (hl:typeLookup (.type T) "__getitem__"=pure (some (.builtin id))) (hs:NoSl slice)
  (h:wpAny (model prog w) A (eval value env) (fun o s₁=>wpAny (model prog w) A (eval slice env) (fun i s₂=>s₂.TypeIs o T∧wpAny (model prog w) A (getItem o i) Q E s₂) E s₁) E s) :
  wpAny (model prog w) A (eval (.Subscript value slice pos) env) Q E s:=by
 refine Subscript_ (wpAny_mono h (fun o s₁ h₁=>wpAny_mono h₁ (fun i s₂ h₂=>?_) fun _ _ x=>x) fun _ _ x=>x)
 obtain ⟨hT,h₂⟩:=h₂
 unfold subscriptTail
 refine wpAny_bind ?_
 rw [getitemInPython_of_ne hT.not_modules]
 refine wpAny_bind (wpAny_specialOf hT hl ?_)
 have fin:wpAny (model prog w) A (subscripted slice false o i) (fun r s₃=>wpAny (model prog w) A (letTemporaryGo value o r >>= fun _=>pure r) Q E s₃) E s₂:=by
  rw [hs o i]
  exact wpAny_operating (wpAny_mono h₂ (fun r s₃ h₃=>wpAny_bind (wpAny_letTemporaryGo (wpAny_pure h₃))) fun _ _ x=>x)
 first
  | exact wpAny_pure (wpAny_bind fin)
  | exact wpAny_bind (wpAny_pure (wpAny_bind fin))
  | exact wpAny_bind fin
theorem dict_typeIs {X:Cx} {pins:List (Addr×Obj)} {σ:St} {H:Hp} {s:Shared} {a:Addr} {y:V} {o:Option V} (I:Inv X pins σ H s) (g:DGet H a y o):s.TypeIs (.ref a) "dict":=by
 rcases g with ⟨kvs,k,e,_,_⟩ | ⟨kvs,k,b,e,_,_,_⟩
 ·obtain ⟨_,_,vs,_,dd⟩:=dk_rd I.hok e
  exact dd.typeIs
 ·obtain ⟨_,_,xs,_,dd⟩:=dt_rd I.hok e
  exact dd.typeIs
noncomputable def tDGet (td ty:TE):TE:=fun σ H Q=>td σ H fun x H1=>ty σ H1 fun y H2=>∃ a v,x=.ref a∧DGet H2 a y (some v)∧Q v H2
noncomputable def sDPut (td ty tv:TE):TS:=fun D σ H=>tv σ H fun v H1=>td σ H1 fun x H2=>ty σ H2 fun y H3=>∃ a H4,x=.ref a∧DPut H3 a y v H4∧D.nx σ H4
section
variable {X:Cx} {o i e value:Expr} {pos pos' tpos:Pos} {td ty tv:TE}
theorem pe_dget (hu:X.A.units + 1 < cLine) (ho:PE X o td) (hi:PE X i ty) (hs:NoSl i):PE X (.Subscript o i pos) (tDGet td ty):=by
 intro pins s σ H Q I h
 refine subD_of PySem.F.slot_dict_getitem.lookup hs (thn (ho pins s σ H _ I h) fun u s1 ⟨x,H1,I1,rx,q1⟩=>thn (hi pins s1 σ H1 _ I1 q1) fun iv s2 ⟨y,H2,I2,ry,a,v,ex,g,q2⟩=>?_)
 subst ex
 obtain rfl:u=Value.ref a:=rx
 exact ⟨dict_typeIs I2 g,d_getItem hu I2 g ry fun w' s3 I3 rw'=>⟨v,H2,I3,rw',q2⟩⟩
theorem ps_dput (hu:X.A.units + 1 < cLine) (ho:PE X o td) (hi:PE X i ty) (hv:PE X value tv) (hs:swapsWith value (some (.Subscript o i pos')) pos.line X.env=pure false) :
  PS X (.Assign [.Subscript o i pos'] value pos) (sDPut td ty tv):=by
 intro pins s σ H D I h
 refine wpAny_Assign_Subscript (thn (hv pins s σ H _ I h) fun r s1 ⟨v,H1,I1,rv,q1⟩=>thn (ho pins s1 σ H1 _ I1 q1) fun u s2 ⟨x,H2,I2,rx,q2⟩=>thn (hi pins s2 σ H2 _ I2 q2) fun iv s3 ⟨y,H3,I3,ry,a,H4,ex,g,q3⟩=>?_) hs
 subst ex
 obtain rfl:u=Value.ref a:=rx
 exact d_setItem hu I3 g ry rv fun s4 I4=>⟨σ,H4,I4,q3⟩
end
theorem dk_empty {P:Program} {w:World} {H:Hp} (h:Heap) (hb:sysModules < h.objs.size):ObjOk P w H (h.push { cls:=.type "dict",data:=.dict #[] }) h.objs.size (.dK []) :=
 ⟨Nat.zero_le _,beq_eq_false_iff_ne.mpr (Ne.symm (Nat.ne_of_lt hb)),[],.nil,Heap.DictOf.new h⟩
noncomputable def tDNewK:TE:=fun _ H Q=>∀ p,H p=none→Q (.ref p) (upd H p (.dK []))
section
variable {X:Cx} {pos:Pos}
theorem pe_dnewK:PE X (.Dict [] [] pos) tDNewK:=fun pins s σ H Q I h =>
 wpAny_Dict_empty ⟨.ref s.heap.objs.size,_,I.laid (a:=s.heap.objs.size) (o:=.dK []) (t':=s.toks) (fun _ _ q=>Heap.get?_push_of_some _ q) (Nat.le_refl _) (dk_empty s.heap I.big),rfl,h _ (I.hok.fresh (Nat.le_refl _))⟩
end
noncomputable def tPairs:List (TE×TE)→St→Hp→(List (V×V)→Hp→Prop)→Prop
 | [],_,H,Q=>Q [] H
 | (tk,tv) :: r,σ,H,Q=>tk σ H fun x H1=>tv σ H1 fun y H2=>tPairs r σ H2 fun ps H3=>Q ((x,y) :: ps) H3
noncomputable abbrev VV:List (V×V)→List (Value×Value)→Prop:=Paired fun p q=>RelV p.1 q.1∧RelV p.2 q.2
noncomputable def PPs (X:Cx) (pos:Pos) (keys:List (Option Expr)) (values:List Expr) (trs:List (TE×TE)):Prop :=
 ∀ (pins:List (Addr×Obj)) (s:Shared) (σ:St) (H:Hp) (Q:List (V×V)→Hp→Prop),Inv X pins σ H s→tPairs trs σ H Q →
  wpAny (model X.prog X.w) X.A (evalPairs (pairTrees keys values X.env pos)) (fun vs s'=>∃ ps H',Inv X pins σ H' s'∧VV ps vs∧Q ps H') X.xe s
theorem pps_nil {X:Cx} {pos:Pos}:PPs X pos [] [] []:=fun pins s σ H Q I h=>pairTrees_nil_walk ⟨[],H,I,.nil,h⟩
theorem pps_cons {X:Cx} {pos:Pos} {k v:Expr} {ks:List (Option Expr)} {vs:List Expr} {tk tv:TE} {trs:List (TE×TE)} (hk:PE X k tk) (hv:PE X v tv) (hr:PPs X pos ks vs trs) :
  PPs X pos (some k :: ks) (v :: vs) ((tk,tv) :: trs):=fun pins s σ H Q I h =>
 pairTrees_cons_walk (thn (hk pins s σ H _ I h) fun u s1 ⟨x,H1,I1,rx,q1⟩=>thn (hv pins s1 σ H1 _ I1 q1) fun w2 s2 ⟨y,H2,I2,ry,q2⟩ =>
  thn (hr pins s2 σ H2 _ I2 q2) fun ws s3 ⟨ps,H3,I3,rel,q3⟩=>⟨(x,y) :: ps,H3,I3,.cons ⟨rx,ry⟩ rel,q3⟩)
noncomputable def mergeK (kvs more:List (Key×V)):List (Key×V):=more.foldl (fun acc kv=>putK acc kv.1 kv.2) kvs
theorem KV.merge:∀ {more:List (Key×V)} {rs:List (Key×Value)} {kvs:List (Key×V)} {vs:List (Key×Value)},KV more rs→KV kvs vs→KV (mergeK kvs more) (merged vs rs):=by
 intro more rs kvs vs r
 unfold KV at r
 induction r generalizing kvs vs with
 | nil=>intro q; exact q
 | @cons p q ps qs h t ih =>
  intro r0
  have e:KV (putK kvs p.1 p.2) (stored vs q.1 q.2):=by
   have:=r0.put p.1 h.2
   rw [← h.1]; exact this
  exact ih e
theorem length_mergeK:∀ (more kvs:List (Key×V)),(mergeK kvs more).length≤kvs.length + more.length
 | [],kvs=>by show kvs.length≤kvs.length + 0; omega
 | p :: r,kvs=>by
  have h1:=length_mergeK r (putK kvs p.1 p.2)
  have h2:=length_putK kvs p.1 p.2
  show (mergeK (putK kvs p.1 p.2) r).length≤_
  rw [List.length_cons]; omega
theorem carries_of {P:Program} {w:World}:∀ {kvs:List (Key×V)} {ws:List (Value×Value)},VV (kvs.map fun kv=>(kV kv.1,kv.2)) ws→∃ rs,Carries (mixKind P w) ws rs∧KV kvs rs
 | [],_,r=>by rw [List.map_nil] at r; cases r; exact ⟨[],True.intro,.nil⟩
 | p :: kvs,_,r=>by
  rw [List.map_cons] at r
  cases r with
  | @cons a b as bs h t =>
   obtain ⟨rs,c,q⟩:=carries_of (P:=P) (w:=w) t
   obtain ⟨b1,b2⟩:=b
   exact ⟨(p.1,b2) :: rs,⟨kV_is h.1,rfl,c⟩,.cons ⟨rfl,h.2⟩ q⟩
noncomputable def tDisp (trs:List (TE×TE)):TE:=fun σ H Q=>∀ p,H p=none→tPairs trs σ (upd H p (.dK [])) fun ps H2=>H2 p=some (.dK [])∧∃ kvs:List (Key×V),ps=kvs.map (fun kv=>(kV kv.1,kv.2))∧kvs.length≤15∧Q (.ref p) (upd H2 p (.dK (mergeK [] kvs)))
theorem pe_disp {X:Cx} {pos:Pos} {keys:List (Option Expr)} {values:List Expr} {trs:List (TE×TE)} (h:PPs X pos keys values trs) (hall:keys.all (·.isSome)=true) (hl:keys.length=values.length) (h0:keys≠[])
  (h15:keys.length≤15):PE X (.Dict keys values pos) (tDisp trs):=by
 intro pins s σ H Q I q
 have hn:=I.hok.fresh (Nat.le_refl s.heap.objs.size)
 have I1:=I.laid (a:=s.heap.objs.size) (o:=.dK []) (h':=s.heap.push { cls:=.type "dict",data:=.dict #[] }) (t':=s.toks) (fun _ _ q=>Heap.get?_push_of_some _ q) (Nat.le_refl _) (dk_empty s.heap I.big)
 refine wpAny_Dict_walk (knd:=mixKind X.prog X.w) hall hl h0 h15 (thn (h pins _ σ _ _ I1 (q _ hn)) fun ws s2 ⟨ps,H2,I2,rel,e,kvs,ep,lk,q2⟩=>?_)
 subst ep
 obtain ⟨rs,c,rk⟩:=carries_of (P:=X.prog) (w:=X.w) rel
 obtain ⟨z,hd,vs0,r0,dd⟩:=dk_of I2.hok e
 cases r0
 refine ⟨rs,c,dd,fun h' dd' hs=>⟨.ref s.heap.objs.size,_,?_,rfl,q2⟩⟩
 have hz:(mergeK [] kvs).length≤sizeLine:=by
  have h1:=length_mergeK kvs []
  rw [List.length_nil] at h1
  rw [sizeLine_eq]; omega
 have he:∃ q,h'.get? s.heap.objs.size=some q:=let ⟨q,_,_,hq,_⟩:=dd'; ⟨q,hq⟩
 exact d_write I2 (by rw [e]; exact True.intro) hs he (dk_new hz hd (rk.merge .nil) dd')
structure M2 (X:Cx) (o:Expr) (m:Str) (apos:Pos) (e f:Expr) (cpos:Pos):Prop where
 base:attributeBase o m X.env (eval o X.env)=eval o X.env
 few:((backTo cpos (starEach [e,f] X.env)).all (fun x=>!x.1) && (backToKw cpos (keywordEach [] X.env)).all (fun x=>x.1.isSome)
  && decide (([e,f]:List Expr).length + ([]:List Keyword).length + (if ([]:List Keyword).isEmpty then 0 else 1) < 30))=true
 line:(apos.endLine == cpos.line)=true
 trees:backTo cpos (starEach [e,f] X.env)=[(false,eval e X.env),(false,eval f X.env)]
noncomputable def IsD (H:Hp) (a:Addr):Prop:=(∃ kvs,Rd H a (.dK kvs))∨∃ kvs,Rd H a (.dT kvs)
theorem isD_at {X:Cx} {pins:List (Addr×Obj)} {σ:St} {H:Hp} {s:Shared} {a:Addr} (I:Inv X pins σ H s) (d:IsD H a) :
  s.TypeIs (.ref a) "dict"∧(∀ b,Value.ref a=.ref b→∃ ob,s.heap.get? b=some ob∧ob.dict=none)∧(a == sysModules)=false:=by
 rcases d with ⟨kvs,e⟩ | ⟨kvs,e⟩
 ·obtain ⟨_,hd,vs,_,dd⟩:=dk_rd I.hok e
  refine ⟨dd.typeIs,fun b q=>?_,hd⟩
  cases q
  obtain ⟨ob,_,_,h1,h2,_⟩:=dd
  exact ⟨ob,h1,h2.2.1⟩
 ·obtain ⟨_,hd,xs,_,dd⟩:=dt_rd I.hok e
  refine ⟨dd.typeIs,fun b q=>?_,hd⟩
  cases q
  obtain ⟨ob,_,_,h1,h2,_⟩:=dd
  exact ⟨ob,h1,h2.2.1⟩
section
variable {X:Cx} {pins:List (Addr×Obj)} {σ:St} {H:Hp} {s:Shared} {a:Addr} {y d:V} {u r:Value} {o:Option V} {A:Around} {E:Value→Shared→Prop}
theorem d_get2 {Q:Value→Shared→Prop} (hu:A.units + 1 < cLine) (I:Inv X pins σ H s) (g:DGet H a y o) (ry:RelV y u) (rd:RelV d r) (h:∀ w' s',Inv X pins σ H s'→RelV (o.getD d) w'→Q w' s') :
  wpAny (model X.prog X.w) A (call (.builtin "dict.get") [.ref a,u,r]) Q E s:=by
 rcases g with ⟨kvs,k,e,ey,l⟩ | ⟨kvs,k,b,e,ey,eb,l⟩
 ·subst ey
  obtain ⟨z,hd,vs,rel,dd⟩:=dk_rd I.hok e
  refine call_meetsIn PySem.F.slot_dict_get dd.typeIs PySem.F.entry_dict_get (PySem.F.args_dict_get_3 _ _ _) (meets_dict_get_default (mixKind X.prog X.w) a (kV_is ry) hd r) ⟨_,dd.mapOf,h _ _ (I.tok _) ?_⟩
  rw [l]
  exact (rel.val k).getD rd
 ·subst ey
  cases (show u=Value.ref b from ry)
  obtain ⟨z,hd,xs,rel,dd⟩:=dt_rd I.hok e
  refine call_meetsIn PySem.F.slot_dict_get dd.typeIs PySem.F.entry_dict_get (PySem.F.args_dict_get_3 _ _ _) (meetsH_dict_get_default (tupleKind (mixKind X.prog X.w)) a b hd r) ⟨tupleKind_room_in1 hu,k,xs,key_of I.hok eb,dd,h _ _ (I.tok _) ?_⟩
  rw [l]
  exact (rel.val k).getD rd
end
noncomputable def tDGet2 (td ty tx:TE):TE:=fun σ H Q=>td σ H fun x H1=>∃ a,x=.ref a∧IsD H1 a∧ty σ H1 fun y H2=>tx σ H2 fun z H3=>∃ o,DGet H3 a y o∧Q (o.getD z) H3
section
variable {X:Cx} {o e f:Expr} {apos cpos:Pos} {td ty tx:TE}
theorem pe_dget2 (hu:X.A.units + 1 < cLine) (ho:PE X o td) (he:PE X e ty) (hf:PE X f tx) (m:M2 X o "get" apos e f cpos):PE X (.Call (.Attribute o "get" apos) [e,f] [] cpos) (tDGet2 td ty tx):=by
 intro pins s σ H Q I h
 refine wpAny_Call_method m.base m.few m.line PySem.F.plainAttrs_dict PySem.F.slot_dict_get PySem.F.type_dict_get (thn (ho pins s σ H _ I h) fun u s1 ⟨x,H1,I1,rx,a,ex,d,q1⟩=>?_)
 subst ex
 obtain rfl:u=Value.ref a:=rx
 obtain ⟨t1,t2,_⟩:=isD_at I1 d
 refine ⟨t1,t2,?_⟩
 rw [m.trees]
 refine Calls.callWith_builtin rfl (Calls.evalArgs_plain (Calls.spliced_cons (thn (he pins s1 σ H1 _ I1 q1) fun iv s2 ⟨y,H2,I2,ry,q2⟩ =>
  Calls.spliced_cons (thn (hf pins s2 σ H2 _ I2 q2) fun fv s3 ⟨z,H3,I3,rz,ov,g,q3⟩=>Calls.spliced_nil ?_))))
 exact d_get2 hu I3 g ry rz fun w' s4 I4 rw'=>⟨_,H3,I4,rw',q3⟩
end
section
variable {X:Cx} {pins:List (Addr×Obj)} {σ:St} {H:Hp} {s:Shared} {a:Addr} {kvs:List (Key×V)} {A:Around} {E:Value→Shared→Prop}
end
section
variable {X:Cx} {pins:List (Addr×Obj)} {σ:St} {H:Hp} {s:Shared} {a:Addr} {y:V} {u:Value} {A:Around} {E:Value→Shared→Prop}
end
end L2
namespace L2
open PySem PySem.Spec PyProof.Rows
theorem key_rel {k:Key} {u:Value} (h:keyIs k u=true):RelV (kV k) u:=by
 cases k with
 | inl i =>
  cases u with
  | int j t =>
   have e:(i == j)=true∨(j == i)=true:=by
    unfold keyIs at h
    first
     | exact .inl h
     | exact .inr h
   have:j=i:=by
    rcases e with e | e
    ·exact (by simpa using e:i=j).symm
    ·simpa using e
   subst this
   exact ⟨t,rfl⟩
  | _=>exact absurd h (by unfold keyIs; intro z; cases z)
 | inr x =>
  cases u with
  | str y t =>
   have e:(x == y)=true∨(y == x)=true:=by
    unfold keyIs at h
    first
     | exact .inl h
     | exact .inr h
   have:y=x:=by
    rcases e with e | e
    ·exact (by simpa using e:x=y).symm
    ·simpa using e
   subst this
   exact ⟨t,rfl⟩
  | _=>exact absurd h (by unfold keyIs; intro z; cases z)
noncomputable def ItDk (a:Addr) (o:Obj) (kvs:List (Key×V)):It :=
 ⟨fun i H=>H a=some (.frz o (.dK kvs))∧i < kvs.length,fun i H x H'=>H'=H∧∃ kv,kvs[i]? = some kv∧x=kV kv.1,fun i H=>H a=some (.frz o (.dK kvs))∧kvs.length≤i⟩
section
variable {P:Program} {w:World} {H:Hp} {h:Heap} {a:Addr} {o:Obj} {kvs:List (Key×V)}
theorem frz_at' (ok:HOk P w H h) (e:H a=some (.frz o (.dK kvs))) {es:Array DictEntry} {ep:Nat} (hod:o.data=.dict es ep):∃ vs,KV kvs vs∧Heap.DictAt (mixKind P w) h a vs ep:=by
 have eo:h.get? a=some o:=(show ObjOk P w H h a (.frz o (.dK kvs)) from ok a _ e).1
 obtain ⟨z,hd,vs,rel,o',es',ep',h1,h2,h3,h4⟩:=dk_rd ok (.inr ⟨o,e⟩)
 rw [eo] at h1
 cases h1
 rw [hod] at h3
 cases h3
 exact ⟨vs,rel,o,es,eo,h2,hod,h4⟩
end
theorem KV.get {kvs:List (Key×V)} {vs:List (Key×Value)} (r:KV kvs vs):∀ {i:Nat},i < kvs.length→∃ k v u,kvs[i]? = some (k,v)∧vs[i]? = some (k,u):=by
 induction r with
 | nil=>intro i hi; cases hi
 | @cons p q ps qs hq t ih =>
  intro i hi
  cases i with
  | zero=>exact ⟨p.1,p.2,q.2,rfl,by rw [hq.1]; rfl⟩
  | succ i =>
   obtain ⟨k,v,u,h1,h2⟩:=ih (i:=i) (by simpa using hi)
   exact ⟨k,v,u,by simpa using h1,by simpa using h2⟩
theorem turn_dict {P:Program} {w:World} {K:PySem.W.Frag} {tg:Expr} (a it:Addr) (o:Obj) (kvs:List (Key×V)) {es:Array DictEntry} {ep:Nat} (hod:o.data=.dict es ep):Turn P w K tg (ItDk a o kvs) [it] it (fun i h=>h.IsKeyIter it a i kvs.length ep) where
 mem:=by simp
 obj:=fun i h st b hb=>by
  have e:b=it:=by simpa using hb
  subst e
  obtain ⟨o,e,c,d⟩:=st
  exact ⟨o,e,fun v z=>by rw [d] at z; cases z⟩
 keep:=fun i h h' st k=>by
  obtain ⟨o,e,c,d⟩:=st
  exact ⟨o,k it (by simp) o e,c,d⟩
 item:=by
  intro X hP hw hK hc i pins s σ H E I hf st hg
  subst hP hw hK
  obtain ⟨hq,hx⟩:=hg
  obtain ⟨vs,rel,da⟩:=frz_at' I.hok hq hod
  obtain ⟨k,v,u,e1,e2⟩:=rel.get hx
  obtain ⟨f0,f1,f2,f3,f4,f5⟩:=hf it (by simp)
  have hl:=rel.length
  rw [hl] at st
  refine wpAny_pyNext_dict_item st da e2 fun key h' hkey st' sb=>?_
  rw [← hl] at st'
  have I1:Inv X pins σ H { s with heap:=h' }:=I.turned (t':=s.toks) (fun b o hb e=>(sb.2 b hb).trans e) f0 f1 f3 f4 f5
  obtain ⟨o',e,c,d⟩:=id st'
  exact ⟨key,rfl,go_of (s:={ s with heap:=h' }) e c d (by decide) ⟨kV k,H,I1,key_rel hkey,⟨rfl,(k,v),e1,rfl⟩,st',fun b hb=>(hf b hb).1⟩⟩
 done:=by
  intro X hP hw hK hc i pins s σ H E I hf st hg
  subst hP hw hK
  obtain ⟨hq,hx⟩:=hg
  obtain ⟨vs,rel,da⟩:=frz_at' I.hok hq hod
  obtain ⟨f0,f1,f2,f3,f4,f5⟩:=hf it (by simp)
  have hl:=rel.length
  rw [hl] at st
  exact wpAny_pyNext_dict_end (I.ok.hd hc) st da (List.getElem?_eq_none (by omega)) fun h' eb=>⟨rfl,I.turned (t':=s.toks) (fun b o hb e=>eb b o hb e) f0 f1 f3 f4 f5⟩
 self:=fun _ _ _ _ _ st h=>wpAny_pyIter_keyiter st h
noncomputable def iDict (tl:TE):TI:=fun σ H R=>tl σ H fun v H1=>∃ a kvs,v=.ref a∧H1 a=some (.dK kvs)∧∀ o,R (ItDk a o kvs) (upd H1 a (.frz o (.dK kvs)))
theorem pi_dict {X:Cx} {tg l:Expr} {tl:TE} (hl:PE X l tl):PI X tg l (iDict tl):=by
 intro pins s σ H R I h
 refine thn (hl pins s σ H _ I h) fun v s1 ⟨x,H1,I1,r1,q1⟩=>?_
 obtain ⟨a,kvs,e,hq,q⟩:=q1
 subst e
 cases r1
 obtain ⟨z,hd,vs,rel,o,es,ep,h1,h2,h3,h4⟩:=dk_of I1.hok hq
 have I2:Inv X pins σ (upd H1 a (.frz o (.dK kvs))) s1:=d_write (t':=s1.toks) I1 (by rw [hq]; exact trivial) (Heap.SameBut.refl a s1.heap) ⟨o,h1⟩ ⟨h1,dk_new z hd rel ⟨o,es,ep,h1,h2,h3,h4⟩⟩
 refine wpAny_pyIter_dict hd (kvs:=vs) (ep:=ep) (knd:=mixKind X.prog X.w) ⟨o,es,h1,h2,h3,h4⟩ ?_
 have hl:=rel.length
 refine ⟨s1.heap.objs.size,[s1.heap.objs.size],_,_,upd H1 a (.frz o (.dK kvs)),rfl,I2.kept (t':=s1.toks) fun b o e=>Heap.get?_push_of_some _ e,turn_dict a _ o kvs h3,⟨_,Heap.get?_push_size _ rfl,rfl,by rw [hl]; rfl⟩,fun b hb=>?_,q o⟩
 have e:b=s1.heap.objs.size:=by simpa using hb
 subst e
 exact I2.fpOk (Nat.le_refl _) (I2.hok.fresh (Nat.le_refl _))
end L2
namespace L2
open PySem PySem.Spec PyProof.Rows
noncomputable def webT (w:List (List Nat)):D:=.tup (w.map fun r=>.tup (r.map fun n:Nat=>.int (n:Int)))
noncomputable def valN (l:List (Nat×Int)) (n:Nat):Option Int:=(l.find? fun p=>decide (p.1=n)).map (·.2)
noncomputable def putN (l:List (Nat×Int)) (n:Nat) (v:Int):List (Nat×Int):=if (l.any fun p=>decide (p.1=n))=true then l.map (fun p=>if p.1=n then (p.1,v) else p) else l ++ [(n,v)]
noncomputable def addN (l:List (Nat×Int)) (n:Nat) (x:Int):List (Nat×Int):=putN l n ((valN l n).getD 0 + x)
noncomputable def rowN (r:List Nat) (x:Int) (l:List (Nat×Int)):List (Nat×Int):=r.foldl (fun l n=>addN l n x) l
noncomputable def stepN (w:List (List Nat)) (ps:List (Nat×Int)) (l:List (Nat×Int)):List (Nat×Int):=ps.foldl (fun acc p=>rowN (w.getD p.1 []) p.2 acc) l
noncomputable def dueN (w:List (List Nat)) (one:Nat):Nat→List (Nat×Int)
 | 0=>[(one,1)]
 | k + 1=>stepN w (dueN w one k) []
noncomputable def encN (l:List (Nat×Int)):List (Key×V):=l.map fun p=>(Sum.inl (p.1:Int),V.int p.2)
theorem key_dec (a n:Nat):decide ((Sum.inl (a:Int):Key)=Sum.inl (n:Int))=decide (a=n):=by
 by_cases h:a=n
 ·subst h; simp
 ·have:¬ (Sum.inl (a:Int):Key)=Sum.inl (n:Int):=fun e=>h (by injection e with e; omega)
  simp [h,this]
theorem val_enc (n:Nat):∀ l:List (Nat×Int),valV (encN l) (Sum.inl (n:Int))=(valN l n).map V.int
 | []=>rfl
 | p :: l=>by
  have ih:=val_enc n l
  by_cases h:p.1=n
  ·have e1:valN (p :: l) n=some p.2:=by simp [valN,List.find?_cons,h]
   rw [e1]
   exact valV_pos (by show (Sum.inl (p.1:Int):Key)=Sum.inl (n:Int); rw [h])
  ·have e1:valN (p :: l) n=valN l n:=by simp [valN,List.find?_cons,h]
   rw [e1,← ih]
   refine valV_neg fun e=>h ?_
   have e:(Sum.inl (p.1:Int):Key)=Sum.inl (n:Int):=e
   injection e with e
   omega
theorem any_enc (n:Nat) (l:List (Nat×Int)):((encN l).any fun kv=>decide (kv.1=(Sum.inl (n:Int):Key)))=l.any fun p=>decide (p.1=n):=by
 unfold encN
 rw [List.any_map]
 congr 1
 funext p
 exact key_dec p.1 n
theorem put_enc (n:Nat) (v:Int) (l:List (Nat×Int)):putK (encN l) (Sum.inl (n:Int)) (V.int v)=encN (putN l n v):=by
 unfold putK putN
 rw [any_enc]
 split
 ·unfold encN
  rw [List.map_map,List.map_map]
  refine List.map_congr_left fun p _=>?_
  by_cases h:p.1=n
  ·simp [h]
  ·have:¬ (Sum.inl (p.1:Int):Key)=Sum.inl (n:Int):=fun e=>h (by injection e with e; omega)
   simp [h,this]
 ·simp [encN]
structure GdN (L:Nat) (l:List (Nat×Int)):Prop where
 nd:(l.map (·.1)).Nodup
 lt:∀ p∈l,p.1 < L
theorem nodup_lt:∀ (L:Nat) (l:List Nat),l.Nodup→(∀ x∈l,x < L)→l.length≤L
 | 0,[],_,_=>Nat.le_refl _
 | 0,x :: l,_,h=>by have:=h x (by simp); omega
 | L + 1,l,hn,h=>by
  have h1:=nodup_lt L (l.erase L) (hn.erase L) fun x hx=>by
   have h2:=h x (List.mem_of_mem_erase hx)
   have h3:x≠L:=fun e=>by subst e; exact (hn.not_mem_erase) hx
   omega
  have:=@List.length_erase _ _ _ L l
  rw [this] at h1
  split at h1 <;> omega
theorem GdN.len {L:Nat} {l:List (Nat×Int)} (h:GdN L l):l.length≤L:=by
 have:=nodup_lt L (l.map (·.1)) h.nd fun x hx=>by
  obtain ⟨p,hp,rfl⟩:=List.mem_map.mp hx
  exact h.lt p hp
 simpa using this
theorem GdN.put {L n:Nat} {l:List (Nat×Int)} (h:GdN L l) (hn:n < L) (v:Int):GdN L (putN l n v):=by
 unfold putN
 split
 ·refine ⟨?_,fun p hp=>?_⟩
  ·rw [List.map_map]
   have e:((fun p:Nat×Int=>p.1) ∘ fun p:Nat×Int=>if p.1=n then (p.1,v) else p)=fun p=>p.1:=by
    funext p
    show (if p.1=n then (p.1,v) else p).1=p.1
    split <;> rfl
   rw [e]; exact h.nd
  ·obtain ⟨q,hq,rfl⟩:=List.mem_map.mp hp
   have:=h.lt q hq
   split <;> exact this
 ·rename_i ha
  refine ⟨?_,fun p hp=>?_⟩
  ·rw [List.map_append,List.nodup_append]
   refine ⟨h.nd,by simp,fun a ha' b hb=>?_⟩
   rw [List.map_cons,List.map_nil,List.mem_singleton] at hb
   subst hb
   rintro rfl
   obtain ⟨q,hq,e⟩:=List.mem_map.mp ha'
   exact ha (List.any_eq_true.mpr ⟨q,hq,by simpa using e⟩)
  ·rcases List.mem_append.mp hp with hp | hp
   ·exact h.lt p hp
   ·rw [List.mem_singleton] at hp; subst hp; exact hn
theorem GdN.row {L:Nat} {x:Int}:∀ {r:List Nat} {l:List (Nat×Int)},GdN L l→(∀ n∈r,n < L)→GdN L (rowN r x l)
 | [],l,h,_=>h
 | n :: r,l,h,hr=>GdN.row (r:=r) (h.put (hr n (by simp)) _) fun m hm=>hr m (by simp [hm])
theorem GdN.step {w:List (List Nat)} {L:Nat} (hw:∀ r∈w,∀ n∈r,n < L):∀ {ps l:List (Nat×Int)},GdN L l→GdN L (stepN w ps l)
 | [],l,h=>h
 | p :: ps,l,h=>GdN.step (ps:=ps) hw (h.row fun n hn=>by
   cases e:w[p.1]? with
   | none=>rw [List.getD_eq_getElem?_getD,e] at hn; cases hn
   | some r =>
    rw [List.getD_eq_getElem?_getD,e] at hn
    exact hw r (List.mem_of_getElem? e) n hn)
theorem GdN.due {w:List (List Nat)} {one:Nat} (hw:∀ r∈w,∀ n∈r,n < w.length) (h1:one < w.length):∀ k,GdN w.length (dueN w one k)
 | 0=>⟨by simp [dueN],fun p hp=>by
   rw [dueN,List.mem_singleton] at hp; subst hp; exact h1⟩
 | k + 1=>GdN.step hw ⟨by simp,fun p hp=>by cases hp⟩
noncomputable def isDk:HO→Bool
 | .dK _=>true
 | .frz _ (.dK _)=>true
 | _=>false
section
variable {K:PySem.W.Frag} {ρ:List Addr} {H H':Hp} {c:List Cell}
theorem sqP_nd (k:∀ a o,H a=some o→isDk o=false→H' a=some o) {a:Addr} {xs:List V} (h:SqP K ρ H a xs):SqP K ρ H' a xs:=by
 rcases h with ⟨h,n⟩ | h
 ·rcases h with h | ⟨o,h⟩
  ·exact .inl ⟨.inl (k a _ h rfl),n⟩
  ·exact .inl ⟨.inr ⟨o,k a _ h rfl⟩,n⟩
 ·exact .inr h
mutual
theorem Rel.nd (k:∀ a o,H a=some o→isDk o=false→H' a=some o):∀ (d:D) (v:V),Rel K ρ H d v→Rel K ρ H' d v
 | .non,v,h=>h
 | .bl b,v,h=>h
 | .int i,v,h=>h
 | .str y,v,h=>h
 | .ty n,v,h=>h
 | .tup l,v,h=>by
  obtain ⟨a,xs,e,s,r⟩:=h
  exact ⟨a,xs,e,k a _ s rfl,Rels.nd k l xs r⟩
 | .lst l,v,h=>by
  obtain ⟨a,xs,e,s,r⟩:=h
  exact ⟨a,xs,e,⟨k a _ s.1 rfl,s.2⟩,Rels.nd k l xs r⟩
 | .ref _,v,h=>h
 | .scr l,v,h=>by
  obtain ⟨a,e,s⟩:=h
  exact ⟨a,e,sqP_nd k s⟩
 | .fn a n,v,h=>h
 | .dic,v,h=>by
  obtain ⟨a,e,q⟩:=h
  exact ⟨a,e,k a _ q rfl⟩
 | .exc y,v,h=>by
  obtain ⟨a,C,e,n,q⟩:=h
  exact ⟨a,C,e,n,k a _ q rfl⟩
 | .lam _ y ns l,v,h=>by
  obtain ⟨a,o,q,c,cl,xs,e,h1,h2,h3,h4,h5,h6⟩:=h
  exact ⟨a,o,q,c,cl,xs,e,k a _ h1 rfl,h2,k c _ h3 rfl,h4,h5.mono (fun b o z=>k b _ z rfl),Rels.nd k l xs h6⟩
theorem Rels.nd (k:∀ a o,H a=some o→isDk o=false→H' a=some o):∀ (l:List D) (xs:List V),Rels K ρ H l xs→Rels K ρ H' l xs
 | [],xs,h=>h
 | d :: l,xs,h=>by
  obtain ⟨y,r,e,h1,h2⟩:=h
  exact ⟨y,r,e,Rel.nd k d y h1,Rels.nd k l r h2⟩
end
theorem Wd.nd' (W:Wd K ρ H c) (k:∀ a o,H a=some o→isDk o=false→H' a=some o):Wd K ρ H' c :=
 ⟨W.nd,W.len,fun i a cl e1 e2=>by
  have q:=W.cel i a cl e1 e2
  cases cl with
  | lst l =>
   obtain ⟨nr,xs,h,r⟩:=q
   exact ⟨nr,xs,k a _ h rfl,Rels.nd k l xs r⟩,W.tab.mono (fun P ps e=>k P _ e rfl) fun c φ e=>k c _ e rfl⟩
theorem upd_nd {a:Addr} {o:HO} (h:H a=none∨∃ u,H a=some u∧isDk u=true):∀ b u,H b=some u→isDk u=false→upd H a o b=some u:=fun b u e d=>by
 have:b≠a:=fun z=>by
  subst z
  rcases h with h | ⟨v,h,t⟩
  ·rw [h] at e; cases e
  ·rw [h] at e; cases e; rw [t] at d; cases d
 rw [upd_ne this]; exact e
noncomputable def Fr0 (H0:Hp) (a:Addr):Prop:=∀ u,H0 a=some u→isTbl u=true
theorem Ext.fr0 {ρ0:List Addr} {H0:Hp} {a:Addr} (x:Ext ρ0 H0 ρ H) (W:Wd K ρ H c) (h:H a=none):Fr0 H0 a:=fun u e=>by
 by_cases m:a∈ρ0
 ·obtain ⟨k,hk,e2⟩:=List.mem_iff_getElem.mp m
  have q:=x.pre k a (by rw [List.getElem?_eq_getElem hk,e2])
  obtain ⟨ys,z⟩:=W.at' (List.mem_of_getElem? q)
  rw [h] at z; cases z
 ·cases t:isTbl u with
  | true=>rfl
  | false =>
   have z:=(x.keep a u e m t).1
   rw [h] at z; cases z
theorem Ext.off {ρ0:List Addr} {H0:Hp} {a:Addr} {o:HO} (x:Ext ρ0 H0 ρ H) (h:Fr0 H0 a):Ext ρ0 H0 ρ (upd H a o) :=
 ⟨x.pre,fun b u e n t=>by
  have:b≠a:=fun z=>by subst z; rw [h u e] at t; cases t
  rw [upd_ne this]; exact x.keep b u e n t⟩
theorem Wd.dk (W:Wd K ρ H c) {a:Addr} {o:HO} (h:H a=some o) (t:isDk o=true):a∉ρ:=fun m=>by
 obtain ⟨ys,e⟩:=W.at' m
 rw [e] at h; cases h; cases t
theorem dk_keep {ρ':List Addr} (W:Wd K ρ H c) (x:Ext ρ H ρ' H') {a:Addr} {o:HO} (h:H a=some o) (t:isDk o=true):H' a=some o :=
 (x.keep a o h (W.dk h t) (by cases o <;> first | rfl | cases t)).1
end
end L2
namespace L2
open PySem PySem.Spec PyProof.Rows
noncomputable def dueT (K:PySem.W.Frag):TS :=
 tSeq (tAsg (tDisp [(tVar 1,tC (.int 1))]) (gName 4))
  (tSeq (tFor (iRng1 (tCons (tVar 3) tNil)) (gName 5)
   (tSeq (tAsg tDNewK (gName 6))
    (tSeq (tFor (iDict (tVar 4)) (gName 7)
     (tFor (iTup K (tOp (r2 K ixD) (tVar 0) (tVar 7))) (gName 8)
      (sDPut (tVar 6) (tVar 8) (tOp (rI0 fun i j=>.int (i + j)) (tDGet2 (tVar 6) (tVar 8) (tC (.int 0))) (tDGet (tVar 4) (tVar 7))))))
     (tAsg (tVar 6) (gName 4)))))
   (tRet (tDGet2 (tVar 4) (tVar 2) (tC (.int 0)))))
theorem for_dict {a:Addr} {o:Obj} {kvs:List (Key×V)} {g:TG} {tb:TS} {D:Ends} {σ:St} {H:Hp} (Pv:Nat→St→Hp→Prop) (h0:Pv 0 σ H) (hl:∀ i σ H,Pv i σ H→H a=some (.frz o (.dK kvs)))
  (hs:∀ i k v σ H,kvs[i]? = some (k,v)→Pv i σ H→g (kV k) σ H fun σ2 H2=>tb { D with nx:=Pv (i + 1),ct:=Pv (i + 1),bk:=D.nx } σ2 H2) (hd:∀ σ H,Pv kvs.length σ H→D.nx σ H) :
  ∃ W:Nat→Nat→St→Hp→Prop,(∃ m,W 0 m σ H)∧∀ i m σ H,W i m σ H →
   ((ItDk a o kvs).stop i H∧D.nx σ H)∨((ItDk a o kvs).go i H∧∃ N:St→Hp→Prop,(∀ σ' H',N σ' H'→∃ m',m' < m∧W (i + 1) m' σ' H')∧∀ x H',(ItDk a o kvs).yld i H x H'→g x σ H' fun σ2 H2=>tb { D with nx:=N,ct:=N,bk:=D.nx } σ2 H2):=by
 refine ⟨fun i m σ H=>m=kvs.length - i∧i≤kvs.length∧Pv i σ H,⟨kvs.length,by simp,Nat.zero_le _,h0⟩,?_⟩
 rintro i m σ H ⟨rfl,hi,p⟩
 have q:=hl i σ H p
 by_cases hlt:i < kvs.length
 ·refine .inr ⟨⟨q,hlt⟩,Pv (i + 1),fun σ' H' p'=>⟨kvs.length - (i + 1),by omega,rfl,hlt,p'⟩,fun x H' ⟨e,kv,hk,hx⟩=>?_⟩
  subst e; subst hx
  exact hs i kv.1 kv.2 σ H' hk p
 ·have:i=kvs.length:=by omega
  subst this
  exact .inl ⟨⟨q,Nat.le_refl _⟩,hd σ H p⟩
structure DueOk (w:List (List Nat)) (one other many:Nat):Prop where
 len:w.length≤60
 row:∀ r∈w,∀ n∈r,n < w.length
 lt1:one < w.length
 lt3:many < 1000
section
variable {K:PySem.W.Frag} {c:List Cell} {ρ0:List Addr} {H0:Hp} {w:List (List Nat)} {one other many:Nat}
noncomputable def DuP1 (K:PySem.W.Frag) (c:List Cell) (ρ0:List Addr) (H0:Hp) (w:List (List Nat)) (one other many:Nat) (i:Nat) (σ:St) (H:Hp):Prop :=
 ∃ ρ vw f x5 x6 x7 x8,Wd K ρ H c∧Ext ρ0 H0 ρ H∧Rel K ρ H (webT w) vw∧σ=[some vw,some (.int (one:Int)),some (.int (other:Int)),some (.int (many:Int)),some (.ref f),x5,x6,x7,x8]∧H f=some (.dK (encN (dueN w one i)))∧Fr0 H0 f
noncomputable def DuP2 (K:PySem.W.Frag) (c:List Cell) (ρ0:List Addr) (H0:Hp) (w:List (List Nat)) (one other many:Nat) (f g:Addr) (o:Obj) (ps:List (Nat×Int)) (i:Nat) (σ:St) (H:Hp):Prop :=
 ∃ ρ vw x5 x7 x8,Wd K ρ H c∧Ext ρ0 H0 ρ H∧Rel K ρ H (webT w) vw∧σ=[some vw,some (.int (one:Int)),some (.int (other:Int)),some (.int (many:Int)),some (.ref f),x5,some (.ref g),x7,x8]∧H f=some (.frz o (.dK (encN ps)))∧H g=some (.dK (encN (stepN w (ps.take i) [])))∧Fr0 H0 f∧Fr0 H0 g
noncomputable def DuP3 (K:PySem.W.Frag) (c:List Cell) (ρ0:List Addr) (H0:Hp) (w:List (List Nat)) (one other many:Nat) (f g t:Addr) (o:Obj) (ps:List (Nat×Int)) (p:Nat×Int) (l:List (Nat×Int)) (i:Nat) (σ:St) (H:Hp):Prop :=
 ∃ ρ vw x5 x8,Wd K ρ H c∧Ext ρ0 H0 ρ H∧Rel K ρ H (webT w) vw∧σ=[some vw,some (.int (one:Int)),some (.int (other:Int)),some (.int (many:Int)),some (.ref f),x5,some (.ref g),some (.int (p.1:Int)),x8]∧H f=some (.frz o (.dK (encN ps)))∧H g=some (.dK (encN (rowN ((w.getD p.1 []).take i) p.2 l)))∧Fr0 H0 f∧Fr0 H0 g∧H t=some (.tup ((w.getD p.1 []).map fun n:Nat=>V.int (n:Int)))
theorem sz60:1000 < sizeLine:=by decide
theorem take_snocN {α:Type} {l:List α} {i:Nat} {x:α} (h:l[i]? = some x):l.take (i + 1)=l.take i ++ [x]:=by
 rw [List.take_add_one,h]; rfl
theorem row_take {r:List Nat} {i n:Nat} {x:Int} {l:List (Nat×Int)} (h:r[i]? = some n):rowN (r.take (i + 1)) x l=addN (rowN (r.take i) x l) n x:=by
 rw [take_snocN h]; unfold rowN; rw [List.foldl_append]; rfl
theorem step_take {ps:List (Nat×Int)} {i:Nat} {p:Nat×Int} (h:ps[i]? = some p):stepN w (ps.take (i + 1)) []=rowN (w.getD p.1 []) p.2 (stepN w (ps.take i) []):=by
 rw [take_snocN h]; unfold stepN; rw [List.foldl_append]; rfl
theorem get_of {ps:List (Nat×Int)} {i:Nat} {p:Nat×Int} (hg:(ps.map (·.1)).Nodup) (h:ps[i]? = some p):valN ps p.1=some p.2:=by
 induction ps generalizing i with
 | nil=>cases h
 | cons q ps ih =>
  rw [List.map_cons,List.nodup_cons] at hg
  cases i with
  | zero=>cases h; simp [valN]
  | succ i =>
   have h':ps[i]? = some p:=by simpa using h
   have hne:¬ q.1=p.1:=fun e=>hg.1 (List.mem_map.mpr ⟨p,List.mem_of_getElem? h',e.symm⟩)
   have:=ih hg.2 h'
   simpa [valN,List.find?_cons,hne] using this
theorem due_put {f g t:Addr} {o:Obj} {ps l:List (Nat×Int)} {p:Nat×Int} {i n:Nat} {D:Ends} (ok:DueOk w one other many) (gp:GdN w.length ps) (gl:GdN w.length l) (hp:p∈ps) (hn:(w.getD p.1 [])[i]? = some n)
  (hD:∀ σ H,DuP3 K c ρ0 H0 w one other many f g t o ps p l (i + 1) σ H→D.nx σ H) {σ:St} {H:Hp} (h:DuP3 K c ρ0 H0 w one other many f g t o ps p l i σ H) :
  sDPut (tVar 6) (tVar 8) (tOp (rI0 fun i j=>.int (i + j)) (tDGet2 (tVar 6) (tVar 8) (tC (.int 0))) (tDGet (tVar 4) (tVar 7))) D (σ.set 8 (some (.int (n:Int)))) H:=by
 obtain ⟨ρ,vw,x5,x8,W,X,R,rfl,hf,hg,z1,z2,ht⟩:=h
 have hin:p.1 < w.length:=gp.lt p hp
 have hr:∀ m∈w.getD p.1 [],m < w.length:=fun m hm=>by
  rw [List.getD_eq_getElem?_getD,List.getElem?_eq_getElem hin] at hm
  exact ok.row _ (List.getElem_mem hin) m hm
 have hnL:n < w.length:=hr n (List.mem_of_getElem? hn)
 generalize hq:rowN ((w.getD p.1 []).take i) p.2 l=q at hg
 have gq:GdN w.length q:=by
  rw [← hq]; exact gl.row fun m hm=>hr m (List.mem_of_mem_take hm)
 obtain ⟨j,hj⟩:=List.getElem?_of_mem hp
 have hv:=get_of gp.nd hj
 have hgf:g≠f:=fun e=>by rw [e,hf] at hg; cases hg
 refine ⟨.ref g,rfl,g,rfl,.inl ⟨_,.inl hg⟩,.int (n:Int),rfl,_,DGet.k (k:=Sum.inl (n:Int)) hg,.ref f,rfl,.int (p.1:Int),rfl,f,.int p.2,rfl,.inl ⟨encN ps,Sum.inl (p.1:Int),.inr ⟨o,hf⟩,rfl,by rw [val_enc,hv]; rfl⟩,(valN q n).getD 0,p.2,?_,rfl,.ref g,rfl,.int (n:Int),rfl,g,_,rfl,DPut.k (k:=Sum.inl (n:Int)) hg (by unfold encN; rw [List.length_map]; have:=gq.len; have:=ok.len; have:=sz60; omega),?_⟩
 ·rw [val_enc]; cases valN q n <;> rfl
 ·rw [put_enc]
  refine hD _ _ ⟨ρ,vw,x5,_,W.nd' (upd_nd (.inr ⟨_,hg,rfl⟩)),X.off z2,Rel.nd (upd_nd (.inr ⟨_,hg,rfl⟩)) _ _ R,rfl,by rw [upd_ne (Ne.symm hgf)]; exact hf,?_,z1,z2,?_⟩
  ·rw [row_take hn,hq]
   unfold upd
   rw [if_pos rfl]
   rfl
  ·rw [upd_ne (fun e=>by rw [e,hg] at ht; cases ht)]; exact ht
theorem ints_inv':∀ {r:List Nat} {ρ:List Addr} {H:Hp} {xs:List V},Rels K ρ H (r.map fun n:Nat=>D.int (n:Int)) xs→xs=r.map fun n:Nat=>V.int (n:Int):=fun {r ρ H xs} h=>by
 have e:(r.map fun n:Nat=>D.int (n:Int))=(r.map fun n:Nat=>(n:Int)).map D.int:=by rw [List.map_map]; rfl
 rw [e] at h
 rw [Rels.ints_inv h,List.map_map]; rfl
theorem ix_webT {n:Nat} (h:n < w.length) (c:List Cell):ixD (webT w) (.int (n:Int)) c=.ok (.tup ((w.getD n []).map fun n:Nat=>.int (n:Int))) c:=by
 have:atI (w.map fun r=>D.tup (r.map fun n:Nat=>.int (n:Int))) (n:Int)=some (.tup ((w.getD n []).map fun n:Nat=>.int (n:Int))):=atI_nat (by simp [List.getD_eq_getElem?_getD,h])
 unfold webT ixD
 dsimp only [seqD]
 rw [this]
theorem due_row {f g:Addr} {o:Obj} {ps:List (Nat×Int)} {p:Nat×Int} {i:Nat} {D:Ends} (ok:DueOk w one other many) (gp:GdN w.length ps) (hp:ps[i]? = some p)
  (hD:∀ σ H,DuP2 K c ρ0 H0 w one other many f g o ps (i + 1) σ H→D.nx σ H) {σ:St} {H:Hp} (h:DuP2 K c ρ0 H0 w one other many f g o ps i σ H) :
  tFor (iTup K (tOp (r2 K ixD) (tVar 0) (tVar 7))) (gName 8) (sDPut (tVar 6) (tVar 8) (tOp (rI0 fun i j=>.int (i + j)) (tDGet2 (tVar 6) (tVar 8) (tC (.int 0))) (tDGet (tVar 4) (tVar 7)))) D (σ.set 7 (some (.int (p.1:Int)))) H:=by
 obtain ⟨ρ,vw,x5,x7,x8,W,X,R,rfl,hf,hg,z1,z2⟩:=h
 have hm:p∈ps:=List.mem_of_getElem? hp
 have hin:p.1 < w.length:=gp.lt p hm
 refine ⟨vw,rfl,.int (p.1:Int),rfl,ρ,webT w,.int (p.1:Int),c,W,R,rfl,?_⟩
 rw [ix_webT hin]
 intro ρ' H' b W' X' Rb
 obtain ⟨a,xs,rfl,ha,rl⟩:=Rb
 have exs:=ints_inv' rl
 subst exs
 have gl:GdN w.length (stepN w (ps.take i) []):=GdN.step ok.row ⟨by simp,fun q hq=>by cases hq⟩
 refine ⟨a,rfl,⟨_,.inl (.inl ha)⟩,for_tup (K:=K) (a:=a) (xs:=(w.getD p.1 []).map fun n:Nat=>V.int (n:Int)) (DuP3 K c ρ0 H0 w one other many f g a o ps p (stepN w (ps.take i) [])) ⟨ρ',vw,x5,x8,W',X.trans X',Rel.mono W X' _ _ R,rfl,dk_keep W X' hf rfl,by rw [List.take_zero]; exact dk_keep W X' hg rfl,z1,z2,ha⟩ (fun j σ H _ q=>?_) (fun j x σ H hx q=>?_) (fun σ H q=>?_)⟩
 ·obtain ⟨_,_,_,_,_,_,_,_,_,_,_,_,ht⟩:=q
  exact .inl (.inl ht)
 ·rw [List.getElem?_map] at hx
  cases hn:(w.getD p.1 [])[j]? with
  | none=>rw [hn] at hx; cases hx
  | some n =>
   rw [hn] at hx
   cases hx
   exact due_put (t:=a) ok gp gl hm hn (fun σ H q=>q) q
 ·obtain ⟨ρ1,vw1,x51,x81,W1,X1,R1,rfl,hf1,hg1,y1,y2,ht⟩:=q
  rw [List.length_map,List.take_length] at hg1
  refine hD _ _ ⟨ρ1,vw1,x51,_,x81,W1,X1,R1,rfl,hf1,?_,y1,y2⟩
  rw [step_take hp]; exact hg1
theorem due_turn {i:Nat} {D:Ends} (ok:DueOk w one other many) (hD:∀ σ H,DuP1 K c ρ0 H0 w one other many (i + 1) σ H→D.nx σ H) {σ:St} {H:Hp} {x:V} (h:DuP1 K c ρ0 H0 w one other many i σ H) :
  tSeq (tAsg tDNewK (gName 6)) (tSeq (tFor (iDict (tVar 4)) (gName 7) (tFor (iTup K (tOp (r2 K ixD) (tVar 0) (tVar 7))) (gName 8) (sDPut (tVar 6) (tVar 8) (tOp (rI0 fun i j=>.int (i + j)) (tDGet2 (tVar 6) (tVar 8) (tC (.int 0))) (tDGet (tVar 4) (tVar 7)))))) (tAsg (tVar 6) (gName 4))) D (σ.set 5 (some x)) H:=by
 obtain ⟨ρ,vw,f,x5,x6,x7,x8,W,X,R,rfl,hf,z1⟩:=h
 intro g hg
 have gp:=GdN.due (w:=w) (one:=one) ok.row ok.lt1 i
 have zg:=X.fr0 W hg
 have hgf:f≠g:=fun e=>by rw [e,hg] at hf; cases hf
 have hf':upd H g (.dK []) f=some (.dK (encN (dueN w one i))):=by rw [upd_ne hgf]; exact hf
 have W1:=W.nd' (upd_nd (a:=g) (o:=.dK []) (.inl hg))
 have R1:=Rel.nd (upd_nd (a:=g) (o:=.dK []) (.inl hg)) _ _ R
 have X1:=X.off (o:=.dK []) zg
 refine ⟨.ref f,rfl,f,_,rfl,hf',fun o=>?_⟩
 have k2:=upd_nd (H:=upd H g (.dK [])) (a:=f) (o:=.frz o (.dK (encN (dueN w one i)))) (.inr ⟨_,hf',rfl⟩)
 refine for_dict (DuP2 K c ρ0 H0 w one other many f g o (dueN w one i)) ⟨ρ,vw,some x,x7,x8,W1.nd' k2,X1.off z1,Rel.nd k2 _ _ R1,rfl,by unfold upd; rw [if_pos rfl],by rw [upd_ne (Ne.symm hgf)]; unfold upd; rw [if_pos rfl]; rfl,z1,zg⟩ (fun j σ H q=>?_) (fun j k v σ H hk q=>?_) (fun σ H q=>?_)
 ·obtain ⟨_,_,_,_,_,_,_,_,_,hf,_⟩:=q
  exact hf
 ·unfold encN at hk
  rw [List.getElem?_map] at hk
  cases hp:(dueN w one i)[j]? with
  | none=>rw [hp] at hk; cases hk
  | some p =>
   rw [hp] at hk
   cases hk
   exact due_row ok gp hp (fun σ H q=>q) q
 ·obtain ⟨ρ1,vw1,x51,x71,x81,W1,X1,R1,rfl,hf1,hg1,y1,y2⟩:=q
  have e:(encN (dueN w one i)).length=(dueN w one i).length:=by unfold encN; rw [List.length_map]
  rw [e,List.take_length] at hg1
  exact ⟨.ref g,rfl,hD _ _ ⟨ρ1,vw1,g,x51,_,x71,x81,W1,X1,R1,rfl,hg1,y2⟩⟩
theorem dueT_ok {vw:V} {Q:VK} {D:Ends} (ok:DueOk w one other many) (W0:Wd K ρ0 H0 c) (R0:Rel K ρ0 H0 (webT w) vw) (hD:D.rt=Q) (hQ:post K (Rel K) (.ok (.int ((valN (dueN w one many) other).getD 0)) c) ρ0 H0 Q) :
  dueT K D [some vw,some (.int (one:Int)),some (.int (other:Int)),some (.int (many:Int)),none,none,none,none,none] H0:=by
 intro p hp
 refine ⟨.int (one:Int),rfl,?_⟩
 refine ⟨by unfold upd; rw [if_pos rfl],[(Sum.inl (one:Int),V.int 1)],rfl,by simp,?_⟩
 have e:mergeK [] [((Sum.inl (one:Int):Key),V.int 1)]=encN (dueN w one 0):=rfl
 rw [e]
 have hn:upd H0 p (.dK []) p=some (.dK []):=by unfold upd; rw [if_pos rfl]
 have k1:=upd_nd (H:=H0) (a:=p) (o:=.dK []) (.inl hp)
 have k2:=upd_nd (H:=upd H0 p (.dK [])) (a:=p) (o:=.dK (encN (dueN w one 0))) (.inr ⟨_,hn,rfl⟩)
 have fr:Fr0 H0 p:=fun u z=>by rw [hp] at z; cases z
 refine ⟨.int (many:Int),rfl,(many:Int),rfl,by omega,by have:=ok.lt3; omega,?_⟩
 rw [Int.toNat_natCast]
 refine for_range (lo:=0) (n:=many) (DuP1 K c ρ0 H0 w one other many) ⟨ρ0,vw,p,none,none,none,none,(W0.nd' k1).nd' k2,(Ext.refl.off fr).off fr,Rel.nd k2 _ _ (Rel.nd k1 _ _ R0),rfl,by unfold upd; rw [if_pos rfl],fr⟩ (fun i σ H hi q=>?_) (fun σ H q=>?_)
 ·exact due_turn ok (fun σ H q=>q) q
 ·obtain ⟨ρ,vw1,f,x5,x6,x7,x8,W,X,R,rfl,hf,z1⟩:=q
  refine ⟨.ref f,rfl,f,rfl,.inl ⟨_,.inl hf⟩,.int (other:Int),rfl,_,DGet.k (k:=Sum.inl (other:Int)) hf,?_⟩
  show D.rt _ _
  rw [hD]
  refine hQ ρ H _ W X ?_
  show _=V.int _
  rw [val_enc]
  cases valN (dueN w one many) other <;> rfl
end
end L2
namespace L2
open PySem PySem.Spec PyProof.Rows
noncomputable def DueAt (xs:List D) (q:List (List Nat)×Nat×Nat×Nat):Prop:=xs=[webT q.1,.int (q.2.1:Int),.int (q.2.2.1:Int),.int (q.2.2.2:Int)]∧DueOk q.1 q.2.1 q.2.2.1 q.2.2.2
open Classical in
noncomputable def mDue:List D→List Cell→R D:=fun xs c=>if h:∃ q,DueAt xs q then .ok (.int ((valN (dueN h.choose.1 h.choose.2.1 h.choose.2.2.2) h.choose.2.2.1).getD 0)) c else .bad
theorem webT_inj {v w:List (List Nat)} (h:webT v=webT w):v=w:=by
 unfold webT at h
 injection h with h
 have inj:∀ (a b:List Nat),(a.map fun n:Nat=>D.int (n:Int))=b.map (fun n:Nat=>D.int (n:Int))→a=b:=fun a b e=>by
  refine List.map_inj_right (f:=fun n:Nat=>D.int (n:Int)) (fun x y z=>?_) |>.mp e
  injection z with z; omega
 exact List.map_inj_right (f:=fun r:List Nat=>D.tup (r.map fun n:Nat=>.int (n:Int))) (fun x y z=>by injection z with z; exact inj x y z) |>.mp h
theorem mDue_ok {w:List (List Nat)} {one other many:Nat} (ok:DueOk w one other many) (c:List Cell):mDue [webT w,.int (one:Int),.int (other:Int),.int (many:Int)] c=.ok (.int ((valN (dueN w one many) other).getD 0)) c:=by
 have h:∃ q,DueAt [webT w,.int (one:Int),.int (other:Int),.int (many:Int)] q:=⟨(w,one,other,many),rfl,ok⟩
 unfold mDue
 rw [dif_pos h]
 have hs:=h.choose_spec.1
 generalize h.choose=q at hs
 obtain ⟨w',a,b,d⟩:=q
 injection hs with e1 hs
 injection hs with e2 hs
 injection hs with e3 hs
 injection hs with e4 hs
 have:=webT_inj e1
 injection e2 with e2
 injection e3 with e3
 injection e4 with e4
 dsimp only at e2 e3 e4 this ⊢
 have a1:one=a:=by omega
 have a2:other=b:=by omega
 have a3:many=d:=by omega
 subst a1; subst a2; subst a3; subst this
 rfl
section
variable {P:Program} {w:World} {K:PySem.W.Frag} {mg:Str→Option Value} {base:Heap}
theorem fn_due {x qual:Str} {st:Stmt} {f:Addr} {fd:FuncData} {N ps:List Str} {k:Nat} (F:Fun K x qual st f fd) (S:FnScope N ps (defScope st)) (hN:N.length=9) (hm:ps.length=4)
  (hb:∀ (cdv:Value) (A:Around) (outer:List Env) (s:Shared) (H:Hp) (E:XK),Room k (A.deeper (envOfC qual (defScope st) s.heap.objs.size f cdv))→PSs (cxOf CX0 P w K mg base N qual (defScope st) f cdv A outer s H E).nox (defBody st) (dueT K)) :
  FnOk P w K mg base CX0 (k + 1) f fd ps (spD K 4 mDue):=by
 refine F.ok S (fun vs H Q E h=>?_) (fun cdv A outer s H vs Q E hr h=>⟨_,hb cdv A outer s H E hr,?_⟩)
 ·obtain ⟨ρ,xs,c,W,r,hl,p⟩:=h
  rw [hm]
  exact r.length.trans hl
 ·obtain ⟨ρ,xs,c,W,r,hl,p⟩:=h
  unfold mDue at p
  by_cases hx:∃ q,DueAt xs q
  ·rw [dif_pos hx] at p
   have hs:=hx.choose_spec
   generalize hx.choose=q at hs p
   obtain ⟨w',a,b,d⟩:=q
   obtain ⟨rfl,ok⟩:=hs
   obtain ⟨v0,r0,rfl,e0,r⟩:=r
   obtain ⟨v1,r1,rfl,e1,r⟩:=r
   obtain ⟨v2,r2,rfl,e2,r⟩:=r
   obtain ⟨v3,r3,rfl,e3,r⟩:=r
   cases (show v1=V.int (a:Int) from e1)
   cases (show v2=V.int (b:Int) from e2)
   cases (show v3=V.int (d:Int) from e3)
   cases (show r3=[] from r)
   have es:start N [v0,V.int (a:Int),V.int (b:Int),V.int (d:Int)]=[some v0,some (.int (a:Int)),some (.int (b:Int)),some (.int (d:Int)),none,none,none,none,none]:=by
    unfold start; rw [hN]; rfl
   rw [es]
   exact dueT_ok ok W e0 rfl p
  ·rw [dif_neg hx] at p
   exact p.elim
end
end L2
namespace L2
open PySem PySem.Spec PyProof.Rows
theorem m2_of {X:Cx} {o e f:Expr} {m:Str} {apos cpos:Pos} (hb:attributeBase o m X.env (eval o X.env)=eval o X.env) (h1:isStar e=false) (h2:isStar f=false) (hl:(apos.endLine == cpos.line)=true):M2 X o m apos e f cpos :=
 ⟨hb,by rw [star2 h1 h2]; simp [backTo,backToKw,keywordEach],hl,by rw [star2 h1 h2]; simp [backTo]⟩
theorem hu1 {A:Around} (h:A.units + 64 < cLine):A.units + 1 < cLine:=by omega
end L2
namespace Ev
open PySem L2 PyProof.Rows
noncomputable def top (i:Nat):Stmt:=PySem.Challenge.pw_evenwebs_k31_ways_between_places.main.body.getD i (.Pass ⟨0,0,0,0⟩)
noncomputable abbrev s_is_whole:Stmt:=top 4
noncomputable abbrev s_is_whole_within:Stmt:=top 5
noncomputable abbrev s_is_place:Stmt:=top 7
noncomputable abbrev s_counts_after_step:Stmt:=top 9
noncomputable abbrev s_ways_between:Stmt:=top 10
noncomputable abbrev s_law_cell_at:Stmt:=top 12
noncomputable abbrev s_law_pot:Stmt:=top 13
noncomputable abbrev s_law_take:Stmt:=top 14
noncomputable abbrev s_law_whole:Stmt:=top 15
noncomputable abbrev s_law_same:Stmt:=top 16
noncomputable abbrev s_law_web_by:Stmt:=top 17
noncomputable abbrev s_law_any_web:Stmt:=top 18
noncomputable abbrev s_law_pairs_web:Stmt:=top 19
noncomputable abbrev s_law_due:Stmt:=top 20
noncomputable abbrev s_law:Stmt:=top 21
noncomputable def b_is_whole:Ev→List Cell→R Fl :=
 (sRet (dAndV (dCB isiD (dCons (dVar 0) (dCons (dC (.ty "int")) dNil))) (dNotV (dCB isiD (dCons (dVar 0) (dCons (dC (.ty "bool")) dNil))))))
noncomputable def m_is_whole:List D→List Cell→R D:=fnD 1 false b_is_whole
noncomputable def b_is_whole_within:Ev→List Cell→R Fl :=
 (sRet (dAndV (dCall 1 m_is_whole (dCons (dVar 0) dNil)) (dChain leD leD (dVar 1) (dVar 0) (dVar 2))))
noncomputable def m_is_whole_within:List D→List Cell→R D:=fnD 3 false b_is_whole_within
noncomputable def b_is_place:Ev→List Cell→R Fl :=
 (sRet (dCall 3 m_is_whole_within (dCons (dVar 0) (dCons (dC (.int 0)) (dCons (dBin subD (dVar 1) (dC (.int 1))) dNil)))))
noncomputable def m_is_place:List D→List Cell→R D:=fnD 2 false b_is_place
noncomputable def b_counts_after_step:Ev→List Cell→R Fl :=
 (sRet (dComp (dSeqT (dVar 0)) [none,some 1] (gdName 0) dYes (dCB sumD (dCons (dComp (dSeqT (dVar 0)) [none,some 1] (gdName 0) dYes (dBin ixD (dVar 1) (dVar 0))) dNil))))
noncomputable def m_counts_after_step:List D→List Cell→R D:=fnD 2 false b_counts_after_step
noncomputable def b_ways_between:Ev→List Cell→R Fl :=
 (sSeq (sIf (dOrT (dNotT (dBl (dCall 2 m_is_place (dCons (dVar 1) (dCons (dCB lenD (dCons (dVar 0) dNil)) dNil))))) (dNotT (dBl (dCall 2 m_is_place (dCons (dVar 2) (dCons (dCB lenD (dCons (dVar 0) dNil)) dNil)))))) sBad sNext) (sSeq (sSet 4 (dComp (dRng1 (dCons (dCB lenD (dCons (dVar 0) dNil)) dNil)) [none,some 1] (gdName 0) dYes (dIfE (dBl (dBin eqD (dVar 0) (dVar 1))) (dC (.int 1)) (dC (.int 0))))) (sSeq (sFor (dRng1 (dCons (dVar 3) dNil)) (gdName 5) (sSet 4 (dCall 2 m_counts_after_step (dCons (dVar 0) (dCons (dVar 4) dNil))))) (sRet (dBin ixD (dVar 4) (dVar 2))))))
noncomputable def m_ways_between:List D→List Cell→R D:=fnD 6 false b_ways_between
noncomputable def b_law_cell_at:Ev→List Cell→R Fl :=
 (sSeq (sIf (dBl (dBin ltD (dVar 1) (dCB lenD (dCons (dVar 0) dNil)))) (sRet (dBin ixD (dVar 0) (dVar 1))) sNext) (sRet (dC (.int 0))))
noncomputable def m_law_cell_at:List D→List Cell→R D:=fnD 2 false b_law_cell_at
noncomputable def b_law_pot:Ev→List Cell→R Fl :=
 (sSeq (sIf (dBl (dBin geD (dVar 0) (dBin powD (dC (.int 10)) (dC (.int 18))))) (sRet (dLstM (dCons (dBin subD (dVar 0) (dBin powD (dC (.int 10)) (dC (.int 18)))) dNil))) sNext) (sSeq (sSet 1 (dC (.int 0))) (sSeq (sFor (dRng1 (dCons (dC (.int 64)) dNil)) (gdName 2) (sSeq (sSet 3 (dBin modD (dBin mulD (dBin addD (dBin addD (dBin modD (dVar 0) (dC (.int 2147483629))) (dBin mulD (dC (.int 7919)) (dVar 2))) (dC (.int 1))) (dC (.int 48271))) (dC (.int 2147483647)))) (sSeq (sSet 3 (dBin modD (dBin addD (dBin addD (dBin mulD (dVar 3) (dVar 3)) (dBin mulD (dC (.int 69621)) (dVar 2))) (dC (.int 7))) (dC (.int 2147483587)))) (sSet 1 (dBin addD (dBin mulD (dVar 1) (dC (.int 2147483587))) (dVar 3)))))) (sRet (dLstM (dCons (dVar 1) dNil))))))
noncomputable def m_law_pot:List D→List Cell→R D:=fnD 4 true b_law_pot
noncomputable def b_law_take:Ev→List Cell→R Fl :=
 (sSeq (sSet 2 (dBin modD (dBin ixD (dVar 0) (dC (.int 0))) (dVar 1))) (sSeq (sAsg (dBin divD (dBin ixD (dVar 0) (dC (.int 0))) (dVar 1)) (gdSub (dVar 0) (dC (.int 0)))) (sRet (dVar 2))))
noncomputable def m_law_take:List D→List Cell→R D:=fnD 3 false b_law_take
noncomputable def b_law_whole:Ev→List Cell→R Fl :=
 (sRet (dAndV (dCB isiD (dCons (dVar 0) (dCons (dC (.ty "int")) dNil))) (dNotV (dCB isiD (dCons (dVar 0) (dCons (dC (.ty "bool")) dNil))))))
noncomputable def m_law_whole:List D→List Cell→R D:=fnD 1 false b_law_whole
noncomputable def b_law_same (m:List D→List Cell→R D):Ev→List Cell→R Fl :=
 (sSeq (sIf (dBl (dBin isD (dVar 1) (dC .non))) (sRet (dBin isD (dVar 0) (dC .non))) sNext) (sSeq (sIf (dBl (dCB isiD (dCons (dVar 1) (dCons (dC (.ty "bool")) dNil)))) (sRet (dAndV (dCB isiD (dCons (dVar 0) (dCons (dC (.ty "bool")) dNil))) (dBin eqD (dVar 0) (dVar 1)))) sNext) (sSeq (sIf (dBl (dCB isiD (dCons (dVar 1) (dCons (dC (.ty "int")) dNil)))) (sRet (dAndV (dCall 1 m_law_whole (dCons (dVar 0) dNil)) (dBin eqD (dVar 0) (dVar 1)))) sNext) (sSeq (sIf (dBl (dCB isiD (dCons (dVar 1) (dCons (dC (.ty "str")) dNil)))) (sRet (dAndV (dCB isiD (dCons (dVar 0) (dCons (dC (.ty "str")) dNil))) (dBin eqD (dVar 0) (dVar 1)))) sNext) (sSeq (sIf (dOrT (dBl (dBin neD (dCB isiD (dCons (dVar 1) (dCons (dC (.ty "tuple")) dNil))) (dCB isiD (dCons (dVar 0) (dCons (dC (.ty "tuple")) dNil))))) (dBl (dBin neD (dCB isiD (dCons (dVar 1) (dCons (dC (.ty "list")) dNil))) (dCB isiD (dCons (dVar 0) (dCons (dC (.ty "list")) dNil)))))) (sRet (dC (.bl false))) sNext) (sRet (dAndV (dBin eqD (dCB lenD (dCons (dVar 0) dNil)) (dCB lenD (dCons (dVar 1) dNil))) (dCB allD (dCons (dComp (dZip2 (dCons (dVar 0) (dCons (dVar 1) dNil))) [none,none] (gdTup 2 (gdCons (gdName 0) (gdCons (gdName 1) gdNil))) dYes (dCall 2 m (dCons (dVar 0) (dCons (dVar 1) dNil)))) dNil)))))))))
noncomputable def m_law_same:Nat→List D→List Cell→R D
 | 0=>fun _ _=>.bad
 | k + 1=>fnD 2 false (b_law_same (m_law_same k))
noncomputable def b_law_web_by:Ev→List Cell→R Fl :=
 (sSeq (sSet 2 (dComp (dRng1 (dCons (dVar 0) dNil)) [none] (gdName 0) dYes (dLstM dNil))) (sSeq (sFor (dSeq (dVar 1)) (gdTup 2 (gdCons (gdName 3) (gdCons (gdName 4) gdNil))) (sSeq (sDrop (dAppend (dBin ixD (dVar 2) (dVar 3)) (dVar 4))) (sDrop (dAppend (dBin ixD (dVar 2) (dVar 4)) (dVar 3))))) (sRet (dCB tupleD (dCons (dComp (dSeq (dVar 2)) [none] (gdName 0) dYes (dCB tupleD (dCons (dSortSet (dCons (dVar 0) dNil)) dNil))) dNil)))))
noncomputable def m_law_web_by:List D→List Cell→R D:=fnD 5 false b_law_web_by
noncomputable def b_law_any_web:Ev→List Cell→R Fl :=
 (sSeq (sSet 2 (dBin addD (dC (.int 1)) (dCall 2 m_law_take (dCons (dVar 0) (dCons (dVar 1) dNil))))) (sSeq (sSet 3 (dCall 2 m_law_take (dCons (dVar 0) (dCons (dC (.int 4)) dNil)))) (sSeq (sSet 4 (dLstM dNil)) (sSeq (sFor (dRng1 (dCons (dVar 2) dNil)) (gdName 5) (sFor (dRng2 (dCons (dBin addD (dVar 5) (dC (.int 1))) (dCons (dVar 2) dNil))) (gdName 6) (sIf (dOrT (dAndT (dBl (dBin eqD (dVar 3) (dC (.int 0)))) (dBl (dBin eqD (dBin modD (dBin subD (dVar 6) (dVar 5)) (dC (.int 3))) (dC (.int 1))))) (dAndT (dBl (dBin gtD (dVar 3) (dC (.int 0)))) (dBl (dBin eqD (dCall 2 m_law_take (dCons (dVar 0) (dCons (dBin addD (dC (.int 2)) (dVar 3)) dNil))) (dC (.int 0)))))) (sDrop (dAppend (dVar 4) (dTup (dCons (dVar 5) (dCons (dVar 6) dNil))))) sNext))) (sRet (dCall 2 m_law_web_by (dCons (dVar 2) (dCons (dVar 4) dNil))))))))
noncomputable def m_law_any_web:List D→List Cell→R D:=fnD 7 false b_law_any_web
noncomputable def b_law_pairs_web:Ev→List Cell→R Fl :=
 (sSeq (sSet 1 (dLstM dNil)) (sSeq (sFor (dRng1 (dCons (dVar 0) dNil)) (gdName 2) (sDrop (dExtend (dVar 1) (dComp (dRng2 (dCons (dBin addD (dVar 2) (dC (.int 1))) (dCons (dVar 0) dNil))) [none,some 2] (gdName 0) dYes (dTup (dCons (dVar 1) (dCons (dVar 0) dNil))))))) (sSeq (sSet 3 (dLstM dNil)) (sSeq (sFor (dRng1 (dCons (dCB lenD (dCons (dVar 1) dNil)) dNil)) (gdName 2) (sFor (dRng2 (dCons (dBin addD (dVar 2) (dC (.int 1))) (dCons (dCB lenD (dCons (dVar 1) dNil)) dNil))) (gdName 4) (sIf (dOrT (dBl (dBin inD (dBin ixD (dBin ixD (dVar 1) (dVar 2)) (dC (.int 0))) (dBin ixD (dVar 1) (dVar 4)))) (dBl (dBin inD (dBin ixD (dBin ixD (dVar 1) (dVar 2)) (dC (.int 1))) (dBin ixD (dVar 1) (dVar 4))))) (sDrop (dAppend (dVar 3) (dTup (dCons (dVar 2) (dCons (dVar 4) dNil))))) sNext))) (sRet (dCall 2 m_law_web_by (dCons (dCB lenD (dCons (dVar 1) dNil)) (dCons (dVar 3) dNil))))))))
noncomputable def m_law_pairs_web:List D→List Cell→R D:=fnD 5 false b_law_pairs_web
noncomputable def m_law_due:List D→List Cell→R D:=mDue
noncomputable def b_law:Ev→List Cell→R Fl :=
 (sSeq (sFor (dRng1 (dCons (dC (.int 5)) dNil)) (gdName 1) (sSeq (sSet 2 (dCall 1 m_law_pot (dCons (dCall 2 m_law_cell_at (dCons (dVar 0) (dCons (dVar 1) dNil))) dNil))) (sSeq (sSet 3 (dCall 2 m_law_any_web (dCons (dVar 2) (dCons (dC (.int 12)) dNil)))) (sSeq (sIf (dBl (dBin eqD (dCall 2 m_law_take (dCons (dVar 2) (dCons (dC (.int 4)) dNil))) (dC (.int 0)))) (sSet 3 (dCall 1 m_law_pairs_web (dCons (dBin addD (dC (.int 3)) (dCall 2 m_law_take (dCons (dVar 2) (dCons (dC (.int 4)) dNil)))) dNil))) sNext) (sSeq (sFor (dRng1 (dCons (dC (.int 3)) dNil)) (gdName 4) (sSeq (sSet 5 (dCall 2 m_law_take (dCons (dVar 2) (dCons (dCB lenD (dCons (dVar 3) dNil)) dNil)))) (sSeq (sSet 6 (dCall 2 m_law_take (dCons (dVar 2) (dCons (dCB lenD (dCons (dVar 3) dNil)) dNil)))) (sSeq (sSet 7 (dCall 2 m_law_take (dCons (dVar 2) (dCons (dBin ixD (dLst (dCons (dC (.int 10)) (dCons (dC (.int 10)) (dCons (dC (.int 10)) (dCons (dC (.int 61)) dNil))))) (dCall 2 m_law_take (dCons (dVar 2) (dCons (dC (.int 4)) dNil)))) dNil)))) (sSeq (sSet 8 (dCall 4 m_law_due (dCons (dVar 3) (dCons (dVar 5) (dCons (dVar 6) (dCons (dVar 7) dNil)))))) (sSeq (sIf (dNotT (dBl (dCall 2 (m_law_same 3) (dCons (dCall 4 m_ways_between (dCons (dVar 3) (dCons (dVar 5) (dCons (dVar 6) (dCons (dVar 7) dNil))))) (dCons (dVar 8) dNil))))) (sRet (dC (.bl false))) sNext) (sIf (dNotT (dBl (dCall 2 (m_law_same 3) (dCons (dCall 4 m_ways_between (dCons (dVar 3) (dCons (dVar 6) (dCons (dVar 5) (dCons (dVar 7) dNil))))) (dCons (dVar 8) dNil))))) (sRet (dC (.bl false))) sNext))))))) (sIf (dNotT (dBl (dCall 2 (m_law_same 3) (dCons (dCall 4 m_ways_between (dCons (dVar 3) (dCons (dVar 5) (dCons (dVar 6) (dCons (dC (.int 0)) dNil))))) (dCons (dCB int1D (dCons (dBin eqD (dVar 5) (dVar 6)) dNil)) dNil))))) (sRet (dC (.bl false))) sNext)))))) (sRet (dC (.bl true))))
noncomputable def m_law:List D→List Cell→R D:=fnD 9 false b_law
end Ev
namespace Ev
open PySem L2 PyProof.Rows
set_option genInjectivity false in
set_option genSizeOfSpec false in
structure Tx (K:PySem.W.Frag) (mg:Str→Option Value) where
 a_is_whole:Addr
 fd_is_whole:FuncData
 d_is_whole:Def K mg "is_whole" s_is_whole ["thing"] a_is_whole fd_is_whole
 n_is_whole:PySem.W.nsIn K mainGlobals "is_whole"=some (some (.ref a_is_whole))
 a_is_whole_within:Addr
 fd_is_whole_within:FuncData
 d_is_whole_within:Def K mg "is_whole_within" s_is_whole_within ["thing","least","most"] a_is_whole_within fd_is_whole_within
 n_is_whole_within:PySem.W.nsIn K mainGlobals "is_whole_within"=some (some (.ref a_is_whole_within))
 a_is_place:Addr
 fd_is_place:FuncData
 d_is_place:Def K mg "is_place" s_is_place ["thing","many"] a_is_place fd_is_place
 n_is_place:PySem.W.nsIn K mainGlobals "is_place"=some (some (.ref a_is_place))
 a_counts_after_step:Addr
 fd_counts_after_step:FuncData
 d_counts_after_step:Def K mg "counts_after_step" s_counts_after_step ["web","counts"] a_counts_after_step fd_counts_after_step
 n_counts_after_step:PySem.W.nsIn K mainGlobals "counts_after_step"=some (some (.ref a_counts_after_step))
 a_ways_between:Addr
 fd_ways_between:FuncData
 d_ways_between:Def K mg "ways_between" s_ways_between ["web","one","other","many"] a_ways_between fd_ways_between
 n_ways_between:PySem.W.nsIn K mainGlobals "ways_between"=some (some (.ref a_ways_between))
 a_law_cell_at:Addr
 fd_law_cell_at:FuncData
 d_law_cell_at:Def K mg "_law_cell_at" s_law_cell_at ["script","k"] a_law_cell_at fd_law_cell_at
 n_law_cell_at:PySem.W.nsIn K mainGlobals "_law_cell_at"=some (some (.ref a_law_cell_at))
 a_law_pot:Addr
 fd_law_pot:FuncData
 d_law_pot:Def K mg "_law_pot" s_law_pot ["cell"] a_law_pot fd_law_pot
 n_law_pot:PySem.W.nsIn K mainGlobals "_law_pot"=some (some (.ref a_law_pot))
 a_law_take:Addr
 fd_law_take:FuncData
 d_law_take:Def K mg "_law_take" s_law_take ["pot","far"] a_law_take fd_law_take
 n_law_take:PySem.W.nsIn K mainGlobals "_law_take"=some (some (.ref a_law_take))
 a_law_whole:Addr
 fd_law_whole:FuncData
 d_law_whole:Def K mg "_law_whole" s_law_whole ["found"] a_law_whole fd_law_whole
 n_law_whole:PySem.W.nsIn K mainGlobals "_law_whole"=some (some (.ref a_law_whole))
 a_law_same:Addr
 fd_law_same:FuncData
 d_law_same:Def K mg "_law_same" s_law_same ["found","due"] a_law_same fd_law_same
 n_law_same:PySem.W.nsIn K mainGlobals "_law_same"=some (some (.ref a_law_same))
 a_law_web_by:Addr
 fd_law_web_by:FuncData
 d_law_web_by:Def K mg "_law_web_by" s_law_web_by ["many","pairs"] a_law_web_by fd_law_web_by
 n_law_web_by:PySem.W.nsIn K mainGlobals "_law_web_by"=some (some (.ref a_law_web_by))
 a_law_any_web:Addr
 fd_law_any_web:FuncData
 d_law_any_web:Def K mg "_law_any_web" s_law_any_web ["pot","most"] a_law_any_web fd_law_any_web
 n_law_any_web:PySem.W.nsIn K mainGlobals "_law_any_web"=some (some (.ref a_law_any_web))
 a_law_pairs_web:Addr
 fd_law_pairs_web:FuncData
 d_law_pairs_web:Def K mg "_law_pairs_web" s_law_pairs_web ["m"] a_law_pairs_web fd_law_pairs_web
 n_law_pairs_web:PySem.W.nsIn K mainGlobals "_law_pairs_web"=some (some (.ref a_law_pairs_web))
 a_law_due:Addr
 fd_law_due:FuncData
 d_law_due:Def K mg "_law_due" s_law_due ["web","one","other","many"] a_law_due fd_law_due
 n_law_due:PySem.W.nsIn K mainGlobals "_law_due"=some (some (.ref a_law_due))
 a_law:Addr
 fd_law:FuncData
 d_law:Def K mg "law" s_law ["script"] a_law fd_law
 n_law:PySem.W.nsIn K mainGlobals "law"=some (some (.ref a_law))
 nb_all:mg "all"=none
 nb_bool:mg "bool"=none
 nb_int:mg "int"=none
 nb_isinstance:mg "isinstance"=none
 nb_len:mg "len"=none
 nb_list:mg "list"=none
 nb_range:mg "range"=none
 nb_set:mg "set"=none
 nb_sorted:mg "sorted"=none
 nb_str:mg "str"=none
 nb_sum:mg "sum"=none
 nb_tuple:mg "tuple"=none
 nb_zip:mg "zip"=none
section
variable {P:Program} {w:World} {K:PySem.W.Frag} {mg:Str→Option Value} {base:Heap}
theorem sc_is_whole:FnScope ["thing"] ["thing"] (defScope s_is_whole):=⟨rfl,rfl,rfl,by decide +kernel,rfl,by decide +kernel,by decide +kernel⟩
theorem ok_is_whole (T:Tx K mg):FnOk P w K mg base CX0 1 T.a_is_whole T.fd_is_whole ["thing"] (spD K 1 m_is_whole) :=
 fn_ok (k:=0) T.d_is_whole.fn sc_is_whole rfl rfl fun cdv A outer s H E hr=>by
  show PSsd _ _ b_is_whole
  unfold b_is_whole
  exact (sd_one (sd_ret (pd_and (pd_callB cd_isi T.nb_isinstance boot_isinstance (pd_cons (pd_var 0) (pd_cons (pd_ty rfl T.nb_int boot_int) pd_nil))) (pd_one (pd_not (pd_callB cd_isi T.nb_isinstance boot_isinstance (pd_cons (pd_var 0) (pd_cons (pd_ty rfl T.nb_bool boot_bool) pd_nil))))))))
theorem sc_is_whole_within:FnScope ["thing","least","most"] ["thing","least","most"] (defScope s_is_whole_within):=⟨rfl,rfl,rfl,by decide +kernel,rfl,by decide +kernel,by decide +kernel⟩
theorem ok_is_whole_within (T:Tx K mg):FnOk P w K mg base CX0 2 T.a_is_whole_within T.fd_is_whole_within ["thing","least","most"] (spD K 3 m_is_whole_within) :=
 fn_ok (k:=1) T.d_is_whole_within.fn sc_is_whole_within rfl rfl fun cdv A outer s H E hr=>by
  show PSsd _ _ b_is_whole_within
  unfold b_is_whole_within
  exact (sd_one (sd_ret (pd_and (pd_fn T.d_is_whole (ok_is_whole T) (hr.mono (by decide)) (pd_cons (pd_var 0) pd_nil)) (pd_one (pd_chain od_le od_le (pd_var 1) (pd_var 0) (pd_var 2))))))
theorem sc_is_place:FnScope ["thing","many"] ["thing","many"] (defScope s_is_place):=⟨rfl,rfl,rfl,by decide +kernel,rfl,by decide +kernel,by decide +kernel⟩
theorem ok_is_place (T:Tx K mg):FnOk P w K mg base CX0 3 T.a_is_place T.fd_is_place ["thing","many"] (spD K 2 m_is_place) :=
 fn_ok (k:=2) T.d_is_place.fn sc_is_place rfl rfl fun cdv A outer s H E hr=>by
  show PSsd _ _ b_is_place
  unfold b_is_place
  exact (sd_one (sd_ret (pd_fn T.d_is_whole_within (ok_is_whole_within T) (hr.mono (by decide)) (pd_cons (pd_var 0) (pd_cons pd_int (pd_cons (pd_bin od_sub (pd_var 1) pd_int) pd_nil))))))
theorem sc_counts_after_step:FnScope ["web","counts"] ["web","counts"] (defScope s_counts_after_step):=⟨rfl,rfl,rfl,by decide +kernel,rfl,by decide +kernel,by decide +kernel⟩
theorem ok_counts_after_step (T:Tx K mg):FnOk P w K mg base CX0 1 T.a_counts_after_step T.fd_counts_after_step ["web","counts"] (spD K 2 m_counts_after_step) :=
 fn_ok (k:=0) T.d_counts_after_step.fn sc_counts_after_step rfl rfl fun cdv A outer s H E hr=>by
  show PSsd _ _ b_counts_after_step
  unfold b_counts_after_step
  exact (sd_one (sd_ret (pd_comp (N':=["row","counts"]) (pick:=[none,some 1]) (CompScope.of rfl rfl) (id_tup (pd_var 0)) (fun _ _ _ _ _ _=>(gd_name (i:=0) (hN:=(by decide +kernel:List.Nodup (["row","counts"]:List Str))))) (fun _ _ _ _ _ _=>pifd_nil) (fun _ _ _ _ _ _=>(pd_callB cd_sum T.nb_sum boot_sum (pd_cons (pd_comp (N':=["near","counts"]) (pick:=[none,some 1]) (CompScope.of rfl rfl) (id_tup (pd_var 0)) (fun _ _ _ _ _ _=>(gd_name (i:=0) (hN:=(by decide +kernel:List.Nodup (["near","counts"]:List Str))))) (fun _ _ _ _ _ _=>pifd_nil) (fun _ _ _ _ _ _=>(pd_ix id_seq (pd_var 1) (pd_var 0)))) pd_nil))))))
theorem sc_ways_between:FnScope ["web","one","other","many","counts","step"] ["web","one","other","many"] (defScope s_ways_between):=⟨rfl,rfl,rfl,by decide +kernel,rfl,by decide +kernel,by decide +kernel⟩
theorem ok_ways_between (T:Tx K mg):FnOk P w K mg base CX0 4 T.a_ways_between T.fd_ways_between ["web","one","other","many"] (spD K 4 m_ways_between) :=
 fn_ok (k:=3) T.d_ways_between.fn sc_ways_between rfl rfl fun cdv A outer s H E hr=>by
  show PSsd _ _ b_ways_between
  unfold b_ways_between
  refine sd_cons (sd_if (PW.pt (pd_orT (pd_notT (pd_bool (pd_fn T.d_is_place (ok_is_place T) (hr.mono (by decide)) (pd_cons (pd_var 1) (pd_cons (pd_callB cd_len T.nb_len boot_len (pd_cons (pd_var 0) pd_nil)) pd_nil))))) (pd_or1 (pd_notT (pd_bool (pd_fn T.d_is_place (ok_is_place T) (hr.mono (by decide)) (pd_cons (pd_var 2) (pd_cons (pd_callB cd_len T.nb_len boot_len (pd_cons (pd_var 0) pd_nil)) pd_nil)))))))) (sd_one sd_never) sd_nil) ?_
  refine sd_cons (sd_setComp (i:=4) (hN:=sc_ways_between.nd) (N':=["place","one"]) (pick:=[none,some 1]) (CompScope.of rfl rfl) (id_rng1 (pd_cons (pd_callB cd_len T.nb_len boot_len (pd_cons (pd_var 0) pd_nil)) pd_nil) T.nb_range) (fun _ _ _ _ _ _=>(gd_name (i:=0) (hN:=(by decide +kernel:List.Nodup (["place","one"]:List Str))))) (fun _ _ _ _ _ _=>pifd_nil) (fun _ _ _ _ _ _=>(pd_ifE (pd_cmpT od_eq (pd_var 0) (pd_var 1)) pd_int pd_int))) ?_
  refine sd_cons (sd_for (id_rng1 (pd_cons (pd_var 3) pd_nil) T.nb_range) (gd_name (i:=5) (hN:=sc_ways_between.nd)) (sd_one (sd_set (i:=4) (pd_fn T.d_counts_after_step (ok_counts_after_step T) (hr.mono (by decide)) (pd_cons (pd_var 0) (pd_cons (pd_var 4) pd_nil))) (hN:=sc_ways_between.nd)))) ?_
  exact (sd_one (sd_ret (pd_ix id_seq (pd_var 4) (pd_var 2))))
theorem sc_law_cell_at:FnScope ["script","k"] ["script","k"] (defScope s_law_cell_at):=⟨rfl,rfl,rfl,by decide +kernel,rfl,by decide +kernel,by decide +kernel⟩
theorem ok_law_cell_at (T:Tx K mg):FnOk P w K mg base CX0 1 T.a_law_cell_at T.fd_law_cell_at ["script","k"] (spD K 2 m_law_cell_at) :=
 fn_ok (k:=0) T.d_law_cell_at.fn sc_law_cell_at rfl rfl fun cdv A outer s H E hr=>by
  show PSsd _ _ b_law_cell_at
  unfold b_law_cell_at
  refine sd_cons (sd_if (pd_cmpT od_lt (pd_var 1) (pd_callB cd_len T.nb_len boot_len (pd_cons (pd_var 0) pd_nil))) (sd_one (sd_ret (pd_ix id_seq (pd_var 0) (pd_var 1)))) sd_nil) ?_
  exact (sd_one (sd_ret pd_int))
theorem sc_law_pot:FnScope ["cell","number","j","more"] ["cell"] (defScope s_law_pot):=⟨rfl,rfl,rfl,by decide +kernel,rfl,by decide +kernel,by decide +kernel⟩
theorem ok_law_pot (T:Tx K mg):FnOk P w K mg base CX0 1 T.a_law_pot T.fd_law_pot ["cell"] (spD K 1 m_law_pot) :=
 fn_ok (k:=0) T.d_law_pot.fn sc_law_pot rfl rfl fun cdv A outer s H E hr=>by
  show PSsd _ _ b_law_pot
  unfold b_law_pot
  refine sd_cons (sd_if (pd_cmpT od_ge (pd_var 0) (pd_bin od_pow pd_int pd_int)) (sd_one (sd_ret (pd_lstM (pd_cons (pd_bin od_sub (pd_var 0) (pd_bin od_pow pd_int pd_int)) pd_nil)))) sd_nil) ?_
  refine sd_cons (sd_set (i:=1) pd_int (hN:=sc_law_pot.nd)) ?_
  refine sd_cons (sd_for (id_rng1 (pd_cons pd_int pd_nil) T.nb_range) (gd_name (i:=2) (hN:=sc_law_pot.nd)) (sd_cons (sd_set (i:=3) (pd_bin od_mod (pd_bin od_mul (pd_bin od_add (pd_bin od_add (pd_bin od_mod (pd_var 0) pd_int) (pd_bin od_mul pd_int (pd_var 2))) pd_int) pd_int) pd_int) (hN:=sc_law_pot.nd)) (sd_cons (sd_set (i:=3) (pd_bin od_mod (pd_bin od_add (pd_bin od_add (pd_bin od_mul (pd_var 3) (pd_var 3)) (pd_bin od_mul pd_int (pd_var 2))) pd_int) pd_int) (hN:=sc_law_pot.nd)) (sd_one (sd_set (i:=1) (pd_bin od_add (pd_bin od_mul (pd_var 1) pd_int) (pd_var 3)) (hN:=sc_law_pot.nd)))))) ?_
  exact (sd_one (sd_ret (pd_lstM (pd_cons (pd_var 1) pd_nil))))
theorem sc_law_take:FnScope ["pot","far","found"] ["pot","far"] (defScope s_law_take):=⟨rfl,rfl,rfl,by decide +kernel,rfl,by decide +kernel,by decide +kernel⟩
theorem ok_law_take (T:Tx K mg):FnOk P w K mg base CX0 1 T.a_law_take T.fd_law_take ["pot","far"] (spD K 2 m_law_take) :=
 fn_ok (k:=0) T.d_law_take.fn sc_law_take rfl rfl fun cdv A outer s H E hr=>by
  show PSsd _ _ b_law_take
  unfold b_law_take
  refine sd_cons (sd_set (i:=2) (pd_bin od_mod (pd_ix id_seq (pd_var 0) pd_int) (pd_var 1)) (hN:=sc_law_take.nd)) ?_
  refine sd_cons (sd_asg (pd_bin od_div (pd_ix id_seq (pd_var 0) pd_int) (pd_var 1)) (gd_sub (pd_var 0) pd_int)) ?_
  exact (sd_one (sd_ret (pd_var 2)))
theorem sc_law_whole:FnScope ["found"] ["found"] (defScope s_law_whole):=⟨rfl,rfl,rfl,by decide +kernel,rfl,by decide +kernel,by decide +kernel⟩
theorem ok_law_whole (T:Tx K mg):FnOk P w K mg base CX0 1 T.a_law_whole T.fd_law_whole ["found"] (spD K 1 m_law_whole) :=
 fn_ok (k:=0) T.d_law_whole.fn sc_law_whole rfl rfl fun cdv A outer s H E hr=>by
  show PSsd _ _ b_law_whole
  unfold b_law_whole
  exact (sd_one (sd_ret (pd_and (pd_callB cd_isi T.nb_isinstance boot_isinstance (pd_cons (pd_var 0) (pd_cons (pd_ty rfl T.nb_int boot_int) pd_nil))) (pd_one (pd_not (pd_callB cd_isi T.nb_isinstance boot_isinstance (pd_cons (pd_var 0) (pd_cons (pd_ty rfl T.nb_bool boot_bool) pd_nil))))))))
theorem sc_law_same:FnScope ["found","due"] ["found","due"] (defScope s_law_same):=⟨rfl,rfl,rfl,by decide +kernel,rfl,by decide +kernel,by decide +kernel⟩
theorem ok_law_same (T:Tx K mg):∀ j:Nat,FnOk P w K mg base CX0 (2 + j) T.a_law_same T.fd_law_same ["found","due"] (spD K 2 (m_law_same j))
 | 0=>⟨fun vs H Q E h=>by obtain ⟨_,_,_,_,_,_,p⟩:=h; exact p.elim,fun A outer s H args us vs Q E hr he hb hv h=>by obtain ⟨_,_,_,_,_,_,p⟩:=h; exact p.elim⟩
 | j + 1=>fn_ok (k:=2 + j) T.d_law_same.fn sc_law_same rfl rfl fun cdv A outer s H E hr=>by
  have ih:FnOk P w K mg base CX0 (2 + j) T.a_law_same T.fd_law_same ["found","due"] (spD K 2 (m_law_same j)):=ok_law_same T j
  show PSsd _ _ (b_law_same (m_law_same j))
  unfold b_law_same
  generalize m_law_same j=m at ih ⊢
  refine sd_cons (sd_if (pd_cmpT od_is (pd_var 1) pd_non) (sd_one (sd_ret (pd_cmp od_is (pd_var 0) pd_non))) sd_nil) ?_
  refine sd_cons (sd_if (pd_bool (pd_callB cd_isi T.nb_isinstance boot_isinstance (pd_cons (pd_var 1) (pd_cons (pd_ty rfl T.nb_bool boot_bool) pd_nil)))) (sd_one (sd_ret (pd_and (pd_callB cd_isi T.nb_isinstance boot_isinstance (pd_cons (pd_var 0) (pd_cons (pd_ty rfl T.nb_bool boot_bool) pd_nil))) (pd_one (pd_cmp od_eq (pd_var 0) (pd_var 1)))))) sd_nil) ?_
  refine sd_cons (sd_if (pd_bool (pd_callB cd_isi T.nb_isinstance boot_isinstance (pd_cons (pd_var 1) (pd_cons (pd_ty rfl T.nb_int boot_int) pd_nil)))) (sd_one (sd_ret (pd_and (pd_fn T.d_law_whole (ok_law_whole T) (hr.mono (by omega)) (pd_cons (pd_var 0) pd_nil)) (pd_one (pd_cmp od_eq (pd_var 0) (pd_var 1)))))) sd_nil) ?_
  refine sd_cons (sd_if (pd_bool (pd_callB cd_isi T.nb_isinstance boot_isinstance (pd_cons (pd_var 1) (pd_cons (pd_ty rfl T.nb_str boot_str) pd_nil)))) (sd_one (sd_ret (pd_and (pd_callB cd_isi T.nb_isinstance boot_isinstance (pd_cons (pd_var 0) (pd_cons (pd_ty rfl T.nb_str boot_str) pd_nil))) (pd_one (pd_cmp od_eq (pd_var 0) (pd_var 1)))))) sd_nil) ?_
  refine sd_cons (sd_if (PW.pt (pd_orT (pd_cmpT od_ne (pd_callB cd_isi T.nb_isinstance boot_isinstance (pd_cons (pd_var 1) (pd_cons (pd_ty rfl T.nb_tuple boot_tuple) pd_nil))) (pd_callB cd_isi T.nb_isinstance boot_isinstance (pd_cons (pd_var 0) (pd_cons (pd_ty rfl T.nb_tuple boot_tuple) pd_nil)))) (pd_or1 (pd_cmpT od_ne (pd_callB cd_isi T.nb_isinstance boot_isinstance (pd_cons (pd_var 1) (pd_cons (pd_ty rfl T.nb_list boot_list) pd_nil))) (pd_callB cd_isi T.nb_isinstance boot_isinstance (pd_cons (pd_var 0) (pd_cons (pd_ty rfl T.nb_list boot_list) pd_nil))))))) (sd_one (sd_ret pd_bl)) sd_nil) ?_
  exact (sd_one (sd_ret (pd_and (pd_cmp od_eq (pd_callB cd_len T.nb_len boot_len (pd_cons (pd_var 0) pd_nil)) (pd_callB cd_len T.nb_len boot_len (pd_cons (pd_var 1) pd_nil))) (pd_one (pd_callB cd_all T.nb_all boot_all (pd_cons (pd_comp (N':=["one","other"]) (pick:=[none,none]) (CompScope.of rfl rfl) (id_zip2 (pd_cons (pd_var 0) (pd_cons (pd_var 1) pd_nil)) T.nb_zip) (fun _ _ _ _ _ _=>(gd_tup (n:=2) (gds_cons (gd_name (i:=0) (hN:=(by decide +kernel:List.Nodup (["one","other"]:List Str)))) (gds_cons (gd_name (i:=1) (hN:=(by decide +kernel:List.Nodup (["one","other"]:List Str)))) gds_nil)))) (fun _ _ _ _ _ _=>pifd_nil) (fun _ _ _ _ _ _=>(pd_fn T.d_law_same ih (hr.mono (by omega)) (pd_cons (pd_var 0) (pd_cons (pd_var 1) pd_nil))))) pd_nil))))))
theorem sc_law_web_by:FnScope ["many","pairs","rows","one","other"] ["many","pairs"] (defScope s_law_web_by):=⟨rfl,rfl,rfl,by decide +kernel,rfl,by decide +kernel,by decide +kernel⟩
theorem ok_law_web_by (T:Tx K mg):FnOk P w K mg base CX0 1 T.a_law_web_by T.fd_law_web_by ["many","pairs"] (spD K 2 m_law_web_by) :=
 fn_ok (k:=0) T.d_law_web_by.fn sc_law_web_by rfl rfl fun cdv A outer s H E hr=>by
  show PSsd _ _ b_law_web_by
  unfold b_law_web_by
  refine sd_cons (sd_setComp (i:=2) (hN:=sc_law_web_by.nd) (N':=["place"]) (pick:=[none]) (CompScope.of rfl rfl) (id_rng1 (pd_cons (pd_var 0) pd_nil) T.nb_range) (fun _ _ _ _ _ _=>(gd_name (i:=0) (hN:=(by decide +kernel:List.Nodup (["place"]:List Str))))) (fun _ _ _ _ _ _=>pifd_nil) (fun _ _ _ _ _ _=>(pd_lstM pd_nil))) ?_
  refine sd_cons (sd_for (id_list (pd_var 1)) (gd_tup (n:=2) (gds_cons (gd_name (i:=3) (hN:=sc_law_web_by.nd)) (gds_cons (gd_name (i:=4) (hN:=sc_law_web_by.nd)) gds_nil))) (sd_cons (sd_drop (pd_append (pd_ix id_seq (pd_var 2) (pd_var 3)) (pd_var 4))) (sd_one (sd_drop (pd_append (pd_ix id_seq (pd_var 2) (pd_var 4)) (pd_var 3)))))) ?_
  exact (sd_one (sd_ret (pd_callTy cd_tuple T.nb_tuple boot_tuple (pd_cons (pd_comp (N':=["row"]) (pick:=[none]) (CompScope.of rfl rfl) (id_list (pd_var 2)) (fun _ _ _ _ _ _=>(gd_name (i:=0) (hN:=(by decide +kernel:List.Nodup (["row"]:List Str))))) (fun _ _ _ _ _ _=>pifd_nil) (fun _ _ _ _ _ _=>(pd_callTy cd_tuple T.nb_tuple boot_tuple (pd_cons (pd_sortset (pd_cons (pd_var 0) pd_nil) T.nb_sorted T.nb_set) pd_nil)))) pd_nil))))
theorem sc_law_any_web:FnScope ["pot","most","many","way","pairs","one","other"] ["pot","most"] (defScope s_law_any_web):=⟨rfl,rfl,rfl,by decide +kernel,rfl,by decide +kernel,by decide +kernel⟩
theorem ok_law_any_web (T:Tx K mg):FnOk P w K mg base CX0 2 T.a_law_any_web T.fd_law_any_web ["pot","most"] (spD K 2 m_law_any_web) :=
 fn_ok (k:=1) T.d_law_any_web.fn sc_law_any_web rfl rfl fun cdv A outer s H E hr=>by
  show PSsd _ _ b_law_any_web
  unfold b_law_any_web
  refine sd_cons (sd_set (i:=2) (pd_bin od_add pd_int (pd_fn T.d_law_take (ok_law_take T) (hr.mono (by decide)) (pd_cons (pd_var 0) (pd_cons (pd_var 1) pd_nil)))) (hN:=sc_law_any_web.nd)) ?_
  refine sd_cons (sd_set (i:=3) (pd_fn T.d_law_take (ok_law_take T) (hr.mono (by decide)) (pd_cons (pd_var 0) (pd_cons pd_int pd_nil))) (hN:=sc_law_any_web.nd)) ?_
  refine sd_cons (sd_set (i:=4) (pd_lstM pd_nil) (hN:=sc_law_any_web.nd)) ?_
  refine sd_cons (sd_for (id_rng1 (pd_cons (pd_var 2) pd_nil) T.nb_range) (gd_name (i:=5) (hN:=sc_law_any_web.nd)) (sd_one (sd_for (id_rng2 (pd_cons (pd_bin od_add (pd_var 5) pd_int) (pd_cons (pd_var 2) pd_nil)) T.nb_range) (gd_name (i:=6) (hN:=sc_law_any_web.nd)) (sd_one (sd_if (PW.pt (pd_orT (PW.pt (pd_andT (pd_cmpT od_eq (pd_var 3) pd_int) (pd_and1 (pd_cmpT od_eq (pd_bin od_mod (pd_bin od_sub (pd_var 6) (pd_var 5)) pd_int) pd_int)))) (pd_or1 (PW.pt (pd_andT (pd_cmpT od_gt (pd_var 3) pd_int) (pd_and1 (pd_cmpT od_eq (pd_fn T.d_law_take (ok_law_take T) (hr.mono (by decide)) (pd_cons (pd_var 0) (pd_cons (pd_bin od_add pd_int (pd_var 3)) pd_nil))) pd_int))))))) (sd_one (sd_drop (pd_append (pd_var 4) (pd_tup (pd_cons (pd_var 5) (pd_cons (pd_var 6) pd_nil)))))) sd_nil))))) ?_
  exact (sd_one (sd_ret (pd_fn T.d_law_web_by (ok_law_web_by T) (hr.mono (by decide)) (pd_cons (pd_var 2) (pd_cons (pd_var 4) pd_nil)))))
theorem sc_law_pairs_web:FnScope ["m","places","one","pairs","other"] ["m"] (defScope s_law_pairs_web):=⟨rfl,rfl,rfl,by decide +kernel,rfl,by decide +kernel,by decide +kernel⟩
theorem ok_law_pairs_web (T:Tx K mg):FnOk P w K mg base CX0 2 T.a_law_pairs_web T.fd_law_pairs_web ["m"] (spD K 1 m_law_pairs_web) :=
 fn_ok (k:=1) T.d_law_pairs_web.fn sc_law_pairs_web rfl rfl fun cdv A outer s H E hr=>by
  show PSsd _ _ b_law_pairs_web
  unfold b_law_pairs_web
  refine sd_cons (sd_set (i:=1) (pd_lstM pd_nil) (hN:=sc_law_pairs_web.nd)) ?_
  refine sd_cons (sd_for (id_rng1 (pd_cons (pd_var 0) pd_nil) T.nb_range) (gd_name (i:=2) (hN:=sc_law_pairs_web.nd)) (sd_one (sd_drop (pd_extend (pd_var 1) (pd_comp (N':=["other","one"]) (pick:=[none,some 2]) (CompScope.of rfl rfl) (id_rng2 (pd_cons (pd_bin od_add (pd_var 2) pd_int) (pd_cons (pd_var 0) pd_nil)) T.nb_range) (fun _ _ _ _ _ _=>(gd_name (i:=0) (hN:=(by decide +kernel:List.Nodup (["other","one"]:List Str))))) (fun _ _ _ _ _ _=>pifd_nil) (fun _ _ _ _ _ _=>(pd_tup (pd_cons (pd_var 1) (pd_cons (pd_var 0) pd_nil))))))))) ?_
  refine sd_cons (sd_set (i:=3) (pd_lstM pd_nil) (hN:=sc_law_pairs_web.nd)) ?_
  refine sd_cons (sd_for (id_rng1 (pd_cons (pd_callB cd_len T.nb_len boot_len (pd_cons (pd_var 1) pd_nil)) pd_nil) T.nb_range) (gd_name (i:=2) (hN:=sc_law_pairs_web.nd)) (sd_one (sd_for (id_rng2 (pd_cons (pd_bin od_add (pd_var 2) pd_int) (pd_cons (pd_callB cd_len T.nb_len boot_len (pd_cons (pd_var 1) pd_nil)) pd_nil)) T.nb_range) (gd_name (i:=4) (hN:=sc_law_pairs_web.nd)) (sd_one (sd_if (PW.pt (pd_orT (pd_cmpT (od_in (hu64 hr)) (pd_ix id_seq (pd_ix id_seq (pd_var 1) (pd_var 2)) pd_int) (pd_ix id_seq (pd_var 1) (pd_var 4))) (pd_or1 (pd_cmpT (od_in (hu64 hr)) (pd_ix id_seq (pd_ix id_seq (pd_var 1) (pd_var 2)) pd_int) (pd_ix id_seq (pd_var 1) (pd_var 4)))))) (sd_one (sd_drop (pd_append (pd_var 3) (pd_tup (pd_cons (pd_var 2) (pd_cons (pd_var 4) pd_nil)))))) sd_nil))))) ?_
  exact (sd_one (sd_ret (pd_fn T.d_law_web_by (ok_law_web_by T) (hr.mono (by decide)) (pd_cons (pd_callB cd_len T.nb_len boot_len (pd_cons (pd_var 1) pd_nil)) (pd_cons (pd_var 3) pd_nil)))))
theorem sc_law_due:FnScope ["web","one","other","many","found","turn","later","place","near"] ["web","one","other","many"] (defScope s_law_due):=⟨rfl,rfl,rfl,by decide +kernel,rfl,by decide +kernel,by decide +kernel⟩
theorem ok_law_due (T:Tx K mg):FnOk P w K mg base CX0 1 T.a_law_due T.fd_law_due ["web","one","other","many"] (spD K 4 m_law_due) :=
 fn_due (k:=0) T.d_law_due.fn sc_law_due rfl rfl fun cdv A outer s H E hr=>by
  unfold dueT
  refine pss_cons (ps_set (i:=4) sc_law_due.nd rfl (Or.inl rfl) (pe_disp (pps_cons (pv 1) pe_int pps_nil) rfl rfl (by simp) (by decide))) ?_
  refine pss_cons (ps_for PassesOwn.never rfl (pi_range1 rfl T.nb_range (pa_cons (pv 3) pa_nil (starE rfl)) (star1 rfl)) (pg_name (i:=5) sc_law_due.nd rfl (Or.inl rfl)) ?_) ?_
  ·refine pss_cons (ps_set (i:=6) sc_law_due.nd rfl (Or.inl rfl) pe_dnewK) ?_
   refine pss_cons (ps_for PassesOwn.never rfl (pi_dict (pv 4)) (pg_name (i:=7) sc_law_due.nd rfl (Or.inl rfl)) (pss_one (ps_for PassesOwn.never rfl (pi_tup (pe_ix id_seq (pv 0) (pv 7) (fun _ _=>rfl))) (pg_name (i:=8) sc_law_due.nd rfl (Or.inl rfl)) (pss_one ?_)))) (pss_one (ps_set (i:=4) sc_law_due.nd rfl (Or.inl rfl) (pv 6)))
   exact ps_dput (hu1 (hu64 hr)) (pv 6) (pv 8) (pe_op op_add (pe_dget2 (hu1 (hu64 hr)) (pv 6) (pv 8) pe_int (m2_of rfl rfl rfl rfl)) (pe_dget (hu1 (hu64 hr)) (pv 4) (pv 7) (fun _ _=>rfl))) rfl
  ·exact pss_one (ps_ret (pe_dget2 (hu1 (hu64 hr)) (pv 4) (pv 2) pe_int (m2_of rfl rfl rfl rfl)))
theorem sc_law:FnScope ["script","k","pot","web","turn","one","other","many","due"] ["script"] (defScope s_law):=⟨rfl,rfl,rfl,by decide +kernel,rfl,by decide +kernel,by decide +kernel⟩
theorem ok_law (T:Tx K mg):FnOk P w K mg base CX0 6 T.a_law T.fd_law ["script"] (spD K 1 m_law) :=
 fn_ok (k:=5) T.d_law.fn sc_law rfl rfl fun cdv A outer s H E hr=>by
  show PSsd _ _ b_law
  unfold b_law
  refine sd_cons (sd_for (id_rng1 (pd_cons pd_int pd_nil) T.nb_range) (gd_name (i:=1) (hN:=sc_law.nd)) (sd_cons (sd_set (i:=2) (pd_fn T.d_law_pot (ok_law_pot T) (hr.mono (by decide)) (pd_cons (pd_fn T.d_law_cell_at (ok_law_cell_at T) (hr.mono (by decide)) (pd_cons (pd_var 0) (pd_cons (pd_var 1) pd_nil))) pd_nil)) (hN:=sc_law.nd)) (sd_cons (sd_set (i:=3) (pd_fn T.d_law_any_web (ok_law_any_web T) (hr.mono (by decide)) (pd_cons (pd_var 2) (pd_cons pd_int pd_nil))) (hN:=sc_law.nd)) (sd_cons (sd_if (pd_cmpT od_eq (pd_fn T.d_law_take (ok_law_take T) (hr.mono (by decide)) (pd_cons (pd_var 2) (pd_cons pd_int pd_nil))) pd_int) (sd_one (sd_set (i:=3) (pd_fn T.d_law_pairs_web (ok_law_pairs_web T) (hr.mono (by decide)) (pd_cons (pd_bin od_add pd_int (pd_fn T.d_law_take (ok_law_take T) (hr.mono (by decide)) (pd_cons (pd_var 2) (pd_cons pd_int pd_nil)))) pd_nil)) (hN:=sc_law.nd))) sd_nil) (sd_cons (sd_for (id_rng1 (pd_cons pd_int pd_nil) T.nb_range) (gd_name (i:=4) (hN:=sc_law.nd)) (sd_cons (sd_set (i:=5) (pd_fn T.d_law_take (ok_law_take T) (hr.mono (by decide)) (pd_cons (pd_var 2) (pd_cons (pd_callB cd_len T.nb_len boot_len (pd_cons (pd_var 3) pd_nil)) pd_nil))) (hN:=sc_law.nd)) (sd_cons (sd_set (i:=6) (pd_fn T.d_law_take (ok_law_take T) (hr.mono (by decide)) (pd_cons (pd_var 2) (pd_cons (pd_callB cd_len T.nb_len boot_len (pd_cons (pd_var 3) pd_nil)) pd_nil))) (hN:=sc_law.nd)) (sd_cons (sd_set (i:=7) (pd_fn T.d_law_take (ok_law_take T) (hr.mono (by decide)) (pd_cons (pd_var 2) (pd_cons (pd_ix id_seq (pd_lst (pd_cons pd_int (pd_cons pd_int (pd_cons pd_int (pd_cons pd_int pd_nil))))) (pd_fn T.d_law_take (ok_law_take T) (hr.mono (by decide)) (pd_cons (pd_var 2) (pd_cons pd_int pd_nil)))) pd_nil))) (hN:=sc_law.nd)) (sd_cons (sd_set (i:=8) (pd_fn T.d_law_due (ok_law_due T) (hr.mono (by decide)) (pd_cons (pd_var 3) (pd_cons (pd_var 5) (pd_cons (pd_var 6) (pd_cons (pd_var 7) pd_nil))))) (hN:=sc_law.nd)) (sd_cons (sd_if (pd_notT (pd_bool (pd_fn T.d_law_same (ok_law_same T 3) (hr.mono (by decide)) (pd_cons (pd_fn T.d_ways_between (ok_ways_between T) (hr.mono (by decide)) (pd_cons (pd_var 3) (pd_cons (pd_var 5) (pd_cons (pd_var 6) (pd_cons (pd_var 7) pd_nil))))) (pd_cons (pd_var 8) pd_nil))))) (sd_one (sd_ret pd_bl)) sd_nil) (sd_one (sd_if (pd_notT (pd_bool (pd_fn T.d_law_same (ok_law_same T 3) (hr.mono (by decide)) (pd_cons (pd_fn T.d_ways_between (ok_ways_between T) (hr.mono (by decide)) (pd_cons (pd_var 3) (pd_cons (pd_var 6) (pd_cons (pd_var 5) (pd_cons (pd_var 7) pd_nil))))) (pd_cons (pd_var 8) pd_nil))))) (sd_one (sd_ret pd_bl)) sd_nil)))))))) (sd_one (sd_if (pd_notT (pd_bool (pd_fn T.d_law_same (ok_law_same T 3) (hr.mono (by decide)) (pd_cons (pd_fn T.d_ways_between (ok_ways_between T) (hr.mono (by decide)) (pd_cons (pd_var 3) (pd_cons (pd_var 5) (pd_cons (pd_var 6) (pd_cons pd_int pd_nil))))) (pd_cons (pd_callTy cd_int1 T.nb_int boot_int (pd_cons (pd_cmp od_eq (pd_var 5) (pd_var 6)) pd_nil)) pd_nil))))) (sd_one (sd_ret pd_bl)) sd_nil))))))) ?_
  exact (sd_one (sd_ret pd_bl))
end
end Ev
namespace Ev
open PySem L2
theorem seq_ok {s t:Ev→List Cell→R Fl} {e e':Ev} {c c':List Cell} (h:s e c=.ok (.nx e') c'):sSeq s t e c=t e' c':=by rw [x_seq,h]; rfl
theorem nat_of {i:Int} (h:0≤i):∃ n:Nat,i=n:=⟨i.toNat,by omega⟩
theorem for_invI {g:Gd} {s:Ev→List Cell→R Fl} (inv:Nat→Ev→List Cell→Prop):∀ (items:List D) (k:Nat) (e:Ev) (c:List Cell),inv k e c →
  (∀ i x,items[i]? = some x→∀ e c,inv (k + i) e c→∃ e' e'' c' c'',g x e c=.ok e' c'∧s e' c'=.ok (.nx e'') c''∧inv (k + i + 1) e'' c'') →
  ∃ e' c',inv (k + items.length) e' c'∧forD (fun _=>True) g s items e c=.ok (.nx e') c'
 | [],k,e,c,hi,_=>⟨e,c,hi,by simp⟩
 | x :: xs,k,e,c,hi,h=>by
  obtain ⟨e',e'',c',c'',h1,h2,h3⟩:=h 0 x rfl e c hi
  obtain ⟨e3,c3,i3,h4⟩:=for_invI inv xs (k + 1) e'' c'' h3 fun i y hy e c hi=>by
   have:=h (i + 1) y (by simpa using hy) e c (by rwa [show k + (i + 1)=k + 1 + i by omega])
   rwa [show k + (i + 1) + 1=k + 1 + i + 1 by omega] at this
  exact ⟨e3,c3,by rwa [List.length_cons,show k + (xs.length + 1)=k + 1 + xs.length by omega],by rw [for_cons,h1,R.bind_ok,h2]; exact h4⟩
noncomputable def adj (ps:List (Nat×Nat)) (r:Nat):List Nat:=ps.filterMap fun p=>if p.1=r then some p.2 else if p.2=r then some p.1 else none
noncomputable def prD (p:Nat×Nat):D:=.tup [.int p.1,.int p.2]
noncomputable def PsOk (m:Nat) (ps:List (Nat×Nat)):Prop:=∀ p∈ps,p.1 < p.2∧p.2 < m
theorem adj_lt {m:Nat} {ps:List (Nat×Nat)} (h:PsOk m ps) (r x:Nat) (hx:x∈adj ps r):x < m:=by
 obtain ⟨p,hp,e⟩:=List.mem_filterMap.mp hx
 have:=h p hp
 split at e
 ·cases e; omega
 ·split at e
  ·cases e; omega
  ·cases e
theorem adj_len (ps:List (Nat×Nat)) (r:Nat):(adj ps r).length≤ps.length:=List.length_filterMap_le _ _
theorem adj_snoc (ps:List (Nat×Nat)) (p:Nat×Nat) (r:Nat):adj (ps ++ [p]) r=adj ps r ++ (if p.1=r then [p.2] else if p.2=r then [p.1] else []):=by
 unfold adj
 rw [List.filterMap_append]
 congr 1
 by_cases h1:p.1=r
 ·simp [h1]
 ·by_cases h2:p.2=r
  ·simp [h1,h2]
  ·simp [h1,h2]
noncomputable def rowsC (m:Nat) (f:Nat→List Nat):List Cell:=(List.range m).map fun r=>.lst (nD (f r))
noncomputable def refsD (n m:Nat):List D:=(List.range m).map fun r=>.ref (n + r)
theorem rows_at {m r:Nat} (f:Nat→List Nat) (c:List Cell) (h:r < m):(c ++ rowsC m f)[c.length + r]? = some (.lst (nD (f r))):=by
 rw [List.getElem?_append_right (by omega)]
 simp [rowsC,h]
theorem refs_at {n m r:Nat} (h:r < m):atI (refsD n m) (r:Int)=some (.ref (n + r)):=atI_nat (by simp [refsD,h])
theorem rows_set {m r x:Nat} (f:Nat→List Nat) (c:List Cell) (h:r < m):(c ++ rowsC m f).set (c.length + r) (.lst (nD (f r) ++ [.int x]))=c ++ rowsC m (fun z=>if z=r then f z ++ [x] else f z):=by
 rw [List.set_append_right _ _ (by omega)]
 congr 1
 rw [Nat.add_sub_cancel_left]
 apply List.ext_getElem
 ·simp [rowsC]
 ·intro i h1 h2
  rw [List.getElem_set]
  simp only [rowsC,List.getElem_map,List.getElem_range]
  by_cases e:r=i
  ·subst e; simp [nD]
  ·rw [if_neg e,if_neg (Ne.symm e)]
theorem comp_refs:∀ (items:List D) (e:Ev) (acc:List D) (c:List Cell),e.length=1→compD (fun _=>True) (gdName 0) dYes (dLstM dNil) items e acc c=.ok (acc ++ refsD c.length items.length) (c ++ rowsC items.length fun _=>[])
 | [],e,acc,c,_=>by simp [refsD,rowsC]
 | x :: xs,e,acc,c,he=>by
  rw [comp_cons]
  have h1:gdName 0 x e c=.ok (e.set 0 (some x)) c:=rfl
  have h2:dLstM dNil (e.set 0 (some x)) c=.ok (.ref c.length) (c ++ [.lst []]):=by
   have:(0:Nat)≤sizeLine:=Nat.zero_le _
   simp
  rw [h1,R.bind_ok,x_yes,R.bind_ok,if_pos rfl,h2,R.bind_ok,comp_refs xs _ _ _ (by simpa using he)]
  have e1:acc ++ [D.ref c.length] ++ refsD (c ++ [Cell.lst []]).length xs.length=acc ++ refsD c.length (x :: xs).length:=by
   rw [List.append_assoc,List.length_append,List.length_cons,List.length_nil]
   congr 1
   unfold refsD
   rw [List.length_cons,List.range_succ_eq_map,List.map_cons,List.map_map]
   simp only [List.cons_append,List.nil_append,Nat.add_zero]
   congr 1
   refine List.map_congr_left fun r _=>?_
   simp only [Function.comp]
   congr 1; omega
  have e2:c ++ [Cell.lst []] ++ rowsC xs.length (fun _=>[])=c ++ rowsC (x :: xs).length fun _=>[]:=by
   rw [List.append_assoc]
   congr 1
   unfold rowsC
   rw [List.length_cons,List.range_succ_eq_map,List.map_cons,List.map_map]
   rfl
  rw [e1,e2]
noncomputable def wbB:Ev→List Cell→R Fl:=(sSeq (sDrop (dAppend (dBin ixD (dVar 2) (dVar 3)) (dVar 4))) (sDrop (dAppend (dBin ixD (dVar 2) (dVar 4)) (dVar 3))))
theorem wb_step {m a b:Nat} {f:Nat→List Nat} {c:List Cell} (a0 a1:Option D) (ha:a < m) (hb:b < m) (hab:a≠b) (hl:∀ r,(f r).length < 1000) :
  wbB [a0,a1,some (.lst (refsD c.length m)),some (.int a),some (.int b)] (c ++ rowsC m f)=.ok (.nx [a0,a1,some (.lst (refsD c.length m)),some (.int a),some (.int b)]) (c ++ rowsC m fun r=>if r=a then f r ++ [b] else if r=b then f r ++ [a] else f r):=by
 have hs:=small_line (n:=1000) (by decide)
 have h1:∀ c',ixD (.lst (refsD c.length m)) (.int a) c'=.ok (.ref (c.length + a)) c':=fun c'=>by rw [x_ixL,refs_at ha]
 have h2:∀ c',ixD (.lst (refsD c.length m)) (.int b) c'=.ok (.ref (c.length + b)) c':=fun c'=>by rw [x_ixL,refs_at hb]
 have g1:=rows_at f c ha
 have g2:=rows_at (fun z=>if z=a then f z ++ [b] else f z) c hb
 have l1:=hl a
 have l2:=hl b
 have s1:=rows_set (x:=b) f c ha
 have s2:=rows_set (x:=a) (fun z=>if z=a then f z ++ [b] else f z) c hb
 have nba:¬ b=a:=fun z=>hab z.symm
 simp only [if_neg nba] at g2 s2
 have k1:dAppend (dBin ixD (dVar 2) (dVar 3)) (dVar 4) [a0,a1,some (.lst (refsD c.length m)),some (.int a),some (.int b)] (c ++ rowsC m f)=.ok .non (c ++ rowsC m fun z=>if z=a then f z ++ [b] else f z):=by
  unfold dAppend
  simp only [x_bin,x_var,gz,gs,R.bind_ok,h1]
  rw [g1]
  dsimp only
  rw [if_pos ⟨by simp only [List.length_map]; omega,rfl⟩,s1]
 have k2:dAppend (dBin ixD (dVar 2) (dVar 4)) (dVar 3) [a0,a1,some (.lst (refsD c.length m)),some (.int a),some (.int b)] (c ++ rowsC m fun z=>if z=a then f z ++ [b] else f z)=.ok .non (c ++ rowsC m fun r=>if r=a then f r ++ [b] else if r=b then f r ++ [a] else f r):=by
  unfold dAppend
  simp only [x_bin,x_var,gz,gs,R.bind_ok,h2]
  rw [g2]
  dsimp only
  rw [if_pos ⟨by simp only [List.length_map]; omega,rfl⟩,s2]
  congr 3
  funext z
  by_cases e1:z=a
  ·subst e1; simp [hab]
  ·by_cases e2:z=b
   ·subst e2; simp [e1]
   ·simp [e1,e2]
 unfold wbB
 rw [x_seq,x_drop,k1]
 simp only [R.bind_ok]
 rw [x_drop,k2]
 rfl
theorem fun_adj {ps:List (Nat×Nat)} {i:Nat} (hi:i < ps.length) (hne:ps[i].1≠ps[i].2):(fun r=>if r=ps[i].1 then adj (ps.take i) r ++ [ps[i].2] else if r=ps[i].2 then adj (ps.take i) r ++ [ps[i].1] else adj (ps.take i) r)=adj (ps.take (i + 1)):=by
 funext r
 rw [List.take_succ_eq_append_getElem hi,adj_snoc]
 by_cases h1:ps[i].1=r
 ·rw [if_pos h1.symm,if_pos h1]
 ·rw [if_neg (Ne.symm h1),if_neg h1]
  by_cases h2:ps[i].2=r
  ·rw [if_pos h2.symm,if_pos h2]
  ·rw [if_neg (Ne.symm h2),if_neg h2,List.append_nil]
theorem wb_loop {m:Nat} {ps:List (Nat×Nat)} {c:List Cell} (hp:PsOk m ps) (hl:ps.length < 1000) (st:List Cell→Prop) (hst:∀ R:List Cell,st (c ++ R)) (a0 a1:Option D) :
  ∃ v w,forD st (gdTup 2 (gdCons (gdName 3) (gdCons (gdName 4) gdNil))) wbB (ps.map prD) [a0,a1,some (.lst (refsD c.length m)),none,none] (c ++ rowsC m fun _=>[])=.ok (.nx [a0,a1,some (.lst (refsD c.length m)),v,w]) (c ++ rowsC m (adj ps)):=by
 obtain ⟨v',hf⟩:=for_idx (α:=Option D×Option D) (st:=st) (g:=(gdTup 2 (gdCons (gdName 3) (gdCons (gdName 4) gdNil)))) (s:=wbB) (fun i=>c ++ rowsC m (adj (ps.take i))) (fun _ v=>[a0,a1,some (.lst (refsD c.length m)),v.1,v.2]) (ps.map prD) 0 (none,none) (fun i _=>hst _) (fun i x hx v=>by
  rw [Nat.zero_add]
  have hi:i < ps.length:=by have:=(List.getElem?_eq_some_iff.mp hx).1; simpa using this
  have ex:x=prD ps[i]:=by
   rw [List.getElem?_map,List.getElem?_eq_getElem hi] at hx
   cases hx; rfl
  subst ex
  have hq:=hp _ (List.getElem_mem hi)
  have hs:=wb_step (m:=m) (a:=ps[i].1) (b:=ps[i].2) (f:=adj (ps.take i)) (c:=c) a0 a1 (by omega) hq.2 (by omega) (fun r=>by have:=adj_len (ps.take i) r; rw [List.length_take] at this; omega)
  rw [fun_adj hi (by omega)] at hs
  refine ⟨[a0,a1,some (.lst (refsD c.length m)),some (.int ps[i].1),some (.int ps[i].2)],?_,(some (.int ps[i].1),some (.int ps[i].2)),hs⟩
  simp [prD])
 rw [Nat.zero_add,List.length_map,List.take_length] at hf
 exact ⟨v'.1,v'.2,hf⟩
noncomputable def webD (rows:List (List Nat)):D:=.tup (rows.map fun r=>.tup (nD r))
noncomputable def webR (m:Nat) (ps:List (Nat×Nat)):List (List Nat):=(List.range m).map fun r=>ssort (adj ps r)
theorem web_noref (rows:List (List Nat)):noRef (webD rows)=true:=by
 unfold webD noRef
 refine noRefs_iff.mpr fun d hd=>?_
 obtain ⟨r,_,rfl⟩:=List.mem_map.mp hd
 unfold noRef
 exact noRefs_nD r
noncomputable def rwE:Ev→List Cell→R D:=(dCB tupleD (dCons (dSortSet (dCons (dVar 0) dNil)) dNil))
theorem rw_comp {m:Nat} {ps:List (Nat×Nat)} {c:List Cell} (hp:PsOk m ps) (hm:m < 64):compD (fun _=>True) (gdName 0) dYes rwE (refsD c.length m) [none] [] (c ++ rowsC m (adj ps))=.ok ((webR m ps).map fun r=>.tup (nD r)) (c ++ rowsC m (adj ps)):=by
 have:=comp_pure (c:=c ++ rowsC m (adj ps)) (g:=gdName 0) (t:=dYes) (a:=rwE) (fun e=>∃ v,e=[v]) (fun _=>true) (fun d=>match d with | .ref k=>.tup (nD (ssort (adj ps (k - c.length)))) | d=>d) (refsD c.length m) [none] [] ⟨_,rfl⟩ (fun d hd e ⟨v,he⟩=>by
  subst he
  obtain ⟨r,hr,rfl⟩:=List.mem_map.mp hd
  have hr:=List.mem_range.mp hr
  have hlt:=fun x hx=>adj_lt hp r x hx
  have hup:=up_len (up_ssort (adj ps r)) (m:=m) (fun x hx=>hlt x (mem_ssort.mp hx))
  have hn:=natsD_nD (ns:=adj ps r) (by omega) (fun x hx=>by have:=hlt x hx; omega)
  have hlst:lstD (c ++ rowsC m (adj ps)) (.ref (c.length + r))=some (nD (adj ps r)):=by unfold lstD; dsimp only; rw [rows_at _ _ hr]
  refine ⟨_,rfl,⟨_,rfl⟩,rfl,fun _=>?_⟩
  have e1:dSortSet (dCons (dVar 0) dNil) [some (.ref (c.length + r))] (c ++ rowsC m (adj ps))=.ok (.lst (nD (ssort (adj ps r)))) (c ++ rowsC m (adj ps)):=by
   rw [x_sortset]
   simp only [x_cons,x_var,gz,x_nil,R.bind_ok,hlst,hn]
  dsimp only
  rw [Nat.add_sub_cancel_left]
  show rwE [some (.ref (c.length + r))] _=_
  unfold rwE
  simp only [x_cb,x_cons,x_nil,R.bind_ok,e1]
  rfl)
 rw [this,List.nil_append]
 congr 1
 unfold refsD webR
 have ft:∀ l:List D,l.filter (fun _=>true)=l:=fun l=>by simp
 rw [ft,List.map_map,List.map_map]
 refine List.map_congr_left fun r _=>?_
 simp
theorem wb_head {q:Int} {c c':List Cell} {l:List D} (a1:Option D) (b1:-4611686018427387904≤q∧q < 4611686018427387904) (hl:(rngD 0 q).length < sizeLine) (hc:compD (fun _=>True) (gdName 0) dYes (dLstM dNil) (rngD 0 q) [none] [] c=.ok l c') :
  (sSet 2 (dComp (dRng1 (dCons (dVar 0) dNil)) [none] (gdName 0) dYes (dLstM dNil))) [some (.int q),a1,none,none,none] c=.ok (.nx [some (.int q),a1,some (.lst l),none,none]) c':=by
 simp only [x_set,x_comp,x_rng1,x_cons,x_var,gz,gs,x_nil,R.bind_ok]
 rw [if_pos (by omega)]
 simp only [R.bind_ok]
 rw [if_pos hl]
 have:pickD [none] [some (D.int q),a1,none,none,none]=[none]:=rfl
 rw [this,hc]
 rfl
theorem wb_all {q:Int} {k:Nat} {c c1 c2:List Cell} {l:List D} {v w:Option D} {W:D} {s0 s1 s2:Ev→List Cell→R Fl} (e0:s0 [some (.int q),some (.ref k),none,none,none] c=.ok (.nx [some (.int q),some (.ref k),some (.lst l),none,none]) c1)
  (e1:s1 [some (.int q),some (.ref k),some (.lst l),none,none] c1=.ok (.nx [some (.int q),some (.ref k),some (.lst l),v,w]) c2) (e2:s2 [some (.int q),some (.ref k),some (.lst l),v,w] c2=.ok (.rt W) c2) (hx:exitD false c.length W c2=.ok W c) :
  fnD 5 false (sSeq s0 (sSeq s1 s2)) [.int q,.ref k] c=.ok W c:=by
 rw [x_fn]
 have e3:startD 5 [D.int q,.ref k]=[some (.int q),some (.ref k),none,none,none]:=rfl
 rw [e3,seq_ok e0,seq_ok e1,e2]
 exact hx
theorem wb_tail {q:Int} {k:Nat} {c:List Cell} {l m:List D} {v w:Option D} (hl:l.length < sizeLine) (h:compD (fun _=>True) (gdName 0) dYes rwE l [none] [] c=.ok m c):(sRet (dCB tupleD (dCons (dComp (dSeq (dVar 2)) [none] (gdName 0) dYes (dCB tupleD (dCons (dSortSet (dCons (dVar 0) dNil)) dNil))) dNil))) [some (.int q),some (.ref k),some (.lst l),v,w] c=.ok (.rt (.tup m)) c:=by
 simp only [x_ret,x_cb,x_cons,x_comp,x_nil,R.bind_ok]
 unfold dSeq
 simp only [x_var,gz,gs,R.bind_ok]
 rw [if_pos hl]
 have:pickD [none] [some (D.int q),some (.ref k),some (.lst l),v,w]=[none]:=rfl
 rw [this]
 unfold rwE at h
 rw [h]
 rfl
theorem web_by {m k:Nat} {ps:List (Nat×Nat)} {c:List Cell} (hp:PsOk m ps) (hl:ps.length < 1000) (hm:m < 64) (hk:c[k]? = some (.lst (ps.map prD))):m_law_web_by [.int m,.ref k] c=.ok (webD (webR m ps)) c:=by
 have hs:=small_line (n:=1000) (by decide)
 have hkl:k < c.length:=(List.getElem?_eq_some_iff.mp hk).1
 have hc:=comp_refs (rngD 0 (m:Int)) [none] [] c rfl
 have hrl:(rngD 0 (m:Int)).length=m:=by rw [rng_len]; omega
 have hrl2:(rngD 0 (m:Int)).length < sizeLine:=by rw [hrl]; omega
 rw [hrl,List.nil_append] at hc
 have hkR:∀ R:List Cell,(c ++ R)[k]? = some (.lst (ps.map prD)):=fun R=>by rw [List.getElem?_append_left hkl]; exact hk
 obtain ⟨v,w,hf⟩:=wb_loop (m:=m) hp hl (fun c'=>c'[k]? = some (.lst (ps.map prD))) hkR (some (.int m)) (some (.ref k))
 have hw:=rw_comp (c:=c) hp hm
 have hrf:(refsD c.length m).length < sizeLine:=by simp [refsD]; omega
 have e1:(sFor (dSeq (dVar 1)) (gdTup 2 (gdCons (gdName 3) (gdCons (gdName 4) gdNil))) wbB) [some (.int m),some (.ref k),some (.lst (refsD c.length m)),none,none] (c ++ rowsC m fun _=>[])=.ok (.nx [some (.int m),some (.ref k),some (.lst (refsD c.length m)),v,w]) (c ++ rowsC m (adj ps)):=by
  rw [x_for]
  unfold dSeq
  simp only [x_var,gz,gs,R.bind_ok,hkR]
  exact hf
 have hb:b_law_web_by=sSeq (sSet 2 (dComp (dRng1 (dCons (dVar 0) dNil)) [none] (gdName 0) dYes (dLstM dNil))) (sSeq (sFor (dSeq (dVar 1)) (gdTup 2 (gdCons (gdName 3) (gdCons (gdName 4) gdNil))) wbB) (sRet (dCB tupleD (dCons (dComp (dSeq (dVar 2)) [none] (gdName 0) dYes (dCB tupleD (dCons (dSortSet (dCons (dVar 0) dNil)) dNil))) dNil)))):=rfl
 rw [m_law_web_by,hb]
 have nr:=web_noref (webR m ps)
 have et:(c ++ rowsC m (adj ps)).take c.length=c:=by simp
 refine wb_all (wb_head (some (.ref k)) (by omega) hrl2 hc) e1 (wb_tail hrf hw) ?_
 unfold webD at nr ⊢
 unfold exitD
 dsimp only
 rw [if_pos nr,et]
end Ev
namespace Ev
open PySem L2
noncomputable def Pot (j:Nat) (n:Nat) (c:List Cell):Prop:=c.length=n∧j < n∧∃ p:Int,c[j]? = some (.lst [.int p])
theorem Pot.set {j n:Nat} {c:List Cell} (h:Pot j n c) (p:Int):Pot j n (c.set j (.lst [.int p])):=by
 obtain ⟨h1,h2,_⟩:=h
 exact ⟨by simp [h1],h2,p,by rw [List.getElem?_set_self (by omega)]⟩
theorem take_ok {j n:Nat} {c:List Cell} {far:Int} (h:Pot j n c) (h0:0 < far) (h1:far < 1073741824) :
  ∃ (x:Int) (c':List Cell),0≤x∧x < far∧Pot j n c'∧m_law_take [.ref j,.int far] c=.ok (.int x) c':=by
 obtain ⟨hl,hj,p,hp⟩:=id h
 refine ⟨p % far,c.set j (.lst [.int (p / far)]),Int.emod_nonneg _ (by omega),Int.emod_lt_of_pos _ h0,h.set _,?_⟩
 have e1:ixD (.ref j) (.int 0) c=.ok (.int p) c:=by
  unfold ixD seqD
  simp [hp]
 have e2:setD (.ref j) (.int 0) (.int (p / far)) c=.ok () (c.set j (.lst [.int (p / far)])):=by
  unfold setD
  simp [hp,ixN]
 have e3:(c.set j (.lst [.int (p / far)])).take c.length=c.set j (.lst [.int (p / far)]):=by
  rw [List.take_of_length_le]; simp
 simp (disch:=omega) [m_law_take,b_law_take,e1,mod_c,div_c,e2,e3]
theorem pot_ok (cell:Int) (c:List Cell):∃ p:Int,m_law_pot [.int cell] c=.ok (.ref c.length) (c ++ [.lst [.int p]]):=by
 by_cases h:10 ^ 18≤cell
 ·refine ⟨cell - 10 ^ 18,?_⟩
  simp (disch:=omega) [m_law_pot,b_law_pot,pow_c,h]
  rw [if_pos (by simpa using h)]
  simp [exitD]
 ·obtain ⟨e',c',⟨⟨q,v1,v2,rfl⟩,rfl⟩,hf⟩:=for_inv (g:=gdName 2) (s:=(sSeq (sSet 3 (dBin modD (dBin mulD (dBin addD (dBin addD (dBin modD (dVar 0) (dC (.int 2147483629))) (dBin mulD (dC (.int 7919)) (dVar 2))) (dC (.int 1))) (dC (.int 48271))) (dC (.int 2147483647)))) (sSeq (sSet 3 (dBin modD (dBin addD (dBin addD (dBin mulD (dVar 3) (dVar 3)) (dBin mulD (dC (.int 69621)) (dVar 2))) (dC (.int 7))) (dC (.int 2147483587)))) (sSet 1 (dBin addD (dBin mulD (dVar 1) (dC (.int 2147483587))) (dVar 3))))))
   (fun e c'=>(∃ q v1 v2,e=[some (.int cell),some (.int q),v1,v2])∧c'=c) (rngD 0 64) [some (.int cell),some (.int 0),none,none] c ⟨⟨0,none,none,rfl⟩,rfl⟩ (fun x hx e c' ⟨⟨q,v1,v2,he⟩,hc⟩=>by
    obtain ⟨i,rfl,i0,i1⟩:=mem_rng hx
    subst he; subst hc
    have b0:0≤(cell % 2147483629 + 7919 * i + 1) * 48271 % 2147483647:=Int.emod_nonneg _ (by decide)
    have b1:(cell % 2147483629 + 7919 * i + 1) * 48271 % 2147483647 < 2147483647:=Int.emod_lt_of_pos _ (by decide)
    generalize hm:(cell % 2147483629 + 7919 * i + 1) * 48271 % 2147483647=m at b0 b1
    refine ⟨_,[some (.int cell),some (.int (q * 2147483587 + (m * m + 69621 * i + 7) % 2147483587)),some (.int i),some (.int ((m * m + 69621 * i + 7) % 2147483587))],_,_,rfl,by simp (disch:=omega) [mod_c,mul_l,mul_r,hm],⟨⟨_,_,_,rfl⟩,rfl⟩⟩)
  refine ⟨q,?_⟩
  have hh:¬ (1000000000000000000≤cell):=by simpa using h
  simp (disch:=omega) [m_law_pot,b_law_pot,pow_c,hh]
  rw [hf]
  simp [exitD]
theorem cell_ok (ns:List Int) (k:Int) (h:0≤k) (c:List Cell):∃ x:Int,m_law_cell_at [.scr ns,.int k] c=.ok (.int x) c:=by
 by_cases q:k < ns.length
 ·have hk:k.toNat < ns.length:=by omega
  refine ⟨ns[k.toNat],?_⟩
  have e:ixD (.scr ns) (.int k) c=.ok (.int ns[k.toNat]) c:=by
   show (match atI (ns.map D.int) k with | some d=>R.ok d c | none=>R.bad)=_
   have:atI (ns.map D.int) k=some (.int ns[k.toNat]):=by
    have:=atI_nat (xs:=ns.map D.int) (j:=k.toNat) (v:=.int ns[k.toNat]) (by simp [hk])
    rw [Int.toNat_of_nonneg h] at this
    exact this
   rw [this]
  simp [m_law_cell_at,b_law_cell_at,q,e]
 ·exact ⟨0,by simp [m_law_cell_at,b_law_cell_at,q]⟩
theorem take2 {j:Nat} {c:List Cell} {p far:Int} (hp:c[j]? = some (.lst [.int p])) (h0:0 < far) (h1:far < 1073741824):m_law_take [.ref j,.int far] c=.ok (.int (p % far)) (c.set j (.lst [.int (p / far)])):=by
 have hj:j < c.length:=(List.getElem?_eq_some_iff.mp hp).1
 have e1:ixD (.ref j) (.int 0) c=.ok (.int p) c:=by
  unfold ixD seqD
  simp [hp]
 have e2:setD (.ref j) (.int 0) (.int (p / far)) c=.ok () (c.set j (.lst [.int (p / far)])):=by
  unfold setD
  simp [hp,ixN]
 have e3:(c.set j (.lst [.int (p / far)])).take c.length=c.set j (.lst [.int (p / far)]):=by
  rw [List.take_of_length_le]; simp
 simp (disch:=omega) [m_law_take,b_law_take,e1,mod_c,div_c,e2,e3]
noncomputable def PW (j n:Nat) (ps:List (Nat×Nat)) (c:List Cell):Prop:=c.length=n + 1∧j < n∧(∃ p:Int,c[j]? = some (.lst [.int p]))∧c[n]? = some (.lst (ps.map prD))
theorem PW.turn {j n:Nat} {ps:List (Nat×Nat)} {c:List Cell} (h:PW j n ps c) (p:Int):PW j n ps (c.set j (.lst [.int p])):=by
 obtain ⟨h1,h2,_,h4⟩:=h
 exact ⟨by simp [h1],h2,⟨p,by rw [List.getElem?_set_self (by omega)]⟩,by rw [List.getElem?_set_ne (by omega)]; exact h4⟩
theorem PW.more {j n:Nat} {ps:List (Nat×Nat)} {c:List Cell} (h:PW j n ps c) (p:Nat×Nat):PW j n (ps ++ [p]) (c.set n (.lst (ps.map prD ++ [prD p]))):=by
 obtain ⟨h1,h2,⟨q,h3⟩,h4⟩:=h
 exact ⟨by simp [h1],h2,⟨q,by rw [List.getElem?_set_ne (by omega)]; exact h3⟩,by rw [List.getElem?_set_self (by omega),List.map_append]; rfl⟩
noncomputable def cdT:Ev→List Cell→R Bool:=(dOrT (dAndT (dBl (dBin eqD (dVar 3) (dC (.int 0)))) (dBl (dBin eqD (dBin modD (dBin subD (dVar 6) (dVar 5)) (dC (.int 3))) (dC (.int 1))))) (dAndT (dBl (dBin gtD (dVar 3) (dC (.int 0)))) (dBl (dBin eqD (dCall 2 m_law_take (dCons (dVar 0) (dCons (dBin addD (dC (.int 2)) (dVar 3)) dNil))) (dC (.int 0))))))
theorem cd_ok {j n:Nat} {ps:List (Nat×Nat)} {c:List Cell} {way one other:Int} (hP:PW j n ps c) (w0:0≤way) (w1:way < 4) (a1 a2 a4:Option D) :
  ∃ b c',PW j n ps c'∧cdT [some (.ref j),a1,a2,some (.int way),a4,some (.int one),some (.int other)] c=.ok b c':=by
 obtain ⟨p,hp⟩:=hP.2.2.1
 have ht:=take2 (far:=2 + way) hp (by omega) (by omega)
 have hm:∀ c,modD (.int (other - one)) (.int 3) c=.ok (.int ((other - one) % 3)) c:=fun c=>mod_c c (by decide)
 by_cases hw:way=0
 ·subst hw
  by_cases e:(other - one) % 3=1
  ·exact ⟨true,c,hP,by simp [cdT,hm,e]⟩
  ·exact ⟨false,c,hP,by simp [cdT,hm,e]⟩
 ·have hg:0 < way:=by omega
  refine ⟨decide (p % (2 + way)=0),_,hP.turn (p / (2 + way)),?_⟩
  by_cases e:p % (2 + way)=0 <;> simp [cdT,hw,hg,ht,e]
noncomputable def inB:Ev→List Cell→R Fl:=sIf cdT (sDrop (dAppend (dVar 4) (dTup (dCons (dVar 5) (dCons (dVar 6) dNil))))) sNext
theorem in_ok {j n m a b:Nat} {ps:List (Nat×Nat)} {c:List Cell} {way:Int} (hP:PW j n ps c) (hp:PsOk m ps) (hl:ps.length < 100000) (hab:a < b) (hb:b < m) (w0:0≤way) (w1:way < 4) (a1 a2:Option D) :
  ∃ ps' c',PW j n ps' c'∧PsOk m ps'∧ps'.length≤ps.length + 1∧inB [some (.ref j),a1,a2,some (.int way),some (.ref n),some (.int a),some (.int b)] c=.ok (.nx [some (.ref j),a1,a2,some (.int way),some (.ref n),some (.int a),some (.int b)]) c':=by
 obtain ⟨t,c1,P1,h1⟩:=cd_ok (one:=a) (other:=b) hP w0 w1 a1 a2 (some (.ref n))
 have hs:1000000≤sizeLine:=by decide
 have h2:(2:Nat)≤sizeLine:=small_line (by decide)
 cases t with
 | false=>exact ⟨ps,c1,P1,hp,by omega,by unfold inB; rw [x_if,h1]; simp⟩
 | true =>
  refine ⟨ps ++ [(a,b)],_,P1.more (a,b),?_,by simp,?_⟩
  ·intro q hq
   rcases List.mem_append.mp hq with hq | hq
   ·exact hp q hq
   ·rw [List.mem_singleton] at hq; subst hq; exact ⟨hab,hb⟩
  ·have ha:dAppend (dVar 4) (dTup (dCons (dVar 5) (dCons (dVar 6) dNil))) [some (.ref j),a1,a2,some (.int way),some (.ref n),some (.int a),some (.int b)] c1=.ok .non (c1.set n (.lst (ps.map prD ++ [prD (a,b)]))):=by
    unfold dAppend
    simp only [x_var,gz,gs,R.bind_ok,x_tup,x_cons,x_nil,List.length_cons,List.length_nil]
    rw [if_pos h2]
    simp only [R.bind_ok]
    rw [P1.2.2.2]
    dsimp only
    rw [if_pos ⟨by rw [List.length_map]; omega,rfl⟩]
    rfl
   unfold inB
   rw [x_if,h1]
   simp only [R.bind_ok,if_true]
   rw [x_drop,ha]
   rfl
theorem in_loop {j n m a:Nat} {ps:List (Nat×Nat)} {c:List Cell} {way:Int} (hP:PW j n ps c) (hp:PsOk m ps) (hl:ps.length + m < 100000) (w0:0≤way) (w1:way < 4) (a1 a2 v6:Option D) :
  ∃ ps' c' v,PW j n ps' c'∧PsOk m ps'∧ps'.length≤ps.length + m∧forD (fun _=>True) (gdName 6) inB (rngD ((a:Int) + 1) (m:Int)) [some (.ref j),a1,a2,some (.int way),some (.ref n),some (.int a),v6] c=.ok (.nx [some (.ref j),a1,a2,some (.int way),some (.ref n),some (.int a),v]) c':=by
 have hlen:(rngD ((a:Int) + 1) (m:Int)).length≤m:=by rw [rng_len]; omega
 obtain ⟨e',c',⟨ps',v,rfl,P',hp',hl'⟩,hf⟩:=for_invI (g:=gdName 6) (s:=inB) (fun k e c=>∃ ps' v,e=[some (.ref j),a1,a2,some (.int way),some (.ref n),some (.int a),v]∧PW j n ps' c∧PsOk m ps'∧ps'.length≤ps.length + k)
  (rngD ((a:Int) + 1) (m:Int)) 0 [some (.ref j),a1,a2,some (.int way),some (.ref n),some (.int a),v6] c ⟨ps,v6,rfl,hP,hp,by omega⟩ (fun i x hx e c ⟨ps1,v,he,P1,hp1,hl1⟩=>by
   subst he
   have hi:i < (rngD ((a:Int) + 1) (m:Int)).length:=(List.getElem?_eq_some_iff.mp hx).1
   obtain ⟨hlt,rfl⟩:=rng_get hx
   have e1:((a:Int) + 1 + (i:Int))=((a + 1 + i:Nat):Int):=by omega
   rw [e1]
   obtain ⟨ps2,c2,P2,hp2,hl2,h2⟩:=in_ok (a:=a) (b:=a + 1 + i) P1 hp1 (by omega) (by omega) (by omega) w0 w1 a1 a2
   exact ⟨_,_,_,_,rfl,h2,ps2,_,rfl,P2,hp2,by omega⟩)
 exact ⟨ps',c',v,P',hp',by omega,hf⟩
noncomputable def ouB:Ev→List Cell→R Fl:=sFor (dRng2 (dCons (dBin addD (dVar 5) (dC (.int 1))) (dCons (dVar 2) dNil))) (gdName 6) inB
theorem ou_gen {q a way:Int} {j n:Nat} {c c':List Cell} {v6 v:Option D} {a1:Option D} (ba:-4611686018427387904≤a + 1∧a + 1 < 4611686018427387904) (bq:-4611686018427387904≤q∧q < 4611686018427387904)
  (h:forD (fun _=>True) (gdName 6) inB (rngD (a + 1) q) [some (.ref j),a1,some (.int q),some (.int way),some (.ref n),some (.int a),v6] c=.ok (.nx [some (.ref j),a1,some (.int q),some (.int way),some (.ref n),some (.int a),v]) c') :
  ouB [some (.ref j),a1,some (.int q),some (.int way),some (.ref n),some (.int a),v6] c=.ok (.nx [some (.ref j),a1,some (.int q),some (.int way),some (.ref n),some (.int a),v]) c':=by
 unfold ouB
 simp only [x_for,x_rng2,x_cons,x_bin,x_var,x_c,gz,gs,x_nil,R.bind_ok,x_add]
 rw [if_pos ⟨by omega,by omega,by omega,by omega⟩]
 exact h
theorem ou_loop {j n m:Nat} {c:List Cell} {way:Int} (hP:PW j n [] c) (hm:m < 64) (w0:0≤way) (w1:way < 4) (a1 v5 v6:Option D) :
  ∃ ps' c' u v,PW j n ps' c'∧PsOk m ps'∧ps'.length≤m * m∧forD (fun _=>True) (gdName 5) ouB (rngD 0 (m:Int)) [some (.ref j),a1,some (.int m),some (.int way),some (.ref n),v5,v6] c=.ok (.nx [some (.ref j),a1,some (.int m),some (.int way),some (.ref n),u,v]) c':=by
 have hlen:(rngD 0 (m:Int)).length=m:=by rw [rng_len]; omega
 obtain ⟨e',c',⟨ps',u,v,rfl,P',hp',hl'⟩,hf⟩:=for_invI (g:=gdName 5) (s:=ouB) (fun k e c=>∃ ps' u v,e=[some (.ref j),a1,some (.int m),some (.int way),some (.ref n),u,v]∧PW j n ps' c∧PsOk m ps'∧ps'.length≤k * m)
  (rngD 0 (m:Int)) 0 [some (.ref j),a1,some (.int m),some (.int way),some (.ref n),v5,v6] c ⟨[],v5,v6,rfl,hP,fun p hp=>(by cases hp),by simp⟩ (fun i x hx e c ⟨ps1,u,v,he,P1,hp1,hl1⟩=>by
   subst he
   have hi:i < (rngD 0 (m:Int)).length:=(List.getElem?_eq_some_iff.mp hx).1
   obtain ⟨hlt,rfl⟩:=rng_get hx
   rw [Int.zero_add]
   rw [Nat.zero_add] at hl1 ⊢
   have hb:i * m≤64 * 64:=Nat.mul_le_mul (by omega) (by omega)
   obtain ⟨ps2,c2,v2,P2,hp2,hl2,h2⟩:=in_loop (a:=i) P1 hp1 (by omega) w0 w1 a1 (some (.int m)) v
   exact ⟨_,_,_,_,rfl,ou_gen (by omega) (by omega) h2,ps2,_,_,rfl,P2,hp2,by rw [Nat.succ_mul]; omega⟩)
 rw [hlen,Nat.zero_add] at hl'
 exact ⟨ps',c',u,v,P',hp',hl',hf⟩
theorem aw_gen {j n:Nat} {most y way:Int} {c c1 c2 c3 c4:List Cell} {W:D} {u v:Option D} (t1:m_law_take [.ref j,.int most] c=.ok (.int y) c1) (t2:m_law_take [.ref j,.int 4] c1=.ok (.int way) c2) (hn:c2.length=n)
  (hb:-4611686018427387904≤1 + y∧1 + y < 4611686018427387904) (hf:forD (fun _=>True) (gdName 5) ouB (rngD 0 (1 + y)) [some (.ref j),some (.int most),some (.int (1 + y)),some (.int way),some (.ref n),none,none] (c2 ++ [.lst []])=.ok (.nx [some (.ref j),some (.int most),some (.int (1 + y)),some (.int way),some (.ref n),u,v]) c3)
  (hw:m_law_web_by [.int (1 + y),.ref n] c3=.ok W c3) (hx:exitD false c.length W c3=.ok W c4):m_law_any_web [.ref j,.int most] c=.ok W c4:=by
 have hb':b_law_any_web=sSeq (sSet 2 (dBin addD (dC (.int 1)) (dCall 2 m_law_take (dCons (dVar 0) (dCons (dVar 1) dNil))))) (sSeq (sSet 3 (dCall 2 m_law_take (dCons (dVar 0) (dCons (dC (.int 4)) dNil)))) (sSeq (sSet 4 (dLstM dNil)) (sSeq (sFor (dRng1 (dCons (dVar 2) dNil)) (gdName 5) ouB) (sRet (dCall 2 m_law_web_by (dCons (dVar 2) (dCons (dVar 4) dNil))))))):=rfl
 have h0:(0:Nat)≤sizeLine:=Nat.zero_le _
 have e2:(sSet 4 (dLstM dNil)) [some (.ref j),some (.int most),some (.int (1 + y)),some (.int way),none,none,none] c2=.ok (.nx [some (.ref j),some (.int most),some (.int (1 + y)),some (.int way),some (.ref n),none,none]) (c2 ++ [.lst []]):=by
  simp [hn]
 have e3:(sFor (dRng1 (dCons (dVar 2) dNil)) (gdName 5) ouB) [some (.ref j),some (.int most),some (.int (1 + y)),some (.int way),some (.ref n),none,none] (c2 ++ [.lst []])=.ok (.nx [some (.ref j),some (.int most),some (.int (1 + y)),some (.int way),some (.ref n),u,v]) c3:=by
  simp only [x_for,x_rng1,x_cons,x_var,gz,gs,x_nil,R.bind_ok]
  rw [if_pos (by omega)]
  exact hf
 have e0:(sSet 2 (dBin addD (dC (.int 1)) (dCall 2 m_law_take (dCons (dVar 0) (dCons (dVar 1) dNil))))) [some (.ref j),some (.int most),none,none,none,none,none] c=.ok (.nx [some (.ref j),some (.int most),some (.int (1 + y)),none,none,none,none]) c1:=by simp [t1]
 have e1:(sSet 3 (dCall 2 m_law_take (dCons (dVar 0) (dCons (dC (.int 4)) dNil)))) [some (.ref j),some (.int most),some (.int (1 + y)),none,none,none,none] c1=.ok (.nx [some (.ref j),some (.int most),some (.int (1 + y)),some (.int way),none,none,none]) c2:=by simp [t2]
 have e4:(sRet (dCall 2 m_law_web_by (dCons (dVar 2) (dCons (dVar 4) dNil)))) [some (.ref j),some (.int most),some (.int (1 + y)),some (.int way),some (.ref n),u,v] c3=.ok (.rt W) c3:=by simp [hw]
 rw [m_law_any_web,x_fn,hb']
 have es:startD 7 [D.ref j,.int most]=[some (.ref j),some (.int most),none,none,none,none,none]:=rfl
 rw [es,seq_ok e0,seq_ok e1,seq_ok e2,seq_ok e3,e4]
 exact hx
theorem any_web {j n:Nat} {c:List Cell} {most:Int} (hP:Pot j n c) (h0:0 < most) (h1:most < 31):∃ (m:Nat) (ps:List (Nat×Nat)) (c':List Cell),1≤m∧(m:Int)≤most∧PsOk m ps∧Pot j n c'∧m_law_any_web [.ref j,.int most] c=.ok (webD (webR m ps)) c':=by
 obtain ⟨hl,hj,p,hp⟩:=hP
 have y0:=Int.emod_nonneg p (show most≠0 by omega)
 have y1:=Int.emod_lt_of_pos p h0
 have t1:=take2 hp h0 (by omega)
 generalize p % most=y at y0 y1 t1
 have hp1:(c.set j (.lst [.int (p / most)]))[j]? = some (.lst [.int (p / most)]):=by rw [List.getElem?_set_self (by omega)]
 have w0:=Int.emod_nonneg (p / most) (show (4:Int)≠0 by decide)
 have w1:=Int.emod_lt_of_pos (p / most) (show (0:Int) < 4 by decide)
 have t2:=take2 (far:=4) hp1 (by decide) (by decide)
 generalize (p / most) % 4=way at w0 w1 t2
 rw [List.set_set] at t2
 have hn:(c.set j (.lst [.int (p / most / 4)])).length=n:=by simp [hl]
 obtain ⟨m,hm⟩:∃ m:Nat,1 + y=m:=⟨(1 + y).toNat,by omega⟩
 have P0:PW j n [] (c.set j (.lst [.int (p / most / 4)]) ++ [.lst []]):=⟨by simp [hl],hj,⟨p / most / 4,by rw [List.getElem?_append_left (by omega),List.getElem?_set_self (by omega)]⟩,by rw [List.getElem?_append_right (by omega),hn]; simp⟩
 obtain ⟨ps,c3,u,v,P3,hp3,hl3,hf⟩:=ou_loop (m:=m) P0 (by omega) w0 w1 (some (.int most)) none none
 have hmm:m * m≤31 * 31:=Nat.mul_le_mul (by omega) (by omega)
 have hw:=web_by (m:=m) (k:=n) (c:=c3) hp3 (by omega) (by omega) P3.2.2.2
 have nr:=web_noref (webR m ps)
 have hx:exitD false c.length (webD (webR m ps)) c3=.ok (webD (webR m ps)) (c3.take n):=by
  rw [hl]
  unfold webD at nr ⊢
  unfold exitD
  dsimp only
  rw [if_pos nr]
 rw [← hm] at hf hw
 obtain ⟨l3,_,⟨p3,q3⟩,_⟩:=P3
 exact ⟨m,ps,c3.take n,by omega,by omega,hp3,⟨by rw [List.length_take]; omega,hj,p3,by rw [List.getElem?_take_of_lt hj]; exact q3⟩,aw_gen t1 t2 hn (by omega) hf hw hx⟩
theorem web_len (m:Nat) (ps:List (Nat×Nat)):(webR m ps).length=m:=by simp [webR]
theorem web_lt {m:Nat} {ps:List (Nat×Nat)} (h:PsOk m ps):∀ r∈webR m ps,(∀ x∈r,x < m)∧r.length≤m:=fun r hr=>by
 obtain ⟨i,_,rfl⟩:=List.mem_map.mp hr
 have h1:∀ x∈ssort (adj ps i),x < m:=fun x hx=>adj_lt h i x (mem_ssort.mp hx)
 exact ⟨h1,up_len (up_ssort _) h1⟩
end Ev
namespace Ev
open PySem L2
noncomputable def Atom:D→Bool
 | .non=>true
 | .bl _=>true
 | .int _=>true
 | .str _=>true
 | .tup _=>true
 | .lst _=>true
 | .dic=>true
 | _=>false
noncomputable def wI (lo hi:Int):D→Bool
 | .int i=>decide (lo≤i) && decide (i≤hi)
 | _=>false
noncomputable def isW:D→Bool
 | .int _=>true
 | _=>false
@[simp] theorem wI_int (lo hi i:Int):wI lo hi (.int i)=(decide (lo≤i) && decide (i≤hi)):=rfl
@[simp] theorem wI_non (lo hi:Int):wI lo hi .non=false:=rfl
@[simp] theorem wI_bl (lo hi:Int) (b:Bool):wI lo hi (.bl b)=false:=rfl
@[simp] theorem wI_str (lo hi:Int) (b:Str):wI lo hi (.str b)=false:=rfl
@[simp] theorem isW_int (i:Int):isW (.int i)=true:=rfl
@[simp] theorem isW_non:isW .non=false:=rfl
@[simp] theorem isW_bl (b:Bool):isW (.bl b)=false:=rfl
@[simp] theorem isW_str (b:Str):isW (.str b)=false:=rfl
@[simp] theorem wI_tup (lo hi:Int) (b:List D):wI lo hi (.tup b)=false:=rfl
@[simp] theorem wI_lst (lo hi:Int) (b:List D):wI lo hi (.lst b)=false:=rfl
@[simp] theorem wI_dic (lo hi:Int):wI lo hi .dic=false:=rfl
@[simp] theorem isW_tup (b:List D):isW (.tup b)=false:=rfl
@[simp] theorem isW_lst (b:List D):isW (.lst b)=false:=rfl
@[simp] theorem isW_dic:isW .dic=false:=rfl
theorem whole_at {d:D} (h:Atom d=true) (c:List Cell):m_is_whole [d] c=.ok (.bl (isW d)) c:=by
 cases d <;> first | (cases h; done) | (simp [m_is_whole,b_is_whole]; done) | (simp [m_is_whole,b_is_whole,isiD,subT]; done)
theorem within_at {d:D} (h:Atom d=true) (lo hi:Int) (c:List Cell):m_is_whole_within [d,.int lo,.int hi] c=.ok (.bl (wI lo hi d)) c:=by
 have hw:=whole_at h c
 cases d with
 | int i =>
  simp [m_is_whole_within,b_is_whole_within,hw]
  by_cases q:lo≤i <;> simp [q]
 | _=>first | (cases h; done) | simp [m_is_whole_within,b_is_whole_within,hw]
theorem place_at {d:D} (h:Atom d=true) (n:Int) (c:List Cell):m_is_place [d,.int n] c=.ok (.bl (wI 0 (n - 1) d)) c:=by
 simp [m_is_place,b_is_place,within_at h]
theorem len_web (rows:List (List Nat)) (c:List Cell):lenD [webD rows] c=.ok (.int rows.length) c:=by
 unfold lenD webD
 simp [seqD]
noncomputable def rowSum (L:List Int):D→D
 | .tup l=>match intsD l with
  | some is=>.int (is.map fun i=>L.getD i.toNat 0).sum
  | none=>.non
 | _=>.non
noncomputable def nrE:Ev→List Cell→R D:=(dBin ixD (dVar 1) (dVar 0))
theorem near_comp {L:List Int} {r:List Nat} (hr:∀ x∈r,x < L.length) (c:List Cell):compD (fun _=>True) (gdName 0) dYes nrE (nD r) [none,some (.lst (L.map D.int))] [] c=.ok ((r.map fun x=>L.getD x 0).map D.int) c:=by
 have:=comp_pure (c:=c) (g:=gdName 0) (t:=dYes) (a:=nrE) (fun e=>∃ v,e=[v,some (.lst (L.map D.int))]) (fun _=>true) (fun d=>match d with | .int i=>.int (L.getD i.toNat 0) | d=>d) (nD r) [none,some (.lst (L.map D.int))] [] ⟨_,rfl⟩ (fun d hd e ⟨v,he⟩=>by
  subst he
  obtain ⟨x,hx,rfl⟩:=List.mem_map.mp hd
  have hlt:=hr x hx
  refine ⟨_,rfl,⟨_,rfl⟩,rfl,fun _=>?_⟩
  have ha:atI (L.map D.int) (x:Int)=some (.int (L.getD x 0)):=atI_nat (by simp [List.getElem?_eq_getElem hlt,List.getD_eq_getElem?_getD])
  show nrE [some (.int x),some (.lst (L.map D.int))] c=_
  simp only [nrE,x_bin,x_var,gz,gs,R.bind_ok,x_ixL,ha,Int.toNat_natCast])
 rw [this,List.nil_append]
 congr 1
 have ft:∀ l:List D,l.filter (fun _=>true)=l:=fun l=>by simp
 rw [ft,List.map_map,List.map_map]
 refine List.map_congr_left fun x _=>?_
 simp
noncomputable def csE:Ev→List Cell→R D:=(dCB sumD (dCons (dComp (dSeqT (dVar 0)) [none,some 1] (gdName 0) dYes nrE) dNil))
theorem sum_row {L:List Int} {r:List Nat} (hr:∀ x∈r,x < L.length) (hl:r.length < 1000) (c:List Cell):csE [some (.tup (nD r)),some (.lst (L.map D.int))] c=.ok (.int (r.map fun x=>L.getD x 0).sum) c:=by
 have hs:=small_line (n:=1000) (by decide)
 have hc:=near_comp hr c
 have h1:dComp (dSeqT (dVar 0)) [none,some 1] (gdName 0) dYes nrE [some (.tup (nD r)),some (.lst (L.map D.int))] c=.ok (.lst ((r.map fun x=>L.getD x 0).map D.int)) c:=by
  rw [x_comp]
  unfold dSeqT
  simp only [x_var,gz,R.bind_ok]
  rw [if_pos (by rw [List.length_map]; omega)]
  have:pickD [none,some 1] [some (D.tup (nD r)),some (.lst (L.map D.int))]=[none,some (.lst (L.map D.int))]:=rfl
  rw [this,hc]
  rfl
 unfold csE
 simp only [x_cb,x_cons,x_nil,R.bind_ok,h1]
 unfold sumD
 dsimp only
 rw [intsD_map]
noncomputable def stp (rows:List (List Nat)) (L:List Int):List Int:=rows.map fun r=>(r.map fun x=>L.getD x 0).sum
noncomputable def stpN (rows:List (List Nat)) (L:List Int):Nat→List Int
 | 0=>L
 | k + 1=>stp rows (stpN rows L k)
theorem stpN_len {rows:List (List Nat)} {L:List Int} (h:L.length=rows.length):∀ k,(stpN rows L k).length=rows.length
 | 0=>h
 | k + 1=>by simp [stpN,stp]
theorem step_ok {rows:List (List Nat)} {L:List Int} (hr:∀ r∈rows,(∀ x∈r,x < rows.length)∧r.length≤rows.length) (hm:rows.length < 1000) (hL:L.length=rows.length) (c:List Cell) :
  m_counts_after_step [webD rows,.lst (L.map D.int)] c=.ok (.lst ((stp rows L).map D.int)) c:=by
 have hs:=small_line (n:=1000) (by decide)
 unfold stp
 have hc:=comp_pure (c:=c) (g:=gdName 0) (t:=dYes) (a:=csE) (fun e=>∃ v,e=[v,some (.lst (L.map D.int))]) (fun _=>true) (rowSum L) (rows.map fun r=>.tup (nD r)) [none,some (.lst (L.map D.int))] [] ⟨_,rfl⟩ (fun d hd e ⟨v,he⟩=>by
  subst he
  obtain ⟨r,hx,rfl⟩:=List.mem_map.mp hd
  have h1:=hr r hx
  refine ⟨_,rfl,⟨_,rfl⟩,rfl,fun _=>?_⟩
  show csE [some (.tup (nD r)),some (.lst (L.map D.int))] c=_
  rw [sum_row (fun x hx=>by rw [hL]; exact h1.1 x hx) (by omega)]
  have e:intsD (nD r)=some (r.map fun n:Nat=>(n:Int)):=by
   have e:nD r=(r.map fun n:Nat=>(n:Int)).map D.int:=by simp [nD]
   rw [e,intsD_map]
  unfold rowSum
  dsimp only
  rw [e]
  dsimp only
  rw [List.map_map]
  congr 3)
 have ft:∀ l:List D,l.filter (fun _=>true)=l:=fun l=>by simp
 rw [ft,List.nil_append] at hc
 have e1:(rows.map fun r=>D.tup (nD r)).map (rowSum L)=(rows.map fun r=>(r.map fun x=>L.getD x 0).sum).map D.int:=by
  rw [List.map_map,List.map_map]
  refine List.map_congr_left fun r _=>?_
  have e:intsD (nD r)=some (r.map fun n:Nat=>(n:Int)):=by
   have e:nD r=(r.map fun n:Nat=>(n:Int)).map D.int:=by simp [nD]
   rw [e,intsD_map]
  show rowSum L (.tup (nD r))=_
  unfold rowSum
  dsimp only
  rw [e]
  dsimp only
  rw [List.map_map]
  show D.int _=D.int _
  congr 2
 rw [e1] at hc
 have hb:b_counts_after_step=sRet (dComp (dSeqT (dVar 0)) [none,some 1] (gdName 0) dYes csE):=rfl
 have nr:noRef (.lst ((rows.map fun r=>(r.map fun x=>L.getD x 0).sum).map D.int))=true:=noRefs_ints
 rw [m_counts_after_step,x_fn,hb]
 have es:startD 2 [webD rows,.lst (L.map D.int)]=[some (webD rows),some (.lst (L.map D.int))]:=rfl
 rw [es,x_ret,x_comp]
 unfold dSeqT
 simp only [x_var,gz,R.bind_ok]
 unfold webD
 dsimp only [R.bind_ok]
 rw [if_pos (by rw [List.length_map]; omega)]
 have:pickD [none,some 1] [some (D.tup (rows.map fun r=>.tup (nD r))),some (.lst (L.map D.int))]=[none,some (.lst (L.map D.int))]:=rfl
 rw [this,hc]
 simp only [R.bind_ok]
 unfold exitD
 dsimp only
 rw [if_pos nr,List.take_length]
theorem one_comp {p m:Nat} (c:List Cell):compD (fun _=>True) (gdName 0) dYes (dIfE (dBl (dBin eqD (dVar 0) (dVar 1))) (dC (.int 1)) (dC (.int 0))) (rngD 0 (m:Int)) [none,some (.int p)] [] c=.ok (((List.range m).map fun i=>if i=p then (1:Int) else 0).map D.int) c:=by
 have:=comp_pure (c:=c) (g:=gdName 0) (t:=dYes) (a:=dIfE (dBl (dBin eqD (dVar 0) (dVar 1))) (dC (.int 1)) (dC (.int 0))) (fun e=>∃ v,e=[v,some (.int p)]) (fun _=>true) (fun d=>match d with | .int i=>if i=p then .int 1 else .int 0 | d=>d) (rngD 0 (m:Int)) [none,some (.int p)] [] ⟨_,rfl⟩ (fun d hd e ⟨v,he⟩=>by
  subst he
  obtain ⟨i,rfl,i0,i1⟩:=mem_rng hd
  refine ⟨_,rfl,⟨_,rfl⟩,rfl,fun _=>?_⟩
  by_cases e:i=p <;> simp [e])
 rw [this,List.nil_append]
 congr 1
 have ft:∀ l:List D,l.filter (fun _=>true)=l:=fun l=>by simp
 unfold rngD
 rw [ft,List.map_map,List.map_map,show ((m:Int) - 0).toNat=m by omega]
 refine List.map_congr_left fun i _=>?_
 by_cases e:i=p
 ·subst e; simp
 ·have e':¬ ((i:Int)=p):=by omega
  simp [e,e']
noncomputable def wyB:Ev→List Cell→R Fl:=(sSet 4 (dCall 2 m_counts_after_step (dCons (dVar 0) (dCons (dVar 4) dNil))))
theorem wy_loop {rows:List (List Nat)} (hr:∀ r∈rows,(∀ x∈r,x < rows.length)∧r.length≤rows.length) (hm:rows.length < 1000) (c:List Cell) (a1 a2 a3 v5:Option D) (items:List D) (L:List Int) (hL:L.length=rows.length) :
  ∃ (v:Option D),forD (fun _=>True) (gdName 5) wyB items [some (webD rows),a1,a2,a3,some (.lst (L.map D.int)),v5] c=.ok (.nx [some (webD rows),a1,a2,a3,some (.lst ((stpN rows L items.length).map D.int)),v]) c:=by
 obtain ⟨e',c',⟨v,rfl,rfl⟩,hf⟩:=for_invI (g:=gdName 5) (s:=wyB) (fun k e c'=>∃ (v:Option D),e=[some (webD rows),a1,a2,a3,some (.lst ((stpN rows L k).map D.int)),v]∧c'=c) items 0 [some (webD rows),a1,a2,a3,some (.lst (L.map D.int)),v5] c ⟨v5,rfl,rfl⟩ (fun i x hx e c' ⟨v,he,hc⟩=>by
  subst he; subst hc
  rw [Nat.zero_add]
  have h2:=step_ok hr hm (stpN_len hL i) c'
  refine ⟨_,[some (webD rows),a1,a2,a3,some (.lst ((stpN rows L (i + 1)).map D.int)),some x],_,_,rfl,?_,_,rfl,rfl⟩
  have e3:stpN rows L (i + 1)=stp rows (stpN rows L i):=rfl
  rw [e3]
  generalize (stp rows (stpN rows L i)).map D.int=l2 at *
  generalize (stpN rows L i).map D.int=l1 at *
  generalize webD rows=W at *
  simp [wyB,h2])
 rw [Nat.zero_add] at hf
 exact ⟨v,hf⟩
theorem wy_gen {W:D} {p r many q v':Int} {c:List Cell} {l0 l1:List D} {v:Option D} (hlen:lenD [W] c=.ok (.int q) c) (h1:m_is_place [.int p,.int q] c=.ok (.bl true) c) (h2:m_is_place [.int r,.int q] c=.ok (.bl true) c) (bq:-4611686018427387904≤q∧q < 4611686018427387904) (bm:-4611686018427387904≤many∧many < 4611686018427387904) (hl:(rngD 0 q).length < sizeLine)
  (hc:compD (fun _=>True) (gdName 0) dYes (dIfE (dBl (dBin eqD (dVar 0) (dVar 1))) (dC (.int 1)) (dC (.int 0))) (rngD 0 q) [none,some (.int p)] [] c=.ok l0 c)
  (hf:forD (fun _=>True) (gdName 5) wyB (rngD 0 many) [some W,some (.int p),some (.int r),some (.int many),some (.lst l0),none] c=.ok (.nx [some W,some (.int p),some (.int r),some (.int many),some (.lst l1),v]) c) (ha:atI l1 r=some (.int v')) :
  m_ways_between [W,.int p,.int r,.int many] c=.ok (.int v') c:=by
 unfold wyB at hf
 simp [m_ways_between,b_ways_between,hlen,h1,h2,pickD]
 rw [if_pos bq]
 simp only [R.bind_ok]
 rw [if_pos hl,hc]
 simp
 rw [if_pos bm]
 simp only [R.bind_ok]
 rw [hf]
 simp [ha]
noncomputable def one0 (n p:Nat):List Int:=(List.range n).map fun i=>if i=p then (1:Int) else 0
theorem ways_ok {rows:List (List Nat)} (hr:∀ r∈rows,(∀ x∈r,x < rows.length)∧r.length≤rows.length) (hm:rows.length < 1000) {p r:Nat} (hp:p < rows.length) (hr':r < rows.length) {many:Nat} (bm:many < 1000) (c:List Cell) :
  m_ways_between [webD rows,.int p,.int r,.int (many:Int)] c=.ok (.int ((stpN rows (one0 rows.length p) many).getD r 0)) c:=by
 have hs:=small_line (n:=1000) (by decide)
 have hL:(one0 rows.length p).length=rows.length:=by simp [one0]
 obtain ⟨v,hf⟩:=wy_loop hr hm c (some (.int p)) (some (.int r)) (some (.int (many:Int))) none (rngD 0 (many:Int)) (one0 rows.length p) hL
 have hlen:(rngD 0 (many:Int)).length=many:=by rw [rng_len]; omega
 rw [hlen] at hf
 have h1:=place_at (d:=.int p) rfl rows.length c
 have h2:=place_at (d:=.int r) rfl rows.length c
 have w1:wI 0 ((rows.length:Int) - 1) (.int p)=true:=by simp; omega
 have w2:wI 0 ((rows.length:Int) - 1) (.int r)=true:=by simp; omega
 rw [w1] at h1
 rw [w2] at h2
 have hl2:=stpN_len hL many
 refine wy_gen (len_web rows c) h1 h2 (by omega) (by omega) (by rw [rng_len]; omega) (one_comp c) hf (atI_nat ?_)
 rw [List.getElem?_map,List.getElem?_eq_getElem (show r < (stpN rows (one0 rows.length p) many).length by omega),List.getD_eq_getElem?_getD,List.getElem?_eq_getElem (show r < (stpN rows (one0 rows.length p) many).length by omega)]
 rfl
end Ev
namespace Ev
open PySem L2
theorem filt_comp {α:Type} {E:List (Option D)} {t:Ev→List Cell→R Bool} {a:Ev→List Cell→R D} {c:List Cell} (g F:α→D) (b:α→Bool):∀ (l:List α) (v:Option D) (acc:List D),(∀ x∈l,t (some (g x) :: E) c=.ok (b x) c)→(∀ x∈l,b x=true→a (some (g x) :: E) c=.ok (F x) c)→compD (fun _=>True) (gdName 0) t a (l.map g) (v :: E) acc c=.ok (acc ++ (l.filter b).map F) c
 | [],v,acc,_,_=>by simp
 | x :: l,v,acc,h1,h2=>by
  have e1:gdName 0 (g x) (v :: E) c=.ok (some (g x) :: E) c:=rfl
  rw [List.map_cons,comp_cons,e1,R.bind_ok,h1 x (.head _),R.bind_ok]
  cases hb:b x with
  | true =>
   rw [if_pos rfl,h2 x (.head _) hb,R.bind_ok,filt_comp g F b l _ _ (fun z hz=>h1 z (.tail _ hz)) (fun z hz=>h2 z (.tail _ hz)),List.filter_cons_of_pos hb,List.append_assoc]
   rfl
  | false =>
   rw [if_neg (by decide),filt_comp g F b l _ _ (fun z hz=>h1 z (.tail _ hz)) (fun z hz=>h2 z (.tail _ hz)),List.filter_cons_of_neg (by simp [hb])]
theorem dat_nD:∀ l:List Nat,datDs (nD l)=some (l.map fun n:Nat=>PyData.int (n:Int))
 | []=>rfl
 | n :: ns=>by
  show (match datD (.int (n:Int)),datDs (nD ns) with | some a,some r=>some (a :: r) | _,_=>none)=_
  rw [dat_nD ns]
  rfl
theorem any_eqv (l:List Nat) (k:Nat):((l.map fun n:Nat=>PyData.int (n:Int)).any fun z=>z.eqv (.int (k:Int)))=decide (k∈l):=by
 rw [List.any_map,Bool.eq_iff_iff,List.any_eq_true,decide_eq_true_eq]
 refine ⟨fun ⟨x,hx,e⟩=>?_,fun h=>⟨k,h,?_⟩⟩
 ·have:(x:Int)=(k:Int):=by simpa [PyData.eqv] using e
  have:x=k:=by omega
  exact this ▸ hx
 ·simp [PyData.eqv]
theorem in_nD (l:List Nat) (k:Nat) (c:List Cell):inD (.int (k:Int)) (.tup (nD l)) c=.ok (.bl (decide (k∈l))) c:=by
 have h1:datC c (.int (k:Int))=some (.int (k:Int)):=rfl
 have h2:datC c (.tup (nD l))=some (.tuple (l.map fun n:Nat=>PyData.int (n:Int))):=by
  show (match datDs (nD l) with | some r=>some (PyData.tuple r) | none=>none)=_
  rw [dat_nD]
 unfold inD
 rw [h1,h2]
 dsimp only
 rw [if_pos (by simp [PyData.depth]),any_eqv]
theorem noRefs_pr (l:List (Nat×Nat)):noRefs (l.map prD)=true:=noRefs_iff.mpr fun d hd=>by
 obtain ⟨p,_,rfl⟩:=List.mem_map.mp hd
 rfl
theorem call_gen2 {m:List D→List Cell→R D} {d1 d2:Ev→List Cell→R D} {e:Ev} {c:List Cell} {x y v:D} (h1:d1 e c=.ok x c) (h2:d2 e c=.ok y c) (h:m [x,y] c=.ok v c):dCall 2 m (dCons d1 (dCons d2 dNil)) e c=.ok v c:=by
 simp only [x_call,x_cons,h1,h2,x_nil,R.bind_ok]
 rw [if_pos (by rfl)]; exact h
theorem ix_pr0 (p:Nat×Nat) (c:List Cell):ixD (prD p) (.int 0) c=.ok (.int p.1) c:=rfl
theorem ix_pr1 (p:Nat×Nat) (c:List Cell):ixD (prD p) (.int 1) c=.ok (.int p.2) c:=rfl
theorem tup2 {d1 d2:Ev→List Cell→R D} {e:Ev} {c:List Cell} {x y:D} (h1:d1 e c=.ok x c) (h2:d2 e c=.ok y c):dTup (dCons d1 (dCons d2 dNil)) e c=.ok (.tup [x,y]) c:=by
 have:(2:Nat)≤sizeLine:=small_line (by decide)
 simp only [x_tup,x_cons,h1,h2,x_nil,R.bind_ok]
 rw [if_pos (by exact this)]
theorem cb1 {f:List D→List Cell→R D} {d1:Ev→List Cell→R D} {e:Ev} {c:List Cell} {x v:D} (h1:d1 e c=.ok x c) (h:f [x] c=.ok v c):dCB f (dCons d1 dNil) e c=.ok v c:=by
 simp only [x_cb,x_cons,h1,x_nil,R.bind_ok]; exact h
theorem set_gen {i:Nat} {d:Ev→List Cell→R D} {e:Ev} {c:List Cell} {v:D} (h:d e c=.ok v c):sSet i d e c=.ok (.nx (e.set i (some v))) c:=by rw [x_set,h]; rfl
theorem ret_gen {d:Ev→List Cell→R D} {e:Ev} {c:List Cell} {v:D} (h:d e c=.ok v c):sRet d e c=.ok (.rt v) c:=by rw [x_ret,h]; rfl
noncomputable def prow (m x:Nat):List (Nat×Nat):=(List.range' (x + 1) (m - (x + 1))).map fun y=>(x,y)
noncomputable def PPn (m i:Nat):List (Nat×Nat):=(List.range i).flatMap (prow m)
noncomputable def PP (m:Nat):List (Nat×Nat):=PPn m m
noncomputable def prL (p:Nat×Nat):List Nat:=[p.1,p.2]
noncomputable def qcond (P:List (Nat×Nat)) (i j:Nat):Bool:=decide ((P.getD i (0,0)).1∈prL (P.getD j (0,0))) || decide ((P.getD i (0,0)).2∈prL (P.getD j (0,0)))
noncomputable def qrow (P:List (Nat×Nat)) (i:Nat):List (Nat×Nat):=((List.range' (i + 1) (P.length - (i + 1))).filter (qcond P i)).map fun j=>(i,j)
noncomputable def QQn (P:List (Nat×Nat)) (i:Nat):List (Nat×Nat):=(List.range i).flatMap (qrow P)
noncomputable def QQ (P:List (Nat×Nat)):List (Nat×Nat):=QQn P P.length
theorem rng_nD2 (a m:Nat):rngD ((a:Int) + 1) (m:Int)=nD (List.range' (a + 1) (m - (a + 1))):=by
 apply List.ext_getElem?
 intro i
 by_cases h:i < m - (a + 1)
 ·have h1:i < (rngD ((a:Int) + 1) (m:Int)).length:=by rw [rng_len]; omega
  have:=rng_get (List.getElem?_eq_getElem h1)
  rw [List.getElem?_eq_getElem h1,this.2]
  simp [nD,List.getElem?_range' h]
 ·rw [List.getElem?_eq_none (by rw [rng_len]; omega),List.getElem?_eq_none (by simp [nD]; omega)]
noncomputable def paC:Ev→List Cell→R D:=(dComp (dRng2 (dCons (dBin addD (dVar 2) (dC (.int 1))) (dCons (dVar 0) dNil))) [none,some 2] (gdName 0) dYes (dTup (dCons (dVar 1) (dCons (dVar 0) dNil))))
noncomputable def paB:Ev→List Cell→R Fl:=(sDrop (dExtend (dVar 1) paC))
theorem paC_gen {q x:Int} {a1:Option D} {rest:Ev} {l:List D} {c:List Cell} (bx:-4611686018427387904≤x + 1∧x + 1 < 4611686018427387904) (bq:-4611686018427387904≤q∧q < 4611686018427387904) (hlen:(rngD (x + 1) q).length < sizeLine)
  (hc:compD (fun _=>True) (gdName 0) dYes (dTup (dCons (dVar 1) (dCons (dVar 0) dNil))) (rngD (x + 1) q) [none,some (.int x)] [] c=.ok l c):paC (some (.int q) :: a1 :: some (.int x) :: rest) c=.ok (.lst l) c:=by
 unfold paC
 simp only [x_comp,x_rng2,x_cons,x_bin,x_var,x_c,gz,gs,x_nil,R.bind_ok,x_add]
 rw [if_pos ⟨by omega,by omega,by omega,by omega⟩]
 simp only [R.bind_ok]
 rw [if_pos hlen]
 have ep:pickD [none,some 2] (some (D.int q) :: a1 :: some (.int x) :: rest)=[none,some (.int x)]:=rfl
 rw [ep,hc]
 rfl
theorem pa_comp (m x:Nat) (c:List Cell):compD (fun _=>True) (gdName 0) dYes (dTup (dCons (dVar 1) (dCons (dVar 0) dNil))) (rngD ((x:Int) + 1) (m:Int)) [none,some (.int x)] [] c=.ok ((prow m x).map prD) c:=by
 have:=filt_comp (E:=[some (.int x)]) (t:=dYes) (a:=dTup (dCons (dVar 1) (dCons (dVar 0) dNil))) (c:=c) (fun j:Nat=>D.int (j:Int)) (fun j=>prD (x,j)) (fun _=>true) (List.range' (x + 1) (m - (x + 1))) none [] (fun j _=>rfl) (fun j _ _=>tup2 rfl rfl)
 have ft:(List.range' (x + 1) (m - (x + 1))).filter (fun _=>true)=List.range' (x + 1) (m - (x + 1)):=by simp
 rw [List.nil_append,ft] at this
 rw [rng_nD2]
 unfold prow
 rw [List.map_map]
 exact this
theorem extend_gen {dO da:Ev→List Cell→R D} {e:Ev} {c:List Cell} {k:Nat} {acc l:List D} (h1:dO e c=.ok (.ref k) c) (h2:da e c=.ok (.lst l) c) (hk:c[k]? = some (.lst acc)) (hl:acc.length + l.length≤1000000) (nr:noRefs l=true):dExtend dO da e c=.ok .non (c.set k (.lst (acc ++ l))):=by
 have hs:1000000≤sizeLine:=by decide
 unfold dExtend
 rw [h1]
 simp only [R.bind_ok]
 rw [h2]
 simp only [R.bind_ok]
 rw [hk]
 dsimp only
 rw [if_pos ⟨by omega,nr⟩]
theorem drop_gen {d:Ev→List Cell→R D} {e:Ev} {c c':List Cell} {v:D} (h:d e c=.ok v c'):sDrop d e c=.ok (.nx e) c':=by rw [x_drop,h]; rfl
theorem set_last (c:List Cell) (x y:Cell):(c ++ [x]).set c.length y=c ++ [y]:=by simp
theorem PP_snoc (m i:Nat):PPn m i ++ prow m i=PPn m (i + 1):=by
 unfold PPn
 rw [List.range_succ,List.flatMap_append]
 simp
theorem prow_len (m x:Nat):(prow m x).length≤m:=by simp [prow]
theorem PP_len (m i:Nat):(PPn m i).length≤i * m:=by
 induction i with
 | zero=>simp [PPn]
 | succ i ih =>
  rw [← PP_snoc,List.length_append,Nat.succ_mul]
  have:=prow_len m i
  omega
theorem x_var1 (a:Option D) (d:D) (rest:Ev) (c:List Cell):dVar 1 (a :: some d :: rest) c=.ok d c:=rfl
theorem pa_step {m i:Nat} {c:List Cell} (hm:m≤100) (hi:i < m) (rest:Ev):paB (some (.int m) :: some (.ref c.length) :: some (.int i) :: rest) (c ++ [.lst ((PPn m i).map prD)])=.ok (.nx (some (.int m) :: some (.ref c.length) :: some (.int i) :: rest)) (c ++ [.lst ((PPn m (i + 1)).map prD)]):=by
 have hs:=small_line (n:=1000) (by decide)
 have h1:=PP_len m i
 have h2:i * m≤100 * 100:=Nat.mul_le_mul (by omega) hm
 have h3:=prow_len m i
 have hC:paC (some (.int m) :: some (.ref c.length) :: some (.int i) :: rest) (c ++ [.lst ((PPn m i).map prD)])=.ok (.lst ((prow m i).map prD)) (c ++ [.lst ((PPn m i).map prD)]):=paC_gen (by omega) (by omega) (by rw [rng_len]; omega) (pa_comp m i _)
 have hx:dExtend (dVar 1) paC (some (.int m) :: some (.ref c.length) :: some (.int i) :: rest) (c ++ [.lst ((PPn m i).map prD)])=.ok .non ((c ++ [Cell.lst ((PPn m i).map prD)]).set c.length (.lst ((PPn m i).map prD ++ (prow m i).map prD))):=extend_gen (x_var1 _ _ _ _) hC List.getElem?_concat_length (by simp only [List.length_map]; omega) (noRefs_pr _)
 rw [set_last,← List.map_append,PP_snoc] at hx
 exact drop_gen hx
theorem for_fin {sr:Ev→List Cell→R Src} {g:Gd} {s:Ev→List Cell→R Fl} {e:Ev} {c:List Cell} {l:List D} {r:R Fl} (h1:sr e c=.ok ⟨l,fun _=>True⟩ c) (h2:forD (fun _=>True) g s l e c=r):sFor sr g s e c=r:=by
 rw [x_for,h1]; exact h2
theorem rng1_gen {d:Ev→List Cell→R D} {e:Ev} {c:List Cell} {q:Int} (h:d e c=.ok (.int q) c) (bq:-4611686018427387904≤q∧q < 4611686018427387904):dRng1 (dCons d dNil) e c=.ok ⟨rngD 0 q,fun _=>True⟩ c:=by
 simp only [x_rng1,x_cons,h,x_nil,R.bind_ok]
 rw [if_pos (by omega)]
theorem pa_loop {m:Nat} {c:List Cell} (hm:m≤100) (rest:Ev):∃ v,sFor (dRng1 (dCons (dVar 0) dNil)) (gdName 2) paB (some (.int m) :: some (.ref c.length) :: none :: rest) (c ++ [.lst []])=.ok (.nx (some (.int m) :: some (.ref c.length) :: v :: rest)) (c ++ [.lst ((PP m).map prD)]):=by
 have hf:=for_idx (α:=Option D) (st:=fun _=>True) (g:=gdName 2) (s:=paB) (fun i=>c ++ [.lst ((PPn m i).map prD)]) (fun _ v=>some (.int m) :: some (.ref c.length) :: v :: rest) (rngD 0 (m:Int)) 0 none (fun _ _=>trivial) (fun i x hx v=>by
  rw [Nat.zero_add]
  obtain ⟨h1,rfl⟩:=rng_get hx
  rw [Int.zero_add]
  exact ⟨_,rfl,some (.int i),pa_step hm (by omega) rest⟩)
 obtain ⟨v,hf⟩:=hf
 have hl:(rngD 0 (m:Int)).length=m:=by rw [rng_len]; omega
 rw [Nat.zero_add,hl] at hf
 exact ⟨v,for_fin (rng1_gen (q:=m) rfl (by omega)) hf⟩
theorem PP_at {P:List (Nat×Nat)} {i:Nat} (h:i < P.length):P.getD i (0,0)=P[i]:=by rw [List.getD_eq_getElem?_getD,List.getElem?_eq_getElem h]; rfl
theorem ix_ref {k i:Nat} {c:List Cell} {P:List (Nat×Nat)} (hk:c[k]? = some (.lst (P.map prD))) (h:i < P.length):ixD (.ref k) (.int (i:Int)) c=.ok (prD (P.getD i (0,0))) c:=by
 have ha:atI (P.map prD) (i:Int)=some (prD P[i]):=atI_nat (by rw [List.getElem?_map,List.getElem?_eq_getElem h]; rfl)
 rw [PP_at h]
 unfold ixD seqD
 simp only [hk,ha]
theorem exit_web (w:List (List Nat)) (c d:List Cell):exitD false c.length (webD w) (c ++ d)=.ok (webD w) c:=by
 have nr:=web_noref w
 unfold webD at nr ⊢
 unfold exitD
 dsimp only
 rw [if_pos nr,List.take_left]
noncomputable def lpT:Ev→List Cell→R Bool:=(dOrT (dBl (dBin inD (dBin ixD (dBin ixD (dVar 1) (dVar 2)) (dC (.int 0))) (dBin ixD (dVar 1) (dVar 4)))) (dBl (dBin inD (dBin ixD (dBin ixD (dVar 1) (dVar 2)) (dC (.int 1))) (dBin ixD (dVar 1) (dVar 4)))))
noncomputable def lpA:Ev→List Cell→R Fl:=(sDrop (dAppend (dVar 3) (dTup (dCons (dVar 2) (dCons (dVar 4) dNil)))))
noncomputable def lpB:Ev→List Cell→R Fl:=sIf lpT lpA sNext
noncomputable def lpO:Ev→List Cell→R Fl:=(sFor (dRng2 (dCons (dBin addD (dVar 2) (dC (.int 1))) (dCons (dCB lenD (dCons (dVar 1) dNil)) dNil))) (gdName 4) lpB)
theorem in_pr (a:Nat) (p:Nat×Nat) (c:List Cell):inD (.int (a:Int)) (prD p) c=.ok (.bl (decide (a∈prL p))) c:=in_nD (prL p) a c
theorem or_gen {d1 d2:Ev→List Cell→R D} {e:Ev} {c:List Cell} {a b:Bool} (h1:d1 e c=.ok (.bl a) c) (h2:d2 e c=.ok (.bl b) c):dOrT (dBl d1) (dBl d2) e c=.ok (a || b) c:=by
 cases a <;> simp [h1,h2]
theorem bin_gen {f:D→D→List Cell→R D} {d1 d2:Ev→List Cell→R D} {e:Ev} {c:List Cell} {x y:D} {r:R D} (h1:d1 e c=.ok x c) (h2:d2 e c=.ok y c) (h:f x y c=r):dBin f d1 d2 e c=r:=by
 rw [x_bin,h1]
 simp only [R.bind_ok]
 rw [h2]
 exact h
theorem lp_t {k i j:Nat} {P:List (Nat×Nat)} {a0 a3:Option D} {c:List Cell} (hk:c[k]? = some (.lst (P.map prD))) (hi:i < P.length) (hj:j < P.length):lpT [a0,some (.ref k),some (.int i),a3,some (.int j)] c=.ok (qcond P i j) c:=by
 have h1:dBin ixD (dVar 1) (dVar 2) [a0,some (.ref k),some (.int i),a3,some (.int j)] c=.ok (prD (P.getD i (0,0))) c:=bin_gen rfl rfl (ix_ref hk hi)
 have h2:dBin ixD (dVar 1) (dVar 4) [a0,some (.ref k),some (.int i),a3,some (.int j)] c=.ok (prD (P.getD j (0,0))) c:=bin_gen rfl rfl (ix_ref hk hj)
 exact or_gen (bin_gen (bin_gen h1 rfl (ix_pr0 _ c)) h2 (in_pr _ _ c)) (bin_gen (bin_gen h1 rfl (ix_pr1 _ c)) h2 (in_pr _ _ c))
theorem append_gen {dO da:Ev→List Cell→R D} {e:Ev} {c:List Cell} {k:Nat} {acc:List D} {v:D} (h1:dO e c=.ok (.ref k) c) (h2:da e c=.ok v c) (hk:c[k]? = some (.lst acc)) (hl:acc.length + 1≤1000000) (nr:noRef v=true):dAppend dO da e c=.ok .non (c.set k (.lst (acc ++ [v]))):=by
 have hs:1000000≤sizeLine:=by decide
 unfold dAppend
 rw [h1]
 simp only [R.bind_ok]
 rw [h2]
 simp only [R.bind_ok]
 rw [hk]
 dsimp only
 rw [if_pos ⟨by omega,nr⟩]
theorem x_var3 (a b d:Option D) (v:D) (rest:Ev) (c:List Cell):dVar 3 (a :: b :: d :: some v :: rest) c=.ok v c:=rfl
theorem lp_step {k i j:Nat} {P:List (Nat×Nat)} {a0:Option D} {c:List Cell} {acc:List (Nat×Nat)} (hkc:k < c.length) (hk:c[k]? = some (.lst (P.map prD))) (hi:i < P.length) (hj:j < P.length) (hl:acc.length + 1≤1000000) :
  lpB [a0,some (.ref k),some (.int i),some (.ref c.length),some (.int j)] (c ++ [.lst (acc.map prD)])=.ok (.nx [a0,some (.ref k),some (.int i),some (.ref c.length),some (.int j)]) (c ++ [.lst ((acc ++ ([j].filter (qcond P i)).map fun j=>(i,j)).map prD)]):=by
 have hk':(c ++ [Cell.lst (acc.map prD)])[k]? = some (.lst (P.map prD)):=by rw [List.getElem?_append_left hkc]; exact hk
 have ht:=lp_t (a0:=a0) (a3:=some (.ref c.length)) hk' hi hj
 unfold lpB
 rw [x_if,ht]
 simp only [R.bind_ok]
 cases hq:qcond P i j with
 | false =>
  rw [if_neg (by simp),List.filter_cons_of_neg (by simp [hq])]
  simp
 | true =>
  rw [if_pos rfl,List.filter_cons_of_pos hq]
  have ha:dAppend (dVar 3) (dTup (dCons (dVar 2) (dCons (dVar 4) dNil))) [a0,some (.ref k),some (.int i),some (.ref c.length),some (.int j)] (c ++ [.lst (acc.map prD)])=.ok .non ((c ++ [Cell.lst (acc.map prD)]).set c.length (.lst (acc.map prD ++ [prD (i,j)]))):=append_gen (x_var3 _ _ _ _ _ _) (tup2 rfl rfl) List.getElem?_concat_length (by rw [List.length_map]; exact hl) rfl
  rw [set_last] at ha
  have:=drop_gen ha
  unfold lpA
  rw [this]
  simp
theorem range_snoc (a t:Nat):List.range' a (t + 1)=List.range' a t ++ [a + t]:=by
 rw [List.range'_concat]
 simp
theorem rng2_gen {d1 d2:Ev→List Cell→R D} {e:Ev} {c:List Cell} {p q:Int} (h1:d1 e c=.ok (.int p) c) (h2:d2 e c=.ok (.int q) c) (bp:-4611686018427387904≤p∧p < 4611686018427387904) (bq:-4611686018427387904≤q∧q < 4611686018427387904):dRng2 (dCons d1 (dCons d2 dNil)) e c=.ok ⟨rngD p q,fun _=>True⟩ c:=by
 simp only [x_rng2,x_cons,h1,h2,x_nil,R.bind_ok]
 rw [if_pos ⟨by omega,by omega,by omega,by omega⟩]
theorem len_ref {k:Nat} {c:List Cell} {l:List D} (hk:c[k]? = some (.lst l)):lenD [.ref k] c=.ok (.int (l.length:Nat)) c:=by
 unfold lenD seqD
 simp only [hk]
theorem add1 (i:Nat) (c:List Cell):addD (.int (i:Int)) (.int 1) c=.ok (.int ((i:Int) + 1)) c:=rfl
theorem lp_in {k i:Nat} {P:List (Nat×Nat)} {a0 v4:Option D} {c:List Cell} {acc:List (Nat×Nat)} (hkc:k < c.length) (hk:c[k]? = some (.lst (P.map prD))) (hi:i < P.length) (hP:P.length≤100) (hl:acc.length + 100≤1000000) :
  ∃ v,lpO [a0,some (.ref k),some (.int i),some (.ref c.length),v4] (c ++ [.lst (acc.map prD)])=.ok (.nx [a0,some (.ref k),some (.int i),some (.ref c.length),v]) (c ++ [.lst ((acc ++ qrow P i).map prD)]):=by
 have hf:=for_idx (α:=Option D) (st:=fun _=>True) (g:=gdName 4) (s:=lpB) (fun t=>c ++ [.lst ((acc ++ ((List.range' (i + 1) t).filter (qcond P i)).map fun j=>(i,j)).map prD)]) (fun _ v=>[a0,some (.ref k),some (.int i),some (.ref c.length),v]) (rngD ((i:Int) + 1) (P.length:Int)) 0 v4 (fun _ _=>trivial) (fun t x hx v=>by
  rw [Nat.zero_add]
  obtain ⟨h1,rfl⟩:=rng_get hx
  have e1:((i:Int) + 1 + (t:Int))=((i + 1 + t:Nat):Int):=by omega
  rw [e1]
  have hlen:(acc ++ ((List.range' (i + 1) t).filter (qcond P i)).map fun j=>(i,j)).length≤acc.length + t:=by
   rw [List.length_append,List.length_map]
   have:=List.length_filter_le (qcond P i) (List.range' (i + 1) t)
   rw [List.length_range'] at this
   omega
  have hs:=lp_step (j:=i + 1 + t) (a0:=a0) (acc:=acc ++ ((List.range' (i + 1) t).filter (qcond P i)).map fun j=>(i,j)) hkc hk hi (by omega) (by omega)
  rw [List.append_assoc,← List.map_append,← List.filter_append,← range_snoc] at hs
  exact ⟨_,rfl,some (.int (i + 1 + t:Nat)),hs⟩)
 obtain ⟨v,hf⟩:=hf
 have hln:(rngD ((i:Int) + 1) (P.length:Int)).length=P.length - (i + 1):=by rw [rng_len]; omega
 rw [Nat.zero_add,hln] at hf
 have e0:(acc ++ ((List.range' (i + 1) 0).filter (qcond P i)).map fun j=>(i,j))=acc:=by simp
 rw [e0] at hf
 have hk':(c ++ [Cell.lst (acc.map prD)])[k]? = some (.lst (P.map prD)):=by rw [List.getElem?_append_left hkc]; exact hk
 have hl':=len_ref hk'
 rw [List.length_map] at hl'
 exact ⟨v,for_fin (rng2_gen (p:=(i:Int) + 1) (q:=(P.length:Int)) (bin_gen rfl rfl (add1 i _)) (cb1 rfl hl') (by omega) (by omega)) hf⟩
theorem QQ_snoc (P:List (Nat×Nat)) (i:Nat):QQn P i ++ qrow P i=QQn P (i + 1):=by
 unfold QQn
 rw [List.range_succ,List.flatMap_append]
 simp
theorem qrow_len (P:List (Nat×Nat)) (i:Nat):(qrow P i).length≤P.length:=by
 unfold qrow
 rw [List.length_map]
 have:=List.length_filter_le (qcond P i) (List.range' (i + 1) (P.length - (i + 1)))
 rw [List.length_range'] at this
 omega
theorem QQ_len (P:List (Nat×Nat)) (i:Nat):(QQn P i).length≤i * P.length:=by
 induction i with
 | zero=>simp [QQn]
 | succ i ih =>
  rw [← QQ_snoc,List.length_append,Nat.succ_mul]
  have:=qrow_len P i
  omega
theorem lp_out {k:Nat} {P:List (Nat×Nat)} {a0 v2:Option D} {c:List Cell} (hkc:k < c.length) (hk:c[k]? = some (.lst (P.map prD))) (hP:P.length≤100) :
  ∃ u v,sFor (dRng1 (dCons (dCB lenD (dCons (dVar 1) dNil)) dNil)) (gdName 2) lpO [a0,some (.ref k),v2,some (.ref c.length),none] (c ++ [.lst []])=.ok (.nx [a0,some (.ref k),u,some (.ref c.length),v]) (c ++ [.lst ((QQ P).map prD)]):=by
 have hf:=for_idx (α:=Option D×Option D) (st:=fun _=>True) (g:=gdName 2) (s:=lpO) (fun i=>c ++ [.lst ((QQn P i).map prD)]) (fun _ v=>[a0,some (.ref k),v.1,some (.ref c.length),v.2]) (rngD 0 (P.length:Int)) 0 (v2,none) (fun _ _=>trivial) (fun i x hx v=>by
  rw [Nat.zero_add]
  obtain ⟨h1,rfl⟩:=rng_get hx
  rw [Int.zero_add]
  have h2:=QQ_len P i
  have h3:i * P.length≤100 * 100:=Nat.mul_le_mul (by omega) hP
  obtain ⟨w,hs⟩:=lp_in (a0:=a0) (v4:=v.2) (acc:=QQn P i) hkc hk (i:=i) (by omega) hP (by omega)
  rw [QQ_snoc] at hs
  exact ⟨_,rfl,(some (.int i),w),hs⟩)
 obtain ⟨v,hf⟩:=hf
 have hln:(rngD 0 (P.length:Int)).length=P.length:=by rw [rng_len]; omega
 rw [Nat.zero_add,hln] at hf
 have hk':(c ++ [Cell.lst []])[k]? = some (.lst (P.map prD)):=by rw [List.getElem?_append_left hkc]; exact hk
 have hl':=len_ref hk'
 rw [List.length_map] at hl'
 exact ⟨v.1,v.2,for_fin (rng1_gen (q:=(P.length:Int)) (cb1 rfl hl') (by omega)) hf⟩
theorem QQ_ok (P:List (Nat×Nat)):PsOk P.length (QQ P):=fun p hp=>by
 unfold QQ QQn at hp
 obtain ⟨i,hi,hp⟩:=List.mem_flatMap.mp hp
 unfold qrow at hp
 obtain ⟨j,hj,rfl⟩:=List.mem_map.mp hp
 have:=List.mem_range'_1.mp (List.mem_filter.mp hj).1
 have hi:=List.mem_range.mp hi
 exact ⟨by simp only; omega,by simp only; omega⟩
theorem law_pairs_ok {m:Nat} (hm:m≤10) (hl:(PP m).length < 64) (hq:(QQ (PP m)).length < 1000) (c:List Cell):m_law_pairs_web [.int m] c=.ok (webD (webR (PP m).length (QQ (PP m)))) c:=by
 have e1:sSet 1 (dLstM dNil) [some (.int m),none,none,none,none] c=.ok (.nx [some (.int m),some (.ref c.length),none,none,none]) (c ++ [.lst []]):=by simp
 obtain ⟨v,e2⟩:=pa_loop (m:=m) (c:=c) (by omega) [none,none]
 generalize hP:PP m=P at e2 hl hq ⊢
 have e3:sSet 3 (dLstM dNil) [some (.int m),some (.ref c.length),v,none,none] (c ++ [.lst (P.map prD)])=.ok (.nx [some (.int m),some (.ref c.length),v,some (.ref (c ++ [Cell.lst (P.map prD)]).length),none]) (c ++ [.lst (P.map prD)] ++ [.lst []]):=by simp
 obtain ⟨u,t,e4⟩:=lp_out (k:=c.length) (P:=P) (a0:=some (.int m)) (v2:=v) (c:=c ++ [.lst (P.map prD)]) (by simp) (by simp) (by omega)
 have hw:=web_by (m:=P.length) (k:=(c ++ [Cell.lst (P.map prD)]).length) (c:=c ++ [.lst (P.map prD)] ++ [.lst ((QQ P).map prD)]) (QQ_ok P) hq hl (by simp)
 have hk:(c ++ [.lst (P.map prD)] ++ [Cell.lst ((QQ P).map prD)])[c.length]? = some (.lst (P.map prD)):=by simp
 have hl':=len_ref hk
 rw [List.length_map] at hl'
 have e5:=ret_gen (call_gen2 (m:=m_law_web_by) (d1:=dCB lenD (dCons (dVar 1) dNil)) (d2:=dVar 3) (e:=[some (.int m),some (.ref c.length),u,some (.ref (c ++ [Cell.lst (P.map prD)]).length),t]) (cb1 rfl hl') (x_var3 _ _ _ _ _ _) hw)
 have hb:b_law_pairs_web=sSeq (sSet 1 (dLstM dNil)) (sSeq (sFor (dRng1 (dCons (dVar 0) dNil)) (gdName 2) paB) (sSeq (sSet 3 (dLstM dNil)) (sSeq (sFor (dRng1 (dCons (dCB lenD (dCons (dVar 1) dNil)) dNil)) (gdName 2) lpO) (sRet (dCall 2 m_law_web_by (dCons (dCB lenD (dCons (dVar 1) dNil)) (dCons (dVar 3) dNil))))))):=rfl
 have es:startD 5 [D.int m]=[some (.int m),none,none,none,none]:=rfl
 rw [m_law_pairs_web,x_fn,hb,es,seq_ok e1,seq_ok e2,seq_ok e3,seq_ok e4,e5]
 have:=exit_web (webR P.length (QQ P)) c ([.lst (P.map prD)] ++ [.lst ((QQ P).map prD)])
 rw [← List.append_assoc] at this
 exact this
@[simp] theorem lwhole_int (i:Int) (c:List Cell):m_law_whole [.int i] c=.ok (.bl true) c:=by simp [m_law_whole,b_law_whole]
theorem same_int (i:Int) (k:Nat) (c:List Cell):m_law_same (k + 1) [.int i,.int i] c=.ok (.bl true) c:=by simp [m_law_same,b_law_same]
theorem set_gen2 {i:Nat} {d:Ev→List Cell→R D} {e:Ev} {c c':List Cell} {v:D} (h:d e c=.ok v c'):sSet i d e c=.ok (.nx (e.set i (some v))) c':=by rw [x_set,h]; rfl
end Ev
namespace Ev
open PySem L2
theorem sum_add {α:Type} (f g:α→Int):∀ l:List α,(l.map fun x=>f x + g x).sum=(l.map f).sum + (l.map g).sum
 | []=>rfl
 | x :: l=>by simp only [List.map_cons,List.sum_cons,sum_add f g l]; omega
theorem sum_zero {α:Type}:∀ l:List α,(l.map fun _=>(0:Int)).sum=0
 | []=>rfl
 | x :: l=>by simp only [List.map_cons,List.sum_cons,sum_zero l]; rfl
theorem sum_congr {α:Type} {f g:α→Int}:∀ {l:List α},(∀ x∈l,f x=g x)→(l.map f).sum=(l.map g).sum
 | [],_=>rfl
 | x :: l,h=>by simp only [List.map_cons,List.sum_cons]; rw [h x (by simp),sum_congr fun y hy=>h y (by simp [hy])]
theorem sum_swap {α β:Type} (f:α→β→Int) (m:List β):∀ l:List α,(l.map fun x=>(m.map (f x)).sum).sum=(m.map fun y=>(l.map fun x=>f x y).sum).sum
 | []=>by simp only [List.map_nil,List.sum_nil]; exact (sum_zero m).symm
 | x :: l=>by
  simp only [List.map_cons,List.sum_cons]
  rw [sum_swap f m l,sum_add (f x) (fun y=>(l.map fun x=>f x y).sum)]
theorem sum_one {n a:Nat} (b:Int) (h:a < n):((List.range n).map fun q=>if q=a then b else 0).sum=b:=by
 induction n with
 | zero=>omega
 | succ n ih =>
  rw [List.range_succ,List.map_append,List.sum_append]
  by_cases e:a=n
  ·subst e
   have:((List.range a).map fun q=>if q=a then b else 0)=(List.range a).map fun _=>(0:Int):=List.map_congr_left fun q hq=>by
    rw [List.mem_range] at hq
    rw [if_neg (by omega)]
   rw [this,sum_zero]
   simp
  ·rw [ih (by omega)]
   have:¬ n=a:=fun z=>e z.symm
   simp [this]
theorem sum_in {n:Nat} (h:Nat→Int):∀ {r:List Nat},r.Nodup→(∀ x∈r,x < n)→(r.map h).sum=((List.range n).map fun q=>if q∈r then h q else 0).sum
 | [],_,_=>by simp only [List.map_nil,List.sum_nil,List.not_mem_nil,if_false]; exact (sum_zero _).symm
 | x :: r,hn,hl=>by
  rw [List.nodup_cons] at hn
  have ih:=sum_in (n:=n) h hn.2 fun y hy=>hl y (by simp [hy])
  rw [List.map_cons,List.sum_cons,ih,← sum_one (n:=n) (a:=x) (h x) (hl x (by simp)),← sum_add]
  refine sum_congr fun q _=>?_
  by_cases e:q=x
  ·subst e
   rw [if_pos rfl,if_neg hn.1,if_pos (by simp)]; omega
  ·rw [if_neg e]
   by_cases m:q∈r
   ·rw [if_pos m,if_pos (by simp [m])]; omega
   ·rw [if_neg m,if_neg (by simp [e,m])]; omega
theorem val_cons (p:Nat×Int) (l:List (Nat×Int)) (q:Nat):valN (p :: l) q=if p.1=q then some p.2 else valN l q:=by
 unfold valN
 by_cases h:p.1=q <;> simp [List.find?_cons,h]
theorem val_none {l:List (Nat×Int)} {q:Nat} (h:q∉l.map (·.1)):valN l q=none:=by
 unfold valN
 rw [Option.map_eq_none_iff,List.find?_eq_none]
 intro p hp
 simp only [decide_eq_true_eq]
 rintro rfl
 exact h (List.mem_map.mpr ⟨p,hp,rfl⟩)
theorem sum_val {n:Nat} (g:Nat→Int):∀ {l:List (Nat×Int)},(l.map (·.1)).Nodup→(∀ p∈l,p.1 < n)→(l.map fun p=>p.2 * g p.1).sum=((List.range n).map fun q=>(valN l q).getD 0 * g q).sum
 | [],_,_=>by
  have:((List.range n).map fun q=>(valN [] q).getD 0 * g q)=(List.range n).map fun _=>(0:Int):=List.map_congr_left fun q _=>by simp [valN]
  rw [this,sum_zero]; rfl
 | p :: l,hn,hl=>by
  rw [List.map_cons,List.nodup_cons] at hn
  have ih:=sum_val (n:=n) g hn.2 fun y hy=>hl y (by simp [hy])
  rw [List.map_cons,List.sum_cons,ih,← sum_one (n:=n) (a:=p.1) (p.2 * g p.1) (hl p (by simp)),← sum_add]
  refine sum_congr fun q _=>?_
  rw [val_cons]
  by_cases e:q=p.1
  ·subst e
   rw [if_pos rfl,if_pos rfl,val_none hn.1]; simp
  ·rw [if_neg e,if_neg (fun z=>e z.symm)]; omega
theorem val_put (l:List (Nat×Int)) (n m:Nat) (v:Int):valN (putN l n v) m=if n=m then some v else valN l m:=by
 unfold putN
 split
 ·rename_i ha
  induction l with
  | nil=>simp at ha
  | cons p l ih =>
   rw [List.map_cons,val_cons,val_cons]
   by_cases hp:p.1=n
   ·rw [if_pos hp]
    by_cases hm:n=m
    ·subst hm; simp [hp]
    ·have:¬ p.1=m:=fun z=>hm (by omega)
     simp only [this,if_false,hm]
     by_cases ha2:(l.any fun p=>decide (p.1=n))=true
     ·have:=ih ha2
      rw [if_neg hm] at this
      exact this
     ·have e:(l.map fun p=>if p.1=n then (p.1,v) else p)=l:=by
       conv=>rhs; rw [← List.map_id l]
       refine List.map_congr_left fun q hq=>?_
       rw [if_neg (fun z=>ha2 (List.any_eq_true.mpr ⟨q,hq,by simpa using z⟩))]; rfl
      rw [e]
   ·rw [if_neg hp]
    have ha2:(l.any fun p=>decide (p.1=n))=true:=by
     rw [List.any_cons] at ha
     simpa [hp] using ha
    by_cases hm:p.1=m
    ·rw [if_pos hm,if_neg (fun z=>hp (by omega)),if_pos hm]
    ·rw [if_neg hm,ih ha2,if_neg hm]
 ·rename_i ha
  induction l with
  | nil=>simp [val_cons,valN]
  | cons p l ih =>
   have hp:¬ p.1=n:=fun z=>ha (by simp [z])
   have ha2:¬ (l.any fun p=>decide (p.1=n))=true:=fun z=>ha (by rw [List.any_cons,z]; simp)
   rw [List.cons_append,val_cons,val_cons,ih ha2]
   by_cases hm:p.1=m
   ·rw [if_pos hm,if_neg (fun z=>hp (by omega)),if_pos hm]
   ·rw [if_neg hm,if_neg hm]
noncomputable def fN (l:List (Nat×Int)) (m:Nat):Int:=(valN l m).getD 0
theorem f_add (l:List (Nat×Int)) (n m:Nat) (x:Int):fN (addN l n x) m=fN l m + if n=m then x else 0:=by
 unfold fN addN
 rw [val_put]
 by_cases h:n=m
 ·subst h; simp
 ·simp [h]
theorem f_row (x:Int) (m:Nat):∀ (r:List Nat) (l:List (Nat×Int)),fN (rowN r x l) m=fN l m + x * (r.count m:Nat)
 | [],l=>by simp [rowN]
 | n :: r,l=>by
  have ih:=f_row x m r (addN l n x)
  have e:rowN (n :: r) x l=rowN r x (addN l n x):=rfl
  rw [e,ih,f_add,List.count_cons]
  by_cases h:n=m
  ·subst h
   simp [Int.mul_add]
   omega
  ·simp [h]
theorem f_step (w:List (List Nat)) (m:Nat):∀ (ps l:List (Nat×Int)),fN (stepN w ps l) m=fN l m + (ps.map fun p=>p.2 * (((w.getD p.1 []).count m:Nat):Int)).sum
 | [],l=>by simp [stepN]
 | p :: ps,l=>by
  have ih:=f_step w m ps (rowN (w.getD p.1 []) p.2 l)
  have e:stepN w (p :: ps) l=stepN w ps (rowN (w.getD p.1 []) p.2 l):=rfl
  rw [e,ih,f_row,List.map_cons,List.sum_cons]
  omega
structure Wm (w:List (List Nat)):Prop where
 lt:∀ r∈w,∀ x∈r,x < w.length
 nd:∀ r∈w,r.Nodup
 sym:∀ p q,p < w.length→q < w.length→(q∈w.getD p []↔p∈w.getD q [])
section
variable {w:List (List Nat)}
theorem Wm.row (h:Wm w) {p:Nat} (hp:p < w.length):w.getD p []∈w:=by
 rw [List.getD_eq_getElem?_getD,List.getElem?_eq_getElem hp]; exact List.getElem_mem hp
noncomputable def gW (w:List (List Nat)):Nat→Nat→Nat→Int
 | 0,a,b=>if b=a then 1 else 0
 | k + 1,a,b=>((List.range w.length).map fun q=>if q∈w.getD b [] then gW w k a q else 0).sum
theorem stp_is (h:Wm w) {a:Nat}:∀ (k b:Nat),b < w.length→(stpN w (one0 w.length a) k).getD b 0=gW w k a b
 | 0,b,hb=>by
  show (one0 w.length a).getD b 0=_
  unfold one0 gW
  simp [List.getD_eq_getElem?_getD,hb]
 | k + 1,b,hb=>by
  show (stp w (stpN w (one0 w.length a) k)).getD b 0=_
  unfold stp gW
  have e:((w.map fun r=>(r.map fun x=>(stpN w (one0 w.length a) k).getD x 0).sum)).getD b 0=((w.getD b []).map fun x=>(stpN w (one0 w.length a) k).getD x 0).sum:=by
   simp [List.getD_eq_getElem?_getD,hb]
  rw [e,sum_in (n:=w.length) _ (h.nd _ (h.row hb)) (h.lt _ (h.row hb))]
  refine sum_congr fun q hq=>?_
  rw [List.mem_range] at hq
  rw [stp_is h k q hq]
theorem due_is (h:Wm w) {a:Nat} (ha:a < w.length):∀ (k b:Nat),b < w.length→fN (dueN w a k) b=gW w k a b
 | 0,b,hb=>by
  unfold fN gW dueN
  rw [val_cons]
  by_cases e:b=a
  ·subst e; simp
  ·have:¬ a=b:=fun z=>e z.symm
   simp [e,this,valN]
 | k + 1,b,hb=>by
  have e:dueN w a (k + 1)=stepN w (dueN w a k) []:=rfl
  have gd:=GdN.due (w:=w) (one:=a) h.lt ha k
  rw [e,f_step,sum_val (n:=w.length) (fun q=>(((w.getD q []).count b:Nat):Int)) gd.nd gd.lt]
  have z:fN [] b=0:=rfl
  rw [z,Int.zero_add]
  unfold gW
  refine sum_congr fun q hq=>?_
  rw [List.mem_range] at hq
  have ih:=due_is h ha k q hq
  unfold fN at ih
  rw [ih]
  by_cases m:q∈w.getD b []
  ·rw [if_pos m,List.Nodup.count (h.nd _ (h.row hq)),if_pos ((h.sym b q hb hq).mp m)]
   simp
  ·rw [if_neg m,List.count_eq_zero_of_not_mem (fun z=>m ((h.sym q b hq hb).mp z))]
   simp
theorem gW_left (h:Wm w) {b:Nat} (hb:b < w.length):∀ (k a:Nat),a < w.length→gW w (k + 1) a b=((List.range w.length).map fun q=>if q∈w.getD a [] then gW w k q b else 0).sum
 | 0,a,ha=>by
  have e1:gW w 1 a b=((List.range w.length).map fun q=>if q=a then (if a∈w.getD b [] then (1:Int) else 0) else 0).sum:=by
   show ((List.range w.length).map fun q=>if q∈w.getD b [] then (if q=a then (1:Int) else 0) else 0).sum=_
   refine sum_congr fun q _=>?_
   by_cases e:q=a
   ·subst e; simp
   ·simp [e]
  have e2:((List.range w.length).map fun q=>if q∈w.getD a [] then gW w 0 q b else 0).sum=((List.range w.length).map fun q=>if q=b then (if b∈w.getD a [] then (1:Int) else 0) else 0).sum:=by
   refine sum_congr fun q _=>?_
   unfold gW
   by_cases e:q=b
   ·subst e; simp
   ·have:¬ b=q:=fun z=>e z.symm
    simp [e,this]
  rw [e1,e2,sum_one _ ha,sum_one _ hb]
  by_cases m:a∈w.getD b []
  ·rw [if_pos m,if_pos ((h.sym b a hb ha).mp m)]
  ·rw [if_neg m,if_neg (fun z=>m ((h.sym a b ha hb).mp z))]
 | k + 1,a,ha=>by
  have e1:gW w (k + 2) a b=((List.range w.length).map fun q=>((List.range w.length).map fun s=>if q∈w.getD b [] then (if s∈w.getD a [] then gW w k s q else 0) else 0).sum).sum:=by
   show ((List.range w.length).map fun q=>if q∈w.getD b [] then gW w (k + 1) a q else 0).sum=_
   refine sum_congr fun q hq=>?_
   rw [List.mem_range] at hq
   by_cases m:q∈w.getD b []
   ·simp only [if_pos m]
    exact gW_left h hq k a ha
   ·simp only [if_neg m]
    exact (sum_zero _).symm
  rw [e1,sum_swap]
  refine sum_congr fun s _=>?_
  by_cases m:s∈w.getD a []
  ·simp only [if_pos m]
   rfl
  ·simp only [if_neg m,ite_self]
   exact sum_zero _
theorem gW_sym (h:Wm w):∀ (k a b:Nat),a < w.length→b < w.length→gW w k a b=gW w k b a
 | 0,a,b,_,_=>by
  unfold gW
  by_cases e:a=b
  ·subst e; rfl
  ·have:¬ b=a:=fun z=>e z.symm
   rw [if_neg this,if_neg e]
 | k + 1,a,b,ha,hb=>by
  rw [gW_left h ha k b hb]
  show ((List.range w.length).map fun q=>if q∈w.getD b [] then gW w k a q else 0).sum=_
  refine sum_congr fun q hq=>?_
  rw [List.mem_range] at hq
  by_cases m:q∈w.getD b []
  ·rw [if_pos m,if_pos m,gW_sym h k a q ha hq]
  ·rw [if_neg m,if_neg m]
end
theorem adj_sym {m:Nat} {ps:List (Nat×Nat)} (h:PsOk m ps) {x r:Nat}:x∈adj ps r→r∈adj ps x:=fun hx=>by
 unfold adj at hx ⊢
 rw [List.mem_filterMap] at hx ⊢
 obtain ⟨p,hp,e⟩:=hx
 refine ⟨p,hp,?_⟩
 have hlt:=(h p hp).1
 by_cases e1:p.1=r
 ·rw [if_pos e1] at e
  injection e with e
  rw [if_neg (by omega),if_pos e,e1]
 ·rw [if_neg e1] at e
  by_cases e2:p.2=r
  ·rw [if_pos e2] at e
   injection e with e
   rw [if_pos e,e2]
  ·rw [if_neg e2] at e; cases e
theorem web_wm {m:Nat} {ps:List (Nat×Nat)} (h:PsOk m ps):Wm (webR m ps):=by
 have hl:=web_len m ps
 have hg:∀ p,p < m→(webR m ps).getD p []=ssort (adj ps p):=fun p hp=>by
  unfold webR
  simp [List.getD_eq_getElem?_getD,hp]
 refine ⟨fun r hr x hx=>?_,fun r hr=>?_,fun p q hp hq=>?_⟩
 ·rw [hl]; exact (web_lt h r hr).1 x hx
 ·obtain ⟨i,_,rfl⟩:=List.mem_map.mp hr
  have:=up_ssort (adj ps i)
  unfold Up at this
  exact this.imp fun hab=>by omega
 ·rw [hl] at hp hq
  rw [hg p hp,hg q hq,mem_ssort,mem_ssort]
  exact ⟨adj_sym h,adj_sym h⟩
end Ev
namespace Ev
open PySem L2
theorem call2_s {m:List D→List Cell→R D} {d1 d2:Ev→List Cell→R D} {e:Ev} {c c1 c2 c3:List Cell} {x y v:D} (h1:d1 e c=.ok x c1) (h2:d2 e c1=.ok y c2) (h:m [x,y] c2=.ok v c3):dCall 2 m (dCons d1 (dCons d2 dNil)) e c=.ok v c3:=by
 simp only [x_call,x_cons,h1,h2,x_nil,R.bind_ok]
 rw [if_pos (by rfl)]; exact h
theorem call1_s {m:List D→List Cell→R D} {d1:Ev→List Cell→R D} {e:Ev} {c c1 c2:List Cell} {x v:D} (h1:d1 e c=.ok x c1) (h:m [x] c1=.ok v c2):dCall 1 m (dCons d1 dNil) e c=.ok v c2:=by
 simp only [x_call,x_cons,h1,x_nil,R.bind_ok]
 rw [if_pos (by rfl)]; exact h
theorem ret_fnS {n:Nat} {b:Ev→List Cell→R Fl} {xs:List D} {c c':List Cell} {v:D} (h:b (startD n xs) c=.ok (.rt v) c') (hv:noRef v=true) (hr:∀ k,v≠.ref k):fnD n false b xs c=.ok v (c'.take c.length):=by
 rw [x_fn,h]
 simp only [R.bind_ok]
 cases v <;> first | exact absurd rfl (hr _) | (unfold exitD; dsimp only; rw [if_pos hv])
theorem ifno_gen {t:Ev→List Cell→R Bool} {s:Ev→List Cell→R Fl} {e:Ev} {c c':List Cell} (h:t e c=.ok false c'):sIf t s sNext e c=.ok (.nx e) c':=by
 rw [x_if,h]; rfl
theorem bl_s {d:Ev→List Cell→R D} {e:Ev} {c c':List Cell} {b:Bool} (h:d e c=.ok (.bl b) c'):dBl d e c=.ok b c':=by rw [x_bl,h]; rfl
theorem not_s {t:Ev→List Cell→R Bool} {e:Ev} {c c':List Cell} {b:Bool} (h:t e c=.ok b c'):dNotT t e c=.ok (!b) c':=by
 unfold dNotT; rw [h]; rfl
theorem bin_s {f:D→D→List Cell→R D} {d1 d2:Ev→List Cell→R D} {e:Ev} {c c1 c2:List Cell} {x y:D} {r:R D} (h1:d1 e c=.ok x c1) (h2:d2 e c1=.ok y c2) (h:f x y c2=r):dBin f d1 d2 e c=r:=by
 simp only [x_bin,h1,h2,R.bind_ok]; exact h
theorem call4 {m:List D→List Cell→R D} {d1 d2 d3 d4:Ev→List Cell→R D} {e:Ev} {c:List Cell} {x y z u v:D} (h1:d1 e c=.ok x c) (h2:d2 e c=.ok y c) (h3:d3 e c=.ok z c) (h4:d4 e c=.ok u c) (h:m [x,y,z,u] c=.ok v c):dCall 4 m (dCons d1 (dCons d2 (dCons d3 (dCons d4 dNil)))) e c=.ok v c:=by
 simp only [x_call,x_cons,h1,h2,h3,h4,x_nil,R.bind_ok]
 rw [if_pos (by rfl)]; exact h
theorem lst4 {d1 d2 d3 d4:Ev→List Cell→R D} {e:Ev} {c:List Cell} {x y z u:D} (h1:d1 e c=.ok x c) (h2:d2 e c=.ok y c) (h3:d3 e c=.ok z c) (h4:d4 e c=.ok u c):dLst (dCons d1 (dCons d2 (dCons d3 (dCons d4 dNil)))) e c=.ok (.lst [x,y,z,u]) c:=by
 have:(4:Nat)≤sizeLine:=small_line (by decide)
 simp only [x_lst,x_cons,h1,h2,h3,h4,x_nil,R.bind_ok]
 rw [if_pos (by exact this)]
structure Wl (w:List (List Nat)):Prop where
 wm:Wm w
 lo:1≤w.length
 hi:w.length≤20
section
variable {w:List (List Nat)} {one other many:Nat}
theorem Wl.rows (h:Wl w):∀ r∈w,(∀ x∈r,x < w.length)∧r.length≤w.length:=fun r hr=>⟨h.wm.lt r hr,nodup_lt _ _ (h.wm.nd r hr) (h.wm.lt r hr)⟩
theorem due_val (h:Wl w) (h1:one < w.length) (h2:other < w.length) (h3:many < 1000) (c:List Cell):m_law_due [webD w,.int (one:Int),.int (other:Int),.int (many:Int)] c=.ok (.int (gW w many one other)) c:=by
 have:=mDue_ok (w:=w) (one:=one) (other:=other) (many:=many) ⟨by have:=h.hi; omega,h.wm.lt,h1,h3⟩ c
 have e:=due_is h.wm h1 many other h2
 unfold fN at e
 rw [e] at this
 exact this
theorem ways_val (h:Wl w) (h1:one < w.length) (h2:other < w.length) (h3:many < 1000) (c:List Cell):m_ways_between [webD w,.int (one:Int),.int (other:Int),.int (many:Int)] c=.ok (.int (gW w many one other)) c:=by
 have:=ways_ok h.rows (by have:=h.hi; omega) h1 h2 h3 c
 rw [stp_is h.wm many other h2] at this
 exact this
end
noncomputable def tu0:Ev→List Cell→R Fl:=(sSet 5 (dCall 2 m_law_take (dCons (dVar 2) (dCons (dCB lenD (dCons (dVar 3) dNil)) dNil))))
noncomputable def tu1:Ev→List Cell→R Fl:=(sSet 6 (dCall 2 m_law_take (dCons (dVar 2) (dCons (dCB lenD (dCons (dVar 3) dNil)) dNil))))
noncomputable def tu2:Ev→List Cell→R Fl:=(sSet 7 (dCall 2 m_law_take (dCons (dVar 2) (dCons (dBin ixD (dLst (dCons (dC (.int 10)) (dCons (dC (.int 10)) (dCons (dC (.int 10)) (dCons (dC (.int 61)) dNil))))) (dCall 2 m_law_take (dCons (dVar 2) (dCons (dC (.int 4)) dNil)))) dNil))))
noncomputable def tu3:Ev→List Cell→R Fl:=(sSet 8 (dCall 4 m_law_due (dCons (dVar 3) (dCons (dVar 5) (dCons (dVar 6) (dCons (dVar 7) dNil))))))
noncomputable def tu4:Ev→List Cell→R Fl:=(sIf (dNotT (dBl (dCall 2 (m_law_same 3) (dCons (dCall 4 m_ways_between (dCons (dVar 3) (dCons (dVar 5) (dCons (dVar 6) (dCons (dVar 7) dNil))))) (dCons (dVar 8) dNil))))) (sRet (dC (.bl false))) sNext)
noncomputable def tu5:Ev→List Cell→R Fl:=(sIf (dNotT (dBl (dCall 2 (m_law_same 3) (dCons (dCall 4 m_ways_between (dCons (dVar 3) (dCons (dVar 6) (dCons (dVar 5) (dCons (dVar 7) dNil))))) (dCons (dVar 8) dNil))))) (sRet (dC (.bl false))) sNext)
noncomputable def tuB:Ev→List Cell→R Fl:=sSeq tu0 (sSeq tu1 (sSeq tu2 (sSeq tu3 (sSeq tu4 tu5))))
theorem call_takeS {d:Ev→List Cell→R D} {e:Ev} {c c1 c2:List Cell} {j i:Nat} {far x:Int} (h1:dVar 2 e c=.ok (.ref j) c) (h2:d e c=.ok (.int far) c1) (h:m_law_take [.ref j,.int far] c1=.ok (.int x) c2):sSet i (dCall 2 m_law_take (dCons (dVar 2) (dCons d dNil))) e c=.ok (.nx (e.set i (some (.int x)))) c2 :=
 set_gen2 (call2_s h1 h2 h)
theorem tu_ok {j n:Nat} {w:List (List Nat)} {c:List Cell} (hw:Wl w) (hP:Pot j n c) (a0 a1 a4 v5 v6 v7 v8:Option D):∃ (one other:Nat) (w7 w8:Option D) (c':List Cell),one < w.length∧other < w.length∧Pot j n c'∧tuB [a0,a1,some (.ref j),some (webD w),a4,v5,v6,v7,v8] c=.ok (.nx [a0,a1,some (.ref j),some (webD w),a4,some (.int (one:Int)),some (.int (other:Int)),w7,w8]) c':=by
 have lo:=hw.lo
 have hi:=hw.hi
 obtain ⟨x,c1,x0,x1,P1,t1⟩:=take_ok (far:=(w.length:Int)) hP (by omega) (by omega)
 obtain ⟨one,rfl⟩:=nat_of x0
 obtain ⟨y,c2,y0,y1,P2,t2⟩:=take_ok (far:=(w.length:Int)) P1 (by omega) (by omega)
 obtain ⟨other,rfl⟩:=nat_of y0
 obtain ⟨z,c3,z0,z1,P3,t3⟩:=take_ok (far:=4) P2 (by decide) (by decide)
 have hfar:∃ far:Int,0 < far∧far < 100∧atI [D.int 10,.int 10,.int 10,.int 61] z=some (.int far):=by
  have hz:z=0∨z=1∨z=2∨z=3:=by omega
  rcases hz with rfl | rfl | rfl | rfl
  ·exact ⟨10,by decide,by decide,rfl⟩
  ·exact ⟨10,by decide,by decide,rfl⟩
  ·exact ⟨10,by decide,by decide,rfl⟩
  ·exact ⟨61,by decide,by decide,rfl⟩
 obtain ⟨far,f0,f1,hat⟩:=hfar
 obtain ⟨m,c4,m0,m1,P4,t4⟩:=take_ok (far:=far) P3 f0 (by omega)
 obtain ⟨many,rfl⟩:=nat_of m0
 have h1:one < w.length:=by omega
 have h2:other < w.length:=by omega
 have h3:many < 1000:=by omega
 have e0:tu0 [a0,a1,some (.ref j),some (webD w),a4,v5,v6,v7,v8] c=.ok (.nx [a0,a1,some (.ref j),some (webD w),a4,some (.int (one:Int)),v6,v7,v8]) c1:=call_takeS (i:=5) rfl (cb1 (d1:=dVar 3) (x:=webD w) rfl (len_web w c)) t1
 have e1:tu1 [a0,a1,some (.ref j),some (webD w),a4,some (.int (one:Int)),v6,v7,v8] c1=.ok (.nx [a0,a1,some (.ref j),some (webD w),a4,some (.int (one:Int)),some (.int (other:Int)),v7,v8]) c2:=call_takeS (i:=6) rfl (cb1 (d1:=dVar 3) (x:=webD w) rfl (len_web w c1)) t2
 have hix:ixD (.lst [D.int 10,.int 10,.int 10,.int 61]) (.int z) c3=.ok (.int far) c3:=by rw [x_ixL,hat]
 have e2:tu2 [a0,a1,some (.ref j),some (webD w),a4,some (.int (one:Int)),some (.int (other:Int)),v7,v8] c2=.ok (.nx [a0,a1,some (.ref j),some (webD w),a4,some (.int (one:Int)),some (.int (other:Int)),some (.int (many:Int)),v8]) c4:=call_takeS (i:=7) rfl (bin_s (lst4 (x:=.int 10) (y:=.int 10) (z:=.int 10) (u:=.int 61) rfl rfl rfl rfl) (call2_s (m:=m_law_take) (d1:=dVar 2) (d2:=dC (.int 4)) rfl rfl t3) hix) t4
 have hdue:=due_val hw h1 h2 h3 c4
 have w1:=ways_val hw h1 h2 h3 c4
 have w2:=ways_val hw h2 h1 h3 c4
 rw [gW_sym hw.wm many other one h2 h1] at w2
 generalize gW w many one other=G at hdue w1 w2
 have e3:tu3 [a0,a1,some (.ref j),some (webD w),a4,some (.int (one:Int)),some (.int (other:Int)),some (.int (many:Int)),v8] c4=.ok (.nx [a0,a1,some (.ref j),some (webD w),a4,some (.int (one:Int)),some (.int (other:Int)),some (.int (many:Int)),some (.int G)]) c4:=set_gen (i:=8) (call4 (m:=m_law_due) (d1:=dVar 3) (d2:=dVar 5) (d3:=dVar 6) (d4:=dVar 7) rfl rfl rfl rfl hdue)
 have e4:tu4 [a0,a1,some (.ref j),some (webD w),a4,some (.int (one:Int)),some (.int (other:Int)),some (.int (many:Int)),some (.int G)] c4=.ok (.nx [a0,a1,some (.ref j),some (webD w),a4,some (.int (one:Int)),some (.int (other:Int)),some (.int (many:Int)),some (.int G)]) c4:=ifno_gen (not_s (b:=true) (bl_s (call_gen2 (m:=m_law_same 3) (d2:=dVar 8) (call4 (m:=m_ways_between) (d1:=dVar 3) (d2:=dVar 5) (d3:=dVar 6) (d4:=dVar 7) rfl rfl rfl rfl w1) rfl (same_int G 2 c4))))
 have e5:tu5 [a0,a1,some (.ref j),some (webD w),a4,some (.int (one:Int)),some (.int (other:Int)),some (.int (many:Int)),some (.int G)] c4=.ok (.nx [a0,a1,some (.ref j),some (webD w),a4,some (.int (one:Int)),some (.int (other:Int)),some (.int (many:Int)),some (.int G)]) c4:=ifno_gen (not_s (b:=true) (bl_s (call_gen2 (m:=m_law_same 3) (d2:=dVar 8) (call4 (m:=m_ways_between) (d1:=dVar 3) (d2:=dVar 6) (d3:=dVar 5) (d4:=dVar 7) rfl rfl rfl rfl w2) rfl (same_int G 2 c4))))
 refine ⟨one,other,some (.int (many:Int)),some (.int G),c4,h1,h2,P4,?_⟩
 unfold tuB
 rw [seq_ok e0,seq_ok e1,seq_ok e2,seq_ok e3,seq_ok e4,e5]
noncomputable def ob0:Ev→List Cell→R Fl:=(sSet 2 (dCall 1 m_law_pot (dCons (dCall 2 m_law_cell_at (dCons (dVar 0) (dCons (dVar 1) dNil))) dNil)))
noncomputable def ob1:Ev→List Cell→R Fl:=(sSet 3 (dCall 2 m_law_any_web (dCons (dVar 2) (dCons (dC (.int 12)) dNil))))
noncomputable def ob2:Ev→List Cell→R Fl:=(sIf (dBl (dBin eqD (dCall 2 m_law_take (dCons (dVar 2) (dCons (dC (.int 4)) dNil))) (dC (.int 0)))) (sSet 3 (dCall 1 m_law_pairs_web (dCons (dBin addD (dC (.int 3)) (dCall 2 m_law_take (dCons (dVar 2) (dCons (dC (.int 4)) dNil)))) dNil))) sNext)
noncomputable def ob3:Ev→List Cell→R Fl:=sFor (dRng1 (dCons (dC (.int 3)) dNil)) (gdName 4) tuB
noncomputable def ob4:Ev→List Cell→R Fl:=(sIf (dNotT (dBl (dCall 2 (m_law_same 3) (dCons (dCall 4 m_ways_between (dCons (dVar 3) (dCons (dVar 5) (dCons (dVar 6) (dCons (dC (.int 0)) dNil))))) (dCons (dCB int1D (dCons (dBin eqD (dVar 5) (dVar 6)) dNil)) dNil))))) (sRet (dC (.bl false))) sNext)
noncomputable def outerB:Ev→List Cell→R Fl:=sSeq ob0 (sSeq ob1 (sSeq ob2 (sSeq ob3 ob4)))
theorem pairs_wl {m:Nat} (h1:3≤m) (h2:m < 7) (c:List Cell):∃ w,Wl w∧m_law_pairs_web [.int (m:Int)] c=.ok (webD w) c:=by
 have hd:((List.range' 3 4).all fun m=>decide ((PP m).length < 16) && decide (1≤(PP m).length) && decide ((QQ (PP m)).length < 1000))=true:=by decide +kernel
 have:=List.all_eq_true.mp hd m (List.mem_range'_1.mpr ⟨h1,by omega⟩)
 simp only [Bool.and_eq_true,decide_eq_true_eq] at this
 obtain ⟨⟨l1,l2⟩,l3⟩:=this
 refine ⟨webR (PP m).length (QQ (PP m)),⟨web_wm (QQ_ok _),?_,?_⟩,law_pairs_ok (by omega) (by omega) l3 c⟩
 ·rw [web_len]; exact l2
 ·rw [web_len]; omega
theorem eq_int (i k:Int) (c:List Cell):eqD (.int i) (.int k) c=.ok (.bl (decide (i=k))) c:=by simp
theorem outer_ok {ns:List Int} {i:Int} (hi:0≤i) (c:List Cell) (v2 v3 v4 v5 v6 v7 v8:Option D) :
  ∃ e' c',(∃ w1 w2 w3 w4 w5 w6 w7 w8,e'=[some (.scr ns),w1,w2,w3,w4,w5,w6,w7,w8])∧outerB [some (.scr ns),some (.int i),v2,v3,v4,v5,v6,v7,v8] c=.ok (.nx e') c':=by
 obtain ⟨x,hx⟩:=cell_ok ns i hi c
 obtain ⟨p0,hp⟩:=pot_ok x c
 have P0:Pot c.length (c.length + 1) (c ++ [.lst [.int p0]]):=⟨by simp,by omega,p0,by simp⟩
 generalize c.length=j at hp P0
 generalize j + 1=n at P0
 generalize c ++ [.lst [.int p0]]=c0 at hp P0
 have e0:ob0 [some (.scr ns),some (.int i),v2,v3,v4,v5,v6,v7,v8] c=.ok (.nx [some (.scr ns),some (.int i),some (.ref j),v3,v4,v5,v6,v7,v8]) c0:=set_gen2 (i:=2) (call1_s (m:=m_law_pot) (call2_s (m:=m_law_cell_at) (d1:=dVar 0) (d2:=dVar 1) rfl rfl hx) hp)
 obtain ⟨m,ps,c1,m1,m2,hps,P1,haw⟩:=any_web (most:=12) P0 (by decide) (by decide)
 have W1:Wl (webR m ps):=⟨web_wm hps,by rw [web_len]; exact m1,by rw [web_len]; omega⟩
 generalize webR m ps=w1 at haw W1
 have e1:ob1 [some (.scr ns),some (.int i),some (.ref j),v3,v4,v5,v6,v7,v8] c0=.ok (.nx [some (.scr ns),some (.int i),some (.ref j),some (webD w1),v4,v5,v6,v7,v8]) c1:=set_gen2 (i:=3) (call2_s (m:=m_law_any_web) (d1:=dVar 2) (d2:=dC (.int 12)) rfl rfl haw)
 obtain ⟨y,c2,y0,y1,P2,t2⟩:=take_ok (far:=4) P1 (by decide) (by decide)
 have ht:=bl_s (bin_s (call2_s (m:=m_law_take) (d1:=dVar 2) (d2:=dC (.int 4)) (e:=[some (.scr ns),some (.int i),some (.ref j),some (webD w1),v4,v5,v6,v7,v8]) rfl rfl t2) (d2:=dC (.int 0)) rfl (eq_int y 0 c2))
 have e2:∃ w c3,Wl w∧Pot j n c3∧ob2 [some (.scr ns),some (.int i),some (.ref j),some (webD w1),v4,v5,v6,v7,v8] c1=.ok (.nx [some (.scr ns),some (.int i),some (.ref j),some (webD w),v4,v5,v6,v7,v8]) c3:=by
  by_cases q:y=0
  ·obtain ⟨z,c3,z0,z1,P3,t3⟩:=take_ok (far:=4) P2 (by decide) (by decide)
   obtain ⟨m,hm⟩:=nat_of (i:=3 + z) (by omega)
   obtain ⟨w,hw,hl⟩:=pairs_wl (m:=m) (by omega) (by omega) c3
   refine ⟨w,c3,hw,P3,?_⟩
   unfold ob2
   rw [x_if,ht]
   simp only [R.bind_ok]
   rw [if_pos (by simp [q])]
   rw [← hm] at hl
   exact set_gen2 (i:=3) (call1_s (m:=m_law_pairs_web) (bin_s (x:=.int 3) rfl (call2_s (m:=m_law_take) (d1:=dVar 2) (d2:=dC (.int 4)) rfl rfl t3) rfl) hl)
  ·refine ⟨w1,c2,W1,P2,?_⟩
   unfold ob2
   rw [x_if,ht]
   simp only [R.bind_ok]
   rw [if_neg (by simp [q])]
   rfl
 obtain ⟨w,c3,hw,P3,e2⟩:=e2
 obtain ⟨e',c',⟨w4,w5,w6,w7,w8,rfl,P',hk⟩,hf⟩:=for_invI (g:=gdName 4) (s:=tuB) (fun k e c'=>∃ w4 w5 w6 w7 w8,e=[some (.scr ns),some (.int i),some (.ref j),some (webD w),w4,w5,w6,w7,w8]∧Pot j n c'∧(k=0∨∃ one other:Nat,one < w.length∧other < w.length∧w5=some (.int (one:Int))∧w6=some (.int (other:Int)))) (rngD 0 3) 0 [some (.scr ns),some (.int i),some (.ref j),some (webD w),v4,v5,v6,v7,v8] c3 ⟨_,_,_,_,_,rfl,P3,.inl rfl⟩ (fun k x hx e c' ⟨w4,w5,w6,w7,w8,he,P',_⟩=>by
  subst he
  obtain ⟨one,other,u7,u8,c'',h1,h2,P'',h⟩:=tu_ok hw P' (some (.scr ns)) (some (.int i)) (some x) w5 w6 w7 w8
  exact ⟨_,_,_,c'',rfl,h,_,_,_,_,_,rfl,P'',.inr ⟨one,other,h1,h2,rfl,rfl⟩⟩)
 have h3:(rngD 0 3).length=3:=by decide
 rw [h3] at hk
 rcases hk with hk | ⟨one,other,h1,h2,rfl,rfl⟩
 ·cases hk
 ·have e3:ob3 [some (.scr ns),some (.int i),some (.ref j),some (webD w),v4,v5,v6,v7,v8] c3=.ok (.nx [some (.scr ns),some (.int i),some (.ref j),some (webD w),w4,some (.int (one:Int)),some (.int (other:Int)),w7,w8]) c':=for_fin (g:=gdName 4) (s:=tuB) (rng1_gen (q:=3) (d:=dC (.int 3)) rfl (by omega)) hf
  have hv:=ways_val (many:=0) hw h1 h2 (by decide) c'
  have hg:gW w 0 one other=if decide ((one:Int)=(other:Int))=true then 1 else 0:=by
   unfold gW
   by_cases q:other=one
   ·subst q; simp
   ·have:¬ (one:Int)=(other:Int):=fun z=>q (by omega)
    rw [if_neg q]
    simp [this]
  rw [hg] at hv
  have hi1:=cb1 (f:=int1D) (bin_gen (f:=eqD) (d1:=dVar 5) (d2:=dVar 6) (e:=[some (.scr ns),some (.int i),some (.ref j),some (webD w),w4,some (.int (one:Int)),some (.int (other:Int)),w7,w8]) (c:=c') rfl rfl (eq_int (one:Int) (other:Int) c')) (x_int1b _ c')
  generalize (if decide ((one:Int)=(other:Int))=true then (1:Int) else 0)=G at hv hi1
  have e4:ob4 [some (.scr ns),some (.int i),some (.ref j),some (webD w),w4,some (.int (one:Int)),some (.int (other:Int)),w7,w8] c'=.ok (.nx [some (.scr ns),some (.int i),some (.ref j),some (webD w),w4,some (.int (one:Int)),some (.int (other:Int)),w7,w8]) c':=ifno_gen (not_s (b:=true) (bl_s (call_gen2 (m:=m_law_same 3) (call4 (m:=m_ways_between) (d1:=dVar 3) (d2:=dVar 5) (d3:=dVar 6) (d4:=dC (.int 0)) rfl rfl rfl rfl hv) hi1 (same_int G 2 c'))))
  refine ⟨[some (.scr ns),some (.int i),some (.ref j),some (webD w),w4,some (.int (one:Int)),some (.int (other:Int)),w7,w8],c',⟨_,_,_,_,_,_,_,_,rfl⟩,?_⟩
  unfold outerB
  rw [seq_ok e0,seq_ok e1,seq_ok e2,seq_ok e3,e4]
theorem law_main (ns:List Int) (hl:ns.length≤63):∃ c,m_law [.scr ns] []=.ok (.bl true) c:=by
 obtain ⟨e',c',⟨w1,w2,w3,w4,w5,w6,w7,w8,rfl⟩,hf⟩:=for_any (g:=gdName 1) (s:=outerB)
  (fun e=>∃ w1 w2 w3 w4 w5 w6 w7 w8,e=[some (.scr ns),w1,w2,w3,w4,w5,w6,w7,w8]) (rngD 0 5) [some (.scr ns),none,none,none,none,none,none,none,none] [] ⟨_,_,_,_,_,_,_,_,rfl⟩ (fun t ht e c ⟨w1,w2,w3,w4,w5,w6,w7,w8,he⟩=>by
   subst he
   obtain ⟨i,rfl,i0,i1⟩:=mem_rng ht
   obtain ⟨e',c',ie,ho⟩:=outer_ok (ns:=ns) i0 c w2 w3 w4 w5 w6 w7 w8
   exact ⟨_,e',_,c',rfl,ho,ie⟩)
 have hb2:b_law=sSeq (sFor (dRng1 (dCons (dC (.int 5)) dNil)) (gdName 1) outerB) (sRet (dC (.bl true))):=rfl
 have e1:=for_fin (g:=gdName 1) (s:=outerB) (rng1_gen (q:=5) (d:=dC (.int 5)) (e:=[some (.scr ns),none,none,none,none,none,none,none,none]) (c:=[]) rfl (by omega)) hf
 have fin:b_law (startD 9 [.scr ns]) []=.ok (.rt (.bl true)) c':=by
  have es:startD 9 [D.scr ns]=[some (.scr ns),none,none,none,none,none,none,none,none]:=rfl
  rw [es,hb2,seq_ok e1]
  rfl
 exact ⟨_,ret_fnS fin rfl (fun k h=>by cases h)⟩
end Ev
namespace Ev
open PySem L2 PyProof.Rows
theorem all_mk {l:PySem.W.OpenLaw} {w:World} {K:PySem.W.Frag} {h:Heap} {mg:Str→Option Value} {fa:Addr} {f_is_whole f_is_whole_within f_is_place f_counts_after_step f_ways_between f_law_cell_at f_law_pot f_law_take f_law_whole f_law_same f_law_web_by f_law_any_web f_law_pairs_web f_law_due f_law:Addr} (X:K.In h) (G:h.Ns mainGlobals mg) (hfa:mg "law"=some (.ref fa))
  {od_is_whole an_is_whole od_is_whole_within an_is_whole_within od_is_place an_is_place od_counts_after_step an_counts_after_step od_ways_between an_ways_between od_law_cell_at an_law_cell_at od_law_pot an_law_pot od_law_take an_law_take od_law_whole an_law_whole od_law_same an_law_same od_law_web_by an_law_web_by od_law_any_web an_law_any_web od_law_pairs_web an_law_pairs_web od_law_due an_law_due od_law an_law:Option Addr} {sl_is_whole sl_is_whole_within sl_is_place sl_counts_after_step sl_ways_between sl_law_cell_at sl_law_pot sl_law_take sl_law_whole sl_law_same sl_law_web_by sl_law_any_web sl_law_pairs_web sl_law_due sl_law:Array (Option Value)} {oc_is_whole kV_is_whole dc_is_whole pm_is_whole cd_is_whole ct_is_whole oc_is_whole_within kV_is_whole_within dc_is_whole_within pm_is_whole_within cd_is_whole_within ct_is_whole_within oc_is_place kV_is_place dc_is_place pm_is_place cd_is_place ct_is_place oc_counts_after_step kV_counts_after_step dc_counts_after_step pm_counts_after_step cd_counts_after_step ct_counts_after_step oc_ways_between kV_ways_between dc_ways_between pm_ways_between cd_ways_between ct_ways_between oc_law_cell_at kV_law_cell_at dc_law_cell_at pm_law_cell_at cd_law_cell_at ct_law_cell_at oc_law_pot kV_law_pot dc_law_pot pm_law_pot cd_law_pot ct_law_pot oc_law_take kV_law_take dc_law_take pm_law_take cd_law_take ct_law_take oc_law_whole kV_law_whole dc_law_whole pm_law_whole cd_law_whole ct_law_whole oc_law_same kV_law_same dc_law_same pm_law_same cd_law_same ct_law_same oc_law_web_by kV_law_web_by dc_law_web_by pm_law_web_by cd_law_web_by ct_law_web_by oc_law_any_web kV_law_any_web dc_law_any_web pm_law_any_web cd_law_any_web ct_law_any_web oc_law_pairs_web kV_law_pairs_web dc_law_pairs_web pm_law_pairs_web cd_law_pairs_web ct_law_pairs_web oc_law_due kV_law_due dc_law_due pm_law_due cd_law_due ct_law_due oc_law kV_law dc_law pm_law cd_law ct_law:Value}
  (a_is_whole:PySem.W.nsIn K mainGlobals "is_whole"=some (some (.ref f_is_whole))) (l_is_whole:K.lookup f_is_whole=some ⟨oc_is_whole,od_is_whole,.func (PySem.W.fnOf "is_whole" "is_whole" (defArgs s_is_whole) (defBody s_is_whole) (defScope s_is_whole) .none kV_is_whole dc_is_whole pm_is_whole an_is_whole cd_is_whole ct_is_whole),sl_is_whole⟩) (c_is_whole:PySem.W.codeIn K cd_is_whole "is_whole"=true) (k_is_whole:PySem.W.keepIn K (.ref f_is_whole)=true)
  (a_is_whole_within:PySem.W.nsIn K mainGlobals "is_whole_within"=some (some (.ref f_is_whole_within))) (l_is_whole_within:K.lookup f_is_whole_within=some ⟨oc_is_whole_within,od_is_whole_within,.func (PySem.W.fnOf "is_whole_within" "is_whole_within" (defArgs s_is_whole_within) (defBody s_is_whole_within) (defScope s_is_whole_within) .none kV_is_whole_within dc_is_whole_within pm_is_whole_within an_is_whole_within cd_is_whole_within ct_is_whole_within),sl_is_whole_within⟩) (c_is_whole_within:PySem.W.codeIn K cd_is_whole_within "is_whole_within"=true) (k_is_whole_within:PySem.W.keepIn K (.ref f_is_whole_within)=true)
  (a_is_place:PySem.W.nsIn K mainGlobals "is_place"=some (some (.ref f_is_place))) (l_is_place:K.lookup f_is_place=some ⟨oc_is_place,od_is_place,.func (PySem.W.fnOf "is_place" "is_place" (defArgs s_is_place) (defBody s_is_place) (defScope s_is_place) .none kV_is_place dc_is_place pm_is_place an_is_place cd_is_place ct_is_place),sl_is_place⟩) (c_is_place:PySem.W.codeIn K cd_is_place "is_place"=true) (k_is_place:PySem.W.keepIn K (.ref f_is_place)=true)
  (a_counts_after_step:PySem.W.nsIn K mainGlobals "counts_after_step"=some (some (.ref f_counts_after_step))) (l_counts_after_step:K.lookup f_counts_after_step=some ⟨oc_counts_after_step,od_counts_after_step,.func (PySem.W.fnOf "counts_after_step" "counts_after_step" (defArgs s_counts_after_step) (defBody s_counts_after_step) (defScope s_counts_after_step) .none kV_counts_after_step dc_counts_after_step pm_counts_after_step an_counts_after_step cd_counts_after_step ct_counts_after_step),sl_counts_after_step⟩) (c_counts_after_step:PySem.W.codeIn K cd_counts_after_step "counts_after_step"=true) (k_counts_after_step:PySem.W.keepIn K (.ref f_counts_after_step)=true)
  (a_ways_between:PySem.W.nsIn K mainGlobals "ways_between"=some (some (.ref f_ways_between))) (l_ways_between:K.lookup f_ways_between=some ⟨oc_ways_between,od_ways_between,.func (PySem.W.fnOf "ways_between" "ways_between" (defArgs s_ways_between) (defBody s_ways_between) (defScope s_ways_between) .none kV_ways_between dc_ways_between pm_ways_between an_ways_between cd_ways_between ct_ways_between),sl_ways_between⟩) (c_ways_between:PySem.W.codeIn K cd_ways_between "ways_between"=true) (k_ways_between:PySem.W.keepIn K (.ref f_ways_between)=true)
  (a_law_cell_at:PySem.W.nsIn K mainGlobals "_law_cell_at"=some (some (.ref f_law_cell_at))) (l_law_cell_at:K.lookup f_law_cell_at=some ⟨oc_law_cell_at,od_law_cell_at,.func (PySem.W.fnOf "_law_cell_at" "_law_cell_at" (defArgs s_law_cell_at) (defBody s_law_cell_at) (defScope s_law_cell_at) .none kV_law_cell_at dc_law_cell_at pm_law_cell_at an_law_cell_at cd_law_cell_at ct_law_cell_at),sl_law_cell_at⟩) (c_law_cell_at:PySem.W.codeIn K cd_law_cell_at "_law_cell_at"=true) (k_law_cell_at:PySem.W.keepIn K (.ref f_law_cell_at)=true)
  (a_law_pot:PySem.W.nsIn K mainGlobals "_law_pot"=some (some (.ref f_law_pot))) (l_law_pot:K.lookup f_law_pot=some ⟨oc_law_pot,od_law_pot,.func (PySem.W.fnOf "_law_pot" "_law_pot" (defArgs s_law_pot) (defBody s_law_pot) (defScope s_law_pot) .none kV_law_pot dc_law_pot pm_law_pot an_law_pot cd_law_pot ct_law_pot),sl_law_pot⟩) (c_law_pot:PySem.W.codeIn K cd_law_pot "_law_pot"=true) (k_law_pot:PySem.W.keepIn K (.ref f_law_pot)=true)
  (a_law_take:PySem.W.nsIn K mainGlobals "_law_take"=some (some (.ref f_law_take))) (l_law_take:K.lookup f_law_take=some ⟨oc_law_take,od_law_take,.func (PySem.W.fnOf "_law_take" "_law_take" (defArgs s_law_take) (defBody s_law_take) (defScope s_law_take) .none kV_law_take dc_law_take pm_law_take an_law_take cd_law_take ct_law_take),sl_law_take⟩) (c_law_take:PySem.W.codeIn K cd_law_take "_law_take"=true) (k_law_take:PySem.W.keepIn K (.ref f_law_take)=true)
  (a_law_whole:PySem.W.nsIn K mainGlobals "_law_whole"=some (some (.ref f_law_whole))) (l_law_whole:K.lookup f_law_whole=some ⟨oc_law_whole,od_law_whole,.func (PySem.W.fnOf "_law_whole" "_law_whole" (defArgs s_law_whole) (defBody s_law_whole) (defScope s_law_whole) .none kV_law_whole dc_law_whole pm_law_whole an_law_whole cd_law_whole ct_law_whole),sl_law_whole⟩) (c_law_whole:PySem.W.codeIn K cd_law_whole "_law_whole"=true) (k_law_whole:PySem.W.keepIn K (.ref f_law_whole)=true)
  (a_law_same:PySem.W.nsIn K mainGlobals "_law_same"=some (some (.ref f_law_same))) (l_law_same:K.lookup f_law_same=some ⟨oc_law_same,od_law_same,.func (PySem.W.fnOf "_law_same" "_law_same" (defArgs s_law_same) (defBody s_law_same) (defScope s_law_same) .none kV_law_same dc_law_same pm_law_same an_law_same cd_law_same ct_law_same),sl_law_same⟩) (c_law_same:PySem.W.codeIn K cd_law_same "_law_same"=true) (k_law_same:PySem.W.keepIn K (.ref f_law_same)=true)
  (a_law_web_by:PySem.W.nsIn K mainGlobals "_law_web_by"=some (some (.ref f_law_web_by))) (l_law_web_by:K.lookup f_law_web_by=some ⟨oc_law_web_by,od_law_web_by,.func (PySem.W.fnOf "_law_web_by" "_law_web_by" (defArgs s_law_web_by) (defBody s_law_web_by) (defScope s_law_web_by) .none kV_law_web_by dc_law_web_by pm_law_web_by an_law_web_by cd_law_web_by ct_law_web_by),sl_law_web_by⟩) (c_law_web_by:PySem.W.codeIn K cd_law_web_by "_law_web_by"=true) (k_law_web_by:PySem.W.keepIn K (.ref f_law_web_by)=true)
  (a_law_any_web:PySem.W.nsIn K mainGlobals "_law_any_web"=some (some (.ref f_law_any_web))) (l_law_any_web:K.lookup f_law_any_web=some ⟨oc_law_any_web,od_law_any_web,.func (PySem.W.fnOf "_law_any_web" "_law_any_web" (defArgs s_law_any_web) (defBody s_law_any_web) (defScope s_law_any_web) .none kV_law_any_web dc_law_any_web pm_law_any_web an_law_any_web cd_law_any_web ct_law_any_web),sl_law_any_web⟩) (c_law_any_web:PySem.W.codeIn K cd_law_any_web "_law_any_web"=true) (k_law_any_web:PySem.W.keepIn K (.ref f_law_any_web)=true)
  (a_law_pairs_web:PySem.W.nsIn K mainGlobals "_law_pairs_web"=some (some (.ref f_law_pairs_web))) (l_law_pairs_web:K.lookup f_law_pairs_web=some ⟨oc_law_pairs_web,od_law_pairs_web,.func (PySem.W.fnOf "_law_pairs_web" "_law_pairs_web" (defArgs s_law_pairs_web) (defBody s_law_pairs_web) (defScope s_law_pairs_web) .none kV_law_pairs_web dc_law_pairs_web pm_law_pairs_web an_law_pairs_web cd_law_pairs_web ct_law_pairs_web),sl_law_pairs_web⟩) (c_law_pairs_web:PySem.W.codeIn K cd_law_pairs_web "_law_pairs_web"=true) (k_law_pairs_web:PySem.W.keepIn K (.ref f_law_pairs_web)=true)
  (a_law_due:PySem.W.nsIn K mainGlobals "_law_due"=some (some (.ref f_law_due))) (l_law_due:K.lookup f_law_due=some ⟨oc_law_due,od_law_due,.func (PySem.W.fnOf "_law_due" "_law_due" (defArgs s_law_due) (defBody s_law_due) (defScope s_law_due) .none kV_law_due dc_law_due pm_law_due an_law_due cd_law_due ct_law_due),sl_law_due⟩) (c_law_due:PySem.W.codeIn K cd_law_due "_law_due"=true) (k_law_due:PySem.W.keepIn K (.ref f_law_due)=true)
  (a_law:PySem.W.nsIn K mainGlobals "law"=some (some (.ref f_law))) (l_law:K.lookup f_law=some ⟨oc_law,od_law,.func (PySem.W.fnOf "law" "law" (defArgs s_law) (defBody s_law) (defScope s_law) .none kV_law dc_law pm_law an_law cd_law ct_law),sl_law⟩) (c_law:PySem.W.codeIn K cd_law "law"=true) (k_law:PySem.W.keepIn K (.ref f_law)=true)
  (z_all:PySem.W.nsIn K mainGlobals "all"=some none)
  (z_bool:PySem.W.nsIn K mainGlobals "bool"=some none)
  (z_int:PySem.W.nsIn K mainGlobals "int"=some none)
  (z_isinstance:PySem.W.nsIn K mainGlobals "isinstance"=some none)
  (z_len:PySem.W.nsIn K mainGlobals "len"=some none)
  (z_list:PySem.W.nsIn K mainGlobals "list"=some none)
  (z_range:PySem.W.nsIn K mainGlobals "range"=some none)
  (z_set:PySem.W.nsIn K mainGlobals "set"=some none)
  (z_sorted:PySem.W.nsIn K mainGlobals "sorted"=some none)
  (z_str:PySem.W.nsIn K mainGlobals "str"=some none)
  (z_sum:PySem.W.nsIn K mainGlobals "sum"=some none)
  (z_tuple:PySem.W.nsIn K mainGlobals "tuple"=some none)
  (z_zip:PySem.W.nsIn K mainGlobals "zip"=some none)
  : ∃ fd:FuncData,(∀ (s:Shared) (v:Value),BindsTo s fd ⟨[v],[]⟩ [("script",v)])∧∀ base:Heap,K.In base→base.Ns mainGlobals mg→FnOk l.prog w K mg base CX0 6 fa fd ["script"] (spD K 1 m_law):=by
 have e:=hfa.symm.trans (PySem.W.mg_of X G a_law)
 cases e
 have F_is_whole:=fun_mk (st:=s_is_whole) l_is_whole c_is_whole k_is_whole
 have b_is_whole:=F_is_whole.binds (ps:=["thing"]) fun _ _ _ _ _ _ us hl=>match us,hl with | [_],_=>rfl
 have F_is_whole_within:=fun_mk (st:=s_is_whole_within) l_is_whole_within c_is_whole_within k_is_whole_within
 have b_is_whole_within:=F_is_whole_within.binds (ps:=["thing","least","most"]) fun _ _ _ _ _ _ us hl=>match us,hl with | [_,_,_],_=>rfl
 have F_is_place:=fun_mk (st:=s_is_place) l_is_place c_is_place k_is_place
 have b_is_place:=F_is_place.binds (ps:=["thing","many"]) fun _ _ _ _ _ _ us hl=>match us,hl with | [_,_],_=>rfl
 have F_counts_after_step:=fun_mk (st:=s_counts_after_step) l_counts_after_step c_counts_after_step k_counts_after_step
 have b_counts_after_step:=F_counts_after_step.binds (ps:=["web","counts"]) fun _ _ _ _ _ _ us hl=>match us,hl with | [_,_],_=>rfl
 have F_ways_between:=fun_mk (st:=s_ways_between) l_ways_between c_ways_between k_ways_between
 have b_ways_between:=F_ways_between.binds (ps:=["web","one","other","many"]) fun _ _ _ _ _ _ us hl=>match us,hl with | [_,_,_,_],_=>rfl
 have F_law_cell_at:=fun_mk (st:=s_law_cell_at) l_law_cell_at c_law_cell_at k_law_cell_at
 have b_law_cell_at:=F_law_cell_at.binds (ps:=["script","k"]) fun _ _ _ _ _ _ us hl=>match us,hl with | [_,_],_=>rfl
 have F_law_pot:=fun_mk (st:=s_law_pot) l_law_pot c_law_pot k_law_pot
 have b_law_pot:=F_law_pot.binds (ps:=["cell"]) fun _ _ _ _ _ _ us hl=>match us,hl with | [_],_=>rfl
 have F_law_take:=fun_mk (st:=s_law_take) l_law_take c_law_take k_law_take
 have b_law_take:=F_law_take.binds (ps:=["pot","far"]) fun _ _ _ _ _ _ us hl=>match us,hl with | [_,_],_=>rfl
 have F_law_whole:=fun_mk (st:=s_law_whole) l_law_whole c_law_whole k_law_whole
 have b_law_whole:=F_law_whole.binds (ps:=["found"]) fun _ _ _ _ _ _ us hl=>match us,hl with | [_],_=>rfl
 have F_law_same:=fun_mk (st:=s_law_same) l_law_same c_law_same k_law_same
 have b_law_same:=F_law_same.binds (ps:=["found","due"]) fun _ _ _ _ _ _ us hl=>match us,hl with | [_,_],_=>rfl
 have F_law_web_by:=fun_mk (st:=s_law_web_by) l_law_web_by c_law_web_by k_law_web_by
 have b_law_web_by:=F_law_web_by.binds (ps:=["many","pairs"]) fun _ _ _ _ _ _ us hl=>match us,hl with | [_,_],_=>rfl
 have F_law_any_web:=fun_mk (st:=s_law_any_web) l_law_any_web c_law_any_web k_law_any_web
 have b_law_any_web:=F_law_any_web.binds (ps:=["pot","most"]) fun _ _ _ _ _ _ us hl=>match us,hl with | [_,_],_=>rfl
 have F_law_pairs_web:=fun_mk (st:=s_law_pairs_web) l_law_pairs_web c_law_pairs_web k_law_pairs_web
 have b_law_pairs_web:=F_law_pairs_web.binds (ps:=["m"]) fun _ _ _ _ _ _ us hl=>match us,hl with | [_],_=>rfl
 have F_law_due:=fun_mk (st:=s_law_due) l_law_due c_law_due k_law_due
 have b_law_due:=F_law_due.binds (ps:=["web","one","other","many"]) fun _ _ _ _ _ _ us hl=>match us,hl with | [_,_,_,_],_=>rfl
 have F_law:=fun_mk (st:=s_law) l_law c_law k_law
 have b_law:=F_law.binds (ps:=["script"]) fun _ _ _ _ _ _ us hl=>match us,hl with | [_],_=>rfl
 let T:Tx K mg:={
  a_is_whole:=f_is_whole,fd_is_whole:=_,d_is_whole:=⟨F_is_whole,PySem.W.mg_of X G a_is_whole,b_is_whole⟩,n_is_whole:=a_is_whole,
  a_is_whole_within:=f_is_whole_within,fd_is_whole_within:=_,d_is_whole_within:=⟨F_is_whole_within,PySem.W.mg_of X G a_is_whole_within,b_is_whole_within⟩,n_is_whole_within:=a_is_whole_within,
  a_is_place:=f_is_place,fd_is_place:=_,d_is_place:=⟨F_is_place,PySem.W.mg_of X G a_is_place,b_is_place⟩,n_is_place:=a_is_place,
  a_counts_after_step:=f_counts_after_step,fd_counts_after_step:=_,d_counts_after_step:=⟨F_counts_after_step,PySem.W.mg_of X G a_counts_after_step,b_counts_after_step⟩,n_counts_after_step:=a_counts_after_step,
  a_ways_between:=f_ways_between,fd_ways_between:=_,d_ways_between:=⟨F_ways_between,PySem.W.mg_of X G a_ways_between,b_ways_between⟩,n_ways_between:=a_ways_between,
  a_law_cell_at:=f_law_cell_at,fd_law_cell_at:=_,d_law_cell_at:=⟨F_law_cell_at,PySem.W.mg_of X G a_law_cell_at,b_law_cell_at⟩,n_law_cell_at:=a_law_cell_at,
  a_law_pot:=f_law_pot,fd_law_pot:=_,d_law_pot:=⟨F_law_pot,PySem.W.mg_of X G a_law_pot,b_law_pot⟩,n_law_pot:=a_law_pot,
  a_law_take:=f_law_take,fd_law_take:=_,d_law_take:=⟨F_law_take,PySem.W.mg_of X G a_law_take,b_law_take⟩,n_law_take:=a_law_take,
  a_law_whole:=f_law_whole,fd_law_whole:=_,d_law_whole:=⟨F_law_whole,PySem.W.mg_of X G a_law_whole,b_law_whole⟩,n_law_whole:=a_law_whole,
  a_law_same:=f_law_same,fd_law_same:=_,d_law_same:=⟨F_law_same,PySem.W.mg_of X G a_law_same,b_law_same⟩,n_law_same:=a_law_same,
  a_law_web_by:=f_law_web_by,fd_law_web_by:=_,d_law_web_by:=⟨F_law_web_by,PySem.W.mg_of X G a_law_web_by,b_law_web_by⟩,n_law_web_by:=a_law_web_by,
  a_law_any_web:=f_law_any_web,fd_law_any_web:=_,d_law_any_web:=⟨F_law_any_web,PySem.W.mg_of X G a_law_any_web,b_law_any_web⟩,n_law_any_web:=a_law_any_web,
  a_law_pairs_web:=f_law_pairs_web,fd_law_pairs_web:=_,d_law_pairs_web:=⟨F_law_pairs_web,PySem.W.mg_of X G a_law_pairs_web,b_law_pairs_web⟩,n_law_pairs_web:=a_law_pairs_web,
  a_law_due:=f_law_due,fd_law_due:=_,d_law_due:=⟨F_law_due,PySem.W.mg_of X G a_law_due,b_law_due⟩,n_law_due:=a_law_due,
  a_law:=fa,fd_law:=_,d_law:=⟨F_law,PySem.W.mg_of X G a_law,b_law⟩,n_law:=a_law,
  nb_all:=PySem.W.mg_none_of X G z_all,
  nb_bool:=PySem.W.mg_none_of X G z_bool,
  nb_int:=PySem.W.mg_none_of X G z_int,
  nb_isinstance:=PySem.W.mg_none_of X G z_isinstance,
  nb_len:=PySem.W.mg_none_of X G z_len,
  nb_list:=PySem.W.mg_none_of X G z_list,
  nb_range:=PySem.W.mg_none_of X G z_range,
  nb_set:=PySem.W.mg_none_of X G z_set,
  nb_sorted:=PySem.W.mg_none_of X G z_sorted,
  nb_str:=PySem.W.mg_none_of X G z_str,
  nb_sum:=PySem.W.mg_none_of X G z_sum,
  nb_tuple:=PySem.W.mg_none_of X G z_tuple,
  nb_zip:=PySem.W.mg_none_of X G z_zip }
 exact ⟨_,fun s v=>.of_eq rfl,fun base _ _=>ok_law T⟩
theorem walk {l:PySem.W.OpenLaw} {q:Program} {loose:List Str} {XP:(Str→Option Value)→Heap→Prop} {YP:World→Heap→Prop} {d:DefRec} {K:Params→PySem.W.Frag} (hn:l.most=some 63) (hdf:d.params.defaults=[])
  (hY:∀ (w:World) (h:Heap),YP w h→(K w.params).In h∧∀ q∈([]:List (Addr×Addr)),h.get? q.2=some (PySem.W.tabObj #[]))
  (hK:∀ p,(([]:List (Addr×Addr)).all fun q=>PySem.W.codeHdIn (K p) q.1 q.2)=true∧PySem.W.noTabs (K p)=true∧tabsIn (K p) []=true)
  (F:∀ (w:World) (mg:Str→Option Value) (fa:Addr) (h:Heap),(K w.params).In h→h.Ns mainGlobals mg→mg d.name=some (.ref fa) →
   ∃ fd:FuncData,(∀ (s:Shared) (u:Value),BindsTo s fd ⟨[u],[]⟩ [("script",u)])∧∀ base:Heap,(K w.params).In base→base.Ns mainGlobals mg→FnOk l.prog w (K w.params) mg base CX0 6 fa fd ["script"] (spD (K w.params) 1 m_law)) :
  PySem.W.WalkO q loose XP YP l.row.toRowW d [] (fun f vs=>PySem.call f vs) :=
 L2.walk_ofT (n:=63) (k:=6) (x:="script") (ts:=[]) hn (by decide) hdf ⟨rfl,by decide,by decide⟩ hY hK F law_main
end Ev
open PySem PySem.W PyProof.Rows
set_option maxRecDepth 100000 in
set_option maxHeartbeats 0 in
theorem PySem.Challenge.cw_evenwebs_k31_ways_between_places_holds : PySem.Challenge.rw_evenwebs_k31_ways_between_places.Holds := by
  w_on; o_law; k_head; (case hw => w_witness2)
  k_fill
  refine Ev.walk (l := PySem.Challenge.rw_evenwebs_k31_ways_between_places) rfl rfl (fun w h Y => ⟨PySem.W.kIn_of Y, fun _ h => nomatch h⟩) (fun p => ⟨by kernel_rfl, by kernel_rfl, by kernel_rfl⟩) ?F
  case F =>
    intro w mg fa h KX G hmg
    refine' Ev.all_mk KX G hmg ?a_is_whole ?l_is_whole ?c_is_whole ?k_is_whole ?a_is_whole_within ?l_is_whole_within ?c_is_whole_within ?k_is_whole_within ?a_is_place ?l_is_place ?c_is_place ?k_is_place ?a_counts_after_step ?l_counts_after_step ?c_counts_after_step ?k_counts_after_step ?a_ways_between ?l_ways_between ?c_ways_between ?k_ways_between ?a_law_cell_at ?l_law_cell_at ?c_law_cell_at ?k_law_cell_at ?a_law_pot ?l_law_pot ?c_law_pot ?k_law_pot ?a_law_take ?l_law_take ?c_law_take ?k_law_take ?a_law_whole ?l_law_whole ?c_law_whole ?k_law_whole ?a_law_same ?l_law_same ?c_law_same ?k_law_same ?a_law_web_by ?l_law_web_by ?c_law_web_by ?k_law_web_by ?a_law_any_web ?l_law_any_web ?c_law_any_web ?k_law_any_web ?a_law_pairs_web ?l_law_pairs_web ?c_law_pairs_web ?k_law_pairs_web ?a_law_due ?l_law_due ?c_law_due ?k_law_due ?a_law ?l_law ?c_law ?k_law ?z_all ?z_bool ?z_int ?z_isinstance ?z_len ?z_list ?z_range ?z_set ?z_sorted ?z_str ?z_sum ?z_tuple ?z_zip
    (case a_is_whole => k_is)
    (case l_is_whole => k_is)
    (case c_is_whole => k_is)
    (case k_is_whole => k_is)
    (case a_is_whole_within => k_is)
    (case l_is_whole_within => k_is)
    (case c_is_whole_within => k_is)
    (case k_is_whole_within => k_is)
    (case a_is_place => k_is)
    (case l_is_place => k_is)
    (case c_is_place => k_is)
    (case k_is_place => k_is)
    (case a_counts_after_step => k_is)
    (case l_counts_after_step => k_is)
    (case c_counts_after_step => k_is)
    (case k_counts_after_step => k_is)
    (case a_ways_between => k_is)
    (case l_ways_between => k_is)
    (case c_ways_between => k_is)
    (case k_ways_between => k_is)
    (case a_law_cell_at => k_is)
    (case l_law_cell_at => k_is)
    (case c_law_cell_at => k_is)
    (case k_law_cell_at => k_is)
    (case a_law_pot => k_is)
    (case l_law_pot => k_is)
    (case c_law_pot => k_is)
    (case k_law_pot => k_is)
    (case a_law_take => k_is)
    (case l_law_take => k_is)
    (case c_law_take => k_is)
    (case k_law_take => k_is)
    (case a_law_whole => k_is)
    (case l_law_whole => k_is)
    (case c_law_whole => k_is)
    (case k_law_whole => k_is)
    (case a_law_same => k_is)
    (case l_law_same => k_is)
    (case c_law_same => k_is)
    (case k_law_same => k_is)
    (case a_law_web_by => k_is)
    (case l_law_web_by => k_is)
    (case c_law_web_by => k_is)
    (case k_law_web_by => k_is)
    (case a_law_any_web => k_is)
    (case l_law_any_web => k_is)
    (case c_law_any_web => k_is)
    (case k_law_any_web => k_is)
    (case a_law_pairs_web => k_is)
    (case l_law_pairs_web => k_is)
    (case c_law_pairs_web => k_is)
    (case k_law_pairs_web => k_is)
    (case a_law_due => k_is)
    (case l_law_due => k_is)
    (case c_law_due => k_is)
    (case k_law_due => k_is)
    (case a_law => k_is)
    (case l_law => k_is)
    (case c_law => k_is)
    (case k_law => k_is)
    (case z_all => k_is)
    (case z_bool => k_is)
    (case z_int => k_is)
    (case z_isinstance => k_is)
    (case z_len => k_is)
    (case z_list => k_is)
    (case z_range => k_is)
    (case z_set => k_is)
    (case z_sorted => k_is)
    (case z_str => k_is)
    (case z_sum => k_is)
    (case z_tuple => k_is)
    (case z_zip => k_is)
