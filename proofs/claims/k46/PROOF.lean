import PyProof.Rows.All
import Wide.All
import OpenK.AllK
import Wide.FinOn
import Lean
import PyProof.EqAt
import PyProof.EqKinds
import PyProof.TupleCall
import PySem.Challenge.RW_evenwebs_k46_no_fields_no_things
import PyProof.P3In
import PyProof.EqLayable
import PyProof.ExcArgsOwn
import PyProof.ExcBaseAll.ValueError
import PyProof.DictRoads
import PyProof.DictKinds
import PyProof.Rows.FactsT2
import KE.KRevIter
import PyProof.SetScanFacts
import PyProof.SetKind
import PyProof.Rows.SetFrom
import PyProof.Walks
import PyProof.DictValues
import PyProof.FactsAll.set_1
import PyProof.DictWalks
import KE.KDictSum
import KE.KLam
import PyProof.SetRoads
set_option Elab.async false
set_option linter.all false
set_option maxHeartbeats 4000000
set_option maxRecDepth 100000
set_option bootstrap.genMatcherCode false
set_option genSizeOfSpec false
set_option genSizeOf false
namespace L2
open PySem PySem.Spec PyProof.Rows
noncomputable abbrev Key:=Sum Int Str
noncomputable def keyIs:Key→Value→Bool
  | .inl k,v=>Value.isInt k v
  | .inr x,v=>Value.isStrOf x v
noncomputable def keyH (w:World):Key→Int
  | .inl k=>hashInt k
  | .inr x=>hashStr w x
theorem keyIs_shape:∀ {k:Key} {v:Value},keyIs k v=true→(∃ i t,k=Sum.inl i∧v=Value.int i t)∨(∃ x t,k=Sum.inr x∧v=Value.str x t)
  | .inl i,v,h=>by
    obtain ⟨t,e⟩:=Value.isInt_shape (k:=i) (v:=v) h
    exact .inl ⟨i,t,rfl,e⟩
  | .inr x,v,h=>by
    obtain ⟨t,e⟩:=Value.isStrOf_shape (x:=x) (v:=v) h
    exact .inr ⟨x,t,rfl,e⟩
theorem key_ll (a b:Int):decide ((Sum.inl a:Key)=Sum.inl b)=(a == b):=by
  by_cases e:a=b
  · subst e; simp
  · have h:¬ (Sum.inl a:Key)=Sum.inl b:=fun q=>e (Sum.inl.inj q)
    rw [decide_eq_false h]
    exact (beq_eq_false_iff_ne.mpr e).symm
theorem key_rr (a b:Str):decide ((Sum.inr a:Key)=Sum.inr b)=decide (a=b):=by
  by_cases e:a=b
  · subst e; simp
  · have h:¬ (Sum.inr a:Key)=Sum.inr b:=fun q=>e (Sum.inr.inj q)
    rw [decide_eq_false h,decide_eq_false e]
theorem key_lr (a:Int) (b:Str):decide ((Sum.inl a:Key)=Sum.inr b)=false:=decide_eq_false (fun q=>nomatch q)
theorem key_rl (a:Str) (b:Int):decide ((Sum.inr a:Key)=Sum.inl b)=false:=decide_eq_false (fun q=>nomatch q)
noncomputable def mixKind (prog:Program) (w:World):PySem.KeyKind prog w Key where
  is:=keyIs
  hash:=keyH w
  inj:=fun v a b ha hb=>by
    rcases keyIs_shape ha with ⟨i,t,rfl,rfl⟩ | ⟨x,t,rfl,rfl⟩
    · rcases keyIs_shape hb with ⟨j,u,rfl,e⟩ | ⟨y,u,rfl,e⟩
      · injection e with e1 _; rw [e1]
      · exact nomatch e
    · rcases keyIs_shape hb with ⟨j,u,rfl,e⟩ | ⟨y,u,rfl,e⟩
      · exact nomatch e
      · injection e with e1 _; rw [e1]
  byValue:=fun k v h=>by
    rcases keyIs_shape h with ⟨i,t,rfl,rfl⟩ | ⟨x,t,rfl,rfl⟩ <;> rfl
  pyHash:=fun hv h=>by
    rcases keyIs_shape hv with ⟨i,t,rfl,rfl⟩ | ⟨x,t,rfl,rfl⟩
    · exact wpAny_pyHash_int h
    · exact wpAny_pyHash_str h
  eqBool:=fun hu hv h=>by
    rcases keyIs_shape hu with ⟨i,t,rfl,rfl⟩ | ⟨x,t,rfl,rfl⟩
    · rcases keyIs_shape hv with ⟨j,u,rfl,rfl⟩ | ⟨y,u,rfl,rfl⟩
      · rw [key_ll] at h; exact wpAny_eqBool_int h
      · rw [key_lr] at h; exact SeqAt.EqAt.int_str i t y u _ _ _ _ h
    · rcases keyIs_shape hv with ⟨j,u,rfl,rfl⟩ | ⟨y,u,rfl,rfl⟩
      · rw [key_rl] at h; exact SeqAt.EqAt.str_int x t j u _ _ _ _ h
      · rw [key_rr] at h; exact wpAny_eqBool_str h
  «strs»:=fun k x t v h=>by
    rcases keyIs_shape h with ⟨i,u,rfl,e⟩ | ⟨y,u,rfl,e⟩
    · exact nomatch e
    · injection e with e1 _
      subst e1
      cases v <;> rfl
end L2
namespace L2
open PySem PySem.Spec PyProof.Rows
inductive V where
  | non | bl (b:Bool) | int (i:Int) | str (x:Str) | byt (b:Array UInt8) | flt (b:UInt64) | ref (a:Addr) | ty (n:String)
  deriving DecidableEq
noncomputable def RelV:V→Value→Prop
  | .non,u=>u=Value.none
  | .bl b,u=>u=Value.bool b
  | .int i,u=>∃ t,u=Value.int i t
  | .str x,u=>∃ t,u=Value.str x t
  | .byt b,u=>∃ t,u=Value.bytes b t
  | .flt b,u=>∃ t,u=Value.float b t
  | .ref a,u=>u=Value.ref a
  | .ty n,u=>u=Value.type n
noncomputable abbrev Vals:List V→List Value→Prop:=Paired RelV
theorem Vals.length {xs:List V} {us:List Value} (r:Vals xs us):xs.length=us.length:=Paired.length r
theorem Vals.get:∀ {xs:List V} {us:List Value} {i:Nat} {x:V},Vals xs us→xs[i]? = some x→∃ u,us[i]? = some u∧RelV x u
  | _,_,_,_,.nil,e=>by simp at e
  | _,_,0,_,.cons r _,e=>by simp at e; subst e; exact ⟨_,rfl,r⟩
  | _,_,i + 1,x,.cons _ t,e=>by
    obtain ⟨u,h1,h2⟩:=Vals.get (i:=i) (x:=x) t (by simpa using e)
    exact ⟨u,by simpa using h1,h2⟩
theorem Vals.set {x:V} {u:Value} (r:RelV x u):∀ {xs:List V} {us:List Value} (i:Nat),Vals xs us→Vals (xs.set i x) (us.set i u)
  | _,_,_,.nil=>.nil
  | _,_,0,.cons _ t=>.cons r t
  | _,_,i + 1,.cons q t=>.cons q (Vals.set r i t)
theorem Vals.append:∀ {xs ys:List V} {us ws:List Value},Vals xs us→Vals ys ws→Vals (xs ++ ys) (us ++ ws)
  | _,_,_,_,.nil,s=>s
  | _,_,_,_,.cons r t,s=>.cons r (Vals.append t s)
theorem Vals.take:∀ {xs:List V} {us:List Value} (n:Nat),Vals xs us→Vals (xs.take n) (us.take n)
  | _,_,0,_=>.nil
  | _,_,_ + 1,.nil=>.nil
  | _,_,n + 1,.cons r t=>.cons r (Vals.take n t)
theorem Vals.drop:∀ {xs:List V} {us:List Value} (n:Nat),Vals xs us→Vals (xs.drop n) (us.drop n)
  | _,_,0,r=>r
  | _,_,_ + 1,.nil=>.nil
  | _,_,n + 1,.cons _ t=>Vals.drop n t
noncomputable def RelO:Option V→Option Value→Prop
  | some v,some u=>RelV v u
  | none,none=>True
  | _,_=>False
noncomputable def KV {κ:Type}:List (κ×V)→List (κ×Value)→Prop:=Paired fun (p:κ×V) (q:κ×Value)=>p.1=q.1∧RelV p.2 q.2
noncomputable def kV:Key→V
  | .inl i=>.int i
  | .inr x=>.str x
inductive HO where
  /-- a list -/
  | lst (xs:List V)
  /-- a tuple (never changes) -/
  | tup (xs:List V)
  /-- a dict whose keys are ints and texts; one whose keys are tuples of ints and texts (the empty one is both) -/
  | dK (kvs:List (Key×V)) | dT (kvs:List (List Key×V))
  /-- a set of ints: its members,its size -/
  | set (S:Int→Bool) (n:Nat)
  /-- an instance of the class at C,its dict at dx,its attributes -/
  | ins (C dx:Addr) (fs:List (Str×V))
  /-- the dict of the instance at x -/
  | own (x:Addr)
  /-- the dict of an exception -/
  | xd (fs:List (Str×V))
  /-- a bound method,f of x -/
  | met (f x:Addr)
  /-- a range object lo,lo + 1,.. below hi -/
  | rng (lo hi:Int)
  /-- a thing that is known to the object (the script; a dict while a loop walks it): read,never written while it is so -/
  | frz (o:Obj) (u:HO)
  /-- a code object's table -/
  | tbl (ps:Array Value)
  /-- any other thing,by what is true of its one object (a def of one's own: SetO a S n:=HO.ext fun h=>..) -/
  | ext (φ:Heap→Prop)
noncomputable abbrev Hp:=Addr→Option HO
noncomputable def upd (H:Hp) (a:Addr) (o:HO):Hp:=fun b=>if b=a then some o else H b
theorem upd_same {H:Hp} {a:Addr} {o:HO}:upd H a o a=some o:=by unfold upd; rw [if_pos rfl]
theorem upd_ne {H:Hp} {a b:Addr} {o:HO} (h:b≠a):upd H a o b=H b:=by unfold upd; rw [if_neg h]
theorem ne_of {H:Hp} {a b:Addr} {o u:HO} (h:H a=some o) (h':H b=some u) (d:o≠u):a≠b:=by
  intro e; subst e; rw [h] at h'; exact d (Option.some.inj h')
theorem ne_of_none {H:Hp} {a b:Addr} {o:HO} (h:H a=some o) (h':H b=none):a≠b:=by
  intro e; subst e; rw [h] at h'; cases h'
noncomputable def TupN (h:Heap) (a:Addr) (items:Array Value):Prop:=∃ o,h.get? a=some o∧o.cls=.type "tuple"∧(∃ n,o.data=.seq items n)∧o.dict=none
theorem TupN.tup {h:Heap} {a:Addr} {items:Array Value}:TupN h a items→IsTup h a items:=fun ⟨o,e,c,d,_⟩=>⟨o,e,c,d⟩
theorem TupN.new (h:Heap) (items:Array Value):TupN (h.push { cls:=.type "tuple",data:=.seq items }) h.objs.size items:=⟨_,Heap.get?_push_size _ rfl,rfl,⟨_,rfl⟩,rfl⟩
section
variable (P:Program) (w:World)
noncomputable def ObjOk (H:Hp) (h:Heap) (a:Addr):HO→Prop
  | .lst xs=>xs.length≤sizeLine∧∃ (its:List Value) (n:Nat),Vals xs its∧h.get? a=some { cls:=.type "list",data:=.seq its.toArray n }
  | .tup xs=>xs.length≤sizeLine∧∃ its:List Value,Vals xs its∧TupN h a its.toArray
  | .dK kvs=>kvs.length≤sizeLine∧(a == sysModules)=false∧∃ vs,KV kvs vs∧h.DictOf (mixKind P w) a vs
  | .dT kvs=>kvs.length≤sizeLine∧(a == sysModules)=false∧∃ xs:List (List Key×Addr×Value),
      Paired (fun (p:List Key×V) (q:List Key×Addr×Value)=>p.1=q.1∧H q.2.1=some (.tup (p.1.map kV))∧RelV p.2 q.2.2) kvs xs ∧
      ∃ o es ep,h.get? a=some o∧o.ExactDict∧o.data=.dict es ep∧es.toList=xs.map (entryOfKey (tupleKind (mixKind P w)))∧(xs.map (·.1)).Nodup
  | .set S n=>h.SetOf (intKind P w) a S n
  | .ins C dx fs=>H dx=some (.own a)∧fs.length≤1000∧dx≠a∧h.get? a=some (PySem.W.instObj C dx) ∧
      ∃ mA,h.Ns1 dx mA∧(∀ f,RelO (fs.lookup f) (mA f))∧PySem.Within mA (fs.map (·.1))
  | .own _=>∃ o,h.get? a=some o
  | .xd fs=>∃ mA,h.Ns1 a mA∧∀ f,RelO (fs.lookup f) (mA f)
  | .rng lo hi=>∃ t u v,h.get? a=some { cls:=.type "range",data:=.fields #[.int lo t,.int hi u,.int 1 v] }
  | .frz o u=>h.get? a=some o∧ObjOk H h a u
  | .tbl ps=>h.get? a=some { cls:=.none,data:=.fields ps }
  | .met f x=>h.get? a=some (PySem.W.methodObj (.ref f) (.ref x))
  | .ext φ=>φ h∧(∃ o,h.get? a=some o)∧∀ h1 h2:Heap,φ h1→(∀ o,h1.get? a=some o→h2.get? a=some o)→φ h2
noncomputable def HOk (H:Hp) (h:Heap):Prop:=∀ a o,H a=some o→ObjOk P w H h a o
end
section
variable {P:Program} {w:World} {H H':Hp} {h h':Heap} {a:Addr} {o:HO}
theorem ObjOk.lt (x:ObjOk P w H h a o):a < h.objs.size:=by
  cases o with
  | lst xs=>obtain ⟨_,_,_,_,e⟩:=x; exact Heap.lt_size e
  | tup xs=>obtain ⟨_,_,_,p⟩:=x; exact p.tup.lt
  | dK kvs=>obtain ⟨_,_,_,_,o,_,_,e,_⟩:=x; exact Heap.lt_size e
  | dT kvs=>obtain ⟨_,_,_,_,o,_,_,e,_⟩:=x; exact Heap.lt_size e
  | set S n=>obtain ⟨o,_,_,_,e,_⟩:=x; exact Heap.lt_size e
  | ins C dx fs=>obtain ⟨_,_,_,e,_⟩:=x; exact Heap.lt_size e
  | own y=>obtain ⟨_,e⟩:=x; exact Heap.lt_size e
  | xd fs=>obtain ⟨_,⟨_,_,_,e,_⟩,_⟩:=x; exact Heap.lt_size e
  | rng lo hi=>obtain ⟨_,_,_,e⟩:=x; exact Heap.lt_size e
  | frz ob u=>obtain ⟨e,_⟩:=x; exact Heap.lt_size e
  | tbl ps=>exact Heap.lt_size (show h.get? a=some _ from x)
  | met f y=>exact Heap.lt_size (show h.get? a=some _ from x)
  | ext φ=>obtain ⟨_,⟨_,e⟩,_⟩:=x; exact Heap.lt_size e
theorem Paired.mapP {α β:Type} {F G:α→β→Prop}:∀ {l₁:List α} {l₂:List β},Paired F l₁ l₂→(∀ a b,F a b→G a b)→Paired G l₁ l₂
  | _,_,.nil,_=>.nil
  | _,_,.cons r t,f=>.cons (f _ _ r) (Paired.mapP t f)
theorem ObjOk.stay (x:ObjOk P w H h a o) (k:∀ b u,(b=a∨H b=some (.own a))→h.get? b=some u→h'.get? b=some u)
    (ho:∀ b,H b=some (.own a)→H' b=some (.own a)) (ht:∀ b xs,H b=some (.tup xs)→H' b=some (.tup xs)):ObjOk P w H' h' a o:=by
  induction o with
  | lst xs=>obtain ⟨z,its,n,r,e⟩:=x; exact ⟨z,its,n,r,k _ _ (.inl rfl) e⟩
  | tup xs=>obtain ⟨z,its,r,ob,e,c⟩:=x; exact ⟨z,its,r,ob,k _ _ (.inl rfl) e,c⟩
  | dK kvs=>obtain ⟨z,y,vs,r,ob,es,ep,e,c⟩:=x; exact ⟨z,y,vs,r,ob,es,ep,k _ _ (.inl rfl) e,c⟩
  | dT kvs =>
    obtain ⟨z,y,xs,r,ob,es,ep,e,c⟩:=x
    exact ⟨z,y,xs,Paired.mapP r fun p q z=>⟨z.1,ht _ _ z.2.1,z.2.2⟩,ob,es,ep,k _ _ (.inl rfl) e,c⟩
  | set S n=>obtain ⟨ob,es,ep,t,e,c⟩:=x; exact ⟨ob,es,ep,t,k _ _ (.inl rfl) e,c⟩
  | ins C dx fs =>
    obtain ⟨d,z,ne,e,mA,⟨od,es,ep,e2,c⟩,r⟩:=x
    exact ⟨ho _ d,z,ne,k _ _ (.inl rfl) e,mA,⟨od,es,ep,k _ _ (.inr d) e2,c⟩,r⟩
  | own y=>obtain ⟨ob,e⟩:=x; exact ⟨ob,k _ _ (.inl rfl) e⟩
  | xd fs=>obtain ⟨mA,⟨od,es,ep,e,c⟩,r⟩:=x; exact ⟨mA,⟨od,es,ep,k _ _ (.inl rfl) e,c⟩,r⟩
  | rng lo hi=>obtain ⟨t,u,v,e⟩:=x; exact ⟨t,u,v,k _ _ (.inl rfl) e⟩
  | frz ob u ih=>obtain ⟨e,q⟩:=x; exact ⟨k _ _ (.inl rfl) e,ih q⟩
  | tbl ps =>
    have e:h.get? a=some { cls:=.none,data:=.fields ps }:=x
    show h'.get? a=some { cls:=.none,data:=.fields ps }
    exact k a _ (.inl rfl) e
  | met f y =>
    have e:h.get? a=some (PySem.W.methodObj (.ref f) (.ref y)):=x
    show h'.get? a=some (PySem.W.methodObj (.ref f) (.ref y))
    exact k a _ (.inl rfl) e
  | ext φ=>obtain ⟨p,⟨o,e⟩,st⟩:=x; exact ⟨st _ _ p fun o q=>k _ _ (.inl rfl) q,⟨o,k _ _ (.inl rfl) e⟩,st⟩
theorem HOk.lt (x:HOk P w H h) (e:H a=some o):a < h.objs.size:=(x a o e).lt
theorem HOk.fresh (x:HOk P w H h) (e:h.objs.size≤a):H a=none:=by
  cases q:H a with
  | none=>rfl
  | some u=>exact absurd (Nat.lt_of_lt_of_le (x.lt q) e) (Nat.lt_irrefl _)
theorem HOk.kept (x:HOk P w H h) (k:∀ b u,h.get? b=some u→h'.get? b=some u):HOk P w H h':=fun a o e =>
  (x a o e).stay (fun b u _ q=>k b u q) (fun _ q=>q) fun _ _ q=>q
theorem HOk.laid (x:HOk P w H h) (k:∀ b u,h.get? b=some u→h'.get? b=some u) (hp:h.objs.size≤a) (new:ObjOk P w (upd H a o) h' a o):HOk P w (upd H a o) h':=fun b u e=>by
  have hn:=x.fresh hp
  by_cases hb:b=a
  · subst hb; rw [upd_same] at e; cases e; exact new
  · rw [upd_ne hb] at e
    exact (x b u e).stay (fun c v _ q=>k c v q) (fun c q=>by rw [upd_ne (ne_of_none q hn)]; exact q) fun c xs q=>by rw [upd_ne (ne_of_none q hn)]; exact q
end
noncomputable def Rd (H:Hp) (a:Addr) (u:HO):Prop:=H a=some u∨∃ o,H a=some (.frz o u)
theorem Rd.ok {P:Program} {w:World} {H:Hp} {h:Heap} {a:Addr} {u:HO} (r:Rd H a u) (x:HOk P w H h):ObjOk P w H h a u:=by
  rcases r with r | ⟨o,r⟩
  · exact x a u r
  · obtain ⟨_,q⟩:=x a _ r
    exact q
noncomputable def Mut:Option HO→Prop
  | some (.lst _)=>True
  | some (.dK _)=>True
  | some (.dT _)=>True
  | some (.set _ _)=>True
  | some (.ins _ _ _)=>True
  | some (.ext _)=>True
  | _=>False
section
variable {P:Program} {w:World} {H:Hp} {h h':Heap} {x e:Addr} {o':HO}
theorem HOk.write (ok:HOk P w H h) (mu:Mut (H x)) (he:e=x∨H e=some (.own x)) (k:∀ b u,b≠e→h.get? b=some u→h'.get? b=some u) (heo:∃ u,h'.get? e=some u)
    (new:ObjOk P w (upd H x o') h' x o'):HOk P w (upd H x o') h':=fun b u q=>by
  have nown:∀ c y,H c=some (.own y)→c≠x:=fun c y r z=>by subst z; rw [r] at mu; exact mu
  have ntup:∀ c xs,H c=some (.tup xs)→c≠x:=fun c xs r z=>by subst z; rw [r] at mu; exact mu
  by_cases hb:b=x
  · subst hb; rw [upd_same] at q; cases q; exact new
  · rw [upd_ne hb] at q
    by_cases hbe:b=e
    · have q':H b=some (.own x):=by
        rcases he with z | z
        · exact absurd (hbe.trans z) hb
        · rw [hbe]; exact z
      rw [q] at q'; cases q'
      obtain ⟨v,hv⟩:=heo
      exact ⟨v,by rw [hbe]; exact hv⟩
    · refine (ok b u q).stay (fun c v hc r=>k c v ?_ r) (fun c r=>by rw [upd_ne (nown c b r)]; exact r) fun c xs r=>by rw [upd_ne (ntup c xs r)]; exact r
      rcases hc with rfl | hc
      · exact hbe
      · rintro rfl
        rcases he with z | z
        · exact nown c b hc z
        · rw [hc] at z; cases z; exact hb rfl
end
structure Un (fs ex:List Addr) (H H':Hp) (h h':Heap):Prop where
  keep:∀ b o,h.get? b=some o→H b=none→b∉fs→b∉ex→h'.get? b=some o
  slot:∀ b o,h.get? b=some o→H b=none→b∈fs→b∉ex→∃ sl,h'.get? b=some { o with slots:=sl }
  free:∀ b o,h.get? b=some o→H b=none→b∉ex→H' b=none
  there:∀ b o,h.get? b=some o→b∉ex→∃ o',h'.get? b=some o'
  tups:∀ b xs,H b=some (.tup xs)→H' b=some (.tup xs)
  frzs:∀ b o u,H b=some (.frz o u)→H' b=some (.frz o u)
  tbls:∀ b ps,H b=some (.tbl ps)→∃ more,H' b=some (.tbl (ps ++ more))
section
variable {fs fs' ex ex':List Addr} {H H1 H2:Hp} {h h1 h2 h':Heap} {a x e:Addr} {o:HO}
theorem Un.any (u:Un fs ex H H1 h h1) {b:Addr} {ob:Obj} (q:h.get? b=some ob) (n:H b=none) (hx:b∉ex):∃ sl,h1.get? b=some { ob with slots:=sl }:=by
  by_cases hb:b∈fs
  · exact u.slot b ob q n hb hx
  · exact ⟨ob.slots,u.keep b ob q n hb hx⟩
theorem Un.kept (k:∀ b u,h.get? b=some u→h'.get? b=some u):Un fs ex H H h h' :=
  ⟨fun b ob q _ _ _=>k b ob q,fun b ob q _ _ _=>⟨ob.slots,k b ob q⟩,fun _ _ _ n _=>n,fun b ob q _=>⟨ob,k b ob q⟩,fun _ _ q=>q,fun _ _ _ q=>q,fun _ ps q=>⟨#[],by rw [q]; simp⟩⟩
theorem Un.refl:Un fs ex H H h h:=Un.kept fun _ _ q=>q
theorem Un.laid (k:∀ b u,h.get? b=some u→h'.get? b=some u) (hp:h.objs.size≤a) (hn:H a=none):Un fs ex H (upd H a o) h h' where
  keep:=fun b u q _ _ _=>k b u q
  slot:=fun b u q _ _ _=>⟨u.slots,k b u q⟩
  free:=fun b u q n _=>by rw [upd_ne (Nat.ne_of_lt (Nat.lt_of_lt_of_le (Heap.lt_size q) hp))]; exact n
  there:=fun b u q _=>⟨u,k b u q⟩
  tups:=fun b xs q=>by rw [upd_ne (ne_of_none q hn)]; exact q
  frzs:=fun b u xs q=>by rw [upd_ne (ne_of_none q hn)]; exact q
  tbls:=fun b ps q=>⟨#[],by rw [upd_ne (ne_of_none q hn),q]; simp⟩
theorem Un.write (mu:Mut (H x)) (he:e=x∨H e=some (.own x)) (k:∀ b u,b≠e→h.get? b=some u→h'.get? b=some u) (heo:∃ u,h'.get? e=some u):Un fs ex H (upd H x o) h h':=by
  have hx:∀ b,H b=none→b≠x:=fun b n z=>by subst z; rw [n] at mu; exact mu
  have hb:∀ b,H b=none→b≠e:=fun b n z=>by
    subst z
    rcases he with r | r
    · exact hx b n r
    · rw [n] at r; cases r
  have hm:∀ b u,H b=some u→¬ Mut (some u)→b≠x:=fun b u q nm z=>by subst z; rw [q] at mu; exact nm mu
  refine ⟨fun b u q n _ _=>k b u (hb b n) q,fun b u q n _ _=>⟨u.slots,k b u (hb b n) q⟩,fun b u q n _=>by rw [upd_ne (hx b n)]; exact n,fun b u q _=>?_,
    fun b xs q=>by rw [upd_ne (hm b _ q fun z=>z)]; exact q,fun b u xs q=>by rw [upd_ne (hm b _ q fun z=>z)]; exact q,fun b ps q=>⟨#[],by rw [upd_ne (hm b _ q fun z=>z),q]; simp⟩⟩
  by_cases hbe:b=e
  · subst hbe; exact heo
  · exact ⟨u,k b u hbe q⟩
end
noncomputable def trk (h:Heap) (H:Hp):List Addr:=(List.range h.objs.size).filter fun a=>(H a).isSome
noncomputable def hidT (h:Heap) (H:Hp):Heap:=PySem.W.hideAll h (trk h H)
theorem hidT_size (h:Heap) (H:Hp):(hidT h H).objs.size=h.objs.size:=PySem.W.hideAll_size _ _
theorem hidT_get {h:Heap} {H:Hp} {b:Addr} {o:Obj} (e:h.get? b=some o) (n:H b=none):(hidT h H).get? b=some o :=
  PySem.W.hideAll_get _ e fun hm=>by
    have q:(H b).isSome=true:=(List.mem_filter.mp hm).2
    rw [n] at q; simp at q
theorem of_hidT {h:Heap} {H:Hp} {b:Addr} {o:Obj} (e:(hidT h H).get? b=some o):h.get? b=some o∧H b=none:=by
  have e':h.get? b=some o:=PySem.W.of_hideAll (trk h H) e
  refine ⟨e',?_⟩
  cases q:H b with
  | none=>rfl
  | some x =>
    have hm:b∈trk h H:=List.mem_filter.mpr ⟨List.mem_range.mpr (Heap.lt_size e'),by simp [q]⟩
    have z:(hidT h H).get? b=none:=PySem.W.hideAll_none (trk h H) hm
    rw [z] at e; cases e
end L2
namespace L2
open PySem PySem.Spec PyProof.Rows
structure Mod (K:PySem.W.Frag) (mg:Str→Option Value) (base:Heap):Prop where
  kin:K.In base
  glob:base.Ns mainGlobals mg
  blt:∃ mb,base.Ns builtinsNs mb∧∀ x:Str,x≠"__name__"→mb x=bootBuiltins x
  nolimit:base.NoLimit
  bmod:∃ bm ob,mg "__builtins__"=some (.ref bm)∧bm≠builtinsNs∧base.get? bm=some ob∧ob.cls=.type "module"∧ob.dict=some builtinsNs∧ob.data=.plain
structure Cx where
  prog:Program
  w:World
  K:PySem.W.Frag
  mg:Str→Option Value
  base:Heap
  A:Around
  N:List Str
  s₀:Shared
  H₀:Hp
  env:Env
  outer:List Env
  stack:List Env
  ex:List Addr
  fn:Str→Bool
  calm:Bool
  pn:List (Addr×Obj)
  xe:Value→Shared→Prop
noncomputable def frs (l:List Env):List Addr:=l.filterMap (·.frame)
noncomputable abbrev Cx.fs (X:Cx):List Addr:=frs X.outer
noncomputable def Vis (sc:Scope) (x:Str):Prop:=sc.names.lookup x=some .local∨sc.names.lookup x=some .cell∨sc.names.lookup x=some .free
noncomputable def Loc (sc:Scope) (x:Str):Prop:=sc.names.lookup x=some .local∨sc.names.lookup x=some .cell
noncomputable def Look (env:Env) (h:Heap) (m:Str→Option Value) (x:Str) (u:Value):Prop :=
  (env.kindOf x=some .local∧m x=some u)∨((env.kindOf x=some .cell∨env.kindOf x=some .free)∧∃ c,env.cells.lookup x=some c∧h.IsCell c (some u))
structure Cx.Ok (X:Cx):Prop where
  mod:Mod X.K X.mg X.base
  kind:X.env.scope.kind=.function
  glob:X.env.globals=mainGlobals
  blt:X.env.builtins=builtinsNs
  above:X.s₀.heap.objs.size≤X.env.locals
  inj:∀ x y c,X.env.cells.lookup x=some c→X.env.cells.lookup y=some c→x=y
  has:∀ x,(X.env.kindOf x=some .cell∨X.env.kindOf x=some .free)→∃ c,X.env.cells.lookup x=some c
  cab:∀ x c,X.fn x=true→X.env.cells.lookup x=some c→X.s₀.heap.objs.size≤c
  hd:X.calm=true→X.A.handled=none
  frames:X.A.frames=some X.stack
  stk:X.stack=X.outer∨(X.stack=X.env :: X.outer∧X.env.frame=some X.env.locals)
  exf:∀ b∈X.ex,b≠X.env.locals∧∀ x c,X.env.cells.lookup x=some c→c≠b
  bs:∀ b o,X.base.get? b=some o→X.s₀.heap.get? b=some o∧X.H₀ b=none
  bsz:X.base.objs.size≤X.s₀.heap.objs.size
  noex:∀ b o,X.base.get? b=some o→b∉X.ex
  exfs:∀ b∈X.ex,b∉X.fs
  funs:X.s₀.heap.FunFrames X.base X.outer
  frf:∀ b∈X.fs,X.H₀ b=none
structure Inv (X:Cx) (pins:List (Addr×Obj)) (σ:List (Option V)) (H:Hp) (s:Shared):Prop where
  ok:X.Ok
  os:s.os=X.s₀.os
  bare:AllBare s.gens
  base:Un X.fs X.ex X.H₀ H X.s₀.heap s.heap
  loc:∃ m,s.heap.Ns X.env.locals m∧∀ (i:Nat) (x:Str) (v:V),X.N[i]? = some x→σ[i]? = some (some v)→Vis X.env.scope x→∃ u,RelV v u∧Look X.env s.heap m x u
  cell:∀ x c,X.env.cells.lookup x=some c→∃ v,s.heap.IsCell c v
  free:H X.env.locals=none
  freeC:∀ x c,X.env.cells.lookup x=some c→H c=none
  pin:∀ p∈X.pn ++ pins,s.heap.get? p.1=some p.2∧H p.1=none∧p.1≠X.env.locals∧p.1∉X.fs∧∀ v,p.2.data≠.cell v
  hok:HOk X.prog X.w H s.heap
  len:σ.length=X.N.length
section
variable {X:Cx} {pins:List (Addr×Obj)} {σ:List (Option V)} {H H':Hp} {s:Shared} {h':Heap}
theorem Cx.Ok.nofr (ok:X.Ok) {b:Addr} {o:Obj} (e:X.base.get? b=some o):b∉X.fs:=fun hb=>by
  have:=(ok.funs.mem hb).1
  rw [e] at this; cases this
theorem Inv.bs (I:Inv X pins σ H s):∀ b o,X.base.get? b=some o→s.heap.get? b=some o∧H b=none:=fun b o e =>
  ⟨I.base.keep b o (I.ok.bs b o e).1 (I.ok.bs b o e).2 (I.ok.nofr e) (I.ok.noex b o e),I.base.free b o (I.ok.bs b o e).1 (I.ok.bs b o e).2 (I.ok.noex b o e)⟩
theorem Inv.bk (I:Inv X pins σ H s):∀ b o,X.base.get? b=some o→s.heap.get? b=some o:=fun b o e=>(I.bs b o e).1
theorem Inv.mod (I:Inv X pins σ H s):Mod X.K X.mg X.base:=I.ok.mod
theorem Inv.kIn (I:Inv X pins σ H s):X.K.In s.heap:=I.ok.mod.kin.keeps I.bk
theorem Inv.lt (I:Inv X pins σ H s):X.env.locals < s.heap.objs.size:=let ⟨_,hn,_⟩:=I.loc; hn.lt
theorem Inv.sz (I:Inv X pins σ H s):X.s₀.heap.objs.size≤s.heap.objs.size:=Nat.le_trans I.ok.above (Nat.le_of_lt I.lt)
theorem Inv.nofs (I:Inv X pins σ H s) {a:Addr} (h:s.heap.objs.size≤a):a∉X.fs:=fun hb=>by
  obtain ⟨_,o,ho,_⟩:=I.ok.funs.mem hb
  exact absurd (Nat.lt_of_lt_of_le (Heap.lt_size ho) (Nat.le_trans I.sz h)) (Nat.lt_irrefl _)
theorem Inv.cne (I:Inv X pins σ H s):∀ x c,X.env.cells.lookup x=some c→c≠X.env.locals:=fun x c e z=>by
  obtain ⟨v,o,ho,hd⟩:=I.cell x c e
  obtain ⟨m,⟨o',es,ep,ho',hd',_⟩,_⟩:=I.loc
  rw [z,ho'] at ho; cases ho; rw [hd'] at hd; cases hd
theorem Inv.funs (I:Inv X pins σ H s):s.heap.FunFrames X.base X.outer:=by
  have all:∀ (l:List Env),(∀ b∈frs l,b∈X.fs)→X.s₀.heap.FunFrames X.base l→s.heap.FunFrames X.base l:=by
    intro l
    induction l with
    | nil=>intro _ _; trivial
    | cons env r ih =>
      intro hs hl
      obtain ⟨hk,⟨L,o,hf,hn,ho,hd⟩,hr⟩:=hl
      have hL:L∈X.fs:=hs L (by unfold frs; rw [List.filterMap_cons,hf]; exact List.mem_cons_self)
      obtain ⟨sl,e⟩:=I.base.slot L o ho (I.ok.frf L hL) hL fun z=>I.ok.exfs L z hL
      exact ⟨hk,⟨L,_,hf,hn,e,hd⟩,ih (fun b hb=>hs b (by unfold frs; rw [List.filterMap_cons,hf]; exact List.mem_cons_of_mem _ hb)) hr⟩
  exact all X.outer (fun _ hb=>hb) I.ok.funs
theorem Inv.stack (I:Inv X pins σ H s):s.heap.FunFrames X.base X.stack:=by
  rcases I.ok.stk with e | ⟨e,hf⟩
  · rw [e]; exact I.funs
  · rw [e]
    obtain ⟨m,hn,_⟩:=I.loc
    refine .cons (by rw [I.ok.kind]; decide) hf hn ?_ I.funs
    exact Heap.get?_none_of_le (Nat.le_trans I.ok.bsz I.ok.above)
theorem Inv.stkSub (I:Inv X pins σ H s):∀ b∈frs X.stack,b∈X.env.locals :: X.fs:=fun b hb=>by
  rcases I.ok.stk with e | ⟨e,hf⟩
  · rw [e] at hb; exact List.mem_cons_of_mem _ hb
  · rw [e] at hb
    unfold frs at hb
    rw [List.filterMap_cons,hf] at hb
    exact hb
theorem Inv.stkFree (I:Inv X pins σ H s):∀ b∈frs X.stack,H b=none:=fun b hb=>by
  rcases List.mem_cons.mp (I.stkSub b hb) with e | hb
  · rw [e]; exact I.free
  · obtain ⟨_,o,ho,_⟩:=I.ok.funs.mem hb
    exact I.base.free b o ho (I.ok.frf b hb) fun z=>I.ok.exfs b z hb
theorem Inv.step {g':Array GenState} {t':Nat} {d':Drawn} {ch:List Addr} (I:Inv X pins σ H s)
    (hch:∀ b∈ch,(b∈X.ex∨X.s₀.heap.objs.size≤b)∧b≠X.env.locals∧(∀ x c,X.env.cells.lookup x=some c→c≠b)∧∀ p∈X.pn ++ pins,p.1≠b)
    (keep:∀ b o,b≠X.env.locals→b∉X.fs→b∉ch→s.heap.get? b=some o→H b=none→h'.get? b=some o)
    (slot:∀ b o,b≠X.env.locals→b∈X.fs→b∉ch→s.heap.get? b=some o→H b=none→∃ sl,h'.get? b=some { o with slots:=sl }) (free:∀ b o,b∉ch→s.heap.get? b=some o→H b=none→H' b=none)
    (there:∀ b o,b∉ch→s.heap.get? b=some o→∃ o',h'.get? b=some o')
    (tups:∀ b xs,H b=some (.tup xs)→H' b=some (.tup xs)) (frzs:∀ b o u,H b=some (.frz o u)→H' b=some (.frz o u)) (tbls:∀ b ps,H b=some (.tbl ps)→∃ more,H' b=some (.tbl (ps ++ more)))
    (ns:∀ m,s.heap.Ns X.env.locals m→h'.Ns X.env.locals m) (hok:HOk X.prog X.w H' h') (hg:AllBare g') :
    Inv X pins σ H' { s with heap:=h',gens:=g',drawn:=d',toks:=t' }:=by
  have neL:∀ b o,X.s₀.heap.get? b=some o→b≠X.env.locals:=fun b o e=>Nat.ne_of_lt (Nat.lt_of_lt_of_le (Heap.lt_size e) I.ok.above)
  have neC:∀ b o,X.s₀.heap.get? b=some o→b∉X.ex→b∉ch:=fun b o e hx hb=>by
    rcases (hch b hb).1 with z | z
    · exact hx z
    · exact absurd (Nat.lt_of_lt_of_le (Heap.lt_size e) z) (Nat.lt_irrefl _)
  have cellK:∀ x c,X.env.cells.lookup x=some c→∀ v,s.heap.IsCell c v→h'.IsCell c v:=fun x c e v ⟨o,ho,hd⟩=>by
    have nch:c∉ch:=fun z=>(hch c z).2.2.1 x c e rfl
    by_cases hc:c∈X.fs
    · obtain ⟨sl,q⟩:=slot c o (I.cne x c e) hc nch ho (I.freeC x c e)
      exact ⟨_,q,hd⟩
    · exact ⟨o,keep c o (I.cne x c e) hc nch ho (I.freeC x c e),hd⟩
  refine ⟨I.ok,I.os,hg,⟨fun b o e n hb hx=>?_,fun b o e n hb hx=>?_,fun b o e n hx=>?_,fun b o e hx=>?_,fun b xs e=>tups b xs (I.base.tups b xs e),fun b o xs e=>frzs b o xs (I.base.frzs b o xs e),fun b ps e=>?_⟩,?_,fun x c e=>?_,?_,fun x c e=>?_,fun p hp=>?_,hok,I.len⟩
  · exact keep b o (neL b o e) hb (neC b o e hx) (I.base.keep b o e n hb hx) (I.base.free b o e n hx)
  · obtain ⟨sl,e1⟩:=I.base.slot b o e n hb hx
    obtain ⟨sl',e2⟩:=slot b _ (neL b o e) hb (neC b o e hx) e1 (I.base.free b o e n hx)
    exact ⟨sl',e2⟩
  · obtain ⟨o',e1⟩:=I.base.there b o e hx
    exact free b o' (neC b o e hx) e1 (I.base.free b o e n hx)
  · obtain ⟨o',e1⟩:=I.base.there b o e hx
    exact there b o' (neC b o e hx) e1
  · obtain ⟨m1,e1⟩:=I.base.tbls b ps e
    obtain ⟨m2,e2⟩:=tbls b _ e1
    exact ⟨m1 ++ m2,by rw [e2,Array.append_assoc]⟩
  · obtain ⟨m,hn,hl⟩:=I.loc
    refine ⟨m,ns m hn,fun i x v e1 e2 e3=>?_⟩
    obtain ⟨u,r,l⟩:=hl i x v e1 e2 e3
    refine ⟨u,r,?_⟩
    rcases l with l | ⟨k,c,e,z⟩
    · exact .inl l
    · exact .inr ⟨k,c,e,cellK x c e _ z⟩
  · obtain ⟨v,z⟩:=I.cell x c e
    exact ⟨v,cellK x c e v z⟩
  · obtain ⟨m,⟨o,_,_,ho,_⟩,_⟩:=I.loc
    exact free _ o (fun z=>(hch _ z).2.1 rfl) ho I.free
  · obtain ⟨v,o,ho,hd⟩:=I.cell x c e
    exact free c o (fun z=>(hch c z).2.2.1 x c e rfl) ho (I.freeC x c e)
  · obtain ⟨e,n,ne,nf,d⟩:=I.pin p hp
    have nch:p.1∉ch:=fun z=>(hch p.1 z).2.2.2 p hp rfl
    exact ⟨keep p.1 p.2 ne nf nch e n,free p.1 p.2 nch e n,ne,nf,d⟩
theorem Inv.un {t':Nat} (I:Inv X pins σ H s) (u:Un X.fs [] H H' s.heap h') (hok:HOk X.prog X.w H' h'):Inv X pins σ H' { s with heap:=h',toks:=t' }:=by
  obtain ⟨m,⟨o,es,ep,ho,r⟩,_⟩:=id I.loc
  obtain ⟨sl,hL⟩:=u.any ho I.free (by simp)
  exact I.step (g':=s.gens) (d':=s.drawn) (ch:=[]) (fun _ z=>nomatch z) (fun b o _ hb _ e n=>u.keep b o e n hb (by simp)) (fun b o _ hb _ e n=>u.slot b o e n hb (by simp)) (fun b o _ e n=>u.free b o e n (by simp)) (fun b o _ e=>u.there b o e (by simp)) u.tups u.frzs u.tbls (fun m' hm=>by
    obtain ⟨o',es',ep',ho',r'⟩:=hm
    rw [ho] at ho'; cases ho'
    exact ⟨_,es',ep',hL,r'⟩) hok I.bare
theorem Inv.call {g':Array GenState} {t':Nat} {d':Drawn} {ch:List Addr} (I:Inv X pins σ H s) (u:Un (frs X.stack) ch H H' s.heap h') (hok:HOk X.prog X.w H' h') (hg:AllBare g')
    (hch:∀ b∈ch,(b∈X.ex∨X.s₀.heap.objs.size≤b)∧b≠X.env.locals∧(∀ x c,X.env.cells.lookup x=some c→c≠b)∧∀ p∈X.pn ++ pins,p.1≠b) :
    Inv X pins σ H' { s with heap:=h',gens:=g',drawn:=d',toks:=t' }:=by
  obtain ⟨m,⟨o,es,ep,ho,r⟩,_⟩:=id I.loc
  obtain ⟨sl,hL⟩:=u.any ho I.free fun z=>(hch _ z).2.1 rfl
  exact I.step (ch:=ch) hch (fun b o hL hb hc e n=>u.keep b o e n (fun z=>(List.mem_cons.mp (I.stkSub b z)).elim hL hb) hc) (fun b o _ _ hc e n=>u.any e n hc) (fun b o hc e n=>u.free b o e n hc) (fun b o hc e=>u.there b o e hc) u.tups u.frzs u.tbls (fun m' hm=>by
    obtain ⟨o',es',ep',ho',r'⟩:=hm
    rw [ho] at ho'; cases ho'
    exact ⟨_,es',ep',hL,r'⟩) hok hg
theorem Inv.turned {t':Nat} {it:Addr} (I:Inv X pins σ H s) (k:∀ b o,b≠it→s.heap.get? b=some o→h'.get? b=some o) (hn:H it=none) (hL:it≠X.env.locals)
    (h1:it∈X.ex∨X.s₀.heap.objs.size≤it) (h2:∀ x c,X.env.cells.lookup x=some c→c≠it) (h3:∀ p∈X.pn ++ pins,p.1≠it):Inv X pins σ H { s with heap:=h',toks:=t' }:=by
  have nit:∀ b u,H b=some u→b≠it:=fun b u e z=>by rw [z,hn] at e; cases e
  refine I.step (g':=s.gens) (d':=s.drawn) (ch:=[it]) (fun b hb=>?_) (fun b o _ _ hc e _=>k b o (fun z=>hc (by simp [z])) e) (fun b o _ _ hc e _=>⟨o.slots,k b o (fun z=>hc (by simp [z])) e⟩) (fun _ _ _ _ n=>n)
    (fun b o hc e=>⟨o,k b o (fun z=>hc (by simp [z])) e⟩) (fun _ _ e=>e) (fun _ _ _ e=>e) (fun b ps e=>⟨#[],by rw [e]; simp⟩) (fun m hm=>?_) (fun b u e=>?_) I.bare
  · have e:b=it:=by simpa using hb
    subst e
    exact ⟨h1,hL,h2,h3⟩
  · obtain ⟨o,es,ep,ho,r⟩:=hm
    exact ⟨o,es,ep,k _ o (Ne.symm hL) ho,r⟩
  · refine (I.hok b u e).stay (fun c v hc q=>k c v ?_ q) (fun _ q=>q) fun _ _ q=>q
    rcases hc with z | z
    · rw [z]; exact nit b u e
    · exact nit c _ z
theorem Inv.tok (I:Inv X pins σ H s) (t:Nat):Inv X pins σ H { s with toks:=t }:=I.un (h':=s.heap) (t':=t) Un.refl I.hok
theorem Inv.kept {t':Nat} (I:Inv X pins σ H s) (k:∀ b u,s.heap.get? b=some u→h'.get? b=some u):Inv X pins σ H { s with heap:=h',toks:=t' }:=I.un (Un.kept k) (I.hok.kept k)
theorem Inv.laid {a:Addr} {o:HO} {t':Nat} (I:Inv X pins σ H s) (k:∀ b u,s.heap.get? b=some u→h'.get? b=some u) (hp:s.heap.objs.size≤a) (new:ObjOk X.prog X.w (upd H a o) h' a o) :
    Inv X pins σ (upd H a o) { s with heap:=h',toks:=t' }:=I.un (Un.laid k hp (I.hok.fresh hp)) (I.hok.laid k hp new)
theorem Inv.write {x e:Addr} {o:HO} {t':Nat} (I:Inv X pins σ H s) (mu:Mut (H x)) (he:e=x∨H e=some (.own x)) (k:∀ b u,b≠e→s.heap.get? b=some u→h'.get? b=some u) (heo:∃ u,h'.get? e=some u)
    (new:ObjOk X.prog X.w (upd H x o) h' x o):Inv X pins σ (upd H x o) { s with heap:=h',toks:=t' }:=I.un (Un.write mu he k heo) (I.hok.write mu he k heo new)
theorem Inv.pins_of {pins':List (Addr×Obj)} (I:Inv X pins σ H s) (h:∀ p∈pins',s.heap.get? p.1=some p.2∧H p.1=none∧p.1≠X.env.locals∧p.1∉X.fs∧∀ v,p.2.data≠.cell v):Inv X pins' σ H s :=
  ⟨I.ok,I.os,I.bare,I.base,I.loc,I.cell,I.free,I.freeC,fun p hp=>(List.mem_append.mp hp).elim (fun z=>I.pin p (List.mem_append_left _ z)) (h p),I.hok,I.len⟩
theorem nodup_ix {N:List Str} (hN:N.Nodup) {i j:Nat} {x:Str} (a:N[i]? = some x) (b:N[j]? = some x):i=j:=by
  obtain ⟨h1,e1⟩:=List.getElem?_eq_some_iff.mp a
  obtain ⟨h2,e2⟩:=List.getElem?_eq_some_iff.mp b
  exact (List.getElem_inj hN).mp (e1.trans e2.symm)
theorem store_ok2 {M:Model} {A:Around} {E:Value→Shared→Prop} {i:Nat} {x:Str} {v:V} {u:Value} {Q:Unit→Shared→Prop} (I:Inv X pins σ H s) (hN:X.N.Nodup) (hi:X.N[i]? = some x) (hx:Loc X.env.scope x) (r:RelV v u)
    (h:∀ s',Inv X pins (σ.set i (some v)) H s'→(∃ a,Heap.SameBut a s.heap s'.heap∧(a=X.env.locals∨X.env.cells.lookup x=some a))→Q () s') (hf:X.fn x=true∨X.env.scope.names.lookup x=some .local:=by first | exact .inl rfl | exact .inr rfl | assumption):wpAny M A (storeName X.env x u) Q E s:=by
  obtain ⟨m,hn,hl⟩:=id I.loc
  have hcls:(X.env.scope.kind == .class || (X.env.scope.kind == .module && X.env.locals != X.env.globals))=false:=by rw [I.ok.kind]; rfl
  have hiσ:i < σ.length:=by rw [I.len]; exact (List.getElem?_eq_some_iff.mp hi).1
  have cne:=I.cne
  have tracked:∀ {a:Addr} {h':Heap},(∃ o,s.heap.get? a=some o∧H a=none)→Heap.SameBut a s.heap h'→HOk X.prog X.w H h':=fun {a h'} ha hs b ob e=>by
    obtain ⟨_,_,hfree⟩:=ha
    refine (I.hok b ob e).stay (fun c w' hc q=>(hs.2 c ?_).trans q) (fun _ q=>q) fun _ _ q=>q
    rintro rfl
    rcases hc with rfl | hc
    · rw [hfree] at e; cases e
    · rw [hfree] at hc; cases hc
  rcases hx with hk | hk
  · refine wpAny_storeName_local hk hn (fun h' hn' hs=>?_) hcls
    obtain ⟨oL,_,_,hoL,_⟩:=id hn
    refine h _ ⟨I.ok,I.os,I.bare,⟨fun b o e n hb hx=>?_,fun b o e n hb hx=>?_,I.base.free,fun b o e hx=>?_,I.base.tups,I.base.frzs,I.base.tbls⟩,⟨_,hn',fun j y v' e1 e2 e3=>?_⟩,fun y c e=>?_,I.free,I.freeC,fun p hp=>?_,tracked ⟨oL,hoL,I.free⟩ hs,by simpa using I.len⟩ ⟨_,hs,.inl rfl⟩
    · exact (hs.2 b (Nat.ne_of_lt (Nat.lt_of_lt_of_le (Heap.lt_size e) I.ok.above))).trans (I.base.keep b o e n hb hx)
    · obtain ⟨sl,e1⟩:=I.base.slot b o e n hb hx
      exact ⟨sl,(hs.2 b (Nat.ne_of_lt (Nat.lt_of_lt_of_le (Heap.lt_size e) I.ok.above))).trans e1⟩
    · obtain ⟨o',e1⟩:=I.base.there b o e hx
      exact ⟨o',(hs.2 b (Nat.ne_of_lt (Nat.lt_of_lt_of_le (Heap.lt_size e) I.ok.above))).trans e1⟩
    · by_cases hj:j=i
      · subst hj
        rw [hi] at e1; cases e1
        rw [List.getElem?_set_self hiσ] at e2
        cases e2
        exact ⟨u,r,.inl ⟨hk,by simp⟩⟩
      · rw [List.getElem?_set_ne (Ne.symm hj)] at e2
        obtain ⟨u',r',q⟩:=hl j y v' e1 e2 e3
        refine ⟨u',r',?_⟩
        rcases q with ⟨k,e⟩ | ⟨k,c,e,z⟩
        · refine .inl ⟨k,?_⟩
          have:y≠x:=fun e=>hj (nodup_ix hN e1 (e ▸ hi))
          simp [this,e]
        · exact .inr ⟨k,c,e,z.sameBut hs (cne y c e)⟩
    · obtain ⟨w',z⟩:=I.cell y c e
      exact ⟨w',z.sameBut hs (cne y c e)⟩
    · obtain ⟨e,n,ne,nf,d⟩:=I.pin p hp
      exact ⟨(hs.2 p.1 ne).trans e,n,ne,nf,d⟩
  · have hfn:X.fn x=true:=by
      rcases hf with z | z
      · exact z
      · rw [z] at hk; cases hk
    obtain ⟨c,hc⟩:=I.ok.has x (.inl hk)
    obtain ⟨w',z⟩:=I.cell x c hc
    refine wpAny_storeName_cell I.ok.kind hk hc z (fun h' hc' hs=>?_)
    obtain ⟨oc,hoc,hocd⟩:=id z
    refine h { s with heap:=h' } ⟨I.ok,I.os,I.bare,⟨fun b o e n hb hx=>?_,fun b o e n hb hx=>?_,I.base.free,fun b o e hx=>?_,I.base.tups,I.base.frzs,I.base.tbls⟩,⟨m,hn.sameBut hs (Ne.symm (cne x c hc)),fun j y v' e1 e2 e3=>?_⟩,fun y c' e=>?_,I.free,I.freeC,fun p hp=>?_,tracked ⟨oc,hoc,I.freeC x c hc⟩ hs,by simpa using I.len⟩ ⟨c,hs,.inr hc⟩
    · exact (hs.2 b (Nat.ne_of_lt (Nat.lt_of_lt_of_le (Heap.lt_size e) (I.ok.cab x c hfn hc)))).trans (I.base.keep b o e n hb hx)
    · obtain ⟨sl,e1⟩:=I.base.slot b o e n hb hx
      exact ⟨sl,(hs.2 b (Nat.ne_of_lt (Nat.lt_of_lt_of_le (Heap.lt_size e) (I.ok.cab x c hfn hc)))).trans e1⟩
    · obtain ⟨o',e1⟩:=I.base.there b o e hx
      exact ⟨o',(hs.2 b (Nat.ne_of_lt (Nat.lt_of_lt_of_le (Heap.lt_size e) (I.ok.cab x c hfn hc)))).trans e1⟩
    · by_cases hj:j=i
      · subst hj
        rw [hi] at e1; cases e1
        rw [List.getElem?_set_self hiσ] at e2
        cases e2
        exact ⟨u,r,.inr ⟨.inl hk,c,hc,hc'⟩⟩
      · rw [List.getElem?_set_ne (Ne.symm hj)] at e2
        obtain ⟨u',r',q⟩:=hl j y v' e1 e2 e3
        refine ⟨u',r',?_⟩
        rcases q with q | ⟨k,c',e,z'⟩
        · exact .inl q
        · refine .inr ⟨k,c',e,z'.sameBut hs ?_⟩
          rintro rfl
          exact hj (nodup_ix hN e1 (I.ok.inj _ _ _ e hc ▸ hi))
    · by_cases hcc:c'=c
      · subst hcc; exact ⟨_,hc'⟩
      · obtain ⟨w2,z2⟩:=I.cell y c' e
        exact ⟨w2,z2.sameBut hs hcc⟩
    · obtain ⟨e,n,ne,nf,d⟩:=I.pin p hp
      refine ⟨(hs.2 p.1 ?_).trans e,n,ne,nf,d⟩
      intro q
      rw [q,hoc] at e
      have q':oc=p.2:=Option.some.inj e
      exact d w' (by rw [← q']; exact hocd)
theorem store_ok {M:Model} {A:Around} {E:Value→Shared→Prop} {i:Nat} {x:Str} {v:V} {u:Value} {Q:Unit→Shared→Prop} (I:Inv X pins σ H s) (hN:X.N.Nodup) (hi:X.N[i]? = some x) (hx:Loc X.env.scope x) (r:RelV v u)
    (h:∀ s',Inv X pins (σ.set i (some v)) H s'→Q () s') (hf:X.fn x=true∨X.env.scope.names.lookup x=some .local:=by first | exact .inl rfl | exact .inr rfl | assumption):wpAny M A (storeName X.env x u) Q E s :=
  store_ok2 I hN hi hx r (fun s' I' _=>h s' I') hf
theorem Inv.call' {s':Shared} {ch:List Addr} (I:Inv X pins σ H s) (ho:s'.os=s.os) (u:Un (frs X.stack) ch H H' s.heap s'.heap) (hok:HOk X.prog X.w H' s'.heap) (hg:AllBare s'.gens)
    (hch:∀ b∈ch,(b∈X.ex∨X.s₀.heap.objs.size≤b)∧b≠X.env.locals∧(∀ x c,X.env.cells.lookup x=some c→c≠b)∧∀ p∈X.pn ++ pins,p.1≠b):Inv X pins σ H' s':=by
  obtain ⟨h',g',d',t',o'⟩:=s'
  have e:o'=s.os:=ho
  subst e
  exact I.call (g':=g') (t':=t') (d':=d') u hok hg hch
end
noncomputable abbrev XK:=Value→Option Addr→Hp→Prop
noncomputable abbrev St:=List (Option V)
noncomputable abbrev VK:=V→Hp→Prop
noncomputable abbrev TE:=St→Hp→VK→Prop
noncomputable abbrev TT:=St→Hp→(Bool→Hp→Prop)→Prop
noncomputable abbrev TA:=St→Hp→(List V→Hp→Prop)→Prop
structure Ends where
  nx:St→Hp→Prop
  rt:VK
  bk:St→Hp→Prop:=fun _ _=>False
  ct:St→Hp→Prop:=fun _ _=>False
noncomputable abbrev TS:=Ends→St→Hp→Prop
noncomputable def EP (X:Cx) (pins:List (Addr×Obj)) (σ:St) (Q:VK) (u:Value) (s':Shared):Prop:=∃ v H',Inv X pins σ H' s'∧RelV v u∧Q v H'
noncomputable def TP (X:Cx) (pins:List (Addr×Obj)) (σ:St) (Q:Bool→Hp→Prop) (b:Bool) (s':Shared):Prop:=∃ H',Inv X pins σ H' s'∧Q b H'
noncomputable def AP (X:Cx) (pins:List (Addr×Obj)) (σ:St) (Q:List V→Hp→Prop) (us:List Value) (s':Shared):Prop:=∃ vs H',Inv X pins σ H' s'∧Vals vs us∧Q vs H'
noncomputable def SP (X:Cx) (pins:List (Addr×Obj)) (D:Ends) (f:Flow) (s':Shared):Prop :=
  match f with
  | .next=>∃ σ' H',Inv X pins σ' H' s'∧D.nx σ' H'
  | .brk=>∃ σ' H',Inv X pins σ' H' s'∧D.bk σ' H'
  | .cont=>∃ σ' H',Inv X pins σ' H' s'∧D.ct σ' H'
  | .ret u=>∃ v σ' H',Inv X pins σ' H' s'∧RelV v u∧D.rt v H'
noncomputable def PE (X:Cx) (e:Expr) (t:TE):Prop :=
  ∀ (pins:List (Addr×Obj)) (s:Shared) (σ:St) (H:Hp) (Q:VK),Inv X pins σ H s→t σ H Q→wpAny (model X.prog X.w) X.A (eval e X.env) (EP X pins σ Q) X.xe s
noncomputable def PT (X:Cx) (e:Expr) (t:TT):Prop :=
  ∀ (pins:List (Addr×Obj)) (s:Shared) (σ:St) (H:Hp) (Q:Bool→Hp→Prop),Inv X pins σ H s→t σ H Q→wpAny (model X.prog X.w) X.A (isTrue e X.env (eval e X.env)) (TP X pins σ Q) X.xe s
noncomputable def PW (X:Cx) (e:Expr) (t:TT):Prop :=
  ∀ (whole:Sem Value) (pins:List (Addr×Obj)) (s:Shared) (σ:St) (H:Hp) (Q:Bool→Hp→Prop),Inv X pins σ H s→t σ H Q→wpAny (model X.prog X.w) X.A (isTrue e X.env whole) (TP X pins σ Q) X.xe s
theorem PW.pt {X:Cx} {e:Expr} {t:TT} (h:PW X e t):PT X e t:=h _
noncomputable def PA (X:Cx) (es:List Expr) (t:TA):Prop :=
  ∀ (pos:Pos) (pins:List (Addr×Obj)) (s:Shared) (σ:St) (H:Hp) (Q:List V→Hp→Prop),Inv X pins σ H s→t σ H Q→wpAny (model X.prog X.w) X.A (spliced (backTo pos (starEach es X.env))) (AP X pins σ Q) X.xe s
noncomputable def PS (X:Cx) (st:Stmt) (t:TS):Prop :=
  ∀ (pins:List (Addr×Obj)) (s:Shared) (σ:St) (H:Hp) (D:Ends),Inv X pins σ H s→t D σ H→wpAny (model X.prog X.w) X.A (exec st X.env) (SP X pins D) X.xe s
noncomputable def PSs (X:Cx) (st:List Stmt) (t:TS):Prop :=
  ∀ (pins:List (Addr×Obj)) (s:Shared) (σ:St) (H:Hp) (D:Ends),Inv X pins σ H s→t D σ H→wpAny (model X.prog X.w) X.A (execs st X.env) (SP X pins D) X.xe s
theorem thn {α:Type} {t:Sem α} {Q Q':α→Shared→Prop} {M:Model} {A:Around} {E:Value→Shared→Prop} {s:Shared} (h:wpAny M A t Q E s) (hQ:∀ a s,Q a s→Q' a s):wpAny M A t Q' E s:=wpAny_mono h hQ fun _ _ x=>x
end L2
namespace L2
open PySem PySem.Spec PyProof.Rows
section
variable {X:Cx}
theorem bin {a b:Expr} {ta tb:TE} (ha:PE X a ta) (hb:PE X b tb) {pins:List (Addr×Obj)} {s:Shared} {σ:St} {H:Hp} {R:V→V→Hp→Prop} (I:Inv X pins σ H s) (h:ta σ H fun x H1=>tb σ H1 fun y H2=>R x y H2)
    {α:Type} {Q:α→Shared→Prop} {f:Value→Value→Sem α}
    (hf:∀ v u s2 x y H2,Inv X pins σ H2 s2→RelV x v→RelV y u→R x y H2→wpAny (model X.prog X.w) X.A (f v u) Q X.xe s2) :
    wpAny (model X.prog X.w) X.A (eval a X.env) (fun v s₁=>wpAny (model X.prog X.w) X.A (eval b X.env) (fun u s₂=>wpAny (model X.prog X.w) X.A (f v u) Q X.xe s₂) X.xe s₁) X.xe s:=by
  refine thn (ha pins s σ H _ I h) fun v s1 ⟨x,H1,I1,r1,q1⟩=>?_
  refine thn (hb pins s1 σ H1 _ I1 q1) fun u s2 ⟨y,H2,I2,r2,q2⟩=>?_
  exact hf v u s2 x y H2 I2 r1 r2 q2
noncomputable def tVar (i:Nat):TE:=fun σ H Q=>∃ v,σ[i]? = some (some v)∧Q v H
noncomputable def tC (v:V):TE:=fun _ H Q=>Q v H
theorem pe_var {i:Nat} {x:Str} {pos:Pos} (hN:X.N[i]? = some x) (hv:Vis X.env.scope x) (hd:(x == ("__debug__":Str))=false:=by decide) (hcd:(x == ("__classdict__":Str))=false:=by decide):PE X (.Name x pos) (tVar i):=by
  intro pins s σ H Q I h
  obtain ⟨v,e,h⟩:=h
  obtain ⟨m,hn,hl⟩:=I.loc
  obtain ⟨u,r,l⟩:=hl i x v hN e hv
  have fin:EP X pins σ Q u s:=⟨v,H,I,r,h⟩
  rcases l with ⟨hk,hm⟩ | ⟨hk,c,hc,hcell⟩
  · exact wpAny_Name (wpAny_loadName_local I.ok.kind hk hn hm fin) hd
  · rcases hk with hk | hk
    · exact wpAny_Name (wpAny_loadName_cell I.ok.kind hk hc hcell fin) hd
    · exact wpAny_Name (wpAny_loadName_free I.ok.kind hk hc hcell fin hcd) hd
theorem pe_int {i j pos}:PE X (.Constant (.int i) j pos) (tC (.int i)):=fun _ _ _ H _ I h=>wpAny_Constant_int ⟨.int i,H,I.tok _,⟨_,rfl⟩,h⟩
theorem pe_bl {b j pos}:PE X (.Constant (.bool b) j pos) (tC (.bl b)):=fun _ _ _ H _ I h=>Constant_bool ⟨.bl b,H,I,rfl,h⟩
theorem pe_non {j pos}:PE X (.Constant .none j pos) (tC .non):=fun _ _ _ H _ I h=>Constant_none ⟨.non,H,I,rfl,h⟩
theorem pe_str {x j pos}:PE X (.Constant (.str x) j pos) (tC (.str x)):=fun _ _ _ H _ I h=>Calls.Constant_str ⟨.str x,H,I.tok _,⟨_,rfl⟩,h⟩
noncomputable def Gl (X:Cx) (x:Str):Prop:=X.env.kindOf x=some .globalImplicit
theorem ld_glob {E:Value→Shared→Prop} {pins:List (Addr×Obj)} {s:Shared} {σ:St} {H:Hp} {x:Str} {u:Value} {pos:Pos} {Q:Value→Shared→Prop} (I:Inv X pins σ H s) (hg:Gl X x) (hm:X.mg x=some u) (h:Q u s)
    (hd:(x == ("__debug__":Str))=false:=by decide):wpAny (model X.prog X.w) X.A (eval (.Name x pos) X.env) Q E s :=
  Calls.Name_function_global I.ok.kind hg (Calls.loadGlobal_global (by rw [I.ok.glob]; exact I.mod.glob.keeps I.bk) hm h) hd
theorem ld_blt {E:Value→Shared→Prop} {pins:List (Addr×Obj)} {s:Shared} {σ:St} {H:Hp} {x:Str} {u:Value} {pos:Pos} {Q:Value→Shared→Prop} (I:Inv X pins σ H s) (hg:Gl X x) (hm:X.mg x=none) (hv:bootBuiltins x=some u) (h:Q u s)
    (hn:x≠"__name__":=by decide) (hd:(x == ("__debug__":Str))=false:=by decide):wpAny (model X.prog X.w) X.A (eval (.Name x pos) X.env) Q E s:=by
  obtain ⟨mb,h1,h2⟩:=I.mod.blt
  exact Calls.Name_function_global I.ok.kind hg (Calls.loadGlobal_builtin (by rw [I.ok.glob]; exact I.mod.glob.keeps I.bk) hm (by rw [I.ok.blt]; exact h1.keeps I.bk) ((h2 x hn).trans hv) h) hd
theorem pe_glob {x:Str} {v:V} {u:Value} {pos:Pos} (hg:Gl X x) (hm:X.mg x=some u) (r:RelV v u) (hd:(x == ("__debug__":Str))=false:=by decide):PE X (.Name x pos) (tC v) :=
  fun _ _ _ H _ I h=>ld_glob I hg hm ⟨v,H,I,r,h⟩ hd
theorem pe_bltn {x:Str} {v:V} {u:Value} {pos:Pos} (hg:Gl X x) (hm:X.mg x=none) (hv:bootBuiltins x=some u) (r:RelV v u) (hn:x≠"__name__":=by decide) (hd:(x == ("__debug__":Str))=false:=by decide):PE X (.Name x pos) (tC v) :=
  fun _ _ _ H _ I h=>ld_blt I hg hm hv ⟨v,H,I,r,h⟩ hn hd
variable {a b:Expr} {ta tb:TE} {pos:Pos}
noncomputable def PC (X:Cx) (op:CmpOp) (a b:Expr) (t:TE):Prop :=
  ∀ (pins:List (Addr×Obj)) (s:Shared) (σ:St) (H:Hp) (Q:VK),Inv X pins σ H s→t σ H Q →
    wpAny (model X.prog X.w) X.A (eval a X.env) (fun v s₁=>wpAny (model X.prog X.w) X.A (eval b X.env) (fun u s₂=>wpAny (model X.prog X.w) X.A (compareOp op v u) (EP X pins σ Q) X.xe s₂) X.xe s₁) X.xe s
noncomputable def tB (t:TE):TT:=fun σ H Q=>t σ H fun x H1=>∃ c,x=.bl c∧Q c H1
theorem pt_cmp {op:CmpOp} {t:TE} (h:PC X op a b t) (h1:behindInMarks op b=false:=by first | exact nobehind _ (by decide) (by decide) | rfl):PT X (.Compare a [op] [b] pos) (tB t):=by
  intro pins s σ H Q I hw
  refine wpAny_isTrue_Compare1 (thn (h pins s σ H _ I hw) fun v s1 h1=>thn h1 fun u s2 h2=>thn h2 fun c s3 ⟨x,H1,I1,r1,q1⟩=>?_) h1
  obtain ⟨d,rfl,q⟩:=q1
  cases r1
  exact wpAny_truthy_bool ⟨H1,I1,q⟩
theorem pt_val {e:Expr} {t:TE} (h:PE X e t) (he:∀ whole,isTrue e X.env whole=(do let v ← whole; standAt e.pos; holding [v] (truthy v)):=by intro _; rfl):PT X e (tB t):=by
  intro pins s σ H Q I hw
  refine isTrue_plain (thn (h pins s σ H _ I hw) fun v s1 ⟨x,H1,I1,r1,q1⟩=>?_) (he _)
  obtain ⟨d,rfl,q⟩:=q1
  cases r1
  exact wpAny_truthy_bool ⟨H1,I1,q⟩
variable {tA tB':TT} {rest:List Expr}
noncomputable def tAnd (t u:TT):TT:=fun σ H Q=>t σ H fun c H1=>if c=true then u σ H1 Q else Q false H1
noncomputable def tOr (t u:TT):TT:=fun σ H Q=>t σ H fun c H1=>if c=true then Q true H1 else u σ H1 Q
noncomputable def tNot (t:TT):TT:=fun σ H Q=>t σ H fun c H1=>Q (!c) H1
theorem pw_and1 (ha:PT X a tA):PW X (.BoolOp .And [a] pos) tA:=by
  intro wh pins s σ H Q I h
  refine isTrue_and (thn (ha pins s σ H Q I h) fun c s1 e=>?_)
  cases c with
  | true=>exact isTrue_and_nil e
  | false=>exact e
theorem pw_or1 (ha:PT X a tA):PW X (.BoolOp .Or [a] pos) tA:=by
  intro wh pins s σ H Q I h
  refine isTrue_or (thn (ha pins s σ H Q I h) fun c s1 e=>?_)
  cases c with
  | false=>exact isTrue_or_nil e
  | true=>exact e
theorem pw_and (ha:PT X a tA) (hb:PW X (.BoolOp .And (b :: rest) pos) tB'):PW X (.BoolOp .And (a :: b :: rest) pos) (tAnd tA tB'):=by
  intro wh pins s σ H Q I h
  refine isTrue_and (thn (ha pins s σ H _ I h) fun c s1 ⟨H1,I1,q1⟩=>?_)
  cases c with
  | true=>exact hb wh pins s1 σ H1 Q I1 q1
  | false=>exact ⟨H1,I1,q1⟩
theorem pw_or (ha:PT X a tA) (hb:PW X (.BoolOp .Or (b :: rest) pos) tB'):PW X (.BoolOp .Or (a :: b :: rest) pos) (tOr tA tB'):=by
  intro wh pins s σ H Q I h
  refine isTrue_or (thn (ha pins s σ H _ I h) fun c s1 ⟨H1,I1,q1⟩=>?_)
  cases c with
  | true=>exact ⟨H1,I1,q1⟩
  | false=>exact hb wh pins s1 σ H1 Q I1 q1
theorem pt_not (ha:PT X a tA):PT X (.UnaryOp .Not a pos) (tNot tA):=by
  intro pins s σ H Q I h
  exact isTrue_not (ha pins s σ H (fun c H1=>Q (!c) H1) I h)
noncomputable def tAndV (ta tb:TE):TE:=fun σ H Q=>ta σ H fun x H1=>∃ c,x=.bl c∧if c=true then tb σ H1 Q else Q (.bl false) H1
noncomputable def tNotV (ta:TE):TE:=fun σ H Q=>ta σ H fun x H1=>∃ c,x=.bl c∧Q (.bl (!c)) H1
theorem pe_one {op} {t:TE} (h:PE X a t):PE X (.BoolOp op [a] pos) t:=fun pins s σ H Q I hw=>BoolOp_one (h pins s σ H Q I hw)
theorem pe_and (ha:PE X a ta) (hb:PE X (.BoolOp .And (b :: rest) pos) tb):PE X (.BoolOp .And (a :: b :: rest) pos) (tAndV ta tb):=by
  intro pins s σ H Q I h
  refine BoolOp_and (thn (ha pins s σ H _ I h) fun v s1 ⟨x,H1,I1,r1,q1⟩=>?_)
  obtain ⟨c,rfl,q1⟩:=q1
  cases r1
  refine wpAny_truthy_bool ?_
  cases c with
  | true=>exact hb pins s1 σ H1 Q I1 q1
  | false=>exact ⟨.bl false,H1,I1,rfl,q1⟩
theorem pe_not (ha:PE X a ta):PE X (.UnaryOp .Not a pos) (tNotV ta):=by
  intro pins s σ H Q I h
  refine UnaryOp_ (thn (ha pins s σ H _ I h) fun v s1 ⟨x,H1,I1,r1,q1⟩=>?_)
  obtain ⟨c,rfl,q1⟩:=q1
  cases r1
  exact not_of (wpAny_truthy_bool ⟨.bl (!c),H1,I1,rfl,q1⟩)
noncomputable def tIf (t:TT) (ta tb:TE):TE:=fun σ H Q=>t σ H fun c H1=>if c=true then ta σ H1 Q else tb σ H1 Q
theorem pe_ifExp {c:Expr} (hc:PT X c tA) (ha:PE X a ta) (hb:PE X b tb):PE X (.IfExp c a b pos) (tIf tA ta tb):=by
  intro pins s σ H Q I h
  refine wpAny_IfExp (thn (hc pins s σ H _ I h) fun d s1 ⟨H1,I1,q1⟩=>?_)
  cases d with
  | true=>exact ha pins s1 σ H1 Q I1 q1
  | false=>exact hb pins s1 σ H1 Q I1 q1
end
end L2
namespace L2
open PySem PySem.Spec PyProof.Rows
noncomputable def SqL (K:PySem.W.Frag) (H:Hp) (a:Addr) (xs:List V):Prop :=
  Rd H a (.lst xs) ∨
    ∃ (o:Obj) (its:Array Value) (n:Nat),K.lookup a=some o∧o.cls=.type "list"∧o.dict=none∧o.data=.seq its n∧its.size≤sizeLine∧Vals xs its.toList
noncomputable def SqT (K:PySem.W.Frag) (H:Hp) (a:Addr) (xs:List V):Prop :=
  Rd H a (.tup xs) ∨
    ∃ (o:Obj) (its:Array Value) (n:Nat),K.lookup a=some o∧o.cls=.type "tuple"∧o.data=.seq its n∧its.size≤sizeLine∧Vals xs its.toList
noncomputable def absV:Value→Option V
  | .none=>some .non
  | .bool b=>some (.bl b)
  | .int i _=>some (.int i)
  | .str x _=>some (.str x)
  | .bytes b _=>some (.byt b)
  | .float b _=>some (.flt b)
  | .ref a=>some (.ref a)
  | .type n=>some (.ty n)
  | _=>none
theorem RelV.abs {x:V} {u:Value} (r:RelV x u):absV u=some x:=by
  cases x with
  | non=>cases r; rfl
  | bl _=>cases r; rfl
  | int _=>obtain ⟨t,rfl⟩:=r; rfl
  | str _=>obtain ⟨t,rfl⟩:=r; rfl
  | byt _=>obtain ⟨t,rfl⟩:=r; rfl
  | flt _=>obtain ⟨t,rfl⟩:=r; rfl
  | ref _=>cases r; rfl
  | ty _=>cases r; rfl
theorem RelV.inj {x y:V} {u:Value} (r:RelV x u) (q:RelV y u):x=y:=Option.some.inj (r.abs.symm.trans q.abs)
theorem Vals.inj:∀ {xs ys:List V} {us:List Value},Vals xs us→Vals ys us→xs=ys
  | _,_,_,.nil,.nil=>rfl
  | _,_,_,.cons r t,.cons r' t'=>by rw [r.inj r',Vals.inj t t']
section
variable {X:Cx} {pins:List (Addr×Obj)} {σ:St} {H:Hp} {s:Shared} {a:Addr} {xs ys:List V}
theorem SqL.of {K:PySem.W.Frag} (h:H a=some (.lst xs)):SqL K H a xs:=.inl (.inl h)
theorem SqT.of {K:PySem.W.Frag} (h:H a=some (.tup xs)):SqT K H a xs:=.inl (.inl h)
theorem Inv.list (I:Inv X pins σ H s) (h:SqL X.K H a xs):∃ its:List Value,Vals xs its∧PlainL s.heap a its.toArray∧xs.length≤sizeLine:=by
  rcases h with h | ⟨o,its,n,hk,hc,hd,hs,hz,r⟩
  · obtain ⟨z,its,n,r,e⟩:=h.ok I.hok
    exact ⟨its,r,⟨_,n,e,rfl,rfl,rfl⟩,z⟩
  · refine ⟨its.toList,r,⟨o,n,I.kIn a o hk,hc,hd,by simpa using hs⟩,?_⟩
    have e:=r.length
    simp only [Array.length_toList] at e
    omega
theorem Inv.tuple (I:Inv X pins σ H s) (h:SqT X.K H a xs):∃ its:List Value,Vals xs its∧IsTup s.heap a its.toArray∧xs.length≤sizeLine:=by
  rcases h with h | ⟨o,its,n,hk,hc,hs,hz,r⟩
  · obtain ⟨z,its,r,p⟩:=h.ok I.hok
    exact ⟨its,r,p.tup,z⟩
  · refine ⟨its.toList,r,⟨o,I.kIn a o hk,hc,n,by simpa using hs⟩,?_⟩
    have e:=r.length
    simp only [Array.length_toList] at e
    omega
theorem Inv.list_inj (I:Inv X pins σ H s) (h:SqL X.K H a xs) (h':SqL X.K H a ys):xs=ys:=by
  obtain ⟨its,r,⟨o,n,e,_,_,d⟩,_⟩:=I.list h
  obtain ⟨its',r',⟨o',n',e',_,_,d'⟩,_⟩:=I.list h'
  rw [e] at e'; cases e'
  rw [d] at d'
  injection d' with d1 _
  have:its=its':=by simpa using congrArg Array.toList d1
  subst this
  exact r.inj r'
theorem Inv.tuple_inj (I:Inv X pins σ H s) (h:SqT X.K H a xs) (h':SqT X.K H a ys):xs=ys:=by
  obtain ⟨its,r,⟨o,e,_,n,d⟩,_⟩:=I.tuple h
  obtain ⟨its',r',⟨o',e',_,n',d'⟩,_⟩:=I.tuple h'
  rw [e] at e'; cases e'
  rw [d] at d'
  injection d' with d1 _
  have:its=its':=by simpa using congrArg Array.toList d1
  subst this
  exact r.inj r'
end
noncomputable abbrev Cx.wish (X:Cx) (E:Value→Shared→Prop):Cx:={ X with xe:=E }
noncomputable abbrev Cx.nox (X:Cx):Cx:=X.wish fun _ _=>False
theorem Cx.Ok.wish {X:Cx} (ok:X.Ok) (E:Value→Shared→Prop):(X.wish E).Ok :=
  ⟨ok.mod,ok.kind,ok.glob,ok.blt,ok.above,ok.inj,ok.has,ok.cab,ok.hd,ok.frames,ok.stk,ok.exf,ok.bs,ok.bsz,ok.noex,ok.exfs,ok.funs,ok.frf⟩
theorem Cx.Ok.unwish {X:Cx} {E:Value→Shared→Prop} (ok:(X.wish E).Ok):X.Ok :=
  ⟨ok.mod,ok.kind,ok.glob,ok.blt,ok.above,ok.inj,ok.has,ok.cab,ok.hd,ok.frames,ok.stk,ok.exf,ok.bs,ok.bsz,ok.noex,ok.exfs,ok.funs,ok.frf⟩
section
variable {X:Cx} {pins:List (Addr×Obj)} {σ:St} {H:Hp} {s:Shared} {E:Value→Shared→Prop}
theorem Inv.wish (I:Inv X pins σ H s) (E:Value→Shared→Prop):Inv (X.wish E) pins σ H s:=⟨I.ok.wish E,I.os,I.bare,I.base,I.loc,I.cell,I.free,I.freeC,I.pin,I.hok,I.len⟩
theorem Inv.unwish (I:Inv (X.wish E) pins σ H s):Inv X pins σ H s:=⟨I.ok.unwish,I.os,I.bare,I.base,I.loc,I.cell,I.free,I.freeC,I.pin,I.hok,I.len⟩
theorem SP.unwish {D:Ends} {f:Flow} {s':Shared} (h:SP (X.wish E) pins D f s'):SP X pins D f s':=by
  cases f with
  | next=>obtain ⟨σ',H',I,q⟩:=h; exact ⟨σ',H',I.unwish,q⟩
  | brk=>obtain ⟨σ',H',I,q⟩:=h; exact ⟨σ',H',I.unwish,q⟩
  | cont=>obtain ⟨σ',H',I,q⟩:=h; exact ⟨σ',H',I.unwish,q⟩
  | ret u=>obtain ⟨v,σ',H',I,r,q⟩:=h; exact ⟨v,σ',H',I.unwish,r,q⟩
theorem PT.nox {e:Expr} {t:TT} (h:PT X.nox e t):PT X e t:=fun pins s σ H Q I hw =>
  wpAny_mono (h pins s σ H Q (I.wish _) hw) (fun _ _ ⟨H',I',q⟩=>⟨H',I'.unwish,q⟩) fun _ _ z=>False.elim z
theorem PSs.nox {st:List Stmt} {t:TS} (h:PSs X.nox st t):PSs X st t:=fun pins s σ H D I hw =>
  wpAny_mono (h pins s σ H D (I.wish _) hw) (fun _ _ q=>q.unwish) fun _ _ z=>False.elim z
end
section
variable {X:Cx} {st:Stmt} {rest:List Stmt} {t u:TS} {e:Expr} {te:TE} {pos:Pos}
noncomputable def tNext:TS:=fun D σ H=>D.nx σ H
noncomputable def tSeq (t u:TS):TS:=fun D σ H=>t { D with nx:=u D } σ H
theorem pss_nil:PSs X [] tNext:=fun _ _ σ H _ I h=>wpAny_execs_nil ⟨σ,H,I,h⟩
theorem pss_cons (h1:PS X st t) (h2:PSs X rest u):PSs X (st :: rest) (tSeq t u):=by
  intro pins s σ H D I h
  refine wpAny_execs_cons (thn (h1 pins s σ H { D with nx:=u D } I h) fun f s1 q=>?_)
  cases f with
  | next =>
    obtain ⟨σ',H',I',q⟩:=q
    exact h2 pins s1 σ' H' D I' q
  | ret v=>exact q
  | brk=>exact q
  | cont=>exact q
theorem pss_one (h1:PS X st t):PSs X [st] t:=by
  intro pins s σ H D I h
  refine wpAny_execs_cons (thn (h1 pins s σ H D I h) fun f s1 q=>?_)
  cases f with
  | next=>exact wpAny_execs_nil q
  | ret v=>exact q
  | brk=>exact q
  | cont=>exact q
theorem Inv.quiet {pins:List (Addr×Obj)} {σ:St} {H:Hp} {s:Shared} (I:Inv X pins σ H s):interactive X.env=false:=by simp [interactive,I.ok.kind]
noncomputable def tDrop (te:TE):TS:=fun D σ H=>te σ H fun _ H1=>D.nx σ H1
theorem ps_expr (he:PE X e te) (hs:swapsWith e none pos.line X.env=pure false:=by rfl):PS X (.Expr e pos) (tDrop te):=by
  intro pins s σ H D I h
  exact wpAny_Expr_any (thn (he pins s σ H _ I h) fun v s1 ⟨x,H1,I1,r1,q1⟩=>⟨σ,H1,I1,q1⟩) I.quiet hs
noncomputable def tRet (te:TE):TS:=fun D σ H=>te σ H D.rt
theorem ps_ret (he:PE X e te):PS X (.Return (some e) pos) (tRet te):=by
  intro pins s σ H D I h
  exact wpAny_Return_some (thn (he pins s σ H _ I h) fun v s1 ⟨x,H1,I1,r1,q1⟩=>⟨x,σ,H1,I1,r1,q1⟩)
noncomputable def tIfS (c:TT) (t u:TS):TS:=fun D σ H=>c σ H fun b H1=>if b=true then t D σ H1 else u D σ H1
theorem ps_if {c:Expr} {a b:List Stmt} {tc:TT} (hc:PT X c tc) (ha:PSs X a t) (hb:PSs X b u):PS X (.If c a b pos) (tIfS tc t u):=by
  intro pins s σ H D I h
  refine wpAny_If (thn (hc pins s σ H _ I h) fun d s1 ⟨H1,I1,q1⟩=>?_)
  cases d with
  | true=>exact ha pins s1 σ H1 D I1 q1
  | false=>exact hb pins s1 σ H1 D I1 q1
end
noncomputable abbrev TG:=V→St→Hp→(St→Hp→Prop)→Prop
noncomputable abbrev TGs:=List V→St→Hp→(St→Hp→Prop)→Prop
noncomputable def PG (X:Cx) (target:Expr) (t:TG):Prop :=
  ∀ (pins:List (Addr×Obj)) (s:Shared) (σ:St) (H:Hp) (v:V) (u:Value) (Q:St→Hp→Prop),Inv X pins σ H s→RelV v u→t v σ H Q →
    wpAny (model X.prog X.w) X.A (assign target X.env u) (fun _ s'=>∃ σ' H',Inv X pins σ' H' s'∧Q σ' H') X.xe s
noncomputable def PGs (X:Cx) (ts:List Expr) (t:TGs):Prop :=
  ∀ (pins:List (Addr×Obj)) (s:Shared) (σ:St) (H:Hp) (vs:List V) (us:List Value) (Q:St→Hp→Prop),Inv X pins σ H s→Vals vs us→t vs σ H Q →
    wpAny (model X.prog X.w) X.A (assignInOrder ((assignEach ts X.env).map (·.2)) us) (fun _ s'=>∃ σ' H',Inv X pins σ' H' s'∧Q σ' H') X.xe s
noncomputable abbrev TSet:=V→V→V→Hp→(Hp→Prop)→Prop
noncomputable def PSet (X:Cx) (t:TSet):Prop :=
  ∀ (pins:List (Addr×Obj)) (s:Shared) (σ:St) (H:Hp) (o i v:V) (ov iv u:Value) (Q:Hp→Prop),Inv X pins σ H s→RelV o ov→RelV i iv→RelV v u→t o i v H Q →
    wpAny (model X.prog X.w) X.A (setItem ov iv u) (fun _ s'=>∃ H',Inv X pins σ H' s'∧Q H') X.xe s
section
variable {X:Cx} {pos:Pos}
noncomputable def gName (i:Nat):TG:=fun v σ H Q=>Q (σ.set i (some v)) H
theorem pg_name {i:Nat} {x:Str} (hN:X.N.Nodup) (hi:X.N[i]? = some x) (hx:Loc X.env.scope x) (hf:X.fn x=true∨X.env.scope.names.lookup x=some .local:=by first | exact .inl rfl | exact .inr rfl | assumption):PG X (.Name x pos) (gName i):=by
  intro pins s σ H v u Q I r h
  exact wpAny_assign_Name (store_ok I hN hi hx r (fun s' I'=>⟨_,H,I',h⟩) hf)
noncomputable def gNil:TGs:=fun vs σ H Q=>vs=[]∧Q σ H
noncomputable def gCons (t:TG) (u:TGs):TGs:=fun vs σ H Q=>∃ v r,vs=v :: r∧t v σ H fun σ' H'=>u r σ' H' Q
theorem pgs_nil:PGs X [] gNil:=by
  intro pins s σ H vs us Q I r h
  obtain ⟨e,h⟩:=h
  subst e
  cases r
  exact assignInOrder_nil ⟨σ,H,I,h⟩
theorem pgs_cons {e:Expr} {es:List Expr} {t:TG} {u:TGs} (h1:PG X e t) (h2:PGs X es u)
    (hs:(assignEach (e :: es) X.env).map (·.2)=assign e X.env :: (assignEach es X.env).map (·.2):=by rfl):PGs X (e :: es) (gCons t u):=by
  intro pins s σ H vs us Q I r h
  obtain ⟨v,vr,e1,h⟩:=h
  subst e1
  cases r with
  | cons r rr =>
    rw [hs]
    refine assignInOrder_cons (thn (h1 pins s σ H _ _ _ I r h) fun _ s1 ⟨σ1,H1,I1,q1⟩=>?_)
    exact h2 pins s1 σ1 H1 _ _ Q I1 rr q1
noncomputable def gTup (K:PySem.W.Frag) (n:Nat) (t:TGs):TG:=fun v σ H Q=>∃ a xs,v=.ref a∧SqT K H a xs∧xs.length=n∧t xs σ H Q
theorem pg_tup {es:List Expr} {k:Nat} {t:TGs} {n:Nat} (hc:X.calm=true) (h:PGs X es t)
    (hn:(assignEach es X.env).length=n:=by rfl) (hst:(assignEach es X.env).findIdx? (·.1)=none:=by rfl):PG X (.Tuple es k pos) (gTup X.K n t):=by
  intro pins s σ H v u Q I r hw
  obtain ⟨a,xs,e1,hq,hl,hw⟩:=hw
  subst e1
  cases r
  obtain ⟨its,rv,ht,hz⟩:=I.tuple hq
  refine assign_Tuple_tuple (I.ok.hd hc) ht (by simp [hn,← hl,rv.length]) hst fun h' hx=>?_
  have I1:Inv X pins σ H { s with heap:=h' }:=I.kept (t':=s.toks) fun b o e=>hx b o (Nat.ne_of_lt (Heap.lt_size e)) e
  exact h pins _ σ H xs _ Q I1 (by simpa using rv) hw
noncomputable def gSub (to ti:TE) (t:TSet):TG:=fun v σ H Q=>to σ H fun o H1=>ti σ H1 fun i H2=>t o i v H2 fun H3=>Q σ H3
theorem pg_sub {o i:Expr} {to ti:TE} {t:TSet} (ho:PE X o to) (hi:PE X i ti) (hs:PSet X t)
    (ha:∀ v,assign (.Subscript o i pos) X.env v=(do
      let ov ← holding [v] (eval o X.env)
      let iv ← holding [v,ov] (eval i X.env)
      standAt pos
      holding [v,ov,iv] (setItem ov iv v)
      release [v,ov,iv] []):=by intro _; rfl):PG X (.Subscript o i pos) (gSub to ti t):=by
  intro pins s σ H v u Q I r h
  rw [ha]
  refine wpAny_bind (wpAny_holding (thn (ho pins s σ H _ I h) fun ov s1 ⟨x,H1,I1,r1,q1⟩=>?_))
  refine wpAny_bind (wpAny_holding (thn (hi pins s1 σ H1 _ I1 q1) fun iv s2 ⟨y,H2,I2,r2,q2⟩=>?_))
  refine wpAny_bind (wpAny_standAt (wpAny_bind (wpAny_holding (thn (hs pins s2 σ H2 x y v ov iv u _ I2 r1 r2 r q2) fun _ s3 ⟨H3,I3,q3⟩=>?_))))
  exact wpAny_release ⟨σ,H3,I3,q3⟩
noncomputable def tAsg (te:TE) (g:TG):TS:=fun D σ H=>te σ H fun x H1=>g x σ H1 D.nx
theorem ps_asg {tg e:Expr} {te:TE} {g:TG} (he:PE X e te) (hg:PG X tg g) (hs:swapsWithSole [tg] e pos.line X.env=pure false:=by rfl) (hw:swappedStores [tg] e X.env=pure none:=by rfl)
    (h1:(assignEach [tg] X.env).map (·.2)=[assign tg X.env]:=by rfl):PS X (.Assign [tg] e pos) (tAsg te g):=by
  intro pins s σ H D I h
  refine wpAny_Assign_stores (thn (he pins s σ H _ I h) fun v s1 ⟨x,H1,I1,r1,q1⟩=>?_) hs hw
  rw [h1]
  exact thn (hg pins s1 σ H1 x v _ I1 r1 q1) fun _ s2 q=>q
theorem ps_set {i:Nat} {x:Str} {e:Expr} {te:TE} {pos':Pos} (hN:X.N.Nodup) (hi:X.N[i]? = some x) (hx:Loc X.env.scope x) (he:PE X e te) (hs:swapsWith e (some (.Name x pos')) pos.line X.env=pure false:=by rfl) (hf:X.fn x=true∨X.env.scope.names.lookup x=some .local:=by first | exact .inl rfl | exact .inr rfl | assumption) :
    PS X (.Assign [.Name x pos'] e pos) (tAsg te (gName i)):=by
  intro pins s σ H D I h
  refine wpAny_Assign_Name (thn (he pins s σ H _ I h) fun v s1 ⟨y,H1,I1,r1,q1⟩=>?_) hs
  exact store_ok I1 hN hi hx r1 (fun s2 I2=>⟨_,H1,I2,q1⟩) hf
end
section
variable {X:Cx} {pos:Pos}
end
structure It where
  go:Nat→Hp→Prop
  yld:Nat→Hp→V→Hp→Prop
  stop:Nat→Hp→Prop
noncomputable def FpOk (X:Cx) (pins:List (Addr×Obj)) (H:Hp) (b:Addr):Prop :=
  H b=none∧b≠X.env.locals∧b∉X.fs∧(b∈X.ex∨X.s₀.heap.objs.size≤b)∧(∀ x c,X.env.cells.lookup x=some c→c≠b)∧∀ p∈X.pn ++ pins,p.1≠b
theorem Inv.fpOk {X:Cx} {pins:List (Addr×Obj)} {σ:St} {H H':Hp} {s:Shared} {b:Addr} (I:Inv X pins σ H s) (hb:s.heap.objs.size≤b) (hn:H' b=none):FpOk X pins H' b:=by
  refine ⟨hn,Nat.ne_of_gt (Nat.lt_of_lt_of_le I.lt hb),I.nofs hb,.inr (Nat.le_trans I.sz hb),fun x c e z=>?_,fun p hp z=>?_⟩
  · obtain ⟨v,q⟩:=I.cell x c e
    exact absurd (Nat.lt_of_lt_of_le q.lt (by rw [z]; exact hb)) (Nat.lt_irrefl _)
  · exact absurd (Nat.lt_of_lt_of_le (Heap.lt_size (I.pin p hp).1) (by rw [z]; exact hb)) (Nat.lt_irrefl _)
structure Turn (P:Program) (w:World) (K:PySem.W.Frag) (tg:Expr) (J:It) (fp:List Addr) (it:Addr) (tn:Nat→Heap→Prop):Prop where
  mem:it∈fp
  obj:∀ i h,tn i h→∀ b∈fp,∃ o,h.get? b=some o∧∀ v,o.data≠.cell v
  keep:∀ i h h',tn i h→(∀ b∈fp,∀ o,h.get? b=some o→h'.get? b=some o)→tn i h'
  item:∀ (X:Cx),X.prog=P→X.w=w→X.K=K→X.calm=true→∀ (i:Nat) (pins:List (Addr×Obj)) (s:Shared) (σ:St) (H:Hp) (E:Value→Shared→Prop),Inv X pins σ H s→(∀ b∈fp,FpOk X pins H b)→tn i s.heap→J.go i H →
    wpAny (model P w) X.A (pyNext (.ref it)) (fun r s1=>∃ u,r=some u ∧
      wpAny (model P w) X.A (letOwnedTupleGo tg (.ref it) u) (fun _ s2=>∃ x H',Inv X pins σ H' s2∧RelV x u∧J.yld i H x H'∧tn (i + 1) s2.heap∧∀ b∈fp,H' b=none) E s1) E s
  done:∀ (X:Cx),X.prog=P→X.w=w→X.K=K→X.calm=true→∀ (i:Nat) (pins:List (Addr×Obj)) (s:Shared) (σ:St) (H:Hp) (E:Value→Shared→Prop),Inv X pins σ H s→(∀ b∈fp,FpOk X pins H b)→tn i s.heap→J.stop i H →
    wpAny (model P w) X.A (pyNext (.ref it)) (fun r s1=>r=none∧Inv X pins σ H s1) E s
  self:∀ (A:Around) (i:Nat) (s:Shared) (Q:Value→Shared→Prop) (E:Value→Shared→Prop),tn i s.heap→Q (.ref it) s→wpAny (model P w) A (pyIter (.ref it)) Q E s
noncomputable abbrev TI:=St→Hp→(It→Hp→Prop)→Prop
noncomputable def PIE (X:Cx) (pins:List (Addr×Obj)) (σ:St) (tg:Expr) (R:It→Hp→Prop) (itv:Value) (s2:Shared):Prop :=
  ∃ (it:Addr) (fp:List Addr) (tn:Nat→Heap→Prop) (J:It) (H':Hp),itv=.ref it∧Inv X pins σ H' s2∧Turn X.prog X.w X.K tg J fp it tn∧tn 0 s2.heap∧(∀ b∈fp,FpOk X pins H' b)∧R J H'
noncomputable def PI (X:Cx) (tg iter:Expr) (wi:TI):Prop :=
  ∀ (pins:List (Addr×Obj)) (s:Shared) (σ:St) (H:Hp) (R:It→Hp→Prop),Inv X pins σ H s→wi σ H R →
    wpAny (model X.prog X.w) X.A (eval iter X.env) (fun v s1=>wpAny (model X.prog X.w) X.A (pyIter v) (PIE X pins σ tg R) X.xe s1) X.xe s
theorem go_of {M:Model} {A:Around} {E:Value→Shared→Prop} {s:Shared} {tg:Expr} {it:Addr} {u:Value} {o:Obj} {n:String} {vs:Array Value} {Q:Unit→Shared→Prop} (ho:s.heap.get? it=some o) (hc:o.cls=.type n) (hd:o.data=.fields vs)
    (hn:["enumerate","zip","dict_itemiterator","dict_reverseitemiterator","odict_iterator","itertools.zip_longest","itertools.pairwise"].contains n=false) (hQ:Q () s):wpAny M A (letOwnedTupleGo tg (.ref it) u) Q E s:=by
  unfold letOwnedTupleGo
  cases tg <;> first
    | exact wpAny_pure hQ
    | (cases u <;> first
        | exact wpAny_pure hQ
        | (refine wpAny_bind (wpAny_load ho ?_)
           rw [hc,hd]
           show wpAny M A (if (["enumerate","zip","dict_itemiterator","dict_reverseitemiterator","odict_iterator","itertools.zip_longest","itertools.pairwise"].contains n && vs[0]? == some (rawInt _))=true then _ else _) Q E s
           rw [if_neg (by intro h; rw [hn,Bool.false_and] at h; cases h)]
           exact wpAny_pure hQ))
noncomputable def Itl (K:PySem.W.Frag) (a:Addr):It :=
  ⟨fun i H=>∃ xs x,SqL K H a xs∧xs[i]? = some x,fun i H x H'=>H'=H∧∀ xs,SqL K H a xs→xs[i]? = some x,fun i H=>∃ xs,SqL K H a xs∧xs.length≤i⟩
noncomputable def Itt (K:PySem.W.Frag) (a:Addr):It :=
  ⟨fun i H=>∃ xs x,SqT K H a xs∧xs[i]? = some x,fun i H x H'=>H'=H∧∀ xs,SqT K H a xs→xs[i]? = some x,fun i H=>∃ xs,SqT K H a xs∧xs.length≤i⟩
noncomputable def Itr (lo:Int) (n:Nat):It:=⟨fun i _=>i < n,fun i H x H'=>H'=H∧x=.int (lo + i),fun i _=>n≤i⟩
theorem turn_list {P:Program} {w:World} {K:PySem.W.Frag} {tg:Expr} (a it:Addr):Turn P w K tg (Itl K a) [it] it (fun i h=>h.IsListIter it a i) where
  mem:=by simp
  obj:=fun i h st b hb=>by
    have e:b=it:=by simpa using hb
    subst e
    obtain ⟨o,e,c,d⟩:=st
    exact ⟨o,e,fun v z=>by rw [d] at z; cases z⟩
  keep:=fun i h h' st k=>st.at fun o e=>k it (by simp) o e
  item:=by
    intro X hP hw hK hc i pins s σ H E I hf st hg
    subst hP hw hK
    obtain ⟨xs,x,hq,hx⟩:=hg
    obtain ⟨its,rv,p,hz⟩:=I.list hq
    obtain ⟨u,hu,ru⟩:=rv.get hx
    obtain ⟨f0,f1,f2,f3,f4,f5⟩:=hf it (by simp)
    refine wpAny_pyNext_list_item st p.isList (x:=u) (by simpa using hu) fun h' st' sb=>?_
    have I1:Inv X pins σ H { s with heap:=h' }:=I.turned (t':=s.toks) (fun b o hb e=>(sb.2 b hb).trans e) f0 f1 f3 f4 f5
    obtain ⟨o,e,c,d⟩:=id st'
    exact ⟨u,rfl,go_of (s:={ s with heap:=h' }) e c d (by decide) ⟨x,H,I1,ru,⟨rfl,fun ys hy=>by rw [I.list_inj hy hq]; exact hx⟩,st',fun b hb=>(hf b hb).1⟩⟩
  done:=by
    intro X hP hw hK hc i pins s σ H E I hf st hg
    subst hP hw hK
    obtain ⟨xs,hq,hx⟩:=hg
    obtain ⟨its,rv,p,hz⟩:=I.list hq
    obtain ⟨f0,f1,f2,f3,f4,f5⟩:=hf it (by simp)
    have hl:=rv.length
    exact wpAny_pyNext_list_end (I.ok.hd hc) st p.isList (by simp; omega) fun h' eb=>⟨rfl,I.turned (t':=s.toks) (fun b o hb e=>eb b o hb e) f0 f1 f3 f4 f5⟩
  self:=fun _ _ _ _ _ st h=>wpAny_pyIter_listiter st h
theorem turn_tuple {P:Program} {w:World} {K:PySem.W.Frag} {tg:Expr} (a it:Addr):Turn P w K tg (Itt K a) [it] it (fun i h=>h.IsTupleIter it a i) where
  mem:=by simp
  obj:=fun i h st b hb=>by
    have e:b=it:=by simpa using hb
    subst e
    obtain ⟨o,e,c,d⟩:=st
    exact ⟨o,e,fun v z=>by rw [d] at z; cases z⟩
  keep:=fun i h h' st k=>st.at fun o e=>k it (by simp) o e
  item:=by
    intro X hP hw hK hc i pins s σ H E I hf st hg
    subst hP hw hK
    obtain ⟨xs,x,hq,hx⟩:=hg
    obtain ⟨its,rv,p,hz⟩:=I.tuple hq
    obtain ⟨u,hu,ru⟩:=rv.get hx
    obtain ⟨f0,f1,f2,f3,f4,f5⟩:=hf it (by simp)
    refine wpAny_pyNext_tuple_item st (show s.heap.IsTuple a its.toArray from p) (x:=u) (by simpa using hu) fun h' st' sb=>?_
    have I1:Inv X pins σ H { s with heap:=h' }:=I.turned (t':=s.toks) (fun b o hb e=>(sb.2 b hb).trans e) f0 f1 f3 f4 f5
    obtain ⟨o,e,c,d⟩:=id st'
    exact ⟨u,rfl,go_of (s:={ s with heap:=h' }) e c d (by decide) ⟨x,H,I1,ru,⟨rfl,fun ys hy=>by rw [I.tuple_inj hy hq]; exact hx⟩,st',fun b hb=>(hf b hb).1⟩⟩
  done:=by
    intro X hP hw hK hc i pins s σ H E I hf st hg
    subst hP hw hK
    obtain ⟨xs,hq,hx⟩:=hg
    obtain ⟨its,rv,p,hz⟩:=I.tuple hq
    obtain ⟨f0,f1,f2,f3,f4,f5⟩:=hf it (by simp)
    have hl:=rv.length
    exact wpAny_pyNext_tuple_end (I.ok.hd hc) st (show s.heap.IsTuple a its.toArray from p) (by simp; omega) fun h' eb=>⟨rfl,I.turned (t':=s.toks) (fun b o hb e=>eb b o hb e) f0 f1 f3 f4 f5⟩
  self:=fun _ _ _ _ _ st h=>wpAny_pyIter_tupleiter st h
theorem turn_range {P:Program} {w:World} {K:PySem.W.Frag} {tg:Expr} (it:Addr) (lo:Int) (n:Nat):Turn P w K tg (Itr lo n) [it] it (fun i h=>IsRangeIter h it (lo + (i:Nat) * 1) ((n:Int) - (i:Nat)) 1) where
  mem:=by simp
  obj:=fun i h st b hb=>by
    have e:b=it:=by simpa using hb
    subst e
    exact ⟨_,st,fun v z=>by
      have z':Data.fields _=Data.cell v:=z
      cases z'⟩
  keep:=fun i h h' st k=>k it (by simp) _ st
  item:=by
    intro X hP hw hK hc i pins s σ H E I hf st hg
    subst hP hw hK
    obtain ⟨f0,f1,f2,f3,f4,f5⟩:=hf it (by simp)
    have W:=Walks.range (prog:=X.prog) (w:=X.w) (I.ok.hd hc) it lo 1 n
    refine W.item i s _ _ hg st fun v h' tk hv st' kk=>?_
    obtain ⟨t,rfl⟩:=hv
    have I1:Inv X pins σ H { s with heap:=h',toks:=tk }:=I.turned (fun b o hb e=>kk b o (by simpa using hb) e) f0 f1 f3 f4 f5
    refine ⟨_,rfl,go_of (s:={ s with heap:=h',toks:=tk }) (n:="range_iterator") st' rfl rfl (by decide) ⟨.int (lo + i),H,I1,⟨t,?_⟩,⟨rfl,rfl⟩,st',fun b hb=>(hf b hb).1⟩⟩
    rw [Int.mul_one]
  done:=by
    intro X hP hw hK hc i pins s σ H E I hf st hg
    subst hP hw hK
    obtain ⟨f0,f1,f2,f3,f4,f5⟩:=hf it (by simp)
    exact wpAny_pyNext_range_end (I.ok.hd hc) st (by have:n≤i:=hg; omega) fun h' eb=>⟨rfl,I.turned (t':=s.toks) (fun b o hb e=>eb b o hb e) f0 f1 f3 f4 f5⟩
  self:=fun _ _ _ _ _ st h=>wpAny_pyIter_rangeiter st h
end L2
namespace L2
open PySem PySem.Spec PyProof.Rows
section
variable {X:Cx} {tg:Expr}
noncomputable def iTup (K:PySem.W.Frag) (tl:TE):TI:=fun σ H R=>tl σ H fun x H1=>∃ a,x=.ref a∧(∃ xs,SqT K H1 a xs)∧R (Itt K a) H1
theorem pi_tup {l:Expr} {tl:TE} (hl:PE X l tl):PI X tg l (iTup X.K tl):=by
  intro pins s σ H R I h
  refine thn (hl pins s σ H _ I h) fun v s1 ⟨x,H1,I1,r1,q1⟩=>?_
  obtain ⟨a,e,⟨xs,hq⟩,q⟩:=q1
  subst e
  cases r1
  obtain ⟨its,rv,p,hz⟩:=I1.tuple hq
  refine wpAny_pyIter_tuple (show s1.heap.IsTuple a its.toArray from p) ?_
  refine ⟨s1.heap.objs.size,[s1.heap.objs.size],_,_,H1,rfl,I1.kept (t':=s1.toks) fun b o e=>Heap.get?_push_of_some _ e,turn_tuple a _,⟨_,Heap.get?_push_size _ rfl,rfl,rfl⟩,fun b hb=>?_,q⟩
  have e:b=s1.heap.objs.size:=by simpa using hb
  subst e
  exact I1.fpOk (Nat.le_refl _) (I1.hok.fresh (Nat.le_refl _))
theorem range_it {pins:List (Addr×Obj)} {σ:St} {H:Hp} {s:Shared} {R:It→Hp→Prop} {E:Value→Shared→Prop} {lo hi:Int} {t u v:Tok} {tk:Nat} (I:Inv X pins σ H s) (h1:-(2 ^ 62)≤lo) (h2:lo < 2 ^ 62) (h3:-(2 ^ 62)≤hi) (h4:hi < 2 ^ 62)
    (q:R (Itr lo (hi - lo).toNat) H):wpAny (model X.prog X.w) X.A (pyIter (.ref s.heap.objs.size)) (PIE X pins σ tg R) E { s with heap:=s.heap.push { cls:=.type "range",data:=.fields #[.int lo t,.int hi u,.int 1 v] },toks:=tk }:=by
  refine wpAny_pyIter_range (IsRange.new ..) (small_one h1 h2 h3 h4) ?_
  have I1:Inv X pins σ H { s with heap:=s.heap.push { cls:=.type "range",data:=.fields #[.int lo t,.int hi u,.int 1 v] },toks:=tk }:=I.kept fun b o e=>Heap.get?_push_of_some _ e
  refine ⟨(s.heap.push { cls:=.type "range",data:=.fields #[.int lo t,.int hi u,.int 1 v] }).objs.size,[(s.heap.push { cls:=.type "range",data:=.fields #[.int lo t,.int hi u,.int 1 v] }).objs.size],_,_,H,rfl,
    I1.kept (t':=tk) fun b o e=>Heap.get?_push_of_some _ e,turn_range _ lo (hi - lo).toNat,?_,fun b hb=>?_,q⟩
  · have e1:lo + ((0:Nat):Int) * 1=lo:=by simp
    have e2:(((hi - lo).toNat:Nat):Int) - ((0:Nat):Int)=Builtin.Range.rangeSize lo hi 1:=by rw [rangeSize_one]; split <;> omega
    show IsRangeIter _ _ (lo + ((0:Nat):Int) * 1) ((((hi - lo).toNat:Nat):Int) - ((0:Nat):Int)) 1
    rw [e1,e2]
    exact Heap.get?_push_size _ rfl
  · have e:b=(s.heap.push { cls:=.type "range",data:=.fields #[.int lo t,.int hi u,.int 1 v] }).objs.size:=by simpa using hb
    subst e
    exact I1.fpOk (Nat.le_refl _) (I1.hok.fresh (Nat.le_refl _))
noncomputable def iRng1 (ta:TA):TI:=fun σ H R=>ta σ H fun vs H1=>∃ j:Int,vs=[.int j]∧-(2 ^ 62)≤j∧j < 2 ^ 62∧R (Itr 0 j.toNat) H1
noncomputable def iRng2 (ta:TA):TI:=fun σ H R=>ta σ H fun vs H1=>∃ i j:Int,vs=[.int i,.int j]∧(-(2 ^ 62)≤i∧i < 2 ^ 62∧-(2 ^ 62)≤j∧j < 2 ^ 62)∧R (Itr i (j - i).toNat) H1
theorem pi_range1 {a:Expr} {ta:TA} {p pos:Pos} (hg:Gl X "range") (hm:X.mg "range"=none) (ha:PA X [a] ta) (hs:starEach [a] X.env=[(false,eval a X.env)]:=by rfl):PI X tg (.Call (.Name "range" p) [a] [] pos) (iRng1 ta):=by
  intro pins s σ H R I h
  refine Call_ (ld_blt I hg hm boot_range (PyProof.Rows.callWith_type1 (thn (ha pos pins s σ H _ I h) fun us s1 ⟨vs,H1,I1,r1,q1⟩=>?_) hs rfl))
  obtain ⟨j,e,q1,q2,q⟩:=q1
  subst e
  cases r1 with
  | cons r rr =>
    cases rr
    obtain ⟨t,rfl⟩:=r
    exact call_range_1 (range_it I1 (by omega) (by omega) q1 q2 (by simpa using q))
theorem pi_range2 {a b:Expr} {ta:TA} {p pos:Pos} (hg:Gl X "range") (hm:X.mg "range"=none) (ha:PA X [a,b] ta) (hs:starEach [a,b] X.env=[(false,eval a X.env),(false,eval b X.env)]:=by rfl) (hs2:starEach [b] X.env=[(false,eval b X.env)]:=by rfl) :
    PI X tg (.Call (.Name "range" p) [a,b] [] pos) (iRng2 ta):=by
  intro pins s σ H R I h
  refine Call_ (ld_blt I hg hm boot_range (PyProof.Rows.callWith_type1 (thn (ha pos pins s σ H _ I h) fun us s1 ⟨vs,H1,I1,r1,q1⟩=>?_) (by rw [hs,hs2]) (by rw [hs2]; rfl)))
  obtain ⟨i,j,e,⟨q1,q2,q3,q4⟩,q⟩:=q1
  subst e
  cases r1 with
  | cons r rr =>
    cases rr with
    | cons r' rr =>
      cases rr
      obtain ⟨t,rfl⟩:=r
      obtain ⟨t',rfl⟩:=r'
      exact call_range_2 (range_it I1 q1 q2 q3 q4 q)
noncomputable def tFor (wi:TI) (g:TG) (tb:TS):TS:=fun D σ H=>wi σ H fun J H1=>∃ W:Nat→Nat→St→Hp→Prop,(∃ m,W 0 m σ H1)∧∀ i m σ H,W i m σ H →
  (J.stop i H∧D.nx σ H)∨(J.go i H∧∃ N:St→Hp→Prop,(∀ σ' H',N σ' H'→∃ m',m' < m∧W (i + 1) m' σ' H')∧∀ x H',J.yld i H x H'→g x σ H' fun σ2 H2=>tb { D with nx:=N,ct:=N,bk:=D.nx } σ2 H2)
noncomputable def pinsAt (fp:List Addr) (h:Heap):List (Addr×Obj):=fp.filterMap fun b=>(h.get? b).map fun o=>(b,o)
theorem mem_pinsAt {fp:List Addr} {h:Heap} {b:Addr} {o:Obj} (hb:b∈fp) (e:h.get? b=some o):(b,o)∈pinsAt fp h:=List.mem_filterMap.mpr ⟨b,hb,by rw [e]; rfl⟩
theorem of_pinsAt {fp:List Addr} {h:Heap} {p:Addr×Obj} (hp:p∈pinsAt fp h):p.1∈fp∧h.get? p.1=some p.2:=by
  obtain ⟨b,hb,e⟩:=List.mem_filterMap.mp hp
  cases q:h.get? b with
  | none=>rw [q] at e; cases e
  | some o =>
    rw [q] at e
    have e':(b,o)=p:=Option.some.inj e
    subst e'
    exact ⟨hb,q⟩
theorem Inv.pinned {pins:List (Addr×Obj)} {σ:St} {H:Hp} {s:Shared} {fp:List Addr} (I:Inv X pins σ H s) (hf:∀ b∈fp,FpOk X pins H b) (ho:∀ b∈fp,∃ o,s.heap.get? b=some o∧∀ v,o.data≠.cell v):Inv X (pins ++ pinsAt fp s.heap) σ H s :=
  I.pins_of fun p hp=>(List.mem_append.mp hp).elim (fun z=>I.pin p (List.mem_append_right _ z)) fun z=>by
    obtain ⟨hb,e⟩:=of_pinsAt z
    obtain ⟨f0,f1,f2,_⟩:=hf p.1 hb
    obtain ⟨o,e',d⟩:=ho p.1 hb
    rw [e] at e'; cases e'
    exact ⟨e,f0,f1,f2,d⟩
theorem Inv.unpinned {pins pl:List (Addr×Obj)} {σ:St} {H:Hp} {s:Shared} (I:Inv X (pins ++ pl) σ H s):Inv X pins σ H s:=I.pins_of fun p hp=>I.pin p (List.mem_append_right _ (List.mem_append_left _ hp))
theorem ps_for {iter:Expr} {body:List Stmt} {wi:TI} {g:TG} {tb:TS} {pos:Pos} (hp:PassesOwn (model X.prog X.w) X.A X.env X.xe) (hc:X.calm=true) (hi:PI X tg iter wi) (hg:PG X tg g) (hb:PSs X body tb)
    (hs:∀ x,foldedSetIterable iter X.env x=pure x:=by intro _; rfl):PS X (.For tg iter body [] pos) (tFor wi g tb):=by
  intro pins s σ H D I h
  refine wpAny_For (thn (hi pins s σ H _ I h) fun v s1 h1=>thn h1 fun itv s2 h2=>?_) hs
  obtain ⟨it,fp,tn,J,H2,e,I2,T,st2,f2,W,⟨m0,w0⟩,turn⟩:=h2
  subst e
  -- what stays true of the iterator's objects through the loop
  have stat:∀ {H':Hp},(∀ b∈fp,H' b=none)→∀ b∈fp,FpOk X pins H' b:=fun hn b hb=>⟨hn b hb,(f2 b hb).2⟩
  refine codeAny_forLoop_any (fun n s'=>∃ i σ' H',Inv X pins σ' H' s'∧tn i s'.heap∧(∀ b∈fp,H' b=none)∧W i n σ' H') ?_ m0 ⟨0,σ,H2,I2,st2,fun b hb=>(f2 b hb).1,w0⟩
  rintro n s3 ⟨i,σ3,H3,I3,st3,fr3,w3⟩
  rcases turn i n σ3 H3 w3 with ⟨stop,qn⟩ | ⟨go,N,hN,step⟩
  · refine wpAny_passesOwn hp (thn (T.done X rfl rfl rfl hc i pins s3 σ3 H3 X.xe I3 (stat fr3) st3 stop) fun r s4 ⟨hr,I4⟩=>?_)
    subst hr
    exact wpAny_execs_nil ⟨σ3,H3,I4,qn⟩
  · refine wpAny_passesOwn hp (thn (T.item X rfl rfl rfl hc i pins s3 σ3 H3 X.xe I3 (stat fr3) st3 go) fun r s4 ⟨u,hr,h4⟩=>?_)
    subst hr
    refine wpAny_passesOwn hp (thn h4 fun _ s5 ⟨x,H5,I5,r5,y5,st5,fr5⟩=>?_)
    have I5':=I5.pinned (stat fr5) (T.obj _ _ st5)
    refine wpAny_passesOwn hp (thn (hg _ s5 σ3 H5 x u _ I5' r5 (step x H5 y5)) fun _ s6 ⟨σ6,H6,I6,q6⟩=>?_)
    refine wpAny_passesOwn hp (thn (hb _ s6 σ6 H6 _ I6 q6) fun f s7 q7=>?_)
    have again:∀ {σ7:St} {H7:Hp},Inv X (pins ++ pinsAt fp s5.heap) σ7 H7 s7→N σ7 H7→∃ m,m < n∧∃ i σ' H',Inv X pins σ' H' s7∧tn i s7.heap∧(∀ b∈fp,H' b=none)∧W i m σ' H':=fun {σ7 H7} I7 n7=>by
      obtain ⟨m',hm,w7⟩:=hN σ7 H7 n7
      refine ⟨m',hm,i + 1,σ7,H7,I7.unpinned,T.keep _ _ _ st5 fun b hb o e=>(I7.pin (b,o) (List.mem_append_right _ (List.mem_append_right _ (mem_pinsAt hb e)))).1,fun b hb=>?_,w7⟩
      obtain ⟨o,e,d⟩:=T.obj _ _ st5 b hb
      exact (I7.pin (b,o) (List.mem_append_right _ (List.mem_append_right _ (mem_pinsAt hb e)))).2.1
    cases f with
    | next=>obtain ⟨σ7,H7,I7,n7⟩:=q7; exact again I7 n7
    | cont=>obtain ⟨σ7,H7,I7,n7⟩:=q7; exact again I7 n7
    | brk=>obtain ⟨σ7,H7,I7,q7⟩:=q7; exact ⟨σ7,H7,I7.unpinned,q7⟩
    | ret v=>obtain ⟨x7,σ7,H7,I7,r7,q7⟩:=q7; exact ⟨x7,σ7,H7,I7.unpinned,r7,q7⟩
end
end L2
namespace L2
open PySem PySem.Spec PyProof.Rows
noncomputable abbrev R2:=V→V→Hp→VK→Prop
noncomputable def OpR (X:Cx) (f:Value→Value→Sem Value) (r:R2):Prop :=
  ∀ (pins:List (Addr×Obj)) (s:Shared) (σ:St) (H:Hp) (x y:V) (v u:Value) (Q:VK),Inv X pins σ H s→RelV x v→RelV y u→r x y H Q →
    wpAny (model X.prog X.w) X.A (f v u) (EP X pins σ Q) X.xe s
noncomputable def UnR (X:Cx) (f:Value→Sem Value) (r:V→Hp→VK→Prop):Prop :=
  ∀ (pins:List (Addr×Obj)) (s:Shared) (σ:St) (H:Hp) (x:V) (v:Value) (Q:VK),Inv X pins σ H s→RelV x v→r x H Q →
    wpAny (model X.prog X.w) X.A (f v) (EP X pins σ Q) X.xe s
noncomputable def CallR (X:Cx) (f:Value) (r:List V→Hp→VK→Prop):Prop :=
  ∀ (pins:List (Addr×Obj)) (s:Shared) (σ:St) (H:Hp) (xs:List V) (us:List Value) (Q:VK),Inv X pins σ H s→Vals xs us→r xs H Q →
    wpAny (model X.prog X.w) X.A (call f us) (EP X pins σ Q) X.xe s
noncomputable def tOp (r:R2) (ta tb:TE):TE:=fun σ H Q=>ta σ H fun x H1=>tb σ H1 fun y H2=>r x y H2 Q
noncomputable def tUn (r:V→Hp→VK→Prop) (ta:TE):TE:=fun σ H Q=>ta σ H fun x H1=>r x H1 Q
noncomputable def rI (C:Int→Int→Prop) (g:Int→Int→V):R2:=fun x y H Q=>∃ i j,x=.int i∧y=.int j∧C i j∧Q (g i j) H
noncomputable def rI0 (g:Int→Int→V):R2:=fun x y H Q=>∃ i j,x=.int i∧y=.int j∧Q (g i j) H
noncomputable def rU (g:Int→V):V→Hp→VK→Prop:=fun x H Q=>∃ i,x=.int i∧Q (g i) H
section
variable {X:Cx} {a b c:Expr} {ta tb tc:TE} {pos:Pos}
theorem binT (ha:PE X a ta) (hb:PE X b tb) {pins:List (Addr×Obj)} {s:Shared} {σ:St} {H:Hp} {R:V→V→Hp→Prop} (I:Inv X pins σ H s)
    (h:ta σ H fun x H1=>tb σ H1 fun y H2=>R x y H2) {Q:Value→Shared→Prop} {f:Value→Value→Sem Value}
    (hf:∀ v u s2 x y H2,Inv X pins σ H2 s2→RelV x v→RelV y u→R x y H2→wpAny (model X.prog X.w) X.A (f v u) Q X.xe s2) :
    wpAny (model X.prog X.w) X.A (eval a X.env) (fun v s₁=>wpAny (model X.prog X.w) X.A (eval b X.env) (fun u s₂=>wpAny (model X.prog X.w) X.A (f v u) Q X.xe s₂) X.xe s₁) X.xe s:=by
  refine thn (ha pins s σ H _ I h) fun v s1 ⟨x,H1,I1,r1,q1⟩=>?_
  refine thn (hb pins s1 σ H1 _ I1 q1) fun u s2 ⟨y,H2,I2,r2,q2⟩=>?_
  exact hf v u s2 x y H2 I2 r1 r2 q2
theorem pe_op {op:Operator} {r:R2} (ho:OpR X (binaryOp op) r) (ha:PE X a ta) (hb:PE X b tb):PE X (.BinOp a op b pos) (tOp r ta tb):=by
  intro pins s σ H Q I h
  exact wpAny_BinOp (binT ha hb I h fun v u s2 x y H2 I2 rx ry q=>ho pins s2 σ H2 x y v u Q I2 rx ry q)
theorem pe_un {op:UnaryOp} {r:V→Hp→VK→Prop} (ho:UnR X (unaryOp op) r) (ha:PE X a ta):PE X (.UnaryOp op a pos) (tUn r ta):=by
  intro pins s σ H Q I h
  exact UnaryOp_ (thn (ha pins s σ H _ I h) fun v s1 ⟨x,H1,I1,r1,q1⟩=>ho pins s1 σ H1 x v Q I1 r1 q1)
theorem opI {f:Value→Value→Sem Value} {C:Int→Int→Prop} {g:Int→Int→Int}
    (rule:∀ (i j:Int) (t u:Tok) (s:Shared) (Q:Value→Shared→Prop) (E:Value→Shared→Prop),C i j→Q (.int (g i j) s.toks) { s with toks:=s.toks + 1 }→wpAny (model X.prog X.w) X.A (f (.int i t) (.int j u)) Q E s) :
    OpR X f (rI C fun i j=>.int (g i j)):=by
  intro pins s σ H x y v u Q I rx ry h
  obtain ⟨i,j,rfl,rfl,hc,q⟩:=h
  obtain ⟨t,rfl⟩:=rx
  obtain ⟨t',rfl⟩:=ry
  exact rule i j t t' s _ _ hc ⟨.int (g i j),H,I.tok _,⟨_,rfl⟩,q⟩
theorem opI0 {f:Value→Value→Sem Value} {g:Int→Int→Int}
    (rule:∀ (i j:Int) (t u:Tok) (s:Shared) (Q:Value→Shared→Prop) (E:Value→Shared→Prop),Q (.int (g i j) s.toks) { s with toks:=s.toks + 1 }→wpAny (model X.prog X.w) X.A (f (.int i t) (.int j u)) Q E s) :
    OpR X f (rI0 fun i j=>.int (g i j)):=by
  intro pins s σ H x y v u Q I rx ry h
  obtain ⟨i,j,rfl,rfl,q⟩:=h
  obtain ⟨t,rfl⟩:=rx
  obtain ⟨t',rfl⟩:=ry
  exact rule i j t t' s _ _ ⟨.int (g i j),H,I.tok _,⟨_,rfl⟩,q⟩
theorem opB0 {f:Value→Value→Sem Value} {g:Int→Int→Bool}
    (rule:∀ (i j:Int) (t u:Tok) (s:Shared) (Q:Value→Shared→Prop) (E:Value→Shared→Prop),Q (.bool (g i j)) s→wpAny (model X.prog X.w) X.A (f (.int i t) (.int j u)) Q E s) :
    OpR X f (rI0 fun i j=>.bl (g i j)):=by
  intro pins s σ H x y v u Q I rx ry h
  obtain ⟨i,j,rfl,rfl,q⟩:=h
  obtain ⟨t,rfl⟩:=rx
  obtain ⟨t',rfl⟩:=ry
  exact rule i j t t' s _ _ ⟨.bl (g i j),H,I,rfl,q⟩
noncomputable def CDiv (i j:Int):Prop:=0 < j∧j < 1073741824
noncomputable def CPow (i j:Int):Prop:=0≤j∧j≤1000000∧i.natAbs < 2 ^ 64
noncomputable def CMul (i j:Int):Prop:=(-(2 ^ 64) < i∧i < 2 ^ 64)∨(-(2 ^ 64) < j∧j < 2 ^ 64)
theorem CMul.ok {i j:Int} (h:CMul i j):IntMulOk i j:=by
  rcases h with ⟨h1,h2⟩ | ⟨h1,h2⟩
  · exact .of_left (intBits_le_64 h1 h2)
  · exact .of_right (intBits_le_64 h1 h2)
theorem op_add:OpR X (binaryOp .Add) (rI0 fun i j=>.int (i + j)):=opI0 fun _ _ _ _ _ _ _ q=>add_int q
theorem op_sub:OpR X (binaryOp .Sub) (rI0 fun i j=>.int (i - j)):=opI0 fun _ _ _ _ _ _ _ q=>sub_int q
theorem op_mul:OpR X (binaryOp .Mult) (rI CMul fun i j=>.int (i * j)):=opI fun _ _ _ _ _ _ _ hc q=>mul_int q hc.ok
theorem op_fdiv:OpR X (binaryOp .FloorDiv) (rI CDiv fun i j=>.int (i / j)):=opI fun i j _ _ _ _ _ hc q=>by
  have h1:(0:Int) < j:=hc.1
  have h2:j < 1073741824:=hc.2
  exact floordiv_int (by omega) (by rw [Int.fdiv_eq_ediv_of_nonneg i (by omega)]; exact q) (.inl (PyProof.noPylong_small (by omega)))
theorem op_mod:OpR X (binaryOp .Mod) (rI (fun _ j=>0 < j) fun i j=>.int (i % j)):=opI fun i j _ _ _ _ _ hc q=>by
  have h1:(0:Int) < j:=hc
  exact mod_int' (by omega) (by rw [Int.fmod_eq_emod_of_nonneg i (by omega)]; exact q)
theorem op_pow:OpR X (binaryOp .Pow) (rI CPow fun i j=>.int (i ^ j.toNat)):=opI fun _ _ _ _ _ _ _ hc q=>pow_int_small hc.1 hc.2.1 hc.2.2 q
theorem unI {f:Value→Sem Value} {g:Int→Int}
    (rule:∀ (i:Int) (t:Tok) (s:Shared) (Q:Value→Shared→Prop) (E:Value→Shared→Prop),Q (.int (g i) s.toks) { s with toks:=s.toks + 1 }→wpAny (model X.prog X.w) X.A (f (.int i t)) Q E s) :
    UnR X f (rU fun i=>.int (g i)):=by
  intro pins s σ H x v Q I rx h
  obtain ⟨i,rfl,q⟩:=h
  obtain ⟨t,rfl⟩:=rx
  exact rule i t s _ _ ⟨.int (g i),H,I.tok _,⟨_,rfl⟩,q⟩
theorem un_neg:UnR X (unaryOp .USub) (rU fun i=>.int (-i)):=unI fun _ _ _ _ _ q=>neg_int q
end
noncomputable def scal:V→V→Bool
  | .non,.non=>true | .non,.int _=>true | .int _,.non=>true | .non,.bl _=>true | .bl _,.non=>true | .non,.str _=>true | .str _,.non=>true
  | .int _,.int _=>true | .bl _,.bl _=>true | .str _,.str _=>true | .byt _,.byt _=>true
  | .int _,.str _=>true | .str _,.int _=>true | .bl _,.str _=>true | .str _,.bl _=>true
  | _,_=>false
noncomputable def rEq:R2:=fun x y H Q=>scal x y=true∧Q (.bl (decide (x=y))) H
noncomputable def rNe:R2:=fun x y H Q=>scal x y=true∧Q (.bl (!decide (x=y))) H
theorem dec_int {i j:Int}:decide (V.int i=V.int j)=(i == j):=by
  rw [Bool.eq_iff_iff]
  simp
theorem dec_bl {i j:Bool}:decide (V.bl i=V.bl j)=(i == j):=by
  rw [Bool.eq_iff_iff]
  simp
theorem dec_str {i j:Str}:decide (V.str i=V.str j)=(i == j):=by
  rw [Bool.eq_iff_iff]
  simp
theorem dec_byt {i j:Array UInt8}:decide (V.byt i=V.byt j)=(i.toList == j.toList):=by
  rw [Bool.eq_iff_iff]
  cases i
  cases j
  simp
section
variable {X:Cx} {a b c:Expr} {ta tb tc:TE} {pos:Pos}
theorem fin_bl {pins:List (Addr×Obj)} {σ:St} {H:Hp} {s:Shared} {Q:VK} {k k':Bool} (I:Inv X pins σ H s) (q:Q (.bl k) H) (e:k=k'):EP X pins σ Q (.bool k') s:=by
  subst e
  exact ⟨.bl k,H,I,rfl,q⟩
theorem op_eq:OpR X (compareOp .Eq) rEq:=by
  intro pins s σ H x y v u Q I rx ry h
  obtain ⟨hs,q⟩:=h
  cases x with
  | non =>
    cases rx
    cases y with
    | non=>cases ry; exact PySem.EqNone.eq_none_none (fin_bl I q (by simp))
    | bl j=>cases ry; exact PySem.EqNone.eq_none_bool (fin_bl I q (by simp))
    | int j=>obtain ⟨t',rfl⟩:=ry; exact PySem.EqNone.eq_none_int (fin_bl I q (by simp))
    | str j=>obtain ⟨t',rfl⟩:=ry; exact PySem.EqNone.eq_none_str (fin_bl I q (by simp))
    | _=>exact absurd (show false=true from hs) Bool.false_ne_true
  | bl i =>
    cases rx
    cases y with
    | non=>cases ry; exact PySem.EqNone.eq_bool_none (fin_bl I q (by simp))
    | bl j=>cases ry; exact eq_bool (fin_bl I q dec_bl)
    | str j=>obtain ⟨t',rfl⟩:=ry; exact PySem.EqMixed.eq_bool_str (fin_bl I q (by simp))
    | _=>exact absurd (show false=true from hs) Bool.false_ne_true
  | int i =>
    obtain ⟨t,rfl⟩:=rx
    cases y with
    | non=>cases ry; exact PySem.EqNone.eq_int_none (fin_bl I q (by simp))
    | int j=>obtain ⟨t',rfl⟩:=ry; exact eq_int (fin_bl I q dec_int)
    | str j=>obtain ⟨t',rfl⟩:=ry; exact PySem.EqMixed.eq_int_str (fin_bl I q (by simp))
    | _=>exact absurd (show false=true from hs) Bool.false_ne_true
  | str i =>
    obtain ⟨t,rfl⟩:=rx
    cases y with
    | non=>cases ry; exact PySem.EqNone.eq_str_none (fin_bl I q (by simp))
    | bl j=>cases ry; exact PySem.EqMixed.eq_str_bool (fin_bl I q (by simp))
    | int j=>obtain ⟨t',rfl⟩:=ry; exact PySem.EqMixed.eq_str_int (fin_bl I q (by simp))
    | str j=>obtain ⟨t',rfl⟩:=ry; exact eq_str (fin_bl I q dec_str)
    | _=>exact absurd (show false=true from hs) Bool.false_ne_true
  | byt i =>
    obtain ⟨t,rfl⟩:=rx
    cases y with
    | byt j=>obtain ⟨t',rfl⟩:=ry; exact PySem.W.eq_bytes (fin_bl I q dec_byt)
    | _=>exact absurd (show false=true from hs) Bool.false_ne_true
  | _=>cases y <;> exact absurd (show false=true from hs) Bool.false_ne_true
theorem op_ne:OpR X (compareOp .NotEq) rNe:=by
  intro pins s σ H x y v u Q I rx ry h
  obtain ⟨hs,q⟩:=h
  cases x with
  | non =>
    cases rx
    cases y with
    | non=>cases ry; exact PySem.EqNone.ne_none_none (fin_bl I q (by simp))
    | bl j=>cases ry; exact PySem.EqNone.ne_none_bool (fin_bl I q (by simp))
    | int j=>obtain ⟨t',rfl⟩:=ry; exact PySem.EqNone.ne_none_int (fin_bl I q (by simp))
    | str j=>obtain ⟨t',rfl⟩:=ry; exact PySem.EqNone.ne_none_str (fin_bl I q (by simp))
    | _=>exact absurd (show false=true from hs) Bool.false_ne_true
  | bl i =>
    cases rx
    cases y with
    | non=>cases ry; exact PySem.EqNone.ne_bool_none (fin_bl I q (by simp))
    | bl j=>cases ry; exact ne_bool (fin_bl I q (congrArg not dec_bl))
    | str j=>obtain ⟨t',rfl⟩:=ry; exact PySem.EqMixed.ne_bool_str (fin_bl I q (by simp))
    | _=>exact absurd (show false=true from hs) Bool.false_ne_true
  | int i =>
    obtain ⟨t,rfl⟩:=rx
    cases y with
    | non=>cases ry; exact PySem.EqNone.ne_int_none (fin_bl I q (by simp))
    | int j=>obtain ⟨t',rfl⟩:=ry; exact ne_int (fin_bl I q (congrArg not dec_int))
    | str j=>obtain ⟨t',rfl⟩:=ry; exact PySem.EqMixed.ne_int_str (fin_bl I q (by simp))
    | _=>exact absurd (show false=true from hs) Bool.false_ne_true
  | str i =>
    obtain ⟨t,rfl⟩:=rx
    cases y with
    | non=>cases ry; exact PySem.EqNone.ne_str_none (fin_bl I q (by simp))
    | bl j=>cases ry; exact PySem.EqMixed.ne_str_bool (fin_bl I q (by simp))
    | int j=>obtain ⟨t',rfl⟩:=ry; exact PySem.EqMixed.ne_str_int (fin_bl I q (by simp))
    | str j=>obtain ⟨t',rfl⟩:=ry; exact ne_str (fin_bl I q (congrArg not dec_str))
    | _=>exact absurd (show false=true from hs) Bool.false_ne_true
  | byt i =>
    obtain ⟨t,rfl⟩:=rx
    cases y with
    | byt j=>obtain ⟨t',rfl⟩:=ry; exact PySem.W.ne_bytes (fin_bl I q (congrArg not dec_byt))
    | _=>exact absurd (show false=true from hs) Bool.false_ne_true
  | _=>cases y <;> exact absurd (show false=true from hs) Bool.false_ne_true
theorem op_lt:OpR X (compareOp .Lt) (rI0 fun i j=>.bl (decide (i < j))):=opB0 fun _ _ _ _ _ _ _ q=>lt_int q
theorem op_le:OpR X (compareOp .LtE) (rI0 fun i j=>.bl (decide (i≤j))):=opB0 fun _ _ _ _ _ _ _ q=>le_int q
theorem op_ge:OpR X (compareOp .GtE) (rI0 fun i j=>.bl (decide (j≤i))):=opB0 fun _ _ _ _ _ _ _ q=>ge_int q
theorem nomark (b:Expr) {op:CmpOp} (h:op≠.In:=by decide) (h2:op≠.NotIn:=by decide):behindInMarks op b=false:=by
  have e1:(op == CmpOp.In)=false:=by cases op <;> first | rfl | exact absurd rfl h
  have e2:(op == CmpOp.NotIn)=false:=by cases op <;> first | rfl | exact absurd rfl h2
  cases b <;> simp [behindInMarks,e1,e2]
theorem pe_cmpR {op:CmpOp} {r:R2} (ho:OpR X (compareOp op) r) (ha:PE X a ta) (hb:PE X b tb) (hm:behindInMarks op b=false):PE X (.Compare a [op] [b] pos) (tOp r ta tb):=by
  intro pins s σ H Q I h
  exact wpAny_Compare1 (binT ha hb I h fun v u s2 x y H2 I2 rx ry q=>ho pins s2 σ H2 x y v u Q I2 rx ry q) hm
noncomputable def tTest (t:TE):TT:=fun σ H Q=>t σ H fun x H'=>∃ k,x=.bl k∧Q k H'
theorem pt_cmpR {op:CmpOp} {r:R2} (ho:OpR X (compareOp op) r) (ha:PE X a ta) (hb:PE X b tb) (hm:behindInMarks op b=false):PT X (.Compare a [op] [b] pos) (tTest (tOp r ta tb)):=by
  intro pins s σ H Q I h
  refine wpAny_isTrue_Compare1 (thn (ha pins s σ H _ I h) fun v s1 ⟨x,H1,I1,r1,q1⟩=>thn (hb pins s1 σ H1 _ I1 q1) fun u s2 ⟨y,H2,I2,r2,q2⟩ =>
    thn (ho pins s2 σ H2 x y v u _ I2 r1 r2 q2) fun c s3 ⟨z,H3,I3,r3,k,e,q3⟩=>?_) hm
  subst e
  cases r3
  exact wpAny_truthy_bool ⟨H3,I3,q3⟩
noncomputable def tChain (r r':R2) (ta tb tc:TE):TE:=fun σ H Q=>ta σ H fun x H1=>tb σ H1 fun y H2=>r x y H2 fun z H3=>∃ k,z=.bl k ∧
  (if k=true then tc σ H3 fun w' H4=>r' y w' H4 Q else Q (.bl false) H3)
theorem pe_chain {op op':CmpOp} {r r':R2} (ho:OpR X (compareOp op) r) (ho':OpR X (compareOp op') r') (ha:PE X a ta) (hb:PE X b tb) (hc:PE X c tc)
    (hm:lastMarks [op,op'] [b,c]=false:=by with_unfolding_all rfl):PE X (.Compare a [op,op'] [b,c] pos) (tChain r r' ta tb tc):=by
  intro pins s σ H Q I h
  refine Compare_chain (thn (ha pins s σ H _ I h) fun v s1 ⟨x,H1,I1,r1,q1⟩=>chain_link (thn (hb pins s1 σ H1 _ I1 q1) fun u s2 ⟨y,H2,I2,r2,q2⟩ =>
    thn (ho pins s2 σ H2 x y v u _ I2 r1 r2 q2) fun d s3 ⟨z,H3,I3,r3,k,e,q3⟩=>?_)) hm
  subst e
  cases r3
  refine wpAny_truthy_bool ?_
  cases k with
  | false=>exact ite_ff ⟨.bl false,H3,I3,rfl,q3⟩
  | true=>exact ite_tt (chain_last (thn (hc pins s3 σ H3 _ I3 q3) fun w' s4 ⟨z',H4,I4,r4,q4⟩=>ho' pins s4 σ H4 y z' u w' Q I4 r2 r4 q4))
theorem line63:(sizeLine:Nat) < 2 ^ 63:=by rw [sizeLine_eq]; decide
theorem op_add_str:OpR X (binaryOp .Add) (fun x y H Q=>∃ i j,x=.str i∧y=.str j∧i.length + j.length≤sizeLine∧Q (.str (i ++ j)) H):=by
  intro pins s σ H x y v u Q I rx ry h
  obtain ⟨i,j,rfl,rfl,hz,q⟩:=h
  obtain ⟨t,rfl⟩:=rx
  obtain ⟨t',rfl⟩:=ry
  exact add_str (fun t' tk=>⟨.str (i ++ j),H,I.tok _,⟨_,rfl⟩,q⟩) hz
theorem vals1 {x:V} {us:List Value} (r:Vals [x] us):∃ u,us=[u]∧RelV x u:=by
  cases r with
  | cons r1 r2=>cases r2; exact ⟨_,rfl,r1⟩
theorem vals2 {x y:V} {us:List Value} (r:Vals [x,y] us):∃ u w',us=[u,w']∧RelV x u∧RelV y w':=by
  cases r with
  | cons r1 r2 =>
    cases r2 with
    | cons r3 r4=>cases r4; exact ⟨_,_,rfl,r1,r3⟩
theorem call_max2 (hc:X.calm=true):CallR X (.builtin "max") (fun xs H Q=>∃ i j,xs=[.int i,.int j]∧Q (.int (if j > i then j else i)) H):=by
  intro pins s σ H xs us Q I r h
  obtain ⟨i,j,rfl,q⟩:=h
  obtain ⟨u,w',rfl,⟨t,rfl⟩,⟨t',rfl⟩⟩:=vals2 r
  refine max_two_ints (I.ok.hd hc) fun h' tk k=>⟨_,H,I.kept k,?_,q⟩
  by_cases hj:j > i
  · rw [if_pos hj,if_pos hj]; exact ⟨_,rfl⟩
  · rw [if_neg hj,if_neg hj]; exact ⟨_,rfl⟩
theorem call_min2 (hc:X.calm=true):CallR X (.builtin "min") (fun xs H Q=>∃ i j,xs=[.int i,.int j]∧Q (.int (if j < i then j else i)) H):=by
  intro pins s σ H xs us Q I r h
  obtain ⟨i,j,rfl,q⟩:=h
  obtain ⟨u,w',rfl,⟨t,rfl⟩,⟨t',rfl⟩⟩:=vals2 r
  refine min_two_ints (I.ok.hd hc) fun h' tk k=>⟨_,H,I.kept k,?_,q⟩
  by_cases hj:j < i
  · rw [if_pos hj,if_pos hj]; exact ⟨_,rfl⟩
  · rw [if_neg hj,if_neg hj]; exact ⟨_,rfl⟩
theorem call_int1:CallR X (.type "int") (fun xs H Q=>(∃ i,xs=[.int i]∧Q (.int i) H)∨∃ k,xs=[.bl k]∧Q (.int (if k then 1 else 0)) H):=by
  intro pins s σ H xs us Q I r h
  rcases h with ⟨i,rfl,q⟩ | ⟨k,rfl,q⟩
  · obtain ⟨u,rfl,t,rfl⟩:=vals1 r
    exact call_int_int ⟨.int i,H,I,⟨_,rfl⟩,q⟩
  · obtain ⟨u,rfl,r1⟩:=vals1 r
    cases r1
    exact call_int_bool ⟨.int (if k then 1 else 0),H,I.tok _,⟨_,rfl⟩,q⟩
end
end L2
namespace L2
open PySem PySem.Spec PyProof.Rows
structure ObjM (h:Heap) (x dx C:Addr) (mA:Str→Option Value):Prop where
  obj:h.get? x=some (PySem.W.instObj C dx)
  ns:h.Ns1 dx mA
  ne:dx≠x
theorem lookIn_ns {h:Heap} {dx:Addr} {mA:Str→Option Value} (n:h.Ns1 dx mA):∃ od,h.get? dx=some od∧∀ name,PySem.W.lookIn name od=some (mA name):=by
  obtain ⟨o,es,ep,ho,hd,hk,_,hm⟩:=n
  refine ⟨o,ho,fun name=>?_⟩
  have e:=hm name
  unfold nsFind findBy at e
  rw [← Array.find?_toList] at e
  unfold PySem.W.lookIn
  rw [hd]
  dsimp only
  split
  · rename_i y q
    rw [q] at e
    exact congrArg some e
  · rename_i q
    rw [q] at e
    have a:es.toList.any (·.refKey)=false:=by
      rw [List.any_eq_false]
      intro y hy
      obtain ⟨z,t,hkey⟩:=hk y (Array.mem_toList_iff.mp hy)
      simp [DictEntry.refKey,hkey]
    have a':¬ es.toList.any (·.refKey)=true:=by rw [a]; exact Bool.false_ne_true
    rw [if_neg a']
    exact congrArg some e
theorem ObjM.look {h:Heap} {x dx C:Addr} {mA:Str→Option Value} (I:ObjM h x dx C mA):∃ od,PySem.W.InstAt h x (PySem.W.instObj C dx) C (some od)∧∀ name,PySem.W.lookIn name od=some (mA name) :=
  let ⟨od,ho,hl⟩:=lookIn_ns I.ns
  ⟨od,⟨I.obj,rfl,rfl,ho⟩,hl⟩
section
variable {prog:Program} {w:World} {A:Around} {E:Value→Shared→Prop} {s:Shared} {K:PySem.W.Frag} {x dx C f:Addr} {mA:Str→Option Value} {name:Str} {v:Value}
end
section
variable {P:Program} {w:World} {H H':Hp} {h h':Heap} {a C dx:Addr} {fs fs':List (Str×V)}
theorem ins_get (hok:HOk P w H h) (e:H a=some (.ins C dx fs)):∃ mA,ObjM h a dx C mA∧(∀ f,RelO (fs.lookup f) (mA f))∧PySem.Within mA (fs.map (·.1))∧fs.length≤1000∧H dx=some (.own a):=by
  obtain ⟨d,z,ne,ob,mA,n,r,q⟩:=(show ObjOk P w H h a (.ins C dx fs) from hok a _ e)
  exact ⟨mA,⟨ob,n,ne⟩,r,q,z,d⟩
end
structure Cls (K:PySem.W.Frag) (C:Addr):Prop where
  pg:PySem.W.plainGet K C Str.empty=true
  hd:PySem.W.hasDictIn K C=true
  po:PySem.W.plainOver K C=true
  sa:PySem.W.findIn K (.ref C) "__setattr__"=some (some (.builtin "object.__setattr__"))
theorem Cls.get {K:PySem.W.Frag} {C:Addr} (c:Cls K C) (f:Str):PySem.W.plainGet K C f=true:=c.pg
section
variable {X:Cx} {pins:List (Addr×Obj)} {σ:St} {H:Hp} {s:Shared} {a C dx:Addr} {fs:List (Str×V)} {f:Str} {v:V} {A:Around} {E:Value→Shared→Prop}
end
section
variable {X:Cx} {o e value:Expr} {f:Str} {pos pos' tpos:Pos} {ta tv:TE}
end
section
variable {X:Cx} {pins:List (Addr×Obj)} {σ:St} {H:Hp} {s:Shared} {A:Around} {E:Value→Shared→Prop} {Q:Value→Shared→Prop} {c:Value} {b:Bool}
inductive TyOf (K:PySem.W.Frag) (H:Hp):V→Value→Prop where
  | non:TyOf K H .non (.type "NoneType")
  | bl (x:Bool):TyOf K H (.bl x) (.type "bool")
  | int (i:Int):TyOf K H (.int i) (.type "int")
  | str (x:Str):TyOf K H (.str x) (.type "str")
  | flt (x:UInt64):TyOf K H (.flt x) (.type "float")
  | lst {a:Addr} {xs:List V} (e:H a=some (.lst xs)):TyOf K H (.ref a) (.type "list")
  | frz {a:Addr} {o:Obj} {xs:List V} (e:H a=some (.frz o (.lst xs))):TyOf K H (.ref a) (.type "list")
  | tup {a:Addr} {xs:List V} (e:H a=some (.tup xs)):TyOf K H (.ref a) (.type "tuple")
  | dK {a:Addr} {kvs:List (Key×V)} (e:H a=some (.dK kvs)):TyOf K H (.ref a) (.type "dict")
  | dT {a:Addr} {kvs:List (List Key×V)} (e:H a=some (.dT kvs)):TyOf K H (.ref a) (.type "dict")
  | ins {a C dx:Addr} {fs:List (Str×V)} (e:H a=some (.ins C dx fs)) (cl:Cls K C) (ha:PySem.W.findIn K (.ref C) "__class__"=some (some (.builtin "object.__class__")))
      (hn:PySem.W.specialIn K (.builtin "object.__class__") "__get__"=some (some (.builtin "getset_descriptor.__get__"))) (htk:PySem.W.takesIn K (.builtin "object.__class__")=some true)
      (hm:PySem.W.mroIn K C (.type "object")=some true):TyOf K H (.ref a) (.ref C)
theorem isinst_ok {x:V} {u t:Value} (I:Inv X pins σ H s) (rx:RelV x u) (ty:TyOf X.K H x t) (e:PySem.W.kitOne X.K t c=some b) (h:∀ tk,Q (.bool b) { s with toks:=tk }) :
    wpAny (model X.prog X.w) A (call (.builtin "isinstance") [u,c]) Q E s:=by
  cases ty with
  | non=>cases (show u=Value.none from rx); exact PySem.W.kia_one PySem.W.kitx_none I.kIn True.intro e (fun z=>nomatch z) h
  | bl y=>cases (show u=Value.bool y from rx); exact PySem.W.kia_one PySem.W.kitx_bool I.kIn True.intro e (fun z=>nomatch z) h
  | int i=>obtain ⟨t,q⟩:=(show ∃ t,u=Value.int i t from rx); cases q; exact PySem.W.kia_one PySem.W.kitx_int I.kIn True.intro e (fun z=>nomatch z) h
  | str y=>obtain ⟨t,q⟩:=(show ∃ t,u=Value.str y t from rx); cases q; exact PySem.W.kia_one PySem.W.kitx_str I.kIn True.intro e (fun z=>nomatch z) h
  | flt y=>obtain ⟨t,q⟩:=(show ∃ t,u=Value.float y t from rx); cases q; exact PySem.W.kia_one PySem.W.kitx_float I.kIn True.intro e (fun z=>nomatch z) h
  | @lst a xs ea =>
    cases (show u=Value.ref a from rx)
    obtain ⟨_,_,n,_,h1⟩:=(show ObjOk X.prog X.w H s.heap a (.lst xs) from I.hok a _ ea)
    exact PySem.W.kia_one PySem.W.kitx_list I.kIn ⟨_,h1,rfl⟩ e (fun z=>nomatch z) h
  | @frz a ob xs ea =>
    cases (show u=Value.ref a from rx)
    obtain ⟨_,_,_,n,_,h1⟩:=(show ObjOk X.prog X.w H s.heap a (.frz ob (.lst xs)) from I.hok a _ ea)
    exact PySem.W.kia_one PySem.W.kitx_list I.kIn ⟨_,h1,rfl⟩ e (fun z=>nomatch z) h
  | @tup a xs ea =>
    cases (show u=Value.ref a from rx)
    obtain ⟨_,_,_,p⟩:=(show ObjOk X.prog X.w H s.heap a (.tup xs) from I.hok a _ ea)
    obtain ⟨o,h1,h2,_⟩:=p
    exact PySem.W.kia_one PySem.W.kitx_tuple I.kIn ⟨o,h1,h2⟩ e (fun z=>nomatch z) h
  | @dK a kvs ea =>
    cases (show u=Value.ref a from rx)
    obtain ⟨_,_,vs,_,p⟩:=(show ObjOk X.prog X.w H s.heap a (.dK kvs) from I.hok a _ ea)
    obtain ⟨o,es,ep,h1,h2,_⟩:=p
    exact PySem.W.kia_one PySem.W.kitx_dict I.kIn ⟨o,h1,h2.1⟩ e (fun z=>nomatch z) h
  | @dT a kvs ea =>
    cases (show u=Value.ref a from rx)
    obtain ⟨_,_,xs,_,o,es,ep,h1,h2,_⟩:=(show ObjOk X.prog X.w H s.heap a (.dT kvs) from I.hok a _ ea)
    exact PySem.W.kia_one PySem.W.kitx_dict I.kIn ⟨o,h1,h2.1⟩ e (fun z=>nomatch z) h
  | @ins a C dx fs ea cl ha hn htk hm =>
    cases (show u=Value.ref a from rx)
    obtain ⟨mA,O,_⟩:=ins_get I.hok ea
    obtain ⟨od,J,_⟩:=O.look
    exact PySem.W.kia_one (PySem.W.kitx_own (cl.get _) cl.hd ha hn htk hm) I.kIn J e (fun z=>nomatch z) h
end
end L2
namespace L2
open PySem PySem.Spec PyProof.Rows
structure Room (k:Nat) (A:Around):Prop where
  hd:A.handled=none
  dp:A.depth + 3 * k + 5 < recursionLimit
  un:A.units + 16 * k + 200 < cLine
theorem Room.mono {j k:Nat} {A:Around} (r:Room k A) (h:j≤k):Room j A:=⟨r.hd,by have:=r.dp; omega,by have:=r.un; omega⟩
theorem Room.deeper {k:Nat} {A:Around} (r:Room (k + 1) A) (env:Env):Room k (A.deeper env) :=
  ⟨r.hd,by have:=r.dp; show A.depth + 1 + 3 * k + 5 < _; omega,by have:=r.un; show A.units + 3 + 16 * k + 200 < _; omega⟩
theorem Room.depth {k:Nat} {A:Around} (r:Room k A):A.depth < recursionLimit:=by have:=r.dp; omega
noncomputable def tNil:TA:=fun _ H Q=>Q [] H
noncomputable def tCons (ta:TE) (tr:TA):TA:=fun σ H Q=>ta σ H fun x H1=>tr σ H1 fun xs H2=>Q (x :: xs) H2
section
variable {X:Cx} {e:Expr} {es:List Expr} {te:TE} {t:TA} {pos:Pos}
theorem pa_nil:PA X [] tNil:=fun _ _ _ _ H Q I h=>Calls.spliced_nil ⟨[],H,I,.nil,h⟩
theorem pa_cons (ha:PE X e te) (hr:PA X es t) (hs:starEach (e :: es) X.env=(false,eval e X.env) :: starEach es X.env:=by rfl):PA X (e :: es) (tCons te t):=by
  intro pos pins s σ H Q I h
  rw [hs]
  show wpAny _ _ (spliced ((false,eval e X.env) :: backTo pos (starEach es X.env))) _ _ s
  refine Calls.spliced_cons (thn (ha pins s σ H _ I h) fun u s1 ⟨x,H1,I1,r1,q1⟩=>?_)
  exact thn (hr pos pins s1 σ H1 _ I1 q1) fun us s2 ⟨xs,H2,I2,r2,q2⟩=>⟨x :: xs,H2,I2,.cons r1 r2,q2⟩
noncomputable def tTup (t:TA):TE:=fun σ H Q=>t σ H fun xs H1=>xs.length≤sizeLine∧∀ p,H1 p=none→Q (.ref p) (upd H1 p (.tup xs))
noncomputable def tLst (t:TA):TE:=fun σ H Q=>t σ H fun xs H1=>xs.length≤sizeLine∧∀ p,H1 p=none→Q (.ref p) (upd H1 p (.lst xs))
theorem pe_tup {x1} (h:PA X es t):PE X (.Tuple es x1 pos) (tTup t):=by
  intro pins s σ H Q I hq
  refine wpAny_Tuple_spliced (thn (h pos pins s σ H _ I hq) fun us s1 ⟨xs,H1,I1,r,z,q⟩=>⟨by rw [← r.length]; exact z,?_⟩)
  have hf:H1 s1.heap.objs.size=none:=I1.hok.fresh (Nat.le_refl _)
  refine ⟨.ref s1.heap.objs.size,upd H1 s1.heap.objs.size (.tup xs),I1.laid (t':=s1.toks) (fun b u e=>Heap.get?_push_of_some _ e) (Nat.le_refl _) ?_,rfl,q _ hf⟩
  exact ⟨z,us,r,⟨_,Heap.get?_push_size _ rfl,rfl,⟨_,rfl⟩,rfl⟩⟩
theorem pe_lst (h:PA X es t):PE X (.List es pos) (tLst t):=by
  intro pins s σ H Q I hq
  refine wpAny_List_spliced (thn (h pos pins s σ H _ I hq) fun us s1 ⟨xs,H1,I1,r,z,q⟩=>⟨by rw [← r.length]; exact z,?_⟩)
  have hf:H1 s1.heap.objs.size=none:=I1.hok.fresh (Nat.le_refl _)
  refine ⟨.ref s1.heap.objs.size,upd H1 s1.heap.objs.size (.lst xs),I1.laid (t':=s1.toks) (fun b u e=>Heap.get?_push_of_some _ e) (Nat.le_refl _) ?_,rfl,q _ hf⟩
  exact ⟨z,us,0,r,Heap.get?_push_size _ rfl⟩
end
noncomputable abbrev Sp:=List V→Hp→VK→XK→Prop
noncomputable abbrev CXT:=List Env→Hp→Shared→XK→Value→Shared→Prop
structure Env0 (P:Program) (w:World) (K:PySem.W.Frag) (mg:Str→Option Value) (base:Heap) (A:Around) (outer:List Env) (s:Shared) (H:Hp):Prop where
  frames:A.frames=some outer
  mod:Mod K mg base
  bs:∀ b o,base.get? b=some o→s.heap.get? b=some o∧H b=none
  bsz:base.objs.size≤s.heap.objs.size
  funs:s.heap.FunFrames base outer
  frf:∀ b∈frs outer,H b=none
  hok:HOk P w H s.heap
  bare:AllBare s.gens
noncomputable def CE (outer:List Env) (P:Program) (w:World) (H:Hp) (s:Shared) (Q:VK) (u:Value) (s':Shared):Prop :=
  ∃ v H',s'.os=s.os∧AllBare s'.gens∧Un (frs outer) [] H H' s.heap s'.heap∧HOk P w H' s'.heap∧RelV v u∧Q v H'
noncomputable def CR (CX:CXT) (outer:List Env) (P:Program) (w:World) (H:Hp) (s:Shared) (Q:VK) (E:XK) (r:Result) (s':Shared):Prop :=
  match r with
  | .ok (.ret u)=>CE outer P w H s Q u s'
  | .ok _=>False
  | .error e=>CX outer H s E e s'
structure FnOk (P:Program) (w:World) (K:PySem.W.Frag) (mg:Str→Option Value) (base:Heap) (CX:CXT) (k:Nat) (f:Addr) (fd:FuncData) (ps:List Str) (sp:Sp):Prop where
  len:∀ vs H Q E,sp vs H Q E→vs.length=ps.length
  run:∀ (A:Around) (outer:List Env) (s:Shared) (H:Hp) (args:Args) (us:List Value) (vs:List V) (Q:VK) (E:XK),Room k A→Env0 P w K mg base A outer s H→BindsTo s fd args (ps.zip us)→Vals vs us→sp vs H Q E →
    codeAny (model P w) A (.call (.ref f) args) (CR CX outer P w H s Q E) s
section
variable {X:Cx} {pins:List (Addr×Obj)} {σ:St} {H:Hp} {s s':Shared}
theorem Inv.env0 (I:Inv X pins σ H s):Env0 X.prog X.w X.K X.mg X.base X.A X.stack s H :=
  ⟨I.ok.frames,I.ok.mod,I.bs,Nat.le_trans I.ok.bsz I.sz,I.stack,I.stkFree,I.hok,I.bare⟩
theorem Inv.after {Q:VK} {u:Value} (I:Inv X pins σ H s) (h:CE X.stack X.prog X.w H s Q u s'):EP X pins σ Q u s':=by
  obtain ⟨v,H',os,bare,un,hok,r,q⟩:=h
  obtain ⟨hh,g,d,t,os'⟩:=s'
  obtain rfl:os'=s.os:=os
  exact ⟨v,H',I.call (h':=hh) (g':=g) (d':=d) (t':=t) (ch:=[]) un hok bare (fun b z=>absurd z (by simp)),r,q⟩
end
noncomputable def tCall (sp:Sp) (dvs:List V) (E:XK) (t:TA):TE:=fun σ H Q=>t σ H fun vs H1=>sp (vs ++ dvs) H1 Q E
noncomputable def Binds (K:PySem.W.Frag) (fd:FuncData) (ps:List Str) (ds:List Value):Prop :=
  ∀ (s:Shared) (us:List Value),K.In s.heap→(us ++ ds).length=ps.length→BindsTo s fd ⟨us,[]⟩ (ps.zip (us ++ ds))
theorem Binds.all {K:PySem.W.Frag} {fd:FuncData} {ps:List Str} (h:∀ us:List Value,us.length=ps.length→bindArgs fd ⟨us,[]⟩=pure (ps.zip us)):Binds K fd ps []:=fun s us _ hl=>by
  rw [List.append_nil] at hl ⊢
  exact .of_eq (h us hl)
noncomputable def Passes (CX:CXT) (X:Cx) (E:XK):Prop:=∀ (pins:List (Addr×Obj)) (σ:St) (H:Hp) (s:Shared) (e:Value) (s':Shared),Inv X pins σ H s→CX X.stack H s E e s'→X.xe e s'
section
variable {X:Cx} {CX:CXT} {k:Nat} {f C:Addr} {fd:FuncData} {ps:List Str} {sp:Sp} {dvs:List V} {ds:List Value} {E:XK} {x m:Str} {p pos apos:Pos} {e o:Expr} {es:List Expr} {ta:TE} {t:TA}
theorem run_fn {pins:List (Addr×Obj)} {σ:St} {H:Hp} {s:Shared} {Q:VK} {us:List Value} {vs:List V} (F:FnOk X.prog X.w X.K X.mg X.base CX k f fd ps sp) (hr:Room k X.A) (hb:Binds X.K fd ps ds) (hd:Vals dvs ds) (hx:Passes CX X E)
    (I:Inv X pins σ H s) (r:Vals vs us) (h:sp (vs ++ dvs) H Q E):wpAny (model X.prog X.w) X.A (call (.ref f) us) (EP X pins σ Q) X.xe s:=by
  have r2:Vals (vs ++ dvs) (us ++ ds):=r.append hd
  have hl:(us ++ ds).length=ps.length:=by rw [← r2.length]; exact F.len _ _ _ _ h
  refine wpAny_call (codeAny_mono (F.run X.A X.stack s H ⟨us,[]⟩ (us ++ ds) (vs ++ dvs) Q E hr I.env0 (hb s us I.kIn hl) r2 h) fun r s' hq=>?_)
  cases r with
  | error e=>exact hx pins σ H s e s' I hq
  | ok fl =>
    cases fl with
    | ret u=>exact I.after hq
    | next=>exact False.elim hq
    | brk=>exact False.elim hq
    | cont=>exact False.elim hq
theorem pe_call (F:FnOk X.prog X.w X.K X.mg X.base CX k f fd ps sp) (hr:Room k X.A) (hg:Gl X x) (hm:X.mg x=some (.ref f)) (hk:PySem.W.keepIn X.K (.ref f)=true) (hb:Binds X.K fd ps ds) (hd:Vals dvs ds) (hx:Passes CX X E)
    (ha:PA X (e :: es) t) (hdb:(x == ("__debug__":Str))=false:=by decide) (he:starEach (e :: es) X.env=(false,eval e X.env) :: starEach es X.env:=by rfl) (hpl:(backTo pos (starEach es X.env)).any (·.1)=false:=by rfl) :
    PE X (.Call (.Name x p) (e :: es) [] pos) (tCall sp dvs E t):=by
  intro pins s σ H Q I h
  refine wpAny_Call_Name_kw (ld_glob I hg hm ?_ hdb)
  refine PySem.W.callWith_K (h₀:=X.base) I.ok.mod.kin hk (thn (ha pos pins s σ H _ I h) fun us s1 ⟨vs,H1,I1,r,q⟩=>⟨I1.kIn,?_⟩) he hpl
  exact run_fn F hr hb hd hx I1 r q
theorem pe_call0 (F:FnOk X.prog X.w X.K X.mg X.base CX k f fd ps sp) (hr:Room k X.A) (hg:Gl X x) (hm:X.mg x=some (.ref f)) (hk:PySem.W.keepIn X.K (.ref f)=true) (hb:Binds X.K fd ps ds) (hd:Vals dvs ds) (hx:Passes CX X E)
    (hdb:(x == ("__debug__":Str))=false:=by decide):PE X (.Call (.Name x p) [] [] pos) (tCall sp dvs E tNil):=by
  intro pins s σ H Q I h
  refine wpAny_Call_Name_kw (ld_glob I hg hm ?_ hdb)
  exact PySem.W.callWith_K0 I.kIn hk (run_fn (us:=[]) F hr hb hd hx I .nil h)
end
section
variable {X:Cx} {CX:CXT} {k:Nat} {f C:Addr} {fd:FuncData} {ps ks:List Str} {sp:Sp} {E:XK} {x m:Str} {p pos apos kpos:Pos} {e o:Expr} {es:List Expr} {kws:List Keyword} {te ta:TE} {t tk:TA} {nm:Option Str}
variable {g:List Value→List Value→List Value} {gV:List V→List V→List V}
end
structure FnScope (N P:List Str) (sc:Scope):Prop where
  kind:sc.kind=.function
  co:sc.isCoroutine=false
  gen:sc.isGenerator=false
  nd:N.Nodup
  pre:N.take P.length=P
  par:∀ x∈P,sc.names.lookup x=some .local∨sc.names.lookup x=some .cell
  nofree:∀ y∈sc.names,y.2≠.free
theorem bindL_out {kindOf:Str→Option NameKind} {x:Str}:∀ {binds:List (Str×Value)} {m:Str→Option Value},(∀ v,(x,v)∉binds)→bindL kindOf binds m x=m x
  | [],_,_=>rfl
  | (n,v) :: r,m,h=>by
    unfold bindL
    rw [bindL_out fun w hw=>h w (List.mem_cons_of_mem _ hw)]
    split
    · have:x≠n:=by rintro rfl; exact h v List.mem_cons_self
      simp [this]
    · rfl
theorem bindC_out {kindOf:Str→Option NameKind} {x:Str}:∀ {binds:List (Str×Value)} {m:Str→Option Value},(∀ v,(x,v)∉binds)→bindC kindOf binds m x=m x
  | [],_,_=>rfl
  | (n,v) :: r,m,h=>by
    unfold bindC
    rw [bindC_out fun w hw=>h w (List.mem_cons_of_mem _ hw)]
    split
    · rfl
    · have:x≠n:=by rintro rfl; exact h v List.mem_cons_self
      simp [this]
theorem bindL_get {kindOf:Str→Option NameKind} {x:Str} {v:Value}:∀ {P:List Str} {vs:List Value} {i:Nat} {m:Str→Option Value},P.Nodup→P[i]? = some x→vs[i]? = some v→kindOf x=some .local →
    bindL kindOf (P.zip vs) m x=some v
  | [],_,_,_,_,h,_,_=>by simp at h
  | _ :: _,[],_,_,_,_,h,_=>by simp at h
  | p :: P,w :: vs,0,m,nd,h1,h2,hk=>by
    simp at h1 h2; subst h1; subst h2
    show bindL kindOf ((p,w) :: P.zip vs) m p=_
    unfold bindL
    rw [bindL_out fun v hv=>(List.nodup_cons.mp nd).1 (List.of_mem_zip hv).1,if_pos hk]
    simp
  | p :: P,w :: vs,i + 1,m,nd,h1,h2,hk=>by
    show bindL kindOf ((p,w) :: P.zip vs) m x=_
    unfold bindL
    exact bindL_get (i:=i) (List.nodup_cons.mp nd).2 (by simpa using h1) (by simpa using h2) hk
theorem bindC_get {kindOf:Str→Option NameKind} {x:Str} {v:Value}:∀ {P:List Str} {vs:List Value} {i:Nat} {m:Str→Option Value},P.Nodup→P[i]? = some x→vs[i]? = some v→kindOf x≠some .local →
    bindC kindOf (P.zip vs) m x=some v
  | [],_,_,_,_,h,_,_=>by simp at h
  | _ :: _,[],_,_,_,_,h,_=>by simp at h
  | p :: P,w :: vs,0,m,nd,h1,h2,hk=>by
    simp at h1 h2; subst h1; subst h2
    show bindC kindOf ((p,w) :: P.zip vs) m p=_
    unfold bindC
    rw [bindC_out fun v hv=>(List.nodup_cons.mp nd).1 (List.of_mem_zip hv).1,if_neg hk]
    simp
  | p :: P,w :: vs,i + 1,m,nd,h1,h2,hk=>by
    show bindC kindOf ((p,w) :: P.zip vs) m x=_
    unfold bindC
    exact bindC_get (i:=i) (List.nodup_cons.mp nd).2 (by simpa using h1) (by simpa using h2) hk
noncomputable def start (N:List Str) (vs:List V):St:=vs.map some ++ List.replicate (N.length - vs.length) none
noncomputable def cxOf (CX:CXT) (P:Program) (w:World) (K:PySem.W.Frag) (mg:Str→Option Value) (base:Heap) (N:List Str) (qual:Str) (scope:Scope) (f:Addr) (cd:Value) (A:Around) (outer:List Env) (s:Shared) (H:Hp) (E:XK):Cx where
  prog:=P
  w:=w
  K:=K
  mg:=mg
  base:=base
  A:=A.deeper (envOfC qual scope s.heap.objs.size f cd)
  N:=N
  s₀:=s
  H₀:=H
  env:=envOfC qual scope s.heap.objs.size f cd
  outer:=outer
  stack:=envOfC qual scope s.heap.objs.size f cd :: outer
  ex:=[]
  calm:=true
  fn:=fun _=>true
  pn:=[]
  xe:=fun e s'=>wpAny (model P w) (A.deeper (envOfC qual scope s.heap.objs.size f cd)) (leaving (envOfC qual scope s.heap.objs.size f cd) e) (fun _ s''=>CX outer H s E e s'') (fun e' s''=>CX outer H s E e' s'') s'
theorem cell_has {sc:Scope} {n:Nat} {x:Str} (h:sc.names.lookup x=some .cell):∃ c,(cellsFrom n sc.names []).lookup x=some c:=by
  have q:=PySem.W.cellsFrom_some sc.names n [] (.inl h)
  exact Option.isSome_iff_exists.mp q
theorem inv_start {CX:CXT} {P:Program} {w:World} {K:PySem.W.Frag} {mg:Str→Option Value} {base:Heap} {N ps:List Str} {qual:Str} {scope:Scope} {f:Addr} {cd:Value} {A:Around} {outer:List Env} {s s1:Shared} {H:Hp} {E:XK} {us:List Value} {vs:List V}
    (S:FnScope N ps scope) (hd:A.handled=none) (e0:Env0 P w K mg base A outer s H) (hl:vs.length=ps.length) (r:Vals vs us)
    (x:InCallC s s.heap.objs.size (bindL (envOfC qual scope s.heap.objs.size f cd).kindOf (ps.zip us) fun _=>none) (cellsFrom (s.heap.objs.size + 1) scope.names []) (bindC (envOfC qual scope s.heap.objs.size f cd).kindOf (ps.zip us) fun _=>none) s1) :
    Inv (cxOf CX P w K mg base N qual scope f cd A outer s H E) [] (start N vs) H s1:=by
  have hpl:ps.length≤N.length:=by have:=congrArg List.length S.pre; rw [List.length_take] at this; omega
  obtain ⟨h1,tk,rfl,hk⟩:=x.done
  have noA:∀ b:Addr,b∉(cxOf CX P w K mg base N qual scope f cd A outer s H E).ex:=fun b z=>absurd (show b∈([]:List Addr) from z) (by simp)
  refine ⟨⟨e0.mod,S.kind,rfl,rfl,Nat.le_refl _,fun y z c h1 h2=>?_,fun y hy=>?_,fun y c _ h=>?_,fun _=>hd,Around.frames_deeper e0.frames,.inr ⟨rfl,rfl⟩,fun b z=>absurd z (noA b),e0.bs,e0.bsz,fun b _ _=>noA b,fun b z=>absurd z (noA b),e0.funs,e0.frf⟩,
    rfl,e0.bare,Un.kept hk,⟨_,x.toInCall.ns,fun i y v h1 h2 h3=>?_⟩,fun y c h=>⟨_,x.cell y c h⟩,e0.hok.fresh (Nat.le_refl _),fun y c h=>?_,fun p hp=>absurd (show p∈([]:List (Addr×Obj)) from hp) (by simp),e0.hok.kept hk,?_⟩
  · exact name_of_addr x.apart (PySem.mem_of_lookup h1) (PySem.mem_of_lookup h2)
  · have hy:scope.names.lookup y=some .cell∨scope.names.lookup y=some .free:=hy
    rcases hy with hy | hy
    · exact cell_has hy
    · exact absurd rfl (S.nofree _ (PySem.mem_of_lookup hy))
  · exact Nat.le_of_lt (x.above y c (PySem.mem_of_lookup h))
  · have hi:i < vs.length:=by
      unfold start at h2
      by_cases hi:i < vs.length
      · exact hi
      · rw [List.getElem?_append_right (by simpa using hi)] at h2
        rw [List.getElem?_replicate] at h2
        split at h2 <;> cases h2
    have ha:vs[i]? = some v:=by
      unfold start at h2
      rw [List.getElem?_append_left (by simpa using hi),List.getElem?_map] at h2
      cases e:vs[i]? with
      | none=>rw [e] at h2; cases h2
      | some a=>rw [e] at h2; cases h2; rfl
    obtain ⟨u,hu,rv⟩:=r.get ha
    have hp:ps[i]? = some y:=by
      rw [← S.pre,List.getElem?_take_of_lt (by omega)]; exact h1
    have ndP:ps.Nodup:=by rw [← S.pre]; exact S.nd.sublist (List.take_sublist _ _)
    refine ⟨u,rv,?_⟩
    rcases S.par y (List.mem_of_getElem? hp) with k | k
    · exact .inl ⟨k,bindL_get ndP hp hu k⟩
    · obtain ⟨c,e⟩:=cell_has (n:=s.heap.objs.size + 1) k
      refine .inr ⟨.inl k,c,e,?_⟩
      have q:=x.cell y c e
      rw [bindC_get ndP hp hu (by show scope.names.lookup y≠_; rw [k]; decide)] at q
      exact q
  · exact e0.hok.fresh (Nat.le_of_lt (x.above y c (PySem.mem_of_lookup h)))
  · unfold start
    show _=N.length
    rw [List.length_append,List.length_map,List.length_replicate]
    omega
theorem fn_of {CX:CXT} {P:Program} {w:World} {K:PySem.W.Frag} {mg:Str→Option Value} {base:Heap} {k:Nat} {f:Addr} {name qual:Str} {params:Arguments} {body:List Stmt} {scope:Scope} {dV kV doc pm cdv ct oc:Value} {an od:Option Addr}
    {osl:Array (Option Value)} {N ps:List Str} {sp:Sp} (lk:K.lookup f=some ⟨oc,od,.func (PySem.W.fnOf name qual params body scope dV kV doc pm an cdv ct),osl⟩) (hcd:PySem.W.codeIn K cdv qual=true) (S:FnScope N ps scope)
    (len:∀ vs H Q E,sp vs H Q E→vs.length=ps.length)
    (hbody:∀ (A:Around) (outer:List Env) (s:Shared) (H:Hp) (vs:List V) (Q:VK) (E:XK),Room k (A.deeper (envOfC qual scope s.heap.objs.size f cdv))→sp vs H Q E →
      ∃ t,PSs (cxOf CX P w K mg base N qual scope f cdv A outer s H E) body t∧t { nx:=fun _ H'=>Q .non H',rt:=Q } (start N vs) H) :
    FnOk P w K mg base CX (k + 1) f (PySem.W.fnOf name qual params body scope dV kV doc pm an cdv ct) ps sp:=by
  refine ⟨len,fun A outer s H args us vs Q E hr e0 hb r hsp=>?_⟩
  have hl:=len _ _ _ _ hsp
  have KX:K.In s.heap:=e0.mod.kin.keeps fun b o e=>(e0.bs b o e).1
  have lim:s.heap.NoLimit:=e0.mod.nolimit.keeps fun b o e=>(e0.bs b o e).1
  have hkind:∀ y∈ps.zip us,scope.names.lookup y.1=some .local∨(scope.names.lookup y.1=some .cell∧((cellsFrom (s.heap.objs.size + 1) scope.names []).lookup y.1).isSome=true):=fun ⟨n,v⟩ hy=>by
    rcases S.par n (List.of_mem_zip hy).1 with q | q
    · exact .inl q
    · exact .inr ⟨q,PySem.W.cellsFrom_some _ _ _ (.inl q)⟩
  refine codeAny_call_function hr.depth (KX _ _ lk) rfl S.co S.gen rfl (PySem.W.codeRec_of KX hcd) (hb _ _ _ _ ?_)
  refine wpAny_newFunctionEnv_cells S.kind hkind fun env he s1 x=>?_
  subst he
  refine ⟨lim.keeps x.toInCall.keep,codeAny_func ?_⟩
  obtain ⟨t,ht,hq⟩:=hbody A outer s H vs Q E (hr.deeper _) hsp
  have I:Inv (cxOf CX P w K mg base N qual scope f cdv A outer s H E) [] (start N vs) H s1:=inv_start S hr.hd e0 hl r x
  refine wpAny_mono (ht [] s1 (start N vs) H _ I hq) (fun fl s' hs=>?_) fun e s' hs=>hs
  have fin:∀ {σ':St} {H':Hp} {v:V} {u:Value},Inv (cxOf CX P w K mg base N qual scope f cdv A outer s H E) [] σ' H' s'→RelV v u→Q v H'→CE outer P w H s Q u s' :=
    fun {σ' H' v u} J rv q=>⟨v,H',J.os,J.bare,J.base,J.hok,rv,q⟩
  cases fl with
  | ret u =>
    obtain ⟨v,σ',H',J,rv,q⟩:=hs
    exact fin J rv q
  | next =>
    obtain ⟨σ',H',J,q⟩:=hs
    exact fin (v:=V.non) (u:=Value.none) J rfl q
  | brk =>
    obtain ⟨_,_,_,q⟩:=hs
    exact False.elim q
  | cont =>
    obtain ⟨_,_,_,q⟩:=hs
    exact False.elim q
end L2
namespace L2
open PySem PySem.Spec PyProof.Rows
section
variable {X:Cx} {x:Str} {p pos:Pos} {e:Expr} {es:List Expr} {t:TA} {id T:String} {r:List V→Hp→VK→Prop}
noncomputable def tCB (r:List V→Hp→VK→Prop) (t:TA):TE:=fun σ H Q=>t σ H fun vs H1=>r vs H1 Q
theorem pe_callB (hc:CallR X (.builtin id) r) (hg:Gl X x) (hm:X.mg x=none) (hv:bootBuiltins x=some (.builtin id)) (ha:PA X (e :: es) t) (hn:x≠"__name__":=by decide) (hdb:(x == ("__debug__":Str))=false:=by decide)
    (he:starEach (e :: es) X.env=(false,eval e X.env) :: starEach es X.env:=by rfl) (hpl:(backTo pos (starEach es X.env)).any (·.1)=false:=by rfl):PE X (.Call (.Name x p) (e :: es) [] pos) (tCB r t):=by
  intro pins s σ H Q I h
  refine wpAny_Call_Name_kw (ld_blt I hg hm hv ?_ hn hdb)
  exact PyProof.Rows.callWith_builtin1 (thn (ha pos pins s σ H _ I h) fun us s1 ⟨vs,H1,I1,r1,q1⟩=>hc pins s1 σ H1 vs us Q I1 r1 q1) he hpl
theorem pe_callTy (hc:CallR X (.type T) r) (hg:Gl X x) (hm:X.mg x=none) (hv:bootBuiltins x=some (.type T)) (ha:PA X (e :: es) t) (hn:x≠"__name__":=by decide) (hdb:(x == ("__debug__":Str))=false:=by decide)
    (he:starEach (e :: es) X.env=(false,eval e X.env) :: starEach es X.env:=by rfl) (hpl:(backTo pos (starEach es X.env)).any (·.1)=false:=by rfl):PE X (.Call (.Name x p) (e :: es) [] pos) (tCB r t):=by
  intro pins s σ H Q I h
  refine wpAny_Call_Name_kw (ld_blt I hg hm hv ?_ hn hdb)
  exact PyProof.Rows.callWith_type1 (thn (ha pos pins s σ H _ I h) fun us s1 ⟨vs,H1,I1,r1,q1⟩=>hc pins s1 σ H1 vs us Q I1 r1 q1) he hpl
end
end L2
namespace HT
open PySem PyProof.Rows
section
open PySem.SeqAt
open PySem.AutoSeq1 (wpAny_loadPart')
open PySem.MeetsSeq PySem.MeetsSeq2 PySem.MeetsSeq3
end
section
variable {prog:Program} {w:World} {A:Around} {E:Value→Shared→Prop} {s:Shared}
theorem cat_tup {t b:Addr} {vs ws:List Value} {Q:Value→Shared→Prop} (ht:IsTup s.heap t vs.toArray) (hb:IsTup s.heap b ws.toArray) (hv:vs≠[])
    (h1:ws=[]→Q (.ref t) s) (h2:ws≠[]→Q (.ref s.heap.objs.size) { s with heap:=s.heap.push { cls:=.type "tuple",data:=.seq (vs ++ ws).toArray } })
    (hsz:vs.length + ws.length≤sizeLine):wpAny (model prog w) A (binaryOp .Add (.ref t) (.ref b)) Q E s:=by
  obtain ⟨⟨cls,dd,data,sl⟩,ho,hc,n,hd⟩:=id ht
  obtain ⟨⟨cls2,dd2,data2,sl2⟩,ho2,hc2,n2,hd2⟩:=id hb
  simp only at hc hd hc2 hd2
  subst hc hd hc2 hd2
  have e:vs.toArray ++ ws.toArray=(vs ++ ws).toArray:=by simp
  by_cases hw:ws=[]
  · exact concat_meets ⟨_,ho,rfl⟩ ⟨_,ho2,rfl⟩ noFill_tuple_add seq_tuple_add PySem.F.slot_tuple_add PySem.F.entry_tuple_add (PySem.F.args_tuple_add_2 _ _)
      (tuple_addW1 t b vs.toArray ws.toArray n n2 dd dd2 sl sl2 (by simpa using hv) (by simp [hw])) ⟨ho,ho2,h1 hw⟩
  · refine concat_meets ⟨_,ho,rfl⟩ ⟨_,ho2,rfl⟩ noFill_tuple_add seq_tuple_add PySem.F.slot_tuple_add PySem.F.entry_tuple_add (PySem.F.args_tuple_add_2 _ _)
      (tuple_addW2 t b vs.toArray ws.toArray n n2 dd dd2 sl sl2 (by simpa using hv) (by simpa using hw) (by rw [List.size_toArray,List.size_toArray]; exact hsz)) ⟨ho,ho2,?_⟩
    rw [e]
    exact h2 hw
noncomputable def sIx (n d:Nat):Option Int→Nat
  | none=>d
  | some v=>if v < 0 then (v + (n:Int)).toNat else min v.toNat n
end
end HT
namespace L2
open PySem PySem.Spec PyProof.Rows
noncomputable abbrev TO:=St→Hp→(Option Int→Hp→Prop)→Prop
noncomputable def PO (X:Cx) (e:Option Expr) (t:TO):Prop :=
  ∀ (pins:List (Addr×Obj)) (s:Shared) (σ:St) (H:Hp) (Q:Option Int→Hp→Prop),Inv X pins σ H s→t σ H Q →
    wpAny (model X.prog X.w) X.A (evalPart e X.env) (fun u s'=>∃ o H',Inv X pins σ H' s'∧IsPart u o∧Q o H') X.xe s
section
variable {X:Cx} {e:Expr} {te:TE} {lo hi:Option Expr} {tl th:TO} {pos p2:Pos}
noncomputable def SlR (X:Cx) (r:V→Option Int→Option Int→Hp→VK→Prop):Prop :=
  ∀ (pins:List (Addr×Obj)) (s:Shared) (σ:St) (H:Hp) (x:V) (v vl vu:Value) (lo hi:Option Int) (sl:Addr) (Q:VK),Inv X pins σ H s→RelV x v→s.heap.IsSliceOf sl vl vu .none→IsPart vl lo→IsPart vu hi→r x lo hi H Q →
    ∃ T id,typeLookup (.type T) "__getitem__"=pure (some (.builtin id))∧s.TypeIs v T∧wpAny (model X.prog X.w) X.A (getItem v (.ref sl)) (EP X pins σ Q) X.xe s
noncomputable def cutV (xs:List V) (lo hi:Option Int):List V:=(xs.drop (HT.sIx xs.length 0 lo)).take (HT.sIx xs.length xs.length hi - HT.sIx xs.length 0 lo)
theorem cutV_length (xs:List V) (lo hi:Option Int):(cutV xs lo hi).length≤xs.length:=by
  unfold cutV
  rw [List.length_take,List.length_drop]
  omega
noncomputable def rCatT (K:PySem.W.Frag):R2:=fun x y H Q=>∃ a b xs ys,x=.ref a∧y=.ref b∧SqT K H a xs∧SqT K H b ys∧xs≠[]∧xs.length + ys.length≤sizeLine ∧
  (ys=[]→Q (.ref a) H)∧(ys≠[]→∀ p,H p=none→Q (.ref p) (upd H p (.tup (xs ++ ys))))
theorem Vals.nil_iff {xs:List V} {us:List Value} (r:Vals xs us):us=[]↔xs=[]:=by
  cases r with
  | nil=>simp
  | cons _ _=>simp
theorem op_catT:OpR X (binaryOp .Add) (rCatT X.K):=by
  intro pins s σ H x y v u Q I rx ry h
  obtain ⟨a,b,xs,ys,rfl,rfl,ha,hb,hx,hz,q1,q2⟩:=h
  cases rx
  cases ry
  obtain ⟨its,r1,p1,_⟩:=I.tuple ha
  obtain ⟨its2,r2,p2,_⟩:=I.tuple hb
  refine HT.cat_tup p1 p2 (fun z=>hx (r1.nil_iff.mp z)) (fun z=>⟨.ref a,H,I,rfl,q1 (r2.nil_iff.mp z)⟩) (fun z=>?_) (by rw [← r1.length,← r2.length]; exact hz)
  refine ⟨.ref s.heap.objs.size,_,I.laid (t':=s.toks) (o:=.tup (xs ++ ys)) (fun b ob q=>Heap.get?_push_of_some _ q) (Nat.le_refl _) ?_,rfl,q2 (fun w=>z (r2.nil_iff.mpr w)) _ (I.hok.fresh (Nat.le_refl _))⟩
  exact ⟨by rw [List.length_append]; exact hz,_,r1.append r2,TupN.new _ _⟩
end
end L2
namespace L2
open PySem PySem.Spec PyProof.Rows
noncomputable def ixN (n:Nat) (i:Int):Option Nat:=if 0≤i then (if i < n then some i.toNat else none) else if -(n:Int)≤i then some (i + n).toNat else none
noncomputable def atI {α:Type} (xs:List α) (i:Int):Option α:=(ixN xs.length i).bind fun j=>xs[j]?
theorem ixN_seq {n:Nat} {i:Int} {j:Nat} (h:ixN n i=some j):seqIndex? i n=some j∧j < n∧-(n:Int)≤i∧i < n:=by
  unfold ixN at h
  by_cases h0:0≤i
  · rw [if_pos h0] at h
    by_cases h1:i < n
    · rw [if_pos h1] at h
      have e:i.toNat=j:=Option.some.inj h
      exact ⟨by rw [seqIndex_of h0 h1,e],by omega,by omega,h1⟩
    · rw [if_neg h1] at h; cases h
  · rw [if_neg h0] at h
    by_cases h1:-(n:Int)≤i
    · rw [if_pos h1] at h
      have e:(i + n).toNat=j:=Option.some.inj h
      exact ⟨by rw [seqIndex_neg (by omega) h1,e],by omega,h1,by omega⟩
    · rw [if_neg h1] at h; cases h
theorem atI_get {α:Type} {xs:List α} {i:Int} {v:α} (h:atI xs i=some v):∃ j,seqIndex? i xs.length=some j∧xs[j]? = some v∧j < xs.length∧-(xs.length:Int)≤i∧i < xs.length:=by
  unfold atI at h
  cases e:ixN xs.length i with
  | none=>rw [e] at h; cases h
  | some j =>
    rw [e] at h
    obtain ⟨h1,h2,h3,h4⟩:=ixN_seq e
    exact ⟨j,h1,h,h2,h3,h4⟩
theorem atI_nat {α:Type} {xs:List α} {j:Nat} {v:α} (h:xs[j]? = some v):atI xs (j:Int)=some v:=by
  have hj:j < xs.length:=(List.getElem?_eq_some_iff.mp h).1
  have e:ixN xs.length (j:Int)=some j:=by
    unfold ixN
    rw [if_pos (by omega),if_pos (by omega)]; simp
  unfold atI; rw [e]; exact h
noncomputable def PlainIx (b:Expr):Prop:=∀ o i,subscripted b false o i=operate [o,i] (getItem o i)
noncomputable def IxR (X:Cx) (r:R2):Prop :=
  ∀ (value slice:Expr) (pins:List (Addr×Obj)) (s:Shared) (σ:St) (H:Hp) (x y:V) (v u:Value) (Q:VK),Inv X pins σ H s→RelV x v→RelV y u→r x y H Q →
    subscripted slice false v u=operate [v,u] (getItem v u)→wpAny (model X.prog X.w) X.A (subscriptTail value slice v u) (EP X pins σ Q) X.xe s
noncomputable def MtR (X:Cx) (id:String) (r:V→List V→Hp→VK→Prop):Prop :=
  ∀ (pins:List (Addr×Obj)) (s:Shared) (σ:St) (H:Hp) (x:V) (xs:List V) (v:Value) (us:List Value) (Q:VK),Inv X pins σ H s→RelV x v→Vals xs us→r x xs H Q →
    wpAny (model X.prog X.w) X.A (call (.builtin id) (v :: us)) (EP X pins σ Q) X.xe s
section
variable {X:Cx} {a b:Expr} {ta tb:TE} {pos:Pos}
theorem pe_ix {r:R2} (hr:IxR X r) (ha:PE X a ta) (hb:PE X b tb) (hs:PlainIx b):PE X (.Subscript a b pos) (tOp r ta tb):=by
  intro pins s σ H Q I h
  exact Subscript_ (binT ha hb I h fun v u s2 x y H2 I2 rx ry q=>hr a b pins s2 σ H2 x y v u Q I2 rx ry q (hs _ _))
noncomputable def rIxL (K:PySem.W.Frag):R2:=fun x y H Q=>∃ p xs i v,x=.ref p∧y=.int i∧SqL K H p xs∧atI xs i=some v∧Q v H
noncomputable def rIxT (K:PySem.W.Frag):R2:=fun x y H Q=>∃ p xs i v,x=.ref p∧y=.int i∧SqT K H p xs∧atI xs i=some v∧Q v H
theorem ix_list:IxR X (rIxL X.K):=by
  intro value slice pins s σ H x y v u Q I rx ry h hs
  obtain ⟨p,xs,i,z,rfl,rfl,hq,he,q⟩:=h
  cases rx
  obtain ⟨t,rfl⟩:=ry
  obtain ⟨its,r,pl,hz⟩:=I.list hq
  obtain ⟨j,h1,h2,h3,h4,h5⟩:=atI_get he
  obtain ⟨w,ew,rw'⟩:=r.get h2
  have hl:=r.length
  have hn:=line63
  have fin:EP X pins σ Q w s:=⟨z,H,I,rw',q⟩
  by_cases h0:0≤i
  · have hj:i.toNat=j:=by
      rw [seqIndex_of h0 h5] at h1
      exact Option.some.inj h1
    exact item_listR pl.isList h0 (by omega) (by rw [hj]; simpa using ew) fin hs
  · have hj:(i + (its.toArray.size:Int)).toNat=j:=by
      rw [seqIndex_neg (by omega) h4] at h1
      rw [List.size_toArray,← hl]
      exact Option.some.inj h1
    exact subscriptTail_builtinR (x:=w) pl.isList.typeIs slot_list_getitem.lookup
      (wpAny_getItem_list_neg (Q:=fun r s'=>r=w∧EP X pins σ Q r s') pl.isList (by omega) (by rw [List.size_toArray] <;> omega) (by omega) (by rw [hj]; simpa using ew) ⟨rfl,fin⟩) hs
theorem ix_tup:IxR X (rIxT X.K):=by
  intro value slice pins s σ H x y v u Q I rx ry h hs
  obtain ⟨p,xs,i,z,rfl,rfl,hq,he,q⟩:=h
  cases rx
  obtain ⟨t,rfl⟩:=ry
  obtain ⟨its,r,pl,hz⟩:=I.tuple hq
  obtain ⟨j,h1,h2,h3,h4,h5⟩:=atI_get he
  obtain ⟨w,ew,rw'⟩:=r.get h2
  have hl:=r.length
  have hn:=line63
  have fin:EP X pins σ Q w s:=⟨z,H,I,rw',q⟩
  exact subscriptTail_builtinR (x:=w) pl.typeIs slot_tuple_getitem.lookup
    (getItem_tuple (j:=j) (Q:=fun r s'=>r=w∧EP X pins σ Q r s') pl (by omega) (by omega) (by rw [List.size_toArray,← hl]; exact h1) (by simpa using ew) ⟨rfl,fin⟩) hs
theorem mapSeq_set (its:List Value) (n j:Nat) (u:Value):Obj.mapSeq (·.setIfInBounds j u) { cls:=.type "list",data:=.seq its.toArray n }={ cls:=.type "list",data:=.seq (its.set j u).toArray n }:=by
  simp [Obj.mapSeq]
theorem Inv.lst {pins:List (Addr×Obj)} {σ:St} {H:Hp} {s:Shared} {p:Addr} {xs:List V} (I:Inv X pins σ H s) (h:H p=some (.lst xs)) :
    ∃ (its:List Value) (n:Nat),Vals xs its∧s.heap.get? p=some { cls:=.type "list",data:=.seq its.toArray n }∧xs.length≤sizeLine:=by
  obtain ⟨z,its,n,r,e⟩:=I.hok p _ h
  exact ⟨its,n,r,e,z⟩
theorem Inv.lstUpd {pins:List (Addr×Obj)} {σ:St} {H:Hp} {s:Shared} {p:Addr} {xs ys:List V} {its its':List Value} {n n':Nat} {f:Obj→Obj} (I:Inv X pins σ H s) (h:H p=some (.lst xs))
    (ho:s.heap.get? p=some { cls:=.type "list",data:=.seq its.toArray n }) (hf:f { cls:=.type "list",data:=.seq its.toArray n }={ cls:=.type "list",data:=.seq its'.toArray n' }) (r:Vals ys its') (hz:ys.length≤sizeLine) (t:Nat) :
    Inv X pins σ (upd H p (.lst ys)) { s with heap:=s.heap.update p f,toks:=t }:=by
  have e:(s.heap.update p f).get? p=some { cls:=.type "list",data:=.seq its'.toArray n' }:=by
    rw [Heap.get?_update_self f ho (by rw [hf] <;> rfl),hf]
  refine I.write (x:=p) (e:=p) (by rw [h]; trivial) (.inl rfl) (fun b u hb q=>(Heap.get?_update_other _ _ (Ne.symm hb)).trans q) ⟨_,e⟩ ?_
  exact ⟨hz,its',n',r,e⟩
noncomputable def rSetL:V→V→V→Hp→(Hp→Prop)→Prop:=fun o i v H Q=>∃ p xs k j,o=.ref p∧i=.int k∧H p=some (.lst xs)∧ixN xs.length k=some j∧Q (upd H p (.lst (xs.set j v)))
theorem set_list:PSet X rSetL:=by
  intro pins s σ H o i v ov iv u Q I ro ri rv h
  obtain ⟨p,xs,k,j,rfl,rfl,hp,hj,q⟩:=h
  cases ro
  obtain ⟨t,rfl⟩:=ri
  obtain ⟨its,n,r,ho,hz⟩:=I.lst hp
  obtain ⟨h1,h2,h3,h4⟩:=ixN_seq hj
  have hl:=r.length
  have hn:=line63
  have I':Inv X pins σ (upd H p (.lst (xs.set j v))) { s with heap:=s.heap.update p (Obj.mapSeq (·.setIfInBounds j u)) } :=
    I.lstUpd hp ho (mapSeq_set its n j u) (r.set rv j) (by rw [List.length_set]; exact hz) s.toks
  by_cases h0:0≤k
  · have hk:k.toNat=j:=by
      rw [seqIndex_of h0 h4] at h1
      exact Option.some.inj h1
    exact PySem.W.ki_setAt ho h0 (by omega) (by rw [List.size_toArray,← hl]; exact h4) (by rw [hk]; exact ⟨_,I',q⟩)
  · have hk:(k + (its.toArray.size:Int)).toNat=j:=by
      rw [seqIndex_neg (by omega) h3] at h1
      rw [List.size_toArray,← hl]
      exact Option.some.inj h1
    exact PySem.W.ki_setBack ho (by omega) (by rw [List.size_toArray,← hl]; exact h3) (by omega) (by rw [hk]; exact ⟨_,I',q⟩)
theorem slice_bounds (lo hi:Option Int) (n:Nat):(sliceBounds lo hi none n).1=((HT.sIx n 0 lo:Nat):Int)∧(sliceBounds lo hi none n).2.1=((HT.sIx n n hi:Nat):Int)∧(sliceBounds lo hi none n).2.2=1:=by
  refine ⟨?_,?_,rfl⟩
  · cases lo with
    | none=>simp [sliceBounds,HT.sIx]
    | some i =>
      simp only [sliceBounds,HT.sIx,Option.getD_none,show (1:Int) > 0 by decide,if_true]
      by_cases h:i < 0
      · simp only [h,if_true] <;> omega
      · simp only [h,if_false] <;> omega
  · cases hi with
    | none=>simp [sliceBounds,HT.sIx]
    | some i =>
      simp only [sliceBounds,HT.sIx,Option.getD_none,show (1:Int) > 0 by decide,if_true]
      by_cases h:i < 0
      · simp only [h,if_true] <;> omega
      · simp only [h,if_false] <;> omega
theorem slicePick_cut (its:List Value) (lo hi:Option Int):slicePick its.toArray lo hi none=((its.drop (HT.sIx its.length 0 lo)).take (HT.sIx its.length its.length hi - HT.sIx its.length 0 lo)).toArray:=by
  obtain ⟨h1,h2,h3⟩:=slice_bounds lo hi its.toArray.size
  unfold slicePick
  rw [h1,h2,h3]
  simp only [sliceRange_one,pick_run,List.size_toArray] <;> rfl
noncomputable def rSlL (K:PySem.W.Frag):V→Option Int→Option Int→Hp→VK→Prop:=fun x lo hi H Q=>∃ a xs,x=.ref a∧SqL K H a xs∧∀ p,H p=none→Q (.ref p) (upd H p (.lst (cutV xs lo hi)))
theorem sl_list:SlR X (rSlL X.K):=by
  intro pins s σ H x v vl vu lo hi sl Q I rx hs pl pu h
  obtain ⟨a,xs,rfl,hx,q⟩:=h
  cases rx
  obtain ⟨its,r,ht,hz⟩:=I.list hx
  have hlen:=r.length
  refine ⟨"list",_,slot_list_getitem.lookup,ht.isList.typeIs,?_⟩
  refine wpAny_getItem_list_slice ht.isList hs pl pu .none (by simp) ?_ (by rw [List.size_toArray] <;> omega)
  rw [slicePick_cut,← hlen]
  refine ⟨.ref s.heap.objs.size,_,I.laid (t':=s.toks) (o:=.lst (cutV xs lo hi)) (fun b ob q=>Heap.get?_push_of_some _ q) (Nat.le_refl _) ?_,rfl,q _ (I.hok.fresh (Nat.le_refl _))⟩
  exact ⟨Nat.le_trans (cutV_length xs lo hi) hz,_,0,(r.drop (HT.sIx xs.length 0 lo)).take (HT.sIx xs.length xs.length hi - HT.sIx xs.length 0 lo),Heap.get?_push_size _ rfl⟩
theorem call_len_seq:CallR X (.builtin "len") (fun xs H Q=>∃ p ys,xs=[.ref p]∧(SqL X.K H p ys∨SqT X.K H p ys)∧Q (.int ys.length) H):=by
  intro pins s σ H xs us Q I r h
  obtain ⟨p,ys,rfl,hq,q⟩:=h
  obtain ⟨u,rfl,rx⟩:=vals1 r
  cases rx
  have hn:=line63
  rcases hq with hq | hq
  · obtain ⟨its,r',pl,hz⟩:=I.list hq
    have hlen:=r'.length
    exact Calls.call_len_list pl.isList (by simp only [List.size_toArray] <;> omega) ⟨.int ys.length,H,I.tok _,⟨s.toks + 1,by rw [List.size_toArray,hlen]⟩,q⟩
  · obtain ⟨its,r',pl,hz⟩:=I.tuple hq
    have hlen:=r'.length
    exact len_tuple pl (by simp only [List.size_toArray] <;> omega) ⟨.int ys.length,H,I.tok _,⟨s.toks + 1,by rw [List.size_toArray,hlen]⟩,q⟩
theorem call_len_str:CallR X (.builtin "len") (fun xs H Q=>∃ z,xs=[.str z]∧z.length≤sizeLine∧Q (.int z.length) H):=by
  intro pins s σ H xs us Q I r h
  obtain ⟨z,rfl,hz,q⟩:=h
  obtain ⟨u,rfl,t,rfl⟩:=vals1 r
  have hn:=line63
  exact len_str (by omega) ⟨.int z.length,H,I.tok _,⟨_,rfl⟩,q⟩
theorem call_tuple_of:CallR X (.type "tuple") (fun xs H Q=>∃ p ys,xs=[.ref p]∧((SqL X.K H p ys∧∀ l,H l=none→Q (.ref l) (upd H l (.tup ys)))∨(SqT X.K H p ys∧Q (.ref p) H))):=by
  intro pins s σ H xs us Q I r h
  obtain ⟨p,ys,rfl,h⟩:=h
  obtain ⟨u,rfl,rx⟩:=vals1 r
  cases rx
  rcases h with ⟨hq,q⟩ | ⟨hq,q⟩
  · obtain ⟨its,r',pl,hz⟩:=I.list hq
    have hlen:=r'.length
    refine call_tuple_list pl.isList (fun h' kp=>?_) (by simp only [List.size_toArray] <;> omega)
    have I1:Inv X pins σ H { s with heap:=h' }:=I.kept (t':=s.toks) kp
    have I2:Inv X pins σ (upd H h'.objs.size (.tup ys)) { s with heap:=h'.push { cls:=.type "tuple",data:=.seq its.toArray } } :=
      I1.laid (t':=s.toks) (fun b o e=>Heap.get?_push_of_some _ e) (Nat.le_refl _) (show ObjOk X.prog X.w _ _ _ (.tup ys) from ⟨hz,its,r',TupN.new _ _⟩)
    exact ⟨.ref h'.objs.size,_,I2,rfl,q _ (I1.hok.fresh (Nat.le_refl _))⟩
  · obtain ⟨its,r',pl,hz⟩:=I.tuple hq
    exact call_tuple_same pl ⟨.ref p,H,I,rfl,q⟩
noncomputable def tyV (K:PySem.W.Frag) (T:String) (x:V) (H:Hp):Prop:=match x with
  | .str _=>T="str"
  | .int _=>T="int"
  | .ref p=>(T="list"∧∃ xs,SqL K H p xs)∨(T="tuple"∧((∃ xs,H p=some (.tup xs))∨∃ o,K.lookup p=some o∧o.cls=.type "tuple"∧o.dict=none)) ∨
      (T="dict"∧((∃ kvs,H p=some (.dK kvs))∨∃ kvs,H p=some (.dT kvs)))∨(T="set"∧∃ S n,H p=some (.set S n))
  | _=>False
theorem tyV_is {pins:List (Addr×Obj)} {σ:St} {H:Hp} {s:Shared} {T:String} {x:V} {v:Value} (I:Inv X pins σ H s) (r:RelV x v) (ty:tyV X.K T x H) :
    s.TypeIs v T∧∀ a,v=.ref a→∃ ob,s.heap.get? a=some ob∧ob.dict=none:=by
  cases x with
  | str z =>
    obtain ⟨t,rfl⟩:=r
    cases (show T="str" from ty)
    exact ⟨typeIs_str s z t,fun _ e=>nomatch e⟩
  | int i =>
    obtain ⟨t,rfl⟩:=r
    cases (show T="int" from ty)
    exact ⟨typeIs_int s i t,fun _ e=>nomatch e⟩
  | ref p =>
    cases r
    rcases ty with ⟨rfl,xs,hq⟩ | ⟨rfl,⟨xs,hk⟩ | ⟨o,hk,hc,hd⟩⟩ | ⟨rfl,hk⟩ | ⟨rfl,S,n,hk⟩
    · obtain ⟨its,_,pl,_⟩:=I.list hq
      refine ⟨pl.isList.typeIs,fun a e=>?_⟩
      cases e
      obtain ⟨o,n,e,c,hd,_⟩:=pl
      exact ⟨o,e,hd⟩
    · obtain ⟨_,its,_,o,e,c,_,hd⟩:=(show ObjOk X.prog X.w H s.heap p (.tup xs) from I.hok p _ hk)
      refine ⟨⟨o,e,c⟩,fun a e2=>?_⟩
      cases e2
      exact ⟨o,e,hd⟩
    · refine ⟨⟨o,I.kIn p o hk,hc⟩,fun a e=>?_⟩
      cases e
      exact ⟨o,I.kIn _ o hk,hd⟩
    · have z:∃ o,s.heap.get? p=some o∧o.ExactDict:=by
        rcases hk with ⟨kvs,hk⟩ | ⟨kvs,hk⟩
        · obtain ⟨_,_,_,_,o,_,_,e,ex,_⟩:=I.hok p _ hk
          exact ⟨o,e,ex⟩
        · obtain ⟨_,_,_,_,o,_,_,e,ex,_⟩:=I.hok p _ hk
          exact ⟨o,e,ex⟩
      obtain ⟨o,e,ex⟩:=z
      refine ⟨⟨o,e,ex.1⟩,fun a e2=>?_⟩
      cases e2
      exact ⟨o,e,ex.2.1⟩
    · obtain ⟨o,_,_,_,e,ex,_⟩:=I.hok p _ hk
      refine ⟨⟨o,e,ex.1⟩,fun a e2=>?_⟩
      cases e2
      exact ⟨o,e,ex.2.1⟩
  | _=>exact False.elim ty
noncomputable def tBM (K:PySem.W.Frag) (T:String) (r:V→List V→Hp→VK→Prop) (to:TE) (t:TA):TE:=fun σ H Q=>to σ H fun x H1=>tyV K T x H1∧t σ H1 fun xs H2=>r x xs H2 Q
variable {o e:Expr} {es:List Expr} {to:TE} {t:TA} {name:Str} {apos cpos:Pos} {T id:String} {r:V→List V→Hp→VK→Prop}
theorem pe_bm (pa:PlainAttrs T) (slot:Slot T name id) (hty:typeOf (.builtin id)=pure (.type "method_descriptor")) (hm:MtR X id r) (ho:PE X o to) (ha:PA X (e :: es) t)
    (hbase:attributeBase o name X.env (eval o X.env)=eval o X.env:=by rfl)
    (hfew:((backTo cpos (starEach (e :: es) X.env)).all (fun x=>!x.1) && (backToKw cpos (keywordEach [] X.env)).all (fun x=>x.1.isSome)
      && decide ((e :: es).length + ([]:List Keyword).length + (if ([]:List Keyword).isEmpty then 0 else 1) < 30))=true:=by rfl)
    (hline:(apos.endLine == cpos.line)=true:=by rfl) (hs:starEach (e :: es) X.env=(false,eval e X.env) :: starEach es X.env:=by rfl) (hplain:(backTo cpos (starEach es X.env)).any (·.1)=false:=by rfl) :
    PE X (.Call (.Attribute o name apos) (e :: es) [] cpos) (tBM X.K T r to t):=by
  intro pins s σ H Q I h
  refine wpAny_Call_method_late hbase hfew hline rfl (thn (ho pins s σ H _ I h) fun v s1 ⟨x,H1,I1,r1,ty,q1⟩=>?_)
  obtain ⟨h1,h2⟩:=tyV_is I1 r1 ty
  refine ⟨T,id,pa,slot,hty,h1,h2,?_⟩
  have hA:=ha cpos pins s1 σ H1 _ I1 q1
  rw [hs] at hA ⊢
  refine Calls.callWith_builtin (by show (false || (backTo cpos (starEach es X.env)).any (·.1))=false; rw [hplain] <;> rfl) (Calls.evalArgs_plain ?_)
  exact thn hA fun us s2 ⟨vs,H2,I2,r2,q2⟩=>hm pins s2 σ H2 x vs v us Q I2 r1 r2 q2
end
end L2
namespace L2
open PySem PySem.Spec PyProof.Rows
noncomputable def MtM (X:Cx) (id:String) (r:V→List V→Hp→VK→Prop):Prop :=
  ∀ (pins:List (Addr×Obj)) (s:Shared) (σ:St) (H:Hp) (x:V) (xs:List V) (v:Value) (us:List Value) (Q:VK),Inv X pins σ H s→RelV x v→Vals xs us→r x xs H Q →
    wpAny (model X.prog X.w) X.A (call (.builtin id) (v :: us)) (EP X pins σ Q) X.xe s
theorem Vals.one:∀ {x:V} {us:List Value},Vals [x] us→∃ u,us=[u]∧RelV x u
  | _,_,.cons r .nil=>⟨_,rfl,r⟩
theorem Vals.two:∀ {x y:V} {us:List Value},Vals [x,y] us→∃ u v,us=[u,v]∧RelV x u∧RelV y v
  | _,_,_,.cons r (.cons q .nil)=>⟨_,_,rfl,r,q⟩
theorem Vals.rep {xs:List V} {us:List Value} (h:Vals xs us):∀ k:Nat,Vals (List.replicate k xs).flatten (List.replicate k us).flatten
  | 0=>.nil
  | k + 1=>by
    rw [List.replicate_succ,List.replicate_succ,List.flatten_cons,List.flatten_cons]
    exact Vals.append h (Vals.rep h k)
theorem foldl_rep (its:List Value):∀ (k:Nat) (acc:List Value),
    List.foldl (fun x1 x2=>x1 ++ x2) acc.toArray (List.replicate k its.toArray)=(acc ++ (List.replicate k its).flatten).toArray
  | 0,acc=>by simp
  | k + 1,acc=>by
    have e:acc.toArray ++ its.toArray=(acc ++ its).toArray:=by simp
    have e2:(acc ++ its) ++ (List.replicate k its).flatten=acc ++ (List.replicate (k + 1) its).flatten:=by
      rw [List.replicate_succ,List.flatten_cons,List.append_assoc]
    rw [← e2,← foldl_rep its k (acc ++ its),← e,List.replicate_succ,List.foldl_cons]
section
variable {X:Cx} {pins:List (Addr×Obj)} {σ:St} {H:Hp} {s:Shared} {l b:Addr} {xs ys zs:List V}
theorem Inv.lset {its its':List Value} {n:Nat} {f:Array Value→Array Value} {t':Nat} (I:Inv X pins σ H s) (hH:H l=some (.lst xs))
    (e:s.heap.get? l=some { cls:=.type "list",data:=.seq its.toArray n }) (hf:f its.toArray=its'.toArray) (hv:Vals ys its') (hz:ys.length≤sizeLine) :
    Inv X pins σ (upd H l (.lst ys)) { s with heap:=s.heap.update l (Obj.mapSeq f),toks:=t' }:=by
  have q:=PySem.IsL.update e f
  rw [hf] at q
  refine I.write (x:=l) (e:=l) (by rw [hH]; exact trivial) (.inl rfl) (fun b' u hb hu=>(Heap.get?_update_other s.heap (Obj.mapSeq f) (Ne.symm hb)).trans hu) ⟨_,q⟩ ?_
  exact ⟨hz,its',_,hv,q⟩
theorem Inv.lnew {its:List Value} {t':Nat} (I:Inv X pins σ H s) (hv:Vals ys its) (hz:ys.length≤sizeLine) :
    Inv X pins σ (upd H s.heap.objs.size (.lst ys)) { s with heap:=s.heap.push { cls:=.type "list",data:=.seq its.toArray },toks:=t' } :=
  I.laid (fun _ _ q=>Heap.get?_push_of_some _ q) (Nat.le_refl _) ⟨hz,its,0,hv,Heap.get?_push_size _ rfl⟩
theorem Inv.fresh (I:Inv X pins σ H s):H s.heap.objs.size=none:=I.hok.fresh (Nat.le_refl _)
theorem Inv.lstM (I:Inv X pins σ H s) (hH:H l=some (.lst xs)):xs.length≤sizeLine∧∃ (its:List Value) (n:Nat),Vals xs its∧xs.length=its.length∧s.heap.get? l=some { cls:=.type "list",data:=.seq its.toArray n }:=by
  obtain ⟨z,its,n,r,e⟩:=I.hok l _ hH
  exact ⟨z,its,n,r,r.length,e⟩
theorem notLongL {n:Nat} (h:n≤sizeLine):Builtin.List.listTooLong n=false:=by
  unfold Builtin.List.listTooLong
  exact decide_eq_false (by omega)
end
section
variable {X:Cx}
noncomputable def rAppend:V→List V→Hp→VK→Prop:=fun x vs H Q=>∃ l xs y,x=.ref l∧vs=[y]∧H l=some (.lst xs)∧xs.length < sizeLine∧Q .non (upd H l (.lst (xs ++ [y])))
theorem mt_append:MtM X "list.append" rAppend:=by
  intro pins s σ H x vs v us Q I rx rv h
  obtain ⟨l,xs,y,rfl,rfl,hH,hz,q⟩:=h
  cases rx
  obtain ⟨u,rfl,ru⟩:=rv.one
  obtain ⟨z,its,n,r,hl,e⟩:=I.lstM hH
  refine call_meets F.slot_list_append ⟨_,e,rfl⟩ F.entry_list_append (F.args_list_append_2 _ _) (PySem.list_append l its.toArray n u (by rw [List.size_toArray]; omega)) ⟨e,?_⟩
  refine ⟨.non,_,I.lset (its':=its ++ [u]) hH e (by simp) (r.append (.cons ru .nil)) ?_,rfl,q⟩
  rw [List.length_append,List.length_singleton]
  omega
noncomputable def rExtend:V→List V→Hp→VK→Prop:=fun x vs H Q=>∃ l b xs zs,x=.ref l∧vs=[.ref b]∧H l=some (.lst xs)∧H b=some (.lst zs)∧xs.length + zs.length≤sizeLine∧Q .non (upd H l (.lst (xs ++ zs)))
theorem mt_extend:MtM X "list.extend" rExtend:=by
  intro pins s σ H x vs v us Q I rx rv h
  obtain ⟨l,b,xs,zs,rfl,rfl,hH,hB,hz,q⟩:=h
  cases rx
  obtain ⟨u,rfl,ru⟩:=rv.one
  cases ru
  obtain ⟨z,its,n,r,hl,e⟩:=I.lstM hH
  obtain ⟨z2,its2,n2,r2,hl2,e2⟩:=I.lstM hB
  have hsz:its.toArray.size + its2.toArray.size≤sizeLine:=by rw [List.size_toArray,List.size_toArray]; omega
  have hlong:¬ (!its.toArray.isEmpty && Builtin.List.listTooLong (its.toArray.size + its2.toArray.size))=true:=by
    rw [notLongL hsz,Bool.and_false]
    exact Bool.false_ne_true
  refine call_meets F.slot_list_extend ⟨_,e,rfl⟩ F.entry_list_extend (F.args_list_extend_2 _ _)
    (AutoSeq1.list_extend_list_list_0 l its.toArray n b its2.toArray n2 hlong (by rw [List.size_toArray]; omega) (by omega)) ⟨e,e2,?_⟩
  refine ⟨.non,_,I.lset (its':=its ++ its2) hH e (by simp) (r.append r2) ?_,rfl,q⟩
  rw [List.length_append]
  omega
noncomputable def rCat:R2:=fun x y H Q=>∃ l b xs zs,x=.ref l∧y=.ref b∧H l=some (.lst xs)∧H b=some (.lst zs)∧xs.length + zs.length≤sizeLine∧∀ p,H p=none→Q (.ref p) (upd H p (.lst (xs ++ zs)))
theorem op_cat:OpR X (binaryOp .Add) rCat:=by
  intro pins s σ H x y v u Q I rx ry h
  obtain ⟨l,b,xs,zs,rfl,rfl,hH,hB,hz,q⟩:=h
  cases rx
  cases ry
  obtain ⟨z,its,n,r,hl,e⟩:=I.lstM hH
  obtain ⟨z2,its2,n2,r2,hl2,e2⟩:=I.lstM hB
  refine PySem.P.add_list e e2 ?_ (by rw [List.size_toArray,List.size_toArray]; omega)
  have ea:its.toArray ++ its2.toArray=(its ++ its2).toArray:=by simp
  rw [ea]
  exact ⟨.ref _,_,I.lnew (t':=s.toks) (r.append r2) (by rw [List.length_append]; omega),rfl,q _ I.fresh⟩
noncomputable def rRep:R2:=fun x y H Q=>∃ l k xs,x=.ref l∧y=.int k∧H l=some (.lst xs)∧-(2 ^ 63)≤k∧k < 2 ^ 63∧xs.length * k.toNat≤sizeLine ∧
  ∀ p,H p=none→Q (.ref p) (upd H p (.lst (List.replicate k.toNat xs).flatten))
theorem len_rep {α:Type} (xs:List α) (k:Nat):(List.replicate k xs).flatten.length=k * xs.length:=by
  induction k with
  | zero=>simp
  | succ k ih=>rw [List.replicate_succ,List.flatten_cons,List.length_append,ih,Nat.succ_mul,Nat.add_comm]
theorem op_rep:OpR X (binaryOp .Mult) rRep:=by
  intro pins s σ H x y v u Q I rx ry h
  obtain ⟨l,k,xs,rfl,rfl,hH,h1,h2,hz,q⟩:=h
  cases rx
  obtain ⟨t,rfl⟩:=ry
  obtain ⟨z,its,n,r,hl,e⟩:=I.lstM hH
  have hlen:its.toArray.size * k.toNat≤sizeLine:=by rw [List.size_toArray,← hl]; exact hz
  have hcap:¬ its.toArray.size * k.toNat > (2 ^ 63 - 1) / 8:=by
    have:(sizeLine:Nat)≤(2 ^ 63 - 1) / 8:=by decide
    omega
  have hfit:¬ (!Builtin.List.listFitsIndex k)=true:=by
    rw [fitsIndex_both h1 h2]
    exact Bool.false_ne_true
  have hlong:¬ Builtin.List.listTooLong (its.toArray.size * k.toNat)=true:=by
    rw [notLongL hlen]
    exact Bool.false_ne_true
  have hnew:List.foldl (fun x1 x2=>x1 ++ x2) #[] (List.replicate (if its.toArray.isEmpty=true then 0 else k.toNat) its.toArray)=(List.replicate k.toNat its).flatten.toArray:=by
    have f0:∀ m:Nat,List.foldl (fun x1 x2=>x1 ++ x2) #[] (List.replicate m its.toArray)=(List.replicate m its).flatten.toArray:=fun m=>by
      have:=foldl_rep its m []
      rw [List.nil_append] at this
      exact this
    rw [f0]
    cases its with
    | nil=>simp
    | cons a r'=>rw [if_neg (by simp)]
  refine wpAny_binaryOp_repeat_ref (T:="list") (U:="int") (by decide) ⟨_,e,rfl⟩ (fun s'=>typeIs_int s' k t) noFill_list_mul F.fills_int_mul F.slot_int_rmul repeat_list F.slot_int_index.lookup
    (call_meets F.slot_int_rmul (typeIs_int s k t) F.entry_int_rmul (F.args_int_rmul_2 _ _) (int___rmul___int_list k t l its.toArray n)
      ⟨e,rfl,⟨_,e,rfl⟩,call_meets F.slot_list_mul ⟨_,e,rfl⟩ F.entry_list_mul (F.args_list_mul_2 _ _) (AutoListH.list___mul___list_int_3 l its.toArray n k t hfit hcap hlong) ⟨e,?_⟩⟩)
  rw [hnew]
  exact ⟨.ref _,_,I.lnew (t':=s.toks) (r.rep k.toNat) (by rw [len_rep,Nat.mul_comm]; exact hz),rfl,q _ I.fresh⟩
end
section
variable {prog:Program} {w:World} {A:Around} {E:Value→Shared→Prop} {s:Shared}
set_option maxRecDepth 100000 in
end
section
variable {X:Cx}
end
end L2
namespace Att
open PySem PySem.W PySem.Calls PyProof.Rows
theorem ints_of_wellAll {P:Params} {h:Heap}:∀ (ns:List Int) (vs:List Value),WellAll P h vs (ns.map WData.int)→IntsAre vs ns:=by
  intro ns
  induction ns with
  | nil =>
    intro vs w
    rw [List.map_nil] at w
    cases w
    exact .nil
  | cons n ns ih =>
    intro vs w
    rw [List.map_cons] at w
    cases w with
    | cons a b =>
      cases a
      exact .cons _ _ (ih _ b)
theorem script_of {l:OpenLaw} {n:Nat} (hn:l.most=some n) {P:Params} {h:Heap} {args:List WData} {vals:List Value}
    (hpre:l.row.toRowW.claim.pre args=true) (hwl:WellAll P h vals args) :
    ∃ a vs ns,vals=[Value.ref a]∧args=[WData.list (ns.map WData.int)]∧h.get? a=some { cls:=.type "list",data:=.seq vs.toArray }∧IntsAre vs ns∧ns.length≤n:=by
  have hsh:WShape.hasAll [] args [.list .int]=true:=(pre_splitW hpre).1
  have hc:l.pre.holds [] { args:=args }=true:=(pre_splitW hpre).2
  obtain ⟨d,r,rfl,h1,h2⟩:=hasAllW_cons hsh
  obtain rfl:=hasAllW_nil h2
  obtain ⟨xs,rfl,h3⟩:=hasW_list h1
  obtain ⟨ns,rfl⟩:=items_int h3
  have hlen:ns.length≤n:=by
    unfold OpenLaw.pre at hc
    have h4:(WTm.not (.lt (.lit (.int (n:Int))) (.len (.arg 0)))).holds [] { args:=[.list (ns.map .int)] }=true:=by
      have h4:=(holds_andW hc).1
      rw [hn] at h4
      exact h4
    have h5:=condW_of h4 (w_not (w_lt w_lit (w_len_list (w_arg rfl))))
    rw [List.length_map] at h5
    refine Nat.le_of_not_lt fun q=>?_
    have q':(n:Int) < ((ns.length:Nat):Int):=by omega
    first
      | (rw [decide_eq_true q'] at h5; exact absurd h5 (by decide))
      | (simp at h5; omega)
  cases hwl with
  | cons w1 w2 =>
    cases w2
    cases w1 with
    | list ho hall=>exact ⟨_,_,ns,rfl,rfl,ho,ints_of_wellAll ns _ hall,hlen⟩
theorem post_true (l:OpenLaw) (args:List WData):l.row.toRowW.claim.post args (.bool true) args=true :=
  postW_of (r:=l.row.toRowW) (X:=(true == true))
    (show WShape.has [] (.bool true) .bool=true by first | rfl | decide | simp [WShape.has,WShape.arms,WShape.armsAll])
    (show (WTm.eq .res (.lit (.bool true))).value [] { args:=args,res:=some (.bool true),after:=args }=some (.bool (true == true)) from w_eq_bool (w_res rfl) w_lit) rfl
theorem attach_call {l:OpenLaw} {n:Nat} {q:Program} {loose:List Str} {XP:(Str→Option Value)→Heap→Prop} {YP:World→Heap→Prop} {d:DefRec}
    (hn:l.most=some n) (hdf:d.params.defaults=[])
    (call:∀ (w:World) (s₀ s₁:Shared) (mg mb:Str→Option Value) (fa:Addr) (o:Obj) (pm cd doc:Value) (a:Addr) (vs:List Value) (ns:List Int),
      Ground q loose [] XP w s₀ mg mb s₁.heap→YP w s₁.heap →
      s₁.heap.get? fa=some o→o.data=.func (docDef d.name d.params d.body d.scope pm cd doc)→s₁.heap.CodeRec cd d.name→mg d.name=some (.ref fa) →
      s₁.heap.get? a=some { cls:=.type "list",data:=.seq vs.toArray }→IntsAre vs ns→ns.length≤n→s₁.gens=#[] →
      codeAny (model l.prog w) callerA (.call (.ref fa) ⟨[.ref a],[]⟩) (fun r s'=>r=.ok (.ret (.bool true))∧OldK s₁.heap s'.heap∧s'.os=s₁.os∧AllBare s'.gens) s₁) :
    WalkO q loose XP YP l.row.toRowW d [] (fun f vs=>PySem.call f vs):=by
  intro w s₀ s₁ mg mb G Y fa o pm cd doc dV kV ho hd hcd hD hmg hg args vals as hpre hlay hrd hwl hlo
  obtain rfl:dV=.none:=Dflts.none hD hdf
  obtain rfl:kV=.none:=Dflts.noKw hD
  obtain ⟨a,vs,ns,rfl,rfl,hobj,hints,hlen⟩:=script_of hn hpre hwl
  refine enter_call (codeAny_mono (call w s₀ s₁ mg mb fa o pm cd doc a vs ns G Y ho (fd_plain hd) hcd hmg hobj hints hlen hg) fun r s' hq=>?_)
  obtain ⟨rfl,h2,h3,h4⟩:=hq
  exact ⟨.inl ⟨.bool true,.bool true,[],rfl,fun _=>rfl,.bool true,post_true l _,fun _=>⟨List.Pairwise.nil,fun _ hm=>(nomatch hm)⟩⟩,h2,h3,h4⟩
section
variable {prog:Program} {w:World} {A:Around} {E:Value→Shared→Prop} {s:Shared} {K:Frag}
end
end Att
namespace L2
open PySem PySem.Spec PyProof.Rows
theorem vals_ints:∀ {vs:List Value} {ns:List Int},IntsAre vs ns→Vals (ns.map V.int) vs
  | _,_,.nil=>.nil
  | _,_,.cons n t h=>.cons ⟨t,rfl⟩ (vals_ints h)
end L2
namespace L2
open PySem PySem.Spec PyProof.Rows
end L2
namespace L2
open PySem PySem.Spec PyProof.Rows
noncomputable def defArgs (s:Stmt):Arguments:=match s with
  | .FunctionDef _ a _ _ _ _ _ _ _ _=>a
  | _=>{ posonlyargs:=[],args:=[],vararg:=none,kwonlyargs:=[],kw_defaults:=[],kwarg:=none,defaults:=[] }
noncomputable def defBody (s:Stmt):List Stmt:=match s with
  | .FunctionDef _ _ b _ _ _ _ _ _ _=>b
  | _=>[]
noncomputable def defScope (s:Stmt):Scope:=match s with
  | .FunctionDef _ _ _ _ _ _ sc _ _ _=>sc
  | _=>{ kind:=.function,names:=[],isGenerator:=false,isCoroutine:=false }
noncomputable abbrev CX0:CXT:=fun _ _ _ _ _ _=>False
noncomputable abbrev E0:XK:=fun _ _ _=>False
theorem pass0 {X:Cx}:Passes CX0 X E0:=fun _ _ _ _ _ _ _ h=>h.elim
structure Fun (K:PySem.W.Frag) (x qual:Str) (st:Stmt) (f:Addr) (fd:FuncData):Prop where
  ex:∃ (oc:Value) (od:Option Addr) (kV doc pm:Value) (an:Option Addr) (cdv ct:Value) (osl:Array (Option Value)),
    fd=PySem.W.fnOf x qual (defArgs st) (defBody st) (defScope st) .none kV doc pm an cdv ct∧K.lookup f=some ⟨oc,od,.func fd,osl⟩∧PySem.W.codeIn K cdv qual=true
  kp:PySem.W.keepIn K (.ref f)=true
section
variable {P:Program} {w:World} {K:PySem.W.Frag} {mg:Str→Option Value} {base:Heap}
theorem Fun.ok {x qual:Str} {st:Stmt} {f:Addr} {fd:FuncData} {N ps:List Str} {k:Nat} {sp:Sp} (F:Fun K x qual st f fd) (S:FnScope N ps (defScope st)) (len:∀ vs H Q E,sp vs H Q E→vs.length=ps.length)
    (hbody:∀ (cdv:Value) (A:Around) (outer:List Env) (s:Shared) (H:Hp) (vs:List V) (Q:VK) (E:XK),Room k (A.deeper (envOfC qual (defScope st) s.heap.objs.size f cdv))→sp vs H Q E →
      ∃ t,PSs (cxOf CX0 P w K mg base N qual (defScope st) f cdv A outer s H E).nox (defBody st) t∧t { nx:=fun _ H'=>Q .non H',rt:=Q } (start N vs) H):FnOk P w K mg base CX0 (k + 1) f fd ps sp:=by
  obtain ⟨oc,od,kV,doc,pm,an,cdv,ct,osl,rfl,lk,hcd⟩:=F.ex
  refine fn_of lk hcd S len fun A outer s H vs Q E hr hsp=>?_
  obtain ⟨t,h,q⟩:=hbody cdv A outer s H vs Q E hr hsp
  exact ⟨t,h.nox,q⟩
theorem Fun.binds {x qual:Str} {st:Stmt} {f:Addr} {fd:FuncData} {ps:List Str} (F:Fun K x qual st f fd)
    (h:∀ (kV doc pm:Value) (an:Option Addr) (cdv ct:Value) (us:List Value),us.length=ps.length→bindArgs (PySem.W.fnOf x qual (defArgs st) (defBody st) (defScope st) .none kV doc pm an cdv ct) ⟨us,[]⟩=pure (ps.zip us)):Binds K fd ps []:=by
  obtain ⟨oc,od,kV,doc,pm,an,cdv,ct,osl,rfl,lk,hcd⟩:=F.ex
  exact .all (h kV doc pm an cdv ct)
theorem fun_mk {x qual:Str} {st:Stmt} {f:Addr} {oc:Value} {od an:Option Addr} {osl:Array (Option Value)} {kV doc pm cdv ct:Value} (l:K.lookup f=some ⟨oc,od,.func (PySem.W.fnOf x qual (defArgs st) (defBody st) (defScope st) .none kV doc pm an cdv ct),osl⟩)
    (c:PySem.W.codeIn K cdv qual=true) (k:PySem.W.keepIn K (.ref f)=true):Fun K x qual st f (PySem.W.fnOf x qual (defArgs st) (defBody st) (defScope st) .none kV doc pm an cdv ct):=⟨⟨oc,od,kV,doc,pm,an,cdv,ct,osl,rfl,l,c⟩,k⟩
end
section
variable {X:Cx}
end
theorem iteF {A B:Prop} (h:B):if false=true then A else B:=by
  rw [if_neg Bool.false_ne_true]
  exact h
theorem iteT {A B:Prop} (h:A):if true=true then A else B:=by
  rw [if_pos rfl]
  exact h
end L2
namespace L2
open PySem PySem.Spec PyProof.Rows
noncomputable def compCx (X:Cx) (N':List Str) (scope:Scope) (cl:List (Str×Addr)) (C:Addr) (s₀:Shared) (H₀:Hp) (ex:List Addr) (pn:List (Addr×Obj)):Cx where
  prog:=X.prog
  w:=X.w
  K:=X.K
  mg:=X.mg
  base:=X.base
  A:=X.A
  N:=N'
  s₀:=s₀
  H₀:=H₀
  env:=compEnvC scope cl C X.env
  outer:=X.stack
  stack:=X.stack
  ex:=ex
  fn:=fun x=>scope.names.lookup x == some NameKind.cell
  calm:=X.calm
  pn:=pn
  xe:=fun _ _=>False
structure CompScope (X:Cx) (N':List Str) (pick:List (Option Nat)) (scope:Scope):Prop where
  kind:scope.kind=.function
  nd:N'.Nodup
  names:∀ x∈scope.names,x.2=.local→scope.names.lookup x.1=some .local
  uniq:(scope.names.map (·.1)).Nodup
  len:pick.length=N'.length
  got:∀ (i j:Nat) (x:Str),pick[i]? = some (some j)→N'[i]? = some x→scope.names.lookup x=some .free∧X.N[j]? = some x
  free:∀ x∈scope.names,x.2=.free→X.env.kindOf x.1=some .cell∨X.env.kindOf x.1=some .free
noncomputable def spick (pick:List (Option Nat)) (σ:St):St:=pick.map fun o=>o.bind fun j=>(σ[j]?).bind id
noncomputable def PIfs (X:Cx) (ifs:List Expr) (t:TT):Prop :=
  ∀ (pins:List (Addr×Obj)) (s:Shared) (σ:St) (H:Hp) (Q:Bool→Hp→Prop),Inv X pins σ H s→t σ H Q →
    wpAny (model X.prog X.w) X.A (forIn ifs true fun c r=>if r=true then do let ok ← isTrue c X.env (eval c X.env); pure (ForInStep.yield ok) else pure (ForInStep.yield r)) (TP X pins σ Q) X.xe s
noncomputable def tYes:TT:=fun _ H Q=>Q true H
theorem pifs_nil {X:Cx}:PIfs X [] tYes:=fun pins s σ H Q I h=>wpAny_tests_nil ⟨H,I,h⟩
theorem pifs_one {X:Cx} {c:Expr} {t:TT} (h:PT X c t):PIfs X [c] t:=fun pins s σ H Q I q=>wpAny_tests_one (h pins s σ H Q I q)
noncomputable def CompW (J:It) (g:TG) (tt:TT) (te:TE) (Q:VK) (σ:St) (H:Hp):Prop:=∃ W:Nat→Nat→St→List V→Hp→Prop,(∃ m,W 0 m σ [] H) ∧
  ∀ i m σ' ys H,W i m σ' ys H→ys.length < sizeLine ∧
    ((J.stop i H∧∀ p,H p=none→Q (.ref p) (upd H p (.lst ys))) ∨
     (J.go i H∧∃ N:St→List V→Hp→Prop,(∀ σ2 zs H2,N σ2 zs H2→∃ m',m' < m∧W (i + 1) m' σ2 zs H2)∧∀ x H',J.yld i H x H'→g x σ' H' fun σ2 H2=>tt σ2 H2 fun b H3 =>
        if b=true then te σ2 H3 fun y H4=>N σ2 (ys ++ [y]) H4 else N σ2 ys H3))
noncomputable def tComp (wi:TI) (pick:List (Option Nat)) (g:TG) (tt:TT) (te:TE):TE:=fun σ H Q=>wi σ H fun J H1=>CompW J g tt te Q (spick pick σ) H1
noncomputable def addFree (env:Env):List (Str×NameKind)→List (Str×Addr)→List (Str×Addr)
  | [],acc=>acc
  | (n,k) :: r,acc=>addFree env r (if (k == NameKind.free)=true then (n,(env.cells.lookup n).getD 0) :: acc else acc)
theorem addFree_eq {env:Env}:∀ (names:List (Str×NameKind)) (acc:List (Str×Addr)),(∀ x∈names,x.2=.free→∃ c,env.cells.lookup x.1=some c) →
    (forIn names acc fun (x:Str×NameKind) cs=>(if (x.2 == NameKind.free)=true then do let a ← cellOf env x.1; pure (ForInStep.yield ((x.1,a) :: cs)) else pure (ForInStep.yield cs):Sem (ForInStep (List (Str×Addr)))))=pure (addFree env names acc)
  | [],acc,_=>rfl
  | (n,k) :: r,acc,h=>by
    rw [List.forIn_cons]
    by_cases hk:(k == NameKind.free)=true
    · obtain ⟨c,hc⟩:=h (n,k) List.mem_cons_self (by simpa using hk)
      have e1:cellOf env n=pure c:=by unfold cellOf; rw [show env.cells.lookup n=some c from hc]
      simp only [hk,if_true,e1,pure_bind]
      rw [addFree_eq r _ fun x hx=>h x (List.mem_cons_of_mem _ hx)]
      show _=pure (addFree env r (if (k == NameKind.free)=true then _ else _))
      rw [if_pos hk,show env.cells.lookup n=some c from hc]
      rfl
    · simp only [hk,Bool.false_eq_true,if_false,pure_bind]
      rw [addFree_eq r _ fun x hx=>h x (List.mem_cons_of_mem _ hx)]
      show _=pure (addFree env r (if (k == NameKind.free)=true then _ else _))
      rw [if_neg hk]
theorem addFree_from {env:Env} {x:Str} {c:Addr}:∀ (names:List (Str×NameKind)) (acc:List (Str×Addr)),(addFree env names acc).lookup x=some c →
    ((x,NameKind.free)∈names∧c=(env.cells.lookup x).getD 0)∨acc.lookup x=some c
  | [],acc,h=>.inr h
  | (n,k) :: r,acc,h=>by
    unfold addFree at h
    rcases addFree_from r _ h with ⟨a,b⟩ | q
    · exact .inl ⟨List.mem_cons_of_mem _ a,b⟩
    · by_cases hk:(k == NameKind.free)=true
      · rw [if_pos hk,List.lookup_cons] at q
        cases hx:x == n with
        | true =>
          rw [hx] at q
          have e1:x=n:=by simpa using hx
          have e2:k=.free:=by simpa using hk
          subst e1; subst e2
          exact .inl ⟨List.mem_cons_self,(Option.some.inj q).symm⟩
        | false=>rw [hx] at q; exact .inr q
      · rw [if_neg hk] at q; exact .inr q
theorem addFree_acc {env:Env} {x:Str}:∀ (names:List (Str×NameKind)) (acc:List (Str×Addr)),(acc.lookup x).isSome=true∨(x,NameKind.free)∈names→((addFree env names acc).lookup x).isSome=true
  | [],acc,h=>h.elim id fun z=>by cases z
  | (n,k) :: r,acc,h=>by
    unfold addFree
    refine addFree_acc r _ ?_
    by_cases hk:(k == NameKind.free)=true
    · rw [if_pos hk,List.lookup_cons]
      cases hx:x == n with
      | true=>exact .inl rfl
      | false =>
        refine h.imp id fun z=>?_
        rcases List.mem_cons.mp z with e | z
        · exact absurd (show (x == n)=true by cases e; simp) (by rw [hx]; simp)
        · exact z
    · rw [if_neg hk]
      refine h.imp id fun z=>?_
      rcases List.mem_cons.mp z with e | z
      · exact absurd (show (k == NameKind.free)=true by cases e; rfl) hk
      · exact z
theorem cf_from {x:Str} {c:Addr}:∀ (names:List (Str×NameKind)) (n:Nat) (acc:List (Str×Addr)),(cellsFrom n names acc).lookup x=some c→(n≤c∧(x,NameKind.cell)∈names)∨acc.lookup x=some c
  | [],_,_,h=>.inr h
  | (y,k) :: r,n,acc,h=>by
    unfold cellsFrom at h
    by_cases hk:(k == NameKind.cell)=true
    · rw [if_pos hk] at h
      rcases cf_from r _ _ h with ⟨a,b⟩ | q
      · exact .inl ⟨Nat.le_trans (Nat.le_succ _) a,List.mem_cons_of_mem _ b⟩
      · rw [List.lookup_cons] at q
        cases hx:x == y with
        | true =>
          rw [hx] at q
          have e1:x=y:=by simpa using hx
          have e2:k=.cell:=by simpa using hk
          subst e1; subst e2
          exact .inl ⟨Nat.le_of_eq (Option.some.inj q),List.mem_cons_self⟩
        | false=>rw [hx] at q; exact .inr q
    · rw [if_neg hk] at h
      rcases cf_from r _ _ h with ⟨a,b⟩ | q
      · exact .inl ⟨a,List.mem_cons_of_mem _ b⟩
      · exact .inr q
theorem cf_inj:∀ (names:List (Str×NameKind)) (n:Nat) (acc:List (Str×Addr)),(∀ x y c,acc.lookup x=some c→acc.lookup y=some c→x=y)→(∀ x c,acc.lookup x=some c→c < n) →
    ∀ x y c,(cellsFrom n names acc).lookup x=some c→(cellsFrom n names acc).lookup y=some c→x=y
  | [],_,_,hi,_,x,y,c,h1,h2=>hi x y c h1 h2
  | (z,k) :: r,n,acc,hi,hl,x,y,c,h1,h2=>by
    unfold cellsFrom at h1 h2
    by_cases hk:(k == NameKind.cell)=true
    · rw [if_pos hk] at h1 h2
      refine cf_inj r (n + 1) ((z,n) :: acc) (fun x y c e1 e2=>?_) (fun x c e=>?_) x y c h1 h2
      · rw [List.lookup_cons] at e1 e2
        cases hx:x == z with
        | true =>
          rw [hx] at e1
          cases hy:y == z with
          | true=>exact (by simpa using hx:x=z).trans (by simpa using hy:y=z).symm
          | false =>
            rw [hy] at e2
            have e3:n=c:=Option.some.inj e1
            exact absurd (e3 ▸ hl y c e2) (Nat.lt_irrefl _)
        | false =>
          rw [hx] at e1
          cases hy:y == z with
          | true =>
            rw [hy] at e2
            have e3:n=c:=Option.some.inj e2
            exact absurd (e3 ▸ hl x c e1) (Nat.lt_irrefl _)
          | false=>rw [hy] at e2; exact hi x y c e1 e2
      · rw [List.lookup_cons] at e
        cases hx:x == z with
        | true=>rw [hx] at e; have e3:n=c:=Option.some.inj e; exact e3 ▸ Nat.lt_succ_self n
        | false=>rw [hx] at e; exact Nat.lt_succ_of_lt (hl x c e)
    · rw [if_neg hk] at h1 h2
      exact cf_inj r n acc hi hl x y c h1 h2
theorem cf_cell {x:Str} {c:Addr}:∀ (names:List (Str×NameKind)) (h:Heap) (acc:List (Str×Addr)),(cellsFrom h.objs.size names acc).lookup x=some c→acc.lookup x=some c∨(h.objs.size≤c∧(pushCells h names).IsCell c none)
  | [],_,_,e=>.inl e
  | (y,k) :: r,h,acc,e=>by
    unfold cellsFrom at e
    unfold pushCells
    by_cases hk:(k == NameKind.cell)=true
    · rw [if_pos hk] at e ⊢
      have e':=e
      rw [show h.objs.size + 1=(h.push { cls:=.type "cell",data:=.cell none }).objs.size from (Heap.size_push ..).symm] at e'
      rcases cf_cell r _ _ e' with q | ⟨a,q⟩
      · rw [List.lookup_cons] at q
        cases hx:x == y with
        | true =>
          rw [hx] at q
          have e3:h.objs.size=c:=Option.some.inj q
          subst e3
          exact .inr ⟨Nat.le_refl _,_,pushCells_keeps _ _ _ _ (Heap.get?_push_size _ rfl),rfl⟩
        | false=>rw [hx] at q; exact .inl q
      · refine .inr ⟨?_,q⟩
        rw [Heap.size_push] at a
        omega
    · rw [if_neg hk] at e ⊢
      exact cf_cell r h acc e
theorem wpAny_newBlock {M:Model} {A:Around} {E:Value→Shared→Prop} {s:Shared} {scope:Scope} {globals:Addr} {cl:List (Str×Addr)} {qual:Str} {env:Env} {Q:Env→Shared→Prop}
    (hQ:∀ h',(∀ b o,s.heap.get? b=some o→h'.get? b=some o)→h'.Ns s.heap.objs.size (fun _=>none) →
      (∀ x c,(cellsFrom (s.heap.objs.size + 1) scope.names cl).lookup x=some c→cl.lookup x=some c∨(s.heap.objs.size < c∧h'.IsCell c none)) →
      Q { scope,locals:=s.heap.objs.size,globals,cells:=cellsFrom (s.heap.objs.size + 1) scope.names cl,qual,func:=none,code:=env.code,frame:=env.frame,builtins:=env.builtins } { s with heap:=h' }) :
    wpAny M A (newFunctionEnv scope globals cl [] qual none .none (some env)) Q E s:=by
  simp only [newFunctionEnv,Option.isSome_some,if_true]
  refine wpAny_bind (wpAny_alloc ?_)
  refine wpAny_bind (wpAny_layCells _ (fun name kind cells=>by cases hkc:kind == NameKind.cell <;> simp [hkc]) _ _ _ _ ?_)
  rw [show ({ s with heap:=s.heap.push { cls:=.type "dict",data:=.dict #[] } }:Shared).heap.objs.size=s.heap.objs.size + 1 from Heap.size_push ..]
  refine wpAny_bind (wpAny_pure (wpAny_pure ?_))
  refine hQ _ (fun b o e=>pushCells_keeps _ _ b o (Heap.get?_push_of_some _ e)) ((Heap.Ns.new s.heap (.type "dict")).keeps (pushCells_keeps _ _)) fun x c e=>?_
  have e':=e
  rw [show s.heap.objs.size + 1=(s.heap.push { cls:=.type "dict",data:=.dict #[] }).objs.size from (Heap.size_push ..).symm] at e'
  rcases cf_cell scope.names (s.heap.push { cls:=.type "dict",data:=.dict #[] }) cl e' with q | ⟨a,q⟩
  · exact .inl q
  · refine .inr ⟨?_,q⟩
    rw [Heap.size_push] at a
    omega
end L2
namespace L2
open PySem PySem.Spec PyProof.Rows
theorem rl_from {env:Env} {x:Str} {k':NameKind}:∀ {names:List (Str×NameKind)},(names.map fun (n,k)=>if (k == NameKind.free && env.scope.kind == .function && env.kindOf n == some .cell) then (n,NameKind.cell) else (n,k)).lookup x=some k' →
  ∃ k,names.lookup x=some k∧(k'=k∨(k=.free∧k'=.cell))
 | [],h=>by cases h
 | (n,k) :: r,h=>by
  rw [List.map_cons] at h
  by_cases hc:(k == NameKind.free && env.scope.kind == .function && env.kindOf n == some .cell)=true
  ·have e:(match ((n,k):Str×NameKind) with | (n,k)=>if (k == NameKind.free && env.scope.kind == .function && env.kindOf n == some .cell) then (n,NameKind.cell) else (n,k))=(n,NameKind.cell):=if_pos hc
   rw [e,List.lookup_cons] at h
   rw [List.lookup_cons]
   cases hx:x == n with
   | true =>
    rw [hx] at h
    have hk:k=.free:=by
     simp only [Bool.and_eq_true] at hc
     simpa using hc.1.1
    exact ⟨k,rfl,.inr ⟨hk,(Option.some.inj h).symm⟩⟩
   | false=>rw [hx] at h; exact rl_from h
  ·have e:(match ((n,k):Str×NameKind) with | (n,k)=>if (k == NameKind.free && env.scope.kind == .function && env.kindOf n == some .cell) then (n,NameKind.cell) else (n,k))=(n,k):=if_neg hc
   rw [e,List.lookup_cons] at h
   rw [List.lookup_cons]
   cases hx:x == n with
   | true=>rw [hx] at h; exact ⟨k,rfl,.inl (Option.some.inj h).symm⟩
   | false=>rw [hx] at h; exact rl_from h
theorem rl_to {env:Env} {x:Str} {k:NameKind}:∀ {names:List (Str×NameKind)},names.lookup x=some k →
  ∃ k',(names.map fun (n,k)=>if (k == NameKind.free && env.scope.kind == .function && env.kindOf n == some .cell) then (n,NameKind.cell) else (n,k)).lookup x=some k'∧(k'=k∨(k=.free∧k'=.cell))
 | [],h=>by cases h
 | (n,j) :: r,h=>by
  rw [List.map_cons]
  rw [List.lookup_cons] at h
  by_cases hc:(j == NameKind.free && env.scope.kind == .function && env.kindOf n == some .cell)=true
  ·have e:(match ((n,j):Str×NameKind) with | (n,k)=>if (k == NameKind.free && env.scope.kind == .function && env.kindOf n == some .cell) then (n,NameKind.cell) else (n,k))=(n,NameKind.cell):=if_pos hc
   rw [e,List.lookup_cons]
   cases hx:x == n with
   | true =>
    rw [hx] at h
    have hk:j=.free:=by
     simp only [Bool.and_eq_true] at hc
     simpa using hc.1.1
    exact ⟨.cell,rfl,.inr ⟨(Option.some.inj h).symm.trans hk,rfl⟩⟩
   | false=>rw [hx] at h; exact rl_to h
  ·have e:(match ((n,j):Str×NameKind) with | (n,k)=>if (k == NameKind.free && env.scope.kind == .function && env.kindOf n == some .cell) then (n,NameKind.cell) else (n,k))=(n,j):=if_neg hc
   rw [e,List.lookup_cons]
   cases hx:x == n with
   | true=>rw [hx] at h; exact ⟨j,rfl,.inl (Option.some.inj h)⟩
   | false=>rw [hx] at h; exact rl_to h
theorem lookup_nodup {x:Str} {k:NameKind}:∀ {names:List (Str×NameKind)},(names.map (·.1)).Nodup→(x,k)∈names→names.lookup x=some k
 | [],_,h=>by cases h
 | (n,j) :: r,nd,h=>by
  have nd:(n :: r.map (·.1)).Nodup:=nd
  obtain ⟨n1,n2⟩:=List.nodup_cons.mp nd
  rw [List.lookup_cons]
  rcases List.mem_cons.mp h with e | h2
  ·cases e; simp
  ·have hx:(x == n)=false:=by
    have:x≠n:=by
     intro e
     exact n1 (List.mem_map.mpr ⟨(x,k),h2,e⟩)
    simpa using this
   rw [hx]; exact lookup_nodup n2 h2
theorem compLoop_gen {prog:Program} {w:World} {A:Around} {R:Result→Shared→Prop} {s:Shared} {elt target iter:Expr} {ifs:List Expr} {scope:Scope} {pos:Pos} {it acc:Value} {env:Env} (I:Nat→Shared→Prop)
  (turn:∀ n s,I n s→wpAny (model prog w) A (pyNext it) (fun r s₁=>match r with
   | none=>R (.ok .next) s₁
   | some v=>wpAny (model prog w) A (letOwnedTupleGo target it v) (fun _ s₁'=>wpAny (model prog w) A (assign target env v) (fun _ s₂ =>
     wpAny (model prog w) A (forIn ifs true fun c r=>if r=true then do let ok ← isTrue c env (eval c env); pure (ForInStep.yield ok) else pure (ForInStep.yield r)) (fun ok s₃ =>
      if ok=true then wpAny (model prog w) A (eval elt env) (fun x s₄ =>
       wpAny (model prog w) A (call (.builtin "list.append") [acc,x]) (fun _ s₅=>∃ m,m < n∧I m s₅) (fun _ _=>False) s₄) (fun _ _=>False) s₃
      else ∃ m,m < n∧I m s₃) (fun _ _=>False) s₂) (fun _ _=>False) s₁') (fun _ _=>False) s₁) (fun _ _=>False) s)
  (n:Nat) (h:I n s) :
  codeAny (model prog w) A (.compLoop (.ListComp elt [⟨target,iter,ifs,0⟩] scope pos) 0 it acc env) R s:=by
 refine codeAny_loop rfl I (fun n s hI=>?_) n h
 show wpAny _ A ((compTurn (.ListComp elt [⟨target,iter,ifs,0⟩] scope pos) 0 it acc env).onRaise (fun x=>do noteFrame x env; theTreesLotGoes x)) _ _ s
 refine wpAny_noted ?_
 rw [compTurn_list]
 refine wpAny_bind (wpAny_standAt (wpAny_bind (wpAny_mono (turn n s hI) (fun r s₁ h₁=>?_) fun _ _ h'=>h'.elim)))
 cases r with
 | none=>exact wpAny_pure h₁
 | some v =>
  refine wpAny_bind (wpAny_mono h₁ (fun _ s₁' h₁'=>?_) fun _ _ h'=>h'.elim)
  refine wpAny_bind (wpAny_mono h₁' (fun _ s₂ h₂=>wpAny_bind (wpAny_mono h₂ (fun ok s₃ h₃=>?_) fun _ _ h'=>h'.elim)) fun _ _ h'=>h'.elim)
  cases ok with
  | false=>exact wpAny_pure ⟨rfl,h₃⟩
  | true =>
   exact wpAny_bind (wpAny_bind (wpAny_mono h₃ (fun x s₄ h₄=>wpAny_bind (wpAny_mono h₄ (fun _ s₅ h₅=>wpAny_pure (wpAny_pure ⟨rfl,h₅⟩)) fun _ _ h'=>h'.elim)) fun _ _ h'=>h'.elim))
section
variable {X:Cx} {N':List Str} {pick:List (Option Nat)} {scope:Scope} {pins:List (Addr×Obj)} {σ:St} {H₂:Hp} {s₂:Shared} {tg:Expr} {J:It} {fp:List Addr} {it:Addr} {tn:Nat→Heap→Prop}
theorem clos_of (S:CompScope X N' pick scope) (I:Inv X pins σ H₂ s₂):closureFor scope X.env=pure (addFree X.env scope.names []):=by
 have e:=addFree_eq (env:=X.env) scope.names [] fun x hx hk=>I.ok.has x.1 (S.free x hx hk)
 show ((forIn scope.names ([]:List (Str×Addr)) fun (x:Str×NameKind) cs=>(if (x.2 == NameKind.free)=true then do let a ← cellOf X.env x.1; pure (ForInStep.yield ((x.1,a) :: cs)) else pure (ForInStep.yield cs):Sem (ForInStep (List (Str×Addr))))) >>= fun cs=>pure cs)=_
 rw [e,pure_bind]
theorem cap_of (S:CompScope X N' pick scope) (I:Inv X pins σ H₂ s₂) {x:Str} {c:Addr} (h:(addFree X.env scope.names []).lookup x=some c):(x,NameKind.free)∈scope.names∧X.env.cells.lookup x=some c:=by
 rcases addFree_from _ _ h with ⟨a,b⟩ | q
 ·refine ⟨a,?_⟩
  obtain ⟨c',hc⟩:=I.ok.has x (S.free _ a rfl)
  rw [hc] at b ⊢
  rw [b]; rfl
 ·cases q
theorem cells_of (S:CompScope X N' pick scope) (I:Inv X pins σ H₂ s₂) {n:Nat} {x:Str} {c:Addr} (h:(cellsFrom n scope.names (addFree X.env scope.names [])).lookup x=some c) :
  (n≤c∧scope.names.lookup x=some .cell)∨(scope.names.lookup x=some .free∧X.env.cells.lookup x=some c):=by
 rcases cf_from _ _ _ h with ⟨a,b⟩ | q
 ·exact .inl ⟨a,lookup_nodup S.uniq b⟩
 ·obtain ⟨a,b⟩:=cap_of S I q
  exact .inr ⟨lookup_nodup S.uniq a,b⟩
theorem cells_free (S:CompScope X N' pick scope) (I:Inv X pins σ H₂ s₂) {n:Nat} {x:Str} {c:Addr} (hx:scope.names.lookup x=some .free) (hc:X.env.cells.lookup x=some c) :
  (cellsFrom n scope.names (addFree X.env scope.names [])).lookup x=some c:=by
 have h1:((addFree X.env scope.names []).lookup x).isSome=true:=addFree_acc _ _ (.inr (PySem.mem_of_lookup hx))
 obtain ⟨c',h2⟩:=Option.isSome_iff_exists.mp (PySem.W.cellsFrom_some scope.names n _ (.inr h1))
 rcases cells_of S I h2 with ⟨_,z⟩ | ⟨_,z⟩
 ·rw [hx] at z; cases z
 ·rw [hc] at z; cases z; exact h2
theorem frs_old (I:Inv X pins σ H₂ s₂) {b:Addr} (hb:b∈frs X.stack):b < s₂.heap.objs.size:=by
 rcases List.mem_cons.mp (I.stkSub b hb) with e | hb
 ·rw [e]; exact I.lt
 ·by_cases q:b < s₂.heap.objs.size
  ·exact q
  ·exact absurd hb (I.nofs (Nat.not_lt.mp q))
theorem comp_start (S:CompScope X N' pick scope) (I:Inv X pins σ H₂ s₂) (hf:∀ b∈fp,FpOk X pins H₂ b) (hfo:∀ b∈fp,b < s₂.heap.objs.size) {n:Nat} {C:Addr} {s₄:Shared} (hn:s₂.heap.objs.size≤n) (hC:s₂.heap.objs.size≤C) (hCn:C < n)
  (hos:s₄.os=s₂.os) (hge:s₄.gens=s₂.gens) (kp:∀ b o,s₂.heap.get? b=some o→s₄.heap.get? b=some o) (ns:s₄.heap.Ns C fun _=>none)
  (ce:∀ x c,(cellsFrom n scope.names (addFree X.env scope.names [])).lookup x=some c→(addFree X.env scope.names []).lookup x=some c∨(n≤c∧s₄.heap.IsCell c none)) :
  Inv (compCx X N' scope (cellsFrom n scope.names (addFree X.env scope.names [])) C s₂ H₂ fp (X.pn ++ pins)) [] (spick pick σ) H₂ s₄:=by
 have fr:∀ {a:Addr},s₂.heap.objs.size≤a→H₂ a=none:=fun h=>I.hok.fresh h
 have old:∀ {x:Str} {c:Addr},X.env.cells.lookup x=some c→c < s₂.heap.objs.size:=fun {x c} e=>let ⟨v,z⟩:=I.cell x c e; z.lt
 have pold:∀ p∈X.pn ++ pins,p.1 < s₂.heap.objs.size:=fun p hp=>Heap.lt_size (I.pin p hp).1
 refine ⟨⟨I.ok.mod,S.kind,I.ok.glob,I.ok.blt,hC,?inj,?has,?cab,I.ok.hd,I.ok.frames,.inl rfl,?exf,I.bs,Nat.le_trans I.ok.bsz I.sz,?noex,?exfs,I.stack,I.stkFree⟩,
  hos,by rw [hge]; exact I.bare,Un.kept kp,⟨_,ns,?loc⟩,?cell,fr hC,?freeC,?pin,I.hok.kept kp,?len⟩
 case inj =>
  refine cf_inj _ _ _ (fun x y c h1 h2=>?_) fun x c h=>?_
  ·exact I.ok.inj x y c (cap_of S I h1).2 (cap_of S I h2).2
  ·exact Nat.lt_of_lt_of_le (old (cap_of S I h).2) hn
 case has =>
  intro x hx
  have hx:(relabel scope X.env).names.lookup x=some .cell∨(relabel scope X.env).names.lookup x=some .free:=hx
  have go:∀ k,scope.names.lookup x=some k→k=.cell∨k=.free→∃ c,(cellsFrom n scope.names (addFree X.env scope.names [])).lookup x=some c:=fun k hk hq=>by
   rcases hq with rfl | rfl
   ·exact Option.isSome_iff_exists.mp (PySem.W.cellsFrom_some _ _ _ (.inl hk))
   ·obtain ⟨c,hc⟩:=I.ok.has x (S.free _ (PySem.mem_of_lookup hk) rfl)
    exact ⟨c,cells_free S I hk hc⟩
  rcases hx with hx | hx
  ·obtain ⟨k,hk,e | ⟨e,_⟩⟩:=rl_from hx
   ·exact go k hk (.inl e.symm)
   ·exact go k hk (.inr e)
  ·obtain ⟨k,hk,e | ⟨_,e⟩⟩:=rl_from hx
   ·exact go k hk (.inr e.symm)
   ·cases e
 case cab =>
  intro x c hx hc
  have hx:scope.names.lookup x=some .cell:=by simpa [compCx] using hx
  rcases cells_of S I hc with ⟨a,_⟩ | ⟨a,_⟩
  ·exact Nat.le_trans hn a
  ·rw [hx] at a; cases a
 case exf =>
  intro b hb
  refine ⟨Nat.ne_of_lt (Nat.lt_of_lt_of_le (hfo b hb) hC),fun x c hc=>?_⟩
  rcases cells_of S I hc with ⟨a,_⟩ | ⟨_,a⟩
  ·exact Nat.ne_of_gt (Nat.lt_of_lt_of_le (hfo b hb) (Nat.le_trans hn a))
  ·exact (hf b hb).2.2.2.2.1 x c a
 case noex =>
  intro b o e hb
  rcases (hf b hb).2.2.2.1 with z | z
  ·exact I.ok.noex b o e z
  ·exact absurd (Nat.lt_of_lt_of_le (Heap.lt_size e) (Nat.le_trans I.ok.bsz z)) (Nat.lt_irrefl _)
 case exfs =>
  intro b hb hs
  rcases List.mem_cons.mp (I.stkSub b hs) with e | e
  ·exact (hf b hb).2.1 e
  ·exact (hf b hb).2.2.1 e
 case loc =>
  intro i x v h1 h2 h3
  have h1:N'[i]? = some x:=h1
  have hp:∃ j,pick[i]? = some (some j)∧σ[j]? = some (some v):=by
   unfold spick at h2
   rw [List.getElem?_map] at h2
   cases e:pick[i]? with
   | none=>rw [e] at h2; cases h2
   | some o =>
    rw [e] at h2
    cases o with
    | none=>cases h2
    | some j =>
     refine ⟨j,rfl,?_⟩
     have h2':(σ[j]?).bind id=some v:=Option.some.inj h2
     cases e2:σ[j]? with
     | none=>rw [e2] at h2'; cases h2'
     | some q=>rw [e2] at h2'; exact congrArg some h2'
  obtain ⟨j,hj,hv⟩:=hp
  obtain ⟨hfr,hN⟩:=S.got i j x hj h1
  have hk:=S.free _ (PySem.mem_of_lookup hfr) rfl
  obtain ⟨m,hm,hl⟩:=I.loc
  obtain ⟨u,ru,lk⟩:=hl j x v hN hv (.inr hk)
  refine ⟨u,ru,?_⟩
  rcases lk with ⟨z,_⟩ | ⟨_,c,hc,hcell⟩
  ·rcases hk with q | q <;> (rw [show X.env.kindOf x=_ from z] at q; cases q)
  ·refine .inr ⟨?_,c,cells_free S I hfr hc,hcell.keeps kp⟩
   show (relabel scope X.env).names.lookup x=some .cell∨(relabel scope X.env).names.lookup x=some .free
   obtain ⟨k',hk',e | ⟨_,e⟩⟩:=rl_to (env:=X.env) hfr
   ·exact .inr (by rw [← e]; exact hk')
   ·exact .inl (by rw [← e]; exact hk')
 case cell =>
  intro x c hc
  rcases ce x c hc with z | ⟨_,z⟩
  ·obtain ⟨v,q⟩:=I.cell x c (cap_of S I z).2
   exact ⟨v,q.keeps kp⟩
  ·exact ⟨none,z⟩
 case freeC =>
  intro x c hc
  rcases cells_of S I hc with ⟨a,_⟩ | ⟨_,a⟩
  ·exact fr (Nat.le_trans hn a)
  ·exact I.freeC x c a
 case pin =>
  intro p hp
  have hp:p∈X.pn ++ pins:=by simpa [compCx] using hp
  obtain ⟨e,n0,ne,nf,d⟩:=I.pin p hp
  refine ⟨kp _ _ e,n0,Nat.ne_of_lt (Nat.lt_of_lt_of_le (pold p hp) hC),fun z=>?_,d⟩
  rcases List.mem_cons.mp (I.stkSub _ z) with e | e
  ·exact ne e
  ·exact nf e
 case len =>
  unfold spick
  rw [List.length_map]
  exact S.len
end
end L2
namespace L2
open PySem PySem.Spec PyProof.Rows
section
variable {X:Cx} {N':List Str} {pick:List (Option Nat)} {scope:Scope} {pins:List (Addr×Obj)} {σ:St} {H₂:Hp} {s₂:Shared} {tg:Expr} {J:It} {fp:List Addr} {it:Addr} {tn:Nat→Heap→Prop}
  {elt iter:Expr} {ifs:List Expr} {pos:Pos} {g:TG} {tt:TT} {te:TE}
theorem comp_block {E:Value→Shared→Prop} {RR:Value→Addr→Result→Shared→Prop} {Qv:V→Hp→Prop} (S:CompScope X N' pick scope) (hc:X.calm=true) (I₂:Inv X pins σ H₂ s₂) (T:Turn X.prog X.w X.K tg J fp it tn) (st:tn 0 s₂.heap) (hf:∀ b∈fp,FpOk X pins H₂ b)
    (hg:∀ cl C s₀ H₀ ex pn,PG (compCx X N' scope cl C s₀ H₀ ex pn) tg g) (hi:∀ cl C s₀ H₀ ex pn,PIfs (compCx X N' scope cl C s₀ H₀ ex pn) ifs tt) (he:∀ cl C s₀ H₀ ex pn,PE (compCx X N' scope cl C s₀ H₀ ex pn) elt te)
    {W:Nat→Nat→St→List V→Hp→Prop} {m0:Nat} (h0:W 0 m0 (spick pick σ) [] H₂)
    (turn:∀ i m σ' ys H,W i m σ' ys H→ys.length < sizeLine ∧
      ((J.stop i H∧∀ p,H p=none→Qv (.ref p) (upd H p (.lst ys))) ∨
       (J.go i H∧∃ N:St→List V→Hp→Prop,(∀ σ2 zs H2,N σ2 zs H2→∃ m',m' < m∧W (i + 1) m' σ2 zs H2)∧∀ x H',J.yld i H x H'→g x σ' H' fun σ2 H2=>tt σ2 H2 fun b H3 =>
          if b=true then te σ2 H3 fun y H4=>N σ2 (ys ++ [y]) H4 else N σ2 ys H3)))
    (fin:∀ (D C:Addr) (H':Hp) (s':Shared) (m:Str→Option Value),Inv X pins σ H' s'→FpOk X pins H' C→s'.heap.Ns C m→Qv (.ref D) H'→RR (.ref D) C (.ok .next) s') :
    wpAny (model X.prog X.w) X.A (newList []) (fun acc s₃=>wpAny (model X.prog X.w) X.A (newFunctionEnv scope X.env.globals (addFree X.env scope.names []) [] X.env.qual none .none (some X.env)) (fun cenv s₄ =>
      codeAny (model X.prog X.w) X.A (.compStart (.ListComp elt [⟨tg,iter,ifs,0⟩] scope pos) 0 (.ref it) acc { cenv with scope:=relabel scope X.env }) (RR acc cenv.locals) s₄) E s₃) E s₂:=by
  have hfo:∀ b∈fp,b < s₂.heap.objs.size:=fun b hb=>let ⟨o,e,_⟩:=T.obj 0 _ st b hb; Heap.lt_size e
  refine wpAny_newObj_type (wpAny_newBlock fun h₄ kp ns ce=>?_)
  generalize hH3:s₂.heap.push { cls:=.type "list",dict:=none,data:=.seq ([]:List Value).toArray }=H3 at kp ns ce ⊢
  have hC:H3.objs.size=s₂.heap.objs.size + 1:=by rw [← hH3,Heap.size_push]
  have kp2:∀ b o,s₂.heap.get? b=some o→h₄.get? b=some o:=fun b o e=>kp b o (hH3 ▸ Heap.get?_push_of_some _ e)
  have hD:h₄.get? s₂.heap.objs.size=some { cls:=.type "list",data:=.seq ([]:List Value).toArray }:=kp _ _ (hH3 ▸ Heap.get?_push_size _ rfl)
  have hCle:s₂.heap.objs.size≤H3.objs.size:=by rw [hC]; exact Nat.le_succ _
  have hDC:s₂.heap.objs.size≠H3.objs.size:=by rw [hC]; exact Nat.ne_of_lt (Nat.lt_succ_self _)
  -- names for the block
  generalize hcl:cellsFrom (H3.objs.size + 1) scope.names (addFree X.env scope.names [])=cl at ce
  have I₄:Inv (compCx X N' scope cl H3.objs.size s₂ H₂ fp (X.pn ++ pins)) [] (spick pick σ) H₂ { s₂ with heap:=h₄ }:=by
    subst hcl
    exact comp_start S I₂ hf hfo (n:=H3.objs.size + 1) (Nat.le_trans hCle (Nat.le_succ _)) hCle (Nat.lt_succ_self _) rfl rfl kp2 ns fun x c e=>ce x c e
  have hcells:∀ x c,cl.lookup x=some c→c≠s₂.heap.objs.size:=fun x c e=>by
    subst hcl
    rcases cells_of S I₂ e with ⟨a,_⟩ | ⟨_,a⟩
    · refine Nat.ne_of_gt (Nat.lt_of_lt_of_le ?_ a)
      rw [hC]
      exact Nat.lt_succ_of_lt (Nat.lt_succ_self _)
    · obtain ⟨v,z⟩:=I₂.cell x c a
      exact Nat.ne_of_lt z.lt
  have hcellsC:∀ x c,X.env.cells.lookup x=some c→c≠H3.objs.size:=fun x c e=>by
    obtain ⟨v,z⟩:=I₂.cell x c e
    exact Nat.ne_of_lt (Nat.lt_of_lt_of_le z.lt hCle)
  generalize hX':compCx X N' scope cl H3.objs.size s₂ H₂ fp (X.pn ++ pins)=X' at I₄
  have xprog:X'.prog=X.prog:=by subst hX'; rfl
  have xw:X'.w=X.w:=by subst hX'; rfl
  have xK:X'.K=X.K:=by subst hX'; rfl
  have xA:X'.A=X.A:=by subst hX'; rfl
  have xcalm:X'.calm=true:=by subst hX'; exact hc
  have xloc:X'.env.locals=H3.objs.size:=by subst hX'; rfl
  have xcells:X'.env.cells=cl:=by subst hX'; rfl
  have xenv:X'.env=compEnvC scope cl H3.objs.size X.env:=by subst hX'; rfl
  have xfs:X'.fs=frs X.stack:=by subst hX'; rfl
  have xex:X'.ex=fp:=by subst hX'; rfl
  have xs0:X'.s₀=s₂:=by subst hX'; rfl
  have xpn:X'.pn=X.pn ++ pins:=by subst hX'; rfl
  have xxe:X'.xe=fun _ _=>False:=by subst hX'; rfl
  have xH0:X'.H₀=H₂:=by subst hX'; rfl
  have hg':PG X' tg g:=by subst hX'; exact hg _ _ _ _ _ _
  have hi':PIfs X' ifs tt:=by subst hX'; exact hi _ _ _ _ _ _
  have he':PE X' elt te:=by subst hX'; exact he _ _ _ _ _ _
  -- the records of the iterator,within the block
  have stat:∀ {H':Hp} {pl:List (Addr×Obj)},(∀ b∈fp,H' b=none)→(∀ p∈pl,s₂.heap.objs.size≤p.1)→∀ b∈fp,FpOk X' pl H' b:=fun {H' pl} hn hp b hb=>by
    have hlt:=hfo b hb
    obtain ⟨_,f1,f2,f3,f4,f5⟩:=hf b hb
    refine ⟨hn b hb,by rw [xloc]; exact Nat.ne_of_lt (Nat.lt_of_lt_of_le hlt hCle),?_,.inl (by rw [xex]; exact hb),fun x c e=>?_,fun p hp'=>?_⟩
    · rw [xfs]
      intro z
      rcases List.mem_cons.mp (I₂.stkSub b z) with e | e
      · exact f1 e
      · exact f2 e
    · have:=I₄.ok.exf b (by rw [xex]; exact hb)
      exact this.2 x c e
    · rcases List.mem_append.mp hp' with z | z
      · rw [xpn] at z; exact f5 p z
      · exact Nat.ne_of_gt (Nat.lt_of_lt_of_le hlt (hp p z))
  -- the list's pin
  have pinD:∀ {H':Hp} {s':Shared} {σ':St} {o:Obj},Inv X' [] σ' H' s'→s'.heap.get? s₂.heap.objs.size=some o→H' s₂.heap.objs.size=none→(∀ v,o.data≠.cell v)→Inv X' [(s₂.heap.objs.size,o)] σ' H' s':=fun {H' s' σ' o} I e hn hnc =>
    I.pins_of fun p hp=>by
      obtain rfl:p=(s₂.heap.objs.size,o):=by simpa using hp
      refine ⟨e,hn,by rw [xloc]; exact hDC,?_,hnc⟩
      rw [xfs]
      intro z
      exact absurd (frs_old I₂ z) (Nat.lt_irrefl _)
  have HD0:H₂ s₂.heap.objs.size=none:=I₂.hok.fresh (Nat.le_refl _)
  -- the invariant
  let Iv:Nat→Shared→Prop:=fun n s'=>∃ (i:Nat) (σ':St) (ys:List V) (H':Hp) (its:List Value) (k:Nat),Inv X' [(s₂.heap.objs.size,{ cls:=.type "list",data:=.seq its.toArray k })] σ' H' s'∧Vals ys its∧tn i s'.heap∧(∀ b∈fp,H' b=none)∧W i n σ' ys H'
  have loop:codeAny (model X.prog X.w) X.A (.compLoop (.ListComp elt [⟨tg,iter,ifs,0⟩] scope pos) 0 (.ref it) (.ref s₂.heap.objs.size) X'.env) (RR (.ref s₂.heap.objs.size) H3.objs.size) { s₂ with heap:=h₄ }:=by
    refine compLoop_gen Iv ?_ m0 ⟨0,_,[],H₂,[],_,pinD I₄ hD HD0 (fun v q=>nomatch q),.nil,T.keep _ _ _ st fun b _ o e=>kp2 b o e,fun b hb=>(hf b hb).1,h0⟩
    rintro n s5 ⟨i,σ5,ys,H5,its,k,I5,rv,st5,fr5,w5⟩
    obtain ⟨hlen,tr⟩:=turn i n σ5 ys H5 w5
    have p5:∀ {o:Obj},∀ p∈[(s₂.heap.objs.size,o)],s₂.heap.objs.size≤p.1:=fun {o} p hp=>by
      obtain rfl:p=(s₂.heap.objs.size,o):=by simpa using hp
      exact Nat.le_refl _
    rw [← xA]
    rcases tr with ⟨stop,qf⟩ | ⟨go,N,hN,step⟩
    · have dn:=T.done X' xprog xw xK xcalm i _ s5 σ5 H5 (fun _ _=>False) I5 (stat fr5 p5) st5 stop
      rw [xA] at dn ⊢
      refine wpAny_mono dn (fun r s6 h6=>?_) fun _ _ z=>z
      obtain ⟨rfl,I6⟩:=h6
      show RR (.ref s₂.heap.objs.size) H3.objs.size (.ok .next) s6
      obtain ⟨eD,nD,_⟩:=I6.pin _ (List.mem_append_right _ List.mem_cons_self)
      have un0:Un (frs X.stack) fp H₂ H5 s₂.heap s6.heap:=by
        have:=I6.base
        rw [xfs,xex,xs0,xH0] at this
        exact this
      have lt:∀ {b:Addr} {o:Obj},s₂.heap.get? b=some o→b≠s₂.heap.objs.size:=fun e=>Nat.ne_of_lt (Heap.lt_size e)
      have un1:Un (frs X.stack) fp H₂ (upd H5 s₂.heap.objs.size (.lst ys)) s₂.heap s6.heap :=
        ⟨un0.keep,un0.slot,fun b o e n hx=>by rw [upd_ne (lt e)]; exact un0.free b o e n hx,un0.there,fun b xs e=>by rw [upd_ne (ne_of_none e HD0)]; exact un0.tups b xs e,
          fun b o u e=>by rw [upd_ne (ne_of_none e HD0)]; exact un0.frzs b o u e,fun b ps e=>by rw [upd_ne (ne_of_none e HD0)]; exact un0.tbls b ps e⟩
      have hok1:HOk X.prog X.w (upd H5 s₂.heap.objs.size (.lst ys)) s6.heap:=fun b u e=>by
        by_cases hb:b=s₂.heap.objs.size
        · subst hb
          rw [upd_same] at e; cases e
          exact ⟨Nat.le_of_lt hlen,its,k,rv,eD⟩
        · rw [upd_ne hb] at e
          have:=I6.hok b u e
          rw [xprog,xw] at this
          exact this.stay (fun _ _ _ q=>q) (fun c q=>by rw [upd_ne (ne_of_none q nD)]; exact q) fun c xs q=>by rw [upd_ne (ne_of_none q nD)]; exact q
      have I7:Inv X pins σ (upd H5 s₂.heap.objs.size (.lst ys)) s6:=by
        refine I₂.call' (ch:=fp) ?_ un1 hok1 I6.bare fun b hb=>?_
        · have:=I6.os; rw [xs0] at this; exact this
        · obtain ⟨_,f1,f2,f3,f4,f5⟩:=hf b hb
          exact ⟨f3,f1,f4,f5⟩
      obtain ⟨m6,n6,_⟩:=I6.loc
      rw [xloc] at n6
      have hC6:H5 H3.objs.size=none:=by have:=I6.free; rw [xloc] at this; exact this
      refine fin _ _ _ s6 m6 I7 ⟨by rw [upd_ne (Ne.symm hDC)]; exact hC6,?_,?_,.inr (Nat.le_trans I₂.sz hCle),hcellsC,fun p hp=>?_⟩ n6 (qf _ nD)
      · exact Nat.ne_of_gt (Nat.lt_of_lt_of_le I₂.lt hCle)
      · intro z
        exact absurd z (I₂.nofs hCle)
      · exact Nat.ne_of_lt (Nat.lt_of_lt_of_le (Heap.lt_size (I₂.pin p hp).1) hCle)
    · have itm:=T.item X' xprog xw xK xcalm i _ s5 σ5 H5 (fun _ _=>False) I5 (stat fr5 p5) st5 go
      refine wpAny_mono itm (fun r s6 h6=>?_) fun _ _ z=>z
      obtain ⟨u,rfl,h6⟩:=h6
      refine wpAny_mono h6 (fun _ s7 h7=>?_) fun _ _ z=>z
      obtain ⟨x,H7,I7,rx,y7,st7,fr7⟩:=h7
      have I7':=I7.pinned (stat fr7 p5) (T.obj _ _ st7)
      have mp:∀ {α:Type} {t:Sem α} {Q:α→Shared→Prop} {s:Shared},wpAny (model X'.prog X'.w) X'.A t Q X'.xe s→wpAny (model X.prog X.w) X'.A t Q (fun _ _=>False) s:=fun {α t Q s} h=>by
        rw [xprog,xw,xxe] at h; exact h
      refine wpAny_mono (mp (hg' _ s7 σ5 H7 x u _ I7' rx (step x H7 y7))) (fun _ s8 h8=>?_) fun _ _ z=>z
      obtain ⟨σ8,H8,I8,q8⟩:=h8
      refine wpAny_mono (mp (hi' _ s8 σ8 H8 _ I8 q8)) (fun ok s9 h9=>?_) fun _ _ z=>z
      obtain ⟨H9,I9,q9⟩:=h9
      have keepT:∀ {σ':St} {H':Hp} {s':Shared},Inv X' ([(s₂.heap.objs.size,{ cls:=.type "list",data:=.seq its.toArray k })] ++ pinsAt fp s7.heap) σ' H' s'→tn (i + 1) s'.heap∧∀ b∈fp,H' b=none:=fun {σ' H' s'} I=>by
        refine ⟨T.keep _ _ _ st7 fun b hb o e=>(I.pin (b,o) (List.mem_append_right _ (List.mem_append_right _ (mem_pinsAt hb e)))).1,fun b hb=>?_⟩
        obtain ⟨o,e,d⟩:=T.obj _ _ st7 b hb
        exact (I.pin (b,o) (List.mem_append_right _ (List.mem_append_right _ (mem_pinsAt hb e)))).2.1
      cases ok with
      | false =>
        rw [if_neg Bool.false_ne_true] at q9 ⊢
        obtain ⟨m',hm,w9⟩:=hN _ _ _ q9
        obtain ⟨t9,f9⟩:=keepT I9
        exact ⟨m',hm,i + 1,σ8,ys,H9,its,k,I9.unpinned,rv,t9,f9,w9⟩
      | true =>
        rw [if_pos rfl] at q9 ⊢
        refine wpAny_mono (mp (he' _ s9 σ8 H9 _ I9 q9)) (fun v s10 h10=>?_) fun _ _ z=>z
        obtain ⟨y,H10,I10,ry,n10⟩:=h10
        obtain ⟨m',hm,w10⟩:=hN _ _ _ n10
        obtain ⟨t10,f10⟩:=keepT I10
        have I10':=I10.unpinned
        obtain ⟨eD,nD,neD,nfD,dD⟩:=I10'.pin _ (List.mem_append_right _ List.mem_cons_self)
        have hl:=rv.length
        refine call_meets F.slot_list_append ⟨_,eD,rfl⟩ F.entry_list_append (F.args_list_append_2 _ _) (PySem.list_append s₂.heap.objs.size its.toArray k v (by rw [List.size_toArray]; omega)) ⟨eD,?_⟩
        have q:=PySem.IsL.update eD (·.push v)
        have I11:Inv X' [] σ8 H10 { s10 with heap:=s10.heap.update s₂.heap.objs.size (Obj.mapSeq (·.push v)) }:=by
          refine (I10'.pins_of (pins':=[]) fun p hp=>by cases hp).turned (t':=s10.toks) (it:=s₂.heap.objs.size) (fun b o hb e=>(Heap.get?_update_other s10.heap (Obj.mapSeq (·.push v)) (Ne.symm hb)).trans e) nD neD (.inr (by rw [xs0]; exact Nat.le_refl _)) (fun x c hc=>hcells x c (by rw [← xcells]; exact hc)) fun p hp=>?_
          have hp:p∈X.pn ++ pins:=by rw [List.append_nil,xpn] at hp; exact hp
          exact Nat.ne_of_lt (Heap.lt_size (I₂.pin p hp).1)
        rw [show its.toArray.push v=(its ++ [v]).toArray by simp] at q
        refine ⟨m',hm,i + 1,σ8,ys ++ [y],H10,its ++ [v],_,pinD I11 q nD (fun v q=>nomatch q),rv.append (.cons ry .nil),?_,f10,w10⟩
        refine T.keep _ _ _ t10 fun b hb o e=>(Heap.get?_update_other s10.heap (Obj.mapSeq (·.push v)) ?_).trans e
        exact Nat.ne_of_gt (hfo b hb)
  have e4:({ scope:=relabel scope X.env,locals:=H3.objs.size,globals:=X.env.globals,cells:=cl,qual:=X.env.qual,func:=none,code:=X.env.code,frame:=X.env.frame,builtins:=X.env.builtins }:Env)=X'.env:=by rw [xenv]; rfl
  have st4:tn 0 h₄:=T.keep _ _ _ st fun b _ o e=>kp2 b o e
  have goal:codeAny (model X.prog X.w) X.A (.compStart (.ListComp elt [⟨tg,iter,ifs,0⟩] scope pos) 0 (.ref it) (.ref s₂.heap.objs.size) X'.env) (RR (.ref s₂.heap.objs.size) H3.objs.size) { s₂ with heap:=h₄ } :=
    codeAny_compStart_list loop (T.self _ 0 _ _ _ st4 loop)
  rw [← e4] at goal
  exact goal
theorem Inv.gone {H':Hp} {s':Shared} {h':Heap} {C:Addr} (I:Inv X pins σ H' s') (f:FpOk X pins H' C) (hs:Heap.SameBut C s'.heap h'):Inv X pins σ H' { s' with heap:=h' }:=by
  obtain ⟨f0,f1,f2,f3,f4,f5⟩:=f
  exact I.turned (t':=s'.toks) (fun b o hb e=>(hs.2 b hb).trans e) f0 f1 f3 f4 f5
theorem pe_comp {wi:TI} (S:CompScope X N' pick scope) (hc:X.calm=true) (hit:PI X tg iter wi)
    (hg:∀ cl C s₀ H₀ ex pn,PG (compCx X N' scope cl C s₀ H₀ ex pn) tg g) (hi:∀ cl C s₀ H₀ ex pn,PIfs (compCx X N' scope cl C s₀ H₀ ex pn) ifs tt) (he:∀ cl C s₀ H₀ ex pn,PE (compCx X N' scope cl C s₀ H₀ ex pn) elt te)
    (hs:∀ x,foldedSetIterable iter X.env x=pure x:=by intro _; rfl) :
    PE X (.ListComp elt [⟨tg,iter,ifs,0⟩] scope pos) (tComp wi pick g tt te):=by
  intro pins s σ H Q I h
  rw [eval_ListComp]
  refine wpAny_comprehension_free (use:=none) rfl hs (clos_of S I) S.kind S.names (thn (hit pins s σ H _ I h) fun v s1 h1=>thn h1 fun itv s2 h2=>?_)
  obtain ⟨it,fp,tn,J,H2,rfl,I2,T,st2,f2,W,⟨m0,w0⟩,turn⟩:=h2
  refine comp_block (RR:=fun acc C=>compPost (model X.prog X.w) X.A X.xe none (EP X pins σ Q) acc C) (Qv:=Q) S hc I2 T st2 f2 hg hi he w0 turn ?_
  intro D C H' s' m I' f' n' q'
  exact ⟨m,n',fun h' hs'=>⟨.ref D,H',I'.gone f' hs',rfl,q'⟩⟩
noncomputable def tSetComp (i:Nat) (t:TE):TS:=fun D σ H=>t σ H fun v H1=>D.nx (σ.set i (some v)) H1
theorem ps_setComp {wi:TI} {i:Nat} {y:Str} {py spos:Pos} (hsw:swapsWith (.ListComp elt [⟨tg,iter,ifs,0⟩] scope pos) (some (.Name y py)) spos.line X.env=pure true) (hN:X.N.Nodup) (hy:X.N[i]? = some y) (hl:X.env.scope.names.lookup y=some .local)
    (S:CompScope X N' pick scope) (hc:X.calm=true) (hit:PI X tg iter wi)
    (hg:∀ cl C s₀ H₀ ex pn,PG (compCx X N' scope cl C s₀ H₀ ex pn) tg g) (hi:∀ cl C s₀ H₀ ex pn,PIfs (compCx X N' scope cl C s₀ H₀ ex pn) ifs tt) (he:∀ cl C s₀ H₀ ex pn,PE (compCx X N' scope cl C s₀ H₀ ex pn) elt te)
    (hs:∀ x,foldedSetIterable iter X.env x=pure x:=by intro _; rfl) :
    PS X (.Assign [.Name y py] (.ListComp elt [⟨tg,iter,ifs,0⟩] scope pos) spos) (tSetComp i (tComp wi pick g tt te)):=by
  intro pins s σ H D I h
  rw [exec_Assign_Name_used _ _ _ _ hsw]
  refine wpAny_bind (wpAny_standAt (wpAny_bind ?_))
  show wpAny _ X.A (do let _ ← comprehension (.ListComp elt [⟨tg,iter,ifs,0⟩] scope pos) scope X.env _ (newList []) false (eval iter X.env) (some (assign (.Name y py) X.env))) _ _ s
  refine wpAny_bind (wpAny_mono (wpAny_comprehension_free (use:=some (assign (.Name y py) X.env)) (Q:=fun _ s'=>SP X pins D .next s') rfl hs (clos_of S I) S.kind S.names
    (thn (hit pins s σ H _ I h) fun v s1 h1=>thn h1 fun itv s2 h2=>?_)) (fun _ s' hq=>wpAny_pure (wpAny_pure hq)) fun _ _ e=>e)
  obtain ⟨it,fp,tn,J,H2,rfl,I2,T,st2,f2,W,⟨m0,w0⟩,turn⟩:=h2
  refine comp_block (RR:=fun acc C=>compPost (model X.prog X.w) X.A X.xe (some (assign (.Name y py) X.env)) (fun _ s'=>SP X pins D .next s') acc C) (Qv:=fun v H1=>D.nx (σ.set i (some v)) H1) S hc I2 T st2 f2 hg hi he w0 turn ?_
  intro Da C H' s' m I' f' n' q'
  show wpAny _ X.A (assign (.Name y py) X.env (.ref Da)) _ _ _
  refine wpAny_assign_Name (store_ok2 I' hN hy (.inl hl) (v:=.ref Da) rfl (fun s'' I'' ⟨a,sb,ha⟩=>?_) (.inr hl))
  have hCa:C≠a:=by
    rcases ha with e | e
    · rw [e]; exact f'.2.1
    · exact Ne.symm (f'.2.2.2.2.1 _ _ e)
  exact ⟨m,n'.sameBut sb hCa,fun h' hs'=>⟨_,H',I''.gone f' hs',q'⟩⟩
end
noncomputable def compB (XN:List Str) (xn:List (Str×NameKind)) (N':List Str) (pick:List (Option Nat)) (names:List (Str×NameKind)):Bool :=
  decide N'.Nodup && names.all (fun x=>decide (names.lookup x.1=some x.2)) && decide ((names.map (·.1)).Nodup) && (pick.length == N'.length) &&
  (pick.zip N').all (fun q=>match q.1 with | none=>true | some j=>decide (names.lookup q.2=some NameKind.free) && decide (XN[j]? = some q.2)) &&
  names.all (fun x=>decide (x.2≠NameKind.free) || (decide (xn.lookup x.1=some NameKind.cell) || decide (xn.lookup x.1=some NameKind.free)))
theorem CompScope.of {X:Cx} {N':List Str} {pick:List (Option Nat)} {scope:Scope} (hk:scope.kind=.function) (h:compB X.N X.env.scope.names N' pick scope.names=true):CompScope X N' pick scope:=by
  unfold compB at h
  simp only [Bool.and_eq_true,List.all_eq_true,decide_eq_true_eq,beq_iff_eq,Bool.or_eq_true] at h
  obtain ⟨⟨⟨⟨⟨h1,h2⟩,h3⟩,h4⟩,h5⟩,h6⟩:=h
  refine ⟨hk,h1,fun x hx e=>by rw [← e]; exact h2 x hx,h3,h4,fun i j x hp hN=>?_,fun x hx e=>?_⟩
  · have hm:(some j,x)∈pick.zip N':=by
      have:(pick.zip N')[i]? = some (some j,x):=by rw [List.getElem?_zip_eq_some]; exact ⟨hp,hN⟩
      exact List.mem_of_getElem? this
    exact h5 _ hm |> fun z=>by simpa using z
  · rcases h6 x hx with z | z | z
    · exact absurd e z
    · exact .inl z
    · exact .inr z
end L2
namespace PySem
open Sem (wp)
section
variable {prog:Program} {w:World} {A:Around} {E:Value→Shared→Prop} {s:Shared}
theorem nextOf_tuple_item {it l:Addr} {i:Nat} {items:Array Value} {x:Value} {Q:Value→Shared→Prop} (hit:s.heap.IsTupleIter it l i)
  (hl:s.heap.IsTuple l items) (hx:items[i]? = some x)
  (hQ:∀ h',h'.IsTupleIter it l (i + 1)→Heap.SameBut it s.heap h'→Q x { s with heap:=h' }) :
  wpAny (model prog w) A (Builtin.SmallTypes.nextOf (.ref it)) Q E s:=by
 obtain ⟨o,ho,hc,hd⟩:=id hit
 obtain ⟨ol,hol,_,nl,hdl⟩:=hl
 unfold Builtin.SmallTypes.nextOf
 refine wpAny_bind (wpAny_callSpecial?_slot (name:=Str.ofString "__next__") hit.typeIs F.slot_tuple_iterator_next
  (wpAny_call_entry F.slot_tuple_iterator_next hit.typeIs F.entry_tuple_iterator_next ?_ (F.args_tuple_iterator_next_1 _)))
 show wpAny _ _ (field (.ref it) 0 >>= _) _ _ s
 refine wpAny_bind (wpAny_field ho hd (x:=.ref l) rfl ?_)
 show wpAny _ _ (if (Value.ref l == Value.none)=true then _ else _) _ _ s
 rw [if_neg (show ¬ ((Value.ref l == Value.none)=true) from Bool.false_ne_true)]
 show wpAny _ _ (field (.ref it) 1 >>= _) _ _ s
 refine wpAny_bind (wpAny_field ho hd (x:=.int i 0) rfl ?_)
 show wpAny _ _ (seqItems? (.ref l) >>= _) _ _ s
 refine wpAny_bind (wpAny_seqItems hol hdl ?_)
 simp only [Int.toNat_natCast,hx]
 refine wpAny_bind (wpAny_setField ho hd (by simp) (wpAny_pure ⟨x,rfl,wpAny_pure (hQ _ ?_ (Heap.SameBut.update ..))⟩))
 exact ⟨_,Heap.get?_update_self _ ho (Obj.isFreed_of_fields (Obj.data_mapFields hd _)),(Obj.cls_mapFields ..).trans hc,by
  rw [Obj.data_mapFields hd]; simp [rawInt]⟩
theorem nextOf_tuple_end {it l:Addr} {i:Nat} {items:Array Value} {Q:Value→Shared→Prop} (hh:A.handled=none)
  (hit:s.heap.IsTupleIter it l i) (hl:s.heap.IsTuple l items) (hx:items[i]? = none)
  (hE:∀ h' e,Heap.ExtBut it s.heap h'→(∃ o,h'.get? e=some o∧o.cls=.type "StopIteration")→E (.ref e) { s with heap:=h' }) :
  wpAny (model prog w) A (Builtin.SmallTypes.nextOf (.ref it)) Q E s:=by
 obtain ⟨o,ho,hc,hd⟩:=id hit
 obtain ⟨ol,hol,_,nl,hdl⟩:=hl
 unfold Builtin.SmallTypes.nextOf
 refine wpAny_bind (wpAny_callSpecial?_slot (name:=Str.ofString "__next__") hit.typeIs F.slot_tuple_iterator_next
  (wpAny_call_entry F.slot_tuple_iterator_next hit.typeIs F.entry_tuple_iterator_next ?_ (F.args_tuple_iterator_next_1 _)))
 show wpAny _ _ (field (.ref it) 0 >>= _) _ _ s
 refine wpAny_bind (wpAny_field ho hd (x:=.ref l) rfl ?_)
 show wpAny _ _ (if (Value.ref l == Value.none)=true then _ else _) _ _ s
 rw [if_neg (show ¬ ((Value.ref l == Value.none)=true) from Bool.false_ne_true)]
 show wpAny _ _ (field (.ref it) 1 >>= _) _ _ s
 refine wpAny_bind (wpAny_field ho hd (x:=.int i 0) rfl ?_)
 show wpAny _ _ (seqItems? (.ref l) >>= _) _ _ s
 refine wpAny_bind (wpAny_seqItems hol hdl ?_)
 simp only [Int.toNat_natCast,hx]
 refine wpAny_bind (wpAny_rule (wpAny_bind (wpAny_setField ho hd (by simp) ?_)))
 show wpAny _ _ (newExc (.type "StopIteration") [] >>= _) _ _ _
 refine wpAny_bind ?_
 simp only [newExc,newTuple]
 refine wpAny_bind (wpAny_newObj_type ?_ (by size_fits))
 refine wpAny_bind (m:=firstArgMember _ _) (wpAny_of_eq (a:=Value.none) (by first | rfl | (simp only [firstArgMember]; rfl)) ?_)
 refine wpAny_newObj_type ?_ (by size_fits)
 simp only [raiseNew]
 refine wpAny_bind (wpAny_handled ?_)
 first | rw [show A.in1.handled=none from hh] | rw [hh]
 refine wpAny_bind (wpAny_pure (wpAny_throw ?_))
 exact hE _ _ (((Heap.SameBut.update ..).extBut.push _).push _) ⟨_,Heap.get?_push_size _ rfl,rfl⟩
theorem Draws.tuple {prog:Program} {w:World} {A:Around} (hh:A.handled=none) (it l:Addr) (hne:l≠it) (items:Array Value) :
  Draws prog w A it [it,l] items.size (fun i v=>items[i]? = some v) (fun i h=>h.IsTupleIter it l i∧h.IsTuple l items) where
 live:=fun _ _ st=>let ⟨o,ho,_⟩:=st.1; ⟨o,ho⟩
 frame:=fun _ _ _ st hk=>⟨st.1.at fun o e=>hk it (by simp) o e,let ⟨o,e,r⟩:=st.2; ⟨o,hk l (by simp) o e,r⟩⟩
 item:=fun i s Q E hi st hQ=>by
  refine nextOf_tuple_item st.1 st.2 (x:=items[i]) (by simp [hi]) fun h' hit' hs'=>?_
  exact hQ _ h' s.toks (by simp [hi]) ⟨hit',let ⟨o,e,r⟩:=st.2; ⟨o,hs'.extBut _ _ hne e,r⟩⟩ hs'
 done:=fun s Q E st hE=>nextOf_tuple_end hh st.1 st.2 (by simp) hE
structure ZA (z TI TO i1 i2:Addr) (f1 f2:List Addr):Prop where
 TIz:TI≠z
 TOz:TO≠z
 TITO:TI≠TO
 TIi1:TI≠i1
 TIi2:TI≠i2
 m1:i1∈f1
 m2:i2∈f2
 z1:z∉f1
 z2:z∉f2
 o1:TO∉f1
 o2:TO∉f2
 x1:i1∉f2
 x2:i2∉f1
theorem zipD_item {z TI TO i1 i2:Addr} {f1 f2:List Addr} {n1 n2 k:Nat} {P1 P2:Nat→Value→Prop} {S1 S2:Nat→Heap→Prop} {a b:Value} {Q:Value→Shared→Prop} (D:ZA z TI TO i1 i2 f1 f2) (D1:Draws prog w A i1 f1 n1 P1 S1) (D2:Draws prog w A i2 f2 n2 P2 S2)
  (hz:IsZip s.heap z TI TO .none) (hTI:IsPair s.heap TI (.ref i1) (.ref i2)) (hTO:IsPair s.heap TO a b)
  (h1:S1 k s.heap) (h2:S2 k s.heap) (hx:k < n1) (hy:k < n2)
  (hQ:∀ x y h' tk,P1 k x→P2 k y→IsZip h' z TI TO (rawInt s.heap.objs.size)→IsPair h' TO x y→S1 (k + 1) h'→S2 (k + 1) h'→IsPair h' s.heap.objs.size x y →
   (∀ c o,c≠z→c≠TO→c≠i1→c≠i2→s.heap.get? c=some o→h'.get? c=some o)→Q (.ref s.heap.objs.size) { s with heap:=h',toks:=tk }) :
  wpAny (model prog w) A (Builtin.«zip.__next__» ⟨[.ref z],[]⟩) (fun fin s'=>∃ v,fin=.done (.ret v)∧Q v s') E s:=by
 have nz1:i1≠z:=fun e=>D.z1 (e ▸ D.m1)
 have nz2:i2≠z:=fun e=>D.z2 (e ▸ D.m2)
 have no1:TO≠i1:=fun e=>D.o1 (e ▸ D.m1)
 have no2:TO≠i2:=fun e=>D.o2 (e ▸ D.m2)
 have n12:i1≠i2:=fun e=>D.x1 (e ▸ D.m2)
 show wpAny _ _ (field (.ref z) 2 >>= _) _ _ _
 refine wpAny_bind (wpAny_field hz rfl (x:=.bool false) rfl ?_)
 show wpAny _ _ (field (.ref z) 3 >>= _) _ _ _
 refine wpAny_bind (wpAny_field hz rfl (x:=.ref TI) rfl ?_)
 refine wpAny_bind (wpAny_seqItems hTI rfl ?_)
 show wpAny _ _ (Builtin.SmallTypes.ownedTupleIsFree (.ref z) >>= _) _ _ _
 refine wpAny_bind ?_
 unfold Builtin.SmallTypes.ownedTupleIsFree
 refine wpAny_bind (wpAny_field hz rfl (x:=.none) rfl (wpAny_pure ?_))
 simp only [if_true]
 refine wpAny_bind (wpAny_rule ?_)
 refine wpAny_bind (wpAny_field hz rfl (x:=.ref TO) rfl ?_)
 refine wpAny_bind (wpAny_setField_rec hz (by simp) fun h₁ hz₁ hs₁=>?_)
 replace hz₁:IsZip h₁ z TI TO .ellipsis:=hz₁
 refine wpAny_bind ?_
 simp only [List.zipIdx_cons,List.zipIdx_nil,List.forIn_cons,List.forIn_nil]
 refine wpAny_bind (wpAny_bind (wpAny_onRaise ?_))
 show wpAny _ _ (Builtin.SmallTypes.nextOf (.ref i1) >>= _) _ _ _
 refine wpAny_bind (D1.item k _ _ _ hx (D1.frame _ _ _ h1 fun c hc o e=>hs₁.extBut _ _ (fun q=>D.z1 (q ▸ hc)) e) fun x h₂ tk₂ px h1₂ hs₂=>wpAny_pure ?_)
 have hTO₂:IsPair h₂ TO a b:=hs₂.extBut _ _ no1 (hs₁.extBut _ _ D.TOz hTO)
 refine wpAny_bind (wpAny_seqItems hTO₂ rfl ?_)
 refine wpAny_bind (wpAny_updateSeq_pair hTO₂ fun h₃ hTO₃ hs₃=>?_)
 replace hTO₃:IsPair h₃ TO x b:=hTO₃
 refine wpAny_bind (wpAny_letGo (wpAny_pure ?_))
 refine wpAny_bind (wpAny_bind (wpAny_onRaise ?_))
 show wpAny _ _ (Builtin.SmallTypes.nextOf (.ref i2) >>= _) _ _ _
 refine wpAny_bind (D2.item k _ _ _ hy (D2.frame _ _ _ h2 fun c hc o e=>hs₃.extBut _ _ (fun q=>D.o2 (q ▸ hc)) (hs₂.extBut _ _ (fun q=>D.x1 (q ▸ hc)) (hs₁.extBut _ _ (fun q=>D.z2 (q ▸ hc)) e))) fun y h₄ tk₄ py h2₄ hs₄=>wpAny_pure ?_)
 have hTO₄:IsPair h₄ TO x b:=hs₄.extBut _ _ no2 hTO₃
 refine wpAny_bind (wpAny_seqItems hTO₄ rfl ?_)
 refine wpAny_bind (wpAny_updateSeq_pair hTO₄ fun h₅ hTO₅ hs₅=>?_)
 replace hTO₅:IsPair h₅ TO x y:=hTO₅
 refine wpAny_bind (wpAny_letGo (wpAny_pure (wpAny_pure ?_)))
 refine wpAny_bind (wpAny_seqItems hTO₅ rfl ?_)
 refine wpAny_bind (wpAny_newTuple ?_)
 have hsz:h₅.objs.size=s.heap.objs.size:=by rw [hs₅.1,hs₄.1,hs₃.1,hs₂.1,hs₁.1]
 have hz₅:IsZip h₅ z TI TO .ellipsis:=hs₅.extBut _ _ D.TOz.symm (hs₄.extBut _ _ nz2.symm (hs₃.extBut _ _ D.TOz.symm (hs₂.extBut _ _ nz1.symm hz₁)))
 have hk₅:∀ c o,c≠z→c≠TO→c≠i1→c≠i2→s.heap.get? c=some o→h₅.get? c=some o:=fun c o c1 c2 c3 c4 e =>
  hs₅.extBut _ _ c2 (hs₄.extBut _ _ c4 (hs₃.extBut _ _ c2 (hs₂.extBut _ _ c3 (hs₁.extBut _ _ c1 e))))
 have h1₅:S1 (k + 1) h₅:=D1.frame _ _ _ h1₂ fun c hc o e=>hs₅.extBut _ _ (fun q=>D.o1 (q ▸ hc)) (hs₄.extBut _ _ (fun q=>D.x2 (q ▸ hc)) (hs₃.extBut _ _ (fun q=>D.o1 (q ▸ hc)) e))
 have h2₅:S2 (k + 1) h₅:=D2.frame _ _ _ h2₄ fun c hc o e=>hs₅.extBut _ _ (fun q=>D.o2 (q ▸ hc)) e
 have hzlt:z < h₅.objs.size:=Heap.lt_size hz₅
 show wpAny _ _ (Builtin.SmallTypes.ownedTupleHandOut (.ref z) (.ref h₅.objs.size) >>= _) _ _ _
 refine wpAny_bind ?_
 unfold Builtin.SmallTypes.ownedTupleHandOut
 have hz₆:IsZip (h₅.push { cls:=.type "tuple",data:=.seq #[x,y] }) z TI TO .ellipsis:=Heap.get?_push_of_some _ hz₅
 refine wpAny_bind (wpAny_setField_rec hz₆ (by simp) fun h₇ hz₇ hs₇=>?_)
 replace hz₇:IsZip h₇ z TI TO (rawInt h₅.objs.size):=hz₇
 refine wpAny_setField_rec hz₇ (by simp) fun h₈ hz₈ hs₈=>?_
 replace hz₈:IsZip h₈ z TI TO (rawInt h₅.objs.size):=hz₈
 have up:∀ c o,c≠z→h₅.get? c=some o→h₈.get? c=some o:=fun c o c1 e=>hs₈.extBut _ _ c1 (hs₇.extBut _ _ c1 (Heap.get?_push_of_some _ e))
 have hT₈:IsPair h₈ h₅.objs.size x y:=hs₈.extBut _ _ (Nat.ne_of_gt hzlt) (hs₇.extBut _ _ (Nat.ne_of_gt hzlt) (Heap.get?_push_size _ rfl))
 rw [hsz] at hz₈ hT₈
 refine wpAny_pure ⟨_,rfl,?_⟩
 show Q (.ref h₅.objs.size) _
 rw [hsz]
 exact hQ x y h₈ _ px py hz₈ (up _ _ D.TOz hTO₅) (D1.frame _ _ _ h1₅ fun c hc o e=>up c o (fun q=>D.z1 (q ▸ hc)) e) (D2.frame _ _ _ h2₅ fun c hc o e=>up c o (fun q=>D.z2 (q ▸ hc)) e) hT₈ fun c o c1 c2 c3 c4 e=>up c o c1 (hk₅ c o c1 c2 c3 c4 e)
theorem zipD_end {z TI TO i1 i2:Addr} {f1 f2:List Addr} {n1 n2 k:Nat} {P1 P2:Nat→Value→Prop} {S1 S2:Nat→Heap→Prop} {a b:Value} {Q:Fin→Shared→Prop} (D:ZA z TI TO i1 i2 f1 f2) (D1:Draws prog w A i1 f1 n1 P1 S1) (D2:Draws prog w A i2 f2 n2 P2 S2)
  (hz:IsZip s.heap z TI TO .none) (hTI:IsPair s.heap TI (.ref i1) (.ref i2)) (hTO:IsPair s.heap TO a b)
  (h1:S1 k s.heap) (h2:S2 k s.heap) (hend:k=n1∨(k < n1∧k=n2))
  (hE:∀ h' tk e,(∀ c o,c≠z→c≠TO→c≠i1→c≠i2→s.heap.get? c=some o→h'.get? c=some o)→(∃ o,h'.get? e=some o∧o.cls=.type "StopIteration")→E (.ref e) { s with heap:=h',toks:=tk }) :
  wpAny (model prog w) A (Builtin.«zip.__next__» ⟨[.ref z],[]⟩) Q E s:=by
 have nz1:i1≠z:=fun e=>D.z1 (e ▸ D.m1)
 have nz2:i2≠z:=fun e=>D.z2 (e ▸ D.m2)
 have no1:TO≠i1:=fun e=>D.o1 (e ▸ D.m1)
 have no2:TO≠i2:=fun e=>D.o2 (e ▸ D.m2)
 show wpAny _ _ (field (.ref z) 2 >>= _) _ _ _
 refine wpAny_bind (wpAny_field hz rfl (x:=.bool false) rfl ?_)
 show wpAny _ _ (field (.ref z) 3 >>= _) _ _ _
 refine wpAny_bind (wpAny_field hz rfl (x:=.ref TI) rfl ?_)
 refine wpAny_bind (wpAny_seqItems hTI rfl ?_)
 show wpAny _ _ (Builtin.SmallTypes.ownedTupleIsFree (.ref z) >>= _) _ _ _
 refine wpAny_bind ?_
 unfold Builtin.SmallTypes.ownedTupleIsFree
 refine wpAny_bind (wpAny_field hz rfl (x:=.none) rfl (wpAny_pure ?_))
 simp only [if_true]
 refine wpAny_bind (wpAny_rule ?_)
 refine wpAny_bind (wpAny_field hz rfl (x:=.ref TO) rfl ?_)
 refine wpAny_bind (wpAny_setField_rec hz (by simp) fun h₁ hz₁ hs₁=>?_)
 replace hz₁:IsZip h₁ z TI TO .ellipsis:=hz₁
 refine wpAny_bind ?_
 simp only [List.zipIdx_cons,List.zipIdx_nil,List.forIn_cons,List.forIn_nil]
 refine wpAny_bind (wpAny_bind (wpAny_onRaise ?_))
 show wpAny _ _ (Builtin.SmallTypes.nextOf (.ref i1) >>= _) _ _ _
 have h1₁:S1 k h₁:=D1.frame _ _ _ h1 fun c hc o e=>hs₁.extBut _ _ (fun q=>D.z1 (q ▸ hc)) e
 rcases hend with rfl | ⟨hlt,rfl⟩
 ·refine wpAny_bind (D1.done _ _ _ h1₁ fun h₂ e hs₂ he=>?_)
  obtain ⟨oe,hoe,hce⟩:=he
  have hz₂:IsZip h₂ z TI TO .ellipsis:=hs₂ _ _ nz1.symm hz₁
  have hez:e≠z:=fun x=>by subst x; rw [hz₂] at hoe; cases hoe; simp at hce
  refine wpAny_setField_rec hz₂ (by simp) fun h₃ _ hs₃=>hE h₃ _ e (fun c o c1 _ c3 _ x=>hs₃.extBut _ _ c1 (hs₂ _ _ c3 (hs₁.extBut _ _ c1 x))) ⟨oe,hs₃.extBut _ _ hez hoe,hce⟩
 ·refine wpAny_bind (D1.item k _ _ _ hlt h1₁ fun x h₂ tk₂ px h1₂ hs₂=>wpAny_pure ?_)
  have hTO₂:IsPair h₂ TO a b:=hs₂.extBut _ _ no1 (hs₁.extBut _ _ D.TOz hTO)
  refine wpAny_bind (wpAny_seqItems hTO₂ rfl ?_)
  refine wpAny_bind (wpAny_updateSeq_pair hTO₂ fun h₃ hTO₃ hs₃=>?_)
  refine wpAny_bind (wpAny_letGo (wpAny_pure ?_))
  refine wpAny_bind (wpAny_bind (wpAny_onRaise ?_))
  show wpAny _ _ (Builtin.SmallTypes.nextOf (.ref i2) >>= _) _ _ _
  refine wpAny_bind (D2.done _ _ _ (D2.frame _ _ _ h2 fun c hc o e=>hs₃.extBut _ _ (fun q=>D.o2 (q ▸ hc)) (hs₂.extBut _ _ (fun q=>D.x1 (q ▸ hc)) (hs₁.extBut _ _ (fun q=>D.z2 (q ▸ hc)) e))) fun h₄ e hs₄ he=>?_)
  obtain ⟨oe,hoe,hce⟩:=he
  have hz₄:IsZip h₄ z TI TO .ellipsis:=hs₄ _ _ nz2.symm (hs₃.extBut _ _ D.TOz.symm (hs₂.extBut _ _ nz1.symm hz₁))
  have hez:e≠z:=fun x=>by subst x; rw [hz₄] at hoe; cases hoe; simp at hce
  refine wpAny_setField_rec hz₄ (by simp) fun h₅ _ hs₅=>hE h₅ _ e (fun c o c1 c2 c3 c4 x=>hs₅.extBut _ _ c1 (hs₄ _ _ c4 (hs₃.extBut _ _ c2 (hs₂.extBut _ _ c3 (hs₁.extBut _ _ c1 x))))) ⟨oe,hs₅.extBut _ _ hez hoe,hce⟩
theorem pyNext_zipD_item {z TI TO i1 i2:Addr} {f1 f2:List Addr} {n1 n2 k:Nat} {P1 P2:Nat→Value→Prop} {S1 S2:Nat→Heap→Prop} {a b:Value} {Q:Option Value→Shared→Prop} (D:ZA z TI TO i1 i2 f1 f2) (D1:Draws prog w A.in1 i1 f1 n1 P1 S1) (D2:Draws prog w A.in1 i2 f2 n2 P2 S2)
  (hz:IsZip s.heap z TI TO .none) (hTI:IsPair s.heap TI (.ref i1) (.ref i2)) (hTO:IsPair s.heap TO a b)
  (h1:S1 k s.heap) (h2:S2 k s.heap) (hx:k < n1) (hy:k < n2)
  (hQ:∀ x y h' tk,P1 k x→P2 k y→IsZip h' z TI TO (rawInt s.heap.objs.size)→IsPair h' TO x y→S1 (k + 1) h'→S2 (k + 1) h'→IsPair h' s.heap.objs.size x y →
   (∀ c o,c≠z→c≠TO→c≠i1→c≠i2→s.heap.get? c=some o→h'.get? c=some o)→Q (some (.ref s.heap.objs.size)) { s with heap:=h',toks:=tk }) :
  wpAny (model prog w) A (pyNext (.ref z)) Q E s:=by
 have hT:s.TypeIs (.ref z) "zip":=⟨_,hz,rfl⟩
 unfold pyNext
 exact wpAny_bind (wpAny_attempt (wpAny_callSpecial?_slot (name:=Str.ofString "__next__") hT F.slot_zip_next
  (wpAny_call_entry F.slot_zip_next hT F.entry_zip_next
   (zipD_item D D1 D2 hz hTI hTO h1 h2 hx hy fun x y h' tk a0 b0 a1 a2 a3 a4 a5 a7=>wpAny_pure (hQ x y h' tk a0 b0 a1 a2 a3 a4 a5 a7)) (F.args_zip_next_1 _))))
theorem pyNext_zipD_end {z TI TO i1 i2:Addr} {f1 f2:List Addr} {n1 n2 k:Nat} {P1 P2:Nat→Value→Prop} {S1 S2:Nat→Heap→Prop} {a b:Value} {Q:Option Value→Shared→Prop} (D:ZA z TI TO i1 i2 f1 f2) (D1:Draws prog w A.in1 i1 f1 n1 P1 S1) (D2:Draws prog w A.in1 i2 f2 n2 P2 S2)
  (hz:IsZip s.heap z TI TO .none) (hTI:IsPair s.heap TI (.ref i1) (.ref i2)) (hTO:IsPair s.heap TO a b)
  (h1:S1 k s.heap) (h2:S2 k s.heap) (hend:k=n1∨(k < n1∧k=n2))
  (hQ:∀ h' tk,(∀ c o,c≠z→c≠TO→c≠i1→c≠i2→s.heap.get? c=some o→h'.get? c=some o)→Q none { s with heap:=h',toks:=tk }):wpAny (model prog w) A (pyNext (.ref z)) Q E s:=by
 have hT:s.TypeIs (.ref z) "zip":=⟨_,hz,rfl⟩
 unfold pyNext
 refine wpAny_bind (wpAny_attempt (wpAny_callSpecial?_slot (name:=Str.ofString "__next__") hT F.slot_zip_next
  (wpAny_call_entry F.slot_zip_next hT F.entry_zip_next (zipD_end D D1 D2 hz hTI hTO h1 h2 hend fun h' tk e hk he=>?_) (F.args_zip_next_1 _))))
 obtain ⟨o,ho,hc⟩:=he
 refine wpAny_bind (wpAny_isInstance (T:="StopIteration") (b:=true) ⟨o,ho,hc⟩ isSubtype_stop ?_)
 exact wpAny_pure (hQ _ _ hk)
noncomputable abbrev zipT1 (h:Heap) (l1:Addr):Heap:=h.push { cls:=.type "tuple_iterator",data:=.fields #[.ref l1,.int 0 0] }
noncomputable abbrev zipT2 (h:Heap) (l1 l2:Addr):Heap:=(zipT1 h l1).push { cls:=.type "tuple_iterator",data:=.fields #[.ref l2,.int 0 0] }
noncomputable abbrev zipT3 (h:Heap) (l1 l2:Addr):Heap:=(zipT2 h l1 l2).push { cls:=.type "tuple",data:=.seq #[.ref h.objs.size,.ref (zipT1 h l1).objs.size] }
noncomputable abbrev zipT4 (h:Heap) (l1 l2:Addr):Heap:=(zipT3 h l1 l2).push { cls:=.type "tuple",data:=.seq #[.none,.none] }
noncomputable abbrev zipT5 (h:Heap) (l1 l2:Addr):Heap:=(zipT4 h l1 l2).push { cls:=.type "zip",data:=.fields #[.none,.bool false,.bool false,.ref (zipT2 h l1 l2).objs.size,.ref (zipT3 h l1 l2).objs.size] }
theorem IsTuple_push {h:Heap} {a:Addr} {xs:Array Value} (x:h.IsTuple a xs) (o:Obj):(h.push o).IsTuple a xs:=let ⟨q,e,r⟩:=x; ⟨q,Heap.get?_push_of_some _ e,r⟩
theorem meets_zip_newT (l1 l2:Addr) (xs ys:Array Value) :
  Meets (Builtin.«zip.__new__» ⟨[.type "zip",.ref l1,.ref l2],[]⟩) (fun _ R s=>s.heap.IsTuple l1 xs∧s.heap.IsTuple l2 ys ∧
   R (.ok (.ret (.ref (zipT4 s.heap l1 l2).objs.size))) { s with heap:=zipT5 s.heap l1 l2 }) :=
 .of_wp fun prog w A R s h=>by
  obtain ⟨hp,g,d,tk,os⟩:=s; obtain ⟨hl1,hl2,h⟩:=h
  have hsub:=sub_zip
  have hL1:Heap.IsTuple (Shared.heap ⟨hp,g,d,tk,os⟩) l1 xs:=hl1
  have hL2:Heap.IsTuple (Shared.heap ⟨hp.push { cls:=.type "tuple_iterator",data:=.fields #[.ref l1,.int 0 0] },g,d,tk,os⟩) l2 ys:=IsTuple_push hl2 _
  wp_walk using wpAny_pyIter_tuple hL1,wpAny_pyIter_tuple hL2
  exact ⟨_,rfl,h⟩
theorem call_zip_2T {l1 l2:Addr} {xs ys:Array Value} {Q:Value→Shared→Prop} (hl1:s.heap.IsTuple l1 xs) (hl2:s.heap.IsTuple l2 ys)
  (h:∀ h',IsZip h' (s.heap.objs.size + 4) (s.heap.objs.size + 2) (s.heap.objs.size + 3) .none→IsPair h' (s.heap.objs.size + 2) (.ref s.heap.objs.size) (.ref (s.heap.objs.size + 1)) →
   IsPair h' (s.heap.objs.size + 3) .none .none→h'.IsTupleIter s.heap.objs.size l1 0→h'.IsTupleIter (s.heap.objs.size + 1) l2 0 →
   (∀ c o,s.heap.get? c=some o→h'.get? c=some o)→Q (.ref (s.heap.objs.size + 4)) { s with heap:=h' }) :
  wpAny (model prog w) A (call (.type "zip") [.ref l1,.ref l2]) Q E s:=by
 refine callType_new F.called_zip (by decide) (F.typeCall_zip_2 _ _) (F.newCall_zip_2 _ _) (fun obj=>F.args_object_init_3 obj _ _) F.entry_zip_new
  (meets_zip_newT l1 l2 xs ys) ⟨hl1,hl2,?_⟩
 have z1:(zipT1 s.heap l1).objs.size=s.heap.objs.size + 1:=Heap.size_push ..
 have z2:(zipT2 s.heap l1 l2).objs.size=s.heap.objs.size + 2:=by rw [Heap.size_push,z1]
 have z3:(zipT3 s.heap l1 l2).objs.size=s.heap.objs.size + 3:=by rw [Heap.size_push,z2]
 have z4:(zipT4 s.heap l1 l2).objs.size=s.heap.objs.size + 4:=by rw [Heap.size_push,z3]
 have g5:(zipT5 s.heap l1 l2).get? (zipT4 s.heap l1 l2).objs.size=some _:=Heap.get?_push_size _ rfl
 have g4:(zipT5 s.heap l1 l2).get? (zipT3 s.heap l1 l2).objs.size=some _:=Heap.get?_push_of_some _ (Heap.get?_push_size _ rfl)
 have g3:(zipT5 s.heap l1 l2).get? (zipT2 s.heap l1 l2).objs.size=some _:=Heap.get?_push_of_some _ (Heap.get?_push_of_some _ (Heap.get?_push_size _ rfl))
 have g2:(zipT5 s.heap l1 l2).get? (zipT1 s.heap l1).objs.size=some _:=Heap.get?_push_of_some _ (Heap.get?_push_of_some _ (Heap.get?_push_of_some _ (Heap.get?_push_size _ rfl)))
 have g1:(zipT5 s.heap l1 l2).get? s.heap.objs.size=some _:=Heap.get?_push_of_some _ (Heap.get?_push_of_some _ (Heap.get?_push_of_some _ (Heap.get?_push_of_some _ (Heap.get?_push_size _ rfl))))
 show _∧_
 rw [z2,z3,z4] at g5
 rw [z1,z2] at g3
 rw [z3] at g4
 rw [z1] at g2
 rw [z4]
 exact ⟨⟨_,g5,rfl⟩,h _ g5 g3 g4 ⟨_,g1,rfl,rfl⟩ ⟨_,g2,rfl,rfl⟩ fun c o x =>
  Heap.get?_push_of_some _ (Heap.get?_push_of_some _ (Heap.get?_push_of_some _ (Heap.get?_push_of_some _ (Heap.get?_push_of_some _ x))))⟩
open AutoSeq1 (wpAny_loadPart')
end
end PySem
namespace L2
open PySem PySem.Spec PyProof.Rows
section
variable {X:Cx} {pins:List (Addr×Obj)} {σ:St} {H:Hp} {s:Shared} {K:PySem.W.Frag}
theorem fp_neT {a b:Addr} {xs:List V} (I:Inv X pins σ H s) (f:FpOk X pins H b) (q:SqT X.K H a xs):a≠b:=by
  rintro rfl
  rcases q with (q | ⟨o,q⟩) | ⟨o,its,n,q,_⟩
  · rw [f.1] at q; cases q
  · rw [f.1] at q; cases q
  · have e:=I.ok.mod.kin a o q
    rcases f.2.2.2.1 with z | z
    · exact I.ok.noex _ _ e z
    · exact absurd (Nat.lt_of_lt_of_le (Heap.lt_size e) (Nat.le_trans I.ok.bsz z)) (Nat.lt_irrefl _)
theorem fp_neL {a b:Addr} {xs:List V} (I:Inv X pins σ H s) (f:FpOk X pins H b) (q:SqL X.K H a xs):a≠b:=by
  rintro rfl
  rcases q with (q | ⟨o,q⟩) | ⟨o,its,n,q,_⟩
  · rw [f.1] at q; cases q
  · rw [f.1] at q; cases q
  · have e:=I.ok.mod.kin a o q
    rcases f.2.2.2.1 with z | z
    · exact I.ok.noex _ _ e z
    · exact absurd (Nat.lt_of_lt_of_le (Heap.lt_size e) (Nat.le_trans I.ok.bsz z)) (Nat.lt_irrefl _)
theorem Inv.turnedNew {h':Heap} {t':Nat} {ch:List Addr} {T:Addr} {vs:List V} {us:List Value} (I:Inv X pins σ H s) (hf:∀ b∈ch,FpOk X pins H b) (k:∀ b o,b∉ch→s.heap.get? b=some o→h'.get? b=some o)
    (hT:s.heap.objs.size≤T) (th:∀ b∈ch,∃ o,h'.get? b=some o) (rv:Vals vs us) (hz:vs.length≤sizeLine) (tup:TupN h' T us.toArray):Inv X pins σ (upd H T (.tup vs)) { s with heap:=h',toks:=t' }:=by
  have hn:H T=none:=I.hok.fresh hT
  have nch:∀ b u,H b=some u→b∉ch:=fun b u e z=>by rw [(hf b z).1] at e; cases e
  refine I.step (g':=s.gens) (d':=s.drawn) (ch:=ch) (fun b hb=>?_) (fun b o _ _ hc e _=>k b o hc e) (fun b o _ _ hc e _=>⟨o.slots,k b o hc e⟩) (fun b o _ e n=>?_)
    (fun b o hc e=>⟨o,k b o hc e⟩) (fun b xs e=>by rw [upd_ne (ne_of_none e hn)]; exact e) (fun b o u e=>by rw [upd_ne (ne_of_none e hn)]; exact e) (fun b ps e=>⟨#[],by rw [upd_ne (ne_of_none e hn),e]; simp⟩) (fun m hm=>?_) (fun b u e=>?_) I.bare
  · obtain ⟨f0,f1,f2,f3,f4,f5⟩:=hf b hb
    exact ⟨f3,f1,f4,f5⟩
  · rw [upd_ne (Nat.ne_of_lt (Nat.lt_of_lt_of_le (Heap.lt_size e) hT))]; exact n
  · obtain ⟨o,es,ep,ho,r⟩:=hm
    exact ⟨o,es,ep,k _ o (fun z=>(hf _ z).2.1 rfl) ho,r⟩
  · by_cases hb:b=T
    · subst hb
      rw [upd_same] at e; cases e
      exact ⟨hz,us,rv,tup⟩
    · rw [upd_ne hb] at e
      refine (I.hok b u e).stay (fun c v hc q=>k c v ?_ q) (fun c q=>by rw [upd_ne (ne_of_none q hn)]; exact q) fun c xs q=>by rw [upd_ne (ne_of_none q hn)]; exact q
      rcases hc with z | z
      · rw [z]; exact nch b u e
      · exact nch c _ z
theorem Inv.turnedMany {h':Heap} {t':Nat} {ch:List Addr} (I:Inv X pins σ H s) (hf:∀ b∈ch,FpOk X pins H b) (k:∀ b o,b∉ch→s.heap.get? b=some o→h'.get? b=some o):Inv X pins σ H { s with heap:=h',toks:=t' }:=by
  have nch:∀ b u,H b=some u→b∉ch:=fun b u e z=>by rw [(hf b z).1] at e; cases e
  refine I.step (g':=s.gens) (d':=s.drawn) (ch:=ch) (fun b hb=>?_) (fun b o _ _ hc e _=>k b o hc e) (fun b o _ _ hc e _=>⟨o.slots,k b o hc e⟩) (fun b o _ e n=>n)
    (fun b o hc e=>⟨o,k b o hc e⟩) (fun b xs e=>e) (fun b o u e=>e) (fun b ps e=>⟨#[],by rw [e]; simp⟩) (fun m hm=>?_) (fun b u e=>?_) I.bare
  · obtain ⟨f0,f1,f2,f3,f4,f5⟩:=hf b hb
    exact ⟨f3,f1,f4,f5⟩
  · obtain ⟨o,es,ep,ho,r⟩:=hm
    exact ⟨o,es,ep,k _ o (fun z=>(hf _ z).2.1 rfl) ho,r⟩
  · refine (I.hok b u e).stay (fun c v hc q=>k c v ?_ q) (fun c q=>q) fun c xs q=>q
    rcases hc with z | z
    · rw [z]; exact nch b u e
    · exact nch c _ z
end
structure SeqK (P:Program) (w:World) (K:PySem.W.Frag) (Sq:Hp→Addr→List V→Prop) (IsIt:Heap→Addr→Addr→Nat→Prop) (IsSeq:Heap→Addr→Array Value→Prop):Prop where
  get:∀ {X:Cx} {pins:List (Addr×Obj)} {σ:St} {H:Hp} {s:Shared} {a:Addr} {xs:List V},X.K=K→Inv X pins σ H s→Sq H a xs→∃ its:List Value,Vals xs its∧IsSeq s.heap a its.toArray∧xs.length≤sizeLine
  inj:∀ {X:Cx} {pins:List (Addr×Obj)} {σ:St} {H:Hp} {s:Shared} {a:Addr} {xs ys:List V},X.K=K→Inv X pins σ H s→Sq H a xs→Sq H a ys→xs=ys
  ne:∀ {X:Cx} {pins:List (Addr×Obj)} {σ:St} {H:Hp} {s:Shared} {a b:Addr} {xs:List V},X.K=K→Inv X pins σ H s→FpOk X pins H b→Sq H a xs→a≠b
  drw:∀ (A:Around) (it l:Addr) (items:Array Value),A.handled=none→l≠it→Draws P w A it [it,l] items.size (fun i v=>items[i]? = some v) (fun i h=>IsIt h it l i∧IsSeq h l items)
  obj:∀ {h:Heap} {it l:Addr} {i:Nat},IsIt h it l i→∃ o,h.get? it=some o∧∀ v,o.data≠.cell v
  at':∀ {h h':Heap} {it l:Addr} {i:Nat},IsIt h it l i→(∀ o,h.get? it=some o→h'.get? it=some o)→IsIt h' it l i
theorem seqK_tup {P:Program} {w:World} {K:PySem.W.Frag}:SeqK P w K (SqT K) (fun h it l i=>h.IsTupleIter it l i) (fun h a xs=>h.IsTuple a xs) where
  get:=fun e I q=>by subst e; obtain ⟨its,r,p,z⟩:=I.tuple q; exact ⟨its,r,p,z⟩
  inj:=fun e I q q'=>by subst e; exact I.tuple_inj q q'
  ne:=fun e I f q=>by subst e; exact fp_neT I f q
  drw:=fun A it l items hh hne=>Draws.tuple hh it l hne items
  obj:=fun st=>by obtain ⟨o,e,c,d⟩:=st; exact ⟨o,e,fun v z=>by rw [d] at z; cases z⟩
  at':=fun st k=>st.at k
theorem seqK_lst {P:Program} {w:World} {K:PySem.W.Frag}:SeqK P w K (SqL K) (fun h it l i=>h.IsListIter it l i) (fun h a xs=>h.IsList a xs) where
  get:=fun e I q=>by subst e; obtain ⟨its,r,p,z⟩:=I.list q; exact ⟨its,r,p.isList,z⟩
  inj:=fun e I q q'=>by subst e; exact I.list_inj q q'
  ne:=fun e I f q=>by subst e; exact fp_neL I f q
  drw:=fun A it l items hh hne=>Draws.list hh it l hne items
  obj:=fun st=>by obtain ⟨o,e,c,d⟩:=st; exact ⟨o,e,fun v z=>by rw [d] at z; cases z⟩
  at':=fun st k=>st.at k
noncomputable def Itz (Sq:Hp→Addr→List V→Prop) (a1 a2:Addr):It :=
  ⟨fun i H=>∃ xs ys x y,Sq H a1 xs∧Sq H a2 ys∧xs[i]? = some x∧ys[i]? = some y,
   fun i H v H'=>∃ t x y,v=.ref t∧H t=none∧H'=upd H t (.tup [x,y])∧∀ xs ys,Sq H a1 xs→Sq H a2 ys→xs[i]? = some x∧ys[i]? = some y,
   fun i H=>∃ xs ys,Sq H a1 xs∧Sq H a2 ys∧(i=xs.length∨(i < xs.length∧i=ys.length))⟩
theorem vals_get {xs:List V} {us:List Value} {i:Nat} {u:Value} (r:Vals xs us) (h:us.toArray[i]? = some u):∃ x,xs[i]? = some x∧RelV x u:=by
  have h':us[i]? = some u:=by simpa using h
  have hi:i < xs.length:=by rw [r.length]; exact (List.getElem?_eq_some_iff.mp h').1
  obtain ⟨u',e,q⟩:=r.get (i:=i) (x:=xs[i]) (List.getElem?_eq_getElem hi)
  rw [h'] at e; cases e
  exact ⟨xs[i],List.getElem?_eq_getElem hi,q⟩
theorem turn_zip {P:Program} {w:World} {K:PySem.W.Frag} {Sq:Hp→Addr→List V→Prop} {IsIt:Heap→Addr→Addr→Nat→Prop} {IsSeq:Heap→Addr→Array Value→Prop} (S:SeqK P w K Sq IsIt IsSeq) {es:List Expr} {k:Nat} {pt:Pos} (a1 a2 z TI TO i1 i2:Addr)
    (n1:TI≠z) (n2:TO≠z) (n3:TI≠TO) (n4:TI≠i1) (n5:TI≠i2) (n6:TO≠i1) (n7:TO≠i2) (n8:i1≠z) (n9:i2≠z) (n10:i1≠i2) :
    Turn P w K (.Tuple es k pt) (Itz Sq a1 a2) [z,TI,TO,i1,i2] z (fun i h=>IsZip h z TI TO .none∧IsPair h TI (.ref i1) (.ref i2)∧(∃ a b,IsPair h TO a b)∧IsIt h i1 a1 i∧IsIt h i2 a2 i) where
  mem:=by simp
  obj:=fun i h st b hb=>by
    obtain ⟨hz,hTI,⟨a,b',hTO⟩,h1,h2⟩:=st
    simp only [List.mem_cons,List.not_mem_nil,or_false] at hb
    rcases hb with rfl | rfl | rfl | rfl | rfl
    · exact ⟨_,hz,fun v q=>nomatch q⟩
    · exact ⟨_,hTI,fun v q=>nomatch q⟩
    · exact ⟨_,hTO,fun v q=>nomatch q⟩
    · exact S.obj h1
    · exact S.obj h2
  keep:=fun i h h' st kp=>by
    obtain ⟨hz,hTI,⟨a,b,hTO⟩,h1,h2⟩:=st
    exact ⟨kp _ (by simp) _ hz,kp _ (by simp) _ hTI,⟨a,b,kp _ (by simp) _ hTO⟩,S.at' h1 fun o e=>kp _ (by simp) o e,S.at' h2 fun o e=>kp _ (by simp) o e⟩
  item:=by
    intro X hP hw hK hc i pins s σ H E I hf st hg
    subst hP hw
    obtain ⟨xs,ys,x,y,q1,q2,hx,hy⟩:=hg
    obtain ⟨hz,hTI,⟨a,b,hTO⟩,h1,h2⟩:=st
    obtain ⟨us,r1,p1,l1⟩:=S.get hK I q1
    obtain ⟨vs,r2,p2,l2⟩:=S.get hK I q2
    have ne1:∀ {b:Addr},b∈[z,TI,TO,i1,i2]→a1≠b:=fun hb=>S.ne hK I (hf _ hb) q1
    have ne2:∀ {b:Addr},b∈[z,TI,TO,i1,i2]→a2≠b:=fun hb=>S.ne hK I (hf _ hb) q2
    have hx':i < us.toArray.size:=by have:=(List.getElem?_eq_some_iff.mp hx).1; have:=r1.length; simp; omega
    have hy':i < vs.toArray.size:=by have:=(List.getElem?_eq_some_iff.mp hy).1; have:=r2.length; simp; omega
    have D:ZA z TI TO i1 i2 [i1,a1] [i2,a2]:=⟨n1,n2,n3,n4,n5,by simp,by simp,by simp only [List.mem_cons,List.not_mem_nil,or_false,not_or]; exact ⟨n8.symm,(ne1 (by simp)).symm⟩,by simp only [List.mem_cons,List.not_mem_nil,or_false,not_or]; exact ⟨n9.symm,(ne2 (by simp)).symm⟩,
      by simp only [List.mem_cons,List.not_mem_nil,or_false,not_or]; exact ⟨n6,(ne1 (by simp)).symm⟩,by simp only [List.mem_cons,List.not_mem_nil,or_false,not_or]; exact ⟨n7,(ne2 (by simp)).symm⟩,
      by simp only [List.mem_cons,List.not_mem_nil,or_false,not_or]; exact ⟨n10,(ne2 (by simp)).symm⟩,by simp only [List.mem_cons,List.not_mem_nil,or_false,not_or]; exact ⟨n10.symm,(ne1 (by simp)).symm⟩⟩
    refine pyNext_zipD_item D (S.drw X.A.in1 i1 a1 us.toArray (I.ok.hd hc) (ne1 (by simp))) (S.drw X.A.in1 i2 a2 vs.toArray (I.ok.hd hc) (ne2 (by simp))) hz hTI hTO ⟨h1,p1⟩ ⟨h2,p2⟩ hx' hy' fun u v h' tk pu pv hz' hTO' s1 s2 hT kp=>?_
    refine ⟨_,rfl,?_⟩
    refine wpAny_letOwnedTupleGo_zip (s:={ s with heap:=h',toks:=tk }) hz' fun h'' hz'' hs''=>?_
    obtain ⟨x',ex,rx⟩:=vals_get r1 pu
    obtain ⟨y',ey,ry⟩:=vals_get r2 pv
    have lt:∀ {c:Addr} {o:Obj},s.heap.get? c=some o→c≠s.heap.objs.size:=fun e=>Nat.ne_of_lt (Heap.lt_size e)
    have kp2:∀ c o,c∉[z,TO,i1,i2]→s.heap.get? c=some o→h''.get? c=some o:=fun c o hcn e=>by
      simp only [List.mem_cons,List.not_mem_nil,or_false,not_or] at hcn
      exact hs''.extBut _ _ hcn.1 (kp c o hcn.1 hcn.2.1 hcn.2.2.1 hcn.2.2.2 e)
    have hT2:TupN h'' s.heap.objs.size [u,v].toArray:=⟨_,hs''.extBut _ _ (lt hz).symm hT,rfl,⟨_,rfl⟩,rfl⟩
    have I2:Inv X pins σ (upd H s.heap.objs.size (.tup [x',y'])) { s with heap:=h'',toks:=tk }:=by
      refine I.turnedNew (ch:=[z,TO,i1,i2]) (us:=[u,v]) (fun b hb=>hf b ?_) kp2 (Nat.le_refl _) (fun b hb=>?_) (.cons rx (.cons ry .nil)) (by show 2≤sizeLine; decide) hT2
      · simp only [List.mem_cons,List.not_mem_nil,or_false] at hb ⊢
        rcases hb with rfl | rfl | rfl | rfl <;> simp
      · simp only [List.mem_cons,List.not_mem_nil,or_false] at hb
        rcases hb with rfl | rfl | rfl | rfl
        · exact ⟨_,hz''⟩
        · exact ⟨_,hs''.extBut _ _ n2 hTO'⟩
        · obtain ⟨o,e,_⟩:=S.obj s1.1; exact ⟨_,hs''.extBut _ _ n8 e⟩
        · obtain ⟨o,e,_⟩:=S.obj s2.1; exact ⟨_,hs''.extBut _ _ n9 e⟩
    refine ⟨.ref s.heap.objs.size,_,I2,rfl,⟨_,x',y',rfl,I.hok.fresh (Nat.le_refl _),rfl,fun xs' ys' w1 w2=>?_⟩,⟨hz'',?_,⟨_,_,hs''.extBut _ _ n2 hTO'⟩,S.at' s1.1 fun o e=>hs''.extBut _ _ n8 e,S.at' s2.1 fun o e=>hs''.extBut _ _ n9 e⟩,fun b hb=>?_⟩
    · rw [S.inj hK I w1 q1,S.inj hK I w2 q2]; exact ⟨ex,ey⟩
    · exact hs''.extBut _ _ n1 (kp _ _ n1 n3 n4 n5 hTI)
    · have hb':b≠s.heap.objs.size:=by
        simp only [List.mem_cons,List.not_mem_nil,or_false] at hb
        rcases hb with rfl | rfl | rfl | rfl | rfl
        · exact lt hz
        · exact lt hTI
        · exact lt hTO
        · obtain ⟨o,e,_⟩:=S.obj h1; exact lt e
        · obtain ⟨o,e,_⟩:=S.obj h2; exact lt e
      rw [upd_ne hb']; exact (hf b hb).1
  done:=by
    intro X hP hw hK hc i pins s σ H E I hf st hg
    subst hP hw
    obtain ⟨xs,ys,q1,q2,hend⟩:=hg
    obtain ⟨hz,hTI,⟨a,b,hTO⟩,h1,h2⟩:=st
    obtain ⟨us,r1,p1,l1⟩:=S.get hK I q1
    obtain ⟨vs,r2,p2,l2⟩:=S.get hK I q2
    have ne1:∀ {b:Addr},b∈[z,TI,TO,i1,i2]→a1≠b:=fun hb=>S.ne hK I (hf _ hb) q1
    have ne2:∀ {b:Addr},b∈[z,TI,TO,i1,i2]→a2≠b:=fun hb=>S.ne hK I (hf _ hb) q2
    have D:ZA z TI TO i1 i2 [i1,a1] [i2,a2]:=⟨n1,n2,n3,n4,n5,by simp,by simp,by simp only [List.mem_cons,List.not_mem_nil,or_false,not_or]; exact ⟨n8.symm,(ne1 (by simp)).symm⟩,by simp only [List.mem_cons,List.not_mem_nil,or_false,not_or]; exact ⟨n9.symm,(ne2 (by simp)).symm⟩,
      by simp only [List.mem_cons,List.not_mem_nil,or_false,not_or]; exact ⟨n6,(ne1 (by simp)).symm⟩,by simp only [List.mem_cons,List.not_mem_nil,or_false,not_or]; exact ⟨n7,(ne2 (by simp)).symm⟩,
      by simp only [List.mem_cons,List.not_mem_nil,or_false,not_or]; exact ⟨n10,(ne2 (by simp)).symm⟩,by simp only [List.mem_cons,List.not_mem_nil,or_false,not_or]; exact ⟨n10.symm,(ne1 (by simp)).symm⟩⟩
    have e1:=r1.length
    have e2:=r2.length
    refine pyNext_zipD_end D (S.drw X.A.in1 i1 a1 us.toArray (I.ok.hd hc) (ne1 (by simp))) (S.drw X.A.in1 i2 a2 vs.toArray (I.ok.hd hc) (ne2 (by simp))) hz hTI hTO (k:=i) ⟨h1,p1⟩ ⟨h2,p2⟩ (by simp only [List.size_toArray]; omega) fun h' tk kp=>?_
    refine ⟨rfl,I.turnedMany (ch:=[z,TO,i1,i2]) (fun b hb=>hf b ?_) fun c o hcn e=>?_⟩
    · simp only [List.mem_cons,List.not_mem_nil,or_false] at hb ⊢
      rcases hb with rfl | rfl | rfl | rfl <;> simp
    · simp only [List.mem_cons,List.not_mem_nil,or_false,not_or] at hcn
      exact kp c o hcn.1 hcn.2.1 hcn.2.2.1 hcn.2.2.2 e
  self:=fun A i s Q E st h=>wpAny_pyIter_zip st.1 h
section
variable {X:Cx} {es':List Expr} {kt:Nat} {pt:Pos}
noncomputable def iZip (Sq:Hp→Addr→List V→Prop) (ta:TA):TI:=fun σ H R=>ta σ H fun vs H1=>∃ a b,vs=[.ref a,.ref b]∧(∃ xs ys,Sq H1 a xs∧Sq H1 b ys)∧R (Itz Sq a b) H1
theorem zip_fp {pins:List (Addr×Obj)} {σ:St} {H:Hp} {s:Shared} {n:Nat} (I:Inv X pins σ H s) (hn:s.heap.objs.size=n):∀ b∈[n + 4,n + 2,n + 3,n,n + 1],FpOk X pins H b:=fun b hb=>by
  have:s.heap.objs.size≤b:=by
    simp only [List.mem_cons,List.not_mem_nil,or_false] at hb
    rcases hb with rfl | rfl | rfl | rfl | rfl <;> rw [hn]
    · exact Nat.le_add_right _ _
    · exact Nat.le_add_right _ _
    · exact Nat.le_add_right _ _
    · exact Nat.le_refl _
    · exact Nat.le_add_right _ _
  exact I.fpOk this (I.hok.fresh this)
theorem pi_zipT {a b:Expr} {ta:TA} {p pos:Pos} (hg:Gl X "zip") (hm:X.mg "zip"=none) (ha:PA X [a,b] ta) (hs:starEach [a,b] X.env=[(false,eval a X.env),(false,eval b X.env)]:=by rfl) (hs2:starEach [b] X.env=[(false,eval b X.env)]:=by rfl) :
    PI X (.Tuple es' kt pt) (.Call (.Name "zip" p) [a,b] [] pos) (iZip (SqT X.K) ta):=by
  intro pins s σ H R I h
  refine Call_ (ld_blt I hg hm boot_zip (PyProof.Rows.callWith_type1 (thn (ha pos pins s σ H _ I h) fun us s1 ⟨vs,H1,I1,r1,q1⟩=>?_) (by rw [hs,hs2]) (by rw [hs2]; rfl)))
  obtain ⟨a1,a2,e,⟨xs,ys,q1,q2⟩,q⟩:=q1
  subst e
  cases r1 with
  | cons r rr =>
    cases rr with
    | cons r' rr =>
      cases rr
      cases r
      cases r'
      obtain ⟨us,ru,pu,lu⟩:=I1.tuple q1
      obtain ⟨vs,rv,pv,lv⟩:=I1.tuple q2
      refine call_zip_2T pu pv fun h' hz hTI hTO t1 t2 kp=>wpAny_pyIter_zip hz ?_
      generalize hn:s1.heap.objs.size=n at hz hTI hTO t1 t2
      have ne:∀ {i j:Nat},i≠j→n + i≠n + j:=fun h e=>h (Nat.add_left_cancel e)
      have ne0:∀ {i:Nat},i≠0→n + i≠n:=fun h e=>h (Nat.add_left_cancel (e.trans (Nat.add_zero n).symm))
      refine ⟨n + 4,_,_,_,H1,rfl,I1.kept (t':=s1.toks) kp,turn_zip seqK_tup a1 a2 (n + 4) (n + 2) (n + 3) n (n + 1) (ne (by decide)) (ne (by decide)) (ne (by decide)) (ne0 (by decide)) (ne (by decide)) (ne0 (by decide)) (ne (by decide)) (ne0 (by decide)).symm (ne (by decide)) (ne0 (by decide)).symm,⟨hz,hTI,⟨_,_,hTO⟩,t1,t2⟩,zip_fp I1 hn,q⟩
theorem pi_zipL {a b:Expr} {ta:TA} {p pos:Pos} (hg:Gl X "zip") (hm:X.mg "zip"=none) (ha:PA X [a,b] ta) (hs:starEach [a,b] X.env=[(false,eval a X.env),(false,eval b X.env)]:=by rfl) (hs2:starEach [b] X.env=[(false,eval b X.env)]:=by rfl) :
    PI X (.Tuple es' kt pt) (.Call (.Name "zip" p) [a,b] [] pos) (iZip (SqL X.K) ta):=by
  intro pins s σ H R I h
  refine Call_ (ld_blt I hg hm boot_zip (PyProof.Rows.callWith_type1 (thn (ha pos pins s σ H _ I h) fun us s1 ⟨vs,H1,I1,r1,q1⟩=>?_) (by rw [hs,hs2]) (by rw [hs2]; rfl)))
  obtain ⟨a1,a2,e,⟨xs,ys,q1,q2⟩,q⟩:=q1
  subst e
  cases r1 with
  | cons r rr =>
    cases rr with
    | cons r' rr =>
      cases rr
      cases r
      cases r'
      obtain ⟨us,ru,pu,lu⟩:=I1.list q1
      obtain ⟨vs,rv,pv,lv⟩:=I1.list q2
      refine call_zip_2 pu.isList pv.isList fun h' hz hTI hTO t1 t2 _ kp=>wpAny_pyIter_zip hz ?_
      generalize hn:s1.heap.objs.size=n at hz hTI hTO t1 t2
      have ne:∀ {i j:Nat},i≠j→n + i≠n + j:=fun h e=>h (Nat.add_left_cancel e)
      have ne0:∀ {i:Nat},i≠0→n + i≠n:=fun h e=>h (Nat.add_left_cancel (e.trans (Nat.add_zero n).symm))
      refine ⟨n + 4,_,_,_,H1,rfl,I1.kept (t':=s1.toks) kp,turn_zip seqK_lst a1 a2 (n + 4) (n + 2) (n + 3) n (n + 1) (ne (by decide)) (ne (by decide)) (ne (by decide)) (ne0 (by decide)) (ne (by decide)) (ne0 (by decide)) (ne (by decide)) (ne0 (by decide)).symm (ne (by decide)) (ne0 (by decide)).symm,⟨hz,hTI,⟨_,_,hTO⟩,t1,t2⟩,zip_fp I1 hn,q⟩
end
end L2
namespace L2
open PySem PySem.Spec PyProof.Rows
section
variable {X:Cx}
theorem after_walk {pins:List (Addr×Obj)} {σ:St} {H:Hp} {s:Shared} {h':Heap} {tk:Nat} {o:Obj} (I:Inv X pins σ H s) (kp:∀ b q,b∉[s.heap.objs.size]→(s.heap.push o).get? b=some q→h'.get? b=some q):Inv X pins σ H { s with heap:=h',toks:=tk } :=
 I.kept fun b q e=>kp b q (by simp only [List.mem_cons,List.not_mem_nil,or_false]; exact Nat.ne_of_lt (Heap.lt_size e)) (Heap.get?_push_of_some _ e)
noncomputable def tyName (H:Hp):V→String→Prop
 | .non,n=>n="NoneType"
 | .bl _,n=>n="bool"
 | .int _,n=>n="int"
 | .str _,n=>n="str"
 | .ref a,n=>(n="list"∧((∃ xs,H a=some (.lst xs))∨∃ o xs,H a=some (.frz o (.lst xs))))∨(n="tuple"∧∃ xs,H a=some (.tup xs))∨(n="dict"∧((∃ k,H a=some (.dK k))∨∃ k,H a=some (.dT k)))
 | _,_=>False
theorem tyOf_name {K:PySem.W.Frag} {H:Hp} {x:V} {n:String} (h:tyName H x n):TyOf K H x (.type n):=by
 cases x with
 | non=>cases (show n="NoneType" from h); exact .non
 | bl b=>cases (show n="bool" from h); exact .bl b
 | int b=>cases (show n="int" from h); exact .int b
 | str b=>cases (show n="str" from h); exact .str b
 | ref a =>
  rcases h with ⟨rfl,⟨xs,e⟩ | ⟨o,xs,e⟩⟩ | ⟨rfl,xs,e⟩ | ⟨rfl,⟨k,e⟩ | ⟨k,e⟩⟩
  ·exact .lst e
  ·exact .frz e
  ·exact .tup e
  ·exact .dK e
  ·exact .dT e
 | _=>exact False.elim h
noncomputable def subT (n T:String):Bool:=n == T || (n == "bool" && T == "int")
noncomputable def kitG (n T:String):Option Bool:=if (Value.type n == Value.type T)=true then some true else if PySem.W.kitMeta T=true then (fastBuiltinMro n).map (·.contains (Value.type T)) else none
theorem kit_sub {K:PySem.W.Frag} {n T:String} (hn:n∈["NoneType","bool","int","str","list","tuple","dict"]) (hT:T∈["bool","int","str","list","tuple","dict"]):PySem.W.kitOne K (.type n) (.type T)=some (subT n T):=by
 show kitG n T=some (subT n T)
 simp only [List.mem_cons,List.not_mem_nil,or_false] at hn hT
 rcases hn with rfl | rfl | rfl | rfl | rfl | rfl | rfl <;> rcases hT with rfl | rfl | rfl | rfl | rfl | rfl <;> decide +kernel
theorem tyName_mem {H:Hp} {x:V} {n:String} (h:tyName H x n):n∈["NoneType","bool","int","str","list","tuple","dict"]:=by
 cases x with
 | non=>cases (show n="NoneType" from h); simp
 | bl b=>cases (show n="bool" from h); simp
 | int b=>cases (show n="int" from h); simp
 | str b=>cases (show n="str" from h); simp
 | ref a=>rcases h with ⟨rfl,_⟩ | ⟨rfl,_⟩ | ⟨rfl,_⟩ <;> simp
 | _=>exact False.elim h
theorem call_isinst:CallR X (.builtin "isinstance") (fun xs H Q=>∃ x n T,xs=[x,.ty T]∧tyName H x n∧T∈["bool","int","str","list","tuple","dict"]∧Q (.bl (subT n T)) H):=by
 intro pins s σ H xs us Q I r h
 obtain ⟨x,n,T,rfl,hx,hT,q⟩:=h
 obtain ⟨u,v,rfl,ru,rv⟩:=Vals.two r
 cases (show v=Value.type T from rv)
 exact isinst_ok I ru (tyOf_name hx) (kit_sub (tyName_mem hx) hT) fun tk=>⟨.bl _,H,I.tok tk,rfl,q⟩
end
end L2
namespace L2
open PySem PySem.Spec PyProof.Rows
noncomputable def excP (ea C:Addr):Heap→Prop:=fun h=>∃ o,h.get? ea=some o∧o.cls=.ref C
noncomputable def dicP (a:Addr):Heap→Prop:=PySem.W.KitAt a "dict"
structure Def (K:PySem.W.Frag) (mg:Str→Option Value) (x:Str) (st:Stmt) (ps:List Str) (f:Addr) (fd:FuncData):Prop where
 fn:Fun K x x st f fd
 at':mg x=some (.ref f)
 bd:Binds K fd ps []
section
variable {X:Cx}
theorem pe_fn {x:Str} {st:Stmt} {ps:List Str} {f:Addr} {fd:FuncData} {k:Nat} {sp:Sp} {e:Expr} {es:List Expr} {t:TA} {p pos:Pos} (D:Def X.K X.mg x st ps f fd) (G:FnOk X.prog X.w X.K X.mg X.base CX0 k f fd ps sp) (hr:Room k X.A) (ha:PA X (e :: es) t) (hg:Gl X x:=by rfl)
  (hdb:(x == ("__debug__":Str))=false:=by decide) (he:starEach (e :: es) X.env=(false,eval e X.env) :: starEach es X.env:=by rfl) (hpl:(backTo pos (starEach es X.env)).any (·.1)=false:=by rfl) :
  PE X (.Call (.Name x p) (e :: es) [] pos) (tCall sp [] E0 t):=pe_call G hr hg D.at' D.fn.kp D.bd .nil pass0 ha hdb he hpl
theorem pe_ty {x:Str} {n:String} {pos:Pos} (hg:Gl X x) (hm:X.mg x=none) (hv:bootBuiltins x=some (.type n)) (hn:x≠"__name__":=by decide) (hd:(x == ("__debug__":Str))=false:=by decide):PE X (.Name x pos) (tC (.ty n)):=pe_bltn hg hm hv rfl hn hd
end
end L2
namespace L2
open PySem PySem.Spec PyProof.Rows
noncomputable def isStar:Expr→Bool
 | .Starred _ _=>true
 | _=>false
theorem starE {a:Expr} {es:List Expr} {env:Env} (h:isStar a=false):starEach (a :: es) env=(false,eval a env) :: starEach es env:=by
 cases a <;> first | (cases h; done) | (simp only [starEach]; done)
noncomputable def noStar (es:List Expr):Bool:=es.all fun a=>!isStar a
theorem starAny {es:List Expr} {env:Env} {pos:Pos} (h:noStar es=true):(backTo pos (starEach es env)).any (·.1)=false:=by
 induction es with
 | nil=>simp only [starEach]; rfl
 | cons a es ih =>
  have h:(!isStar a && noStar es)=true:=h
  rw [Bool.and_eq_true] at h
  rw [starE (by simpa using h.1)]
  have:=ih h.2
  simpa [backTo] using this
theorem star1 {a:Expr} {env:Env} (h:isStar a=false):starEach [a] env=[(false,eval a env)]:=by
 rw [starE h]; simp only [starEach]
theorem star2 {a b:Expr} {env:Env} (h:isStar a=false) (g:isStar b=false):starEach [a,b] env=[(false,eval a env),(false,eval b env)]:=by
 rw [starE h,star1 g]
theorem starFew {a:Expr} {env:Env} {pos:Pos} (h:isStar a=false):((backTo pos (starEach [a] env)).all (fun x=>!x.1) && (backToKw pos (keywordEach [] env)).all (fun x=>x.1.isSome)
   && decide ([a].length + ([]:List Keyword).length + (if ([]:List Keyword).isEmpty then 0 else 1) < 30))=true:=by
 rw [star1 h]; simp [backTo,backToKw,keywordEach]
inductive D where
 | non | bl (b:Bool) | int (i:Int) | str (x:Str) | ty (n:String) | tup (l:List D) | lst (l:List D) | ref (k:Nat) | scr (l:List Int) | fn (x:Str) (n:Nat) | exc (x:Str) | dic | dct (ks:List (Int×Int)) | lam (k:Nat) (e:Expr) (ns:List Str) (l:List D)
inductive Cell where
 | lst (l:List D)
mutual
noncomputable def noRef:D→Bool
 | .tup l=>noRefs l
 | .lst l=>noRefs l
 | .ref _=>false
 | .non=>true
 | .bl _=>true
 | .int _=>true
 | .str _=>true
 | .ty _=>true
 | .scr _=>true
 | .fn _ _=>true
 | .exc _=>true
 | .dic=>true
 | .dct _=>true
 | .lam _ _ _ _=>false
noncomputable def noRefs:List D→Bool
 | []=>true
 | d :: l=>noRef d && noRefs l
end
mutual
noncomputable def noLam:D→Bool
 | .tup l=>noLams l
 | .lst l=>noLams l
 | .lam _ _ _ _=>false
 | .ref _=>true
 | .non=>true
 | .bl _=>true
 | .int _=>true
 | .str _=>true
 | .ty _=>true
 | .scr _=>true
 | .fn _ _=>true
 | .exc _=>true
 | .dic=>true
 | .dct _=>true
noncomputable def noLams:List D→Bool
 | []=>true
 | d :: l=>noLam d && noLams l
end
mutual
theorem noLam_of:∀ d:D,noRef d=true→noLam d=true
 | .tup l,h=>by unfold noRef at h; unfold noLam; exact noLams_of l h
 | .lst l,h=>by unfold noRef at h; unfold noLam; exact noLams_of l h
 | .lam _ _ _ _,h=>by unfold noRef at h; cases h
 | .ref _,h=>by unfold noRef at h; cases h
 | .non,_=>by unfold noLam; rfl
 | .bl _,_=>by unfold noLam; rfl
 | .int _,_=>by unfold noLam; rfl
 | .str _,_=>by unfold noLam; rfl
 | .ty _,_=>by unfold noLam; rfl
 | .scr _,_=>by unfold noLam; rfl
 | .fn _ _,_=>by unfold noLam; rfl
 | .exc _,_=>by unfold noLam; rfl
 | .dic,_=>by unfold noLam; rfl
 | .dct _,_=>by unfold noLam; rfl
theorem noLams_of:∀ l:List D,noRefs l=true→noLams l=true
 | [],_=>by unfold noLams; rfl
 | d :: l,h=>by
  unfold noRefs at h
  rw [Bool.and_eq_true] at h
  unfold noLams
  rw [noLam_of d h.1,noLams_of l h.2]
  rfl
end
theorem noRefs_append:∀ {l m:List D},noRefs (l ++ m)=(noRefs l && noRefs m)
 | [],m=>by simp [noRefs]
 | d :: l,m=>by simp [noRefs,noRefs_append (l:=l),Bool.and_assoc]
theorem noRefs_set:∀ {l:List D} {i:Nat} {d:D},noRefs l=true→noRef d=true→noRefs (l.set i d)=true
 | [],i,d,h,g=>h
 | b :: l,0,d,h,g=>by simp_all [noRefs]
 | b :: l,i + 1,d,h,g=>by
  simp only [noRefs,Bool.and_eq_true] at h
  simp only [List.set_cons_succ,noRefs,Bool.and_eq_true]
  exact ⟨h.1,noRefs_set h.2 g⟩
theorem noRefs_iff:∀ {l:List D},noRefs l=true↔∀ d∈l,noRef d=true
 | []=>by simp [noRefs]
 | d :: l=>by simp [noRefs,noRefs_iff (l:=l)]
theorem noRefs_ints {l:List Int}:noRefs (l.map D.int)=true:=noRefs_iff.mpr fun d h=>by
 obtain ⟨i,_,rfl⟩:=List.mem_map.mp h
 rfl
inductive R (α:Type) where
 | ok (a:α) (c:List Cell)
 | bad
noncomputable def R.bind {α β:Type} (r:R α) (f:α→List Cell→R β):R β:=match r with
 | .ok a c=>f a c
 | .bad=>.bad
@[simp] theorem R.bind_ok {α β:Type} {a:α} {c:List Cell} {f:α→List Cell→R β}:(R.ok a c).bind f=f a c:=rfl
@[simp] theorem R.bind_bad {α β:Type} {f:α→List Cell→R β}:(R.bad:R α).bind f=.bad:=rfl
noncomputable def lamNames:List Str:=["greatest_among","web_of","other_web","turned_at","pairs_web","field_web","net_web"]
noncomputable def lamQ (x:Str):Str:=x ++ ".<locals>." ++ "<lambda>"
noncomputable def codeP (c:Addr) (q:Str):Heap→Prop:=fun h=>h.CodeRec (.ref c) q
noncomputable def lamP (a:Addr) (o:Obj):Heap→Prop:=fun h=>h.get? a=some o
noncomputable def LamObj (e:Expr) (o:Obj) (q:Str) (c:Addr) (cl:List (Str×Addr)):Prop:=match e with
 | .Lambda params body scope _=>∃ pm ctv,o=PySem.W.kla_obj "<lambda>" q params body scope cl pm c ctv
 | _=>False
noncomputable def isTbl:HO→Bool
 | .tbl _=>true
 | _=>false
noncomputable def CellsAt (H:Hp) (cl:List (Str×Addr)):List Str→List V→Prop
 | [],xs=>xs=[]
 | x :: ns,xs=>∃ v r c oc u,xs=v :: r∧cl.lookup x=some c∧H c=some (.frz oc (.own 0))∧oc.data=.cell (some u)∧RelV v u∧CellsAt H cl ns r
noncomputable def ClOk (cl:List (Str×Addr)) (ns:List Str):Prop:=(∀ x y c,cl.lookup x=some c→cl.lookup y=some c→x=y)∧∀ x c,cl.lookup x=some c→x∈ns
noncomputable def TabAt (H:Hp) (P:Addr) (q:Str):Prop:=∃ ps,H P=some (.tbl ps)∧TriplesOk ps.toList∧∀ pos cv,codeAmong pos ps.toList=some cv→∃ c,cv=.ref c∧H c=some (.ext (codeP c q))
noncomputable def TabOk (K:PySem.W.Frag) (H:Hp):Prop:=∀ x∈lamNames,∀ c P,PySem.W.tabIn K x=some (c,P)→TabAt H P (lamQ x)
theorem CellsAt.mono {H H':Hp} {cl:List (Str×Addr)}:∀ {ns:List Str} {xs:List V},(∀ c o,H c=some (.frz o (.own 0))→H' c=some (.frz o (.own 0)))→CellsAt H cl ns xs→CellsAt H' cl ns xs
 | [],_,_,h=>h
 | x :: ns,xs,k,h=>by
  obtain ⟨v,r,c,oc,u,e,h0,h1,h2,h3,h4⟩:=h
  exact ⟨v,r,c,oc,u,e,h0,k _ _ h1,h2,h3,CellsAt.mono k h4⟩
theorem CellsAt.get {H:Hp} {cl:List (Str×Addr)}:∀ {ns:List Str} {xs:List V} {i:Nat} {x:Str},CellsAt H cl ns xs→ns[i]? = some x→∃ v c oc u,xs[i]? = some v∧cl.lookup x=some c∧H c=some (.frz oc (.own 0))∧oc.data=.cell (some u)∧RelV v u
 | [],_,_,_,_,e=>by cases e
 | _ :: ns,xs,0,_,h,e=>by
  obtain ⟨v,r,c,oc,u,rfl,h0,h1,h2,h3,h4⟩:=h
  cases e
  exact ⟨v,c,oc,u,rfl,h0,h1,h2,h3⟩
 | _ :: ns,xs,i + 1,x,h,e=>by
  obtain ⟨v,r,c,oc,u,rfl,h0,h1,h2,h3,h4⟩:=h
  exact CellsAt.get (i:=i) h4 e
theorem CellsAt.length {H:Hp} {cl:List (Str×Addr)}:∀ {ns:List Str} {xs:List V},CellsAt H cl ns xs→xs.length=ns.length
 | [],xs,h=>by cases (show xs=[] from h); rfl
 | _ :: ns,xs,h=>by
  obtain ⟨v,r,c,oc,u,rfl,h0,h1,h2,h3,h4⟩:=h
  simp [CellsAt.length h4]
theorem TabAt.mono {H H':Hp} {P:Addr} {q:Str} (h:TabAt H P q) (k1:∀ ps,H P=some (.tbl ps)→H' P=some (.tbl ps)) (k2:∀ c φ,H c=some (.ext φ)→H' c=some (.ext φ)):TabAt H' P q:=by
 obtain ⟨ps,h1,h2,h3⟩:=h
 exact ⟨ps,k1 ps h1,h2,fun pos cv e=>let ⟨c,e1,e2⟩:=h3 pos cv e; ⟨c,e1,k2 _ _ e2⟩⟩
theorem TabOk.mono {K:PySem.W.Frag} {H H':Hp} (h:TabOk K H) (k1:∀ P ps,H P=some (.tbl ps)→H' P=some (.tbl ps)) (k2:∀ c φ,H c=some (.ext φ)→H' c=some (.ext φ)):TabOk K H':=fun x hx c P e=>(h x hx c P e).mono (k1 P) k2
noncomputable def SqP (K:PySem.W.Frag) (ρ:List Addr) (H:Hp) (a:Addr) (xs:List V):Prop:=(Rd H a (.lst xs)∧a∉ρ)∨SqL K (fun _=>none) a xs
mutual
noncomputable def Rel (K:PySem.W.Frag) (ρ:List Addr) (H:Hp):D→V→Prop
 | .non,v=>v=.non
 | .bl b,v=>v=.bl b
 | .int i,v=>v=.int i
 | .str x,v=>v=.str x
 | .ty n,v=>v=.ty n
 | .tup l,v=>∃ a xs,v=.ref a∧H a=some (.tup xs)∧Rels K ρ H l xs
 | .lst l,v=>∃ a xs,v=.ref a∧(H a=some (.lst xs)∧a∉ρ)∧Rels K ρ H l xs
 | .ref k,v=>∃ a,v=.ref a∧ρ[k]? = some a
 | .scr l,v=>∃ a,v=.ref a∧SqP K ρ H a (l.map V.int)
 | .fn x n,v=>∃ a,v=.ref a∧PySem.W.nsIn K mainGlobals x=some (some (.ref a))
 | .dic,v=>∃ a,v=.ref a∧H a=some (.ext (dicP a))
 | .dct ks,v=>∃ a kvs,v=.ref a∧H a=some (.dT kvs)∧∀ p:Int×Int,((kvs.any fun kv=>decide (kv.1=[Sum.inl p.1,Sum.inl p.2]))=decide (p∈ks))
 | .exc x,v=>∃ a C,v=.ref a∧PySem.W.nsIn K mainGlobals x=some (some (.ref C))∧H a=some (.ext (excP a C))
 | .lam _ e ns l,v=>∃ a o q c cl xs,v=.ref a∧H a=some (.ext (lamP a o))∧LamObj e o q c cl∧H c=some (.ext (codeP c q))∧ClOk cl ns∧CellsAt H cl ns xs∧Rels K ρ H l xs
noncomputable def Rels (K:PySem.W.Frag) (ρ:List Addr) (H:Hp):List D→List V→Prop
 | [],xs=>xs=[]
 | d :: l,xs=>∃ x r,xs=x :: r∧Rel K ρ H d x∧Rels K ρ H l r
end
theorem SqP.sql {K:PySem.W.Frag} {ρ:List Addr} {H:Hp} {a:Addr} {xs:List V} (h:SqP K ρ H a xs):SqL K H a xs:=by
 rcases h with ⟨h,_⟩ | (h | h)
 ·exact .inl h
 ·rcases h with h | ⟨o,h⟩ <;> cases h
 ·exact .inr h
noncomputable def CellOk (K:PySem.W.Frag) (ρ:List Addr) (H:Hp) (a:Addr):Cell→Prop
 | .lst l=>noRefs l=true∧∃ xs,H a=some (.lst xs)∧Rels K ρ H l xs
structure Wd (K:PySem.W.Frag) (ρ:List Addr) (H:Hp) (c:List Cell):Prop where
 nd:ρ.Nodup
 len:ρ.length=c.length
 cel:∀ (k:Nat) (a:Addr) (cl:Cell),ρ[k]? = some a→c[k]? = some cl→CellOk K ρ H a cl
 tab:TabOk K H
structure Ext (ρ:List Addr) (H:Hp) (ρ':List Addr) (H':Hp):Prop where
 pre:∀ (k:Nat) (a:Addr),ρ[k]? = some a→ρ'[k]? = some a
 keep:∀ a o,H a=some o→a∉ρ→isTbl o=false→H' a=some o∧a∉ρ'
theorem Ext.refl {ρ:List Addr} {H:Hp}:Ext ρ H ρ H:=⟨fun _ _ h=>h,fun _ _ h n _=>⟨h,n⟩⟩
theorem Ext.trans {ρ ρ1 ρ2:List Addr} {H H1 H2:Hp} (x:Ext ρ H ρ1 H1) (y:Ext ρ1 H1 ρ2 H2):Ext ρ H ρ2 H2 :=
 ⟨fun k a h=>y.pre k a (x.pre k a h),fun a o h n t=>let ⟨h1,n1⟩:=x.keep a o h n t; y.keep a o h1 n1 t⟩
section
variable {K:PySem.W.Frag} {ρ ρ':List Addr} {H H':Hp} {c c':List Cell}
theorem Wd.at' (W:Wd K ρ H c) {a:Addr} (h:a∈ρ):∃ xs,H a=some (.lst xs):=by
 obtain ⟨k,hk,e⟩:=List.mem_iff_getElem.mp h
 have hc:k < c.length:=by rw [← W.len]; exact hk
 have q:=W.cel k a c[k] (by rw [List.getElem?_eq_getElem hk,e]) (List.getElem?_eq_getElem hc)
 cases hcl:c[k] with
 | lst l=>rw [hcl] at q; obtain ⟨_,xs,h,_⟩:=q; exact ⟨xs,h⟩
theorem Wd.noT (W:Wd K ρ H c) {a:Addr} {xs:List V} (h:H a=some (.tup xs)):a∉ρ:=fun m=>by
 obtain ⟨ys,e⟩:=W.at' m
 rw [e] at h; cases h
theorem Wd.nil (W:Wd K ρ H c) {a:Addr} (h:H a=none):a∉ρ:=fun m=>by
 obtain ⟨ys,e⟩:=W.at' m
 rw [e] at h; cases h
theorem tup_mono (W:Wd K ρ H c) (x:Ext ρ H ρ' H') {a:Addr} {xs:List V} (h:H a=some (.tup xs)):H' a=some (.tup xs):=(x.keep a _ h (W.noT h) rfl).1
theorem lst_mono (x:Ext ρ H ρ' H') {a:Addr} {xs:List V} (h:H a=some (.lst xs)∧a∉ρ):H' a=some (.lst xs)∧a∉ρ':=x.keep a _ h.1 h.2 rfl
theorem sqP_mono (x:Ext ρ H ρ' H') {a:Addr} {xs:List V} (h:SqP K ρ H a xs):SqP K ρ' H' a xs:=by
 rcases h with ⟨h,n⟩ | h
 ·rcases h with h | ⟨o,h⟩
  ·exact .inl ⟨.inl (x.keep a _ h n rfl).1,(x.keep a _ h n rfl).2⟩
  ·exact .inl ⟨.inr ⟨o,(x.keep a _ h n rfl).1⟩,(x.keep a _ h n rfl).2⟩
 ·exact .inr h
mutual
theorem Rel.mono (W:Wd K ρ H c) (x:Ext ρ H ρ' H'):∀ (d:D) (v:V),Rel K ρ H d v→Rel K ρ' H' d v
 | .non,v,h=>h
 | .bl b,v,h=>h
 | .int i,v,h=>h
 | .str y,v,h=>h
 | .ty n,v,h=>h
 | .tup l,v,h=>by
  obtain ⟨a,xs,e,s,r⟩:=h
  exact ⟨a,xs,e,tup_mono W x s,Rels.mono W x l xs r⟩
 | .lst l,v,h=>by
  obtain ⟨a,xs,e,s,r⟩:=h
  exact ⟨a,xs,e,lst_mono x s,Rels.mono W x l xs r⟩
 | .ref k,v,h=>by
  obtain ⟨a,e,s⟩:=h
  exact ⟨a,e,x.pre k a s⟩
 | .scr l,v,h=>by
  obtain ⟨a,e,s⟩:=h
  exact ⟨a,e,sqP_mono x s⟩
 | .fn a n,v,h=>h
 | .dic,v,h=>by
  obtain ⟨a,e,q⟩:=h
  exact ⟨a,e,(x.keep a _ q (fun m=>by obtain ⟨ys,z⟩:=W.at' m; rw [z] at q; cases q) rfl).1⟩
 | .dct ks,v,h=>by
  obtain ⟨a,kvs,e,q,z⟩:=h
  exact ⟨a,kvs,e,(x.keep a _ q (fun m=>by obtain ⟨ys,z⟩:=W.at' m; rw [z] at q; cases q) rfl).1,z⟩
 | .exc y,v,h=>by
  obtain ⟨a,C,e,n,q⟩:=h
  exact ⟨a,C,e,n,(x.keep a _ q (fun m=>by obtain ⟨ys,z⟩:=W.at' m; rw [z] at q; cases q) rfl).1⟩
 | .lam _ y ns l,v,h=>by
  obtain ⟨a,o,q,c,cl,xs,e,h1,h2,h3,h4,h5,h6⟩:=h
  have nr:∀ (b:Addr) (u:HO),H b=some u→(∀ ys,u≠.lst ys)→b∉ρ:=fun b u q n m=>by obtain ⟨ys,z⟩:=W.at' m; rw [z] at q; exact n ys (Option.some.inj q).symm
  exact ⟨a,o,q,c,cl,xs,e,(x.keep a _ h1 (nr a _ h1 fun _ z=>nomatch z) rfl).1,h2,(x.keep c _ h3 (nr c _ h3 fun _ z=>nomatch z) rfl).1,h4,h5.mono (fun b o z=>(x.keep b _ z (nr b _ z fun _ z=>nomatch z) rfl).1),Rels.mono W x l xs h6⟩
theorem Rels.mono (W:Wd K ρ H c) (x:Ext ρ H ρ' H'):∀ (l:List D) (xs:List V),Rels K ρ H l xs→Rels K ρ' H' l xs
 | [],xs,h=>h
 | d :: l,xs,h=>by
  obtain ⟨y,r,e,h1,h2⟩:=h
  exact ⟨y,r,e,Rel.mono W x d y h1,Rels.mono W x l r h2⟩
end
theorem Rels.length:∀ {l:List D} {xs:List V},Rels K ρ H l xs→xs.length=l.length
 | [],xs,h=>by cases (show xs=[] from h); rfl
 | d :: l,xs,h=>by
  obtain ⟨y,r,rfl,h1,h2⟩:=h
  simp only [List.length_cons,Rels.length h2]
theorem Rels.get:∀ {l:List D} {xs:List V} {i:Nat} {d:D},Rels K ρ H l xs→l[i]? = some d→∃ x,xs[i]? = some x∧Rel K ρ H d x
 | [],_,_,_,_,e=>by cases e
 | _ :: l,_,0,_,h,e=>by
  obtain ⟨y,r,rfl,h1,h2⟩:=h
  cases e
  exact ⟨y,rfl,h1⟩
 | _ :: l,_,i + 1,_,h,e=>by
  obtain ⟨y,r,rfl,h1,h2⟩:=h
  exact Rels.get (i:=i) h2 e
theorem Rels.append:∀ {l m:List D} {xs ys:List V},Rels K ρ H l xs→Rels K ρ H m ys→Rels K ρ H (l ++ m) (xs ++ ys)
 | [],m,xs,ys,h,g=>by cases (show xs=[] from h); exact g
 | d :: l,m,xs,ys,h,g=>by
  obtain ⟨y,r,rfl,h1,h2⟩:=h
  exact ⟨y,r ++ ys,rfl,h1,Rels.append h2 g⟩
theorem Rels.set:∀ {l:List D} {xs:List V} {d:D} {x:V} (i:Nat),Rels K ρ H l xs→Rel K ρ H d x→Rels K ρ H (l.set i d) (xs.set i x)
 | [],xs,d,x,i,h,g=>by cases (show xs=[] from h); exact rfl
 | b :: l,xs,d,x,0,h,g=>by
  obtain ⟨y,r,rfl,h1,h2⟩:=h
  exact ⟨x,r,rfl,g,h2⟩
 | b :: l,xs,d,x,i + 1,h,g=>by
  obtain ⟨y,r,rfl,h1,h2⟩:=h
  exact ⟨y,r.set i x,rfl,h1,Rels.set i h2 g⟩
theorem Rels.ints {l:List Int}:Rels K ρ H (l.map D.int) (l.map V.int):=by
 induction l with
 | nil=>exact rfl
 | cons a l ih=>exact ⟨_,_,rfl,rfl,ih⟩
theorem Rels.ints_inv:∀ {l:List Int} {xs:List V},Rels K ρ H (l.map D.int) xs→xs=l.map V.int
 | [],xs,h=>h
 | a :: l,xs,h=>by
  obtain ⟨y,r,rfl,h1,h2⟩:=h
  cases (show y=V.int a from h1)
  rw [Rels.ints_inv h2]; rfl
theorem Ext.fresh {p:Addr} {o:HO} (W:Wd K ρ H c) (h:H p=none):Ext ρ H ρ (upd H p o) :=
 ⟨fun _ _ e=>e,fun a u e n _=>⟨by rw [upd_ne (ne_of_none e h)]; exact e,n⟩⟩
theorem Wd.fresh {p:Addr} {o:HO} (W:Wd K ρ H c) (h:H p=none):Wd K ρ (upd H p o) c :=
 ⟨W.nd,W.len,fun k a cl e1 e2=>by
  have q:=W.cel k a cl e1 e2
  cases cl with
  | lst l =>
   obtain ⟨nr,xs,e,r⟩:=q
   exact ⟨nr,xs,by rw [upd_ne (ne_of_none e h)]; exact e,Rels.mono W (Ext.fresh W h) l xs r⟩,
  W.tab.mono (fun P ps e=>by rw [upd_ne (ne_of_none e h)]; exact e) (fun b φ e=>by rw [upd_ne (ne_of_none e h)]; exact e)⟩
theorem Ext.cell {p:Addr} {o:HO} (W:Wd K ρ H c) (h:H p=none):Ext ρ H (ρ ++ [p]) (upd H p o) :=
 ⟨fun k a e=>by rw [List.getElem?_append_left (List.getElem?_eq_some_iff.mp e).1]; exact e,fun a u e n _=>⟨by rw [upd_ne (ne_of_none e h)]; exact e,by
  rw [List.mem_append]
  rintro (z | z)
  ·exact n z
  ·exact ne_of_none e h (by simpa using z)⟩⟩
theorem Wd.cell {p:Addr} {l:List D} {xs:List V} (W:Wd K ρ H c) (h:H p=none) (nr:noRefs l=true) (r:Rels K ρ H l xs):Wd K (ρ ++ [p]) (upd H p (.lst xs)) (c ++ [.lst l]):=by
 have X:=Ext.cell (o:=.lst xs) W h
 refine ⟨?_,by simp [W.len],fun k a cl e1 e2=>?_,W.tab.mono (fun P ps e=>by rw [upd_ne (ne_of_none e h)]; exact e) (fun b φ e=>by rw [upd_ne (ne_of_none e h)]; exact e)⟩
 ·rw [List.nodup_append]
  refine ⟨W.nd,by simp,?_⟩
  intro a ha b hb
  rw [List.mem_singleton] at hb
  subst hb
  exact fun z=>W.nil h (z ▸ ha)
 ·by_cases hk:k < c.length
  ·rw [List.getElem?_append_left hk] at e2
   rw [List.getElem?_append_left (by rw [W.len]; exact hk)] at e1
   have q:=W.cel k a cl e1 e2
   cases cl with
   | lst l' =>
    obtain ⟨nr',ys,e,r'⟩:=q
    exact ⟨nr',ys,by rw [upd_ne (ne_of_none e h)]; exact e,Rels.mono W X l' ys r'⟩
  ·have hk':k=c.length:=by
    have:=(List.getElem?_eq_some_iff.mp e2).1
    simp at this
    omega
   subst hk'
   rw [List.getElem?_append_right (Nat.le_refl _),Nat.sub_self] at e2
   rw [List.getElem?_append_right (by rw [W.len]; exact Nat.le_refl _),W.len,Nat.sub_self] at e1
   cases e1; cases e2
   exact ⟨nr,xs,upd_same,Rels.mono W X l xs r⟩
theorem Ext.write {k:Nat} {p:Addr} {o:HO} (h:ρ[k]? = some p):Ext ρ H ρ (upd H p o) :=
 ⟨fun _ _ e=>e,fun a u e n _=>⟨by rw [upd_ne (fun z=>n (by rw [z]; exact List.mem_of_getElem? h))]; exact e,n⟩⟩
theorem Wd.write {k:Nat} {p:Addr} {l:List D} {xs:List V} (W:Wd K ρ H c) (h:ρ[k]? = some p) (nr:noRefs l=true) (r:Rels K ρ H l xs):Wd K ρ (upd H p (.lst xs)) (c.set k (.lst l)):=by
 have X:=Ext.write (H:=H) (o:=.lst xs) h
 obtain ⟨ys,hy⟩:=W.at' (List.mem_of_getElem? h)
 refine ⟨W.nd,by simp [W.len],fun j a cl e1 e2=>?_,W.tab.mono (fun P ps e=>by rw [upd_ne (ne_of e hy fun z=>nomatch z)]; exact e) (fun b φ e=>by rw [upd_ne (ne_of e hy fun z=>nomatch z)]; exact e)⟩
 by_cases hj:j=k
 ·subst hj
  rw [h] at e1; cases e1
  have hl:j < c.length:=by rw [← W.len]; exact (List.getElem?_eq_some_iff.mp h).1
  rw [List.getElem?_set_self hl] at e2
  cases e2
  exact ⟨nr,xs,upd_same,Rels.mono W X l xs r⟩
 ·rw [List.getElem?_set_ne (Ne.symm hj)] at e2
  have q:=W.cel j a cl e1 e2
  have hap:a≠p:=by
   intro e
   subst e
   have h1:=(List.getElem?_eq_some_iff.mp h)
   have h2:=(List.getElem?_eq_some_iff.mp e1)
   exact hj ((List.getElem_inj W.nd (h₀:=h2.1) (h₁:=h1.1)).mp (h2.2.trans h1.2.symm))
  cases cl with
  | lst l' =>
   obtain ⟨nr',ys,e,r'⟩:=q
   exact ⟨nr',ys,by rw [upd_ne hap]; exact e,Rels.mono W X l' ys r'⟩
mutual
theorem Rel.low (h:∀ a,a∈ρ'→a∈ρ):∀ (d:D) (v:V),noRef d=true→Rel K ρ H d v→Rel K ρ' H d v
 | .non,v,_,r=>r
 | .bl b,v,_,r=>r
 | .int i,v,_,r=>r
 | .str y,v,_,r=>r
 | .ty n,v,_,r=>r
 | .tup l,v,n,r=>by
  obtain ⟨a,xs,e,s,r⟩:=r
  exact ⟨a,xs,e,s,Rels.low h l xs n r⟩
 | .lst l,v,n,r=>by
  obtain ⟨a,xs,e,s,r⟩:=r
  exact ⟨a,xs,e,⟨s.1,fun q=>s.2 (h a q)⟩,Rels.low h l xs n r⟩
 | .ref k,v,n,r=>by cases n
 | .scr l,v,n,r=>by
  obtain ⟨a,e,s⟩:=r
  refine ⟨a,e,?_⟩
  rcases s with ⟨s,z⟩ | s
  ·exact .inl ⟨s,fun q=>z (h a q)⟩
  ·exact .inr s
 | .fn a m,v,n,r=>r
 | .exc y,v,n,r=>r
 | .dic,v,n,r=>r
 | .dct _,v,n,r=>r
 | .lam _ _ _ _,v,n,r=>by cases n
theorem Rels.low (h:∀ a,a∈ρ'→a∈ρ):∀ (l:List D) (xs:List V),noRefs l=true→Rels K ρ H l xs→Rels K ρ' H l xs
 | [],xs,_,r=>r
 | d :: l,xs,n,r=>by
  obtain ⟨y,ys,e,h1,h2⟩:=r
  have n:(noRef d && noRefs l)=true:=n
  rw [Bool.and_eq_true] at n
  exact ⟨y,ys,e,Rel.low h d y n.1 h1,Rels.low h l ys n.2 h2⟩
end
theorem Wd.cut {n:Nat} (W:Wd K ρ H c) (hn:n≤c.length):Wd K (ρ.take n) H (c.take n):=by
 have sub:∀ a,a∈ρ.take n→a∈ρ:=fun a h=>List.mem_of_mem_take h
 refine ⟨W.nd.sublist (List.take_sublist _ _),by simp [W.len],fun k a cl e1 e2=>?_,W.tab⟩
 rw [List.getElem?_take] at e1 e2
 split at e1
 ·rename_i hk
  rw [if_pos hk] at e2
  have q:=W.cel k a cl e1 e2
  cases cl with
  | lst l =>
   obtain ⟨nr,xs,e,r⟩:=q
   exact ⟨nr,xs,e,Rels.low sub l xs nr r⟩
 ·cases e1
theorem Ext.cut {n:Nat} (x:Ext ρ H ρ' H') (hn:ρ.length≤n):Ext ρ H (ρ'.take n) H' :=
 ⟨fun k a e=>by rw [List.getElem?_take,if_pos (Nat.lt_of_lt_of_le (List.getElem?_eq_some_iff.mp e).1 hn)]; exact x.pre k a e,fun a o e z t=>let ⟨h1,h2⟩:=x.keep a o e z t; ⟨h1,fun q=>h2 (List.mem_of_mem_take q)⟩⟩
theorem Ext.len (W:Wd K ρ H c) (W':Wd K ρ' H' c') (x:Ext ρ H ρ' H'):c.length≤c'.length:=by
 rw [← W.len,← W'.len]
 by_cases h:ρ.length≤ρ'.length
 ·exact h
 ·exfalso
  have h':ρ'.length < ρ.length:=Nat.lt_of_not_le h
  have e:=x.pre ρ'.length ρ[ρ'.length] (List.getElem?_eq_getElem h')
  rw [List.getElem?_eq_none (Nat.le_refl _)] at e
  cases e
end
noncomputable abbrev Ev:=List (Option D)
noncomputable def post {α β:Type} (K:PySem.W.Frag) (Rl:List Addr→Hp→α→β→Prop) (r:R α) (ρ:List Addr) (H:Hp) (Q:β→Hp→Prop):Prop:=match r with
 | .ok a c=>∀ ρ' H' b,Wd K ρ' H' c→Ext ρ H ρ' H'→Rl ρ' H' a b→Q b H'
 | .bad=>False
structure REnv (K:PySem.W.Frag) (ρ:List Addr) (H:Hp) (e:Ev) (σ:St):Prop where
 get:∀ (i:Nat) (d:D),e[i]? = some (some d)→∃ v,σ[i]? = some (some v)∧Rel K ρ H d v
 len:e.length=σ.length
noncomputable def tD {α β:Type} (K:PySem.W.Frag) (Rl:List Addr→Hp→α→β→Prop) (d:Ev→List Cell→R α):St→Hp→(β→Hp→Prop)→Prop :=
 fun σ H Q=>∃ ρ e c,Wd K ρ H c∧REnv K ρ H e σ∧post K Rl (d e c) ρ H Q
section
variable {α β γ δ:Type} {K:PySem.W.Frag} {ρ ρ':List Addr} {H H':Hp} {c:List Cell} {e:Ev} {σ:St} {Rl:List Addr→Hp→α→β→Prop} {Rm:List Addr→Hp→γ→δ→Prop}
theorem REnv.mono (V:REnv K ρ H e σ) (W:Wd K ρ H c) (x:Ext ρ H ρ' H'):REnv K ρ' H' e σ :=
 ⟨fun i d h=>let ⟨v,h1,h2⟩:=V.get i d h; ⟨v,h1,Rel.mono W x d v h2⟩,V.len⟩
theorem REnv.set (V:REnv K ρ H e σ) {d:D} {v:L2.V} (r:Rel K ρ H d v) (i:Nat):REnv K ρ H (e.set i (some d)) (σ.set i (some v)):=by
 refine ⟨fun j b h=>?_,by simp [V.len]⟩
 by_cases hj:j=i
 ·subst hj
  have hl:j < e.length:=by
   have:=(List.getElem?_eq_some_iff.mp h).1
   simpa using this
  rw [List.getElem?_set_self hl] at h
  cases h
  exact ⟨v,by rw [List.getElem?_set_self (by rw [← V.len]; exact hl)],r⟩
 ·rw [List.getElem?_set_ne (Ne.symm hj)] at h ⊢
  exact V.get j b h
theorem post.ext {r:R α} {Q:β→Hp→Prop} (p:post K Rl r ρ H Q) (x:Ext ρ H ρ' H'):post K Rl r ρ' H' Q:=by
 cases r with
 | ok a c=>exact fun ρ2 H2 b W y r=>p ρ2 H2 b W (x.trans y) r
 | bad=>exact p
theorem post.mono {r:R α} {Q Q':β→Hp→Prop} (p:post K Rl r ρ H Q) (h:∀ b H,Q b H→Q' b H):post K Rl r ρ H Q':=by
 cases r with
 | ok a c=>exact fun ρ2 H2 b W y r=>h _ _ (p ρ2 H2 b W y r)
 | bad=>exact p
theorem post.bind {r:R α} {f:α→List Cell→R γ} {Q:δ→Hp→Prop} {S:β→Hp→Prop} (p:post K Rm (r.bind f) ρ H Q)
  (h:∀ a c1 ρ' H' b,r=.ok a c1→Wd K ρ' H' c1→Ext ρ H ρ' H'→Rl ρ' H' a b→post K Rm (f a c1) ρ' H' Q→S b H'):post K Rl r ρ H S:=by
 cases r with
 | ok a c1=>exact fun ρ' H' b W x r=>h a c1 ρ' H' b rfl W x r (post.ext (r:=f a c1) p x)
 | bad=>exact p
theorem post.here {a:α} {b:β} {Q:β→Hp→Prop} (p:post K Rl (.ok a c) ρ H Q) (W:Wd K ρ H c) (r:Rl ρ H a b):Q b H:=p ρ H b W Ext.refl r
end
noncomputable abbrev PEd (X:Cx) (e:Expr) (d:Ev→List Cell→R D):Prop:=PE X e (tD X.K (Rel X.K) d)
noncomputable abbrev PTd (X:Cx) (e:Expr) (d:Ev→List Cell→R Bool):Prop:=PT X e (tD X.K (fun _ _ a b=>a=b) d)
noncomputable abbrev PWd (X:Cx) (e:Expr) (d:Ev→List Cell→R Bool):Prop:=PW X e (tD X.K (fun _ _ a b=>a=b) d)
noncomputable abbrev PAd (X:Cx) (es:List Expr) (d:Ev→List Cell→R (List D)):Prop:=PA X es (tD X.K (Rels X.K) d)
section
variable {X:Cx} {e:Expr} {es:List Expr} {st:Stmt} {sts:List Stmt}
theorem PE.imp {t t':TE} (h:PE X e t) (i:∀ σ H Q,t' σ H Q→t σ H Q):PE X e t':=fun pins s σ H Q I q=>h pins s σ H Q I (i _ _ _ q)
theorem PT.imp {t t':TT} (h:PT X e t) (i:∀ σ H Q,t' σ H Q→t σ H Q):PT X e t':=fun pins s σ H Q I q=>h pins s σ H Q I (i _ _ _ q)
theorem PW.imp {t t':TT} (h:PW X e t) (i:∀ σ H Q,t' σ H Q→t σ H Q):PW X e t':=fun wh pins s σ H Q I q=>h wh pins s σ H Q I (i _ _ _ q)
theorem PA.imp {t t':TA} (h:PA X es t) (i:∀ σ H Q,t' σ H Q→t σ H Q):PA X es t':=fun pos pins s σ H Q I q=>h pos pins s σ H Q I (i _ _ _ q)
theorem PS.imp {t t':TS} (h:PS X st t) (i:∀ D σ H,t' D σ H→t D σ H):PS X st t':=fun pins s σ H D I q=>h pins s σ H D I (i _ _ _ q)
theorem PSs.imp {t t':TS} (h:PSs X sts t) (i:∀ D σ H,t' D σ H→t D σ H):PSs X sts t':=fun pins s σ H D I q=>h pins s σ H D I (i _ _ _ q)
end
noncomputable def dVar (i:Nat):Ev→List Cell→R D:=fun e c=>match e[i]? with
 | some (some d)=>.ok d c
 | _=>.bad
noncomputable def dC (d:D):Ev→List Cell→R D:=fun _ c=>.ok d c
section
variable {X:Cx}
theorem pd_var (i:Nat) {x:Str} {pos:Pos} (hN:X.N[i]? = some x:=by rfl) (hv:Vis X.env.scope x:=by first | exact Or.inl rfl | exact Or.inr (Or.inl rfl) | exact Or.inr (Or.inr rfl)) (hd:(x == ("__debug__":Str))=false:=by decide)
  (hcd:(x == ("__classdict__":Str))=false:=by decide):PEd X (.Name x pos) (dVar i):=(pe_var hN hv hd hcd).imp fun σ H Q h=>by
 obtain ⟨ρ,e,c,W,V,p⟩:=h
 unfold dVar at p
 cases q:e[i]? with
 | none=>rw [q] at p; exact p.elim
 | some o =>
  rw [q] at p
  cases o with
  | none=>exact p.elim
  | some d =>
   obtain ⟨v,hv,r⟩:=V.get i d q
   exact ⟨v,hv,p.here W r⟩
theorem pd_const {e:Expr} {v:V} {d:D} (h:PE X e (tC v)) (r:∀ ρ H,Rel X.K ρ H d v):PEd X e (dC d):=h.imp fun σ H Q h=>by
 obtain ⟨ρ,e,c,W,V,p⟩:=h
 exact post.here (r:=r ρ H) p W
theorem pd_int {i j pos}:PEd X (.Constant (.int i) j pos) (dC (.int i)):=pd_const pe_int fun _ _=>rfl
theorem pd_bl {b j pos}:PEd X (.Constant (.bool b) j pos) (dC (.bl b)):=pd_const pe_bl fun _ _=>rfl
theorem pd_non {j pos}:PEd X (.Constant .none j pos) (dC .non):=pd_const pe_non fun _ _=>rfl
theorem pd_str {x j pos}:PEd X (.Constant (.str x) j pos) (dC (.str x)):=pd_const pe_str fun _ _=>rfl
theorem pd_ty {x:Str} {n:String} {pos:Pos} (hg:Gl X x) (hm:X.mg x=none) (hv:bootBuiltins x=some (.type n)) (hn:x≠"__name__":=by decide) (hd:(x == ("__debug__":Str))=false:=by decide):PEd X (.Name x pos) (dC (.ty n)):=pd_const (pe_ty hg hm hv hn hd) fun _ _=>rfl
end
end L2
namespace L2
open PySem PySem.Spec PyProof.Rows
noncomputable def dBin (f:D→D→List Cell→R D) (a b:Ev→List Cell→R D):Ev→List Cell→R D:=fun e c=>(a e c).bind fun x c=>(b e c).bind fun y c=>f x y c
noncomputable def dUn (f:D→List Cell→R D) (a:Ev→List Cell→R D):Ev→List Cell→R D:=fun e c=>(a e c).bind fun x c=>f x c
noncomputable def r2 (K:PySem.W.Frag) (f:D→D→List Cell→R D):R2:=fun v u H Q=>∃ ρ x y c,Wd K ρ H c∧Rel K ρ H x v∧Rel K ρ H y u∧post K (Rel K) (f x y c) ρ H Q
noncomputable def r1 (K:PySem.W.Frag) (f:D→List Cell→R D):V→Hp→VK→Prop:=fun v H Q=>∃ ρ x c,Wd K ρ H c∧Rel K ρ H x v∧post K (Rel K) (f x c) ρ H Q
noncomputable def rN (K:PySem.W.Frag) (f:List D→List Cell→R D):List V→Hp→VK→Prop:=fun vs H Q=>∃ ρ xs c,Wd K ρ H c∧Rels K ρ H xs vs∧post K (Rel K) (f xs c) ρ H Q
noncomputable def dCB (f:List D→List Cell→R D) (a:Ev→List Cell→R (List D)):Ev→List Cell→R D:=fun e c=>(a e c).bind fun xs c=>f xs c
section
variable {X:Cx} {a b:Expr} {da db dd:Ev→List Cell→R D} {pos:Pos} {K:PySem.W.Frag} {σ:St} {H:Hp} {Q:VK} {f:D→D→List Cell→R D}
theorem t_bin (h:tD K (Rel K) (dBin f da db) σ H Q):tD K (Rel K) da σ H fun v H1=>tD K (Rel K) db σ H1 fun u H2=>r2 K f v u H2 Q:=by
 obtain ⟨ρ,e,c,W,V,p⟩:=h
 refine ⟨ρ,e,c,W,V,post.bind p fun x c1 ρ1 H1 v _ W1 X1 r1 p1=>⟨ρ1,e,c1,W1,V.mono W X1,post.bind p1 fun y c2 ρ2 H2 u _ W2 X2 r2 p2=>⟨ρ2,x,y,c2,W2,Rel.mono W1 X2 _ _ r1,r2,p2⟩⟩⟩
theorem t_un {g:D→List Cell→R D} (h:tD K (Rel K) (dUn g da) σ H Q):tD K (Rel K) da σ H fun v H1=>r1 K g v H1 Q:=by
 obtain ⟨ρ,e,c,W,V,p⟩:=h
 exact ⟨ρ,e,c,W,V,post.bind p fun x c1 ρ1 H1 v _ W1 X1 r1 p1=>⟨ρ1,x,c1,W1,r1,p1⟩⟩
theorem t_cb {g:List D→List Cell→R D} {ds:Ev→List Cell→R (List D)} (h:tD K (Rel K) (dCB g ds) σ H Q):tD K (Rels K) ds σ H fun vs H1=>rN K g vs H1 Q:=by
 obtain ⟨ρ,e,c,W,V,p⟩:=h
 exact ⟨ρ,e,c,W,V,post.bind p fun x c1 ρ1 H1 v _ W1 X1 r1 p1=>⟨ρ1,x,c1,W1,r1,p1⟩⟩
theorem pd_bin {op:Operator} (ho:OpR X (binaryOp op) (r2 X.K f)) (ha:PEd X a da) (hb:PEd X b db):PEd X (.BinOp a op b pos) (dBin f da db):=(pe_op ho ha hb).imp fun σ H Q h=>t_bin h
theorem pd_cmp {op:CmpOp} (ho:OpR X (compareOp op) (r2 X.K f)) (ha:PEd X a da) (hb:PEd X b db) (hm:behindInMarks op b=false:=by first | exact nomark _ | rfl):PEd X (.Compare a [op] [b] pos) (dBin f da db):=(pe_cmpR ho ha hb hm).imp fun σ H Q h=>t_bin h
theorem pd_un {op:UnaryOp} {g:D→List Cell→R D} (ho:UnR X (unaryOp op) (r1 X.K g)) (ha:PEd X a da):PEd X (.UnaryOp op a pos) (dUn g da):=(pe_un ho ha).imp fun σ H Q h=>t_un h
theorem pd_ix (hr:IxR X (r2 X.K f)) (ha:PEd X a da) (hb:PEd X b db) (hs:PlainIx b:=by exact fun _ _=>rfl):PEd X (.Subscript a b pos) (dBin f da db):=(pe_ix hr ha hb hs).imp fun σ H Q h=>t_bin h
noncomputable def dChain (f g:D→D→List Cell→R D) (a b d:Ev→List Cell→R D):Ev→List Cell→R D:=fun e c=>(a e c).bind fun x c=>(b e c).bind fun y c=>(f x y c).bind fun z c=>match z with
 | .bl true=>(d e c).bind fun u c=>g y u c
 | .bl false=>.ok (.bl false) c
 | _=>.bad
end
noncomputable def dNil:Ev→List Cell→R (List D):=fun _ c=>.ok [] c
noncomputable def dCons (a:Ev→List Cell→R D) (r:Ev→List Cell→R (List D)):Ev→List Cell→R (List D):=fun e c=>(a e c).bind fun x c=>(r e c).bind fun xs c=>.ok (x :: xs) c
noncomputable def dTup (a:Ev→List Cell→R (List D)):Ev→List Cell→R D:=fun e c=>(a e c).bind fun xs c=>if xs.length≤sizeLine then .ok (.tup xs) c else .bad
noncomputable def dLst (a:Ev→List Cell→R (List D)):Ev→List Cell→R D:=fun e c=>(a e c).bind fun xs c=>if xs.length≤sizeLine then .ok (.lst xs) c else .bad
noncomputable def dLstM (a:Ev→List Cell→R (List D)):Ev→List Cell→R D:=fun e c=>(a e c).bind fun xs c=>if xs.length≤sizeLine∧noRefs xs=true then .ok (.ref c.length) (c ++ [.lst xs]) else .bad
section
variable {X:Cx} {a:Expr} {es:List Expr} {da:Ev→List Cell→R D} {ds:Ev→List Cell→R (List D)} {pos:Pos} {K:PySem.W.Frag} {ρ:List Addr} {H:Hp} {c:List Cell} {Q:VK} {xs:List D} {vs:List V}
theorem pd_nil:PAd X [] dNil:=pa_nil.imp fun σ H Q h=>by
 obtain ⟨ρ,e,c,W,V,p⟩:=h
 exact post.here (b:=[]) p W rfl
theorem pd_cons (ha:PEd X a da) (hr:PAd X es ds) (hs:starEach (a :: es) X.env=(false,eval a X.env) :: starEach es X.env:=by exact starE rfl):PAd X (a :: es) (dCons da ds):=(pa_cons ha hr hs).imp fun σ H Q h=>by
 obtain ⟨ρ,e,c,W,V,p⟩:=h
 refine ⟨ρ,e,c,W,V,post.bind p fun x c1 ρ1 H1 v _ W1 X1 r1 p1=>⟨ρ1,e,c1,W1,V.mono W X1,post.bind p1 fun y c2 ρ2 H2 u _ W2 X2 r2 p2=>?_⟩⟩
 exact p2.here W2 ⟨v,u,rfl,Rel.mono W1 X2 _ _ r1,r2⟩
theorem new_tup (W:Wd K ρ H c) (r:Rels K ρ H xs vs) (p:post K (Rel K) (.ok (.tup xs) c) ρ H Q):∀ q,H q=none→Q (.ref q) (upd H q (.tup vs)):=fun q hq =>
 p ρ _ _ (W.fresh hq) (Ext.fresh W hq) ⟨q,vs,rfl,upd_same,Rels.mono W (Ext.fresh W hq) _ _ r⟩
theorem new_lst (W:Wd K ρ H c) (r:Rels K ρ H xs vs) (p:post K (Rel K) (.ok (.lst xs) c) ρ H Q):∀ q,H q=none→Q (.ref q) (upd H q (.lst vs)):=fun q hq =>
 p ρ _ _ (W.fresh hq) (Ext.fresh W hq) ⟨q,vs,rfl,⟨upd_same,W.nil hq⟩,Rels.mono W (Ext.fresh W hq) _ _ r⟩
theorem new_cell (W:Wd K ρ H c) (nr:noRefs xs=true) (r:Rels K ρ H xs vs) (p:post K (Rel K) (.ok (.ref c.length) (c ++ [.lst xs])) ρ H Q):∀ q,H q=none→Q (.ref q) (upd H q (.lst vs)):=fun q hq =>
 p (ρ ++ [q]) _ _ (W.cell hq nr r) (Ext.cell W hq) ⟨q,rfl,by rw [List.getElem?_append_right (by rw [W.len]; exact Nat.le_refl _),W.len,Nat.sub_self]; rfl⟩
theorem pd_tup {x1} (h:PAd X es ds):PEd X (.Tuple es x1 pos) (dTup ds):=(pe_tup h).imp fun σ H Q h=>by
 obtain ⟨ρ,e,c,W,V,p⟩:=h
 refine ⟨ρ,e,c,W,V,post.bind p fun x c1 ρ1 H1 v _ W1 X1 r1 p1=>?_⟩
 split at p1
 ·rename_i hl
  exact ⟨by rw [r1.length]; exact hl,new_tup W1 r1 p1⟩
 ·exact p1.elim
theorem pd_lst (h:PAd X es ds):PEd X (.List es pos) (dLst ds):=(pe_lst h).imp fun σ H Q h=>by
 obtain ⟨ρ,e,c,W,V,p⟩:=h
 refine ⟨ρ,e,c,W,V,post.bind p fun x c1 ρ1 H1 v _ W1 X1 r1 p1=>?_⟩
 split at p1
 ·rename_i hl
  exact ⟨by rw [r1.length]; exact hl,new_lst W1 r1 p1⟩
 ·exact p1.elim
theorem pd_lstM (h:PAd X es ds):PEd X (.List es pos) (dLstM ds):=(pe_lst h).imp fun σ H Q h=>by
 obtain ⟨ρ,e,c,W,V,p⟩:=h
 refine ⟨ρ,e,c,W,V,post.bind p fun x c1 ρ1 H1 v _ W1 X1 r1 p1=>?_⟩
 split at p1
 ·rename_i hl
  exact ⟨by rw [r1.length]; exact hl.1,new_cell W1 hl.2 r1 p1⟩
 ·exact p1.elim
end
noncomputable def addD:D→D→List Cell→R D:=fun x y c=>match x,y with
 | .int i,.int j=>.ok (.int (i + j)) c
 | .str a,.str b=>if a.length + b.length≤sizeLine then .ok (.str (a ++ b)) c else .bad
 | .tup l,.tup m=>if l.length≠0∧l.length + m.length≤sizeLine then .ok (.tup (l ++ m)) c else .bad
 | _,_=>.bad
noncomputable def subD:D→D→List Cell→R D:=fun x y c=>match x,y with
 | .int i,.int j=>.ok (.int (i - j)) c
 | _,_=>.bad
noncomputable def mulD:D→D→List Cell→R D:=fun x y c=>match x,y with
 | .int i,.int j=>if (-(2 ^ 64) < i∧i < 2 ^ 64)∨(-(2 ^ 64) < j∧j < 2 ^ 64) then .ok (.int (i * j)) c else .bad
 | _,_=>.bad
noncomputable def divD:D→D→List Cell→R D:=fun x y c=>match x,y with
 | .int i,.int j=>if 0 < j∧j < 1073741824 then .ok (.int (i / j)) c else .bad
 | _,_=>.bad
noncomputable def modD:D→D→List Cell→R D:=fun x y c=>match x,y with
 | .int i,.int j=>if 0 < j then .ok (.int (i % j)) c else .bad
 | _,_=>.bad
noncomputable def powD:D→D→List Cell→R D:=fun x y c=>match x,y with
 | .int i,.int j=>if 0≤j∧j≤1000000∧i.natAbs < 2 ^ 64 then .ok (.int (i ^ j.toNat)) c else .bad
 | _,_=>.bad
noncomputable def negD:D→List Cell→R D:=fun x c=>match x with
 | .int i=>.ok (.int (-i)) c
 | _=>.bad
noncomputable def cmpD (p:Int→Int→Bool):D→D→List Cell→R D:=fun x y c=>match x,y with
 | .int i,.int j=>.ok (.bl (p i j)) c
 | _,_=>.bad
section
variable {X:Cx}
theorem od_add:OpR X (binaryOp .Add) (r2 X.K addD):=by
 intro pins s σ H v u vv uu Q I rv ru h
 obtain ⟨ρ,x,y,c,W,rx,ry,p⟩:=h
 unfold addD at p
 split at p
 ·cases rx; cases ry
  exact op_add pins s σ H _ _ vv uu Q I rv ru ⟨_,_,rfl,rfl,p.here W rfl⟩
 ·split at p
  ·rename_i hl
   cases rx; cases ry
   exact op_add_str pins s σ H _ _ vv uu Q I rv ru ⟨_,_,rfl,rfl,hl,p.here W rfl⟩
  ·exact p.elim
 ·split at p
  ·rename_i hl
   obtain ⟨a,xs,rfl,sa,ra⟩:=rx
   obtain ⟨b,ys,rfl,sb,rb⟩:=ry
   refine op_catT pins s σ H _ _ vv uu Q I rv ru ⟨a,b,xs,ys,rfl,rfl,SqT.of sa,SqT.of sb,fun z=>hl.1 ?_,by rw [ra.length,rb.length]; exact hl.2,fun z=>?_,fun _=>new_tup W (ra.append rb) p⟩
   ·rw [← ra.length,z]; rfl
   ·refine p.here W ⟨a,xs ++ ys,rfl,by rw [z,List.append_nil]; exact sa,ra.append rb⟩
  ·exact p.elim
 ·exact p.elim
theorem od_sub:OpR X (binaryOp .Sub) (r2 X.K subD):=by
 intro pins s σ H v u vv uu Q I rv ru h
 obtain ⟨ρ,x,y,c,W,rx,ry,p⟩:=h
 unfold subD at p
 split at p
 ·cases rx; cases ry
  exact op_sub pins s σ H _ _ vv uu Q I rv ru ⟨_,_,rfl,rfl,p.here W rfl⟩
 ·exact p.elim
theorem od_mul:OpR X (binaryOp .Mult) (r2 X.K mulD):=by
 intro pins s σ H v u vv uu Q I rv ru h
 obtain ⟨ρ,x,y,c,W,rx,ry,p⟩:=h
 unfold mulD at p
 split at p
 ·split at p
  ·rename_i hl
   cases rx; cases ry
   exact op_mul pins s σ H _ _ vv uu Q I rv ru ⟨_,_,rfl,rfl,hl,p.here W rfl⟩
  ·exact p.elim
 ·exact p.elim
theorem od_div:OpR X (binaryOp .FloorDiv) (r2 X.K divD):=by
 intro pins s σ H v u vv uu Q I rv ru h
 obtain ⟨ρ,x,y,c,W,rx,ry,p⟩:=h
 unfold divD at p
 split at p
 ·split at p
  ·rename_i hl
   cases rx; cases ry
   exact op_fdiv pins s σ H _ _ vv uu Q I rv ru ⟨_,_,rfl,rfl,hl,p.here W rfl⟩
  ·exact p.elim
 ·exact p.elim
theorem od_mod:OpR X (binaryOp .Mod) (r2 X.K modD):=by
 intro pins s σ H v u vv uu Q I rv ru h
 obtain ⟨ρ,x,y,c,W,rx,ry,p⟩:=h
 unfold modD at p
 split at p
 ·split at p
  ·rename_i hl
   cases rx; cases ry
   exact op_mod pins s σ H _ _ vv uu Q I rv ru ⟨_,_,rfl,rfl,hl,p.here W rfl⟩
  ·exact p.elim
 ·exact p.elim
theorem od_pow:OpR X (binaryOp .Pow) (r2 X.K powD):=by
 intro pins s σ H v u vv uu Q I rv ru h
 obtain ⟨ρ,x,y,c,W,rx,ry,p⟩:=h
 unfold powD at p
 split at p
 ·split at p
  ·rename_i hl
   cases rx; cases ry
   exact op_pow pins s σ H _ _ vv uu Q I rv ru ⟨_,_,rfl,rfl,hl,p.here W rfl⟩
  ·exact p.elim
 ·exact p.elim
theorem ud_neg:UnR X (unaryOp .USub) (r1 X.K negD):=by
 intro pins s σ H v vv Q I rv h
 obtain ⟨ρ,x,c,W,rx,p⟩:=h
 unfold negD at p
 split at p
 ·cases rx
  exact un_neg pins s σ H _ vv Q I rv ⟨_,rfl,p.here W rfl⟩
 ·exact p.elim
theorem od_cmp {f:Value→Value→Sem Value} {q:Int→Int→Bool} (h:OpR X f (rI0 fun i j=>.bl (q i j))):OpR X f (r2 X.K (cmpD q)):=by
 intro pins s σ H v u vv uu Q I rv ru hh
 obtain ⟨ρ,x,y,c,W,rx,ry,p⟩:=hh
 unfold cmpD at p
 split at p
 ·cases rx; cases ry
  exact h pins s σ H _ _ vv uu Q I rv ru ⟨_,_,rfl,rfl,p.here W rfl⟩
 ·exact p.elim
noncomputable abbrev ltD:=cmpD fun i j=>decide (i < j)
noncomputable abbrev leD:=cmpD fun i j=>decide (i≤j)
noncomputable abbrev gtD:=cmpD fun i j=>decide (j < i)
noncomputable abbrev geD:=cmpD fun i j=>decide (j≤i)
theorem od_lt:OpR X (compareOp .Lt) (r2 X.K ltD):=od_cmp op_lt
theorem od_le:OpR X (compareOp .LtE) (r2 X.K leD):=od_cmp op_le
theorem od_ge:OpR X (compareOp .GtE) (r2 X.K geD):=od_cmp op_ge
end
noncomputable def eqS:D→D→Option Bool
 | .non,.non=>some true | .non,.int _=>some false | .int _,.non=>some false | .non,.bl _=>some false | .bl _,.non=>some false | .non,.str _=>some false | .str _,.non=>some false
 | .int i,.int j=>some (decide (i=j)) | .bl a,.bl b=>some (decide (a=b)) | .str x,.str y=>some (decide (x=y))
 | .int _,.str _=>some false | .str _,.int _=>some false | .bl _,.str _=>some false | .str _,.bl _=>some false
 | _,_=>none
noncomputable def eqD:D→D→List Cell→R D:=fun x y c=>match eqS x y with
 | some b=>.ok (.bl b) c
 | none=>.bad
noncomputable def neD:D→D→List Cell→R D:=fun x y c=>match eqS x y with
 | some b=>.ok (.bl (!b)) c
 | none=>.bad
noncomputable def isN:D→Bool
 | .non=>true
 | _=>false
noncomputable def isD:D→D→List Cell→R D:=fun x y c=>match y with
 | .non=>.ok (.bl (isN x)) c
 | _=>.bad
noncomputable def isNotD:D→D→List Cell→R D:=fun x y c=>match y with
 | .non=>.ok (.bl (!isN x)) c
 | _=>.bad
section
variable {X:Cx} {K:PySem.W.Frag} {ρ:List Addr} {H:Hp} {c:List Cell}
theorem eqS_ok {x y:D} {v u:V} {b:Bool} (rx:Rel K ρ H x v) (ry:Rel K ρ H y u) (h:eqS x y=some b):scal v u=true∧decide (v=u)=b:=by
 cases x <;> cases y <;> first
  | (cases rx; cases ry; cases h; refine ⟨rfl,?_⟩; simp; done)
  | (cases h; done)
theorem od_eq:OpR X (compareOp .Eq) (r2 X.K eqD):=by
 intro pins s σ H v u vv uu Q I rv ru h
 obtain ⟨ρ,x,y,c,W,rx,ry,p⟩:=h
 unfold eqD at p
 split at p
 ·rename_i b hb
  obtain ⟨h1,h2⟩:=eqS_ok rx ry hb
  exact op_eq pins s σ H _ _ vv uu Q I rv ru ⟨h1,by rw [h2]; exact p.here W rfl⟩
 ·exact p.elim
theorem od_ne:OpR X (compareOp .NotEq) (r2 X.K neD):=by
 intro pins s σ H v u vv uu Q I rv ru h
 obtain ⟨ρ,x,y,c,W,rx,ry,p⟩:=h
 unfold neD at p
 split at p
 ·rename_i b hb
  obtain ⟨h1,h2⟩:=eqS_ok rx ry hb
  exact op_ne pins s σ H _ _ vv uu Q I rv ru ⟨h1,by rw [h2]; exact p.here W rfl⟩
 ·exact p.elim
theorem pd_chain {a b d:Expr} {da db dd:Ev→List Cell→R D} {pos:Pos} {op op':CmpOp} {f g:D→D→List Cell→R D} (ho:OpR X (compareOp op) (r2 X.K f)) (ho':OpR X (compareOp op') (r2 X.K g)) (ha:PEd X a da) (hb:PEd X b db) (hd:PEd X d dd)
  (h1:lastMarks [op,op'] [b,d]=false:=by with_unfolding_all rfl) :
  PEd X (.Compare a [op,op'] [b,d] pos) (dChain f g da db dd):=(pe_chain ho ho' ha hb hd h1).imp fun σ H Q h=>by
 obtain ⟨ρ,e,c,W,V,p⟩:=h
 refine ⟨ρ,e,c,W,V,post.bind p fun x c1 ρ1 H1 v _ W1 X1 r1 p1=>⟨ρ1,e,c1,W1,V.mono W X1,post.bind p1 fun y c2 ρ2 H2 u _ W2 X2 r2 p2=>⟨ρ2,x,y,c2,W2,Rel.mono W1 X2 _ _ r1,r2,post.bind p2 fun z c3 ρ3 H3 w _ W3 X3 r3 p3=>?_⟩⟩⟩
 have V3:=(V.mono W X1).mono W1 (X2.trans X3)
 cases z with
 | bl k =>
  cases r3
  refine ⟨k,rfl,?_⟩
  cases k with
  | true =>
   refine iteT ⟨ρ3,e,c3,W3,V3,post.bind p3 fun t c4 ρ4 H4 w4 _ W4 X4 r4 p4=>⟨ρ4,y,t,c4,W4,Rel.mono W2 (X3.trans X4) _ _ r2,r4,p4⟩⟩
  | false=>exact iteF (p3.here W3 rfl)
 | _=>exact p3.elim
end
noncomputable def seqD (c:List Cell):D→Option (List D)
 | .tup l=>some l
 | .lst l=>some l
 | .scr l=>some (l.map D.int)
 | .ref k=>match c[k]? with
  | some (.lst l)=>some l
  | none=>none
 | _=>none
noncomputable def ixD:D→D→List Cell→R D:=fun x y c=>match y with
 | .int i=>match seqD c x with
  | some l=>match atI l i with
   | some d=>.ok d c
   | none=>.bad
  | none=>.bad
 | _=>.bad
section
variable {X:Cx} {K:PySem.W.Frag} {ρ:List Addr} {H:Hp} {c:List Cell}
theorem seqD_ok {x:D} {v:V} {l:List D} (W:Wd K ρ H c) (rx:Rel K ρ H x v) (h:seqD c x=some l):∃ a xs,v=.ref a∧(SqL K H a xs∨SqT K H a xs)∧Rels K ρ H l xs:=by
 cases x with
 | tup m =>
  cases h
  obtain ⟨a,xs,e,s,r⟩:=rx
  exact ⟨a,xs,e,.inr (SqT.of s),r⟩
 | lst m =>
  cases h
  obtain ⟨a,xs,e,s,r⟩:=rx
  exact ⟨a,xs,e,.inl (SqL.of s.1),r⟩
 | scr m =>
  cases h
  obtain ⟨a,e,s⟩:=rx
  exact ⟨a,_,e,.inl s.sql,Rels.ints⟩
 | ref k =>
  obtain ⟨a,e,s⟩:=rx
  unfold seqD at h
  dsimp only at h
  cases hc:c[k]? with
  | none=>rw [hc] at h; cases h
  | some cl =>
   cases cl with
   | lst m =>
    rw [hc] at h; cases h
    obtain ⟨_,xs,hx,r⟩:=W.cel k a _ s hc
    exact ⟨a,xs,e,.inl (SqL.of hx),r⟩
 | _=>cases h
theorem atI_rel {l:List D} {xs:List V} {i:Int} {d:D} (r:Rels K ρ H l xs) (h:atI l i=some d):∃ v,atI xs i=some v∧Rel K ρ H d v:=by
 unfold atI at h ⊢
 rw [r.length]
 cases e:ixN l.length i with
 | none=>rw [e] at h; cases h
 | some j =>
  rw [e] at h
  exact r.get (i:=j) h
theorem id_seq:IxR X (r2 X.K ixD):=by
 intro value slice pins s σ H v u vv uu Q I rv ru h hs
 obtain ⟨ρ,x,y,c,W,rx,ry,p⟩:=h
 unfold ixD at p
 split at p
 ·split at p
  ·rename_i l hl
   split at p
   ·rename_i d hd
    cases ry
    obtain ⟨a,xs,rfl,sq,r⟩:=seqD_ok W rx hl
    obtain ⟨w,hw,rw'⟩:=atI_rel r hd
    rcases sq with sq | sq
    ·exact ix_list value slice pins s σ H _ _ vv uu Q I rv ru ⟨a,xs,_,w,rfl,rfl,sq,hw,p.here W rw'⟩ hs
    ·exact ix_tup value slice pins s σ H _ _ vv uu Q I rv ru ⟨a,xs,_,w,rfl,rfl,sq,hw,p.here W rw'⟩ hs
   ·exact p.elim
  ·exact p.elim
 ·exact p.elim
end
end L2
namespace L2
open PySem PySem.Spec PyProof.Rows
noncomputable def truD (c:List Cell):D→Option Bool
 | .non=>some false
 | .bl b=>some b
 | .int i=>some (i != 0)
 | .tup l=>some (!l.isEmpty)
 | .lst l=>some (!l.isEmpty)
 | .ref k=>match c[k]? with
  | some (.lst l)=>some (!l.isEmpty)
  | none=>none
 | _=>none
noncomputable def dTru (a:Ev→List Cell→R D):Ev→List Cell→R Bool:=fun e c=>(a e c).bind fun x c=>match truD c x with
 | some b=>.ok b c
 | none=>.bad
noncomputable def dBl (a:Ev→List Cell→R D):Ev→List Cell→R Bool:=fun e c=>(a e c).bind fun x c=>match x with
 | .bl b=>.ok b c
 | _=>.bad
noncomputable def dAndT (a b:Ev→List Cell→R Bool):Ev→List Cell→R Bool:=fun e c=>(a e c).bind fun x c=>if x=true then b e c else .ok false c
noncomputable def dOrT (a b:Ev→List Cell→R Bool):Ev→List Cell→R Bool:=fun e c=>(a e c).bind fun x c=>if x=true then .ok true c else b e c
noncomputable def dNotT (a:Ev→List Cell→R Bool):Ev→List Cell→R Bool:=fun e c=>(a e c).bind fun x c=>.ok (!x) c
noncomputable def dAndV (a b:Ev→List Cell→R D):Ev→List Cell→R D:=fun e c=>(a e c).bind fun x c=>match x with
 | .bl k=>if k=true then b e c else .ok (.bl false) c
 | _=>.bad
noncomputable def dOrV (a b:Ev→List Cell→R D):Ev→List Cell→R D:=fun e c=>(a e c).bind fun x c=>match x with
 | .bl k=>if k=true then .ok (.bl true) c else b e c
 | _=>.bad
noncomputable def dNotV (a:Ev→List Cell→R D):Ev→List Cell→R D:=fun e c=>(a e c).bind fun x c=>match x with
 | .bl k=>.ok (.bl (!k)) c
 | _=>.bad
noncomputable def dIfE (t:Ev→List Cell→R Bool) (a b:Ev→List Cell→R D):Ev→List Cell→R D:=fun e c=>(t e c).bind fun x c=>if x=true then a e c else b e c
section
variable {X:Cx} {a b c':Expr} {da db:Ev→List Cell→R D} {ta tb:Ev→List Cell→R Bool} {pos:Pos} {rest:List Expr}
theorem blT (h:tD X.K (fun _ _ a b=>a=b) (dBl da) σ H Q):tD X.K (Rel X.K) da σ H fun x H'=>∃ k,x=.bl k∧Q k H':=by
 obtain ⟨ρ,e,c,W,V,p⟩:=h
 refine ⟨ρ,e,c,W,V,post.bind p fun x c1 ρ1 H1 v _ W1 X1 r1 p1=>?_⟩
 cases x with
 | bl k=>cases r1; exact ⟨k,rfl,p1.here W1 rfl⟩
 | _=>exact p1.elim
theorem pd_bool (ha:PEd X a da) (he:∀ whole,isTrue a X.env whole=(do let v ← whole; standAt a.pos; holding [v] (truthy v)):=by intro _; rfl):PTd X a (dBl da):=(pt_val ha he).imp fun σ H Q h=>blT h
theorem pd_cmpT {op:CmpOp} {f:D→D→List Cell→R D} (ho:OpR X (compareOp op) (r2 X.K f)) (ha:PEd X a da) (hb:PEd X b db) (hm:behindInMarks op b=false:=by first | exact nomark _ | rfl):PTd X (.Compare a [op] [b] pos) (dBl (dBin f da db)) :=
 (pt_cmpR ho ha hb hm).imp fun σ H Q h=>t_bin (Q:=fun x H'=>∃ k,x=.bl k∧Q k H') (blT h)
theorem pd_and1 (ha:PTd X a ta):PWd X (.BoolOp .And [a] pos) ta:=pw_and1 ha
theorem pd_or1 (ha:PTd X a ta):PWd X (.BoolOp .Or [a] pos) ta:=pw_or1 ha
theorem pd_andT (ha:PTd X a ta) (hb:PWd X (.BoolOp .And (b :: rest) pos) tb):PWd X (.BoolOp .And (a :: b :: rest) pos) (dAndT ta tb):=(pw_and ha hb).imp fun σ H Q h=>by
 obtain ⟨ρ,e,c,W,V,p⟩:=h
 refine ⟨ρ,e,c,W,V,post.bind p fun x c1 ρ1 H1 v _ W1 X1 r1 p1=>?_⟩
 cases r1
 cases x with
 | true=>exact iteT ⟨ρ1,e,c1,W1,V.mono W X1,p1⟩
 | false=>exact iteF (post.here (a:=false) p1 W1 rfl)
theorem pd_orT (ha:PTd X a ta) (hb:PWd X (.BoolOp .Or (b :: rest) pos) tb):PWd X (.BoolOp .Or (a :: b :: rest) pos) (dOrT ta tb):=(pw_or ha hb).imp fun σ H Q h=>by
 obtain ⟨ρ,e,c,W,V,p⟩:=h
 refine ⟨ρ,e,c,W,V,post.bind p fun x c1 ρ1 H1 v _ W1 X1 r1 p1=>?_⟩
 cases r1
 cases x with
 | true=>exact iteT (post.here (a:=true) p1 W1 rfl)
 | false=>exact iteF ⟨ρ1,e,c1,W1,V.mono W X1,p1⟩
theorem pd_notT (ha:PTd X a ta):PTd X (.UnaryOp .Not a pos) (dNotT ta):=(pt_not ha).imp fun σ H Q h=>by
 obtain ⟨ρ,e,c,W,V,p⟩:=h
 refine ⟨ρ,e,c,W,V,post.bind p fun x c1 ρ1 H1 v _ W1 X1 r1 p1=>?_⟩
 cases r1
 exact p1.here W1 rfl
theorem pd_one {op} (h:PEd X a da):PEd X (.BoolOp op [a] pos) da:=pe_one h
theorem pd_and (ha:PEd X a da) (hb:PEd X (.BoolOp .And (b :: rest) pos) db):PEd X (.BoolOp .And (a :: b :: rest) pos) (dAndV da db):=(pe_and ha hb).imp fun σ H Q h=>by
 obtain ⟨ρ,e,c,W,V,p⟩:=h
 refine ⟨ρ,e,c,W,V,post.bind p fun x c1 ρ1 H1 v _ W1 X1 r1 p1=>?_⟩
 cases x with
 | bl k =>
  cases r1
  refine ⟨k,rfl,?_⟩
  cases k with
  | true=>exact iteT ⟨ρ1,e,c1,W1,V.mono W X1,p1⟩
  | false=>exact iteF (post.here (a:=D.bl false) p1 W1 rfl)
 | _=>exact p1.elim
theorem pd_not (ha:PEd X a da):PEd X (.UnaryOp .Not a pos) (dNotV da):=(pe_not ha).imp fun σ H Q h=>by
 obtain ⟨ρ,e,c,W,V,p⟩:=h
 refine ⟨ρ,e,c,W,V,post.bind p fun x c1 ρ1 H1 v _ W1 X1 r1 p1=>?_⟩
 cases x with
 | bl k=>cases r1; exact ⟨k,rfl,p1.here W1 rfl⟩
 | _=>exact p1.elim
theorem pd_ifE (ht:PTd X c' ta) (ha:PEd X a da) (hb:PEd X b db):PEd X (.IfExp c' a b pos) (dIfE ta da db):=(pe_ifExp ht ha hb).imp fun σ H Q h=>by
 obtain ⟨ρ,e,c,W,V,p⟩:=h
 refine ⟨ρ,e,c,W,V,post.bind p fun x c1 ρ1 H1 v _ W1 X1 r1 p1=>?_⟩
 cases r1
 cases x with
 | true=>exact iteT ⟨ρ1,e,c1,W1,V.mono W X1,p1⟩
 | false=>exact iteF ⟨ρ1,e,c1,W1,V.mono W X1,p1⟩
end
inductive Fl where
 | nx (e:Ev) | rt (d:D) | bk (e:Ev) | ct (e:Ev)
inductive FV where
 | nx (σ:St) | rt (v:V) | bk (σ:St) | ct (σ:St)
noncomputable def RelF (K:PySem.W.Frag) (ρ:List Addr) (H:Hp):Fl→FV→Prop
 | .nx e,f=>∃ σ,f=.nx σ∧REnv K ρ H e σ
 | .rt d,f=>∃ v,f=.rt v∧Rel K ρ H d v
 | .bk e,f=>∃ σ,f=.bk σ∧REnv K ρ H e σ
 | .ct e,f=>∃ σ,f=.ct σ∧REnv K ρ H e σ
noncomputable def En (Z:Ends):FV→Hp→Prop
 | .nx σ,H=>Z.nx σ H
 | .rt v,H=>Z.rt v H
 | .bk σ,H=>Z.bk σ H
 | .ct σ,H=>Z.ct σ H
noncomputable def tSD (K:PySem.W.Frag) (d:Ev→List Cell→R Fl):TS:=fun Z σ H=>tD K (RelF K) d σ H (En Z)
noncomputable abbrev PSd (X:Cx) (st:Stmt) (d:Ev→List Cell→R Fl):Prop:=PS X st (tSD X.K d)
noncomputable abbrev PSsd (X:Cx) (st:List Stmt) (d:Ev→List Cell→R Fl):Prop:=PSs X st (tSD X.K d)
noncomputable def sNext:Ev→List Cell→R Fl:=fun e c=>.ok (.nx e) c
noncomputable def sSeq (a b:Ev→List Cell→R Fl):Ev→List Cell→R Fl:=fun e c=>(a e c).bind fun f c=>match f with
 | .nx e=>b e c
 | f=>.ok f c
noncomputable def sRet (a:Ev→List Cell→R D):Ev→List Cell→R Fl:=fun e c=>(a e c).bind fun x c=>.ok (.rt x) c
noncomputable def sDrop (a:Ev→List Cell→R D):Ev→List Cell→R Fl:=fun e c=>(a e c).bind fun _ c=>.ok (.nx e) c
noncomputable def sIf (t:Ev→List Cell→R Bool) (a b:Ev→List Cell→R Fl):Ev→List Cell→R Fl:=fun e c=>(t e c).bind fun x c=>if x=true then a e c else b e c
noncomputable def sSet (i:Nat) (a:Ev→List Cell→R D):Ev→List Cell→R Fl:=fun e c=>(a e c).bind fun x c=>.ok (.nx (e.set i (some x))) c
noncomputable def sBad:Ev→List Cell→R Fl:=fun _ _=>.bad
noncomputable def sBreak:Ev→List Cell→R Fl:=fun e c=>.ok (.bk e) c
noncomputable def sCont:Ev→List Cell→R Fl:=fun e c=>.ok (.ct e) c
section
variable {X:Cx} {st:Stmt} {rest:List Stmt} {t u:Ev→List Cell→R Fl} {e:Expr} {da:Ev→List Cell→R D} {pos:Pos}
theorem sd_nil:PSsd X [] sNext:=pss_nil.imp fun Z σ H h=>by
 obtain ⟨ρ,e,c,W,V,p⟩:=h
 exact p.here W ⟨σ,rfl,V⟩
theorem sd_cons (h1:PSd X st t) (h2:PSsd X rest u):PSsd X (st :: rest) (sSeq t u):=(pss_cons h1 h2).imp fun Z σ H h=>by
 obtain ⟨ρ,e,c,W,V,p⟩:=h
 refine ⟨ρ,e,c,W,V,post.bind p fun f c1 ρ1 H1 b _ W1 X1 r1 p1=>?_⟩
 cases f with
 | nx e1=>obtain ⟨σ1,rfl,V1⟩:=r1; exact ⟨ρ1,e1,c1,W1,V1,p1⟩
 | rt d=>obtain ⟨v,rfl,V1⟩:=r1; exact post.here (Q:=En Z) (show post X.K (RelF X.K) (.ok (Fl.rt d) c1) ρ1 H1 (En Z) from p1) W1 ⟨_,rfl,V1⟩
 | bk e1=>obtain ⟨σ1,rfl,V1⟩:=r1; exact post.here (Q:=En Z) (show post X.K (RelF X.K) (.ok (Fl.bk e1) c1) ρ1 H1 (En Z) from p1) W1 ⟨_,rfl,V1⟩
 | ct e1=>obtain ⟨σ1,rfl,V1⟩:=r1; exact post.here (Q:=En Z) (show post X.K (RelF X.K) (.ok (Fl.ct e1) c1) ρ1 H1 (En Z) from p1) W1 ⟨_,rfl,V1⟩
theorem sd_one (h1:PSd X st t):PSsd X [st] t:=pss_one h1
theorem sd_never:PSd X st sBad:=fun _ _ _ _ _ _ h=>by
 obtain ⟨ρ,e,c,W,V,p⟩:=h
 exact p.elim
theorem sd_ret (he:PEd X e da):PSd X (.Return (some e) pos) (sRet da):=(ps_ret he).imp fun Z σ H h=>by
 obtain ⟨ρ,e,c,W,V,p⟩:=h
 refine ⟨ρ,e,c,W,V,post.bind p fun x c1 ρ1 H1 v _ W1 X1 r1 p1=>p1.here W1 ⟨v,rfl,r1⟩⟩
theorem sd_drop (he:PEd X e da) (hs:swapsWith e none pos.line X.env=pure false:=by rfl):PSd X (.Expr e pos) (sDrop da):=(ps_expr he hs).imp fun Z σ H h=>by
 obtain ⟨ρ,e,c,W,V,p⟩:=h
 refine ⟨ρ,e,c,W,V,post.bind p fun x c1 ρ1 H1 v _ W1 X1 r1 p1=>p1.here W1 ⟨σ,rfl,V.mono W X1⟩⟩
theorem sd_if {c':Expr} {a b:List Stmt} {tc:Ev→List Cell→R Bool} (hc:PTd X c' tc) (ha:PSsd X a t) (hb:PSsd X b u):PSd X (.If c' a b pos) (sIf tc t u):=(ps_if hc ha hb).imp fun Z σ H h=>by
 obtain ⟨ρ,e,c,W,V,p⟩:=h
 refine ⟨ρ,e,c,W,V,post.bind p fun x c1 ρ1 H1 v _ W1 X1 r1 p1=>?_⟩
 cases r1
 cases x with
 | true=>exact iteT ⟨ρ1,e,c1,W1,V.mono W X1,p1⟩
 | false=>exact iteF ⟨ρ1,e,c1,W1,V.mono W X1,p1⟩
theorem sd_set {i:Nat} {x:Str} {pos':Pos} (he:PEd X e da) (hN:X.N.Nodup:=by decide +kernel) (hi:X.N[i]? = some x:=by rfl) (hx:Loc X.env.scope x:=by first | exact Or.inl rfl | exact Or.inr rfl) (hs:swapsWith e (some (.Name x pos')) pos.line X.env=pure false:=by rfl)
  (hf:X.fn x=true∨X.env.scope.names.lookup x=some .local:=by first | exact .inl rfl | exact .inr rfl):PSd X (.Assign [.Name x pos'] e pos) (sSet i da):=(ps_set hN hi hx he hs).imp fun Z σ H h=>by
 obtain ⟨ρ,e,c,W,V,p⟩:=h
 refine ⟨ρ,e,c,W,V,post.bind p fun x c1 ρ1 H1 v _ W1 X1 r1 p1=>p1.here W1 ⟨_,rfl,(V.mono W X1).set r1 i⟩⟩
end
noncomputable abbrev Gd:=D→Ev→List Cell→R Ev
noncomputable def tGD (K:PySem.W.Frag) (g:Gd):TG:=fun v σ H Q=>∃ ρ x e c,Wd K ρ H c∧REnv K ρ H e σ∧Rel K ρ H x v∧post K (fun ρ H e σ=>REnv K ρ H e σ) (g x e c) ρ H Q
noncomputable def tGsD (K:PySem.W.Frag) (g:List D→Ev→List Cell→R Ev):TGs:=fun vs σ H Q=>∃ ρ xs e c,Wd K ρ H c∧REnv K ρ H e σ∧Rels K ρ H xs vs∧post K (fun ρ H e σ=>REnv K ρ H e σ) (g xs e c) ρ H Q
noncomputable abbrev PGd (X:Cx) (e:Expr) (g:Gd):Prop:=PG X e (tGD X.K g)
noncomputable abbrev PGsd (X:Cx) (es:List Expr) (g:List D→Ev→List Cell→R Ev):Prop:=PGs X es (tGsD X.K g)
noncomputable def gdName (i:Nat):Gd:=fun x e c=>.ok (e.set i (some x)) c
noncomputable def gdNil:List D→Ev→List Cell→R Ev:=fun xs e c=>match xs with
 | []=>.ok e c
 | _=>.bad
noncomputable def gdCons (g:Gd) (r:List D→Ev→List Cell→R Ev):List D→Ev→List Cell→R Ev:=fun xs e c=>match xs with
 | x :: xs=>(g x e c).bind fun e c=>r xs e c
 | _=>.bad
noncomputable def gdTup (n:Nat) (g:List D→Ev→List Cell→R Ev):Gd:=fun x e c=>match x with
 | .tup l=>if l.length=n then g l e c else .bad
 | _=>.bad
theorem PG.imp {X:Cx} {e:Expr} {t t':TG} (h:PG X e t) (i:∀ v σ H Q,t' v σ H Q→t v σ H Q):PG X e t':=fun pins s σ H x u Q I r q=>h pins s σ H x u Q I r (i _ _ _ _ q)
theorem PGs.imp {X:Cx} {es:List Expr} {t t':TGs} (h:PGs X es t) (i:∀ v σ H Q,t' v σ H Q→t v σ H Q):PGs X es t':=fun pins s σ H x u Q I r q=>h pins s σ H x u Q I r (i _ _ _ _ q)
section
variable {X:Cx} {pos:Pos}
theorem gd_name {i:Nat} {x:Str} (hN:X.N.Nodup:=by decide +kernel) (hi:X.N[i]? = some x:=by rfl) (hx:Loc X.env.scope x:=by first | exact Or.inl rfl | exact Or.inr rfl) (hf:X.fn x=true∨X.env.scope.names.lookup x=some .local:=by first | exact .inl rfl | exact .inr rfl):PGd X (.Name x pos) (gdName i) :=
 (pg_name hN hi hx hf).imp fun v σ H Q h=>by
  obtain ⟨ρ,x,e,c,W,V,r,p⟩:=h
  exact p.here W (V.set r i)
theorem gds_nil:PGsd X [] gdNil:=pgs_nil.imp fun v σ H Q h=>by
 obtain ⟨ρ,xs,e,c,W,V,r,p⟩:=h
 cases xs with
 | nil=>exact ⟨r,p.here W V⟩
 | cons x xs=>exact p.elim
theorem gds_cons {e:Expr} {es:List Expr} {g:Gd} {u:List D→Ev→List Cell→R Ev} (h1:PGd X e g) (h2:PGsd X es u) (hs:(assignEach (e :: es) X.env).map (·.2)=assign e X.env :: (assignEach es X.env).map (·.2):=by rfl):PGsd X (e :: es) (gdCons g u) :=
 (pgs_cons h1 h2 hs).imp fun v σ H Q h=>by
  obtain ⟨ρ,xs,e,c,W,V,r,p⟩:=h
  cases xs with
  | nil=>exact p.elim
  | cons x xs =>
   obtain ⟨y,ys,rfl,rx,rs⟩:=r
   exact ⟨y,ys,rfl,ρ,x,e,c,W,V,rx,post.bind p fun e1 c1 ρ1 H1 σ1 _ W1 X1 V1 p1=>⟨ρ1,xs,e1,c1,W1,V1,Rels.mono W X1 _ _ rs,p1⟩⟩
theorem gd_tup {es:List Expr} {k:Nat} {g:List D→Ev→List Cell→R Ev} {n:Nat} (h:PGsd X es g) (hc:X.calm=true:=by rfl) (hn:(assignEach es X.env).length=n:=by rfl) (hst:(assignEach es X.env).findIdx? (·.1)=none:=by rfl):PGd X (.Tuple es k pos) (gdTup n g) :=
 (pg_tup hc h hn hst).imp fun v σ H Q h=>by
  obtain ⟨ρ,x,e,c,W,V,r,p⟩:=h
  cases x with
  | tup l =>
   obtain ⟨a,xs,rfl,s,rs⟩:=r
   unfold gdTup at p
   dsimp only at p
   split at p
   ·rename_i hl
    exact ⟨a,xs,rfl,SqT.of s,rs.length.trans hl,ρ,l,e,c,W,V,rs,p⟩
   ·exact p.elim
  | _=>exact p.elim
noncomputable def sAsg (a:Ev→List Cell→R D) (g:Gd):Ev→List Cell→R Fl:=fun e c=>(a e c).bind fun x c=>(g x e c).bind fun e c=>.ok (.nx e) c
theorem sd_asg {tg e:Expr} {da:Ev→List Cell→R D} {g:Gd} (he:PEd X e da) (hg:PGd X tg g) (hs:swapsWithSole [tg] e pos.line X.env=pure false:=by rfl) (hw:swappedStores [tg] e X.env=pure none:=by rfl)
  (h1:(assignEach [tg] X.env).map (·.2)=[assign tg X.env]:=by rfl):PSd X (.Assign [tg] e pos) (sAsg da g):=(ps_asg he hg hs hw h1).imp fun Z σ H h=>by
 obtain ⟨ρ,e,c,W,V,p⟩:=h
 refine ⟨ρ,e,c,W,V,post.bind p fun x c1 ρ1 H1 v _ W1 X1 r1 p1=>⟨ρ1,x,e,c1,W1,V.mono W X1,r1,post.bind p1 fun e2 c2 ρ2 H2 σ2 _ W2 X2 V2 p2=>p2.here W2 ⟨σ2,rfl,V2⟩⟩⟩
noncomputable def setD:D→D→D→List Cell→R Unit:=fun o i v c=>match o,i with
 | .ref k,.int i=>match c[k]? with
  | some (.lst l)=>match ixN l.length i with
   | some j=>if noRef v=true then .ok () (c.set k (.lst (l.set j v))) else .bad
   | none=>.bad
  | none=>.bad
 | _,_=>.bad
noncomputable def gdSub (o i:Ev→List Cell→R D):Gd:=fun x e c=>(o e c).bind fun o c=>(i e c).bind fun i c=>(setD o i x c).bind fun _ c=>.ok e c
theorem gd_sub {o i:Expr} {dO di:Ev→List Cell→R D} (ho:PEd X o dO) (hi:PEd X i di)
  (ha:∀ v,assign (.Subscript o i pos) X.env v=(do
   let ov ← holding [v] (eval o X.env)
   let iv ← holding [v,ov] (eval i X.env)
   standAt pos
   holding [v,ov,iv] (setItem ov iv v)
   release [v,ov,iv] []):=by intro _; rfl):PGd X (.Subscript o i pos) (gdSub dO di):=(pg_sub ho hi set_list ha).imp fun v σ H Q h=>by
 obtain ⟨ρ,x,e,c,W,V,rx,p⟩:=h
 refine ⟨ρ,e,c,W,V,post.bind p fun o c1 ρ1 H1 ov _ W1 X1 r1 p1=>⟨ρ1,e,c1,W1,V.mono W X1,post.bind p1 fun i c2 ρ2 H2 iv _ W2 X2 r2 p2=>?_⟩⟩
 have V2:=(V.mono W X1).mono W1 X2
 have rx2:=Rel.mono W (X1.trans X2) _ _ rx
 have ro:=Rel.mono W1 X2 _ _ r1
 unfold setD at p2
 split at p2
 ·rename_i k i _ _
  split at p2
  ·rename_i l hl
   split at p2
   ·rename_i j hj
    split at p2
    ·rename_i hv
     obtain ⟨a,rfl,ha⟩:=ro
     cases r2
     obtain ⟨nr,ys,hy,rl⟩:=W2.cel k a _ ha hl
     refine ⟨a,ys,i,j,rfl,rfl,hy,by rw [rl.length]; exact hj,?_⟩
     exact p2 ρ2 _ σ (W2.write ha (noRefs_set nr hv) (rl.set j rx2)) (Ext.write ha) (V2.mono W2 (Ext.write ha))
    ·exact p2.elim
   ·exact p2.elim
  ·exact p2.elim
 ·exact p2.elim
end
end L2
namespace L2
open PySem PySem.Spec PyProof.Rows
structure Src where
 items:List D
 stays:List Cell→Prop
noncomputable def JS (K:PySem.W.Frag) (ρ:List Addr) (H:Hp) (s:Src) (J:It):Prop :=
 ∀ ρ' H' c',Wd K ρ' H' c'→Ext ρ H ρ' H'→s.stays c'→∀ i:Nat,
  (∀ d,s.items[i]? = some d→J.go i H'∧∀ x H2,J.yld i H' x H2→Wd K ρ' H2 c'∧Ext ρ' H' ρ' H2∧Rel K ρ' H2 d x)∧(i=s.items.length→J.stop i H')
noncomputable def tID (K:PySem.W.Frag) (d:Ev→List Cell→R Src):TI:=tD K (JS K) d
noncomputable abbrev PId (X:Cx) (tg iter:Expr) (d:Ev→List Cell→R Src):Prop:=PI X tg iter (tID X.K d)
theorem PI.imp {X:Cx} {tg iter:Expr} {t t':TI} (h:PI X tg iter t) (i:∀ σ H Q,t' σ H Q→t σ H Q):PI X tg iter t':=fun pins s σ H Q I q=>h pins s σ H Q I (i _ _ _ q)
noncomputable def dSeq (a:Ev→List Cell→R D):Ev→List Cell→R Src:=fun e c=>(a e c).bind fun x c=>match x with
 | .lst l=>.ok ⟨l,fun _=>True⟩ c
 | .scr l=>.ok ⟨l.map D.int,fun _=>True⟩ c
 | .ref k=>match c[k]? with
  | some (.lst l)=>.ok ⟨l,fun c=>c[k]? = some (.lst l)⟩ c
  | none=>.bad
 | _=>.bad
noncomputable def dSeqT (a:Ev→List Cell→R D):Ev→List Cell→R Src:=fun e c=>(a e c).bind fun x c=>match x with
 | .tup l=>.ok ⟨l,fun _=>True⟩ c
 | _=>.bad
noncomputable def rngD (lo hi:Int):List D:=(List.range (hi - lo).toNat).map fun (i:Nat)=>D.int (lo + (i:Int))
noncomputable def dRng1 (a:Ev→List Cell→R (List D)):Ev→List Cell→R Src:=fun e c=>(a e c).bind fun xs c=>match xs with
 | [.int j]=>if -(2 ^ 62)≤j∧j < 2 ^ 62 then .ok ⟨rngD 0 j,fun _=>True⟩ c else .bad
 | _=>.bad
noncomputable def dRng2 (a:Ev→List Cell→R (List D)):Ev→List Cell→R Src:=fun e c=>(a e c).bind fun xs c=>match xs with
 | [.int i,.int j]=>if -(2 ^ 62)≤i∧i < 2 ^ 62∧-(2 ^ 62)≤j∧j < 2 ^ 62 then .ok ⟨rngD i j,fun _=>True⟩ c else .bad
 | _=>.bad
noncomputable def dZip (a:Ev→List Cell→R (List D)):Ev→List Cell→R Src:=fun e c=>(a e c).bind fun xs c=>match xs with
 | [.tup l,.tup m]=>.ok ⟨List.zipWith (fun x y=>.tup [x,y]) l m,fun _=>True⟩ c
 | _=>.bad
noncomputable def dEnum (a:Ev→List Cell→R (List D)):Ev→List Cell→R Src:=fun e c=>(a e c).bind fun xs c=>match xs with
 | [.tup l]=>.ok ⟨l.mapIdx fun i x=>.tup [.int i,x],fun _=>True⟩ c
 | _=>.bad
section
variable {X:Cx} {tg:Expr} {K:PySem.W.Frag} {ρ:List Addr} {H:Hp}
theorem js_tup {l:List D} {a:Addr} {st:List Cell→Prop} (h:∀ ρ' H' c',Wd K ρ' H' c'→Ext ρ H ρ' H'→st c'→∃ xs,SqT K H' a xs∧Rels K ρ' H' l xs):JS K ρ H ⟨l,st⟩ (Itt K a):=by
 intro ρ' H' c' W E s i
 obtain ⟨xs,q,r⟩:=h ρ' H' c' W E s
 refine ⟨fun d hd=>?_,fun e=>⟨xs,q,by rw [r.length]; exact Nat.le_of_eq e.symm⟩⟩
 obtain ⟨x,hx,rx⟩:=r.get hd
 refine ⟨⟨xs,x,q,hx⟩,fun y H2 hy=>?_⟩
 obtain ⟨rfl,hy⟩:=hy
 have:=hy xs q
 rw [hx] at this; cases this
 exact ⟨W,Ext.refl,rx⟩
theorem rng_get {lo hi:Int} {i:Nat} {d:D} (h:(rngD lo hi)[i]? = some d):i < (hi - lo).toNat∧d=.int (lo + i):=by
 unfold rngD at h
 rw [List.getElem?_map] at h
 cases q:(List.range (hi - lo).toNat)[i]? with
 | none=>rw [q] at h; cases h
 | some j =>
  rw [q] at h
  have h1:=(List.getElem?_eq_some_iff.mp q)
  obtain ⟨h2,h3⟩:=h1
  rw [List.getElem_range] at h3
  subst h3
  cases h
  exact ⟨by simpa using h2,rfl⟩
theorem js_rng {lo hi:Int} {st:List Cell→Prop}:JS K ρ H ⟨rngD lo hi,st⟩ (Itr lo (hi - lo).toNat):=by
 intro ρ' H' c' W E s i
 refine ⟨fun d hd=>?_,fun e=>?_⟩
 ·obtain ⟨h1,rfl⟩:=rng_get hd
  refine ⟨h1,fun x H2 hy=>?_⟩
  obtain ⟨rfl,rfl⟩:=hy
  exact ⟨W,Ext.refl,rfl⟩
 ·have:(rngD lo hi).length=(hi - lo).toNat:=by simp [rngD]
  show (hi - lo).toNat≤i
  rw [e]
  exact Nat.le_of_eq this.symm
theorem id_tup {l:Expr} {dl:Ev→List Cell→R D} (hl:PEd X l dl):PId X tg l (dSeqT dl):=(pi_tup hl).imp fun σ H Q h=>by
 obtain ⟨ρ,e,c,W,V,p⟩:=h
 refine ⟨ρ,e,c,W,V,post.bind p fun x c1 ρ1 H1 v _ W1 X1 r1 p1=>?_⟩
 cases x with
 | tup l =>
  obtain ⟨a,xs,rfl,s,rs⟩:=r1
  exact ⟨a,rfl,⟨xs,SqT.of s⟩,p1.here W1 (js_tup fun ρ' H' c' W' E _=>⟨xs,SqT.of (tup_mono W1 E s),Rels.mono W1 E _ _ rs⟩)⟩
 | _=>exact p1.elim
theorem id_rng1 {a:Expr} {da:Ev→List Cell→R (List D)} {p pos:Pos} (ha:PAd X [a] da) (hm:X.mg "range"=none) (hg:Gl X "range":=by rfl) (hs:starEach [a] X.env=[(false,eval a X.env)]:=by exact star1 rfl):PId X tg (.Call (.Name "range" p) [a] [] pos) (dRng1 da) :=
 (pi_range1 hg hm ha hs).imp fun σ H Q h=>by
  obtain ⟨ρ,e,c,W,V,p⟩:=h
  refine ⟨ρ,e,c,W,V,post.bind p fun x c1 ρ1 H1 v _ W1 X1 r1 p1=>?_⟩
  split at p1
  ·rename_i j _
   split at p1
   ·rename_i hj
    obtain ⟨y,ys,rfl,ry,rs⟩:=r1
    cases ry; cases rs
    refine ⟨j,rfl,hj.1,hj.2,p1.here W1 ?_⟩
    have:=js_rng (K:=X.K) (ρ:=ρ1) (H:=H1) (lo:=0) (hi:=j) (st:=fun _=>True)
    rw [Int.sub_zero] at this
    exact this
   ·exact p1.elim
  ·exact p1.elim
theorem id_rng2 {a b:Expr} {da:Ev→List Cell→R (List D)} {p pos:Pos} (ha:PAd X [a,b] da) (hm:X.mg "range"=none) (hg:Gl X "range":=by rfl) (hs:starEach [a,b] X.env=[(false,eval a X.env),(false,eval b X.env)]:=by exact star2 rfl rfl) (hs2:starEach [b] X.env=[(false,eval b X.env)]:=by exact star1 rfl):PId X tg (.Call (.Name "range" p) [a,b] [] pos) (dRng2 da) :=
 (pi_range2 hg hm ha hs hs2).imp fun σ H Q h=>by
  obtain ⟨ρ,e,c,W,V,p⟩:=h
  refine ⟨ρ,e,c,W,V,post.bind p fun x c1 ρ1 H1 v _ W1 X1 r1 p1=>?_⟩
  split at p1
  ·rename_i i j _
   split at p1
   ·rename_i hj
    obtain ⟨y,ys,rfl,ry,z,zs,rfl,rz,rs⟩:=r1
    cases ry; cases rz; cases rs
    exact ⟨i,j,rfl,hj,p1.here W1 js_rng⟩
   ·exact p1.elim
  ·exact p1.elim
theorem js_zip {l m:List D} {a b:Addr} {st:List Cell→Prop} (h:∀ ρ' H' c',Wd K ρ' H' c'→Ext ρ H ρ' H'→st c'→∃ xs ys,SqT K H' a xs∧SqT K H' b ys∧Rels K ρ' H' l xs∧Rels K ρ' H' m ys):JS K ρ H ⟨List.zipWith (fun x y=>.tup [x,y]) l m,st⟩ (Itz (SqT K) a b):=by
 intro ρ' H' c' W E s i
 obtain ⟨xs,ys,q1,q2,r1,r2⟩:=h ρ' H' c' W E s
 refine ⟨fun d hd=>?_,fun e=>⟨xs,ys,q1,q2,?_⟩⟩
 ·have hd:(List.zipWith (fun x y=>D.tup [x,y]) l m)[i]? = some d:=hd
  rw [List.getElem?_zipWith] at hd
  cases e1:l[i]? with
  | none=>rw [e1] at hd; cases hd
  | some x =>
   cases e2:m[i]? with
   | none=>rw [e1,e2] at hd; cases hd
   | some y =>
    rw [e1,e2] at hd
    cases hd
    obtain ⟨v,hv,rv⟩:=r1.get e1
    obtain ⟨u,hu,ru⟩:=r2.get e2
    refine ⟨⟨xs,ys,v,u,q1,q2,hv,hu⟩,fun z H2 hz=>?_⟩
    obtain ⟨t,v',u',rfl,ht,rfl,hz⟩:=hz
    obtain ⟨z1,z2⟩:=hz xs ys q1 q2
    rw [hv] at z1; rw [hu] at z2
    cases z1; cases z2
    exact ⟨W.fresh ht,Ext.fresh W ht,t,[v,u],rfl,upd_same,v,[u],rfl,Rel.mono W (Ext.fresh W ht) _ _ rv,u,[],rfl,Rel.mono W (Ext.fresh W ht) _ _ ru,rfl⟩
 ·have e:i=(List.zipWith (fun x y=>D.tup [x,y]) l m).length:=e
  rw [List.length_zipWith] at e
  rw [r1.length,r2.length]
  omega
open Classical in
noncomputable def forD (st:List Cell→Prop) (g:Gd) (b:Ev→List Cell→R Fl):List D→Ev→List Cell→R Fl
 | [],e,c=>if st c then .ok (.nx e) c else .bad
 | x :: xs,e,c=>if st c then (g x e c).bind fun e c=>(b e c).bind fun f c=>match f with
   | .nx e=>forD st g b xs e c
   | .ct e=>forD st g b xs e c
   | .bk e=>.ok (.nx e) c
   | .rt d=>.ok (.rt d) c
  else .bad
noncomputable def sFor (s:Ev→List Cell→R Src) (g:Gd) (b:Ev→List Cell→R Fl):Ev→List Cell→R Fl:=fun e c=>(s e c).bind fun s c=>forD s.stays g b s.items e c
theorem sd_for {iter:Expr} {body:List Stmt} {ds:Ev→List Cell→R Src} {g:Gd} {db:Ev→List Cell→R Fl} {pos:Pos} (hi:PId X tg iter ds) (hg:PGd X tg g) (hb:PSsd X body db) (hp:PassesOwn (model X.prog X.w) X.A X.env X.xe:=by exact PassesOwn.never) (hc:X.calm=true:=by rfl)
  (hs:∀ x,foldedSetIterable iter X.env x=pure x:=by intro _; rfl):PSd X (.For tg iter body [] pos) (sFor ds g db):=(ps_for hp hc hi hg hb hs).imp fun Z σ H h=>by
 obtain ⟨ρ,e,c,W,V,p⟩:=h
 refine ⟨ρ,e,c,W,V,post.bind p fun s c1 ρ1 H1 J _ W1 X1 j1 p1=>?_⟩
 refine ⟨fun i m σ H=>∃ ρ e c,Wd X.K ρ H c∧Ext ρ1 H1 ρ H∧REnv X.K ρ H e σ∧i≤s.items.length∧m=s.items.length - i∧post X.K (RelF X.K) (forD s.stays g db (s.items.drop i) e c) ρ H (En Z),
  ⟨_,ρ1,e,c1,W1,Ext.refl,V.mono W X1,Nat.zero_le _,rfl,p1⟩,?_⟩
 rintro i m σ2 H2 ⟨ρ2,e2,c2,W2,X2,V2,hi2,rfl,p2⟩
 by_cases hl:i < s.items.length
 ·rw [List.drop_eq_getElem_cons hl] at p2
  unfold forD at p2
  split at p2
  ·rename_i hst
   obtain ⟨go,yl⟩:=(j1 ρ2 H2 c2 W2 X2 hst i).1 _ (List.getElem?_eq_getElem hl)
   refine .inr ⟨go,fun σ' H'=>∃ ρ e c,Wd X.K ρ H' c∧Ext ρ1 H1 ρ H'∧REnv X.K ρ H' e σ'∧i + 1≤s.items.length∧post X.K (RelF X.K) (forD s.stays g db (s.items.drop (i + 1)) e c) ρ H' (En Z),?_,fun x H3 hy=>?_⟩
   ·rintro σ' H' ⟨ρ,e,c,w,x,v,l,q⟩
    exact ⟨s.items.length - (i + 1),by omega,ρ,e,c,w,x,v,l,rfl,q⟩
   ·obtain ⟨W3,X3,r3⟩:=yl x H3 hy
    refine ⟨ρ2,_,e2,c2,W3,V2.mono W2 X3,r3,post.bind (post.ext p2 X3) fun e4 c4 ρ4 H4 σ4 _ W4 X4 V4 p4=>?_⟩
    refine ⟨ρ4,e4,c4,W4,V4,post.bind p4 fun f c5 ρ5 H5 b _ W5 X5 r5 p5=>?_⟩
    have X15:=((X2.trans X3).trans X4).trans X5
    cases f with
    | nx e1=>obtain ⟨σ1,rfl,V1⟩:=r5; exact ⟨ρ5,e1,c5,W5,X15,V1,hl,p5⟩
    | ct e1=>obtain ⟨σ1,rfl,V1⟩:=r5; exact ⟨ρ5,e1,c5,W5,X15,V1,hl,p5⟩
    | bk e1=>obtain ⟨σ1,rfl,V1⟩:=r5; exact post.here (Q:=En Z) (show post X.K (RelF X.K) (.ok (Fl.nx e1) c5) ρ5 H5 (En Z) from p5) W5 ⟨_,rfl,V1⟩
    | rt d=>obtain ⟨v,rfl,V1⟩:=r5; exact post.here (Q:=En Z) (show post X.K (RelF X.K) (.ok (Fl.rt d) c5) ρ5 H5 (En Z) from p5) W5 ⟨_,rfl,V1⟩
  ·exact p2.elim
 ·obtain rfl:i=s.items.length:=by omega
  rw [List.drop_eq_nil_of_le (Nat.le_refl _)] at p2
  unfold forD at p2
  split at p2
  ·rename_i hst
   exact .inl ⟨(j1 ρ2 H2 c2 W2 X2 hst _).2 rfl,post.here (Q:=En Z) p2 W2 ⟨σ2,rfl,V2⟩⟩
  ·exact p2.elim
noncomputable def whileD (t:Ev→List Cell→R Bool) (b:Ev→List Cell→R Fl):Nat→Ev→List Cell→R Fl
 | 0,_,_=>.bad
 | n + 1,e,c=>(t e c).bind fun k c=>if k=true then (b e c).bind fun f c=>match f with
   | .nx e=>whileD t b n e c
   | .ct e=>whileD t b n e c
   | .bk e=>.ok (.nx e) c
   | .rt d=>.ok (.rt d) c
  else .ok (.nx e) c
end
end L2
namespace L2
open PySem PySem.Spec PyProof.Rows
noncomputable def pickD (pick:List (Option Nat)) (e:Ev):Ev:=pick.map fun o=>o.bind fun j=>(e[j]?).bind id
open Classical in
noncomputable def compD (st:List Cell→Prop) (g:Gd) (t:Ev→List Cell→R Bool) (el:Ev→List Cell→R D):List D→Ev→List D→List Cell→R (List D)
 | [],e,acc,c=>if st c then .ok acc c else .bad
 | x :: xs,e,acc,c=>if st c then (g x e c).bind fun e c=>(t e c).bind fun k c=>if k=true then (el e c).bind fun y c=>compD st g t el xs e (acc ++ [y]) c else compD st g t el xs e acc c else .bad
noncomputable def dComp (s:Ev→List Cell→R Src) (pick:List (Option Nat)) (g:Gd) (t:Ev→List Cell→R Bool) (el:Ev→List Cell→R D):Ev→List Cell→R D:=fun e c=>(s e c).bind fun s c =>
 if s.items.length < sizeLine then (compD s.stays g t el s.items (pickD pick e) [] c).bind fun l c=>.ok (.lst l) c else .bad
noncomputable def dYes:Ev→List Cell→R Bool:=fun _ c=>.ok true c
noncomputable abbrev PIfd (X:Cx) (ifs:List Expr) (t:Ev→List Cell→R Bool):Prop:=PIfs X ifs (tD X.K (fun _ _ a b=>a=b) t)
section
variable {X:Cx} {N':List Str} {pick:List (Option Nat)} {scope:Scope} {tg elt iter:Expr} {ifs:List Expr} {pos:Pos} {ds:Ev→List Cell→R Src} {g:Gd} {dt:Ev→List Cell→R Bool} {de:Ev→List Cell→R D}
theorem pifd_nil:PIfd X [] dYes:=fun pins s σ H Q I h=>by
 obtain ⟨ρ,e,c,W,V,p⟩:=h
 exact pifs_nil pins s σ H Q I (post.here (b:=true) p W rfl)
theorem pifd_one {c':Expr} (h:PTd X c' dt):PIfd X [c'] dt:=pifs_one h
theorem REnv.picked {K:PySem.W.Frag} {ρ:List Addr} {H:Hp} {e:Ev} {σ:St} (V:REnv K ρ H e σ):REnv K ρ H (pickD pick e) (spick pick σ):=by
 refine ⟨fun i d h=>?_,by simp [pickD,spick]⟩
 unfold pickD at h
 unfold spick
 rw [List.getElem?_map] at h ⊢
 cases q:pick[i]? with
 | none=>rw [q] at h; cases h
 | some o =>
  rw [q] at h
  cases o with
  | none=>cases h
  | some j =>
   have h':(e[j]?).bind id=some d:=Option.some.inj h
   cases q2:e[j]? with
   | none=>rw [q2] at h'; cases h'
   | some z =>
    rw [q2] at h'
    have h'':z=some d:=h'
    subst h''
    obtain ⟨v,hv,r⟩:=V.get j d q2
    exact ⟨v,by simp [hv],r⟩
theorem compW_of {K:PySem.W.Frag} {ρ1:List Addr} {H1:Hp} {c1:List Cell} {e:Ev} {σ:St} {s:Src} {J:It} {Q:VK} (W1:Wd K ρ1 H1 c1) (V1:REnv K ρ1 H1 e σ) (j1:JS K ρ1 H1 s J) (hn:s.items.length < sizeLine)
  (p1:post K (Rel K) ((compD s.stays g dt de s.items e [] c1).bind fun l c=>.ok (.lst l) c) ρ1 H1 Q):CompW J (tGD K g) (tD K (fun _ _ a b=>a=b) dt) (tD K (Rel K) de) Q σ H1:=by
 refine ⟨fun i m σ ys H=>∃ ρ e acc c,Wd K ρ H c∧Ext ρ1 H1 ρ H∧REnv K ρ H e σ∧Rels K ρ H acc ys∧acc.length≤i∧i≤s.items.length∧m=s.items.length - i∧post K (Rel K) ((compD s.stays g dt de (s.items.drop i) e acc c).bind fun l c=>.ok (.lst l) c) ρ H Q,
  ⟨_,ρ1,e,[],c1,W1,Ext.refl,V1,rfl,Nat.le_refl _,Nat.zero_le _,rfl,p1⟩,?_⟩
 rintro i m σ2 ys H2 ⟨ρ2,e2,acc,c2,W2,X2,V2,r2,ha,hi2,rfl,p2⟩
 refine ⟨by rw [r2.length]; omega,?_⟩
 by_cases hl:i < s.items.length
 ·rw [List.drop_eq_getElem_cons hl] at p2
  unfold compD at p2
  split at p2
  ·rename_i hst
   obtain ⟨go,yl⟩:=(j1 ρ2 H2 c2 W2 X2 hst i).1 _ (List.getElem?_eq_getElem hl)
   refine .inr ⟨go,fun σ' ys' H'=>∃ ρ e acc c,Wd K ρ H' c∧Ext ρ1 H1 ρ H'∧REnv K ρ H' e σ'∧Rels K ρ H' acc ys'∧acc.length≤i + 1∧i + 1≤s.items.length∧post K (Rel K) ((compD s.stays g dt de (s.items.drop (i + 1)) e acc c).bind fun l c=>.ok (.lst l) c) ρ H' Q,?_,fun x H3 hy=>?_⟩
   ·rintro σ' ys' H' ⟨ρ,e,acc,c,w,x,v,r,a,l,q⟩
    exact ⟨s.items.length - (i + 1),by omega,ρ,e,acc,c,w,x,v,r,a,l,rfl,q⟩
   ·obtain ⟨W3,X3,r3⟩:=yl x H3 hy
    have assoc:∀ {α β γ:Type} (r:R α) (f:α→List Cell→R β) (g:β→List Cell→R γ),(r.bind f).bind g=r.bind fun a c=>(f a c).bind g:=fun r f g=>by cases r <;> rfl
    rw [assoc] at p2
    refine ⟨ρ2,_,e2,c2,W3,V2.mono W2 X3,r3,post.bind (post.ext p2 X3) fun e4 c4 ρ4 H4 σ4 _ W4 X4 V4 p4=>?_⟩
    rw [assoc] at p4
    refine ⟨ρ4,e4,c4,W4,V4,post.bind p4 fun k c5 ρ5 H5 b _ W5 X5 r5 p5=>?_⟩
    cases r5
    have X15:=((X2.trans X3).trans X4).trans X5
    have r25:=Rels.mono W2 ((X3.trans X4).trans X5) _ _ r2
    cases k with
    | true =>
     refine iteT ?_
     rw [if_pos rfl,assoc] at p5
     refine ⟨ρ5,e4,c5,W5,V4.mono W4 X5,post.bind p5 fun y c6 ρ6 H6 v _ W6 X6 r6 p6=>?_⟩
     refine ⟨ρ6,e4,acc ++ [y],c6,W6,X15.trans X6,(V4.mono W4 X5).mono W5 X6,(Rels.mono W5 X6 _ _ r25).append ⟨v,[],rfl,r6,rfl⟩,by simp; exact ha,hl,p6⟩
    | false =>
     refine iteF ?_
     rw [if_neg Bool.false_ne_true] at p5
     exact ⟨ρ5,e4,acc,c5,W5,X15,V4.mono W4 X5,r25,Nat.le_succ_of_le ha,hl,p5⟩
  ·exact p2.elim
 ·obtain rfl:i=s.items.length:=by omega
  rw [List.drop_eq_nil_of_le (Nat.le_refl _)] at p2
  unfold compD at p2
  split at p2
  ·rename_i hst
   exact .inl ⟨(j1 ρ2 H2 c2 W2 X2 hst _).2 rfl,new_lst W2 r2 p2⟩
  ·exact p2.elim
theorem comp_T {σ:St} {H:Hp} {Q:VK} {K:PySem.W.Frag} (h:tD K (Rel K) (dComp ds pick g dt de) σ H Q):tComp (tID K ds) pick (tGD K g) (tD K (fun _ _ a b=>a=b) dt) (tD K (Rel K) de) σ H Q:=by
 obtain ⟨ρ,e,c,W,V,p⟩:=h
 refine ⟨ρ,e,c,W,V,post.bind p fun s c1 ρ1 H1 J _ W1 X1 j1 p1=>?_⟩
 split at p1
 ·rename_i hn
  exact compW_of W1 (V.mono W X1).picked j1 hn p1
 ·exact p1.elim
theorem pd_comp (S:CompScope X N' pick scope) (hit:PId X tg iter ds)
  (hg:∀ cl C s₀ H₀ ex pn,PGd (compCx X N' scope cl C s₀ H₀ ex pn) tg g) (hi:∀ cl C s₀ H₀ ex pn,PIfd (compCx X N' scope cl C s₀ H₀ ex pn) ifs dt) (he:∀ cl C s₀ H₀ ex pn,PEd (compCx X N' scope cl C s₀ H₀ ex pn) elt de)
  (hc:X.calm=true:=by rfl) (hs:∀ x,foldedSetIterable iter X.env x=pure x:=by intro _; rfl) :
  PEd X (.ListComp elt [⟨tg,iter,ifs,0⟩] scope pos) (dComp ds pick g dt de):=(pe_comp S hc hit hg hi he hs).imp fun σ H Q h=>comp_T h
theorem sd_setComp {i:Nat} {y:Str} {py spos:Pos} (S:CompScope X N' pick scope) (hit:PId X tg iter ds)
  (hg:∀ cl C s₀ H₀ ex pn,PGd (compCx X N' scope cl C s₀ H₀ ex pn) tg g) (hi:∀ cl C s₀ H₀ ex pn,PIfd (compCx X N' scope cl C s₀ H₀ ex pn) ifs dt) (he:∀ cl C s₀ H₀ ex pn,PEd (compCx X N' scope cl C s₀ H₀ ex pn) elt de)
  (hsw:swapsWith (.ListComp elt [⟨tg,iter,ifs,0⟩] scope pos) (some (.Name y py)) spos.line X.env=pure true:=by rfl) (hN:X.N.Nodup:=by decide +kernel) (hy:X.N[i]? = some y:=by rfl) (hl:X.env.scope.names.lookup y=some .local:=by rfl)
  (hc:X.calm=true:=by rfl) (hs:∀ x,foldedSetIterable iter X.env x=pure x:=by intro _; rfl) :
  PSd X (.Assign [.Name y py] (.ListComp elt [⟨tg,iter,ifs,0⟩] scope pos) spos) (sSet i (dComp ds pick g dt de)):=(ps_setComp (g:=tGD X.K g) (tt:=tD X.K (fun _ _ a b=>a=b) dt) (te:=tD X.K (Rel X.K) de) hsw hN hy hl S hc hit hg hi he hs).imp fun Z σ H h=>by
 refine comp_T (g:=g) (dt:=dt) (de:=de) ?_
 obtain ⟨ρ,e,c,W,V,p⟩:=h
 refine ⟨ρ,e,c,W,V,post.bind p fun x c1 ρ1 H1 v _ W1 X1 r1 p1=>p1.here W1 ⟨_,rfl,(V.mono W X1).set r1 i⟩⟩
end
noncomputable def spD (K:PySem.W.Frag) (n:Nat) (m:List D→List Cell→R D):Sp:=fun vs H Q _=>∃ ρ xs c,Wd K ρ H c∧Rels K ρ H xs vs∧xs.length=n∧post K (Rel K) (m xs c) ρ H Q
noncomputable def dCall (n:Nat) (m:List D→List Cell→R D) (a:Ev→List Cell→R (List D)):Ev→List Cell→R D:=fun e c=>(a e c).bind fun xs c=>if xs.length=n then m xs c else .bad
noncomputable def startD (n:Nat) (xs:List D):Ev:=xs.map some ++ List.replicate (n - xs.length) none
noncomputable def exitD (own:Bool) (n:Nat) (v:D) (c:List Cell):R D:=match v with
 | .ref k=>match c[k]? with
  | some (.lst l)=>if n≤k then (if own=true then .ok (.ref n) (c.take n ++ [.lst l]) else .ok (.lst l) (c.take n)) else .bad
  | none=>.bad
 | v=>if noRef v=true then .ok v (c.take n) else .bad
noncomputable def fnD (n:Nat) (own:Bool) (d:Ev→List Cell→R Fl):List D→List Cell→R D:=fun xs c=>(d (startD n xs) c).bind fun f c'=>match f with
 | .rt v=>exitD own c.length v c'
 | .nx _=>exitD own c.length .non c'
 | _=>.bad
section
variable {P:Program} {w:World} {K:PySem.W.Frag} {mg:Str→Option Value} {base:Heap}
theorem exit_ok {own:Bool} {ρ ρ1:List Addr} {H H1:Hp} {c c1:List Cell} {v:D} {x:V} {Q:VK} (W:Wd K ρ H c) (W1:Wd K ρ1 H1 c1) (X1:Ext ρ H ρ1 H1) (r:Rel K ρ1 H1 v x) (p:post K (Rel K) (exitD own c.length v c1) ρ H Q):Q x H1:=by
 have hn:=Ext.len W W1 X1
 have Wc:=W1.cut hn
 have Xc:=X1.cut (n:=c.length) (Nat.le_of_eq W.len)
 unfold exitD at p
 split at p
 ·rename_i k
  split at p
  ·rename_i l hl
   split at p
   ·rename_i hk
    obtain ⟨a,rfl,ha⟩:=r
    obtain ⟨nr,xs,hx,rl⟩:=W1.cel k a _ ha hl
    have na:a∉ρ1.take c.length:=by
     intro h
     obtain ⟨j,hj,e⟩:=List.mem_iff_getElem.mp h
     have hj2:j < c.length:=by simp at hj; omega
     rw [List.getElem_take] at e
     have hk1:=List.getElem?_eq_some_iff.mp ha
     have hjl:j < ρ1.length:=by simp at hj; omega
     have:=(List.getElem_inj W1.nd (h₀:=hjl) (h₁:=hk1.1)).mp (e.trans hk1.2.symm)
     omega
    have sub:∀ b,b∈ρ1.take c.length→b∈ρ1:=fun b h=>List.mem_of_mem_take h
    split at p
    ·have lr:(ρ1.take c.length).length=c.length:=by simp [W1.len]; omega
     refine p (ρ1.take c.length ++ [a]) H1 (.ref a) ?_ ?_ ⟨a,rfl,?_⟩
     ·refine ⟨?_,by simp [W1.len],fun j b cl e1 e2=>?_,W1.tab⟩
      ·rw [List.nodup_append]
       refine ⟨Wc.nd,by simp,?_⟩
       intro y hy z hz
       rw [List.mem_singleton] at hz
       subst hz
       exact fun q=>na (q ▸ hy)
      ·by_cases hj:j < c.length
       ·rw [List.getElem?_append_left (by rw [lr]; exact hj)] at e1
        rw [List.getElem?_append_left (by simp; omega)] at e2
        have q:=Wc.cel j b cl e1 e2
        cases cl with
        | lst l' =>
         obtain ⟨nr',ys,hy,r'⟩:=q
         refine ⟨nr',ys,hy,Rels.low (ρ:=ρ1) (fun z hz=>?_) l' ys nr' ?_⟩
         ·rcases List.mem_append.mp hz with hz | hz
          ·exact sub z hz
          ·rw [List.mem_singleton] at hz; subst hz; exact List.mem_of_getElem? ha
         ·have e1':ρ1[j]? = some b:=by rw [List.getElem?_take,if_pos hj] at e1; exact e1
          have e2':c1[j]? = some (.lst l'):=by rw [List.getElem?_take,if_pos hj] at e2; exact e2
          obtain ⟨_,zs,hz,rz⟩:=W1.cel j b _ e1' e2'
          rw [hy] at hz; cases hz
          exact rz
       ·have hj':j=c.length:=by
         have:=(List.getElem?_eq_some_iff.mp e1).1
         rw [List.length_append,lr] at this
         simp at this
         omega
        subst hj'
        rw [List.getElem?_append_right (by rw [lr]; exact Nat.le_refl _),lr,Nat.sub_self] at e1
        rw [List.getElem?_append_right (by simp; omega),show c.length - (List.take c.length c1).length=0 by simp; omega] at e2
        cases e1; cases e2
        refine ⟨nr,xs,hx,Rels.low (ρ:=ρ1) (fun z hz=>?_) l xs nr rl⟩
        rcases List.mem_append.mp hz with hz | hz
        ·exact sub z hz
        ·rw [List.mem_singleton] at hz; subst hz; exact List.mem_of_getElem? ha
     ·refine ⟨fun j b e=>?_,fun b o e z t=>?_⟩
      ·have q:=Xc.pre j b e
       rw [List.getElem?_append_left (List.getElem?_eq_some_iff.mp q).1]; exact q
      ·obtain ⟨h1,h2⟩:=X1.keep b o e z t
       refine ⟨h1,fun q=>h2 ?_⟩
       rcases List.mem_append.mp q with q | q
       ·exact sub b q
       ·rw [List.mem_singleton] at q; subst q; exact List.mem_of_getElem? ha
     ·rw [List.getElem?_append_right (by rw [lr]; exact Nat.le_refl _),lr,Nat.sub_self]; rfl
    ·exact p (ρ1.take c.length) H1 (.ref a) Wc Xc ⟨a,xs,rfl,⟨hx,na⟩,Rels.low sub l xs nr rl⟩
   ·exact p.elim
  ·exact p.elim
 ·split at p
  ·rename_i hv
   exact p _ H1 x Wc Xc (Rel.low (fun b h=>List.mem_of_mem_take h) _ _ hv r)
  ·exact p.elim
theorem REnv.start {ρ:List Addr} {H:Hp} {xs:List D} {vs:List V} {N:List Str} (r:Rels K ρ H xs vs):REnv K ρ H (startD N.length xs) (start N vs):=by
 have hl:=r.length
 refine ⟨fun i d h=>?_,by simp [startD,L2.start,hl]⟩
 unfold startD at h
 unfold L2.start
 by_cases hi:i < xs.length
 ·rw [List.getElem?_append_left (by simpa using hi),List.getElem?_map] at h
  cases q:xs[i]? with
  | none=>rw [q] at h; cases h
  | some x =>
   rw [q] at h
   cases h
   obtain ⟨v,hv,rv⟩:=r.get q
   exact ⟨v,by rw [List.getElem?_append_left (by simp [hl]; exact hi),List.getElem?_map,hv]; rfl,rv⟩
 ·rw [List.getElem?_append_right (by simpa using Nat.le_of_not_lt hi)] at h
  have:=List.mem_of_getElem? h
  rw [List.mem_replicate] at this
  cases this.2
theorem fn_ok {x qual:Str} {st:Stmt} {f:Addr} {fd:FuncData} {N ps:List Str} {k n m:Nat} {own:Bool} {d:Ev→List Cell→R Fl} (F:Fun K x qual st f fd) (S:FnScope N ps (defScope st)) (hN:N.length=n) (hm:ps.length=m)
  (hb:∀ (cdv:Value) (A:Around) (outer:List Env) (s:Shared) (H:Hp) (E:XK),Room k (A.deeper (envOfC qual (defScope st) s.heap.objs.size f cdv))→PSsd (cxOf CX0 P w K mg base N qual (defScope st) f cdv A outer s H E).nox (defBody st) d) :
  FnOk P w K mg base CX0 (k + 1) f fd ps (spD K m (fnD n own d)):=by
 subst hN; subst hm
 refine F.ok S (fun vs H Q E h=>?_) (fun cdv A outer s H vs Q E hr h=>⟨_,hb cdv A outer s H E hr,?_⟩)
 ·obtain ⟨ρ,xs,c,W,r,hl,p⟩:=h
  exact r.length.trans hl
 ·obtain ⟨ρ,xs,c,W,r,hl,p⟩:=h
  refine ⟨ρ,startD N.length xs,c,W,REnv.start r,post.bind p fun fl c1 ρ1 H1 b _ W1 X1 r1 p1=>?_⟩
  cases fl with
  | nx e1 =>
   obtain ⟨σ1,rfl,V1⟩:=r1
   exact exit_ok (v:=.non) (x:=.non) (H1:=H1) W W1 X1 rfl (by
    unfold fnD at p; exact id (α:=post K (Rel K) (exitD own c.length .non c1) ρ H Q) (by
     rename_i he; rw [he] at p; exact p))
  | rt d =>
   obtain ⟨v,rfl,V1⟩:=r1
   exact exit_ok (v:=d) (x:=v) (H1:=H1) W W1 X1 V1 (by
    unfold fnD at p; rename_i he; rw [he] at p; exact p)
  | bk e1=>exact p1.elim
  | ct e1=>exact p1.elim
end
end L2
namespace L2
open PySem PySem.Spec PyProof.Rows
section
variable {X:Cx}
theorem pd_fn {x:Str} {st:Stmt} {ps:List Str} {f:Addr} {fd:FuncData} {k n:Nat} {m:List D→List Cell→R D} {e:Expr} {es:List Expr} {da:Ev→List Cell→R (List D)} {p pos:Pos} (D:Def X.K X.mg x st ps f fd) (G:FnOk X.prog X.w X.K X.mg X.base CX0 k f fd ps (spD X.K n m)) (hr:Room k X.A) (ha:PAd X (e :: es) da) (hg:Gl X x:=by rfl)
  (hdb:(x == ("__debug__":Str))=false:=by decide) (he:starEach (e :: es) X.env=(false,eval e X.env) :: starEach es X.env:=by exact starE rfl) (hpl:(backTo pos (starEach es X.env)).any (·.1)=false:=by exact starAny rfl) :
  PEd X (.Call (.Name x p) (e :: es) [] pos) (dCall n m da):=(pe_fn D G hr ha hg hdb he hpl).imp fun σ H Q h=>by
 obtain ⟨ρ,e,c,W,V,q⟩:=h
 refine ⟨ρ,e,c,W,V,post.bind q fun xs c1 ρ1 H1 vs _ W1 X1 r1 p1=>?_⟩
 split at p1
 ·rename_i hl
  exact ⟨ρ1,xs,c1,W1,by rw [List.append_nil]; exact r1,hl,p1⟩
 ·exact p1.elim
theorem pd_callB {id:String} {x:Str} {p pos:Pos} {e:Expr} {es:List Expr} {da:Ev→List Cell→R (List D)} {f:List D→List Cell→R D} (hc:CallR X (.builtin id) (rN X.K f)) (hm:X.mg x=none) (hv:bootBuiltins x=some (.builtin id)) (ha:PAd X (e :: es) da) (hg:Gl X x:=by rfl) (hn:x≠"__name__":=by decide) (hdb:(x == ("__debug__":Str))=false:=by decide)
  (he:starEach (e :: es) X.env=(false,eval e X.env) :: starEach es X.env:=by exact starE rfl) (hpl:(backTo pos (starEach es X.env)).any (·.1)=false:=by exact starAny rfl):PEd X (.Call (.Name x p) (e :: es) [] pos) (dCB f da):=(pe_callB hc hg hm hv ha hn hdb he hpl).imp fun σ H Q h=>t_cb h
theorem pd_callTy {T:String} {x:Str} {p pos:Pos} {e:Expr} {es:List Expr} {da:Ev→List Cell→R (List D)} {f:List D→List Cell→R D} (hc:CallR X (.type T) (rN X.K f)) (hm:X.mg x=none) (hv:bootBuiltins x=some (.type T)) (ha:PAd X (e :: es) da) (hg:Gl X x:=by rfl) (hn:x≠"__name__":=by decide) (hdb:(x == ("__debug__":Str))=false:=by decide)
  (he:starEach (e :: es) X.env=(false,eval e X.env) :: starEach es X.env:=by exact starE rfl) (hpl:(backTo pos (starEach es X.env)).any (·.1)=false:=by exact starAny rfl):PEd X (.Call (.Name x p) (e :: es) [] pos) (dCB f da):=(pe_callTy hc hg hm hv ha hn hdb he hpl).imp fun σ H Q h=>t_cb h
end
noncomputable def lenD:List D→List Cell→R D:=fun xs c=>match xs with
 | [x]=>match seqD c x with
  | some l=>.ok (.int l.length) c
  | none=>match x with
   | .str z=>if z.length≤sizeLine then .ok (.int z.length) c else .bad
   | _=>.bad
 | _=>.bad
noncomputable def tyD:D→Option String
 | .non=>some "NoneType"
 | .bl _=>some "bool"
 | .int _=>some "int"
 | .str _=>some "str"
 | .tup _=>some "tuple"
 | .lst _=>some "list"
 | .ref _=>some "list"
 | _=>none
noncomputable def isiD:List D→List Cell→R D:=fun xs c=>match xs with
 | [.dic,.ty T]=>if T∈["bool","int","str","list","tuple","dict"] then .ok (.bl (subT "dict" T)) c else .bad
 | [x,.ty T]=>match tyD x with
  | some n=>if T∈["bool","int","str","list","tuple","dict"] then .ok (.bl (subT n T)) c else .bad
  | none=>.bad
 | _=>.bad
noncomputable def blsD:List D→Option (List Bool)
 | []=>some []
 | .bl b :: l=>(blsD l).map (b :: ·)
 | _=>none
noncomputable def intsD:List D→Option (List Int)
 | []=>some []
 | .int i :: l=>(intsD l).map (i :: ·)
 | _=>none
theorem blsD_map (l:List Bool):blsD (l.map D.bl)=some l:=by
 induction l with
 | nil=>rfl
 | cons a l ih=>simp [blsD,ih]
theorem intsD_map (l:List Int):intsD (l.map D.int)=some l:=by
 induction l with
 | nil=>rfl
 | cons a l ih=>simp [intsD,ih]
theorem blsD_eq:∀ {l:List D} {bs:List Bool},blsD l=some bs→l=bs.map D.bl
 | [],bs,h=>by cases h; rfl
 | d :: l,bs,h=>by
  cases d with
  | bl b =>
   unfold blsD at h
   cases q:blsD l with
   | none=>rw [q] at h; cases h
   | some r=>rw [q] at h; cases h; rw [blsD_eq q]; rfl
  | _=>cases h
theorem intsD_eq:∀ {l:List D} {bs:List Int},intsD l=some bs→l=bs.map D.int
 | [],bs,h=>by cases h; rfl
 | d :: l,bs,h=>by
  cases d with
  | int b =>
   unfold intsD at h
   cases q:intsD l with
   | none=>rw [q] at h; cases h
   | some r=>rw [q] at h; cases h; rw [intsD_eq q]; rfl
  | _=>cases h
noncomputable def quantD (f:List Bool→Bool):List D→List Cell→R D:=fun xs c=>match xs with
 | [.lst l]=>match blsD l with
  | some bs=>.ok (.bl (f bs)) c
  | none=>.bad
 | _=>.bad
noncomputable def allD:=quantD fun bs=>bs.all id
noncomputable def anyD:=quantD fun bs=>bs.any id
noncomputable def max2D:List D→List Cell→R D:=fun xs c=>match xs with
 | [.int i,.int j]=>.ok (.int (if j > i then j else i)) c
 | _=>.bad
noncomputable def min2D:List D→List Cell→R D:=fun xs c=>match xs with
 | [.int i,.int j]=>.ok (.int (if j < i then j else i)) c
 | _=>.bad
noncomputable def absD:List D→List Cell→R D:=fun xs c=>match xs with
 | [.int i]=>.ok (.int (if i < 0 then -i else i)) c
 | _=>.bad
noncomputable def minL:Int→List Int→Int
 | a,[]=>a
 | a,b :: l=>minL (if b < a then b else a) l
noncomputable def min1D:List D→List Cell→R D:=fun xs c=>match xs with
 | [.tup l]=>match intsD l with
  | some (a :: r)=>.ok (.int (minL a r)) c
  | _=>.bad
 | _=>.bad
noncomputable def tupleD:List D→List Cell→R D:=fun xs c=>match xs with
 | [x]=>match seqD c x with
  | some l=>.ok (.tup l) c
  | none=>.bad
 | _=>.bad
noncomputable def listD:List D→List Cell→R D:=fun xs c=>match xs with
 | [x]=>match seqD c x with
  | some l=>.ok (.lst l) c
  | none=>.bad
 | _=>.bad
section
variable {X:Cx} {K:PySem.W.Frag} {ρ:List Addr} {H:Hp} {c:List Cell}
theorem cd_len:CallR X (.builtin "len") (rN X.K lenD):=by
 intro pins s σ H vs us Q I rv h
 obtain ⟨ρ,xs,c,W,rx,p⟩:=h
 unfold lenD at p
 split at p
 ·rename_i x
  obtain ⟨v,r,rfl,hx,hr⟩:=rx
  cases hr
  split at p
  ·rename_i l hl
   obtain ⟨a,ys,rfl,sq,r⟩:=seqD_ok W hx hl
   exact call_len_seq pins s σ H _ us Q I rv ⟨a,ys,rfl,sq,by rw [r.length]; exact p.here W rfl⟩
  ·split at p
   ·split at p
    ·rename_i hz
     cases hx
     exact call_len_str pins s σ H _ us Q I rv ⟨_,rfl,hz,p.here W rfl⟩
    ·exact p.elim
   ·exact p.elim
 ·exact p.elim
theorem tyD_ok {x:D} {v:V} {n:String} (W:Wd K ρ H c) (rx:Rel K ρ H x v) (h:tyD x=some n):tyName H v n:=by
 cases x with
 | non=>cases rx; cases h; exact rfl
 | bl b=>cases rx; cases h; exact rfl
 | int b=>cases rx; cases h; exact rfl
 | str b=>cases rx; cases h; exact rfl
 | tup l=>obtain ⟨a,xs,rfl,s,r⟩:=rx; cases h; exact .inr (.inl ⟨rfl,xs,s⟩)
 | lst l=>obtain ⟨a,xs,rfl,s,r⟩:=rx; cases h; exact .inl ⟨rfl,.inl ⟨xs,s.1⟩⟩
 | ref k =>
  obtain ⟨a,rfl,s⟩:=rx
  cases h
  obtain ⟨xs,e⟩:=W.at' (List.mem_of_getElem? s)
  exact .inl ⟨rfl,.inl ⟨xs,e⟩⟩
 | _=>cases h
theorem cd_isi:CallR X (.builtin "isinstance") (rN X.K isiD):=by
 intro pins s σ H vs us Q I rv h
 obtain ⟨ρ,xs,c,W,rx,p⟩:=h
 unfold isiD at p
 split at p
 ·split at p
  ·rename_i hT
   obtain ⟨v,r,rfl,⟨a,rfl,hH⟩,u,r',rfl,hu,hr⟩:=rx
   cases hr
   cases hu
   obtain ⟨u1,u2,rfl,r1,r2⟩:=Vals.two rv
   cases r1; cases r2
   obtain ⟨hp,_,_⟩:=I.hok a _ hH
   exact PySem.W.kia_one PySem.W.kitx_dict I.kIn hp (kit_sub (n:="dict") (by simp) hT) (fun z=>nomatch z) fun tk=>⟨.bl _,H,I.tok _,rfl,p.here W rfl⟩
  ·exact p.elim
 ·split at p
  ·rename_i n hn
   split at p
   ·rename_i hT
    obtain ⟨v,r,rfl,hx,u,r',rfl,hu,hr⟩:=rx
    cases hr
    cases hu
    exact call_isinst pins s σ H _ us Q I rv ⟨v,n,_,rfl,tyD_ok W hx hn,hT,p.here W rfl⟩
   ·exact p.elim
  ·exact p.elim
 ·exact p.elim
theorem cd_max2 (hc:X.calm=true:=by rfl):CallR X (.builtin "max") (rN X.K max2D):=by
 intro pins s σ H vs us Q I rv h
 obtain ⟨ρ,xs,c,W,rx,p⟩:=h
 unfold max2D at p
 split at p
 ·obtain ⟨v,r,rfl,hx,u,r',rfl,hu,hr⟩:=rx
  cases hr; cases hx; cases hu
  exact call_max2 hc pins s σ H _ us Q I rv ⟨_,_,rfl,p.here W rfl⟩
 ·exact p.elim
theorem cd_min2 (hc:X.calm=true:=by rfl):CallR X (.builtin "min") (rN X.K min2D):=by
 intro pins s σ H vs us Q I rv h
 obtain ⟨ρ,xs,c,W,rx,p⟩:=h
 unfold min2D at p
 split at p
 ·obtain ⟨v,r,rfl,hx,u,r',rfl,hu,hr⟩:=rx
  cases hr; cases hx; cases hu
  exact call_min2 hc pins s σ H _ us Q I rv ⟨_,_,rfl,p.here W rfl⟩
 ·exact p.elim
theorem cd_tuple:CallR X (.type "tuple") (rN X.K tupleD):=by
 intro pins s σ H vs us Q I rv h
 obtain ⟨ρ,xs,c,W,rx,p⟩:=h
 unfold tupleD at p
 split at p
 ·rename_i x
  obtain ⟨v,r,rfl,hx,hr⟩:=rx
  cases hr
  split at p
  ·rename_i l hl
   obtain ⟨a,ys,rfl,sq,r⟩:=seqD_ok W hx hl
   refine call_tuple_of pins s σ H _ us Q I rv ⟨a,ys,rfl,?_⟩
   rcases sq with sq | sq
   ·exact .inl ⟨sq,new_tup W r p⟩
   ·refine .inr ⟨sq,?_⟩
    cases x with
    | tup m=>cases hl; exact p.here W hx
    | lst m =>
     obtain ⟨b,zs,e,s1,_⟩:=hx
     cases e
     exfalso
     rcases sq with sq | ⟨o,its,n,hk,hcl,_⟩
     ·rcases sq with sq | ⟨o,sq⟩ <;> (rw [s1.1] at sq; cases sq)
     ·have:=I.bs a o (I.ok.mod.kin a o hk)
      rw [s1.1] at this
      cases this.2
    | scr m =>
     exfalso
     obtain ⟨b,e,s1⟩:=hx
     cases e
     obtain ⟨i1,_,pl,_⟩:=I.list s1.sql
     obtain ⟨i2,_,pt,_⟩:=I.tuple sq
     obtain ⟨o1,e1,c1,_⟩:=pl.isList
     obtain ⟨o2,e2,c2,_⟩:=pt
     rw [e1] at e2; cases e2
     rw [c1] at c2
     exact absurd c2 (by decide)
    | ref k =>
     exfalso
     obtain ⟨b,e,s1⟩:=hx
     cases e
     obtain ⟨zs,hz⟩:=W.at' (List.mem_of_getElem? s1)
     rcases sq with sq | ⟨o,its,n,hk,hcl,_⟩
     ·rcases sq with sq | ⟨o,sq⟩ <;> (rw [hz] at sq; cases sq)
     ·have:=I.bs a o (I.ok.mod.kin a o hk)
      rw [hz] at this
      cases this.2
    | _=>cases hl
  ·exact p.elim
 ·exact p.elim
theorem best_min (l:List Int) (a:Int):∀ k,k < (a :: l).length→(a :: l).getD (argBest (fun i j=>decide ((a :: l).getD i 0 < (a :: l).getD j 0)) k) 0=minL a (l.take k)
 | 0,_=>rfl
 | k + 1,h=>by
  have ih:=best_min l a k (Nat.lt_of_succ_lt h)
  have hk:k < l.length:=by simpa using h
  have step:∀ (l:List Int) (k:Nat) (a:Int) (hk:k < l.length),minL a (l.take (k + 1))=if l[k] < minL a (l.take k) then l[k] else minL a (l.take k):=by
   intro l
   induction l with
   | nil=>intro k a hk; cases hk
   | cons b l ihl =>
    intro k a hk
    cases k with
    | zero=>simp [minL]
    | succ k =>
     have:=ihl k (if b < a then b else a) (by simpa using hk)
     simpa [minL] using this
  rw [step l k a hk]
  unfold argBest
  rw [ih]
  have e:(a :: l).getD (k + 1) 0=l[k]:=by simp [List.getD,hk]
  rw [e]
  by_cases hc:l[k] < minL a (l.take k)
  ·rw [if_pos (by simpa using hc),if_pos hc,e]
  ·rw [if_neg (by simpa using hc),if_neg hc,ih]
end
noncomputable def dAppend (o a:Ev→List Cell→R D):Ev→List Cell→R D:=fun e c=>(o e c).bind fun x c=>match x with
 | .ref k=>(a e c).bind fun y c=>match c[k]? with
  | some (.lst l)=>if l.length < sizeLine∧noRef y=true then .ok .non (c.set k (.lst (l ++ [y]))) else .bad
  | none=>.bad
 | _=>.bad
theorem pd_append {X:Cx} {o e:Expr} {dO da:Ev→List Cell→R D} {apos cpos:Pos} (ho:PEd X o dO) (ha:PEd X e da)
  (hbase:attributeBase o "append" X.env (eval o X.env)=eval o X.env:=by rfl)
  (hfew:((backTo cpos (starEach [e] X.env)).all (fun x=>!x.1) && (backToKw cpos (keywordEach [] X.env)).all (fun x=>x.1.isSome)
   && decide ([e].length + ([]:List Keyword).length + (if ([]:List Keyword).isEmpty then 0 else 1) < 30))=true:=by exact starFew rfl)
  (hline:(apos.endLine == cpos.line)=true:=by rfl) (hs:starEach [e] X.env=(false,eval e X.env) :: starEach [] X.env:=by exact starE rfl) (hplain:(backTo cpos (starEach [] X.env)).any (·.1)=false:=by exact starAny rfl) :
  PEd X (.Call (.Attribute o "append" apos) [e] [] cpos) (dAppend dO da) :=
 (pe_bm PySem.F.plainAttrs_list PySem.F.slot_list_append PySem.F.type_list_append mt_append ho (pa_cons ha pa_nil hs) hbase hfew hline hs hplain).imp fun σ H Q h=>by
  obtain ⟨ρ,e,c,W,V,p⟩:=h
  refine ⟨ρ,e,c,W,V,post.bind p fun x c1 ρ1 H1 v _ W1 X1 r1 p1=>?_⟩
  cases x with
  | ref k =>
   obtain ⟨a,rfl,ha⟩:=r1
   obtain ⟨xs,hx⟩:=W1.at' (List.mem_of_getElem? ha)
   refine ⟨.inl ⟨rfl,xs,SqL.of hx⟩,ρ1,e,c1,W1,V.mono W X1,post.bind p1 fun y c2 ρ2 H2 u _ W2 X2 r2 p2=>?_⟩
   split at p2
   ·rename_i l hl
    split at p2
    ·rename_i hh
     obtain ⟨nr,ys,hy,rl⟩:=W2.cel k a _ (X2.pre k a ha) hl
     refine ⟨a,ys,u,rfl,rfl,hy,by rw [rl.length]; exact hh.1,?_⟩
     refine p2 ρ2 _ .non (W2.write (X2.pre k a ha) (by rw [noRefs_append,nr]; simp [noRefs,hh.2]) (rl.append ⟨u,[],rfl,r2,rfl⟩)) (Ext.write (X2.pre k a ha)) rfl
    ·exact p2.elim
   ·exact p2.elim
  | _=>exact p1.elim
end L2
namespace L2
open PySem PySem.Spec PyProof.Rows
noncomputable def FnW (P:Program) (w:World) (K:PySem.W.Frag) (mg:Str→Option Value) (base:Heap) (A:Around) (n:Nat) (m:List D→List Cell→R D) (f:Addr):Prop :=
 ∃ k fd ps,FnOk P w K mg base CX0 k f fd ps (spD K n m)∧Room k A∧PySem.W.keepIn K (.ref f)=true∧Binds K fd ps []
noncomputable abbrev FnV (X:Cx) (n:Nat) (m:List D→List Cell→R D) (f:Addr):Prop:=FnW X.prog X.w X.K X.mg X.base X.A n m f
noncomputable def fnsD (xs:List Str):Ev→List Cell→R Src:=fun _ c=>.ok ⟨xs.mapIdx fun i x=>.fn x i,fun _=>True⟩ c
noncomputable def dCallV (i n:Nat) (tbl:List (Str×(List D→List Cell→R D))) (a:Ev→List Cell→R (List D)):Ev→List Cell→R D:=fun e c=>match e[i]? with
 | some (some (.fn x j))=>match tbl[j]? with
  | some (y,m)=>if x=y then (a e c).bind fun xs c=>if xs.length=n then m xs c else .bad else .bad
  | none=>.bad
 | _=>.bad
section
variable {X:Cx} {tg:Expr}
end
noncomputable def eqE:D→D→List Cell→R D:=fun x y c=>match x,y with
 | .lst l,.lst []=>.ok (.bl l.isEmpty) c
 | _,_=>.bad
end L2
namespace L2
open PySem
section
variable (e:Ev) (c:List Cell) (a b d:Ev→List Cell→R D) (ta tb:Ev→List Cell→R Bool) (s t:Ev→List Cell→R Fl) (l:Ev→List Cell→R (List D)) (g:Gd) (gs:List D→Ev→List Cell→R Ev)
@[simp] theorem x_var (i:Nat):dVar i e c=match e[i]? with | some (some d)=>.ok d c | _=>.bad:=rfl
@[simp] theorem x_c (d:D):dC d e c=.ok d c:=rfl
@[simp] theorem x_bin (f:D→D→List Cell→R D):dBin f a b e c=(a e c).bind fun x c=>(b e c).bind fun y c=>f x y c:=rfl
@[simp] theorem x_un (f:D→List Cell→R D):dUn f a e c=(a e c).bind fun x c=>f x c:=rfl
@[simp] theorem x_cb (f:List D→List Cell→R D):dCB f l e c=(l e c).bind fun xs c=>f xs c:=rfl
@[simp] theorem x_chain (f g:D→D→List Cell→R D):dChain f g a b d e c=(a e c).bind fun x c=>(b e c).bind fun y c=>(f x y c).bind fun z c=>match z with
 | .bl true=>(d e c).bind fun u c=>g y u c
 | .bl false=>.ok (.bl false) c
 | _=>.bad:=rfl
@[simp] theorem x_nil:dNil e c=.ok [] c:=rfl
@[simp] theorem x_cons:dCons a l e c=(a e c).bind fun x c=>(l e c).bind fun xs c=>.ok (x :: xs) c:=rfl
@[simp] theorem x_tup:dTup l e c=(l e c).bind fun xs c=>if xs.length≤sizeLine then .ok (.tup xs) c else .bad:=rfl
@[simp] theorem x_lst:dLst l e c=(l e c).bind fun xs c=>if xs.length≤sizeLine then .ok (.lst xs) c else .bad:=rfl
@[simp] theorem x_lstM:dLstM l e c=(l e c).bind fun xs c=>if xs.length≤sizeLine∧noRefs xs=true then .ok (.ref c.length) (c ++ [.lst xs]) else .bad:=rfl
@[simp] theorem x_bl:dBl a e c=(a e c).bind fun x c=>match x with | .bl b=>.ok b c | _=>.bad:=rfl
@[simp] theorem x_tru:dTru a e c=(a e c).bind fun x c=>match truD c x with | some b=>.ok b c | none=>.bad:=rfl
@[simp] theorem x_andT:dAndT ta tb e c=(ta e c).bind fun x c=>if x=true then tb e c else .ok false c:=rfl
@[simp] theorem x_orT:dOrT ta tb e c=(ta e c).bind fun x c=>if x=true then .ok true c else tb e c:=rfl
@[simp] theorem x_notT:dNotT ta e c=(ta e c).bind fun x c=>.ok (!x) c:=rfl
@[simp] theorem x_andV:dAndV a b e c=(a e c).bind fun x c=>match x with | .bl k=>if k=true then b e c else .ok (.bl false) c | _=>.bad:=rfl
@[simp] theorem x_orV:dOrV a b e c=(a e c).bind fun x c=>match x with | .bl k=>if k=true then .ok (.bl true) c else b e c | _=>.bad:=rfl
@[simp] theorem x_notV:dNotV a e c=(a e c).bind fun x c=>match x with | .bl k=>.ok (.bl (!k)) c | _=>.bad:=rfl
@[simp] theorem x_ifE:dIfE ta a b e c=(ta e c).bind fun x c=>if x=true then a e c else b e c:=rfl
@[simp] theorem x_call (n:Nat) (m:List D→List Cell→R D):dCall n m l e c=(l e c).bind fun xs c=>if xs.length=n then m xs c else .bad:=rfl
@[simp] theorem x_next:sNext e c=.ok (.nx e) c:=rfl
@[simp] theorem x_bad:sBad e c=.bad:=rfl
@[simp] theorem x_break:sBreak e c=.ok (.bk e) c:=rfl
@[simp] theorem x_cont:sCont e c=.ok (.ct e) c:=rfl
@[simp] theorem x_seq:sSeq s t e c=(s e c).bind fun f c=>match f with | .nx e=>t e c | f=>.ok f c:=rfl
@[simp] theorem x_ret:sRet a e c=(a e c).bind fun x c=>.ok (.rt x) c:=rfl
@[simp] theorem x_drop:sDrop a e c=(a e c).bind fun _ c=>.ok (.nx e) c:=rfl
@[simp] theorem x_if:sIf ta s t e c=(ta e c).bind fun x c=>if x=true then s e c else t e c:=rfl
@[simp] theorem x_set (i:Nat):sSet i a e c=(a e c).bind fun x c=>.ok (.nx (e.set i (some x))) c:=rfl
@[simp] theorem x_asg:sAsg a g e c=(a e c).bind fun x c=>(g x e c).bind fun e c=>.ok (.nx e) c:=rfl
@[simp] theorem x_gname (i:Nat) (x:D):gdName i x e c=.ok (e.set i (some x)) c:=rfl
@[simp] theorem x_gnil:gdNil [] e c=.ok e c:=rfl
@[simp] theorem x_gcons (x:D) (xs:List D):gdCons g gs (x :: xs) e c=(g x e c).bind fun e c=>gs xs e c:=rfl
@[simp] theorem x_gtup (n:Nat) (xs:List D):gdTup n gs (.tup xs) e c=if xs.length=n then gs xs e c else .bad:=rfl
@[simp] theorem x_gsub (x:D):gdSub a b x e c=(a e c).bind fun o c=>(b e c).bind fun i c=>(setD o i x c).bind fun _ c=>.ok e c:=rfl
@[simp] theorem x_for (sr:Ev→List Cell→R Src):sFor sr g s e c=(sr e c).bind fun q c=>forD q.stays g s q.items e c:=rfl
@[simp] theorem x_fn (n:Nat) (own:Bool) (xs:List D):fnD n own s xs c=(s (startD n xs) c).bind fun f c'=>match f with
 | .rt v=>exitD own c.length v c'
 | .nx _=>exitD own c.length .non c'
 | _=>.bad:=rfl
@[simp] theorem x_start (n:Nat) (xs:List D):startD n xs=xs.map some ++ List.replicate (n - xs.length) none:=rfl
@[simp] theorem x_comp (sr:Ev→List Cell→R Src) (pick:List (Option Nat)):dComp sr pick g ta a e c=(sr e c).bind fun q c =>
 if q.items.length < sizeLine then (compD q.stays g ta a q.items (pickD pick e) [] c).bind fun l c=>.ok (.lst l) c else .bad:=rfl
@[simp] theorem x_yes:dYes e c=.ok true c:=rfl
@[simp] theorem x_add (i j:Int):addD (.int i) (.int j) c=.ok (.int (i + j)) c:=rfl
@[simp] theorem x_addT (x y:List D):addD (.tup x) (.tup y) c=if x.length≠0∧x.length + y.length≤sizeLine then .ok (.tup (x ++ y)) c else .bad:=rfl
@[simp] theorem x_sub (i j:Int):subD (.int i) (.int j) c=.ok (.int (i - j)) c:=rfl
theorem x_mul (i j:Int):mulD (.int i) (.int j) c=if (-(2 ^ 64) < i∧i < 2 ^ 64)∨(-(2 ^ 64) < j∧j < 2 ^ 64) then .ok (.int (i * j)) c else .bad:=rfl
theorem x_div (i j:Int):divD (.int i) (.int j) c=if 0 < j∧j < 1073741824 then .ok (.int (i / j)) c else .bad:=rfl
theorem x_mod (i j:Int):modD (.int i) (.int j) c=if 0 < j then .ok (.int (i % j)) c else .bad:=rfl
theorem x_pow (i j:Int):powD (.int i) (.int j) c=if 0≤j∧j≤1000000∧i.natAbs < 2 ^ 64 then .ok (.int (i ^ j.toNat)) c else .bad:=rfl
@[simp] theorem x_neg (i:Int):negD (.int i) c=.ok (.int (-i)) c:=rfl
@[simp] theorem x_cmp (p:Int→Int→Bool) (i j:Int):cmpD p (.int i) (.int j) c=.ok (.bl (p i j)) c:=rfl
@[simp] theorem x_eqi (i j:Int):eqD (.int i) (.int j) c=.ok (.bl (decide (i=j))) c:=rfl
@[simp] theorem x_nei (i j:Int):neD (.int i) (.int j) c=.ok (.bl (!decide (i=j))) c:=rfl
@[simp] theorem x_eqb (i j:Bool):eqD (.bl i) (.bl j) c=.ok (.bl (decide (i=j))) c:=rfl
@[simp] theorem x_neb (i j:Bool):neD (.bl i) (.bl j) c=.ok (.bl (!decide (i=j))) c:=rfl
@[simp] theorem x_eqs (i j:Str):eqD (.str i) (.str j) c=.ok (.bl (decide (i=j))) c:=rfl
@[simp] theorem x_nes (i j:Str):neD (.str i) (.str j) c=.ok (.bl (!decide (i=j))) c:=rfl
@[simp] theorem x_is (x:D):isD x .non c=.ok (.bl (isN x)) c:=rfl
@[simp] theorem x_isnot (x:D):isNotD x .non c=.ok (.bl (!isN x)) c:=rfl
@[simp] theorem n_non:isN .non=true:=rfl
@[simp] theorem n_bl (b:Bool):isN (.bl b)=false:=rfl
@[simp] theorem n_int (b:Int):isN (.int b)=false:=rfl
@[simp] theorem n_str (b:Str):isN (.str b)=false:=rfl
@[simp] theorem n_tup (b:List D):isN (.tup b)=false:=rfl
@[simp] theorem n_lst (b:List D):isN (.lst b)=false:=rfl
@[simp] theorem x_ixT (xs:List D) (i:Int):ixD (.tup xs) (.int i) c=match atI xs i with | some d=>.ok d c | none=>.bad:=rfl
@[simp] theorem x_ixL (xs:List D) (i:Int):ixD (.lst xs) (.int i) c=match atI xs i with | some d=>.ok d c | none=>.bad:=rfl
@[simp] theorem x_lenT (xs:List D):lenD [.tup xs] c=.ok (.int xs.length) c:=rfl
@[simp] theorem x_lenL (xs:List D):lenD [.lst xs] c=.ok (.int xs.length) c:=rfl
@[simp] theorem x_lenS (xs:List Int):lenD [.scr xs] c=.ok (.int xs.length) c:=by
 show R.ok (D.int ((xs.map D.int).length:Nat)) c=_
 rw [List.length_map]
@[simp] theorem x_max2 (i j:Int):max2D [.int i,.int j] c=.ok (.int (if j > i then j else i)) c:=rfl
@[simp] theorem x_min2 (i j:Int):min2D [.int i,.int j] c=.ok (.int (if j < i then j else i)) c:=rfl
@[simp] theorem x_abs (i:Int):absD [.int i] c=.ok (.int (if i < 0 then -i else i)) c:=rfl
@[simp] theorem r_non:noRef .non=true:=rfl
@[simp] theorem r_bl (b:Bool):noRef (.bl b)=true:=rfl
@[simp] theorem r_int (b:Int):noRef (.int b)=true:=rfl
@[simp] theorem r_str (b:Str):noRef (.str b)=true:=rfl
@[simp] theorem r_tup (b:List D):noRef (.tup b)=noRefs b:=by simp [noRef]
@[simp] theorem r_lst (b:List D):noRef (.lst b)=noRefs b:=by simp [noRef]
@[simp] theorem r_nil:noRefs []=true:=by simp [noRefs]
@[simp] theorem r_cons (d:D) (b:List D):noRefs (d :: b)=(noRef d && noRefs b):=by simp [noRefs]
@[simp] theorem q_bl (own:Bool) (n:Nat) (b:Bool):exitD own n (.bl b) c=.ok (.bl b) (c.take n):=rfl
@[simp] theorem q_non (own:Bool) (n:Nat):exitD own n .non c=.ok .non (c.take n):=rfl
@[simp] theorem q_int (own:Bool) (n:Nat) (b:Int):exitD own n (.int b) c=.ok (.int b) (c.take n):=rfl
@[simp] theorem q_str (own:Bool) (n:Nat) (b:Str):exitD own n (.str b) c=.ok (.str b) (c.take n):=rfl
@[simp] theorem q_tup (own:Bool) (n:Nat) (b:List D):exitD own n (.tup b) c=if noRefs b=true then .ok (.tup b) (c.take n) else .bad:=by
 show (if noRef (.tup b)=true then R.ok (D.tup b) (c.take n) else R.bad)=_
 rw [r_tup]
@[simp] theorem q_lst (own:Bool) (n:Nat) (b:List D):exitD own n (.lst b) c=if noRefs b=true then .ok (.lst b) (c.take n) else .bad:=by
 show (if noRef (.lst b)=true then R.ok (D.lst b) (c.take n) else R.bad)=_
 rw [r_lst]
@[simp] theorem x_rng1:dRng1 l e c=(l e c).bind fun xs c=>match xs with
 | [.int j]=>if -(2 ^ 62)≤j∧j < 2 ^ 62 then .ok ⟨rngD 0 j,fun _=>True⟩ c else .bad
 | _=>.bad:=rfl
@[simp] theorem x_rng2:dRng2 l e c=(l e c).bind fun xs c=>match xs with
 | [.int i,.int j]=>if -(2 ^ 62)≤i∧i < 2 ^ 62∧-(2 ^ 62)≤j∧j < 2 ^ 62 then .ok ⟨rngD i j,fun _=>True⟩ c else .bad
 | _=>.bad:=rfl
@[simp] theorem x_seqS:dSeq a e c=(a e c).bind fun x c=>match x with
 | .lst l=>.ok ⟨l,fun _=>True⟩ c
 | .scr l=>.ok ⟨l.map D.int,fun _=>True⟩ c
 | .ref k=>match c[k]? with
  | some (.lst l)=>.ok ⟨l,fun c=>c[k]? = some (.lst l)⟩ c
  | none=>.bad
 | _=>.bad:=rfl
@[simp] theorem x_seqT:dSeqT a e c=(a e c).bind fun x c=>match x with
 | .tup l=>.ok ⟨l,fun _=>True⟩ c
 | _=>.bad:=rfl
@[simp] theorem x_zip:dZip l e c=(l e c).bind fun xs c=>match xs with
 | [.tup l,.tup m]=>.ok ⟨List.zipWith (fun x y=>.tup [x,y]) l m,fun _=>True⟩ c
 | _=>.bad:=rfl
@[simp] theorem x_callV (i n:Nat) (tbl:List (Str×(List D→List Cell→R D))):dCallV i n tbl l e c=match e[i]? with
 | some (some (.fn x j))=>match tbl[j]? with
  | some (y,m)=>if x=y then (l e c).bind fun xs c=>if xs.length=n then m xs c else .bad else .bad
  | none=>.bad
 | _=>.bad:=rfl
end
section
variable (g:Gd) (s:Ev→List Cell→R Fl) (t:Ev→List Cell→R Bool) (a:Ev→List Cell→R D) (e:Ev) (c:List Cell)
@[simp] theorem for_nil:forD (fun _=>True) g s [] e c=.ok (.nx e) c:=by simp [forD]
@[simp] theorem for_cons (x:D) (xs:List D):forD (fun _=>True) g s (x :: xs) e c=(g x e c).bind fun e c=>(s e c).bind fun f c=>match f with
   | .nx e=>forD (fun _=>True) g s xs e c
   | .ct e=>forD (fun _=>True) g s xs e c
   | .bk e=>.ok (.nx e) c
   | .rt d=>.ok (.rt d) c:=by
 conv=>lhs; unfold forD
 exact if_pos trivial
@[simp] theorem comp_nil (acc:List D):compD (fun _=>True) g t a [] e acc c=.ok acc c:=by simp [compD]
@[simp] theorem comp_cons (x:D) (xs acc:List D):compD (fun _=>True) g t a (x :: xs) e acc c=(g x e c).bind fun e c=>(t e c).bind fun k c=>if k=true then (a e c).bind fun y c=>compD (fun _=>True) g t a xs e (acc ++ [y]) c else compD (fun _=>True) g t a xs e acc c:=by
 conv=>lhs; unfold compD
 exact if_pos trivial
end
@[simp] theorem gz {α:Type} (a:α) (l:List α):(a :: l)[0]? = some a:=rfl
@[simp] theorem gs {α:Type} (a:α) (l:List α) (n:Nat):(a :: l)[n + 1]? = l[n]?:=rfl
@[simp] theorem at0 {α:Type} (a:α) (l:List α):atI (a :: l) 0=some a:=by simp [atI,ixN]
@[simp] theorem at1 {α:Type} (a b:α) (l:List α):atI (a :: b :: l) 1=some b:=by
 unfold atI ixN
 rw [if_pos (by decide),if_pos (by simp; omega)]
 rfl
@[simp] theorem at2 {α:Type} (a b d:α) (l:List α):atI (a :: b :: d :: l) 2=some d:=by
 unfold atI ixN
 rw [if_pos (by decide),if_pos (by simp; omega)]
 rfl
@[simp] theorem at3 {α:Type} (a b d f:α) (l:List α):atI (a :: b :: d :: f :: l) 3=some f:=by
 unfold atI ixN
 rw [if_pos (by decide),if_pos (by simp; omega)]
 rfl
@[simp] theorem at4 {α:Type} (a b d f h:α) (l:List α):atI (a :: b :: d :: f :: h :: l) 4=some h:=by
 unfold atI ixN
 rw [if_pos (by decide),if_pos (by simp; omega)]
 rfl
theorem small_line {n:Nat} (h:n≤1000):n≤sizeLine:=Nat.le_trans h (by decide)
@[simp] theorem sl0:(0:Nat)≤sizeLine:=Nat.zero_le _
@[simp] theorem sl1:(1:Nat)≤sizeLine:=by decide
@[simp] theorem sl2:(2:Nat)≤sizeLine:=by decide
@[simp] theorem sl3:(3:Nat)≤sizeLine:=by decide
@[simp] theorem sl4:(4:Nat)≤sizeLine:=by decide
@[simp] theorem sl5:(5:Nat)≤sizeLine:=by decide
@[simp] theorem sl6:(6:Nat)≤sizeLine:=by decide
@[simp] theorem st0:(0:Nat) < sizeLine:=by decide
@[simp] theorem st1:(1:Nat) < sizeLine:=by decide
@[simp] theorem st2:(2:Nat) < sizeLine:=by decide
@[simp] theorem st3:(3:Nat) < sizeLine:=by decide
@[simp] theorem st4:(4:Nat) < sizeLine:=by decide
@[simp] theorem st5:(5:Nat) < sizeLine:=by decide
@[simp] theorem i_int_int (i:Int) (c:List Cell):isiD [.int i,.ty "int"] c=.ok (.bl true) c:=rfl
@[simp] theorem i_int_bool (i:Int) (c:List Cell):isiD [.int i,.ty "bool"] c=.ok (.bl false) c:=rfl
@[simp] theorem i_int_str (i:Int) (c:List Cell):isiD [.int i,.ty "str"] c=.ok (.bl false) c:=rfl
@[simp] theorem i_int_tuple (i:Int) (c:List Cell):isiD [.int i,.ty "tuple"] c=.ok (.bl false) c:=rfl
@[simp] theorem i_int_list (i:Int) (c:List Cell):isiD [.int i,.ty "list"] c=.ok (.bl false) c:=rfl
@[simp] theorem i_bl_int (i:Bool) (c:List Cell):isiD [.bl i,.ty "int"] c=.ok (.bl true) c:=rfl
@[simp] theorem i_bl_bool (i:Bool) (c:List Cell):isiD [.bl i,.ty "bool"] c=.ok (.bl true) c:=rfl
@[simp] theorem i_bl_str (i:Bool) (c:List Cell):isiD [.bl i,.ty "str"] c=.ok (.bl false) c:=rfl
@[simp] theorem i_bl_tuple (i:Bool) (c:List Cell):isiD [.bl i,.ty "tuple"] c=.ok (.bl false) c:=rfl
@[simp] theorem i_bl_list (i:Bool) (c:List Cell):isiD [.bl i,.ty "list"] c=.ok (.bl false) c:=rfl
@[simp] theorem i_str_int (i:Str) (c:List Cell):isiD [.str i,.ty "int"] c=.ok (.bl false) c:=rfl
@[simp] theorem i_str_bool (i:Str) (c:List Cell):isiD [.str i,.ty "bool"] c=.ok (.bl false) c:=rfl
@[simp] theorem i_str_str (i:Str) (c:List Cell):isiD [.str i,.ty "str"] c=.ok (.bl true) c:=rfl
@[simp] theorem i_str_tuple (i:Str) (c:List Cell):isiD [.str i,.ty "tuple"] c=.ok (.bl false) c:=rfl
@[simp] theorem i_str_list (i:Str) (c:List Cell):isiD [.str i,.ty "list"] c=.ok (.bl false) c:=rfl
@[simp] theorem i_non_int (c:List Cell):isiD [.non,.ty "int"] c=.ok (.bl false) c:=rfl
@[simp] theorem i_non_bool (c:List Cell):isiD [.non,.ty "bool"] c=.ok (.bl false) c:=rfl
@[simp] theorem i_non_str (c:List Cell):isiD [.non,.ty "str"] c=.ok (.bl false) c:=rfl
@[simp] theorem i_non_tuple (c:List Cell):isiD [.non,.ty "tuple"] c=.ok (.bl false) c:=rfl
@[simp] theorem i_non_list (c:List Cell):isiD [.non,.ty "list"] c=.ok (.bl false) c:=rfl
@[simp] theorem i_tup_int (i:List D) (c:List Cell):isiD [.tup i,.ty "int"] c=.ok (.bl false) c:=rfl
@[simp] theorem i_tup_bool (i:List D) (c:List Cell):isiD [.tup i,.ty "bool"] c=.ok (.bl false) c:=rfl
@[simp] theorem i_tup_str (i:List D) (c:List Cell):isiD [.tup i,.ty "str"] c=.ok (.bl false) c:=rfl
@[simp] theorem i_tup_tuple (i:List D) (c:List Cell):isiD [.tup i,.ty "tuple"] c=.ok (.bl true) c:=rfl
@[simp] theorem i_tup_list (i:List D) (c:List Cell):isiD [.tup i,.ty "list"] c=.ok (.bl false) c:=rfl
@[simp] theorem i_lst_int (i:List D) (c:List Cell):isiD [.lst i,.ty "int"] c=.ok (.bl false) c:=rfl
@[simp] theorem i_lst_bool (i:List D) (c:List Cell):isiD [.lst i,.ty "bool"] c=.ok (.bl false) c:=rfl
@[simp] theorem i_lst_str (i:List D) (c:List Cell):isiD [.lst i,.ty "str"] c=.ok (.bl false) c:=rfl
@[simp] theorem i_lst_tuple (i:List D) (c:List Cell):isiD [.lst i,.ty "tuple"] c=.ok (.bl false) c:=rfl
@[simp] theorem i_lst_list (i:List D) (c:List Cell):isiD [.lst i,.ty "list"] c=.ok (.bl true) c:=rfl
section
variable (c:List Cell) {i j:Int}
theorem mul_l (h1:-18446744073709551616 < i) (h2:i < 18446744073709551616):mulD (.int i) (.int j) c=.ok (.int (i * j)) c:=by
 rw [x_mul,if_pos]; exact .inl ⟨by omega,by omega⟩
theorem mul_r (h1:-18446744073709551616 < j) (h2:j < 18446744073709551616):mulD (.int i) (.int j) c=.ok (.int (i * j)) c:=by
 rw [x_mul,if_pos]; exact .inr ⟨by omega,by omega⟩
theorem div_c (h1:0 < j) (h2:j < 1073741824):divD (.int i) (.int j) c=.ok (.int (i / j)) c:=by
 rw [x_div,if_pos ⟨h1,h2⟩]
theorem mod_c (h1:0 < j):modD (.int i) (.int j) c=.ok (.int (i % j)) c:=by
 rw [x_mod,if_pos h1]
theorem pow_c (h1:0≤j) (h2:j≤1000000) (h3:i.natAbs < 18446744073709551616):powD (.int i) (.int j) c=.ok (.int (i ^ j.toNat)) c:=by
 rw [x_pow,if_pos ⟨h1,h2,h3⟩]
end
section
variable {g:Gd} {s:Ev→List Cell→R Fl} {t:Ev→List Cell→R Bool} {a:Ev→List Cell→R D}
theorem comp_pure {c:List Cell} (inv:Ev→Prop) (F:D→Bool) (G:D→D):∀ (items:List D) (e:Ev) (acc:List D),inv e →
  (∀ x∈items,∀ e,inv e→∃ e',g x e c=.ok e' c∧inv e'∧t e' c=.ok (F x) c∧(F x=true→a e' c=.ok (G x) c)) →
  compD (fun _=>True) g t a items e acc c=.ok (acc ++ (items.filter F).map G) c
 | [],e,acc,_,_=>by simp
 | x :: xs,e,acc,hi,h=>by
  obtain ⟨e',h1,h2,h3,h4⟩:=h x List.mem_cons_self e hi
  rw [comp_cons,h1,R.bind_ok,h3,R.bind_ok]
  cases hF:F x with
  | true =>
   rw [if_pos rfl,h4 hF,R.bind_ok,comp_pure inv F G xs e' _ h2 fun y hy=>h y (List.mem_cons_of_mem _ hy)]
   simp [hF]
  | false =>
   rw [if_neg Bool.false_ne_true,comp_pure inv F G xs e' _ h2 fun y hy=>h y (List.mem_cons_of_mem _ hy)]
   simp [hF]
theorem for_find {c:List Cell} (inv:Ev→Prop) (P:D→Option D):∀ (items:List D) (e:Ev),inv e →
  (∀ x∈items,∀ e,inv e→∃ e' e'',g x e c=.ok e' c∧inv e''∧s e' c=match P x with | none=>.ok (.nx e'') c | some v=>.ok (.rt v) c) →
  match items.findSome? P with | none=>∃ e',inv e'∧forD (fun _=>True) g s items e c=.ok (.nx e') c | some v=>forD (fun _=>True) g s items e c=.ok (.rt v) c
 | [],e,hi,_=>⟨e,hi,by simp⟩
 | x :: xs,e,hi,h=>by
  obtain ⟨e',e'',h1,h2,h3⟩:=h x List.mem_cons_self e hi
  have ih:=for_find inv P xs e'' h2 fun y hy=>h y (List.mem_cons_of_mem _ hy)
  rw [List.findSome?_cons,for_cons,h1,R.bind_ok,h3]
  cases hP:P x with
  | some v=>simp
  | none=>simpa using ih
theorem for_any (inv:Ev→Prop):∀ (items:List D) (e:Ev) (c:List Cell),inv e →
  (∀ x∈items,∀ e c,inv e→∃ e' e'' c' c'',g x e c=.ok e' c'∧s e' c'=.ok (.nx e'') c''∧inv e'') →
  ∃ e' c',inv e'∧forD (fun _=>True) g s items e c=.ok (.nx e') c'
 | [],e,c,hi,_=>⟨e,c,hi,by simp⟩
 | x :: xs,e,c,hi,h=>by
  obtain ⟨e',e'',c',c'',h1,h2,h3⟩:=h x List.mem_cons_self e c hi
  obtain ⟨e3,c3,i3,h4⟩:=for_any inv xs e'' c'' h3 fun y hy=>h y (List.mem_cons_of_mem _ hy)
  exact ⟨e3,c3,i3,by rw [for_cons,h1,R.bind_ok,h2]; exact h4⟩
theorem for_inv (inv:Ev→List Cell→Prop):∀ (items:List D) (e:Ev) (c:List Cell),inv e c →
  (∀ x∈items,∀ e c,inv e c→∃ e' e'' c' c'',g x e c=.ok e' c'∧s e' c'=.ok (.nx e'') c''∧inv e'' c'') →
  ∃ e' c',inv e' c'∧forD (fun _=>True) g s items e c=.ok (.nx e') c'
 | [],e,c,hi,_=>⟨e,c,hi,by simp⟩
 | x :: xs,e,c,hi,h=>by
  obtain ⟨e',e'',c',c'',h1,h2,h3⟩:=h x List.mem_cons_self e c hi
  obtain ⟨e3,c3,i3,h4⟩:=for_inv inv xs e'' c'' h3 fun y hy=>h y (List.mem_cons_of_mem _ hy)
  exact ⟨e3,c3,i3,by rw [for_cons,h1,R.bind_ok,h2]; exact h4⟩
end
theorem mem_rng {lo hi:Int} {d:D} (h:d∈rngD lo hi):∃ i:Int,d=.int i∧lo≤i∧i < hi:=by
 unfold rngD at h
 obtain ⟨k,hk,rfl⟩:=List.mem_map.mp h
 have:=List.mem_range.mp hk
 exact ⟨lo + k,rfl,by omega,by omega⟩
theorem rng_mem {lo hi i:Int} (h1:lo≤i) (h2:i < hi):D.int i∈rngD lo hi:=by
 unfold rngD
 refine List.mem_map.mpr ⟨(i - lo).toNat,List.mem_range.mpr (by omega),?_⟩
 congr 1
 omega
theorem rng_len {lo hi:Int}:(rngD lo hi).length=(hi - lo).toNat:=by simp [rngD]
end L2
namespace L2
open PySem PySem.Spec PyProof.Rows
noncomputable def lstD (c:List Cell):D→Option (List D)
 | .lst l=>some l
 | .ref k=>match c[k]? with
  | some (.lst l)=>some l
  | none=>none
 | _=>none
noncomputable def stayD (c:List Cell):D→List Cell→Prop
 | .ref k=>fun c'=>c'[k]? = c[k]?
 | _=>fun _=>True
noncomputable def catD:D→D→List Cell→R D:=fun x y c=>match lstD c x,lstD c y with
 | some l,some m=>if l.length + m.length≤sizeLine then .ok (.lst (l ++ m)) c else .bad
 | _,_=>.bad
noncomputable def cutD (xs:List D) (lo hi:Option Int):List D:=(xs.drop (HT.sIx xs.length 0 lo)).take (HT.sIx xs.length xs.length hi - HT.sIx xs.length 0 lo)
noncomputable def dSl (a:Ev→List Cell→R D) (lo hi:Ev→List Cell→R (Option Int)):Ev→List Cell→R D:=fun e c=>(a e c).bind fun x c=>(lo e c).bind fun l c=>(hi e c).bind fun u c=>match lstD c x with
 | some xs=>.ok (.lst (cutD xs l u)) c
 | none=>.bad
noncomputable def dNoP:Ev→List Cell→R (Option Int):=fun _ c=>.ok none c
noncomputable def dPart (a:Ev→List Cell→R D):Ev→List Cell→R (Option Int):=fun e c=>(a e c).bind fun x c=>match x with
 | .int i=>.ok (some i) c
 | _=>.bad
noncomputable def dZip2 (a:Ev→List Cell→R (List D)):Ev→List Cell→R Src:=fun e c=>(a e c).bind fun xs c=>match xs with
 | [.tup l,.tup m]=>.ok ⟨List.zipWith (fun x y=>.tup [x,y]) l m,fun _=>True⟩ c
 | [x,y]=>match lstD c x,lstD c y with
  | some l,some m=>.ok ⟨List.zipWith (fun x y=>.tup [x,y]) l m,fun c'=>stayD c x c'∧stayD c y c'⟩ c
  | _,_=>.bad
 | _=>.bad
section
variable {X:Cx} {K:PySem.W.Frag} {ρ ρ':List Addr} {H H':Hp} {c c':List Cell}
theorem lstD_ok {x:D} {v:V} {l:List D} (W:Wd K ρ H c) (rx:Rel K ρ H x v) (h:lstD c x=some l):∃ a xs,v=.ref a∧H a=some (.lst xs)∧Rels K ρ H l xs:=by
 cases x with
 | lst m =>
  cases h
  obtain ⟨a,xs,e,s,r⟩:=rx
  exact ⟨a,xs,e,s.1,r⟩
 | ref k =>
  obtain ⟨a,e,s⟩:=rx
  unfold lstD at h
  dsimp only at h
  cases hc:c[k]? with
  | none=>rw [hc] at h; cases h
  | some cl =>
   cases cl with
   | lst m =>
    rw [hc] at h; cases h
    obtain ⟨_,xs,hx,r⟩:=W.cel k a _ s hc
    exact ⟨a,xs,e,hx,r⟩
 | _=>cases h
theorem lstD_later {x:D} {v:V} {l:List D} (W:Wd K ρ H c) (W':Wd K ρ' H' c') (E:Ext ρ H ρ' H') (rx:Rel K ρ H x v) (h:lstD c x=some l) (st:stayD c x c') {a:Addr} (e:v=.ref a):∃ xs,SqL K H' a xs∧Rels K ρ' H' l xs:=by
 have rx':=Rel.mono W E x v rx
 have h':lstD c' x=some l:=by
  cases x with
  | lst m=>exact h
  | ref k =>
   have st:c'[k]? = c[k]?:=st
   unfold lstD at h ⊢
   dsimp only at h ⊢
   rw [st]; exact h
  | _=>cases h
 obtain ⟨b,xs,e2,hx,r⟩:=lstD_ok W' rx' h'
 rw [e] at e2; cases e2
 exact ⟨xs,SqL.of hx,r⟩
theorem od_cat:OpR X (binaryOp .Add) (r2 X.K catD):=by
 intro pins s σ H v u vv uu Q I rv ru h
 obtain ⟨ρ,x,y,c,W,rx,ry,p⟩:=h
 unfold catD at p
 split at p
 ·rename_i l m hl hm
  split at p
  ·rename_i hz
   obtain ⟨a,xs,rfl,ha,ra⟩:=lstD_ok W rx hl
   obtain ⟨b,ys,rfl,hb,rb⟩:=lstD_ok W ry hm
   exact op_cat pins s σ H _ _ vv uu Q I rv ru ⟨a,b,xs,ys,rfl,rfl,ha,hb,by rw [ra.length,rb.length]; exact hz,new_lst W (ra.append rb) p⟩
  ·exact p.elim
 ·exact p.elim
noncomputable abbrev POd (X:Cx) (e:Option Expr) (d:Ev→List Cell→R (Option Int)):Prop:=PO X e (tD X.K (fun _ _ a b=>a=b) d)
theorem PI.or {tg iter:Expr} {t t':TI} (h:PI X tg iter t) (h':PI X tg iter t'):PI X tg iter (fun σ H R=>t σ H R∨t' σ H R):=fun pins s σ H R I q=>q.elim (h pins s σ H R I) (h' pins s σ H R I)
theorem js_zipL {l m:List D} {a b:Addr} {st:List Cell→Prop} (h:∀ ρ' H' c',Wd K ρ' H' c'→Ext ρ H ρ' H'→st c'→∃ xs ys,SqL K H' a xs∧SqL K H' b ys∧Rels K ρ' H' l xs∧Rels K ρ' H' m ys):JS K ρ H ⟨List.zipWith (fun x y=>.tup [x,y]) l m,st⟩ (Itz (SqL K) a b):=by
 intro ρ' H' c' W E s i
 obtain ⟨xs,ys,q1,q2,r1,r2⟩:=h ρ' H' c' W E s
 refine ⟨fun d hd=>?_,fun e=>⟨xs,ys,q1,q2,?_⟩⟩
 ·have hd:(List.zipWith (fun x y=>D.tup [x,y]) l m)[i]? = some d:=hd
  rw [List.getElem?_zipWith] at hd
  cases e1:l[i]? with
  | none=>rw [e1] at hd; cases hd
  | some x =>
   cases e2:m[i]? with
   | none=>rw [e1,e2] at hd; cases hd
   | some y =>
    rw [e1,e2] at hd
    cases hd
    obtain ⟨v,hv,rv⟩:=r1.get e1
    obtain ⟨u,hu,ru⟩:=r2.get e2
    refine ⟨⟨xs,ys,v,u,q1,q2,hv,hu⟩,fun z H2 hz=>?_⟩
    obtain ⟨t,v',u',rfl,ht,rfl,hz⟩:=hz
    obtain ⟨z1,z2⟩:=hz xs ys q1 q2
    rw [hv] at z1; rw [hu] at z2
    cases z1; cases z2
    exact ⟨W.fresh ht,Ext.fresh W ht,t,[v,u],rfl,upd_same,v,[u],rfl,Rel.mono W (Ext.fresh W ht) _ _ rv,u,[],rfl,Rel.mono W (Ext.fresh W ht) _ _ ru,rfl⟩
 ·have e:i=(List.zipWith (fun x y=>D.tup [x,y]) l m).length:=e
  rw [List.length_zipWith] at e
  rw [r1.length,r2.length]
  omega
theorem id_zip2 {es:List Expr} {k:Nat} {pt:Pos} {a b:Expr} {da:Ev→List Cell→R (List D)} {p pos:Pos} (ha:PAd X [a,b] da) (hm:X.mg "zip"=none) (hg:Gl X "zip":=by rfl) (hs:starEach [a,b] X.env=[(false,eval a X.env),(false,eval b X.env)]:=by exact star2 rfl rfl) (hs2:starEach [b] X.env=[(false,eval b X.env)]:=by exact star1 rfl) :
  PId X (.Tuple es k pt) (.Call (.Name "zip" p) [a,b] [] pos) (dZip2 da):=((pi_zipT hg hm ha hs hs2).or (pi_zipL hg hm ha hs hs2)).imp fun σ H Q h=>by
 obtain ⟨ρ,e,c,W,Vv,p⟩:=h
 cases hd:da e c with
 | bad=>unfold dZip2 at p; rw [hd] at p; exact p.elim
 | ok xs c1 =>
  have p0:=p
  unfold dZip2 at p0
  rw [hd,R.bind_ok] at p0
  split at p0
  ·left
   refine ⟨ρ,e,c,W,Vv,?_⟩
   rw [hd]
   intro ρ1 H1 vs W1 X1 r1
   obtain ⟨y,ys,rfl,ry,z,zs,rfl,rz,rs⟩:=r1
   cases rs
   obtain ⟨a1,xs,rfl,s1,t1⟩:=ry
   obtain ⟨a2,ys,rfl,s2,t2⟩:=rz
   exact ⟨a1,a2,rfl,⟨xs,ys,SqT.of s1,SqT.of s2⟩,post.here (post.ext p0 X1) W1 (js_zip fun ρ' H' c' W' E _=>⟨xs,ys,SqT.of (tup_mono W1 E s1),SqT.of (tup_mono W1 E s2),Rels.mono W1 E _ _ t1,Rels.mono W1 E _ _ t2⟩)⟩
  ·rename_i x y _
   split at p0
   ·rename_i l m hl hm'
    right
    refine ⟨ρ,e,c,W,Vv,?_⟩
    rw [hd]
    intro ρ1 H1 vs W1 X1 r1
    obtain ⟨v,ys,rfl,ry,u,zs,rfl,rz,rs⟩:=r1
    cases rs
    obtain ⟨a1,xs,rfl,s1,t1⟩:=lstD_ok W1 ry hl
    obtain ⟨a2,ys,rfl,s2,t2⟩:=lstD_ok W1 rz hm'
    refine ⟨a1,a2,rfl,⟨xs,ys,SqL.of s1,SqL.of s2⟩,post.here (post.ext p0 X1) W1 (js_zipL fun ρ' H' c' W' E st=>?_)⟩
    obtain ⟨xs',q1,q2⟩:=lstD_later W1 W' E ry hl st.1 rfl
    obtain ⟨ys',q3,q4⟩:=lstD_later W1 W' E rz hm' st.2 rfl
    exact ⟨xs',ys',q1,q3,q2,q4⟩
   ·exact p0.elim
  ·exact p0.elim
end
section
variable (e:Ev) (c:List Cell) (a:Ev→List Cell→R D) (lo hi:Ev→List Cell→R (Option Int)) (l:Ev→List Cell→R (List D))
@[simp] theorem x_sl:dSl a lo hi e c=(a e c).bind fun x c=>(lo e c).bind fun l c=>(hi e c).bind fun u c=>match lstD c x with
 | some xs=>.ok (.lst (cutD xs l u)) c
 | none=>.bad:=rfl
@[simp] theorem x_nop:dNoP e c=.ok none c:=rfl
@[simp] theorem x_part:dPart a e c=(a e c).bind fun x c=>match x with
 | .int i=>.ok (some i) c
 | _=>.bad:=rfl
@[simp] theorem x_zip2:dZip2 l e c=(l e c).bind fun xs c=>match xs with
 | [.tup l,.tup m]=>.ok ⟨List.zipWith (fun x y=>.tup [x,y]) l m,fun _=>True⟩ c
 | [x,y]=>match lstD c x,lstD c y with
  | some l,some m=>.ok ⟨List.zipWith (fun x y=>.tup [x,y]) l m,fun c'=>stayD c x c'∧stayD c y c'⟩ c
  | _,_=>.bad
 | _=>.bad:=rfl
@[simp] theorem l_lst (x:List D):lstD c (.lst x)=some x:=rfl
end
section
variable {g:Gd} {s:Ev→List Cell→R Fl} {t:Ev→List Cell→R Bool} {a:Ev→List Cell→R D}
theorem append_here {dO da:Ev→List Cell→R D} {e:Ev} {c:List Cell} {acc:List D} {y:D} (ho:dO e (c ++ [.lst acc])=.ok (.ref c.length) (c ++ [.lst acc])) (ha:da e (c ++ [.lst acc])=.ok y (c ++ [.lst acc])) (hy:noRef y=true) (hl:acc.length + 1≤1000000) :
  dAppend dO da e (c ++ [.lst acc])=.ok .non (c ++ [.lst (acc ++ [y])]):=by
 have h1:acc.length < sizeLine:=Nat.lt_of_lt_of_le (by omega:acc.length < 1000000) (by decide)
 unfold dAppend
 rw [ho,R.bind_ok]
 dsimp only
 rw [ha,R.bind_ok]
 have e1:(c ++ [Cell.lst acc])[c.length]? = some (.lst acc):=by simp
 have e2:(c ++ [Cell.lst acc]).set c.length (.lst (acc ++ [y]))=c ++ [.lst (acc ++ [y])]:=by simp
 rw [e1]
 dsimp only
 rw [if_pos ⟨h1,hy⟩,e2]
end
end L2
namespace L2
open PySem PySem.Spec PyProof.Rows
mutual
noncomputable def datD:D→Option PyData
 | .non=>some .none
 | .bl b=>some (.bool b)
 | .int i=>some (.int i)
 | .str x=>if PyData.strOk x=true then some (.str x) else none
 | .tup l=>match datDs l with
  | some r=>some (.tuple r)
  | none=>none
 | .lst l=>match datDs l with
  | some r=>some (.list r)
  | none=>none
 | .ty _=>none
 | .ref _=>none
 | .scr _=>none
 | .fn _ _=>none
 | .exc _=>none
 | .dic=>none
 | .dct _=>none
 | .lam _ _ _ _=>none
noncomputable def datDs:List D→Option (List PyData)
 | []=>some []
 | d :: l=>match datD d,datDs l with
  | some a,some r=>some (a :: r)
  | _,_=>none
end
noncomputable def datC (c:List Cell):D→Option PyData
 | .ref k=>match c[k]? with
  | some (.lst l)=>match datDs l with
   | some r=>some (.list r)
   | none=>none
  | none=>none
 | d=>datD d
noncomputable def eqvD:D→D→List Cell→R D:=fun x y c=>match datC c x,datC c y with
 | some p,some q=>if p.depth≤64∧q.depth≤64 then .ok (.bl (p.eqv q)) c else .bad
 | _,_=>.bad
noncomputable def nevD:D→D→List Cell→R D:=fun x y c=>match datC c x,datC c y with
 | some p,some q=>if p.depth≤64∧q.depth≤64 then .ok (.bl (!p.eqv q)) c else .bad
 | _,_=>.bad
noncomputable def inD:D→D→List Cell→R D:=fun x y c=>match datC c x,datC c y with
 | some p,some (.list ys)=>if p.depth≤62 then .ok (.bl (ys.any fun z=>z.eqv p)) c else .bad
 | some p,some (.tuple ys)=>if p.depth≤62 then .ok (.bl (ys.any fun z=>z.eqv p)) c else .bad
 | _,_=>.bad
noncomputable def notInD:D→D→List Cell→R D:=fun x y c=>match datC c x,datC c y with
 | some p,some (.list ys)=>if p.depth≤62 then .ok (.bl (!ys.any fun z=>z.eqv p)) c else .bad
 | some p,some (.tuple ys)=>if p.depth≤62 then .ok (.bl (!ys.any fun z=>z.eqv p)) c else .bad
 | _,_=>.bad
section
variable {X:Cx} {pins:List (Addr×Obj)} {σ:St} {ρ:List Addr} {H:Hp} {s:Shared} {c:List Cell}
mutual
theorem rel_reads (I:Inv X pins σ H s):∀ (d:D) (v:V) (u:Value) (p:PyData),Rel X.K ρ H d v→RelV v u→datD d=some p→(∃ as,Reads s.heap u p as)∧p.canLay0=true
 | .non,v,u,p,r,ru,e=>by
  cases r; cases ru; cases e
  exact ⟨⟨_,.none⟩,by simp [PyData.canLay0]⟩
 | .bl b,v,u,p,r,ru,e=>by
  cases r; cases ru; cases e
  exact ⟨⟨_,.bool b⟩,by simp [PyData.canLay0]⟩
 | .int i,v,u,p,r,ru,e=>by
  cases r; obtain ⟨t,rfl⟩:=ru; cases e
  exact ⟨⟨_,.int i t⟩,by simp [PyData.canLay0]⟩
 | .str x,v,u,p,r,ru,e=>by
  cases r; obtain ⟨t,rfl⟩:=ru
  unfold datD at e
  split at e
  ·rename_i hx
   cases e
   exact ⟨⟨_,.str x t⟩,by simpa [PyData.canLay0] using hx⟩
  ·cases e
 | .tup l,v,u,p,r,ru,e=>by
  obtain ⟨a,xs,rfl,ha,rs⟩:=r
  cases ru
  unfold datD at e
  split at e
  ·rename_i q hq
   cases e
   obtain ⟨its,vs,⟨o,h1,h2,n,h3⟩,_⟩:=I.tuple (SqT.of ha)
   obtain ⟨⟨as,ra⟩,hc⟩:=rels_reads I l xs its q rs vs hq
   exact ⟨⟨_,.tuple h1 h2 h3 (by simpa using ra)⟩,by simpa [PyData.canLay0] using hc⟩
  ·cases e
 | .lst l,v,u,p,r,ru,e=>by
  obtain ⟨a,xs,rfl,ha,rs⟩:=r
  cases ru
  unfold datD at e
  split at e
  ·rename_i q hq
   cases e
   obtain ⟨its,vs,pl,_⟩:=I.list (SqL.of ha.1)
   obtain ⟨o,h1,h2,n,h3⟩:=pl.isList
   obtain ⟨⟨as,ra⟩,hc⟩:=rels_reads I l xs its q rs vs hq
   exact ⟨⟨_,.list h1 h2 h3 (by simpa using ra)⟩,by simpa [PyData.canLay0] using hc⟩
  ·cases e
 | .ty _,v,u,p,r,ru,e=>by simp [datD] at e
 | .ref _,v,u,p,r,ru,e=>by simp [datD] at e
 | .scr _,v,u,p,r,ru,e=>by simp [datD] at e
 | .fn _ _,v,u,p,r,ru,e=>by simp [datD] at e
 | .exc _,v,u,p,r,ru,e=>by simp [datD] at e
 | .dic,v,u,p,r,ru,e=>by simp [datD] at e
 | .dct _,v,u,p,r,ru,e=>by simp [datD] at e
 | .lam _ _ _ _,v,u,p,r,ru,e=>by simp [datD] at e
theorem rels_reads (I:Inv X pins σ H s):∀ (l:List D) (vs:List V) (us:List Value) (ps:List PyData),Rels X.K ρ H l vs→Vals vs us→datDs l=some ps→(∃ as,ReadsAll s.heap us ps as)∧PyData.canLayAll0 ps=true
 | [],vs,us,ps,r,ru,e=>by
  cases r; cases ru; cases e
  exact ⟨⟨_,.nil⟩,by simp [PyData.canLayAll0]⟩
 | d :: l,vs,us,ps,r,ru,e=>by
  obtain ⟨x,xs,rfl,r1,r2⟩:=r
  cases ru with
  | cons q1 q2 =>
   unfold datDs at e
   split at e
   ·rename_i a r e1 e2
    cases e
    obtain ⟨⟨as,ra⟩,ca⟩:=rel_reads I d x _ a r1 q1 e1
    obtain ⟨⟨bs,rb⟩,cb⟩:=rels_reads I l xs _ r r2 q2 e2
    exact ⟨⟨_,.cons ra rb⟩,by simp [PyData.canLayAll0,ca,cb]⟩
   ·cases e
end
theorem relC_reads (I:Inv X pins σ H s) (W:Wd X.K ρ H c) {d:D} {v:V} {u:Value} {p:PyData} (r:Rel X.K ρ H d v) (ru:RelV v u) (e:datC c d=some p):(∃ as,Reads s.heap u p as)∧p.canLay0=true:=by
 cases d with
 | ref k =>
  unfold datC at e
  dsimp only at e
  cases hc:c[k]? with
  | none=>rw [hc] at e; cases e
  | some cl =>
   cases cl with
   | lst l =>
    rw [hc] at e
    dsimp only at e
    split at e
    ·rename_i q hq
     cases e
     obtain ⟨a,rfl,s1⟩:=r
     cases ru
     obtain ⟨_,xs,hx,rs⟩:=W.cel k a _ s1 hc
     obtain ⟨its,vs,pl,_⟩:=I.list (SqL.of hx)
     obtain ⟨o,h1,h2,n,h3⟩:=pl.isList
     obtain ⟨⟨as,ra⟩,hc⟩:=rels_reads I l xs its q rs vs hq
     exact ⟨⟨_,.list h1 h2 h3 (by simpa using ra)⟩,by simpa [PyData.canLay0] using hc⟩
    ·cases e
 | non=>exact rel_reads I _ v u p r ru e
 | bl b=>exact rel_reads I _ v u p r ru e
 | int b=>exact rel_reads I _ v u p r ru e
 | str b=>exact rel_reads I _ v u p r ru e
 | tup b=>exact rel_reads I _ v u p r ru e
 | lst b=>exact rel_reads I _ v u p r ru e
 | ty b=>exact rel_reads I _ v u p r ru e
 | scr b=>exact rel_reads I _ v u p r ru e
 | fn b n=>exact rel_reads I _ v u p r ru e
 | exc b=>exact rel_reads I _ v u p r ru e
 | dct b=>exact rel_reads I _ v u p r ru e
 | dic=>exact rel_reads I _ v u p r ru e
 | lam k y ns l=>exact rel_reads I _ v u p r ru e
theorem od_nev (hu:X.A.units + 64 < cLine):OpR X (compareOp .NotEq) (r2 X.K nevD):=by
 intro pins s σ H v u vv uu Q I rv ru h
 obtain ⟨ρ,x,y,c,W,rx,ry,p⟩:=h
 unfold nevD at p
 split at p
 ·rename_i a b ha hb
  split at p
  ·rename_i hd
   obtain ⟨⟨as,ra⟩,ca⟩:=relC_reads I W rx rv ha
   obtain ⟨⟨bs,rb⟩,cb⟩:=relC_reads I W ry ru hb
   exact PySem.SeqAt.compareNe_shaped ra rb (by simp [PySem.SeqAt.shaped,ca,hd.1]) (by simp [PySem.SeqAt.shaped,cb,hd.2]) hu ⟨.bl _,H,I,rfl,p.here W rfl⟩
  ·exact p.elim
 ·exact p.elim
theorem in_room {A:Around} {p:PyData} {ys:List PyData} (hu:A.units + 64 < cLine) (hd:p.depth≤62):A.units + 1 + min (PyData.depthAll ys) p.depth < cLine:=by
 have:=Nat.min_le_right (PyData.depthAll ys) p.depth
 omega
theorem od_in (hu:X.A.units + 64 < cLine):OpR X (compareOp .In) (r2 X.K inD):=by
 intro pins s σ H v u vv uu Q I rv ru h
 obtain ⟨ρ,x,y,c,W,rx,ry,p⟩:=h
 unfold inD at p
 split at p
 ·rename_i a ys ha hb
  split at p
  ·rename_i hd
   obtain ⟨⟨as,ra⟩,ca⟩:=relC_reads I W rx rv ha
   obtain ⟨⟨bs,rb⟩,cb⟩:=relC_reads I W ry ru hb
   exact PySem.SeqAt.in_list_reads rb ra (by simpa [PyData.canLay0] using cb) ca (in_room hu hd) ⟨.bl _,H,I,rfl,p.here W rfl⟩
  ·exact p.elim
 ·rename_i a ys ha hb
  split at p
  ·rename_i hd
   obtain ⟨⟨as,ra⟩,ca⟩:=relC_reads I W rx rv ha
   obtain ⟨⟨bs,rb⟩,cb⟩:=relC_reads I W ry ru hb
   exact PySem.SeqAt.in_tuple_reads rb ra (by simpa [PyData.canLay0] using cb) ca (in_room hu hd) ⟨.bl _,H,I,rfl,p.here W rfl⟩
  ·exact p.elim
 ·exact p.elim
end
theorem hu64 {A:Around} {k:Nat} (hr:Room k A):A.units + 64 < cLine:=by have:=hr.un; omega
section
variable (c:List Cell)
@[simp] theorem dat_non:datD .non=some .none:=by simp only [datD]
@[simp] theorem dat_bl (b:Bool):datD (.bl b)=some (.bool b):=by simp only [datD]
@[simp] theorem dat_int (i:Int):datD (.int i)=some (.int i):=by simp only [datD]
@[simp] theorem dats_nil:datDs []=some []:=by simp only [datDs]
end
end L2
namespace L2
open PySem PySem.Spec PyProof.Rows
noncomputable def Flies (K:PySem.W.Frag) (H:Hp) (l:List Env) (x:Str) (h₀:Heap) (H₀:Hp) (e:Value) (h:Heap):Prop :=
 ∃ ea C t B,e=.ref ea∧PySem.W.nsIn K mainGlobals x=some (some (.ref C))∧Heap.FlyingW B l ea (.ref C) (.ref t) h∧(∀ b u,H b=some u→∃ o,B.get? b=some o) ∧
  (∀ b o,h₀.get? b=some o→b∉frs l→∃ o',B.get? b=some o')∧∀ b o,h₀.get? b=some o→H₀ b=none→b∉frs l→B.get? b=some o
noncomputable def CXE (P:Program) (w:World) (K:PySem.W.Frag):CXT:=fun outer H s E e s'=>∃ x H',s'.os=s.os∧AllBare s'.gens∧Un (frs outer) [] H H' s.heap s'.heap∧HOk P w H' s'.heap∧Flies K H' outer x s.heap H e s'.heap∧E (.str x 0) none H'
noncomputable def AccA (X:Cx) (x:Str) (H2:Hp):Prop :=
 ∀ pins σ H1 s1 e s2,Inv X pins σ H1 s1→s2.os=s1.os→AllBare s2.gens→Un (frs X.stack) [] H1 H2 s1.heap s2.heap→HOk X.prog X.w H2 s2.heap→Flies X.K H2 X.stack x s1.heap H1 e s2.heap→X.xe e s2
noncomputable def AccX (X:Cx) (x:Str) (H2:Hp):Prop:=AccA X x H2 ∧
 (∀ pins σ s ea C args h',Inv X pins σ H2 s→PySem.W.nsIn X.K mainGlobals x=some (some (.ref C))→Heap.MadeExcOf s.heap h' ea (.ref C) args→X.xe (.ref ea) { s with heap:=h' })
theorem pass_accA {X:Cx}:Passes (CXE X.prog X.w X.K) X fun v _ H'=>∀ x,v=.str x 0→AccA X x H':=by
 intro pins σ H s e s' I h
 obtain ⟨x,H',h1,h2,h3,h4,h5,h6⟩:=h
 exact h6 x rfl pins σ H s e s' I h1 h2 h3 h4 h5
theorem objOk_get {P:Program} {w:World} {H:Hp} {h:Heap} {a:Addr} {o:HO} (x:ObjOk P w H h a o):∃ u,h.get? a=some u:=by
 cases o with
 | lst xs=>obtain ⟨_,_,_,_,e⟩:=x; exact ⟨_,e⟩
 | tup xs=>obtain ⟨_,_,_,_,e,_⟩:=x; exact ⟨_,e⟩
 | dK kvs=>obtain ⟨_,_,_,_,o,_,_,e,_⟩:=x; exact ⟨_,e⟩
 | dT kvs=>obtain ⟨_,_,_,_,o,_,_,e,_⟩:=x; exact ⟨_,e⟩
 | set S n=>obtain ⟨o,_,_,_,e,_⟩:=x; exact ⟨_,e⟩
 | ins C dx fs=>obtain ⟨_,_,_,e,_⟩:=x; exact ⟨_,e⟩
 | own y=>obtain ⟨_,e⟩:=x; exact ⟨_,e⟩
 | xd fs=>obtain ⟨_,⟨_,_,_,e,_⟩,_⟩:=x; exact ⟨_,e⟩
 | rng lo hi=>obtain ⟨_,_,_,e⟩:=x; exact ⟨_,e⟩
 | frz ob u=>obtain ⟨e,_⟩:=x; exact ⟨_,e⟩
 | tbl ps=>exact ⟨_,(show h.get? a=some _ from x)⟩
 | met f y=>exact ⟨_,(show h.get? a=some _ from x)⟩
 | ext φ=>obtain ⟨_,⟨_,e⟩,_⟩:=x; exact ⟨_,e⟩
section
variable {P:Program} {w:World} {K:PySem.W.Frag} {mg:Str→Option Value} {base:Heap} {N:List Str} {qual:Str} {scope:Scope} {f:Addr} {cd:Value} {A:Around} {outer:List Env} {s:Shared} {H:Hp} {E:XK}
theorem hok_kept {H:Hp} {h h' B:Heap} (x:HOk P w H h) (st:B.StaysIn h') (sh:∀ b o,B.get? b=some o→h.get? b=some o) (trk:∀ b u,H b=some u→∃ o,B.get? b=some o):HOk P w H h':=fun a o e=>by
 refine (x a o e).stay (fun b u hb q=>?_) (fun _ q=>q) fun _ _ q=>q
 have hb':∃ u',H b=some u':=by
  rcases hb with rfl | hb
  ·exact ⟨_,e⟩
  ·exact ⟨_,hb⟩
 obtain ⟨u',hu⟩:=hb'
 obtain ⟨o',ho⟩:=trk b u' hu
 have:=sh b o' ho
 rw [q] at this
 cases this
 exact st b _ ho
theorem leave_made {pins:List (Addr×Obj)} {σ:St} {H1:Hp} {s1:Shared} {x:Str} {C ea:Addr} {args:List Value} {h':Heap} (I:Inv (cxOf (CXE P w K) P w K mg base N qual scope f cd A outer s H E) pins σ H1 s1) (hn:PySem.W.nsIn K mainGlobals x=some (some (.ref C)))
  (hx:Heap.MadeExcOf s1.heap h' ea (.ref C) args) (hE:E (.str x 0) none H1):(cxOf (CXE P w K) P w K mg base N qual scope f cd A outer s H E).xe (.ref ea) { s1 with heap:=h' }:=by
 have hfr:(A.deeper (envOfC qual scope s.heap.objs.size f cd)).frames=some (envOfC qual scope s.heap.objs.size f cd :: outer):=I.ok.frames
 have hst:=I.stack
 have hsF:=I.stkFree
 have hb:=I.base
 have hfs:frs (envOfC qual scope s.heap.objs.size f cd :: outer)=s.heap.objs.size :: frs outer:=rfl
 have nex:∀ b:Addr,b∉(cxOf (CXE P w K) P w K mg base N qual scope f cd A outer s H E).ex:=fun b z=>absurd (show b∈([]:List Addr) from z) (by simp)
 let as:=frs (envOfC qual scope s.heap.objs.size f cd :: outer)
 have hin:∀ env∈(envOfC qual scope s.heap.objs.size f cd :: outer),∀ a,env.frame=some a→a∈as:=fun env he b hb=>List.mem_filterMap.mpr ⟨env,he,hb⟩
 have hF:s1.heap.FunFrames (PySem.W.hideAll s1.heap as) (envOfC qual scope s.heap.objs.size f cd :: outer):=PySem.W.funFrames_hide hst hin
 show wpAny (model P w) (A.deeper (envOfC qual scope s.heap.objs.size f cd)) (leaving (envOfC qual scope s.heap.objs.size f cd) (.ref ea)) _ _ _
 refine wpAny_leaves_madeW (base:=PySem.W.hideAll s1.heap as) hfr rfl (fun b o q=>PySem.W.of_hideAll _ q) hF hx fun h'' t fl _ _ up=>?_
 have inB:∀ b o,s1.heap.get? b=some o→b∉as→(PySem.W.hideAll s1.heap as).get? b=some o:=fun b o q n=>PySem.W.hideAll_get _ q n
 have st:(PySem.W.hideAll s1.heap as).StaysIn h'':=fl.1
 have old:∀ b o,s.heap.get? b=some o→b∉frs outer→b∉as:=fun b o q n m=>by
  have m:b∈s.heap.objs.size :: frs outer:=m
  rcases List.mem_cons.mp m with e | m
  ·exact absurd (Heap.lt_size q) (by rw [e]; exact Nat.lt_irrefl _)
  ·exact n m
 have trk:∀ b u,H1 b=some u→∃ o,(PySem.W.hideAll s1.heap as).get? b=some o:=fun b u e=>by
  have hna:b∉as:=fun m=>by rw [hsF b m] at e; cases e
  have hlt:=(I.hok b u e).lt
  obtain ⟨o,ho⟩:∃ o,s1.heap.get? b=some o:=by
   have:=(I.hok b u e)
   exact objOk_get this
  exact ⟨o,inB b o ho hna⟩
 refine ⟨x,H1,I.os,I.bare,⟨fun b o q n nf _=>?_,fun b o q n hf _=>?_,fun b o q n hx'=>hb.free b o q n hx',fun b o q hx'=>?_,hb.tups,hb.frzs,hb.tbls⟩,hok_kept I.hok st (fun b o q=>PySem.W.of_hideAll _ q) trk,⟨ea,C,t,_,rfl,hn,fl,trk,fun b o q n=>?_,fun b o q n nf=>?_⟩,hE⟩
 ·exact st b o (inB b o (hb.keep b o q n nf (nex b)) (old b o q nf))
 ·obtain ⟨sl,e1⟩:=hb.slot b o q n hf (nex b)
  have hm:b∈as:=List.mem_cons_of_mem _ hf
  obtain ⟨_,o2,ho2,hd2⟩:=hst.mem hm
  rw [e1] at ho2; cases ho2
  obtain ⟨sl2,e2⟩:=up b _ (hx.keeps _ _ e1) hd2
  exact ⟨sl2,e2⟩
 ·obtain ⟨o1,e1⟩:=hb.there b o q (nex b)
  by_cases hm:b∈as
  ·obtain ⟨_,o2,ho2,hd2⟩:=hst.mem hm
   obtain ⟨sl2,e2⟩:=up b _ (hx.keeps _ _ ho2) hd2
   exact ⟨_,e2⟩
  ·exact ⟨_,st b _ (inB b _ e1 hm)⟩
 ·obtain ⟨o1,e1⟩:=hb.there b o q (nex b)
  exact ⟨o1,inB b o1 e1 (old b o q n)⟩
 ·exact inB b o (hb.keep b o q n nf (nex b)) (old b o q nf)
theorem leave_on {pins:List (Addr×Obj)} {σ:St} {H1 H2:Hp} {s1 s2:Shared} {x:Str} {e:Value} (I:Inv (cxOf (CXE P w K) P w K mg base N qual scope f cd A outer s H E) pins σ H1 s1) (hos:s2.os=s1.os) (hba:AllBare s2.gens)
  (un:Un (frs (envOfC qual scope s.heap.objs.size f cd :: outer)) [] H1 H2 s1.heap s2.heap) (hok:HOk P w H2 s2.heap) (fly:Flies K H2 (envOfC qual scope s.heap.objs.size f cd :: outer) x s1.heap H1 e s2.heap) (hE:E (.str x 0) none H2) :
  (cxOf (CXE P w K) P w K mg base N qual scope f cd A outer s H E).xe e s2:=by
 obtain ⟨ea,C,t,B,rfl,hn,fl,trk,old,eq⟩:=fly
 have hfr:(A.deeper (envOfC qual scope s.heap.objs.size f cd)).frames=some (envOfC qual scope s.heap.objs.size f cd :: outer):=I.ok.frames
 have hst:=I.stack
 have hb:=I.base
 have nex:∀ b:Addr,b∉(cxOf (CXE P w K) P w K mg base N qual scope f cd A outer s H E).ex:=fun b z=>absurd (show b∈([]:List Addr) from z) (by simp)
 let as:=frs (envOfC qual scope s.heap.objs.size f cd :: outer)
 have olds:∀ b o,s.heap.get? b=some o→b∉frs outer→b∉as:=fun b o q n m=>by
  have m:b∈s.heap.objs.size :: frs outer:=m
  rcases List.mem_cons.mp m with e | m
  ·exact absurd (Heap.lt_size q) (by rw [e]; exact Nat.lt_irrefl _)
  ·exact n m
 have sh:∀ b o,B.get? b=some o→s2.heap.get? b=some o:=fl.1
 have fr2:=fl.2.2.1
 show wpAny (model P w) (A.deeper (envOfC qual scope s.heap.objs.size f cd)) (leaving (envOfC qual scope s.heap.objs.size f cd) (.ref ea)) _ _ _
 refine wpAny_leaves_onW hfr rfl fl fun h'' fl2 up=>?_
 have st:B.StaysIn h'':=fl2.1
 have I':s2.os=s.os:=hos.trans I.os
 have frame:∀ b,b∈as→∃ o,s2.heap.get? b=some o∧∀ vs,o.data≠.fields vs:=fun b hm=>(fr2.mem hm).2
 refine ⟨x,H2,I',hba,⟨fun b o q n nf _=>?_,fun b o q n hf _=>?_,fun b o q n _=>?_,fun b o q _=>?_,fun b xs q=>un.tups b xs (hb.tups b xs q),fun b o u q=>un.frzs b o u (hb.frzs b o u q),fun b ps q=>?_⟩,hok_kept hok st sh trk,⟨ea,C,t,B,rfl,hn,fl2,trk,fun b o q n=>?_,fun b o q n nf=>?_⟩,hE⟩
 ·exact st b o (eq b o (hb.keep b o q n nf (nex b)) (hb.free b o q n (nex b)) (olds b o q nf))
 ·obtain ⟨sl,e1⟩:=hb.slot b o q n hf (nex b)
  have hm:b∈as:=List.mem_cons_of_mem _ hf
  obtain ⟨sl2,e2⟩:=un.slot b _ e1 (hb.free b o q n (nex b)) hm (by simp)
  obtain ⟨o3,ho3,hd3⟩:=frame b hm
  rw [e2] at ho3; cases ho3
  obtain ⟨sl4,e4⟩:=up b _ e2 hd3
  exact ⟨sl4,e4⟩
 ·obtain ⟨o1,e1⟩:=hb.there b o q (nex b)
  exact un.free b o1 e1 (hb.free b o q n (nex b)) (by simp)
 ·obtain ⟨o1,e1⟩:=hb.there b o q (nex b)
  by_cases hm:b∈as
  ·obtain ⟨o3,ho3,hd3⟩:=frame b hm
   obtain ⟨sl4,e4⟩:=up b _ ho3 hd3
   exact ⟨_,e4⟩
  ·obtain ⟨o2,e2⟩:=old b o1 e1 hm
   exact ⟨_,st b _ e2⟩
 ·obtain ⟨m1,q1⟩:=hb.tbls b ps q
  obtain ⟨m2,q2⟩:=un.tbls b _ q1
  exact ⟨m1 ++ m2,by rw [q2,Array.append_assoc]⟩
 ·obtain ⟨o1,e1⟩:=hb.there b o q (nex b)
  exact old b o1 e1 (olds b o q n)
 ·exact eq b o (hb.keep b o q n nf (nex b)) (hb.free b o q n (nex b)) (olds b o q nf)
theorem acc_def {x:Str} {H2:Hp} (hE:E (.str x 0) none H2):AccX (cxOf (CXE P w K) P w K mg base N qual scope f cd A outer s H E) x H2 :=
 ⟨fun pins σ H1 s1 e s2 I h1 h2 h3 h4 h5=>leave_on I h1 h2 h3 h4 h5 hE,fun pins σ s1 ea C args h' I hn hx=>leave_made I hn hx hE⟩
end
section
variable {X:Cx}
theorem ps_raise {x:Str} {C:Addr} {B newId initId:String} {bm:List Value} {txt:Str} {j:Nat} {np cpos pos tpos:Pos} {t:TS} (hn:PySem.W.nsIn X.K mainGlobals x=some (some (.ref C))) (hm:X.mg x=some (.ref C)) (hO:∀ h,X.K.In h→OwnCls x C bm newId X.mg h) (FB:ExcBaseFacts B newId initId bm) (hc:X.calm=true)
  (ht:∀ D σ H,t D σ H→AccX X x H) (hg:Gl X x:=by rfl) (hd:(x == ("__debug__":Str))=false:=by decide):PS X (.Raise (some (.Call (.Name x np) [.Constant (.str txt) j tpos] [] cpos)) none pos) t:=by
 intro pins s σ H D I h
 have acc:=ht D σ H h
 obtain ⟨tl,N,nm,q,bs,hdct,sn,sub,ab,col,dd,k0,k1,k2,k3,k5,mN,hC,hN,hni,T⟩:=(hO s.heap I.kIn).obj
 refine wpAny_Raise_call_subT (C:=C) (nm:=nm) (q:=q) (N:=N) (bs:=bs) (bm:=tl) (hdct:=hdct) (sn:=sn) (sub:=sub) (ab:=ab) (col:=col) (dd:=dd) (k0:=k0) (k1:=k1) (k2:=k2) (k3:=k3) (k5:=k5)
  FB (mN:=mN) (T.hasType FB.hasBase) (I.ok.hd hc) (by rfl) hni (ld_glob I hg hm ⟨rfl,?_⟩ hd)
 have hs:starEach [Expr.Constant (.str txt) j tpos] X.env=[(false,eval (.Constant (.str txt) j tpos) X.env)]:=by simp only [starEach]
 rw [hs]
 refine Calls.evalArgs_plain ?_
 show wpAny _ _ (spliced ((false,eval (Expr.Constant (.str txt) j tpos) X.env) :: [])) _ _ _
 refine Calls.spliced_cons (Calls.Constant_str ?_)
 refine Calls.spliced_nil ?_
 refine ⟨rfl,by show 1≤sizeLine; decide,hC,hN,T,fun h' e hx=>?_⟩
 exact acc.2 pins σ _ e C _ h' (I.tok _) hn hx
end
end L2
namespace L2
open PySem PySem.Spec PyProof.Rows
noncomputable abbrev Xd:=Ev→List Cell→R Str
noncomputable def tXD (X:Cx) (P:Str→Hp→Prop) (d:Xd):St→Hp→Prop:=fun σ H=>tD X.K (fun _ _ a b=>a=b) d σ H P
noncomputable abbrev PSx (X:Cx) (P:Str→Hp→Prop) (st:Stmt) (d:Xd):Prop:=PS X st fun _ σ H=>tXD X P d σ H
noncomputable abbrev PSsx (X:Cx) (P:Str→Hp→Prop) (st:List Stmt) (d:Xd):Prop:=PSs X st fun _ σ H=>tXD X P d σ H
noncomputable abbrev PEx (X:Cx) (P:Str→Hp→Prop) (e:Expr) (d:Xd):Prop:=PE X e fun σ H _=>tXD X P d σ H
noncomputable def spX (K:PySem.W.Frag) (n:Nat) (m:List D→List Cell→R Str):Sp:=fun vs H _ E=>∃ ρ xs c,Wd K ρ H c∧Rels K ρ H xs vs∧xs.length=n∧post K (fun _ _ a b=>a=b) (m xs c) ρ H fun x H'=>E (.str x 0) none H'
noncomputable def fnX (n:Nat) (d:Xd):List D→List Cell→R Str:=fun xs c=>(d (startD n xs) c).bind fun x c'=>.ok x (c'.take c.length)
noncomputable def xOr (a b:Xd):Xd:=fun e c=>match a e c with
 | .ok x c'=>.ok x c'
 | .bad=>b e c
noncomputable def xSeq (t:Ev→List Cell→R Fl) (u:Xd):Xd:=fun e c=>(t e c).bind fun f c=>match f with
 | .nx e=>u e c
 | _=>.bad
noncomputable def xIf (t:Ev→List Cell→R Bool) (a b:Xd):Xd:=fun e c=>(t e c).bind fun k c=>if k=true then a e c else b e c
noncomputable def xCls (x:Str):Xd:=fun _ c=>.ok x c
noncomputable def xBad:Xd:=fun _ _=>.bad
noncomputable def xCall (n:Nat) (m:List D→List Cell→R Str) (a:Ev→List Cell→R (List D)):Xd:=fun e c=>(a e c).bind fun xs c=>if xs.length=n then m xs c else .bad
section
variable {X:Cx} {P:Str→Hp→Prop} {st:Stmt} {sts rest:List Stmt} {e:Expr} {a b d u:Xd} {t:Ev→List Cell→R Fl} {pos:Pos}
theorem PS.nox {st:Stmt} {t:TS} (h:PS X.nox st t):PS X st t:=fun pins s σ H D I hw =>
 wpAny_mono (h pins s σ H D (I.wish _) hw) (fun _ _ q=>q.unwish) fun _ _ z=>False.elim z
theorem PA.nox {es:List Expr} {t:TA} (h:PA X.nox es t):PA X es t:=fun pos pins s σ H Q I hw =>
 wpAny_mono (h pos pins s σ H Q (I.wish _) hw) (fun _ _ ⟨v,H',I',r,q⟩=>⟨v,H',I'.unwish,r,q⟩) fun _ _ z=>False.elim z
theorem xd_or (ha:PSsx X P sts a) (hb:PSsx X P sts b):PSsx X P sts (xOr a b):=fun pins s σ H D I h=>by
 obtain ⟨ρ,e,c,W,V,p⟩:=h
 unfold xOr at p
 cases q:a e c with
 | ok x c' =>
  rw [q] at p
  exact ha pins s σ H D I ⟨ρ,e,c,W,V,by rw [q]; exact p⟩
 | bad =>
  rw [q] at p
  exact hb pins s σ H D I ⟨ρ,e,c,W,V,p⟩
theorem xd_none:PSsx X P sts xBad:=fun pins s σ H D I h=>by
 obtain ⟨ρ,e,c,W,V,p⟩:=h
 exact p.elim
theorem pss_false:PSs X sts fun _ _ _=>False:=fun _ _ _ _ _ _ h=>h.elim
theorem xd_here (h:PSx X P st d):PSsx X P (st :: rest) d:=(pss_cons h (pss_false (sts:=rest))).imp fun Z σ H q=>q
theorem xd_cons (h1:PSd X.nox st t) (h2:PSsx X P rest u):PSsx X P (st :: rest) (xSeq t u):=(pss_cons (PS.nox h1) h2).imp fun Z σ H h=>by
 obtain ⟨ρ,e,c,W,V,p⟩:=h
 refine ⟨ρ,e,c,W,V,post.bind p fun f c1 ρ1 H1 b _ W1 X1 r1 p1=>?_⟩
 cases f with
 | nx e1=>obtain ⟨σ1,rfl,V1⟩:=r1; exact ⟨ρ1,e1,c1,W1,V1,p1⟩
 | rt d=>exact p1.elim
 | bk e1=>exact p1.elim
 | ct e1=>exact p1.elim
theorem xd_if {c':Expr} {A B:List Stmt} {tc:Ev→List Cell→R Bool} (hc:PTd X.nox c' tc) (ha:PSsx X P A a) (hb:PSsx X P B b):PSx X P (.If c' A B pos) (xIf tc a b):=(ps_if (PT.nox hc) ha hb).imp fun Z σ H h=>by
 obtain ⟨ρ,e,c,W,V,p⟩:=h
 refine ⟨ρ,e,c,W,V,post.bind p fun x c1 ρ1 H1 v _ W1 X1 r1 p1=>?_⟩
 cases r1
 cases x with
 | true=>exact iteT ⟨ρ1,e,c1,W1,V.mono W X1,p1⟩
 | false=>exact iteF ⟨ρ1,e,c1,W1,V.mono W X1,p1⟩
theorem xd_expr (he:PEx X P e d) (hs:swapsWith e none pos.line X.env=pure false:=by rfl):PSx X P (.Expr e pos) d:=(ps_expr he hs).imp fun Z σ H h=>h
theorem xd_ret (he:PEx X P e d):PSx X P (.Return (some e) pos) d:=(ps_ret he).imp fun Z σ H h=>h
theorem xd_set {i:Nat} {x:Str} {pos':Pos} (he:PEx X P e d) (hN:X.N.Nodup:=by decide +kernel) (hi:X.N[i]? = some x:=by rfl) (hx:Loc X.env.scope x:=by first | exact Or.inl rfl | exact Or.inr rfl) (hs:swapsWith e (some (.Name x pos')) pos.line X.env=pure false:=by rfl)
  (hf:X.fn x=true∨X.env.scope.names.lookup x=some .local:=by first | exact .inl rfl | exact .inr rfl):PSx X P (.Assign [.Name x pos'] e pos) d:=(ps_set hN hi hx he hs hf).imp fun Z σ H h=>h
structure XCls (K:PySem.W.Frag) (mg:Str→Option Value) (x:Str) (bm:List Value) (newId:String):Prop where
 ex:∃ C,PySem.W.nsIn K mainGlobals x=some (some (.ref C))∧mg x=some (.ref C)∧∀ h,K.In h→OwnCls x C bm newId mg h
theorem xd_raise {x:Str} {B newId initId:String} {bm:List Value} {txt:Str} {j:Nat} {np cpos tpos:Pos} (hC:XCls X.K X.mg x bm newId) (FB:ExcBaseFacts B newId initId bm) (hc:X.calm=true:=by rfl) (hg:Gl X x:=by rfl) (hd:(x == ("__debug__":Str))=false:=by decide) :
  PSx X (AccX X) (.Raise (some (.Call (.Name x np) [.Constant (.str txt) j tpos] [] cpos)) none pos) (xCls x):=by
 obtain ⟨C,hn,hm,hO⟩:=hC.ex
 refine ps_raise hn hm hO FB hc (fun Z σ H h=>?_) hg hd
 obtain ⟨ρ,e,c,W,V,p⟩:=h
 exact p.here W rfl
theorem xd_call {x:Str} {st:Stmt} {ps:List Str} {f:Addr} {fd:FuncData} {k n:Nat} {m:List D→List Cell→R Str} {e:Expr} {es:List Expr} {da:Ev→List Cell→R (List D)} {p:Pos} (D:Def X.K X.mg x st ps f fd) (G:FnOk X.prog X.w X.K X.mg X.base (CXE X.prog X.w X.K) k f fd ps (spX X.K n m)) (hr:Room k X.A) (ha:PAd X.nox (e :: es) da) (hx:∀ x H',P x H'→AccA X x H':=by first | exact fun _ _ h=>h.1 | exact fun _ _ h=>h) (hg:Gl X x:=by rfl)
  (hdb:(x == ("__debug__":Str))=false:=by decide) (he:starEach (e :: es) X.env=(false,eval e X.env) :: starEach es X.env:=by exact starE rfl) (hpl:(backTo pos (starEach es X.env)).any (·.1)=false:=by exact starAny rfl) :
  PEx X P (.Call (.Name x p) (e :: es) [] pos) (xCall n m da) :=
 (pe_call G hr hg D.at' D.fn.kp D.bd .nil (pass_accA (X:=X)) (PA.nox ha) hdb he hpl).imp fun σ H Q h=>by
  obtain ⟨ρ,e,c,W,V,q⟩:=h
  refine ⟨ρ,e,c,W,V,post.bind q fun xs c1 ρ1 H1 vs _ W1 X1 r1 p1=>?_⟩
  split at p1
  ·rename_i hl
   refine ⟨ρ1,xs,c1,W1,by rw [List.append_nil]; exact r1,hl,post.mono p1 fun x H' acc y hy=>?_⟩
   cases hy
   exact hx _ _ acc
  ·exact p1.elim
end
section
variable {P:Program} {w:World} {K:PySem.W.Frag} {mg:Str→Option Value} {base:Heap}
theorem fn_raises {x qual:Str} {st:Stmt} {f:Addr} {fd:FuncData} {N ps:List Str} {k n m:Nat} {d:Xd} (F:Fun K x qual st f fd) (S:FnScope N ps (defScope st)) (hN:N.length=n) (hm:ps.length=m)
  (hb:∀ (cdv:Value) (A:Around) (outer:List Env) (s:Shared) (H:Hp) (E:XK),Room k (A.deeper (envOfC qual (defScope st) s.heap.objs.size f cdv))→PSsx (cxOf (CXE P w K) P w K mg base N qual (defScope st) f cdv A outer s H E) (AccX (cxOf (CXE P w K) P w K mg base N qual (defScope st) f cdv A outer s H E)) (defBody st) d) :
  FnOk P w K mg base (CXE P w K) (k + 1) f fd ps (spX K m (fnX n d)):=by
 subst hN; subst hm
 obtain ⟨oc,od,kV,doc,pm,an,cdv,ct,osl,rfl,lk,hcd⟩:=F.ex
 refine fn_of lk hcd S (fun vs H Q E h=>?_) fun A outer s H vs Q E hr h=>⟨_,hb cdv A outer s H E hr,?_⟩
 ·obtain ⟨ρ,xs,c,W,r,hl,p⟩:=h
  exact r.length.trans hl
 ·obtain ⟨ρ,xs,c,W,r,hl,p⟩:=h
  refine ⟨ρ,startD N.length xs,c,W,REnv.start r,post.bind p fun y c1 ρ1 H1 b _ W1 X1 r1 p1=>?_⟩
  cases r1
  refine acc_def ?_
  have hn:=Ext.len W W1 X1
  have p0:=p
  unfold fnX at p0
  rename_i he
  rw [he,R.bind_ok] at p0
  exact p0 (ρ1.take c.length) H1 _ (W1.cut hn) (X1.cut (Nat.le_of_eq W.len)) rfl
end
end L2
namespace L2
open PySem PySem.Spec PyProof.Rows
noncomputable abbrev Cx.held (X:Cx) (e:Value):Cx:={ X with A:=X.A.mark (some e),calm:=false,xe:=fun _ _=>False }
noncomputable abbrev Cx.tried (X:Cx) (W:Value→Shared→Prop) (pn:List (Addr×Obj)):Cx:={ X with xe:=W,pn:=pn }
section
variable {X:Cx} {pins pins':List (Addr×Obj)} {σ:St} {H H1 H2:Hp} {s s1 s2:Shared}
theorem Cx.Ok.held (ok:X.Ok) (e:Value):(X.held e).Ok :=
 ⟨ok.mod,ok.kind,ok.glob,ok.blt,ok.above,ok.inj,ok.has,ok.cab,(fun z=>by cases z),ok.frames,ok.stk,ok.exf,ok.bs,ok.bsz,ok.noex,ok.exfs,ok.funs,ok.frf⟩
theorem Cx.Ok.tried (ok:X.Ok) (W:Value→Shared→Prop) (pn:List (Addr×Obj)):(X.tried W pn).Ok :=
 ⟨ok.mod,ok.kind,ok.glob,ok.blt,ok.above,ok.inj,ok.has,ok.cab,ok.hd,ok.frames,ok.stk,ok.exf,ok.bs,ok.bsz,ok.noex,ok.exfs,ok.funs,ok.frf⟩
theorem Cx.Ok.untried {W:Value→Shared→Prop} {pn:List (Addr×Obj)} (ok:(X.tried W pn).Ok):X.Ok :=
 ⟨ok.mod,ok.kind,ok.glob,ok.blt,ok.above,ok.inj,ok.has,ok.cab,ok.hd,ok.frames,ok.stk,ok.exf,ok.bs,ok.bsz,ok.noex,ok.exfs,ok.funs,ok.frf⟩
theorem Inv.held (I:Inv X pins σ H s) (e:Value):Inv (X.held e) pins σ H s:=⟨I.ok.held e,I.os,I.bare,I.base,I.loc,I.cell,I.free,I.freeC,I.pin,I.hok,I.len⟩
theorem Inv.unheld {e:Value} (I:Inv (X.held e) pins σ H s) (ok:X.Ok):Inv X pins σ H s:=⟨ok,I.os,I.bare,I.base,I.loc,I.cell,I.free,I.freeC,I.pin,I.hok,I.len⟩
theorem Inv.tried (I:Inv X pins σ H s) (W:Value→Shared→Prop):Inv (X.tried W (X.pn ++ pins)) [] σ H s:=⟨I.ok.tried W _,I.os,I.bare,I.base,I.loc,I.cell,I.free,I.freeC,fun p hp=>I.pin p (by simpa using hp),I.hok,I.len⟩
theorem Inv.untried {W:Value→Shared→Prop} (I:Inv (X.tried W (X.pn ++ pins)) pins' σ H s):Inv X pins σ H s:=⟨I.ok.untried,I.os,I.bare,I.base,I.loc,I.cell,I.free,I.freeC,fun p hp=>I.pin p (List.mem_append_left _ hp),I.hok,I.len⟩
theorem fs_stack (ok:X.Ok) {b:Addr} (h:b∈X.fs):b∈frs X.stack:=by
 rcases ok.stk with e | ⟨e,hf⟩
 ·rw [e]; exact h
 ·rw [e]
  unfold frs
  rw [List.filterMap_cons,hf]
  exact List.mem_cons_of_mem _ h
theorem land {ea C:Addr} {t:Addr} {B h':Heap} (I:Inv X pins σ H1 s1) (hos:s2.os=s1.os) (hba:AllBare s2.gens) (un:Un (frs X.stack) [] H1 H2 s1.heap s2.heap) (hok:HOk X.prog X.w H2 s2.heap)
  (fl0:Heap.FlyingW B X.stack ea (.ref C) (.ref t) s2.heap) (fl:Heap.FlyingW B X.stack ea (.ref C) (.ref t) h') (up:s2.heap.UpToSlots h') (trk:∀ b u,H2 b=some u→∃ o,B.get? b=some o)
  (old:∀ b o,s1.heap.get? b=some o→b∉frs X.stack→∃ o',B.get? b=some o') (eq:∀ b o,s1.heap.get? b=some o→H1 b=none→b∉frs X.stack→B.get? b=some o) :
  H2 ea=none∧Inv X pins σ (upd H2 ea (.ext (excP ea C))) { s2 with heap:=h' }:=by
 have st:B.StaysIn h':=fl.1
 have hne:B.get? ea=none:=fl.2.1
 have hfree:H2 ea=none:=by
  cases q:H2 ea with
  | none=>rfl
  | some u=>obtain ⟨o,ho⟩:=trk ea u q; rw [hne] at ho; cases ho
 obtain ⟨oe,he,hc⟩:=fl.there
 have hfld:∃ vs,oe.data=.fields vs:=by
  obtain ⟨ob,ws,h1,h2,h3,_⟩:=fl.first
  rw [he] at h1; cases h1
  exact ⟨_,h3⟩
 have hstk:∀ b∈frs X.stack,b≠ea:=fun b hb e=>by
  subst e
  obtain ⟨_,o,ho,hd⟩:=fl.2.2.1.mem hb
  rw [he] at ho; cases ho
  obtain ⟨vs,q⟩:=hfld
  exact hd vs q
 have hs1:s1.heap.get? ea=none:=by
  cases q:s1.heap.get? ea with
  | none=>rfl
  | some o =>
   obtain ⟨o',ho'⟩:=old ea o q fun m=>hstk ea m rfl
   rw [hne] at ho'; cases ho'
 have ne1:∀ b o,s1.heap.get? b=some o→b≠ea:=fun b o q e=>by subst e; rw [hs1] at q; cases q
 have neT:∀ b u,H1 b=some u→b≠ea:=fun b u q=>by
  obtain ⟨o,ho⟩:=objOk_get (I.hok b u q)
  exact ne1 b o ho
 have hok':HOk X.prog X.w H2 h':=hok_kept hok st fl0.1 trk
 have hokN:HOk X.prog X.w (upd H2 ea (.ext (excP ea C))) h':=fun a o e=>by
  by_cases ha:a=ea
  ·subst ha
   rw [upd_same] at e; cases e
   exact ⟨⟨oe,he,hc⟩,⟨oe,he⟩,fun h1 h2 ⟨o,ho,hoc⟩ k=>⟨o,k o ho,hoc⟩⟩
  ·rw [upd_ne ha] at e
   refine (hok' a o e).stay (fun b u _ q=>q) (fun b q=>?_) fun b xs q=>?_
   ·rw [upd_ne (ne_of_none q hfree)]; exact q
   ·rw [upd_ne (ne_of_none q hfree)]; exact q
 refine ⟨hfree,?_⟩
 have key:=I.step (h':=h') (H':=upd H2 ea (.ext (excP ea C))) (g':=s2.gens) (t':=s2.toks) (d':=s2.drawn) (ch:=[]) (fun _ z=>nomatch z)
  (fun b o hb hf _ q n=>st b o (eq b o q n fun m=>by
   rcases List.mem_cons.mp (I.stkSub b m) with z | z
   ·exact hb z
   ·exact hf z))
  (fun b o hb hf _ q n=>by
   have hm:=fs_stack I.ok hf
   obtain ⟨sl,e1⟩:=un.slot b o q n hm (by simp)
   obtain ⟨_,o2,ho2,hd2⟩:=fl0.2.2.1.mem hm
   rw [e1] at ho2; cases ho2
   obtain ⟨sl2,e2⟩:=up b _ e1 hd2
   exact ⟨sl2,e2⟩)
  (fun b o _ q n=>by rw [upd_ne (ne1 b o q)]; exact un.free b o q n (by simp))
  (fun b o _ q=>by
   by_cases hm:b∈frs X.stack
   ·obtain ⟨_,o2,ho2,hd2⟩:=fl0.2.2.1.mem hm
    obtain ⟨sl2,e2⟩:=up b _ ho2 hd2
    exact ⟨_,e2⟩
   ·obtain ⟨o',ho'⟩:=old b o q hm
    exact ⟨o',st b o' ho'⟩)
  (fun b xs q=>by rw [upd_ne (neT b _ q)]; exact un.tups b xs q) (fun b o u q=>by rw [upd_ne (neT b _ q)]; exact un.frzs b o u q) (fun b ps q=>by
   obtain ⟨m,e⟩:=un.tbls b ps q
   exact ⟨m,by rw [upd_ne (neT b _ q)]; exact e⟩)
  (fun m hn=>by
   by_cases hm:X.env.locals∈frs X.stack
   ·obtain ⟨o,es,ep,ho,hd,r⟩:=hn
    obtain ⟨sl,e1⟩:=un.slot _ o ho I.free hm (by simp)
    exact up.ns ⟨_,es,ep,e1,hd,r⟩
   ·obtain ⟨o,es,ep,ho,hd,r⟩:=hn
    exact ⟨o,es,ep,st _ _ (eq _ o ho I.free hm),hd,r⟩) hokN hba
 obtain ⟨h2,g2,d2,t2,o2⟩:=s2
 have e:o2=s1.os:=hos
 subst e
 exact key
theorem name_gone {n:Str} {hpos:Pos} {E:Value→Shared→Prop} {Q:Unit→Shared→Prop} (I:Inv X pins σ H s) (hl:X.env.kindOf n=some .local) (h:∀ s',Inv X pins (List.replicate X.N.length none) H s'→Q () s') :
  wpAny (model X.prog X.w) X.A (do bindName X.env n .none; unbindBehindTheSuite X.env n hpos) Q E s:=by
 obtain ⟨m,hn,_⟩:=I.loc
 refine wpAny_nameGoes hl hn (by rw [I.ok.kind]; rfl) fun h' m' hn' sb=>?_
 have oth:∀ b o,b≠X.env.locals→s.heap.get? b=some o→h'.get? b=some o:=fun b o hb e=>(sb.2 b hb).trans e
 have neL:∀ b o,X.s₀.heap.get? b=some o→b≠X.env.locals:=fun b o e=>Nat.ne_of_lt (Nat.lt_of_lt_of_le (Heap.lt_size e) I.ok.above)
 have B:=I.base
 refine h _ ⟨I.ok,I.os,I.bare,⟨fun b o q n f x=>oth b o (neL b o q) (B.keep b o q n f x),fun b o q n f x=>?_,B.free,fun b o q x=>?_,B.tups,B.frzs,B.tbls⟩,⟨m',hn',fun i x v _ h _=>?_⟩,fun x c e=>?_,I.free,I.freeC,fun p hp=>?_,fun a o e=>?_,by simp⟩
 ·obtain ⟨sl,e⟩:=B.slot b o q n f x
  exact ⟨sl,oth b _ (neL b o q) e⟩
 ·obtain ⟨o',e⟩:=B.there b o q x
  exact ⟨o',oth b _ (neL b o q) e⟩
 ·rw [List.getElem?_replicate] at h
  split at h <;> cases h
 ·obtain ⟨v,o,ho,hd⟩:=I.cell x c e
  refine ⟨v,o,oth c o (fun z=>?_) ho,hd⟩
  obtain ⟨o',es,ep,ho',hd',_⟩:=hn
  rw [z,ho'] at ho; cases ho
  rw [hd'] at hd; cases hd
 ·obtain ⟨p1,p2,p3,p4,p5⟩:=I.pin p hp
  exact ⟨oth _ _ p3 p1,p2,p3,p4,p5⟩
 ·refine (I.hok a o e).stay (fun b u hb q=>oth b u (fun z=>?_) q) (fun _ q=>q) fun _ _ q=>q
  subst z
  rcases hb with rfl | hb
  ·rw [I.free] at e; cases e
  ·rw [I.free] at hb; cases hb
theorem ps_try {i:Nat} {n cn:Str} {Cn:Addr} {body:List Stmt} {b₀:Stmt} {suite:List Stmt} {np hpos pos:Pos} {tb:(Str→Hp→Prop)→St→Hp→Prop} {th:Addr→TS}
  (hB:∀ W pn,PSs (X.tried W pn) body fun _ σ H=>tb (AccA (X.tried W pn)) σ H) (mono:∀ (A A':Str→Hp→Prop) σ H,(∀ x H',A x H'→A' x H')→tb A σ H→tb A' σ H) (hS:∀ ea,PSs (X.held (.ref ea)) (b₀ :: suite) (th ea))
  (hN:X.N.Nodup) (hi:X.N[i]? = some n) (hl:X.env.scope.names.lookup n=some .local) (hg:Gl X cn) (hm:X.mg cn=some (.ref Cn)) (hstk:X.stack=X.env :: X.outer∧X.env.frame=some X.env.locals) (hd:(cn == ("__debug__":Str))=false:=by decide) :
  PS X (.Try body [.ExceptHandler (some (.Name cn np)) (some n) (b₀ :: suite) hpos] [] [] pos) fun D σ H=>tb (fun x H2=>∃ C,PySem.W.nsIn X.K mainGlobals x=some (some (.ref C))∧PySem.W.exmOne X.K (.ref C) (.ref Cn)=some true ∧
   ∀ (ea:Addr) (σ':St),σ'.length=X.N.length→H2 ea=none→th ea { nx:=fun _ _=>False,rt:=D.rt } (σ'.set i (some (.ref ea))) (upd H2 ea (.ext (excP ea C)))) σ H:=by
 intro pins s σ H D I h
 refine wpAny_Try_except ?_
 refine wpAny_mono (hB (fun e s₁=>wpAny (model X.prog X.w) X.A (noteFrame e X.env) (fun _ s₂=>wpAny (model X.prog X.w) X.A (setFlight e none) (fun _ s₃=>wpAny (model X.prog X.w) X.A (handleBy e X.env [.ExceptHandler (some (.Name cn np)) (some n) (b₀ :: suite) hpos]) (SP X pins D) X.xe s₃) X.xe s₂) X.xe s₁) (X.pn ++ pins)
  [] s σ H { nx:=fun _ _=>False,rt:=fun _ _=>False } (I.tried _) (mono _ _ σ H (fun x H2 acc=>?_) h)) (fun f s' q=>?_) fun _ _ z=>z
 ·obtain ⟨C,hn,hx,hth⟩:=acc
  intro pins' σ' H1 s1 e s2 I1 hos hba un hok fly
  obtain ⟨ea,C',t,B,rfl,hn',fl,trk,old,eq⟩:=fly
  have hn'':PySem.W.nsIn X.K mainGlobals x=some (some (.ref C')):=hn'
  rw [hn] at hn''
  cases hn''
  have ok:X.Ok:=I.ok
  have hfr:X.A.frames=some (X.env :: X.outer):=by rw [ok.frames,hstk.1]
  have fl:Heap.FlyingW B (X.env :: X.outer) ea (.ref C) (.ref t) s2.heap:=by
   have z:Heap.FlyingW B X.stack ea (.ref C) (.ref t) s2.heap:=fl
   rw [hstk.1] at z; exact z
  show wpAny (model X.prog X.w) X.A (noteFrame (.ref ea) X.env) _ _ s2
  refine wpAny_looks_onW hfr hstk.2 fl fun h3 held up3=>?_
  refine wpAny_landsW held fun h4 fl4 up4=>?_
  have up24:s2.heap.UpToSlots h4:=up3.trans up4
  have L4:=land (X:=X.tried _ _) I1 hos hba un hok (by show Heap.FlyingW B X.stack _ _ _ _; rw [hstk.1]; exact fl) (by show Heap.FlyingW B X.stack _ _ _ _; rw [hstk.1]; exact fl4) up24 trk old eq
  have I4:Inv X pins σ' (upd H2 ea (.ext (excP ea C))) { s2 with heap:=h4 }:=L4.2.untried
  refine wpAny_handleBy_cons (codeAny_handlers_test ?_) (by intro q; cases q)
  refine ld_glob (X:=X.held (.ref ea)) (I4.held _) hg hm ?_ hd
  have LT:PySem.W.Looks (model X.prog X.w) h4 (typeOf (.ref ea)) (.ref C):=by
   obtain ⟨ob,hob,hc⟩:=fl4.there
   rw [← hc]
   exact (PySem.W.Looks.ld hob).andThen .now
  refine (PySem.W.exm_one I4.kIn LT hx).here ?_
  dsimp only
  refine codeAny_handlers_suite_as ?_
  refine lands_againW fl4 fun h5 fl5 up5=>?_
  have L5:=land (X:=X.tried _ _) I1 hos hba un hok (by show Heap.FlyingW B X.stack _ _ _ _; rw [hstk.1]; exact fl) (by show Heap.FlyingW B X.stack _ _ _ _; rw [hstk.1]; exact fl5) (up24.trans up5) trk old eq
  have I5:Inv X pins σ' (upd H2 ea (.ext (excP ea C))) { s2 with heap:=h5 }:=L5.2.untried
  refine store_ok (X:=X.held (.ref ea)) (v:=.ref ea) (I5.held _) hN hi (.inl hl) rfl (fun s6 I6=>?_) (.inr hl)
  refine wpAny_mono (hS ea pins s6 _ _ { nx:=fun _ _=>False,rt:=D.rt } I6 (hth ea σ' (by rw [I5.len]) L5.1)) (fun f s7 q=>?_) fun _ _ z=>z.elim
  cases f with
  | next=>obtain ⟨_,_,_,z⟩:=q; exact z.elim
  | brk=>obtain ⟨_,_,_,z⟩:=q; exact z.elim
  | cont=>obtain ⟨_,_,_,z⟩:=q; exact z.elim
  | ret u =>
   obtain ⟨v,σ7,H7,I7,rv,q7⟩:=q
   exact name_gone (X:=X) (I7.unheld ok) hl fun s8 I8=>⟨v,_,H7,I8,rv,q7⟩
 ·cases f with
  | next=>obtain ⟨_,_,_,z⟩:=q; exact z.elim
  | brk=>obtain ⟨_,_,_,z⟩:=q; exact z.elim
  | cont=>obtain ⟨_,_,_,z⟩:=q; exact z.elim
  | ret u=>obtain ⟨_,_,_,_,_,z⟩:=q; exact z.elim
end
end L2
namespace PySem.W
open PySem PySem.Spec PySem.Calls PyProof.Rows Builtin Builtin.ObjectAttr Builtin.Getset_descriptor
structure ExcIn (K:Frag) (C:Addr):Prop where
 ga:findIn K (.ref C) "__getattribute__"=some (some (.builtin "BaseException.__getattribute__"))
 gn:findIn K (.ref C) "__getattr__"=some none
 cl:findIn K (.ref C) "__class__"=some (some (.builtin "object.__class__"))
 ob:mroIn K C (.type "object")=some true
 be:subIn K (.ref C) (.type "BaseException")=some true
 cc:(clsIn K C).isSome=true
noncomputable def excIn' (K:Frag) (C:Addr):Bool:=findIn K (.ref C) "__getattribute__" == some (some (.builtin "BaseException.__getattribute__")) && findIn K (.ref C) "__getattr__" == some none && findIn K (.ref C) "__class__" == some (some (.builtin "object.__class__")) &&
 mroIn K C (.type "object") == some true && subIn K (.ref C) (.type "BaseException") == some true && (clsIn K C).isSome
theorem ExcIn.of {K:Frag} {C:Addr} (h:excIn' K C=true):ExcIn K C:=by
 unfold excIn' at h
 simp only [Bool.and_eq_true,beq_iff_eq] at h
 exact ⟨h.1.1.1.1.1,h.1.1.1.1.2,h.1.1.1.2,h.1.1.2,h.1.2,h.2⟩
section
variable {prog:Program} {w:World} {A:Around} {E:Value→Shared→Prop} {K:Frag} {h:Heap} {g:Array GenState} {d:Drawn} {t:Nat} {os:OsState} {a C:Addr} {o:Obj}
theorem exc_class_get {R:Result→Shared→Prop} {tp:Value} (Z:ExcIn K C) (X:K.In h) (hx:h.get? a=some o) (hc:o.cls=.ref C) (hq:R (.ok (.ret (.ref C))) ⟨h,g,d,t,os⟩) :
  codeAny (model prog w) A (.call (.builtin "getset_descriptor.__get__") ⟨[.builtin "object.__class__",.ref a,tp],[]⟩) R ⟨h,g,d,t,os⟩:=by
 have L0:Looks (model prog w) h (typeOf (.ref a)) (.ref C):=hc ▸ (Looks.ld hx).andThen .now
 have L1:=looks_mroIn (M:=model prog w) X Z.ob
 refine codeAny_call_builtin KF.slot_gs.plain KF.entry_gs (KF.slot_gs.check _ _ _ _ _ _ _ _ KF.type_class (KF.args_gs _ _ _) ?_)
 unfold Builtin.«getset_descriptor.__get__» descrGet
 rw [dga_obj]
 refine wpAny_bind (wpAny_pure ?_)
 unfold descrGetter descrCheckInstance descrNameAndClass isInstance
 simp only [KF.owner_class]
 repeat lk
 refine ⟨Code.quiet_builtin _ (by decide +kernel),codeAny_builtin KF.entry_class ?_⟩
 unfold Builtin.«object.__class__» shownTypeOf
 repeat lk
 exact hq
theorem exc_class_entry {tk:Tok} {Q:Fin→Shared→Prop} (Z:ExcIn K C) (X:K.In h) (hx:h.get? a=some o) (hc:o.cls=.ref C) (hq:Q (.done (.ret (.ref C))) ⟨h,g,d,t,os⟩) :
  wpAny (model prog w) A (Builtin.«object.__getattribute__» ⟨[.ref a,.str "__class__" tk],[]⟩) Q E ⟨h,g,d,t,os⟩:=by
 have hT5:(⟨h,g,d,t,os⟩:Shared).TypeIs (.builtin "object.__class__") "getset_descriptor":=F.typeOf_object_class
 have f5:=F.typeOf_object_class
 have f6:=F.slot_gs_get.lookup
 have f7:=F.slot_gs_set.lookup
 have L1:=looks_findIn (M:=model prog w) X Z.cl
 repeat (any_goals (first | assumption | (with_reducible refine wpAny_loadPart_at hx ?_; rw [hc]) | with_reducible refine L1.at ?_ | wp_step))
 refine exc_class_get Z X hx hc ?_
 repeat (any_goals (first | assumption | wp_step))
theorem exc_check {nameV:Value} {Q:Unit→Shared→Prop} (Z:ExcIn K C) (X:K.In h) (hx:h.get? a=some o) (hc:o.cls=.ref C) (hq:Q () ⟨h,g,d,t,os⟩) :
  wpAny (model prog w) A (checkBuiltinCall "BaseException.__getattribute__" ⟨[.ref a,nameV],[]⟩) Q E ⟨h,g,d,t,os⟩:=by
 have hk:builtinKind "BaseException.__getattribute__"=some .slot:=by decide +kernel
 have hsplit:splitId "BaseException.__getattribute__"=some ("BaseException","__getattribute__"):=by decide +kernel
 have ha:=F.args_bexc_ga (.ref a) nameV
 have L1:=looks_subIn (M:=model prog w) X Z.be
 simp only [checkBuiltinCall,hk,hsplit]
 refine wpAny_bind ?_
 ·unfold isInstance
  repeat (first | (with_reducible refine wpAny_loadPart_at hx ?_; rw [hc]) | with_reducible refine L1.at ?_ | wp_step)
  exact hq
theorem exc_class_call {tk:Tok} {R:Result→Shared→Prop} (Z:ExcIn K C) (X:K.In h) (hx:h.get? a=some o) (hc:o.cls=.ref C) (hq:R (.ok (.ret (.ref C))) ⟨h,g,d,t,os⟩) :
  codeAny (model prog w) A (.call (.builtin "BaseException.__getattribute__") ⟨[.ref a,.str "__class__" tk],[]⟩) R ⟨h,g,d,t,os⟩ :=
 codeAny_call_builtin F.excAttr_ValueError.ga.plain F.entry_bexc_ga (exc_check Z X hx hc (exc_class_entry Z X hx hc hq))
theorem exc_class_by {tk:Tok} {Q:Value→Shared→Prop} (Z:ExcIn K C) (X:K.In h) (hx:h.get? a=some o) (hc:o.cls=.ref C) (hq:Q (.ref C) ⟨h,g,d,t,os⟩):wpAny (model prog w) A (getAttrBy (.ref a) (.str "__class__" tk) false) Q E ⟨h,g,d,t,os⟩:=by
 have f3:=F.excAttr_ValueError.ga.bind (.ref a)
 have hx2:(Value.builtin "BaseException.__getattribute__" == Value.builtin "object.__getattribute__")=false:=by decide +kernel
 have hx1:(onTheHeap (Value.ref C) && Value.builtin "BaseException.__getattribute__" == Value.builtin "object.__getattribute__")=false:=by rw [hx2]; rfl
 have L1:=looks_findIn (M:=model prog w) X Z.ga
 have L2:=looks_findIn (M:=model prog w) X Z.gn
 repeat (any_goals (first | assumption | (with_reducible refine wpAny_loadPart_at hx ?_; rw [hc]) | with_reducible refine L1.at ?_ | with_reducible refine L2.at ?_ | wp_step))
 refine exc_class_call Z X hx hc ?_
 repeat (any_goals (first | assumption | wp_step))
theorem exc_class {Q:Option Value→Shared→Prop} (Z:ExcIn K C) (X:K.In h) (hx:h.get? a=some o) (hc:o.cls=.ref C) (hq:Q (some (.ref C)) ⟨h,g,d,t + 1,os⟩):wpAny (model prog w) A (getAttr? (.ref a) "__class__") Q E ⟨h,g,d,t,os⟩:=by
 unfold getAttr? getAttrBy?
 repeat (any_goals (first | assumption | with_reducible apply exc_class_by Z X hx hc | wp_step))
theorem kitx_exc (Z:ExcIn K C):KitX K (.ref a) (.ref C) (L2.excP a C) where
 ty:=fun M h _ ⟨o,hx,hc⟩=>hc ▸ (Looks.ld hx).andThen .now
 it:=fun _ _ X _=>by
  have hcD:=Z.cc
  unfold clsIn at hcD
  split at hcD
  ·rename_i c' d' cd' sl' ho
   intro A' Q' E' s' k q
   unfold isType loadHead
   exact wpAny_bind (wpAny_loadPart (k _ _ (X _ _ ho)) (wpAny_pure q))
  ·cases hcD
 ne:=fun h tp dd its n sl X htp=>by
  have hcD:=Z.cc
  refine Bool.eq_false_iff.mpr fun q=>?_
  have e:C=tp:=Value.ref.inj (beq_iff_eq.mp q)
  subst e
  unfold clsIn at hcD
  split at hcD
  ·rename_i c' d' cd' sl' ho
   have z:=(X _ _ ho).symm.trans htp
   cases z
  ·cases hcD
 ca:=fun {_ _ _ _ _ s} X ⟨o,hx,hc⟩ k=>by obtain ⟨h,g,d,t,os⟩:=s; exact exc_class Z X hx hc k
end
end PySem.W
namespace L2
open PySem PySem.Spec PyProof.Rows
structure RoomH (k:Nat) (A:Around):Prop where
 dp:A.depth + 3 * k + 5 < recursionLimit
 un:A.units + 16 * k + 200 < cLine
theorem RoomH.deeper {k:Nat} {A:Around} (r:RoomH (k + 1) A) (env:Env):RoomH k (A.deeper env) :=
 ⟨by have:=r.dp; show A.depth + 1 + 3 * k + 5 < _; omega,by have:=r.un; show A.units + 3 + 16 * k + 200 < _; omega⟩
theorem RoomH.depth {k:Nat} {A:Around} (r:RoomH k A):A.depth < recursionLimit:=by have:=r.dp; omega
structure FnOkH (P:Program) (w:World) (K:PySem.W.Frag) (mg:Str→Option Value) (base:Heap) (k:Nat) (f:Addr) (fd:FuncData) (ps:List Str) (sp:Sp):Prop where
 len:∀ vs H Q E,sp vs H Q E→vs.length=ps.length
 run:∀ (A:Around) (outer:List Env) (s:Shared) (H:Hp) (args:Args) (us:List Value) (vs:List V) (Q:VK) (E:XK),RoomH k A→Env0 P w K mg base A outer s H→BindsTo s fd args (ps.zip us)→Vals vs us→sp vs H Q E →
  codeAny (model P w) A (.call (.ref f) args) (CR CX0 outer P w H s Q E) s
noncomputable abbrev cxH (P:Program) (w:World) (K:PySem.W.Frag) (mg:Str→Option Value) (base:Heap) (N:List Str) (qual:Str) (scope:Scope) (f:Addr) (cd:Value) (A:Around) (outer:List Env) (s:Shared) (H:Hp) (E:XK):Cx :=
 { cxOf CX0 P w K mg base N qual scope f cd A outer s H E with calm:=false }
section
variable {P:Program} {w:World} {K:PySem.W.Frag} {mg:Str→Option Value} {base:Heap}
theorem inv_startH {N ps:List Str} {qual:Str} {scope:Scope} {f:Addr} {cd:Value} {A:Around} {outer:List Env} {s s1:Shared} {H:Hp} {E:XK} {us:List Value} {vs:List V}
  (S:FnScope N ps scope) (e0:Env0 P w K mg base A outer s H) (hl:vs.length=ps.length) (r:Vals vs us)
  (x:InCallC s s.heap.objs.size (bindL (envOfC qual scope s.heap.objs.size f cd).kindOf (ps.zip us) fun _=>none) (cellsFrom (s.heap.objs.size + 1) scope.names []) (bindC (envOfC qual scope s.heap.objs.size f cd).kindOf (ps.zip us) fun _=>none) s1) :
  Inv (cxH P w K mg base N qual scope f cd A outer s H E) [] (start N vs) H s1:=by
 have I:Inv (cxOf CX0 P w K mg base N qual scope f cd { A with handled:=none } outer s H E) [] (start N vs) H s1:=inv_start S rfl ⟨e0.frames,e0.mod,e0.bs,e0.bsz,e0.funs,e0.frf,e0.hok,e0.bare⟩ hl r x
 have ok:=I.ok
 exact ⟨⟨ok.mod,ok.kind,ok.glob,ok.blt,ok.above,ok.inj,ok.has,ok.cab,(fun z=>by cases z),Around.frames_deeper e0.frames,ok.stk,ok.exf,ok.bs,ok.bsz,ok.noex,ok.exfs,ok.funs,ok.frf⟩,I.os,I.bare,I.base,I.loc,I.cell,I.free,I.freeC,I.pin,I.hok,I.len⟩
theorem fn_ofH {k:Nat} {f:Addr} {name qual:Str} {params:Arguments} {body:List Stmt} {scope:Scope} {dV kV doc pm cdv ct oc:Value} {an od:Option Addr}
  {osl:Array (Option Value)} {N ps:List Str} {sp:Sp} (lk:K.lookup f=some ⟨oc,od,.func (PySem.W.fnOf name qual params body scope dV kV doc pm an cdv ct),osl⟩) (hcd:PySem.W.codeIn K cdv qual=true) (S:FnScope N ps scope)
  (len:∀ vs H Q E,sp vs H Q E→vs.length=ps.length)
  (hbody:∀ (A:Around) (outer:List Env) (s:Shared) (H:Hp) (vs:List V) (Q:VK) (E:XK),RoomH k (A.deeper (envOfC qual scope s.heap.objs.size f cdv))→sp vs H Q E →
   ∃ t,PSs (cxH P w K mg base N qual scope f cdv A outer s H E) body t∧t { nx:=fun _ H'=>Q .non H',rt:=Q } (start N vs) H) :
  FnOkH P w K mg base (k + 1) f (PySem.W.fnOf name qual params body scope dV kV doc pm an cdv ct) ps sp:=by
 refine ⟨len,fun A outer s H args us vs Q E hr e0 hb r hsp=>?_⟩
 have hl:=len _ _ _ _ hsp
 have KX:K.In s.heap:=e0.mod.kin.keeps fun b o e=>(e0.bs b o e).1
 have lim:s.heap.NoLimit:=e0.mod.nolimit.keeps fun b o e=>(e0.bs b o e).1
 have hkind:∀ y∈ps.zip us,scope.names.lookup y.1=some .local∨(scope.names.lookup y.1=some .cell∧((cellsFrom (s.heap.objs.size + 1) scope.names []).lookup y.1).isSome=true):=fun ⟨n,v⟩ hy=>by
  rcases S.par n (List.of_mem_zip hy).1 with q | q
  ·exact .inl q
  ·exact .inr ⟨q,PySem.W.cellsFrom_some _ _ _ (.inl q)⟩
 refine codeAny_call_function hr.depth (KX _ _ lk) rfl S.co S.gen rfl (PySem.W.codeRec_of KX hcd) (hb _ _ _ _ ?_)
 refine wpAny_newFunctionEnv_cells S.kind hkind fun env he s1 x=>?_
 subst he
 refine ⟨lim.keeps x.toInCall.keep,codeAny_func ?_⟩
 obtain ⟨t,ht,hq⟩:=hbody A outer s H vs Q E (hr.deeper _) hsp
 have I:Inv (cxH P w K mg base N qual scope f cdv A outer s H E) [] (start N vs) H s1:=inv_startH S e0 hl r x
 refine wpAny_mono (ht [] s1 (start N vs) H _ I hq) (fun fl s' hs=>?_) fun e s' hs=>hs
 have fin:∀ {σ':St} {H':Hp} {v:V} {u:Value},Inv (cxH P w K mg base N qual scope f cdv A outer s H E) [] σ' H' s'→RelV v u→Q v H'→CE outer P w H s Q u s' :=
  fun {σ' H' v u} J rv q=>⟨v,H',J.os,J.bare,J.base,J.hok,rv,q⟩
 cases fl with
 | ret u =>
  obtain ⟨v,σ',H',J,rv,q⟩:=hs
  exact fin J rv q
 | next =>
  obtain ⟨σ',H',J,q⟩:=hs
  exact fin (v:=V.non) (u:=Value.none) J rfl q
 | brk =>
  obtain ⟨_,_,_,q⟩:=hs
  exact False.elim q
 | cont =>
  obtain ⟨_,_,_,q⟩:=hs
  exact False.elim q
theorem fn_okH {x qual:Str} {st:Stmt} {f:Addr} {fd:FuncData} {N ps:List Str} {k n m:Nat} {own:Bool} {d:Ev→List Cell→R Fl} (F:Fun K x qual st f fd) (S:FnScope N ps (defScope st)) (hN:N.length=n) (hm:ps.length=m)
  (hb:∀ (cdv:Value) (A:Around) (outer:List Env) (s:Shared) (H:Hp) (E:XK),RoomH k (A.deeper (envOfC qual (defScope st) s.heap.objs.size f cdv))→PSsd (cxH P w K mg base N qual (defScope st) f cdv A outer s H E).nox (defBody st) d) :
  FnOkH P w K mg base (k + 1) f fd ps (spD K m (fnD n own d)):=by
 subst hN; subst hm
 obtain ⟨oc,od,kV,doc,pm,an,cdv,ct,osl,rfl,lk,hcd⟩:=F.ex
 refine fn_ofH lk hcd S (fun vs H Q E h=>?_) fun A outer s H vs Q E hr h=>⟨_,(hb cdv A outer s H E hr).nox,?_⟩
 ·obtain ⟨ρ,xs,c,W,r,hl,p⟩:=h
  exact r.length.trans hl
 ·obtain ⟨ρ,xs,c,W,r,hl,p⟩:=h
  refine ⟨ρ,startD N.length xs,c,W,REnv.start r,post.bind p fun fl c1 ρ1 H1 b _ W1 X1 r1 p1=>?_⟩
  cases fl with
  | nx e1 =>
   obtain ⟨σ1,rfl,V1⟩:=r1
   exact exit_ok (v:=.non) (x:=.non) (H1:=H1) W W1 X1 rfl (by
    unfold fnD at p; exact id (α:=post K (Rel K) (exitD own c.length .non c1) ρ H Q) (by
     rename_i he; rw [he] at p; exact p))
  | rt d =>
   obtain ⟨v,rfl,V1⟩:=r1
   exact exit_ok (v:=d) (x:=v) (H1:=H1) W W1 X1 V1 (by
    unfold fnD at p; rename_i he; rw [he] at p; exact p)
  | bk e1=>exact p1.elim
  | ct e1=>exact p1.elim
end
section
variable {X:Cx}
theorem pd_fnH {x:Str} {st:Stmt} {ps:List Str} {f:Addr} {fd:FuncData} {k n:Nat} {m:List D→List Cell→R D} {e:Expr} {es:List Expr} {da:Ev→List Cell→R (List D)} {p pos:Pos} (D:Def X.K X.mg x st ps f fd) (G:FnOkH X.prog X.w X.K X.mg X.base k f fd ps (spD X.K n m)) (hr:RoomH k X.A) (ha:PAd X (e :: es) da) (hg:Gl X x:=by rfl)
  (hdb:(x == ("__debug__":Str))=false:=by decide) (he:starEach (e :: es) X.env=(false,eval e X.env) :: starEach es X.env:=by exact starE rfl) (hpl:(backTo pos (starEach es X.env)).any (·.1)=false:=by exact starAny rfl) :
  PEd X (.Call (.Name x p) (e :: es) [] pos) (dCall n m da):=by
 intro pins s σ H Q I h
 obtain ⟨ρ,e',c,W,V,q⟩:=h
 refine wpAny_Call_Name_kw (ld_glob I hg D.at' ?_ hdb)
 refine PySem.W.callWith_K (h₀:=X.base) I.ok.mod.kin D.fn.kp (thn (ha pos pins s σ H (fun vs H1=>spD X.K n m vs H1 Q E0) I ⟨ρ,e',c,W,V,post.bind q fun xs c1 ρ1 H1 vs _ W1 X1 r1 p1=>?_⟩) fun us s1 ⟨vs,H1,I1,r,q⟩=>⟨I1.kIn,?_⟩) he hpl
 ·split at p1
  ·rename_i hl
   exact ⟨ρ1,xs,c1,W1,r1,hl,p1⟩
  ·exact p1.elim
 ·have hl:us.length=ps.length:=by rw [← r.length]; exact G.len _ _ _ E0 q
  have hb:=D.bd s1 us I1.kIn (by simpa using hl)
  rw [List.append_nil] at hb
  refine wpAny_call (codeAny_mono (G.run X.A X.stack s1 H1 ⟨us,[]⟩ us vs Q E0 hr I1.env0 hb r q) fun r s' hq=>?_)
  cases r with
  | error e=>exact False.elim hq
  | ok fl =>
   cases fl with
   | ret u=>exact I1.after hq
   | next=>exact False.elim hq
   | brk=>exact False.elim hq
   | cont=>exact False.elim hq
end
structure XTab (K:PySem.W.Frag) (T:List Str):Prop where
 cls:∀ x∈T,∀ C,PySem.W.nsIn K mainGlobals x=some (some (.ref C))→PySem.W.ExcIn K C∧PySem.W.kitOne K (.ref C) (.type "ValueError")=some true
 two:∀ x∈T,∀ y∈T,∀ C C',PySem.W.nsIn K mainGlobals x=some (some (.ref C))→PySem.W.nsIn K mainGlobals y=some (some (.ref C'))→PySem.W.kitOne K (.ref C) (.ref C')=some (x == y)
noncomputable def xcIn (K:PySem.W.Frag) (x:Str):Bool:=match PySem.W.nsIn K mainGlobals x with
 | some (some (.ref C))=>PySem.W.excIn' K C && PySem.W.kitOne K (.ref C) (.type "ValueError") == some true
 | _=>true
noncomputable def x2In (K:PySem.W.Frag) (x y:Str):Bool:=match PySem.W.nsIn K mainGlobals x,PySem.W.nsIn K mainGlobals y with
 | some (some (.ref C)),some (some (.ref C'))=>PySem.W.kitOne K (.ref C) (.ref C') == some (x == y)
 | _,_=>true
noncomputable def xtabIn (K:PySem.W.Frag) (T:List Str):Bool:=T.all fun x=>xcIn K x && T.all fun y=>x2In K x y
theorem XTab.of {K:PySem.W.Frag} {T:List Str} (h:xtabIn K T=true):XTab K T:=by
 unfold xtabIn at h
 rw [List.all_eq_true] at h
 refine ⟨fun x hx C e=>?_,fun x hx y hy C C' e e'=>?_⟩
 ·have q:=h x hx
  rw [Bool.and_eq_true] at q
  have q:=q.1
  unfold xcIn at q
  rw [e] at q
  simp only [Bool.and_eq_true,beq_iff_eq] at q
  exact ⟨.of q.1,q.2⟩
 ·have q:=h x hx
  rw [Bool.and_eq_true,List.all_eq_true] at q
  have q:=q.2 y hy
  unfold x2In at q
  rw [e,e'] at q
  simpa using q
noncomputable def isxD (T:List Str):List D→List Cell→R D:=fun xs c=>match xs with
 | [.exc x,.fn y _]=>if x∈T∧y∈T then .ok (.bl (x == y)) c else .bad
 | [.exc x,.ty n]=>if x∈T∧n="ValueError" then .ok (.bl true) c else .bad
 | _=>.bad
section
variable {X:Cx} {T:List Str}
theorem cd_isx (Z:XTab X.K T):CallR X (.builtin "isinstance") (rN X.K (isxD T)):=by
 intro pins s σ H vs us Q I rv h
 obtain ⟨ρ,xs,c,W,rx,p⟩:=h
 unfold isxD at p
 split at p
 ·split at p
  ·rename_i hT
   obtain ⟨v,r,rfl,⟨a,C,rfl,hC,hH⟩,u,r',rfl,⟨a',rfl,hC'⟩,hr⟩:=rx
   cases hr
   obtain ⟨u1,u2,rfl,r1,r2⟩:=rv.two
   cases r1; cases r2
   obtain ⟨hp,_,_⟩:=I.hok a _ hH
   exact PySem.W.kia_one (PySem.W.kitx_exc (Z.cls _ hT.1 C hC).1) I.kIn hp (Z.two _ hT.1 _ hT.2 C a' hC hC') (fun z=>nomatch z) fun tk=>⟨.bl _,H,I.tok _,rfl,p.here W rfl⟩
  ·exact p.elim
 ·split at p
  ·rename_i hT
   obtain ⟨v,r,rfl,⟨a,C,rfl,hC,hH⟩,u,r',rfl,hu,hr⟩:=rx
   cases hr
   cases hu
   obtain ⟨u1,u2,rfl,r1,r2⟩:=rv.two
   cases r1; cases r2
   obtain ⟨hp,_,_⟩:=I.hok a _ hH
   obtain ⟨_,rfl⟩:=hT
   rename_i hx
   exact PySem.W.kia_one (PySem.W.kitx_exc (Z.cls _ hx C hC).1) I.kIn hp (Z.cls _ hx C hC).2 (fun z=>nomatch z) fun tk=>⟨.bl true,H,I.tok _,rfl,p.here W rfl⟩
  ·exact p.elim
 ·exact p.elim
theorem pd_cls {x:Str} {C:Addr} {pos:Pos} (hm:X.mg x=some (.ref C)) (hn:PySem.W.nsIn X.K mainGlobals x=some (some (.ref C))) (hg:Gl X x:=by rfl) (hd:(x == ("__debug__":Str))=false:=by decide):PEd X (.Name x pos) (dC (.fn x 0)) :=
 pd_const (pe_glob (v:=.ref C) hg hm rfl hd) fun _ _=>⟨C,rfl,hn⟩
end
open PySem.SeqAt
section
variable {X:Cx}
noncomputable def rCount:V→List V→Hp→VK→Prop:=fun x vs H Q=>∃ l,∃ bs:List Bool,x=.ref l∧vs=[.bl true]∧H l=some (.lst (bs.map V.bl))∧Q (.int (bs.countP id:Nat)) H
noncomputable def rIndex:V→List V→Hp→VK→Prop:=fun x vs H Q=>∃ l,∃ bs:List Bool,∃ j,x=.ref l∧vs=[.bl true]∧H l=some (.lst (bs.map V.bl))∧bs.findIdx? id=some j∧Q (.int (j:Nat)) H
theorem Vals.bls:∀ {bs:List Bool} {us:List Value},Vals (bs.map V.bl) us→us=bs.map Value.bool
 | [],_,.nil=>rfl
 | b :: bs,_,.cons r t=>by cases r; rw [Vals.bls t]; rfl
noncomputable def eqT:Value→Bool
 | .bool b=>b
 | _=>false
theorem eqT_bls (bs:List Bool):(bs.map Value.bool).countP eqT=bs.countP id:=by
 induction bs with
 | nil=>rfl
 | cons b bs ih=>rw [List.map_cons,List.countP_cons,List.countP_cons,ih]; rfl
theorem eqT_at {A:Around} {s:Shared} (bs:List Bool):∀ y,y∈(bs.map Value.bool).toArray→EqAt A s y (.bool true) (eqT y):=fun y hy=>by
 rw [List.mem_toArray,List.mem_map] at hy
 obtain ⟨b,_,rfl⟩:=hy
 have:=EqAt.bool_bool (A:=A) (s:=s) b true
 cases b <;> exact this
theorem mt_count:MtM X "list.count" rCount:=by
 intro pins s σ H x vs v us Q I rx rv h
 obtain ⟨l,bs,rfl,rfl,hH,q⟩:=h
 cases rx
 obtain ⟨u,rfl,ru⟩:=rv.one
 cases ru
 obtain ⟨z,its,n,r,hl,e⟩:=I.lstM hH
 cases r.bls
 refine call_meets F.slot_list_count ⟨_,e,rfl⟩ F.entry_list_count (F.args_list_count_2 _ _) (list_countAt l (bs.map Value.bool).toArray n none #[] (.bool true) eqT) ⟨e,eqT_at bs,?_⟩
 refine ⟨.int (bs.countP id:Nat),H,I.tok _,⟨s.toks,?_⟩,q⟩
 rw [List.toList_toArray,eqT_bls]
theorem mt_index:MtM X "list.index" rIndex:=by
 intro pins s σ H x vs v us Q I rx rv h
 obtain ⟨l,bs,j,rfl,rfl,hH,hj,q⟩:=h
 cases rx
 obtain ⟨u,rfl,ru⟩:=rv.one
 cases ru
 obtain ⟨z,its,n,r,hl,e⟩:=I.lstM hH
 cases r.bls
 rw [List.findIdx?_eq_some_iff_getElem] at hj
 obtain ⟨h1,h2,h3⟩:=hj
 have hz:bs.length≤sizeLine:=by simpa using z
 have hs:(j:Int) < 2 ^ 63 - 1:=by
  have:sizeLine < 2 ^ 62:=by decide
  omega
 refine call_meets F.slot_list_index ⟨_,e,rfl⟩ F.entry_list_index (F.args_list_index_2 _ _) (list_indexAt l (bs.map Value.bool).toArray n none #[] (.bool true) eqT j (by simpa using h1) hs (by simpa [eqT] using h2) (fun m hm hlt=>by have:=h3 m hlt; simpa [eqT] using this)) ⟨e,eqT_at bs,?_⟩
 exact ⟨.int (j:Nat),H,I.tok _,⟨s.toks,rfl⟩,q⟩
end
end L2
namespace L2
open PySem PySem.Spec PyProof.Rows
noncomputable def dCount (o a:Ev→List Cell→R D):Ev→List Cell→R D:=fun e c=>(o e c).bind fun x c=>match x with
 | .lst l=>(a e c).bind fun y c=>match y,blsD l with
  | .bl true,some bs=>.ok (.int (bs.countP id:Nat)) c
  | _,_=>.bad
 | _=>.bad
noncomputable def dIndex (o a:Ev→List Cell→R D):Ev→List Cell→R D:=fun e c=>(o e c).bind fun x c=>match x with
 | .lst l=>(a e c).bind fun y c=>match y,blsD l with
  | .bl true,some bs=>match bs.findIdx? id with
   | some j=>.ok (.int (j:Nat)) c
   | none=>.bad
  | _,_=>.bad
 | _=>.bad
theorem Rels.bls_eq {K:PySem.W.Frag} {ρ:List Addr} {H:Hp}:∀ {bs:List Bool} {xs:List V},Rels K ρ H (bs.map D.bl) xs→xs=bs.map V.bl
 | [],_,h=>h
 | b :: bs,_,h=>by
  obtain ⟨x,r,rfl,h1,h2⟩:=h
  cases h1
  rw [Rels.bls_eq h2]; rfl
section
variable {X:Cx}
theorem pd_count {o e:Expr} {dO da:Ev→List Cell→R D} {apos cpos:Pos} (ho:PEd X o dO) (ha:PEd X e da)
  (hbase:attributeBase o "count" X.env (eval o X.env)=eval o X.env:=by rfl)
  (hfew:((backTo cpos (starEach [e] X.env)).all (fun x=>!x.1) && (backToKw cpos (keywordEach [] X.env)).all (fun x=>x.1.isSome)
   && decide ([e].length + ([]:List Keyword).length + (if ([]:List Keyword).isEmpty then 0 else 1) < 30))=true:=by exact starFew rfl)
  (hline:(apos.endLine == cpos.line)=true:=by rfl) (hs:starEach [e] X.env=(false,eval e X.env) :: starEach [] X.env:=by exact starE rfl) (hplain:(backTo cpos (starEach [] X.env)).any (·.1)=false:=by exact starAny rfl) :
  PEd X (.Call (.Attribute o "count" apos) [e] [] cpos) (dCount dO da) :=
 (pe_bm PySem.F.plainAttrs_list PySem.F.slot_list_count PySem.F.type_list_count mt_count ho (pa_cons ha pa_nil hs) hbase hfew hline hs hplain).imp fun σ H Q h=>by
  obtain ⟨ρ,e,c,W,V,p⟩:=h
  refine ⟨ρ,e,c,W,V,post.bind p fun x c1 ρ1 H1 v _ W1 X1 r1 p1=>?_⟩
  cases x with
  | lst l =>
   obtain ⟨a,xs,rfl,hx,rl⟩:=r1
   refine ⟨.inl ⟨rfl,xs,SqL.of hx.1⟩,ρ1,e,c1,W1,V.mono W X1,post.bind p1 fun y c2 ρ2 H2 u _ W2 X2 r2 p2=>?_⟩
   split at p2
   ·rename_i bs hb _
    cases r2
    rw [blsD_eq hb] at rl
    cases rl.bls_eq
    exact ⟨a,bs,rfl,rfl,(X2.keep a _ hx.1 hx.2 rfl).1,p2.here W2 rfl⟩
   ·exact p2.elim
  | _=>exact p1.elim
theorem pd_index {o e:Expr} {dO da:Ev→List Cell→R D} {apos cpos:Pos} (ho:PEd X o dO) (ha:PEd X e da)
  (hbase:attributeBase o "index" X.env (eval o X.env)=eval o X.env:=by rfl)
  (hfew:((backTo cpos (starEach [e] X.env)).all (fun x=>!x.1) && (backToKw cpos (keywordEach [] X.env)).all (fun x=>x.1.isSome)
   && decide ([e].length + ([]:List Keyword).length + (if ([]:List Keyword).isEmpty then 0 else 1) < 30))=true:=by exact starFew rfl)
  (hline:(apos.endLine == cpos.line)=true:=by rfl) (hs:starEach [e] X.env=(false,eval e X.env) :: starEach [] X.env:=by exact starE rfl) (hplain:(backTo cpos (starEach [] X.env)).any (·.1)=false:=by exact starAny rfl) :
  PEd X (.Call (.Attribute o "index" apos) [e] [] cpos) (dIndex dO da) :=
 (pe_bm PySem.F.plainAttrs_list PySem.F.slot_list_index PySem.F.type_list_index mt_index ho (pa_cons ha pa_nil hs) hbase hfew hline hs hplain).imp fun σ H Q h=>by
  obtain ⟨ρ,e,c,W,V,p⟩:=h
  refine ⟨ρ,e,c,W,V,post.bind p fun x c1 ρ1 H1 v _ W1 X1 r1 p1=>?_⟩
  cases x with
  | lst l =>
   obtain ⟨a,xs,rfl,hx,rl⟩:=r1
   refine ⟨.inl ⟨rfl,xs,SqL.of hx.1⟩,ρ1,e,c1,W1,V.mono W X1,post.bind p1 fun y c2 ρ2 H2 u _ W2 X2 r2 p2=>?_⟩
   split at p2
   ·rename_i bs hb _
    cases r2
    rw [blsD_eq hb] at rl
    cases rl.bls_eq
    split at p2
    ·rename_i j hj
     exact ⟨a,bs,j,rfl,rfl,(X2.keep a _ hx.1 hx.2 rfl).1,hj,p2.here W2 rfl⟩
    ·exact p2.elim
   ·exact p2.elim
  | _=>exact p1.elim
noncomputable def sTry (T:List Str) (i n:Nat) (b:Ev→List Cell→R Fl) (x:Xd) (h:Ev→List Cell→R D):Ev→List Cell→R Fl:=fun e c=>match b e c with
 | .ok f c=>.ok f c
 | .bad=>(x e c).bind fun y c=>if y∈T then (h ((List.replicate n none).set i (some (.exc y))) c).bind fun v c=>.ok (.rt v) c else .bad
theorem ps_try0 {body:List Stmt} {h₀:ExceptHandler} {pos:Pos} {t:TS} (hb:PSs X.nox body t):PS X (.Try body [h₀] [] [] pos) t:=fun pins s σ H D I h=>by
 refine wpAny_Try_except (wpAny_mono (hb pins s σ H D (I.wish _) h) (fun f s' q=>?_) fun _ _ z=>z.elim)
 have q:=q.unwish
 cases f with
 | next=>exact wpAny_execs_nil q
 | brk=>exact q
 | cont=>exact q
 | ret u=>exact q
theorem sd_try {T:List Str} {i m:Nat} {n cn:Str} {Cn:Addr} {body:List Stmt} {he:Expr} {rpos np hpos pos:Pos} {b:Ev→List Cell→R Fl} {x:Xd} {h:Ev→List Cell→R D}
  (hb:PSsd X.nox body b) (hx:∀ W pn,PSsx (X.tried W pn) (AccA (X.tried W pn)) body x) (hS:∀ ea,PEd (X.held (.ref ea)) he h)
  (hm:X.mg cn=some (.ref Cn)) (hT:∀ y∈T,∃ C,PySem.W.nsIn X.K mainGlobals y=some (some (.ref C))∧PySem.W.exmOne X.K (.ref C) (.ref Cn)=some true)
  (hN:X.N.Nodup:=by decide +kernel) (hi:X.N[i]? = some n:=by rfl) (hlen:X.N.length=m:=by rfl) (hl:X.env.scope.names.lookup n=some .local:=by rfl) (hg:Gl X cn:=by rfl) (hstk:X.stack=X.env :: X.outer∧X.env.frame=some X.env.locals:=by exact ⟨rfl,rfl⟩) (hd:(cn == ("__debug__":Str))=false:=by decide) :
  PSd X (.Try body [.ExceptHandler (some (.Name cn np)) (some n) [.Return (some he) rpos] hpos] [] [] pos) (sTry T i m b x h):=by
 intro pins s σ H D I hh
 obtain ⟨ρ,e,c,W,V,p⟩:=hh
 unfold sTry at p
 cases q:b e c with
 | ok f c1 =>
  rw [q] at p
  exact ps_try0 hb pins s σ H D I ⟨ρ,e,c,W,V,by rw [q]; exact p⟩
 | bad =>
  rw [q] at p
  dsimp only at p
  refine ps_try (X:=X) (th:=fun ea=>tSD X.K (sRet h)) (tb:=fun A σ H=>tD X.K (fun _ _ a b=>a=b) x σ H A) hx (fun A A' σ H hA ⟨ρ,e,c,W,V,p⟩=>⟨ρ,e,c,W,V,p.mono hA⟩)
   (fun ea=>sd_one (sd_ret (hS ea))) hN hi hl hg hm hstk hd pins s σ H D I ⟨ρ,e,c,W,V,post.bind p fun y c1 ρ1 H1 b _ W1 X1 r1 p1=>?_⟩
  cases r1
  split at p1
  ·rename_i hy
   obtain ⟨C,hC,hC2⟩:=hT y hy
   refine ⟨C,hC,hC2,fun ea σ' hl' hf=>?_⟩
   refine ⟨ρ1,(List.replicate m none).set i (some (.exc y)),c1,W1.fresh hf,⟨fun j d hj=>?_,by simp [hl',hlen]⟩,?_⟩
   ·by_cases e1:j=i
    ·subst e1
     have hlt:j < m:=by
      have:=(List.getElem?_eq_some_iff.mp hj).1
      simpa using this
     rw [List.getElem?_set_self (by simpa using hlt)] at hj
     cases hj
     refine ⟨.ref ea,by rw [List.getElem?_set_self (by rw [hl',hlen]; exact hlt)],ea,C,rfl,hC,upd_same⟩
    ·rw [List.getElem?_set_ne (Ne.symm e1),List.getElem?_replicate] at hj
     split at hj <;> cases hj
   ·have p2:=p1.ext (Ext.fresh (p:=ea) (o:=.ext (excP ea C)) W1 hf)
    unfold sRet
    cases qh:h ((List.replicate m none).set i (some (.exc y))) c1 with
    | bad=>rw [qh] at p2; exact p2.elim
    | ok v c2 =>
     rw [qh] at p2
     exact fun ρ2 H2 f W2 X2 r2=>by
      have z:=p2 ρ2 H2 f W2 X2 r2
      obtain ⟨v',rfl,_⟩:=r2
      exact z
  ·exact p1.elim
end
theorem RoomH.held {k:Nat} {A:Around} {h:Option Value} (r:Room k A):RoomH k (A.mark h):=⟨r.dp,r.un⟩
theorem bootVE:bootBuiltins "ValueError"=some (.type "ValueError"):=by decide +kernel
abbrev veMro:List Value:=[.type "ValueError",.type "Exception",.type "BaseException",.type "object"]
theorem own_of {K:PySem.W.Frag} {h:Heap} {mg:Str→Option Value} {x:Str} {C:Addr} {bmB:List Value} {newId:String} (X:K.In h) (e:mg x=some (.ref C)) (q:PySem.W.excIn K C bmB newId=true):OwnCls x C bmB newId mg h:=by
 refine ⟨e,?_⟩
 unfold PySem.W.excIn at q
 split at q
 ·rename_i dd cd sl ho
  split at q
  ·rename_i C' bm k0 k1 k2 k3 n k5 hm hs
   simp only [Bool.and_eq_true,beq_iff_eq,Bool.not_eq_true'] at q
   obtain ⟨⟨⟨⟨⟨rfl,rfl⟩,hdel⟩,ht⟩,hok⟩,hni⟩:=q
   obtain ⟨nm,bs,mro,ns,qn,hd,sn,sub,ab,col,del⟩:=cd
   dsimp only at hm hdel hok hni
   subst hm hdel
   have hsl:sl=#[k0,k1,k2,k3,some (.builtin n),k5]:=by
    obtain ⟨l⟩:=sl
    simp only at hs
    rw [hs]
   subst hsl
   exact ⟨bm,ns,nm,qn,bs,hd,sn,sub,ab,col,dd,k0,k1,k2,k3,k5,_,X _ _ ho,.of_isNs (PySem.W.isNs_of_in X hok),PySem.W.nsMap_none_of_in X hok hni,PySem.W.tail_of_in X ht⟩
  ·cases q
 ·cases q
theorem XCls.of {K:PySem.W.Frag} {mg:Str→Option Value} {x:Str} {C:Addr} (n:PySem.W.nsIn K mainGlobals x=some (some (.ref C))) (m:mg x=some (.ref C)) (q:PySem.W.excIn K C veMro "ValueError.__new__"=true):XCls K mg x veMro "ValueError.__new__" :=
 ⟨C,n,m,fun _ X=>own_of X m q⟩
noncomputable def xwIn (K:PySem.W.Frag) (T:List Str) (Cn:Addr):Bool:=T.all fun y=>match PySem.W.nsIn K mainGlobals y with
 | some (some (.ref C))=>PySem.W.exmOne K (.ref C) (.ref Cn) == some true
 | _=>false
theorem xw_of {K:PySem.W.Frag} {T:List Str} {Cn:Addr} (h:xwIn K T Cn=true):∀ y∈T,∃ C,PySem.W.nsIn K mainGlobals y=some (some (.ref C))∧PySem.W.exmOne K (.ref C) (.ref Cn)=some true:=fun y hy=>by
 have q:=List.all_eq_true.mp h y hy
 split at q
 ·rename_i C e
  exact ⟨C,e,by simpa using q⟩
 ·cases q
end L2
namespace L2
open PySem PySem.Spec PyProof.Rows
noncomputable def tabF (t:List (Int×List Int)) (k:Int):Option (List Int):=match t with
 | []=>none
 | p :: r=>if k=p.1 then some p.2 else tabF r k
noncomputable def intsIn:List Value→List Int→Bool
 | [],[]=>true
 | .int i _ :: vs,j :: l=>(i == j) && intsIn vs l
 | _,_=>false
noncomputable def tupIn (K:PySem.W.Frag) (b:Addr) (l:List Int):Bool:=match K.lookup b with
 | some ⟨c,_,.seq its _,_⟩=>(c == .type "tuple") && intsIn its.toList l && decide (its.size≤sizeLine)
 | _=>false
noncomputable def entIn (K:PySem.W.Frag) (e:DictEntry) (k:Int) (l:List Int):Bool:=match e with
 | ⟨h,.int i _,.ref b⟩=>(i == k) && (h == hashInt k) && tupIn K b l
 | _=>false
noncomputable def entsIn (K:PySem.W.Frag):List DictEntry→List (Int×List Int)→Bool
 | [],[]=>true
 | e :: es,p :: t=>entIn K e p.1 p.2 && entsIn K es t
 | _,_=>false
noncomputable def dictIn (K:PySem.W.Frag) (a:Addr) (t:List (Int×List Int)):Bool:=!(a == sysModules) && match K.lookup a with
 | some ⟨c,none,.dict es _,sl⟩=>(c == .type "dict") && sl.isEmpty && entsIn K es.toList t
 | _=>false
theorem ints_vals:∀ {vs:List Value} {l:List Int},intsIn vs l=true→Vals (l.map V.int) vs
 | [],[],_=>.nil
 | v :: vs,[],h=>by cases v <;> cases h
 | [],j :: l,h=>by cases h
 | v :: vs,j :: l,h=>by
  cases v with
  | int i t =>
   have h:((i == j) && intsIn vs l)=true:=h
   rw [Bool.and_eq_true,beq_iff_eq] at h
   obtain ⟨rfl,h'⟩:=h
   exact .cons ⟨t,rfl⟩ (ints_vals h')
  | _=>cases h
theorem tup_in {K:PySem.W.Frag} {H:Hp} {b:Addr} {l:List Int} (h:tupIn K b l=true):SqT K H b (l.map V.int):=by
 unfold tupIn at h
 split at h
 ·rename_i c d its n sl e
  rw [Bool.and_eq_true,Bool.and_eq_true,beq_iff_eq,decide_eq_true_iff] at h
  obtain ⟨⟨rfl,h1⟩,h2⟩:=h
  exact .inr ⟨_,its,n,e,rfl,rfl,h2,ints_vals h1⟩
 ·cases h
theorem ent_in {K:PySem.W.Frag} {e:DictEntry} {k:Int} {l:List Int} (h:entIn K e k l=true):∃ t b,e=⟨hashInt k,.int k t,.ref b⟩∧tupIn K b l=true:=by
 unfold entIn at h
 split at h
 ·rename_i hh i t b
  rw [Bool.and_eq_true,Bool.and_eq_true,beq_iff_eq,beq_iff_eq] at h
  obtain ⟨⟨rfl,rfl⟩,h⟩:=h
  exact ⟨t,b,rfl,h⟩
 ·cases h
theorem ents_keys {K:PySem.W.Frag}:∀ {es:List DictEntry} {t:List (Int×List Int)},entsIn K es t=true→∀ e∈es,∃ k t,e.key=.int k t∧e.hash=hashInt k
 | [],_,_=>fun e he=>by cases he
 | e :: es,[],h=>by cases h
 | e :: es,p :: t,h=>fun x hx=>by
  have h:(entIn K e p.1 p.2 && entsIn K es t)=true:=h
  rw [Bool.and_eq_true] at h
  rcases List.mem_cons.mp hx with rfl | hx
  ·obtain ⟨tk,b,rfl,_⟩:=ent_in h.1
   exact ⟨_,tk,rfl,rfl⟩
  ·exact ents_keys h.2 x hx
theorem ents_find {K:PySem.W.Frag} (k:Int):∀ {es:List DictEntry} {t:List (Int×List Int)},entsIn K es t=true→(match tabF t k with
  | none=>es.find? (fun e=>Value.isInt k e.key)=none
  | some l=>∃ e b,es.find? (fun e=>Value.isInt k e.key)=some e∧e.val=.ref b∧tupIn K b l=true)
 | [],[],_=>by unfold tabF; rfl
 | [],p :: t,h=>by cases h
 | e :: es,[],h=>by cases h
 | e :: es,p :: t,h=>by
  have h:(entIn K e p.1 p.2 && entsIn K es t)=true:=h
  rw [Bool.and_eq_true] at h
  obtain ⟨tk,b,rfl,hb⟩:=ent_in h.1
  have ih:=ents_find k h.2
  unfold tabF
  by_cases hk:k=p.1
  ·rw [if_pos hk]
   refine ⟨⟨hashInt p.1,.int p.1 tk,.ref b⟩,b,?_,rfl,hb⟩
   rw [List.find?_cons_of_pos]
   subst hk
   simp [Value.isInt]
  ·rw [if_neg hk,List.find?_cons_of_neg]
   ·exact ih
   ·simp only [Value.isInt,beq_iff_eq]
    exact fun z=>hk z.symm
theorem dict_map {K:PySem.W.Frag} {h:Heap} {a:Addr} {t:List (Int×List Int)} {prog:Program} {w:World} (hk:K.In h) (hd:dictIn K a t=true):(a == sysModules)=false∧∃ f,h.MapOf (intKind prog w) a f∧∀ k,(match tabF t k with
  | none=>f k=none
  | some l=>∃ b,f k=some (.ref b)∧tupIn K b l=true):=by
 unfold dictIn at hd
 rw [Bool.and_eq_true] at hd
 obtain ⟨h0,h1⟩:=hd
 refine ⟨by simpa using h0,?_⟩
 split at h1
 ·rename_i c es n sl e
  rw [Bool.and_eq_true,Bool.and_eq_true,beq_iff_eq] at h1
  obtain ⟨⟨rfl,h2⟩,h3⟩:=h1
  have hs:sl=#[]:=by simpa using h2
  refine ⟨findBy Value.isInt es,Heap.IntMap.mapOf ⟨_,es,n,hk a _ e,rfl,rfl,fun x hx=>ents_keys h3 x (by simpa using hx),fun _=>rfl⟩ (fun o ho=>?_),fun k=>?_⟩
  ·rw [hk a _ e] at ho
   cases ho
   exact ⟨rfl,hs⟩
  ·have q:=ents_find k h3
   have ef:findBy Value.isInt es k=(es.toList.find? fun e=>Value.isInt k e.key).map (·.val):=by unfold findBy; rw [Array.find?_toList]
   cases z:tabF t k with
   | none =>
    rw [z] at q
    show findBy Value.isInt es k=none
    rw [ef,q]; rfl
   | some l =>
    rw [z] at q
    obtain ⟨e,b,q1,q2,q3⟩:=q
    refine ⟨b,?_,q3⟩
    rw [ef,q1,← q2]; rfl
 ·cases h1
noncomputable def fldD (t:List (Int×List Int)) (i:Int):D→List Cell→R D:=fun x c=>match x with
 | .int k=>match tabF t k with
  | some l=>match atI l i with
   | some z=>.ok (.int z) c
   | none=>.bad
  | none=>.bad
 | _=>.bad
noncomputable def inF (x:Str) (t:List (Int×List Int)):D→D→List Cell→R D:=fun a b c=>match a,b with
 | .int k,.fn y _=>if y=x then .ok (.bl (tabF t k).isSome) c else .bad
 | _,_=>.bad
section
variable {X:Cx} {x:Str} {ad:Addr} {t:List (Int×List Int)}
noncomputable def rDict (K:PySem.W.Frag) (ad:Addr) (t:List (Int×List Int)):R2:=fun x y H Q=>∃ k l,x=.ref ad∧y=.int k∧tabF t k=some l∧∀ b,SqT K H b (l.map V.int)→Q (.ref b) H
theorem ix_dict (ht:dictIn X.K ad t=true):IxR X (rDict X.K ad t):=by
 intro value slice pins s σ H x y v u Q I rx ry h hs
 obtain ⟨k,l,rfl,rfl,hl,q⟩:=h
 cases rx
 obtain ⟨tk,rfl⟩:=ry
 obtain ⟨_,f,hm,hf⟩:=dict_map (prog:=X.prog) (w:=X.w) I.kIn ht
 have hk:=hf k
 rw [hl] at hk
 obtain ⟨b,hb,tb⟩:=hk
 have fin:EP X pins σ Q (.ref b) { s with toks:=s.toks + 1 }:=⟨.ref b,H,I.tok _,rfl,q b (tup_in tb)⟩
 exact subscriptTail_builtinR (x:=.ref b) hm.typeIs slot_dict_getitem.lookup (wpAny_getItem_of (key:=.int k tk) (by simp [intKind,Value.isInt]) hm hb ⟨rfl,fin⟩) hs
theorem pd_fld {a:Expr} {da:Ev→List Cell→R D} {i:Int} {j p1 p2 p3 p4} (hm:X.mg x=some (.ref ad)) (ht:dictIn X.K ad t=true) (ha:PEd X a da) (hg:Gl X x:=by rfl) (hd:(x == ("__debug__":Str))=false:=by decide) (hs:PlainIx a:=by exact fun _ _=>rfl) :
  PEd X (.Subscript (.Subscript (.Name x p1) a p2) (.Constant (.int i) j p3) p4) (dUn (fldD t i) da) :=
 (pe_ix ix_tup (pe_ix (ix_dict ht) (pe_glob (v:=.ref ad) hg hm rfl hd) ha hs) pe_int (fun _ _=>rfl)).imp fun σ H Q h=>by
  obtain ⟨ρ,e,c,W,V,p⟩:=h
  refine ⟨ρ,e,c,W,V,post.bind p fun x c1 ρ1 H1 v ex W1 X1 r1 p1=>?_⟩
  clear ex
  unfold fldD at p1
  split at p1
  ·rename_i k
   cases r1
   split at p1
   ·rename_i l hl
    split at p1
    ·rename_i z hz
     refine ⟨k,l,rfl,rfl,hl,fun b hb=>⟨b,_,i,.int z,rfl,rfl,hb,?_,p1.here W1 rfl⟩⟩
     unfold atI at hz ⊢
     rw [List.length_map]
     cases e:ixN l.length i with
     | none=>rw [e] at hz; cases hz
     | some j =>
      rw [e] at hz
      have hz:l[j]? = some z:=hz
      show (l.map L2.V.int)[j]? = _
      rw [List.getElem?_map,hz]; rfl
    ·exact p1.elim
   ·exact p1.elim
  ·exact p1.elim
theorem pd_gname {y:Str} {C:Addr} {pos:Pos} (hm:X.mg y=some (.ref C)) (hn:PySem.W.nsIn X.K mainGlobals y=some (some (.ref C))) (hg:Gl X y:=by rfl) (hd:(y == ("__debug__":Str))=false:=by decide):PEd X (.Name y pos) (dC (.fn y 0)) :=
 pd_const (pe_glob (v:=.ref C) hg hm rfl hd) fun _ _=>⟨C,rfl,hn⟩
theorem od_inF (hn:PySem.W.nsIn X.K mainGlobals x=some (some (.ref ad))) (ht:dictIn X.K ad t=true):OpR X (compareOp .In) (r2 X.K (inF x t)):=by
 intro pins s σ H v u vv uu Q I rv ru h
 obtain ⟨ρ,a,b,c,W,rx,ry,p⟩:=h
 unfold inF at p
 split at p
 ·split at p
  ·rename_i k y n hy
   subst hy
   cases rx
   obtain ⟨a,rfl,hb⟩:=ry
   rw [hn] at hb
   cases hb
   obtain ⟨tk,rfl⟩:=rv
   cases ru
   obtain ⟨h0,f,hm,hf⟩:=dict_map (prog:=X.prog) (w:=X.w) I.kIn ht
   refine wpAny_in_of (key:=.int k tk) (k:=k) (by simp [intKind,Value.isInt]) h0 hm ?_
   have e:(f k).isSome=(tabF t k).isSome:=by
    have:=hf k
    cases z:tabF t k with
    | none=>rw [z] at this; have this:f k=none:=this; rw [this]; rfl
    | some l=>rw [z] at this; obtain ⟨b,hb,_⟩:=this; rw [hb]; rfl
   rw [e]
   exact ⟨.bl _,H,I.tok _,rfl,p.here W rfl⟩
  ·exact p.elim
 ·exact p.elim
end
theorem pd_fn0 {X:Cx} {x:Str} {st:Stmt} {f:Addr} {fd:FuncData} {k:Nat} {m:List D→List Cell→R D} {p pos:Pos} (D:Def X.K X.mg x st [] f fd) (G:FnOk X.prog X.w X.K X.mg X.base CX0 k f fd [] (spD X.K 0 m)) (hr:Room k X.A) (hg:Gl X x:=by rfl) (hdb:(x == ("__debug__":Str))=false:=by decide) :
  PEd X (.Call (.Name x p) [] [] pos) (dCall 0 m dNil):=(pe_call0 G hr hg D.at' D.fn.kp D.bd .nil pass0 hdb).imp fun σ H Q h=>by
 obtain ⟨ρ,e,c,W,V,q⟩:=h
 have q:post X.K (Rel X.K) (m [] c) ρ H Q:=q
 exact ⟨ρ,[],c,W,rfl,rfl,q⟩
noncomputable def repD:D→D→List Cell→R D:=fun x y c=>match x,y with
 | .lst l,.int k=>if -(2 ^ 63)≤k∧k < 2 ^ 63∧l.length * k.toNat≤sizeLine then .ok (.lst (List.replicate k.toNat l).flatten) c else .bad
 | _,_=>.bad
theorem Rels.rep {K:PySem.W.Frag} {ρ:List Addr} {H:Hp} {l:List D} {xs:List V} (r:Rels K ρ H l xs):∀ n:Nat,Rels K ρ H (List.replicate n l).flatten (List.replicate n xs).flatten
 | 0=>rfl
 | n + 1=>by
  rw [List.replicate_succ,List.replicate_succ,List.flatten_cons,List.flatten_cons]
  exact Rels.append r (Rels.rep r n)
theorem od_rep {X:Cx}:OpR X (binaryOp .Mult) (r2 X.K repD):=by
 intro pins s σ H v u vv uu Q I rv ru h
 obtain ⟨ρ,x,y,c,W,rx,ry,p⟩:=h
 unfold repD at p
 split at p
 ·split at p
  ·rename_i hl
   obtain ⟨a,xs,rfl,sa,ra⟩:=rx
   cases ry
   exact op_rep pins s σ H _ _ vv uu Q I rv ru ⟨a,_,xs,rfl,rfl,sa.1,hl.1,hl.2.1,by rw [ra.length]; exact hl.2.2,new_lst W (Rels.rep ra _) p⟩
  ·exact p.elim
 ·exact p.elim
noncomputable def Itv (K:PySem.W.Frag) (a:Addr) (n:Nat):It :=
 ⟨fun i H=>i < n∧∃ xs x,SqL K H a xs∧xs[n - 1 - i]? = some x,fun i H x H'=>H'=H∧∀ xs,SqL K H a xs→xs[n - 1 - i]? = some x,fun i H=>i=n⟩
theorem turn_rev {P:Program} {w:World} {K:PySem.W.Frag} {tg:Expr} (a it:Addr) (n:Nat):Turn P w K tg (Itv K a n) [it] it (fun i h=>h.IsRevIter it a ((n:Int) - 1 - (i:Nat))) where
 mem:=by simp
 obj:=fun i h st b hb=>by
  have e:b=it:=by simpa using hb
  subst e
  obtain ⟨o,e,c,d⟩:=st
  exact ⟨o,e,fun v z=>by rw [d] at z; cases z⟩
 keep:=fun i h h' st k=>st.at fun o e=>k it (by simp) o e
 item:=by
  intro X hP hw hK hc i pins s σ H E I hf st hg
  subst hP hw hK
  obtain ⟨hi,xs,x,hq,hx⟩:=hg
  obtain ⟨its,rv,p,hz⟩:=I.list hq
  obtain ⟨u,hu,ru⟩:=rv.get hx
  obtain ⟨f0,f1,f2,f3,f4,f5⟩:=hf it (by simp)
  have e1:(n:Int) - 1 - (i:Nat)=((n - 1 - i:Nat):Int):=by omega
  rw [e1] at st
  refine wpAny_pyNext_rev_item st p.isList (x:=u) (by simpa using hu) fun h' st' sb=>?_
  have e2:((n - 1 - i:Nat):Int) - 1=(n:Int) - 1 - ((i + 1:Nat):Int):=by omega
  rw [e2] at st'
  have I1:Inv X pins σ H { s with heap:=h' }:=I.turned (t':=s.toks) (fun b o hb e=>(sb.2 b hb).trans e) f0 f1 f3 f4 f5
  obtain ⟨o,e,c,d⟩:=id st'
  exact ⟨u,rfl,go_of (s:={ s with heap:=h' }) e c d (by decide) ⟨x,H,I1,ru,⟨rfl,fun ys hy=>by rw [I.list_inj hy hq]; exact hx⟩,st',fun b hb=>(hf b hb).1⟩⟩
 done:=by
  intro X hP hw hK hc i pins s σ H E I hf st hg
  subst hP hw hK
  have hi:i=n:=hg
  subst hi
  obtain ⟨f0,f1,f2,f3,f4,f5⟩:=hf it (by simp)
  have e1:(i:Int) - 1 - (i:Nat) = -1:=by omega
  rw [e1] at st
  exact wpAny_pyNext_rev_end (I.ok.hd hc) st fun h' eb=>⟨rfl,I.turned (t':=s.toks) (fun b o hb e=>eb b o hb e) f0 f1 f3 f4 f5⟩
 self:=fun _ _ _ _ _ st h=>wpAny_pyIter_revIter st h
section
variable {X:Cx} {tg:Expr}
noncomputable def iRev (K:PySem.W.Frag) (ta:TA):TI:=fun σ H R=>ta σ H fun vs H1=>∃ a xs,vs=[.ref a]∧SqL K H1 a xs∧R (Itv K a xs.length) H1
theorem pi_rev {a:Expr} {ta:TA} {p pos:Pos} (hg:Gl X "reversed") (hm:X.mg "reversed"=none) (ha:PA X [a] ta) (hs:starEach [a] X.env=[(false,eval a X.env)]:=by rfl):PI X tg (.Call (.Name "reversed" p) [a] [] pos) (iRev X.K ta):=by
 intro pins s σ H R I h
 refine Call_ (ld_blt I hg hm boot_reversed (PyProof.Rows.callWith_type1 (thn (ha pos pins s σ H _ I h) fun us s1 ⟨vs,H1,I1,r1,q1⟩=>?_) hs rfl))
 obtain ⟨b,xs,e,hq,q⟩:=q1
 subst e
 cases r1 with
 | cons r rr =>
  cases rr
  cases r
  obtain ⟨its,rv,pl,hz⟩:=I1.list hq
  refine call_reversed_list pl.isList ?_
  have I2:Inv X pins σ H1 { s1 with heap:=s1.heap.push (revObj b ((its.toArray.size:Int) - 1)) }:=I1.kept (t':=s1.toks) fun b o e=>Heap.get?_push_of_some _ e
  have hl:=rv.length
  have st:(s1.heap.push (revObj b ((its.toArray.size:Int) - 1))).IsRevIter s1.heap.objs.size b ((xs.length:Int) - 1 - ((0:Nat):Int)):=⟨_,Heap.get?_push_size _ rfl,rfl,by
   have e:(xs.length:Int) - 1 - ((0:Nat):Int)=(its.toArray.size:Int) - 1:=by rw [List.size_toArray,← hl]; omega
   rw [e]; rfl⟩
  refine wpAny_pyIter_revIter st ?_
  refine ⟨s1.heap.objs.size,[s1.heap.objs.size],_,_,H1,rfl,I2,turn_rev b _ xs.length,st,fun c hb=>?_,q⟩
  have e:c=s1.heap.objs.size:=by simpa using hb
  subst e
  exact I1.fpOk (Nat.le_refl _) (I1.hok.fresh (Nat.le_refl _))
noncomputable def dRev (a:Ev→List Cell→R (List D)):Ev→List Cell→R Src:=fun e c=>(a e c).bind fun xs c=>match xs with
 | [.lst l]=>.ok ⟨l.reverse,fun _=>True⟩ c
 | _=>.bad
theorem id_rev {a:Expr} {da:Ev→List Cell→R (List D)} {p pos:Pos} (ha:PAd X [a] da) (hm:X.mg "reversed"=none) (hg:Gl X "reversed":=by rfl) (hs:starEach [a] X.env=[(false,eval a X.env)]:=by exact star1 rfl):PId X tg (.Call (.Name "reversed" p) [a] [] pos) (dRev da) :=
 (pi_rev hg hm ha hs).imp fun σ H Q h=>by
  obtain ⟨ρ,e,c,W,V,p⟩:=h
  refine ⟨ρ,e,c,W,V,post.bind p fun x c1 ρ1 H1 v ex W1 X1 r1 p1=>?_⟩
  clear ex
  split at p1
  ·rename_i l
   obtain ⟨y,ys,rfl,ry,rs⟩:=r1
   cases rs
   obtain ⟨a,xs,rfl,s,rl⟩:=ry
   refine ⟨a,xs,rfl,SqL.of s.1,p1.here W1 ?_⟩
   intro ρ' H' c' W' E _ i
   have sq:SqL X.K H' a xs:=SqL.of (lst_mono E s).1
   have rl':=Rels.mono W1 E _ _ rl
   have hln:=rl.length
   refine ⟨fun d hd=>?_,fun e=>?_⟩
   ·have hd:l.reverse[i]? = some d:=hd
    have hi:i < l.length:=by
     have:=(List.getElem?_eq_some_iff.mp hd).1
     simpa using this
    rw [List.getElem?_reverse hi] at hd
    obtain ⟨x,hx,rx⟩:=rl'.get hd
    rw [← hln] at hx
    refine ⟨⟨by rw [hln]; exact hi,xs,x,sq,hx⟩,fun y H2 hy=>?_⟩
    obtain ⟨rfl,hy⟩:=hy
    have:=hy xs sq
    rw [hx] at this; cases this
    exact ⟨W',Ext.refl,rx⟩
   ·have e:i=l.reverse.length:=e
    show i=xs.length
    rw [e,List.length_reverse,hln]
  ·exact p1.elim
end
section
variable (e:Ev) (c:List Cell) (l:Ev→List Cell→R (List D))
@[simp] theorem x_rev:dRev l e c=(l e c).bind fun xs c=>match xs with
 | [.lst l]=>.ok ⟨l.reverse,fun _=>True⟩ c
 | _=>.bad:=rfl
@[simp] theorem x_fld (t:List (Int×List Int)) (i k:Int):fldD t i (.int k) c=match tabF t k with
 | some l=>match atI l i with
  | some z=>.ok (.int z) c
  | none=>.bad
 | none=>.bad:=rfl
@[simp] theorem x_inF (x:Str) (t:List (Int×List Int)) (k:Int) (n:Nat):inF x t (.int k) (.fn x n) c=.ok (.bl (tabF t k).isSome) c:=by
 unfold inF; simp
@[simp] theorem x_rep (m:List D) (k:Int):repD (.lst m) (.int k) c=if -(2 ^ 63)≤k∧k < 2 ^ 63∧m.length * k.toNat≤sizeLine then .ok (.lst (List.replicate k.toNat m).flatten) c else .bad:=rfl
end
theorem comp_zip {st:List Cell→Prop} {c:List Cell} (hst:st c) {a:Ev→List Cell→R D} (h:Int→Int→Int) (rest:Ev):∀ (rx ry:List Int) (v0 v1:Option D) (acc:List D),
  (∀ x∈rx,∀ y∈ry,a (some (.int x) :: some (.int y) :: rest) c=.ok (.int (h x y)) c) →
  compD st (gdTup 2 (gdCons (gdName 0) (gdCons (gdName 1) gdNil))) dYes a (List.zipWith (fun x y=>D.tup [x,y]) (rx.map D.int) (ry.map D.int)) (v0 :: v1 :: rest) acc c=.ok (acc ++ (List.zipWith h rx ry).map D.int) c
 | [],ry,v0,v1,acc,_=>by simp [compD,hst]
 | x :: rx,[],v0,v1,acc,_=>by simp [compD,hst]
 | x :: rx,y :: ry,v0,v1,acc,hb=>by
  have ih:=comp_zip hst h rest rx ry (some (.int x)) (some (.int y)) (acc ++ [.int (h x y)]) fun u hu v hv=>hb u (List.mem_cons_of_mem _ hu) v (List.mem_cons_of_mem _ hv)
  have hxy:=hb x List.mem_cons_self y List.mem_cons_self
  simp only [List.map_cons,List.zipWith_cons_cons]
  unfold compD
  rw [if_pos hst]
  simp at ih
  simp [hxy,ih]
end L2
namespace L2
open PySem PySem.Spec PyProof.Rows
noncomputable def repM:D→D→List Cell→R D:=fun x y c=>match x,y with
 | .lst l,.int k=>if -(2 ^ 63)≤k∧k < 2 ^ 63∧l.length * k.toNat≤sizeLine∧noRefs l=true then .ok (.ref c.length) (c ++ [.lst (List.replicate k.toNat l).flatten]) else .bad
 | _,_=>.bad
noncomputable def dExtend (o a:Ev→List Cell→R D):Ev→List Cell→R D:=fun e c=>(o e c).bind fun x c=>match x with
 | .ref k=>(a e c).bind fun y c=>match y with
  | .lst m=>match c[k]? with
   | some (.lst l)=>if l.length + m.length≤sizeLine∧noRefs m=true then .ok .non (c.set k (.lst (l ++ m))) else .bad
   | none=>.bad
  | _=>.bad
 | _=>.bad
section
variable (e:Ev) (c:List Cell) (o a:Ev→List Cell→R D)
@[simp] theorem x_repM (m:List D) (k:Int):repM (.lst m) (.int k) c=if -(2 ^ 63)≤k∧k < 2 ^ 63∧m.length * k.toNat≤sizeLine∧noRefs m=true then .ok (.ref c.length) (c ++ [.lst (List.replicate k.toNat m).flatten]) else .bad:=rfl
end
theorem for_idx {α:Type} {st:List Cell→Prop} {g:Gd} {s:Ev→List Cell→R Fl} (C:Nat→List Cell) (E:Nat→α→Ev):∀ (items:List D) (k:Nat) (v:α),(∀ i,i≤items.length→st (C (k + i))) →
  (∀ i x,items[i]? = some x→∀ v,∃ e',g x (E (k + i) v) (C (k + i))=.ok e' (C (k + i))∧∃ v',s e' (C (k + i))=.ok (.nx (E (k + i + 1) v')) (C (k + i + 1))) →
  ∃ v',forD st g s items (E k v) (C k)=.ok (.nx (E (k + items.length) v')) (C (k + items.length))
 | [],k,v,hst,_=>⟨v,by
   have:=hst 0 (Nat.le_refl _)
   rw [Nat.add_zero] at this
   unfold forD
   rw [if_pos this]; rfl⟩
 | x :: xs,k,v,hst,h=>by
  obtain ⟨e',h1,v',h2⟩:=h 0 x rfl v
  obtain ⟨v2,h3⟩:=for_idx C E xs (k + 1) v' (fun i hi=>by
   have:=hst (i + 1) (by simp only [List.length_cons]; omega)
   rwa [show k + (i + 1)=k + 1 + i by omega] at this) (fun i y hy v=>by
   have:=h (i + 1) y (by simpa using hy) v
   rwa [show k + (i + 1)=k + 1 + i by omega] at this)
  refine ⟨v2,?_⟩
  unfold forD
  rw [if_pos (by have:=hst 0 (Nat.zero_le _); exact this)]
  rw [Nat.add_zero] at h1 h2
  rw [h1,R.bind_ok,h2]
  simp only [R.bind_ok]
  rw [h3,List.length_cons,show k + (xs.length + 1)=k + 1 + xs.length by omega]
theorem for_rng {α:Type} {g:Gd} {s:Ev→List Cell→R Fl} (C:Nat→List Cell) (E:Nat→α→Ev) {N:Int} {n:Nat} (hN:N=n) (v:α)
  (h:∀ i,i < n→∀ v,∃ e',g (.int (i:Nat)) (E i v) (C i)=.ok e' (C i)∧∃ v',s e' (C i)=.ok (.nx (E (i + 1) v')) (C (i + 1))) :
  ∃ v',forD (fun _=>True) g s (rngD 0 N) (E 0 v) (C 0)=.ok (.nx (E n v')) (C n):=by
 have hl:(rngD 0 N).length=n:=by rw [rng_len]; omega
 have:=for_idx (st:=fun _=>True) C E (rngD 0 N) 0 v (fun _ _=>trivial) (fun i x hx v=>by
  obtain ⟨h1,rfl⟩:=rng_get hx
  rw [Nat.zero_add,Int.zero_add]
  exact h i (by omega) v)
 rwa [hl,Nat.zero_add] at this
noncomputable def allInts:List Expr→Option (List Int)
 | []=>some []
 | e :: r=>match e with
  | .Constant (.int i) _ _=>(allInts r).map (i :: ·)
  | _=>none
noncomputable def dInts (l:List Int):Ev→List Cell→R (List D):=fun _ c=>.ok (l.map D.int) c
theorem pd_ints {X:Cx}:∀ {es:List Expr} {l:List Int},allInts es=some l→PAd X es (dInts l)
 | [],l,h=>by cases h; exact pd_nil
 | e :: es,l,h=>by
  unfold allInts at h
  split at h
  ·rename_i i j pos
   cases q:allInts es with
   | none=>rw [q] at h; cases h
   | some r =>
    rw [q] at h
    cases h
    exact pd_cons pd_int (pd_ints q) (starE rfl)
  ·cases h
@[simp] theorem x_ints (l:List Int) (e:Ev) (c:List Cell):dInts l e c=.ok (l.map D.int) c:=rfl
end L2
namespace L2
open PySem PySem.Spec PyProof.Rows
noncomputable def int1D:List D→List Cell→R D:=fun xs c=>match xs with
 | [.int i]=>.ok (.int i) c
 | [.bl k]=>.ok (.int (if k then 1 else 0)) c
 | _=>.bad
theorem cd_int1 {X:Cx}:CallR X (.type "int") (rN X.K int1D):=by
 intro pins s σ H vs us Q I rv h
 obtain ⟨ρ,xs,c,W,rx,p⟩:=h
 unfold int1D at p
 split at p
 ·obtain ⟨v,r,rfl,hx,hr⟩:=rx
  cases hr; cases hx
  exact call_int1 pins s σ H _ us Q I rv (.inl ⟨_,rfl,p.here W rfl⟩)
 ·obtain ⟨v,r,rfl,hx,hr⟩:=rx
  cases hr; cases hx
  exact call_int1 pins s σ H _ us Q I rv (.inr ⟨_,rfl,p.here W rfl⟩)
 ·exact p.elim
@[simp] theorem x_int1b (k:Bool) (c:List Cell):int1D [.bl k] c=.ok (.int (if k then 1 else 0)) c:=rfl
@[simp] theorem x_int1 (i:Int) (c:List Cell):int1D [.int i] c=.ok (.int i) c:=rfl
end L2
namespace L2
open PySem
noncomputable abbrev Up (l:List Nat):Prop:=l.Pairwise (· < ·)
theorem getD_list (xs:Array Nat) (i d:Nat):xs.getD i d=xs.toList.getD i d:=by
 simp [Array.getD_eq_getD_getElem?,List.getD_eq_getElem?_getD]
theorem up_lt {l:List Nat} (h:Up l) {i k:Nat} (hik:i < k) (hk:k < l.length):l.getD i 0 < l.getD k 0:=by
 have:=List.pairwise_iff_getElem.mp h i k (by omega) hk hik
 simpa [List.getD_eq_getElem?_getD,List.getElem?_eq_getElem hk,List.getElem?_eq_getElem (show i < l.length by omega)] using this
noncomputable def Parts (l:List Nat) (j p:Nat):Prop:=p≤l.length∧(∀ i,i < p→l.getD i 0 < j)∧∀ i,p≤i→i < l.length→j≤l.getD i 0
theorem below_go {xs:Array Nat} {j:Nat} (h:Up xs.toList):∀ fuel lo hi,lo≤hi→hi≤xs.toList.length→hi - lo≤fuel→(∀ i,i < lo→xs.toList.getD i 0 < j)→(∀ i,hi≤i→i < xs.toList.length→j≤xs.toList.getD i 0) →
  Parts xs.toList j (SetTable.below.go xs j fuel lo hi)
 | 0,lo,hi,h1,h2,h3,h4,h5=>⟨by unfold SetTable.below.go; omega,fun i hi'=>h4 i (by unfold SetTable.below.go at hi'; exact hi'),fun i hi'=>h5 i (by unfold SetTable.below.go at hi'; omega)⟩
 | fuel + 1,lo,hi,h1,h2,h3,h4,h5=>by
  unfold SetTable.below.go
  by_cases hl:lo < hi
  ·rw [if_pos hl]
   dsimp only
   have hm:(lo + hi) / 2 < xs.toList.length:=by omega
   have he:xs.getD ((lo + hi) / 2) j=xs.toList.getD ((lo + hi) / 2) 0:=by
    rw [getD_list]; simp [List.getD_eq_getElem?_getD,List.getElem?_eq_getElem hm]
   rw [he]
   by_cases hc:xs.toList.getD ((lo + hi) / 2) 0 < j
   ·rw [if_pos hc]
    refine below_go h fuel _ _ (by omega) h2 (by omega) (fun i hi'=>?_) h5
    by_cases hq:i=(lo + hi) / 2
    ·rw [hq]; exact hc
    ·exact Nat.lt_trans (up_lt h (show i < (lo + hi) / 2 by omega) hm) hc
   ·rw [if_neg hc]
    refine below_go h fuel _ _ (by omega) (by omega) (by omega) h4 (fun i hi' hl'=>?_)
    by_cases hq:i=(lo + hi) / 2
    ·rw [hq]; omega
    ·exact Nat.le_trans (by omega) (Nat.le_of_lt (up_lt h (show (lo + hi) / 2 < i by omega) hl'))
  ·rw [if_neg hl]
   exact ⟨by omega,h4,fun i hi'=>h5 i (by omega)⟩
theorem below_parts {xs:Array Nat} (h:Up xs.toList) (j:Nat):Parts xs.toList j (SetTable.below xs j):=by
 unfold SetTable.below
 exact below_go h _ _ _ (Nat.zero_le _) (by simp) (by simp) (fun i hi=>absurd hi (Nat.not_lt_zero _)) (fun i h1 h2=>by simp at h2; omega)
theorem below_zero {xs:Array Nat} (h:Up xs.toList):SetTable.below xs 0=0:=by
 obtain ⟨_,h2,_⟩:=below_parts h 0
 rcases Nat.eq_zero_or_pos (SetTable.below xs 0) with e | e
 ·exact e
 ·exact absurd (h2 0 e) (Nat.not_lt_zero _)
theorem below_next {xs:Array Nat} (h:Up xs.toList) {i:Nat} (hi:i < xs.toList.length):SetTable.below xs (xs.toList.getD i 0 + 1)=i + 1:=by
 obtain ⟨h1,h2,h3⟩:=below_parts h (xs.toList.getD i 0 + 1)
 rcases Nat.lt_trichotomy (SetTable.below xs (xs.toList.getD i 0 + 1)) (i + 1) with e | e | e
 ·have:=h3 i (by omega) hi; omega
 ·exact e
 ·have a:=h2 (i + 1) e
  have b:=up_lt h (show i < i + 1 by omega) (show i + 1 < xs.toList.length by omega)
  omega
theorem below_mem {xs:Array Nat} (h:Up xs.toList) {j:Nat} (hj:j∈xs.toList):xs[SetTable.below xs j]? = some j:=by
 obtain ⟨i,hi,e⟩:=List.getElem_of_mem hj
 obtain ⟨h1,h2,h3⟩:=below_parts h j
 have e':xs.toList.getD i 0=j:=by rw [List.getD_eq_getElem?_getD,List.getElem?_eq_getElem hi]; exact e
 have hp:SetTable.below xs j=i:=by
  rcases Nat.lt_trichotomy (SetTable.below xs j) i with q | q | q
  ·have a:=h3 (SetTable.below xs j) (Nat.le_refl _) (by omega)
   have b:=up_lt h q hi
   omega
  ·exact q
  ·have a:=h2 i q; omega
 rw [hp,← Array.getElem?_toList,List.getElem?_eq_getElem hi,e]
theorem up_put {xs:Array Nat} (h:Up xs.toList) {j:Nat} (hj:j∉xs.toList):Up (SetTable.insertAt xs (SetTable.below xs j) j).toList:=by
 rw [SetTable.toList_insertAt]
 obtain ⟨h1,h2,h3⟩:=below_parts h j
 generalize SetTable.below xs j=p at h1 h2 h3
 have ht:∀ a∈xs.toList.take p,a < j:=by
  intro a ha
  obtain ⟨i,hi,e⟩:=List.getElem_of_mem ha
  have hi':i < p∧i < xs.toList.length:=by simp at hi ⊢; omega
  have:=h2 i hi'.1
  rw [List.getElem_take] at e
  rw [List.getD_eq_getElem?_getD,List.getElem?_eq_getElem hi'.2] at this
  simpa [← e] using this
 have hd:∀ a∈xs.toList.drop p,j < a:=by
  intro a ha
  have hm:a∈xs.toList:=List.mem_of_mem_drop ha
  obtain ⟨i,hi,e⟩:=List.getElem_of_mem ha
  have hi':p + i < xs.toList.length:=by simp at hi ⊢; omega
  have:=h3 (p + i) (by omega) hi'
  rw [List.getElem_drop] at e
  rw [List.getD_eq_getElem?_getD,List.getElem?_eq_getElem hi'] at this
  have hle:j≤a:=by simpa [← e] using this
  exact Nat.lt_of_le_of_ne hle fun q=>hj (q ▸ hm)
 refine List.pairwise_append.mpr ⟨h.sublist (List.take_sublist _ _),List.pairwise_cons.mpr ⟨hd,h.sublist (List.drop_sublist _ _)⟩,fun a ha b hb=>?_⟩
 rcases List.mem_cons.mp hb with rfl | hb
 ·exact ht a ha
 ·exact Nat.lt_trans (ht a ha) (hd b hb)
theorem pigeon:∀ (n:Nat) (l:List Nat),(∀ j,j < n→j∈l)→n≤l.length
 | 0,_,_=>Nat.zero_le _
 | n + 1,l,h=>by
  have hn:=h n (Nat.lt_succ_self _)
  have:=pigeon n (l.erase n) fun j hj=>(List.mem_erase_of_ne (by omega)).mpr (h j (by omega))
  rw [List.length_erase_of_mem hn] at this
  have:=List.length_pos_of_mem hn
  omega
noncomputable def cov (mask:Nat):Nat→Nat→Nat→Nat→Nat→Nat→Bool
 | 0,_,_,_,_,_=>false
 | n + 1,j,more,i,q,acc =>
  if acc ||| (1 <<< j)=2 ^ (mask + 1) - 1 then true
  else if more > 0 then cov mask n (j + 1) (more - 1) i q (acc ||| (1 <<< j))
  else cov mask n ((i * 5 + 1 + q / 32) % (mask + 1)) (SetTable.runEnd mask ((i * 5 + 1 + q / 32) % (mask + 1)) - (i * 5 + 1 + q / 32) % (mask + 1)) ((i * 5 + 1 + q / 32) % (mask + 1)) (q / 32) (acc ||| (1 <<< j))
noncomputable def covAll (mask:Nat):Bool:=(List.range 128).all fun h=>cov mask (10 * (mask + 15)) (h % (mask + 1)) (SetTable.runEnd mask (h % (mask + 1)) - h % (mask + 1)) (h % (mask + 1)) h 0
noncomputable def covR (mask:Nat):Nat→Nat→Nat→Nat→Bool
 | 0,_,_,_=>false
 | n + 1,i,q,acc =>
  if acc ||| ((2 ^ (SetTable.runEnd mask i + 1 - i) - 1) <<< i)=2 ^ (mask + 1) - 1 then true
  else covR mask n ((i * 5 + 1 + q / 32) % (mask + 1)) (q / 32) (acc ||| ((2 ^ (SetTable.runEnd mask i + 1 - i) - 1) <<< i))
noncomputable def covRAll (mask:Nat):Bool:=(List.range 128).all fun h=>covR mask (mask + 15) (h % (mask + 1)) h 0
theorem cov7:covAll 7=true:=by decide +kernel
theorem cov31:covAll 31=true:=by decide +kernel
theorem cov127:covAll 127=true:=by decide +kernel
theorem covR31:covRAll 31=true:=by decide +kernel
theorem covR127:covRAll 127=true:=by decide +kernel
end L2
namespace L2
open PySem
theorem bit_step (acc j k:Nat):(acc ||| (1 <<< j)).testBit k=(acc.testBit k || decide (k=j)):=by
 rw [Nat.testBit_or,Nat.one_shiftLeft,Nat.testBit_two_pow]
 by_cases h:j=k
 ·subst h; simp
 ·simp [h,Ne.symm h]
theorem cov_le {mask:Nat}:∀ n j more i q acc,cov mask n j more i q acc=true→∀ k,acc.testBit k=true→k≤mask
 | 0,_,_,_,_,_,h,_,_=>by cases h
 | n + 1,j,more,i,q,acc,h,k,hk=>by
  have hk':(acc ||| (1 <<< j)).testBit k=true:=by rw [bit_step,hk]; rfl
  unfold cov at h
  split at h
  ·rename_i e
   rw [e,Nat.testBit_two_pow_sub_one] at hk'
   have:=of_decide_eq_true hk'; omega
  ·split at h
   ·exact cov_le _ _ _ _ _ _ h k hk'
   ·exact cov_le _ _ _ _ _ _ h k hk'
theorem slot_two {t:SetTable} (hd:t.dummies=#[]) (j:Nat):t.slot j=.empty∨∃ i,t.slot j=.live i:=by
 unfold SetTable.slot
 dsimp only
 split
 ·exact .inr ⟨_,rfl⟩
 ·rw [hd]
  exact .inl rfl
theorem go_finds {t:SetTable} {h:Int} (hd:t.dummies=#[]):∀ n (p:SetTable.Probe) acc fuel,cov t.mask n p.j p.more p.i p.perturb acc=true→p.dummy=none→n≤fuel →
  (∀ k,acc.testBit k=true→t.slot k≠.empty)→(∃ j,j≤t.mask∧t.slot j=.empty) →
  ∃ j,SetTable.probe.go t (fun _=>h + 1) h fuel p=some (.empty j none)∧t.slot j=.empty∧j≤t.mask
 | 0,_,_,_,h,_,_,_,_=>by simp [cov] at h
 | n + 1,p,acc,0,_,_,h,_,_=>by omega
 | n + 1,p,acc,fuel + 1,hc,hn,hf,ha,hj=>by
  have hle:p.j≤t.mask:=by
   have hk':(acc ||| (1 <<< p.j)).testBit p.j=true:=by rw [bit_step]; simp
   unfold cov at hc
   split at hc
   ·rename_i e
    rw [e,Nat.testBit_two_pow_sub_one] at hk'
    have:=of_decide_eq_true hk'; omega
   ·split at hc
    ·exact cov_le _ _ _ _ _ _ hc _ hk'
    ·exact cov_le _ _ _ _ _ _ hc _ hk'
  unfold SetTable.probe.go
  rcases slot_two hd p.j with e | ⟨i,e⟩
  ·rw [e]
   dsimp only
   exact ⟨p.j,by rw [hn],e,hle⟩
  ·rw [e]
   dsimp only
   have hne:(h + 1 == h)=false:=by simp; omega
   rw [hne]
   simp only [Bool.false_eq_true,if_false]
   have ha':∀ k,(acc ||| (1 <<< p.j)).testBit k=true→t.slot k≠.empty:=by
    intro k hk
    rw [bit_step,Bool.or_eq_true,decide_eq_true_eq] at hk
    rcases hk with hk | rfl
    ·exact ha k hk
    ·rw [e]; intro q; cases q
   unfold cov at hc
   split at hc
   ·rename_i ef
    obtain ⟨j0,h0,e0⟩:=hj
    exact absurd e0 (ha' j0 (by rw [ef,Nat.testBit_two_pow_sub_one]; exact decide_eq_true (by omega)))
   ·split at hc
    ·rename_i hm
     have hadv:t.advance p={ p with j:=p.j + 1,more:=p.more - 1 }:=by unfold SetTable.advance; rw [if_pos hm]
     rw [hadv]
     exact go_finds hd n _ _ fuel hc hn (by omega) ha' hj
    ·rename_i hm
     have hadv:t.advance p={ p with j:=(p.i * 5 + 1 + p.perturb / 32) % (t.mask + 1),more:=SetTable.runEnd t.mask ((p.i * 5 + 1 + p.perturb / 32) % (t.mask + 1)) - (p.i * 5 + 1 + p.perturb / 32) % (t.mask + 1),i:=(p.i * 5 + 1 + p.perturb / 32) % (t.mask + 1),perturb:=p.perturb / 32 }:=by
      unfold SetTable.advance; rw [if_neg hm]; rfl
     rw [hadv]
     exact go_finds hd n _ _ fuel hc hn (by omega) ha' hj
theorem bits_small {n:Nat} (h:n < 128):SetTable.bits (n:Int)=n:=by
 unfold SetTable.bits
 have:((n:Int) % (2 ^ 64:Int))=n:=Int.emod_eq_of_lt (by omega) (by omega)
 rw [this]; rfl
noncomputable def okMask (m:Nat):Prop:=m=7∨m=31∨m=127
theorem cov_of {m:Nat} (h:okMask m) {n:Nat} (hn:n < 128):cov m (10 * (m + 15)) (n % (m + 1)) (SetTable.runEnd m (n % (m + 1)) - n % (m + 1)) (n % (m + 1)) n 0=true:=by
 have:covAll m=true:=h.elim (fun e=>e ▸ cov7) fun h=>h.elim (fun e=>e ▸ cov31) fun e=>e ▸ cov127
 exact List.all_eq_true.mp this n (List.mem_range.mpr hn)
theorem free_slot {t:SetTable} {n:Nat} (hd:t.dummies=#[]) (hm:okMask t.mask) (hn:n < 128) (hs:t.place.toList.length≤t.mask) (hu:Up t.place.toList) :
  ∃ j,t.freeSlot (n:Int)=some (j,false)∧j∉t.place.toList∧j≤t.mask:=by
 have hmem:∀ j,t.slot j=.empty→j∉t.place.toList:=by
  intro j e hj
  unfold SetTable.slot at e
  dsimp only at e
  rw [below_mem hu hj] at e
  simp at e
 have hemp:∀ j,j∉t.place.toList→t.slot j=.empty:=by
  intro j hj
  rcases slot_two hd j with e | ⟨i,e⟩
  ·exact e
  ·unfold SetTable.slot at e
   dsimp only at e
   split at e
   ·rename_i q
    have:=eq_of_beq q
    rw [← Array.getElem?_toList] at this
    exact absurd (List.mem_of_getElem? this) hj
   ·split at e <;> cases e
 have hex:∃ j,j≤t.mask∧t.slot j=.empty:=by
  by_cases q:∃ j,j≤t.mask∧j∉t.place.toList
  ·obtain ⟨j,a,b⟩:=q; exact ⟨j,a,hemp j b⟩
  ·have:=pigeon (t.mask + 1) t.place.toList fun j hj=>Classical.byContradiction fun x=>q ⟨j,by omega,x⟩
   omega
 have hb:=bits_small hn
 obtain ⟨j,e,e1,e2⟩:=go_finds (t:=t) (h:=(n:Int)) hd (10 * (t.mask + 15)) (t.probeStart n) 0 (10 * SetTable.turns t.mask)
  (by show cov _ _ (SetTable.bits n % _) (SetTable.runEnd t.mask (SetTable.bits n % (t.mask + 1)) - SetTable.bits n % (t.mask + 1)) (SetTable.bits n % _) (SetTable.bits n) _=true; rw [hb]; exact cov_of hm hn) rfl (Nat.le_refl _) (fun k hk=>by simp at hk) hex
 refine ⟨j,?_,hmem j e1,e2⟩
 unfold SetTable.freeSlot SetTable.probe
 rw [e]
 rfl
theorem run_bit (c i k:Nat):((2 ^ c - 1) <<< i).testBit k=decide (i≤k∧k < i + c):=by
 rw [Nat.testBit_shiftLeft,Nat.testBit_two_pow_sub_one]
 by_cases h:i≤k
 ·simp only [ge_iff_le,h,decide_true,Bool.true_and,true_and]
  exact decide_eq_decide.mpr (by omega)
 ·simp [h]
theorem lay_free {mask:Nat} {owner:Array (Option Nat)}:∀ n i q acc fuel,covR mask n i q acc=true→n≤fuel→(∀ k,k≤mask→acc.testBit k=true→owner.getD k (some 0)≠none) →
  (∃ j,j≤mask∧owner.getD j (some 0)=none)→∃ j,SetTable.layClean.free mask owner fuel i q=some j∧owner.getD j (some 0)=none
 | 0,_,_,_,_,h,_,_,_=>by simp [covR] at h
 | n + 1,i,q,acc,0,_,h,_,_=>by omega
 | n + 1,i,q,acc,fuel + 1,hc,hf,ha,hj=>by
  unfold SetTable.layClean.free
  cases hr:(List.range (SetTable.runEnd mask i + 1 - i)).find? (fun k=>(owner.getD (i + k) (some 0)).isNone) with
  | some k =>
   dsimp only
   have:=List.find?_some hr
   exact ⟨i + k,rfl,by simpa using this⟩
  | none =>
   dsimp only
   have hno:=List.find?_eq_none.mp hr
   have ha':∀ k,k≤mask→(acc ||| ((2 ^ (SetTable.runEnd mask i + 1 - i) - 1) <<< i)).testBit k=true→owner.getD k (some 0)≠none:=by
    intro k hk hb
    rw [Nat.testBit_or,run_bit,Bool.or_eq_true,decide_eq_true_eq] at hb
    rcases hb with hb | hb
    ·exact ha k hk hb
    ·intro e
     have:=hno (k - i) (List.mem_range.mpr (by omega))
     rw [show i + (k - i)=k by omega,e] at this
     exact this rfl
   unfold covR at hc
   split at hc
   ·rename_i ef
    obtain ⟨j0,h0,e0⟩:=hj
    exact absurd e0 (ha' j0 h0 (by rw [ef,Nat.testBit_two_pow_sub_one]; exact decide_eq_true (by omega)))
   ·exact lay_free n _ _ _ fuel hc (by omega) ha' hj
noncomputable def okMask2 (m:Nat):Prop:=m=31∨m=127
theorem covR_of {m:Nat} (h:okMask2 m) {n:Nat} (hn:n < 128):covR m (m + 15) (n % (m + 1)) n 0=true:=by
 have:covRAll m=true:=h.elim (fun e=>e ▸ covR31) fun e=>e ▸ covR127
 exact List.all_eq_true.mp this n (List.mem_range.mpr hn)
theorem filt_set:∀ (l:List (Option Nat)) (j k:Nat),j < l.length→l.getD j (some 0)=none→((l.set j (some k)).filterMap id).Perm (k :: l.filterMap id)
 | [],_,_,h,_=>absurd h (Nat.not_lt_zero _)
 | x :: l,0,k,_,e=>by
  have:x=none:=by simpa using e
  subst this
  simp
 | x :: l,j + 1,k,h,e=>by
  have ih:=filt_set l j k (by simpa using h) (by simpa using e)
  rw [List.set_cons_succ]
  cases x with
  | none=>simpa using ih
  | some a =>
   simp only [List.filterMap_cons,id]
   exact (ih.cons a).trans (List.Perm.swap _ _ _)
theorem filt_full:∀ (l:List (Option Nat)),(∀ j,j < l.length→l.getD j (some 0)≠none)→(l.filterMap id).length=l.length
 | [],_=>rfl
 | x :: l,h=>by
  cases x with
  | none=>exact absurd rfl (h 0 (by simp))
  | some a =>
   have:=filt_full l fun j hj=>by simpa using h (j + 1) (by simpa using hj)
   simp [this]
noncomputable def LayI (mask:Nat) (owner:Array (Option Nat)) (k:Nat):Prop:=owner.toList.length=mask + 1∧(owner.toList.filterMap id).Perm (List.range k)
theorem getD_opt (xs:Array (Option Nat)) (i:Nat) (d:Option Nat):xs.getD i d=xs.toList.getD i d:=by
 simp [Array.getD_eq_getD_getElem?,List.getD_eq_getElem?_getD]
theorem lay_step {mask:Nat} {owner:Array (Option Nat)} {k n:Nat} (hm:okMask2 mask) (hn:n < 128) (I:LayI mask owner k) (hk:k≤mask) :
  ∃ j,SetTable.layClean.free mask owner (SetTable.turns mask) (SetTable.bits n % (mask + 1)) (SetTable.bits n)=some j∧LayI mask (owner.setIfInBounds j (some k)) (k + 1):=by
 obtain ⟨h1,h2⟩:=I
 have hex:∃ j,j≤mask∧owner.getD j (some 0)=none:=by
  by_cases q:∃ j,j≤mask∧owner.getD j (some 0)=none
  ·exact q
  ·have:=filt_full owner.toList fun j hj e=>q ⟨j,by omega,by rw [getD_opt]; exact e⟩
   have h3:=h2.length_eq
   rw [List.length_range] at h3
   omega
 obtain ⟨j,e,e1⟩:=lay_free (mask + 15) _ _ 0 (SetTable.turns mask) (covR_of hm hn) (Nat.le_refl _) (fun k _ hb=>by simp at hb) hex
 refine ⟨j,by rw [bits_small hn]; exact e,by simpa using h1,?_⟩
 rw [getD_opt] at e1
 have hj:j < owner.toList.length:=by
  rcases Nat.lt_or_ge j owner.toList.length with q | q
  ·exact q
  ·rw [List.getD_eq_getElem?_getD,List.getElem?_eq_none q] at e1; cases e1
 rw [Array.toList_setIfInBounds]
 refine (filt_set _ j k hj e1).trans ?_
 rw [List.range_succ]
 exact (h2.cons k).trans (List.perm_append_singleton k _).symm
theorem lay_all {mask:Nat} (hm:okMask2 mask):∀ (hs:List Int) (owner:Array (Option Nat)) (k:Nat),(∀ h∈hs,∃ n:Nat,h=n∧n < 128)→LayI mask owner k→k + hs.length≤mask →
  ∃ ow,hs.foldl (fun acc h=>(do
   let (owner,k) ← acc
   let j ← SetTable.layClean.free mask owner (SetTable.turns mask) (SetTable.bits h % (mask + 1)) (SetTable.bits h)
   pure (owner.setIfInBounds j (some k),k + 1):Option (Array (Option Nat)×Nat))) (some (owner,k))=some (ow,k + hs.length)∧LayI mask ow (k + hs.length)
 | [],owner,k,_,I,_=>⟨owner,rfl,I⟩
 | h :: hs,owner,k,hh,I,hl=>by
  obtain ⟨n,e,hn⟩:=hh h (.head _)
  subst e
  simp only [List.length_cons] at hl
  obtain ⟨j,e,I'⟩:=lay_step hm hn I (by omega)
  obtain ⟨ow,e',I''⟩:=lay_all hm hs _ (k + 1) (fun h x=>hh h (.tail _ x)) I' (by omega)
  refine ⟨ow,?_,by rw [List.length_cons,show k + (hs.length + 1)=k + 1 + hs.length by omega]; exact I''⟩
  rw [List.foldl_cons,List.length_cons,show k + (hs.length + 1)=k + 1 + hs.length by omega,← e']
  congr 1
  show (do let j ← SetTable.layClean.free mask owner (SetTable.turns mask) (SetTable.bits n % (mask + 1)) (SetTable.bits n); pure (owner.setIfInBounds j (some k),k + 1):Option (Array (Option Nat)×Nat))=_
  rw [e]
  rfl
theorem lay_clean {mask:Nat} (hm:okMask2 mask) (hs:Array Int) (hh:∀ h∈hs.toList,∃ n:Nat,h=n∧n < 128) (hl:hs.toList.length≤mask) :
  ∃ ow,SetTable.layClean mask hs=some ow∧LayI mask ow hs.toList.length:=by
 obtain ⟨ow,e,I⟩:=lay_all hm hs.toList (Array.replicate (mask + 1) none) 0 hh ⟨by simp,by simp⟩ (by omega)
 rw [Nat.zero_add] at e I
 refine ⟨ow,?_,I⟩
 unfold SetTable.layClean
 rw [← Array.foldl_toList]
 exact congrArg (Option.map (fun x:Array (Option Nat)×Nat=>x.1)) e
theorem range_filt (l:List (Option Nat)):(List.range l.length).filterMap (fun j=>l.getD j none)=l.filterMap id:=by
 have:l=(List.range l.length).map (fun j=>l.getD j none):=by
  apply List.ext_getElem
  ·simp
  ·intro i h1 h2
   simp [List.getD_eq_getElem?_getD,List.getElem?_eq_getElem h1]
 conv=>rhs; rw [this]
 rw [List.filterMap_map]
 rfl
theorem laid_ok {mask:Nat} (hm:okMask2 mask) (f mv:Nat) (led plain:Bool) (hs:Array Int) (hh:∀ h∈hs.toList,∃ n:Nat,h=n∧n < 128) (hl:hs.toList.length≤mask) :
  ∃ place order,SetTable.laid mask f mv led plain hs=some ({ mask:=mask,place:=place,dummies:=#[],finger:=f,led:=led,moves:=mv,plain:=plain },order)∧Up place.toList∧(∀ j∈place.toList,j≤mask)∧place.size=hs.size∧order.toList.Perm (List.range hs.size):=by
 obtain ⟨ow,e,h1,h2⟩:=lay_clean hm hs hh hl
 refine ⟨(((List.range (mask + 1)).filterMap fun j=>(ow.getD j none).map (j,·)).map (·.1)).toArray,(((List.range (mask + 1)).filterMap fun j=>(ow.getD j none).map (j,·)).map (·.2)).toArray,?_,?_,?_,?_,?_⟩
 ·unfold SetTable.laid
  rw [e]
  rfl
 ·show Up ((((List.range (mask + 1)).filterMap fun j=>(ow.getD j none).map (j,·)).map (·.1)).toArray).toList
  show List.Pairwise _ _
  rw [List.pairwise_map]
  refine List.Pairwise.filterMap _ (fun a a' hlt b hb b' hb'=>?_) List.pairwise_lt_range
  cases ha:ow.getD a none <;> rw [ha] at hb <;> simp at hb
  cases ha':ow.getD a' none <;> rw [ha'] at hb' <;> simp at hb'
  rw [← hb,← hb']
  exact hlt
 ·intro j hj
  simp only [List.mem_map,List.mem_filterMap,List.mem_range] at hj
  obtain ⟨⟨a,b⟩,⟨c,hc,hq⟩,rfl⟩:=hj
  cases ha:ow.getD c none <;> rw [ha] at hq <;> simp at hq
  obtain ⟨rfl,_⟩:=hq
  omega
 ·have:((List.range (mask + 1)).filterMap fun j=>(ow.getD j none).map (j,·)).length=(ow.toList.filterMap id).length:=by
   rw [← range_filt,h1,← List.length_map (f:=Prod.snd),List.map_filterMap]
   congr 1
   congr 1
   funext j
   rw [getD_opt]
   cases ow.toList.getD j none <;> rfl
  rw [List.size_toArray,List.length_map,this,h2.length_eq,List.length_range]
  simp
 ·show (((List.range (mask + 1)).filterMap fun j=>(ow.getD j none).map (j,·)).map (·.2)).Perm _
  have:(((List.range (mask + 1)).filterMap fun j=>(ow.getD j none).map (j,·)).map (·.2))=ow.toList.filterMap id:=by
   rw [← range_filt,h1,List.map_filterMap]
   congr 1
   funext j
   rw [getD_opt]
   cases ow.toList.getD j none <;> rfl
  rw [this]
  simpa using h2
end L2
namespace L2
open PySem
structure TblI (t:SetTable) (n:Nat):Prop where
 size:t.place.size=n
 up:Up t.place.toList
 le:∀ j∈t.place.toList,j≤t.mask
 dm:t.dummies=#[]
 mask:(t.mask=7∧n≤4)∨(t.mask=31∧n≤18)∨(t.mask=127∧n≤76)
 plain:t.plain=true
theorem TblI.fits {t:SetTable} {n:Nat} (h:TblI t n):t.fits n=true:=by
 have:=h.mask
 simp only [SetTable.fits,SetTable.fill,h.size,h.dm,Bool.and_eq_true,beq_self_eq_true,true_and,decide_eq_true_eq]
 simp only [List.size_toArray,List.length_nil]
 omega
theorem ti_fresh (led:Bool):TblI (.fresh 0 0 led) 0:=⟨rfl,.nil,fun j h=>by simp [SetTable.fresh] at h,rfl,.inl ⟨rfl,by omega⟩,rfl⟩
noncomputable def HS (es:List (Int×Value)):Prop:=∀ e∈es,∃ n:Nat,e.1=n∧n < 128
theorem lay_new {t:SetTable} {es:Array (Int×Value)} {x:Value} {m:Nat} (I:TblI t es.size) (hm:m < 128) (hn:es.size < 64) :
  ∃ es1 t1,layNew t es (m:Int) x=(es1,t1,false,false)∧es1.size=es.size + 1∧t1.led=t.led∧t1.plain=true∧t1.place.size=es1.size∧Up t1.place.toList∧(∀ j∈t1.place.toList,j≤t1.mask)∧t1.dummies=#[]∧t1.mask=t.mask∧t1.fits es1.size=true:=by
 have hk:=I.mask
 have hok:okMask t.mask:=by unfold okMask; omega
 have hsz:=I.size
 obtain ⟨j,e,h1,h2⟩:=free_slot (t:=t) I.dm hok hm (by simp [hsz]; omega) I.up
 have hnd:(if SetTable.has t.dummies j then SetTable.eraseAt t.dummies (SetTable.below t.dummies j) else t.dummies)=#[]:=by
  rw [I.dm]; rfl
 have hs1:(SetTable.insertAt es (SetTable.below t.place j) ((m:Int),x)).size=es.size + 1:=by
  rw [← Array.length_toList,(SetTable.insertAt_perm ..).length_eq]; simp
 have hs2:(SetTable.insertAt t.place (SetTable.below t.place j) j).size=es.size + 1:=by
  rw [← Array.length_toList,(SetTable.insertAt_perm ..).length_eq]; simp [hsz]
 have hfit:(t.put j).1.fits (es.size + 1)=true:=by
  simp only [SetTable.put,SetTable.fits,SetTable.fill,hnd,hs2,Bool.and_eq_true,beq_self_eq_true,true_and,decide_eq_true_eq]
  simp only [List.size_toArray,List.length_nil]
  omega
 refine ⟨SetTable.insertAt es (SetTable.below t.place j) ((m:Int),x),(t.put j).1,?_,hs1,rfl,I.plain,?_,?_,?_,hnd,rfl,?_⟩
 ·unfold layNew
  rw [e]
  dsimp only
  have hp:(t.put j).2=SetTable.below t.place j:=rfl
  rw [hp,hs1]
  unfold SetTable.orStandIn
  rw [hfit]
  rfl
 ·rw [hs1]; exact hs2
 ·exact up_put I.up h1
 ·intro k hk'
  have:k∈(t.place.push j).toList:=(SetTable.insertAt_perm t.place (SetTable.below t.place j) j).mem_iff.mp hk'
  rw [Array.toList_push,List.mem_append,List.mem_singleton] at this
  rcases this with q | rfl
  ·exact I.le k q
  ·exact h2
 ·rw [hs1]; exact hfit
theorem relay_ok {t:SetTable} {es:Array (Int×Value)} (hp:t.plain=true) (hh:HS es.toList) (hm:(t.mask=7∧es.size=5)∨(t.mask=31∧es.size=19)) :
  ∃ es2 t2,relayAll t es (SetTable.grown es.size)=(es2,t2,false)∧es2.size=es.size∧TblI t2 es2.size∧t2.led=t.led:=by
 have hw:∃ m,SetTable.sizeAbove (SetTable.grown es.size) - 1=m∧((m=31∧es.size=5)∨(m=127∧es.size=19)):=by
  rcases hm with ⟨_,e⟩ | ⟨_,e⟩
  ·rw [e]; exact ⟨31,by decide,.inl ⟨rfl,rfl⟩⟩
  ·rw [e]; exact ⟨127,by decide,.inr ⟨rfl,rfl⟩⟩
 obtain ⟨m,ew,hq⟩:=hw
 have hs:(es.map (·.1)).toList=es.toList.map (·.1):=by simp
 obtain ⟨place,order,e,u1,u2,u3,u4⟩:=laid_ok (mask:=m) (by unfold okMask2; omega) t.finger (t.movedTo m) t.led t.plain (es.map (·.1)) (fun h hx=>by
  rw [hs,List.mem_map] at hx
  obtain ⟨y,hy,rfl⟩:=hx
  exact hh y hy) (by rw [hs,List.length_map,Array.length_toList]; omega)
 rw [Array.size_map] at u3 u4
 have hes:(order.filterMap (es[·]?)).size=es.size:=by
  rw [← Array.length_toList,Array.toList_filterMap]
  exact ((u4.filterMap _).trans (by rw [filterMap_getElem?_range])).length_eq
 have hfit:SetTable.fits { mask:=m,place:=place,dummies:=#[],finger:=t.finger,led:=t.led,moves:=t.movedTo m,plain:=t.plain } es.size=true:=by
  simp only [SetTable.fits,SetTable.fill,u3,Bool.and_eq_true,beq_self_eq_true,true_and,decide_eq_true_eq]
  simp only [List.size_toArray,List.length_nil]
  omega
 refine ⟨order.filterMap (es[·]?),{ mask:=m,place:=place,dummies:=#[],finger:=t.finger,led:=t.led,moves:=t.movedTo m,plain:=t.plain },?_,hes,?_,?_⟩
 rotate_left
 ·rw [hes]
  exact ⟨u3,u1,u2,rfl,.inr (by show (m=31∧_)∨(m=127∧_); omega),hp⟩
 ·rfl
 ·unfold relayAll SetTable.relaid
  rw [ew,e]
  dsimp only
  rw [hes,hfit]
  have hc:coversAll order es.size=true:=by unfold coversAll; exact List.isPerm_iff.mpr u4
  rw [hc]
  rfl
theorem full_cases {t t1:SetTable} {n:Nat} (I:TblI t n) (hm:t1.mask=t.mask) (hs:t1.place.size=n + 1) (hd:t1.dummies=#[]) (hn:n < 64) :
  (t1.tooFull=true→(t1.mask=7∧n + 1=5)∨(t1.mask=31∧n + 1=19))∧(t1.tooFull=false→((t1.mask=7∧n + 1≤4)∨(t1.mask=31∧n + 1≤18)∨(t1.mask=127∧n + 1≤76))):=by
 have hk:=I.mask
 have hz:(#[]:Array Nat).size=0:=rfl
 simp only [SetTable.tooFull,SetTable.fill,hs,hd,hm,hz,decide_eq_true_eq,decide_eq_false_iff_not]
 omega
end L2
namespace L2
open PySem
theorem hash_small {n:Nat} (h:n < 128):hashInt (n:Int)=n:=by
 have:((List.range 128).all fun n=>hashInt (n:Int) == (n:Int))=true:=by decide +kernel
 exact eq_of_beq (List.all_eq_true.mp this n (List.mem_range.mpr h))
noncomputable def byTx (w:World):Bool:=w.params.followText "set-order"
noncomputable def stepS (ns:List Nat) (x:Nat):List Nat:=if x∈ns then ns else ns ++ [x]
noncomputable def Smalls (l:List (Int×Value)) (ns:List Nat):Prop:=(l.map (·.1)).Perm (ns.map fun n:Nat=>(n:Int))∧∀ e∈l,∃ (n:Nat) (tk:Tok),e=((n:Int),.int n tk)∧n < 128
noncomputable def SetI (w:World) (h:Heap) (a:Addr) (ns:List Nat):Prop:=∃ o es ep t,h.get? a=some o∧o.ExactSet∧o.data=.set es ep t∧TblI t es.size∧t.led = !byTx w∧Smalls es.toList ns
theorem Smalls.hs {l:List (Int×Value)} {ns:List Nat} (h:Smalls l ns):HS l:=fun e he=>by
 obtain ⟨n,tk,rfl,hn⟩:=h.2 e he
 exact ⟨n,rfl,hn⟩
theorem Smalls.len {l:List (Int×Value)} {ns:List Nat} (h:Smalls l ns):l.length=ns.length:=by
 have:=h.1.length_eq; simpa using this
theorem Smalls.mem {l:List (Int×Value)} {ns:List Nat} (h:Smalls l ns) (n:Nat):n∈ns↔∃ e∈l,e.1=(n:Int):=by
 constructor
 ·intro hn
  have:(n:Int)∈l.map (·.1):=h.1.mem_iff.mpr (List.mem_map.mpr ⟨n,hn,rfl⟩)
  obtain ⟨e,he,q⟩:=List.mem_map.mp this
  exact ⟨e,he,q⟩
 ·rintro ⟨e,he,q⟩
  have:(n:Int)∈ns.map (fun n:Nat=>(n:Int)):=h.1.mem_iff.mp (List.mem_map.mpr ⟨e,he,q⟩)
  obtain ⟨m,hm,r⟩:=List.mem_map.mp this
  have:m=n:=by omega
  exact this ▸ hm
theorem Smalls.perm {l l':List (Int×Value)} {ns:List Nat} (h:Smalls l ns) (p:l'.Perm l):Smalls l' ns:=⟨(p.map _).trans h.1,fun e he=>h.2 e (p.mem_iff.mp he)⟩
theorem Smalls.push {l:List (Int×Value)} {ns:List Nat} (h:Smalls l ns) {m:Nat} (hm:m < 128) (tk:Tok):Smalls (l ++ [((m:Int),.int m tk)]) (ns ++ [m]):=by
 refine ⟨?_,fun e he=>?_⟩
 ·rw [List.map_append,List.map_append]
  exact h.1.append_right _
 ·rcases List.mem_append.mp he with he | he
  ·exact h.2 e he
  ·rw [List.mem_singleton] at he
   exact ⟨m,tk,he,hm⟩
section
variable {prog:Program} {w:World} {A:Around} {E:Value→Shared→Prop} {s:Shared}
theorem Smalls.els {l:List (Int×Value)} {ns:List Nat} (h:Smalls l ns):ElemsOf (intKind prog w) l:=fun e he=>by
 obtain ⟨n,tk,rfl,hn⟩:=h.2 e he
 exact ⟨⟨n,by simp [intKind,Value.isInt],(hash_small hn).symm⟩,rfl⟩
theorem put_at {h:Heap} {a:Addr} {o:Obj} {es es':Array (Int×Value)} {ep:Nat} {t t':SetTable} (ho:h.get? a=some o) (hd:o.data=.set es ep t) :
  (h.update a (Obj.putSet es' t')).get? a=some { o with data:=.set es' (ep + 1) t' }:=by
 have:=Heap.get?_update_self (Obj.putSet es' t') ho (by rw [putSet_of es' t' hd]; rfl)
 rwa [putSet_of es' t' hd] at this
theorem set_add {a:Addr} {ns:List Nat} {m:Nat} {tk:Tok} {Q:Bool→Shared→Prop} (hm:m < 128) (hS:SetI w s.heap a ns) (hn:ns.length < 64)
  (h:∀ b h',Heap.SameBut a s.heap h'→SetI w h' a (stepS ns m)→Q b { s with heap:=h' }):wpAny (model prog w) A (setAddHashed a (.int m tk) (hashInt m)) Q E s:=by
 obtain ⟨o,es,ep,t,ho,hex,hd,hI,hl,hs⟩:=hS
 have hsz:es.size=ns.length:=by rw [← Array.length_toList]; exact hs.len
 have hel:ElemsOf (intKind prog w) es.toList:=hs.els
 have hkey:(intKind prog w).is (m:Int) (.int m tk)=true:=by simp [intKind,Value.isInt]
 unfold setAddHashed setAddHashedIn
 refine wpAny_holding (wpAny_bind (wpAny_setState_of ho hd hI.fits ?_))
 dsimp only
 rw [byScan_of (knd:=intKind prog w) rfl (by unfold scanBound; omega) hel]
 simp only [↓reduceIte]
 unfold setAddByScan
 refine wpAny_bind (wpAny_bind (wpAny_rule (wpAny_bind (wpAny_setScan_of (knd:=intKind prog w) hkey ho hd hI.fits hel ?_))))
 have hfind:∀ e∈es.toList,(intKind prog w).is (m:Int) e.2=true→e.1=(m:Int):=fun e he q=>by
  obtain ⟨n,tk',rfl,_⟩:=hs.2 e he
  obtain ⟨t',q⟩:=Value.isInt_shape (show Value.isInt (m:Int) (.int (n:Int) tk')=true from q)
  injection q
 cases hr:es.toList.findIdx? (fun e=>(intKind prog w).is (m:Int) e.2) with
 | some j =>
  dsimp only
  obtain ⟨hj,hpj,_⟩:=List.findIdx?_eq_some_iff_getElem.mp hr
  have hmem:m∈ns:=(hs.mem m).mpr ⟨_,List.getElem_mem hj,hfind _ (List.getElem_mem hj) hpj⟩
  refine wpAny_pure (wpAny_pure ?_)
  exact h false s.heap (Heap.SameBut.refl a s.heap) (by unfold stepS; rw [if_pos hmem]; exact ⟨o,es,ep,t,ho,hex,hd,hI,hl,hs⟩)
 | none =>
  dsimp only
  have hmem:m∉ns:=fun hq=>by
   obtain ⟨e,he,q⟩:=(hs.mem m).mp hq
   have:=List.findIdx?_eq_none_iff.mp hr e he
   obtain ⟨n,tk',rfl,_⟩:=hs.2 e he
   have e:n=m:=by dsimp only at q; omega
   subst e
   simp [intKind,Value.isInt] at this
  have hst:stepS ns m=ns ++ [m]:=by unfold stepS; rw [if_neg hmem]
  rw [hst] at h
  rw [hash_small hm]
  have hperm:=layNew_perm t es (m:Int) (.int m tk)
  obtain ⟨es1,t1,e1,q1,q2,q3,q4,q5,q6,q7,q8,q9⟩:=lay_new (x:=.int m tk) hI hm (by omega)
  rw [e1] at hperm ⊢
  dsimp only at hperm ⊢
  rw [Array.toList_push] at hperm
  have hs1:Smalls es1.toList (ns ++ [m]):=(hs.push hm tk).perm hperm
  refine wpAny_bind (wpAny_pure ?_)
  rw [q3]
  simp only [↓reduceIte]
  refine wpAny_bind ?_
  rw [hashByValue_scannable 8 (x:=.int m tk) rfl]
  refine wpAny_pure ?_
  dsimp only [plainKind]
  simp only [↓reduceIte]
  refine wpAny_bind (wpAny_storeSet_of ho hd ?_ (fits_of_scanBound (by unfold scanBound; omega)))
  have ho1:=put_at (es':=es1) (t':=t1) ho hd
  have hsb:=Heap.SameBut.update s.heap a (Obj.putSet es1 t1)
  have hcs:=full_cases hI q8 (q4.trans q1) q7 (by omega)
  cases hf:t1.tooFull with
  | false =>
   simp only [Bool.not_false,Bool.and_false,Bool.false_eq_true,↓reduceIte]
   refine wpAny_pure (wpAny_pure (h true _ hsb ⟨_,es1,ep + 1,t1,ho1,hex,rfl,⟨q4,q5,q6,q7,?_,q3⟩,q2.trans hl,hs1⟩))
   rw [q1]; exact hcs.2 hf
  | true =>
   simp only [Bool.not_false,Bool.and_self,↓reduceIte]
   have hp2:=relayAll_perm t1 es1 (SetTable.grown es1.size)
   obtain ⟨es2,t2,e2,r1,r2,r3⟩:=relay_ok q3 hs1.hs (by rw [q1]; exact hcs.1 hf)
   rw [e2] at hp2 ⊢
   dsimp only at hp2 ⊢
   refine wpAny_bind (wpAny_pure ?_)
   refine wpAny_bind (wpAny_storeSet_of ho1 rfl ?_ (fits_of_scanBound (by unfold scanBound; omega)))
   exact wpAny_pure (wpAny_pure (h true _ (hsb.trans (Heap.SameBut.update _ a _)) ⟨_,es2,ep + 1 + 1,t2,put_at ho1 rfl,hex,rfl,r2,r3.trans (q2.trans hl),hs1.perm hp2⟩))
end
end L2
namespace L2
open PySem PySem.Spec PyProof.Rows
noncomputable def foldS (xs:List Nat):List Nat:=xs.foldl stepS []
theorem foldS_len:∀ (xs ns:List Nat),(xs.foldl stepS ns).length≤ns.length + xs.length
 | [],ns=>by simp
 | x :: xs,ns=>by
  have:=foldS_len xs (stepS ns x)
  have h:(stepS ns x).length≤ns.length + 1:=by unfold stepS; split <;> simp
  rw [List.foldl_cons,List.length_cons]; omega
theorem foldS_take {xs:List Nat} {i:Nat} (h:i < xs.length):foldS (xs.take (i + 1))=stepS (foldS (xs.take i)) xs[i]:=by
 unfold foldS
 rw [List.take_succ_eq_append_getElem h,List.foldl_append]
 rfl
theorem foldS_mono:∀ (xs ns:List Nat),ns.length≤(xs.foldl stepS ns).length
 | [],ns=>Nat.le_refl _
 | x :: xs,ns=>by
  have:=foldS_mono xs (stepS ns x)
  have h:ns.length≤(stepS ns x).length:=by unfold stepS; split <;> simp
  rw [List.foldl_cons]; omega
theorem foldS_part (xs:List Nat) (i:Nat):(foldS (xs.take i)).length≤(foldS xs).length:=by
 have:foldS xs=(xs.drop i).foldl stepS (foldS (xs.take i)):=by
  unfold foldS
  rw [← List.foldl_append,List.take_append_drop]
 rw [this]
 exact foldS_mono _ _
theorem SetI.at {w:World} {h h':Heap} {a:Addr} {ns:List Nat} (x:SetI w h a ns) (k:∀ o,h.get? a=some o→h'.get? a=some o):SetI w h' a ns :=
 let ⟨o,es,ep,t,ho,r⟩:=x; ⟨o,es,ep,t,k o ho,r⟩
section
variable {prog:Program} {w:World} {A:Around} {s:Shared} {E:Value→Shared→Prop}
theorem set_loop {R:Result→Shared→Prop} {I:Addr} {fp wr:List Addr} {G:Array GenState→Array GenState→Prop} {P:Nat→Value→Prop} {St:Nat→Shared→Prop} {xs:List Nat}
  (W:WalksS prog w A.in1 I fp wr G xs.length P St) (S:Addr) (hSf:S∉fp) (hval:∀ (i:Nat) v,(hi:i < xs.length)→P i v→∃ t,v=Value.int (xs[i]:Nat) t) (hx:∀ x∈xs,x < 128) (h64:(foldS xs).length < 64) :
  ∀ (k i:Nat) (s:Shared),xs.length - i=k→i≤xs.length→St i s→SetI w s.heap S (foldS (xs.take i)) →
   (∀ s',Moved (S :: wr) G s s'→SetI w s'.heap S (foldS xs)→R (.ok (.ret .none)) s') →
   codeAny (model prog w) A (.builtin "set.update.loop" ⟨[.ref S,.ref I],[]⟩) R s:=by
 have hSw:S∉wr:=fun h=>hSf (W.sub _ h)
 have hup:∀ b∈wr,b∈S :: wr:=fun b hb=>.tail _ hb
 intro k
 induction k with
 | zero =>
  intro i s hk hi st hS hR
  cases (show i=xs.length by omega)
  refine codeAny_builtin F.entry_set_update_loop ?_
  rw [Around.under_plainId F.plain_set_update_loop _]
  show wpAny _ A.in1 (pyNext (.ref I) >>= _) _ _ s
  refine wpAny_bind (W.done s _ _ st fun s' hm=>?_)
  rw [List.take_length] at hS
  exact wpAny_pure (hR s' (hm.mono hup) (hS.at fun o e=>hm.heap S _ hSw e))
 | succ k ih =>
  intro i s hk hi st hS hR
  have hlt:i < xs.length:=by omega
  refine codeAny_builtin F.entry_set_update_loop ?_
  rw [Around.under_plainId F.plain_set_update_loop _]
  show wpAny _ A.in1 (pyNext (.ref I) >>= _) _ _ s
  refine wpAny_bind (W.item i s _ _ hlt st fun v s' hP st' hm=>?_)
  obtain ⟨t,rfl⟩:=hval i v hlt hP
  have hS':SetI w s'.heap S (foldS (xs.take i)):=hS.at fun o e=>hm.heap S _ hSw e
  show wpAny _ A.in1 (holding [Value.int (xs[i]:Nat) t] (setAdd S (.int (xs[i]:Nat) t)) >>= _) _ _ s'
  refine wpAny_bind (wpAny_holding ?_)
  unfold setAdd
  refine wpAny_holding (wpAny_bind ((intKind prog w).pyHash (k:=(xs[i]:Nat)) (by simp [intKind,Value.isInt]) ?_))
  have hl:(foldS (xs.take i)).length < 64:=Nat.lt_of_le_of_lt (foldS_part xs i) h64
  refine set_add (s:={ s' with toks:=s'.toks + 1 }) (hx _ (List.getElem_mem hlt)) hS' hl fun b h' hsb hS2=>?_
  rw [← foldS_take hlt] at hS2
  refine wpAny_pure ⟨plainId_quiet F.plain_set_update_loop _,ih (i + 1) _ (by omega) hlt (W.frame _ s' _ _ st' (Nat.le_succ _) fun b hb o e=>?_) hS2 fun s'' hm'' hS''=>?_⟩
  ·rw [hsb.2 b (fun q:b=S=>hSf (q ▸ hb))]; exact e
  ·refine hR s'' (Moved.trans W.gtrans ((hm.mono hup).then_heap (Nat.le_succ _) fun b o hb e=>?_) hm'') hS''
   rw [hsb.2 b (fun q:b=S=>hb (q ▸ .head _))]; exact e
noncomputable def emptyS (w:World):Obj:={ cls:=.type "set",dict:=none,data:=.set #[] 0 (.fresh 0 0 (!byTx w)) }
theorem empty_ok (w:World) {h:Heap} {a:Addr} (e:h.get? a=some (emptyS w)):SetI w h a [] :=
 ⟨_,#[],0,_,e,⟨rfl,rfl,rfl⟩,rfl,ti_fresh _,rfl,.refl _,fun e he=>by cases he⟩
theorem set_new1 (a:Value) {Q₁:Value→Shared→Prop} (h:Q₁ (.ref s.heap.objs.size) { s with heap:=s.heap.push (emptyS w) }) :
  codeAny (model prog w) A (.call (.builtin "set.__new__") ⟨[.type "set",a],[]⟩) (wants Q₁ E) s:=by
 refine codeAny_of_tree (show wpAny _ A.in1 (do checkBuiltinCall "set.__new__" ⟨[.type "set",a],[]⟩; again (.builtin "set.__new__" ⟨[.type "set",a],[]⟩)) _ _ s from ?_)
 refine wpAny_bind (wpAny_of_eq (PySem.F.newCall_set_1 a) (wpAny_pure ⟨plainId_quiet PySem.F.plain_set_new _,codeAny_builtin PySem.F.entry_set_new ?_⟩))
 rw [Around.under_plainId PySem.F.plain_set_new _]
 unfold Builtin.«set.__new__» Builtin.Frozenset.newClass
 have hsub:=sub_set_self
 obtain ⟨hp,g,d,tk,os⟩:=s
 dsimp only; wp_walk
 refine wpAny_askSetting (wpAny_pure ?_)
 dsimp only; simp only [newObj]
 exact wpAny_bind (wpAny_alloc (wpAny_pure (wpAny_pure h)))
set_option maxHeartbeats 3200000 in
theorem set_of {l:Addr} {items:Array Value} {xs:List Nat} {Q:Value→Shared→Prop} (hh:A.handled=none) (hl:s.heap.IsList l items) (hi:IntsAre items.toList (xs.map fun n:Nat=>(n:Int))) (hx:∀ x∈xs,x < 128) (h64:(foldS xs).length < 64)
  (h:∀ (h':Heap) (tk:Nat),SetI w h' s.heap.objs.size (foldS xs)→(∀ b o,b < s.heap.objs.size→s.heap.get? b=some o→h'.get? b=some o)→Q (.ref s.heap.objs.size) { s with heap:=h',toks:=tk }) :
  wpAny (model prog w) A (call (.type "set") [.ref l]) Q E s:=by
 obtain ⟨c,tl,hmro⟩:=PySem.F.called_set.mro
 have hmade:=PySem.F.called_set.made
 have hsub:=PySem.F.called_set.sub
 refine wpAny_call (codeAny_of_tree (show wpAny _ _ (callAny (.type "set") _) _ _ _ from ?_))
 refine wpAny_pure ⟨Code.quiet_builtin _ (by decide +kernel),codeAny_builtin PySem.F.entry_type_call ?_⟩
 rw [Around.under_plain (weight_type_call_type "set" [.ref l] []) rfl]
 have h1:=PySem.F.called_set.notType
 have h2:=PySem.F.called_set.canCreate
 have hct:=PySem.F.typeCall_set_1 (.ref l)
 repeat any_goals (first | assumption | wp_step)
 refine codeAny_mono (set_new1 (.ref l) (E:=E) (Q₁:=fun obj s₁=>obj=.ref s.heap.objs.size∧s₁={ s with heap:=s.heap.push (emptyS w) }) ⟨rfl,rfl⟩) fun r s₁ hr=>?_
 cases r with
 | error e=>exact hr
 | ok fl =>
  cases fl with
  | ret obj =>
   obtain ⟨rfl,rfl⟩:=hr
   have hS:(s.heap.push (emptyS w)).get? s.heap.objs.size=some (emptyS w):=Heap.get?_push_size _ rfl
   have hT:Shared.TypeIs { s with heap:=s.heap.push (emptyS w) } (.ref s.heap.objs.size) "set":=⟨_,hS,rfl⟩
   have hli:=PySem.F.called_set.init.lookup
   have hbi:=PySem.F.called_set.init.bind (.ref s.heap.objs.size)
   repeat any_goals (first | assumption | wp_step)
   refine codeAny_mono (codeAny_call_builtin (R:=wants (fun r s₂=>r=.none∧∃ h' tk,s₂={ s with heap:=h',toks:=tk }∧SetI w h' s.heap.objs.size (foldS xs) ∧
     (∀ b o,b < s.heap.objs.size→s.heap.get? b=some o→h'.get? b=some o)) E) PySem.F.called_set.init.plain PySem.F.entry_set_init (check_set_init_1 hT ?_)) fun r₂ s₂ hr₂=>?_
   ·obtain ⟨ol,hol,hcl,nl,hdl⟩:=hl
    obtain ⟨ocls,odict,odata,oslots⟩:=ol
    simp only at hcl hdl
    subst hcl; subst hdl
    have hol':(s.heap.push (emptyS w)).get? l=some { cls:=.type "list",dict:=odict,data:=.seq items nl,slots:=oslots }:=Heap.get?_push_of_some _ hol
    have hsls:=PySem.F.sub_list_set
    have hslf:=PySem.F.sub_list_frozenset
    have hne:(Value.type "list" == Value.type "dict")=false:=by decide
    have hl1:(s.heap.push (emptyS w)).IsList l items:=⟨_,hol',rfl,nl,rfl⟩
    unfold emptyS at hS hT hol' ⊢
    unfold Builtin.«set.__init__» noKeywords Builtin.Frozenset.updateFrom
    generalize hPI:pyIter=PI
    wp_walk
    subst hPI
    refine wpAny_pyIter_list hl1 (wpAny_bind (wpAny_runValue ?_))
    have hlS:l < s.heap.objs.size:=Heap.lt_size hol
    have hlen:items.size=xs.length:=by have:=hi.length; simpa using this
    have hneI:l≠(s.heap.push (emptyS w)).objs.size:=by rw [Heap.size_push]; exact Nat.ne_of_lt (Nat.lt_succ_of_lt hlS)
    have hSf:s.heap.objs.size∉[(s.heap.push (emptyS w)).objs.size,l]:=by
     rw [Heap.size_push]; simp only [List.mem_cons,List.not_mem_nil,or_false,not_or]; exact ⟨Nat.ne_of_lt (Nat.lt_succ_self _),Nat.ne_of_gt hlS⟩
    have W:=(Walks.list (prog:=prog) (w:=w) (A:=A.in1.in1.in1) (by simp [hh]) (s.heap.push (emptyS w)).objs.size l hneI items).toS
    rw [hlen] at W
    refine set_loop (xs:=xs) W s.heap.objs.size hSf (fun i v hi' hv=>?_) hx h64 xs.length 0 _ (by omega) (Nat.zero_le _) ⟨⟨_,Heap.get?_push_size _ rfl,rfl,rfl⟩,hl1.push _⟩ (empty_ok w (Heap.get?_push_of_some _ hS)) fun s' hm hS'=>?_
    ·obtain ⟨t,e⟩:=IntsAre.int_at hi i v (by rw [Array.getElem?_toList]; exact hv)
     exact ⟨t,by rw [e]; simp [List.getD_eq_getElem?_getD,List.getElem?_eq_getElem hi']⟩
    ·obtain ⟨h',g',d',tk',os'⟩:=s'
     cases (show g'=s.gens from hm.gens)
     cases (show d'=s.drawn from hm.drawn)
     cases (show os'=s.os from hm.os)
     refine wpAny_pure (wpAny_pure ⟨rfl,h',tk',rfl,hS',fun b o hb e=>?_⟩)
     exact hm.heap b o (by rw [Heap.size_push]; simp only [List.mem_cons,List.not_mem_nil,or_false,not_or]; exact ⟨Nat.ne_of_lt hb,Nat.ne_of_lt (Nat.lt_succ_of_lt hb)⟩) (Heap.get?_push_of_some _ (Heap.get?_push_of_some _ e))
   ·cases r₂ with
    | error e=>exact hr₂
    | ok fl₂ =>
     cases fl₂ with
     | ret r =>
      obtain ⟨rfl,h',tk,rfl,hS',hk'⟩:=hr₂
      repeat any_goals (first | assumption | wp_step)
      exact h _ _ hS' hk'
     | _=>exact hr₂.elim
  | _=>exact hr.elim
end
end L2
namespace L2
open PySem
theorem sw_slot_next:Slot "set_iterator" "__next__" "set_iterator.__next__" :=
 .of (owner:="set_iterator") (n:="__next__") (by rw [typeLookup_type,builtinLookup_eq_fast]; kernel_rfl) (by decide +kernel) (by decide +kernel)
  (by decide +kernel) (by first | exact .inl (by decide +kernel) | exact .inr (by decide +kernel)) (by rw [isSubtype_type]; kernel_rfl)
theorem sw_slot_iter:Slot "set_iterator" "__iter__" "set_iterator.__iter__" :=
 .of (owner:="set_iterator") (n:="__iter__") (by rw [typeLookup_type,builtinLookup_eq_fast]; kernel_rfl) (by decide +kernel) (by decide +kernel)
  (by decide +kernel) (by first | exact .inl (by decide +kernel) | exact .inr (by decide +kernel)) (by rw [isSubtype_type]; kernel_rfl)
theorem sw_entry_next:entryFor table "set_iterator.__next__"=some Builtin.«set_iterator.__next__»:=entryFor_of_tree (by kernel_rfl)
theorem sw_entry_iter:entryFor table "set_iterator.__iter__"=some Builtin.«dict_keyiterator.__iter__» :=
 entryFor_alias (id':="dict_keyiterator.__iter__") (by kernel_rfl) rfl (by decide +kernel) (by kernel_rfl)
theorem sw_entry_set_iter:entryFor table "set.__iter__"=some Builtin.«frozenset.__iter__» :=
 entryFor_alias (id':="frozenset.__iter__") (by kernel_rfl) rfl (by decide +kernel) (by kernel_rfl)
theorem sw_owner:Manifest.owners.lookup (String.ofList ['r','o','t','a','r','e','t','i','_','t','e','s'].reverse)=some Manifest.sig_set_iterator:=by kernel_rfl
theorem sw_args_next (a:Value):argsOk "set_iterator.__next__" ⟨[a],[]⟩:=by
 unfold argsOk
 rw [signature?_of (id:="set_iterator.__next__") (n:=['_','_','t','x','e','n','_','_']) (o:=['r','o','t','a','r','e','t','i','_','t','e','s']) (by kernel_rfl) sw_owner]; kernel_rfl
theorem sw_args_iter (a:Value):argsOk "set_iterator.__iter__" ⟨[a],[]⟩:=by
 unfold argsOk
 rw [signature?_of (id:="set_iterator.__iter__") (n:=['_','_','r','e','t','i','_','_']) (o:=['r','o','t','a','r','e','t','i','_','t','e','s']) (by kernel_rfl) sw_owner]; kernel_rfl
theorem erase_perm {α:Type} {l:List α} {i:Nat} (h:i < l.length):([l[i]] ++ l.eraseIdx i).Perm l:=by
 rw [List.eraseIdx_eq_take_drop_succ]
 have e:l=l.take i ++ l[i] :: l.drop (i + 1):=by rw [← List.drop_eq_getElem_cons h,List.take_append_drop]
 conv=>rhs; rw [e]
 exact (List.perm_middle (a:=l[i]) (l₁:=l.take i) (l₂:=l.drop (i + 1))).symm
theorem pick_perm {α:Type} (next:Nat→Nat):∀ (fuel k:Nat) (left:List α) (out:Array α),fuel=left.length→(pickOrder.go next fuel k left out).toList.Perm (out.toList ++ left)
 | 0,k,left,out,h=>by
  have:left=[]:=List.length_eq_zero_iff.mp h.symm
  subst this
  unfold pickOrder.go; simp
 | fuel + 1,k,left,out,h=>by
  unfold pickOrder.go
  have hlt:next k % left.length < left.length:=Nat.mod_lt _ (by omega)
  rw [List.getElem?_eq_getElem hlt]
  dsimp only
  refine (pick_perm next fuel _ _ _ (by rw [List.length_eraseIdx_of_lt hlt]; omega)).trans ?_
  rw [Array.toList_push,List.append_assoc]
  exact (erase_perm hlt).append_left _
noncomputable def ordS (w:World) (a:Addr) (ep:Nat) (es:Array (Int×Value)):Array (Int×Value):=if byTx w then pickOrder (w.params.setOrder a ep) es else es
theorem ord_perm (w:World) (a:Addr) (ep:Nat) (es:Array (Int×Value)):(ordS w a ep es).toList.Perm es.toList:=by
 unfold ordS
 split
 ·unfold pickOrder
  simpa using pick_perm (w.params.setOrder a ep) es.size 0 es.toList #[] (by simp)
 ·exact .rfl
noncomputable def slotI (b:Bool) (place:Array Nat):Nat→Nat
 | 0=>0
 | i + 1=>if b then 0 else place.toList.getD i 0 + 1
noncomputable def ItS (h:Heap) (it a:Addr) (sl i n ep:Nat):Prop:=∃ o,h.get? it=some o∧o.cls=.type "set_iterator"∧o.data=.fields #[.int sl 0,.int i 0,.ref a,.int n 0,.int ep 0]
theorem ItS.typeIs {s:Shared} {it a:Addr} {sl i n ep:Nat} (h:ItS s.heap it a sl i n ep):s.TypeIs (.ref it) "set_iterator":=let ⟨o,ho,hc,_⟩:=h; ⟨o,ho,hc⟩
theorem ItS.at {h h':Heap} {it a:Addr} {sl i n ep:Nat} (x:ItS h it a sl i n ep) (k:∀ o,h.get? it=some o→h'.get? it=some o):ItS h' it a sl i n ep:=let ⟨o,ho,r⟩:=x; ⟨o,k o ho,r⟩
noncomputable def SetAt (w:World) (h:Heap) (a:Addr) (es:Array (Int×Value)) (ep:Nat) (t:SetTable):Prop:=∃ o,h.get? a=some o∧o.ExactSet∧o.data=.set es ep t∧TblI t es.size∧t.led = !byTx w
theorem SetAt.at {w:World} {h h':Heap} {a:Addr} {es:Array (Int×Value)} {ep:Nat} {t:SetTable} (x:SetAt w h a es ep t) (k:∀ o,h.get? a=some o→h'.get? a=some o):SetAt w h' a es ep t:=let ⟨o,ho,r⟩:=x; ⟨o,k o ho,r⟩
section
variable {prog:Program} {w:World} {A:Around} {E:Value→Shared→Prop} {s:Shared}
theorem set_next {a:Addr} {es:Array (Int×Value)} {ep i:Nat} {t:SetTable} {Q:Option (Value×Nat)→Shared→Prop} (hS:SetAt w s.heap a es ep t) (hi:i≤es.size)
  (h:Q ((ordS w a ep es)[i]?.map fun e=>(e.2,slotI (byTx w) t.place (i + 1))) s):wpAny (model prog w) A (setNext a (slotI (byTx w) t.place i) i ep) Q E s:=by
 obtain ⟨o,ho,hex,hd,hI,hl⟩:=hS
 unfold setNext
 refine wpAny_bind (wpAny_setState_of ho hd hI.fits ?_)
 dsimp only
 refine wpAny_bind ?_
 unfold setsByText
 refine wpAny_bind (wpAny_askSetting (wpAny_pure ?_))
 show wpAny _ _ (if byTx w=true then _ else _) _ _ _
 unfold ordS at h
 cases hb:byTx w with
 | true =>
  rw [hb] at h
  simp only [if_true,bne_self_eq_false,Bool.false_eq_true,if_false] at h ⊢
  refine wpAny_bind ?_
  unfold setWalk
  refine wpAny_bind (wpAny_setState_of ho hd hI.fits ?_)
  dsimp only
  refine wpAny_bind ?_
  unfold setsByText
  refine wpAny_bind (wpAny_askSetting (wpAny_pure ?_))
  show wpAny _ _ (if byTx w=true then _ else _) _ _ _
  rw [hb]
  simp only [if_true]
  refine wpAny_bind (wpAny_askSetting (wpAny_pure (wpAny_pure ?_)))
  have e:slotI true t.place (i + 1)=slotI true t.place i:=by cases i <;> rfl
  rw [e] at h
  exact h
 | false =>
  rw [hb] at h hl
  simp only [Bool.false_eq_true,if_false] at h ⊢
  show wpAny _ _ (if (!t.plain && decide (es.size > 1))=true then _ else _) _ _ _
  rw [hI.plain]
  simp only [Bool.not_true,Bool.false_and,Bool.false_eq_true,if_false]
  refine wpAny_bind (wpAny_of_eq (a:=()) ?_ ?_)
  ·show (if (!t.led && !es.isEmpty)=true then _ else _)=_
   rw [hl]; rfl
  have hbl:SetTable.below t.place (slotI false t.place i)=i:=by
   cases i with
   | zero=>exact below_zero hI.up
   | succ i=>exact below_next hI.up (by rw [Array.length_toList,hI.size]; omega)
  rw [hbl]
  refine wpAny_pure ?_
  rcases Nat.lt_or_ge i es.size with hlt | hge
  ·have hp:i < t.place.size:=by rw [hI.size]; exact hlt
   rw [Array.getElem?_eq_getElem hlt] at h ⊢
   rw [Array.getElem?_eq_getElem hp]
   have e:slotI false t.place (i + 1)=t.place[i] + 1:=by
    simp [slotI,List.getD_eq_getElem?_getD,List.getElem?_eq_getElem (show i < t.place.toList.length by simpa using hp)]
   rw [e] at h
   exact h
  ·rw [Array.getElem?_eq_none hge] at h ⊢
   exact h
end
end L2
namespace L2
open PySem
section
variable {prog:Program} {w:World} {A:Around} {E:Value→Shared→Prop} {s:Shared}
theorem it_item {it a:Addr} {es:Array (Int×Value)} {ep i:Nat} {t:SetTable} {v:Int×Value} {Q:Option Value→Shared→Prop} (hit:ItS s.heap it a (slotI (byTx w) t.place i) i es.size ep) (hS:SetAt w s.heap a es ep t) (hi:i < es.size)
  (hv:(ordS w a ep es)[i]? = some v) (hQ:∀ h',ItS h' it a (slotI (byTx w) t.place (i + 1)) (i + 1) es.size ep→Heap.SameBut it s.heap h'→Q (some v.2) { s with heap:=h' }) :
  wpAny (model prog w) A (pyNext (.ref it)) Q E s:=by
 obtain ⟨o,ho,hc,hd⟩:=id hit
 obtain ⟨oS,hoS,hexS,hdS,hI,hl⟩:=id hS
 unfold pyNext
 refine wpAny_bind (wpAny_attempt (wpAny_callSpecial?_slot (name:=Str.ofString "__next__") hit.typeIs sw_slot_next (wpAny_call_entry sw_slot_next hit.typeIs sw_entry_next ?_ (sw_args_next _))))
 unfold Builtin.«set_iterator.__next__»
 refine wpAny_bind (wpAny_pure ?_)
 refine wpAny_bind (wpAny_fieldsOf ho hd ?_)
 dsimp only
 refine wpAny_bind (wpAny_setEntries_of hoS hdS hI.fits ?_)
 rw [if_neg (by simp)]
 refine wpAny_bind (set_next (ep:=ep) (i:=i) hS (Nat.le_of_lt hi) ?_)
 rw [hv]
 dsimp only [Option.map]
 refine wpAny_bind (wpAny_setField ho hd (by simp) ?_)
 have g1:=Heap.get?_update_self (Obj.mapFields (·.setIfInBounds 0 (rawInt ((slotI (byTx w) t.place (i + 1):Nat):Int)))) ho (Obj.isFreed_of_fields (Obj.data_mapFields hd _))
 have d1:=Obj.data_mapFields hd (·.setIfInBounds 0 (rawInt ((slotI (byTx w) t.place (i + 1):Nat):Int)))
 refine wpAny_bind (wpAny_setField g1 d1 (by simp) ?_)
 have g2:=Heap.get?_update_self (Obj.mapFields (·.setIfInBounds 1 (rawInt ((i:Int) + 1)))) g1 (Obj.isFreed_of_fields (Obj.data_mapFields d1 _))
 have d2:=Obj.data_mapFields d1 (·.setIfInBounds 1 (rawInt ((i:Int) + 1)))
 refine wpAny_pure ⟨_,rfl,wpAny_pure (hQ _ ⟨_,g2,?_,?_⟩ ((Heap.SameBut.update ..).trans (Heap.SameBut.update ..)))⟩
 ·exact (Obj.cls_mapFields ..).trans ((Obj.cls_mapFields ..).trans hc)
 ·rw [d2]; simp [rawInt]
theorem it_end {it a:Addr} {es:Array (Int×Value)} {ep:Nat} {t:SetTable} {Q:Option Value→Shared→Prop} (hh:A.handled=none) (hit:ItS s.heap it a (slotI (byTx w) t.place es.size) es.size es.size ep) (hS:SetAt w s.heap a es ep t)
  (hQ:∀ h',Heap.ExtBut it s.heap h'→Q none { s with heap:=h' }):wpAny (model prog w) A (pyNext (.ref it)) Q E s:=by
 obtain ⟨o,ho,hc,hd⟩:=id hit
 obtain ⟨oS,hoS,hexS,hdS,hI,hl⟩:=id hS
 unfold pyNext
 refine wpAny_bind (wpAny_attempt (wpAny_callSpecial?_slot (name:=Str.ofString "__next__") hit.typeIs sw_slot_next (wpAny_call_entry sw_slot_next hit.typeIs sw_entry_next ?_ (sw_args_next _))))
 unfold Builtin.«set_iterator.__next__»
 refine wpAny_bind (wpAny_pure ?_)
 refine wpAny_bind (wpAny_fieldsOf ho hd ?_)
 dsimp only
 refine wpAny_bind (wpAny_setEntries_of hoS hdS hI.fits ?_)
 rw [if_neg (by simp)]
 refine wpAny_bind (set_next (ep:=ep) (i:=es.size) hS (Nat.le_refl _) ?_)
 have hv:(ordS w a ep es)[es.size]? = none:=by
  have:=(ord_perm w a ep es).length_eq
  rw [Array.length_toList,Array.length_toList] at this
  exact Array.getElem?_eq_none (by omega)
 rw [hv]
 dsimp only [Option.map]
 refine wpAny_bind (wpAny_setField ho hd (by simp) ?_)
 show wpAny _ _ (newExc (.type "StopIteration") [] >>= _) _ _ _
 refine wpAny_bind ?_
 simp only [newExc,newTuple]
 refine wpAny_bind (wpAny_newObj_type ?_ (by size_fits))
 refine wpAny_bind (m:=firstArgMember _ _) (wpAny_of_eq (a:=Value.none) (by first | rfl | (simp only [firstArgMember]; rfl)) (wpAny_newObj_type ?_ (by size_fits)))
 simp only [raiseNew]
 refine wpAny_bind (wpAny_handled ?_)
 rw [show A.in1.handled=none from hh]
 refine wpAny_bind (wpAny_pure (wpAny_throw ?_))
 refine wpAny_bind (wpAny_isInstance (b:=true) (T:="StopIteration") ⟨_,Heap.get?_push_size _ rfl,rfl⟩ isSubtype_stop ?_)
 exact wpAny_pure (hQ _ (((Heap.SameBut.update ..).extBut.push _).push _))
theorem it_self {it a:Addr} {sl i n ep:Nat} {Q:Value→Shared→Prop} (hit:ItS s.heap it a sl i n ep) (h:Q (.ref it) s):wpAny (model prog w) A (pyIter (.ref it)) Q E s:=by
 refine wpAny_pyIter_slot hit.typeIs sw_slot_iter (wpAny_call_entry sw_slot_iter hit.typeIs sw_entry_iter (show wpAny _ _ (ret (.ref it)) _ _ s from ?_) (sw_args_iter _))
 exact wpAny_pure ⟨_,rfl,"set_iterator",_,hit.typeIs,sw_slot_next.lookup,h⟩
theorem set_walks (hh:A.handled=none) (I a:Addr) (hne:a≠I) (es:Array (Int×Value)) (ep:Nat) (t:SetTable) :
  Walks prog w A I [I,a] [I] es.size (fun i v=>(ordS w a ep es)[i]?.map (·.2)=some v) (fun i h=>ItS h I a (slotI (byTx w) t.place i) i es.size ep∧SetAt w h a es ep t) where
 sub:=fun b hb=>by simp at hb; simp [hb]
 frame:=fun _ _ _ st hk=>⟨st.1.at fun o e=>hk I (by simp) o e,st.2.at fun o e=>hk a (by simp) o e⟩
 item:=fun i s Q E hi st hQ=>by
  have hl:=(ord_perm w a ep es).length_eq
  rw [Array.length_toList,Array.length_toList] at hl
  have hv:(ordS w a ep es)[i]? = some (ordS w a ep es)[i]:=Array.getElem?_eq_getElem (by omega)
  refine it_item st.1 st.2 hi hv fun h' hit' hs'=>hQ _ h' s.toks (by rw [hv]; rfl) ⟨hit',st.2.at fun o e=>?_⟩ fun b o hb e=>hs'.extBut b o (fun h=>hb (by simp [h])) e
  exact hs'.extBut a o hne e
 done:=fun s Q E st hQ=>it_end hh st.1 st.2 fun h' he'=>hQ h' s.toks fun b o hb e=>he' b o (fun h=>hb (by simp [h])) e
 self:=fun _ _ _ _ st hQ=>it_self st.1 hQ
theorem SetAt.typeIs {a:Addr} {es:Array (Int×Value)} {ep:Nat} {t:SetTable} (h:SetAt w s.heap a es ep t):s.TypeIs (.ref a) "set":=let ⟨o,ho,hx,_⟩:=h; ⟨o,ho,hx.1⟩
theorem set_iter {a:Addr} {es:Array (Int×Value)} {ep:Nat} {t:SetTable} {Q:Value→Shared→Prop} (hS:SetAt w s.heap a es ep t)
  (hQ:Q (.ref s.heap.objs.size) { s with heap:=s.heap.push { cls:=.type "set_iterator",data:=.fields #[.int 0 0,.int 0 0,.ref a,.int es.size 0,.int ep 0] } }):wpAny (model prog w) A (pyIter (.ref a)) Q E s:=by
 obtain ⟨oS,hoS,hexS,hdS,hI,hl⟩:=id hS
 refine wpAny_pyIter_slot hS.typeIs PySem.F.slot_set_iter (wpAny_call_entry PySem.F.slot_set_iter hS.typeIs sw_entry_set_iter ?_ (PySem.F.args_set_iter_1 _))
 unfold Builtin.«frozenset.__iter__» Builtin.Frozenset.slot0
 refine wpAny_bind (wpAny_bind (wpAny_pure (wpAny_pure ?_)))
 unfold Builtin.Frozenset.sizeOf
 refine wpAny_bind (wpAny_bind (wpAny_setEntries_of hoS hdS hI.fits (wpAny_pure ?_)))
 refine wpAny_bind ?_
 unfold setDrawn
 refine wpAny_bind (wpAny_setState_of hoS hdS hI.fits ?_)
 dsimp only
 refine wpAny_bind ?_
 unfold setsByText
 refine wpAny_bind (wpAny_askSetting (wpAny_pure (wpAny_pure ?_)))
 have e:(!byTx w && (!t.plain && decide (es.size > 1)))=false:=by rw [hI.plain]; simp
 show wpAny _ _ (if (!byTx w && (!t.plain && decide (es.size > 1)))=true then _ else _) _ _ _
 rw [e]
 simp only [Bool.false_eq_true,if_false]
 refine wpAny_bind (wpAny_pure ?_)
 refine wpAny_bind (wpAny_setEpoch_of hoS hdS hI.fits ?_)
 refine wpAny_bind ?_
 refine wpAny_newObj_type (wpAny_pure ⟨_,rfl,"set_iterator",_,⟨_,Heap.get?_push_size _ rfl,rfl⟩,sw_slot_next.lookup,?_⟩)
 exact hQ
end
end L2
namespace L2
open PySem PySem.Spec PyProof.Rows PySem.W
noncomputable def insS (x:Nat):List Nat→List Nat
 | []=>[x]
 | y :: l=>if x < y then x :: y :: l else if x=y then y :: l else y :: insS x l
noncomputable def ssort:List Nat→List Nat
 | []=>[]
 | x :: l=>insS x (ssort l)
theorem mem_insS {x y:Nat}:∀ {l:List Nat},y∈insS x l↔y=x∨y∈l
 | []=>by simp [insS]
 | z :: l=>by
  unfold insS
  split
  ·simp
  ·split
   ·rename_i h; subst h; simp
   ·simp only [List.mem_cons,mem_insS (l:=l)]
    constructor
    ·rintro (h | h | h) <;> simp [h]
    ·rintro (h | h | h) <;> simp [h]
theorem up_insS {x:Nat}:∀ {l:List Nat},Up l→Up (insS x l)
 | [],_=>by simp [insS]
 | z :: l,h=>by
  obtain ⟨h1,h2⟩:=List.pairwise_cons.mp h
  unfold insS
  split
  ·rename_i hx
   exact List.pairwise_cons.mpr ⟨fun b hb=>by
    rcases List.mem_cons.mp hb with rfl | hb
    ·exact hx
    ·exact Nat.lt_trans hx (h1 b hb),h⟩
  ·split
   ·exact h
   ·refine List.pairwise_cons.mpr ⟨fun b hb=>?_,up_insS h2⟩
    rcases mem_insS.mp hb with rfl | hb
    ·omega
    ·exact h1 b hb
theorem up_ssort:∀ l:List Nat,Up (ssort l)
 | []=>.nil
 | x :: l=>up_insS (up_ssort l)
theorem mem_ssort {y:Nat}:∀ {l:List Nat},y∈ssort l↔y∈l
 | []=>by simp [ssort]
 | x :: l=>by simp [ssort,mem_insS,mem_ssort (l:=l)]
theorem up_eq:∀ {l m:List Nat},Up l→Up m→(∀ x,x∈l↔x∈m)→l=m
 | [],[],_,_,_=>rfl
 | [],y :: m,_,_,h=>absurd ((h y).mpr (.head _)) (by simp)
 | x :: l,[],_,_,h=>absurd ((h x).mp (.head _)) (by simp)
 | x :: l,y :: m,h1,h2,h=>by
  obtain ⟨a1,a2⟩:=List.pairwise_cons.mp h1
  obtain ⟨b1,b2⟩:=List.pairwise_cons.mp h2
  have e:x=y:=by
   rcases List.mem_cons.mp ((h x).mp (.head _)) with e | hx
   ·exact e
   ·rcases List.mem_cons.mp ((h y).mpr (.head _)) with e | hy
    ·exact e.symm
    ·have:=a1 y hy; have:=b1 x hx; omega
  subst e
  rw [up_eq a2 b2 fun z=>?_]
  constructor
  ·intro hz
   rcases List.mem_cons.mp ((h z).mp (.tail _ hz)) with e | q
   ·subst e; exact absurd (a1 z hz) (Nat.lt_irrefl _)
   ·exact q
  ·intro hz
   rcases List.mem_cons.mp ((h z).mpr (.tail _ hz)) with e | q
   ·subst e; exact absurd (b1 z hz) (Nat.lt_irrefl _)
   ·exact q
theorem mem_stepS {ns:List Nat} {x y:Nat}:y∈stepS ns x↔y∈ns∨y=x:=by
 unfold stepS
 split
 ·rename_i h
  exact ⟨.inl,fun q=>q.elim id fun e=>e ▸ h⟩
 ·simp
theorem nd_stepS {ns:List Nat} {x:Nat} (h:ns.Nodup):(stepS ns x).Nodup:=by
 unfold stepS
 split
 ·exact h
 ·rename_i hx
  refine List.nodup_append.mpr ⟨h,by simp,fun a ha b hb=>?_⟩
  rw [List.mem_singleton] at hb
  subst hb
  exact fun e=>hx (e ▸ ha)
theorem mem_fold:∀ {xs ns:List Nat} {y:Nat},y∈xs.foldl stepS ns↔y∈ns∨y∈xs
 | [],ns,y=>by simp
 | x :: xs,ns,y=>by
  rw [List.foldl_cons,mem_fold,mem_stepS,List.mem_cons,or_assoc]
theorem nd_fold:∀ {xs ns:List Nat},ns.Nodup→(xs.foldl stepS ns).Nodup
 | [],_,h=>h
 | x :: xs,_,h=>nd_fold (xs:=xs) (nd_stepS h)
theorem sort_eq {xs:List Nat} {zs:List Int} (h1:zs.Perm ((foldS xs).map fun n:Nat=>(n:Int))) (h2:zs.Pairwise (·≤·)):zs=(ssort xs).map fun n:Nat=>(n:Int):=by
 have hz:∀ z∈zs,∃ n:Nat,z=n:=fun z hz=>by
  obtain ⟨n,_,e⟩:=List.mem_map.mp (h1.mem_iff.mp hz)
  exact ⟨n,e.symm⟩
 have e:zs=(zs.map Int.toNat).map fun n:Nat=>(n:Int):=by
  rw [List.map_map]
  conv=>lhs; rw [← List.map_id zs]
  refine List.map_congr_left fun z hq=>?_
  obtain ⟨n,rfl⟩:=hz z hq
  simp
 have hp:(zs.map Int.toNat).Perm (foldS xs):=by
  have:=h1.map Int.toNat
  rw [List.map_map] at this
  refine this.trans (List.Perm.of_eq ?_)
  conv=>rhs; rw [← List.map_id (foldS xs)]
  exact List.map_congr_left fun n _=>by simp
 have hnd:(zs.map Int.toNat).Nodup:=hp.nodup_iff.mpr (nd_fold .nil)
 have hup:Up (zs.map Int.toNat):=by
  have hle:(zs.map Int.toNat).Pairwise (·≤·):=by
   rw [List.pairwise_map]
   exact h2.imp fun {a b} h=>by omega
  refine (hle.and hnd).imp fun {a b} h=>?_
  have h2:a≠b:=h.2
  omega
 rw [e,up_eq hup (up_ssort xs) fun x=>by
  rw [hp.mem_iff,mem_ssort]
  unfold foldS
  rw [mem_fold]
  simp]
theorem nd_up:∀ {l:List Nat},Up l→l.Nodup:=fun {l} h=>h.imp fun {a b} h=>Nat.ne_of_lt h
theorem ssort_fold (xs:List Nat):(ssort xs).length=(foldS xs).length:=by
 have hp:(ssort xs).Perm (foldS xs):=by
  refine (List.perm_ext_iff_of_nodup (nd_up (up_ssort xs)) (nd_fold .nil)).mpr fun x=>?_
  rw [mem_ssort,mem_fold]
  simp
 exact hp.length_eq
theorem ints_pairs:∀ {l:List (Int×Value)},(∀ e∈l,∃ (n:Nat) (tk:Tok),e=((n:Int),.int n tk)∧n < 128)→IntsAre (l.map (·.2)) (l.map (·.1))
 | [],_=>.nil
 | e :: l,h=>by
  obtain ⟨n,tk,rfl,_⟩:=h e (.head _)
  exact .cons _ _ (ints_pairs fun e he=>h e (.tail _ he))
section
variable {prog:Program} {w:World} {A:Around} {E:Value→Shared→Prop} {s:Shared}
theorem hint_set {r:Addr} {Q:Bool→Shared→Prop} (hT:s.TypeIs (.ref r) "set") (h:Q false s):wpAny (model prog w) A (Builtin.List.listLengthHint (.ref r)) Q E s:=by
 unfold Builtin.List.listLengthHint
 refine wpAny_bind (wpAny_specialOf hT PySem.F.slot_set_len.lookup ?_)
 generalize hid:("set.__len__":String)=id0
 wp_delta
 rw [show splitId id0=some ("set","__len__") from by subst hid; decide +kernel]
 subst hid
 refine wpAny_bind (wpAny_isInstance (T:="set") (b:=true) hT sub_set_self ?_)
 refine wpAny_ite_split (fun q=>absurd q (by decide)) fun _=>wpAny_ite_split (fun _=>?_) fun q=>absurd (by decide +kernel) q
 exact wpAny_bind (wpAny_typeOf hT (wpAny_pure h))
theorem SetAt.lt {h:Heap} {a:Addr} {es:Array (Int×Value)} {ep:Nat} {t:SetTable} (x:SetAt w h a es ep t):a < h.objs.size:=let ⟨_,ho,_⟩:=x; Heap.lt_size ho
theorem src_set {a:Addr} {es:Array (Int×Value)} {ep:Nat} {t:SetTable}:KdlSrc prog w "set" a a es.size (fun i v=>(ordS w a ep es)[i]?.map (·.2)=some v) (fun h=>SetAt w h a es ep t) where
 type:=fun _ h=>h.typeIs
 there:=fun _ h=>⟨h.lt,h.lt⟩
 keep:=fun _ _ h k=>h.at fun o e=>k a (.inl rfl) o e
 notList:=by decide
 notTuple:=by decide
 hint:=fun _ _ _ _ h q=>hint_set h.typeIs q
 iter:=fun _ s hh h=>⟨_,_,(fun _ _ q=>set_iter h q),set_walks hh _ a (Nat.ne_of_lt h.lt) es ep t,⟨⟨_,Heap.get?_push_size _ rfl,rfl,rfl⟩,h.at fun o e=>Heap.get?_push_of_some _ e⟩⟩
theorem sorted_set {a:Addr} {xs:List Nat} {Q:Value→Shared→Prop} (hh:A.handled=none) (hS:SetI w s.heap a (foldS xs)) (hn:(foldS xs).length < 64)
  (h:∀ (h1 h':Heap) (tk c:Nat) (out:Array Value),(∀ b o,s.heap.get? b=some o→h1.get? b=some o)→(∀ b o,h1.get? b=some o→h'.get? b=some o)→h'.get? h1.objs.size=some (seqObj "list" out c) →
   IntsAre out.toList ((ssort xs).map fun n:Nat=>(n:Int))→Q (.ref h1.objs.size) { s with heap:=h',toks:=tk }) :
  wpAny (model prog w) A (call (.builtin "sorted") [.ref a]) Q E s:=by
 obtain ⟨o,es,ep,t,ho,hex,hd,hI,hl,hs⟩:=hS
 have hlen:es.size < 64:=by
  have h1:=hs.len
  rw [Array.length_toList] at h1
  omega
 have hok:SetAt w s.heap a es ep t:=⟨o,ho,hex,hd,hI,hl⟩
 refine Calls.call_function_entry kind_sorted plain_sorted entry_sorted (args_sorted1 _) ?_
 unfold Builtin.«sorted»
 refine wpAny_bind (m:=checkCount "sorted" 1 1 _) (wpAny_pure ?_)
 refine wpAny_bind (kdu_collect (A:=A.in1) (src_set (prog:=prog)) hh hok (by rw [sizeLine_eq]; omega) fun h1 tk acc hk hacc=>?_)
 have eacc:acc.toList=(ordS w a ep es).toList.map (·.2):=by
  have hlo:=(ord_perm w a ep es).length_eq
  rw [Array.length_toList,Array.length_toList] at hlo
  apply List.ext_getElem?
  intro i
  rcases Nat.lt_or_ge i acc.size with q | q
  ·have h3:=hacc.2 i acc[i] (Array.getElem?_eq_getElem q)
   rw [List.getElem?_map,Array.getElem?_toList,Array.getElem?_toList,h3,Array.getElem?_eq_getElem q]
  ·have h4:=hacc.1
   rw [List.getElem?_eq_none (by simpa using q),List.getElem?_eq_none (by simp; omega)]
 have hp:=ord_perm w a ep es
 have hI2:IntsAre acc.toList ((ordS w a ep es).toList.map (·.1)):=by
  rw [eacc]
  exact ints_pairs fun e he=>hs.2 e (hp.mem_iff.mp he)
 have hal:acc.toList.length < 64:=by rw [Array.length_toList,hacc.1]; exact hlen
 refine wpAny_bind (wpAny_newList ?_ (by rw [sizeLine_eq]; omega))
 have hoL:(h1.push (seqObj "list" acc.toList.toArray 0)).get? h1.objs.size=some (seqObj "list" acc.toList.toArray 0):=Heap.get?_push_size _ rfl
 refine wpAny_bind (wpAny_holding (wpAny_call_entry slot_list_sort ⟨_,hoL,rfl⟩ entry_list_sort (list_sort_tree (s:={ s with heap:=h1.push (seqObj "list" acc.toList.toArray 0),toks:=tk }) hoL hI2 hal fun out zs a1 a2 a3=>⟨_,rfl,?_⟩) (args_list_sort _)))
 refine wpAny_pure ⟨_,rfl,?_⟩
 have hz:=sort_eq (a2.trans ((hp.map _).trans hs.1)) a3
 rw [hz] at a1
 have hne:∀ b o,h1.get? b=some o→b≠h1.objs.size:=fun b o e=>Nat.ne_of_lt (Heap.lt_size e)
 have g1:=get?_update_seq hoL (fun _=>#[])
 have g2:=get?_update_seq (Heap.get?_push_of_some (seqObj "list" #[] 0) (Heap.get?_push_of_some (seqObj "tuple" acc.toList.toArray 0) g1)) fun _=>out
 refine h h1 _ tk _ out hk (fun b o e=>?_) g2 a1
 have q:=Ne.symm (hne b o e)
 exact (Heap.get?_update_other _ _ q).trans (Heap.get?_push_of_some _ (Heap.get?_push_of_some _ ((Heap.get?_update_other _ _ q).trans (Heap.get?_push_of_some _ e))))
end
end L2
namespace L2
open PySem PySem.Spec PyProof.Rows
noncomputable abbrev nV (ns:List Nat):List V:=ns.map fun n:Nat=>V.int n
noncomputable abbrev nD (ns:List Nat):List D:=ns.map fun n:Nat=>D.int n
noncomputable def setQ (w:World) (a:Addr) (ns:List Nat):Heap→Prop:=fun h=>SetI w h a (foldS ns)
theorem vals_IA:∀ {ns:List Nat} {us:List Value},Vals (nV ns) us→IntsAre us (ns.map fun n:Nat=>(n:Int))
 | [],_,.nil=>.nil
 | n :: ns,_,.cons ⟨t,e⟩ r=>by subst e; exact .cons _ _ (vals_IA r)
theorem IA_vals:∀ {ns:List Nat} {us:List Value},IntsAre us (ns.map fun n:Nat=>(n:Int))→Vals (nV ns) us
 | [],_,.nil=>.nil
 | n :: ns,_,.cons _ t r=>.cons ⟨t,rfl⟩ (IA_vals r)
theorem ssort_len (xs:List Nat):(ssort xs).length≤xs.length:=by
 have h:∀ (x:Nat) (l:List Nat),(insS x l).length≤l.length + 1:=by
  intro x l
  induction l with
  | nil=>simp [insS]
  | cons y l ih =>
   unfold insS
   split
   ·simp
   ·split
    ·simp
    ·simp only [List.length_cons]; omega
 induction xs with
 | nil=>exact Nat.le_refl _
 | cons x xs ih=>have:=h x (ssort xs); simp only [ssort,List.length_cons]; omega
section
variable {X:Cx}
noncomputable def rSetS (X:Cx):List V→Hp→VK→Prop:=fun xs H Q=>∃ a ns,xs=[.ref a]∧SqL X.K H a (nV ns)∧(ssort ns).length < 64∧(∀ x∈ns,x < 128)∧∀ p,H p=none→Q (.ref p) (upd H p (.ext (setQ X.w p ns)))
theorem cr_setS (hc:X.calm=true:=by rfl):CallR X (.type "set") (rSetS X):=by
 intro pins s σ H xs us Q I rv h
 obtain ⟨a,ns,rfl,sq,hb,hx,q⟩:=h
 obtain ⟨u,rfl,ru⟩:=vals1 rv
 cases ru
 obtain ⟨its,ri,pl,hz⟩:=I.list sq
 refine set_of (xs:=ns) (I.ok.hd hc) pl.isList (by simpa using vals_IA ri) hx (by rw [← ssort_fold]; exact hb) fun h' tk hS kp=>?_
 have hf:H s.heap.objs.size=none:=I.hok.fresh (Nat.le_refl _)
 have hS2:=hS
 obtain ⟨o,es,ep,t,ho,_⟩:=hS2
 refine ⟨.ref s.heap.objs.size,upd H s.heap.objs.size (.ext (setQ X.w s.heap.objs.size ns)),I.laid (t':=tk) (fun b u e=>kp b u (Heap.lt_size e) e) (Nat.le_refl _) ?_,rfl,q _ hf⟩
 exact ⟨hS,⟨o,ho⟩,fun h1 h2 x k=>x.at k⟩
noncomputable def rSortS (X:Cx):List V→Hp→VK→Prop:=fun xs H Q=>∃ a ns,xs=[.ref a]∧H a=some (.ext (setQ X.w a ns))∧(ssort ns).length < 64∧∀ p,H p=none→Q (.ref p) (upd H p (.lst (nV (ssort ns))))
theorem cr_sortS (hc:X.calm=true:=by rfl):CallR X (.builtin "sorted") (rSortS X):=by
 intro pins s σ H xs us Q I rv h
 obtain ⟨a,ns,rfl,hH,hn,q⟩:=h
 obtain ⟨u,rfl,ru⟩:=vals1 rv
 cases ru
 obtain ⟨hS,_,_⟩:=I.hok a _ hH
 refine sorted_set (I.ok.hd hc) hS (by rw [← ssort_fold]; exact hn) fun h1 h' tk c out k1 k2 hp hI=>?_
 have I1:Inv X pins σ H { s with heap:=h1,toks:=tk }:=I.kept k1
 have hf:H h1.objs.size=none:=I1.hok.fresh (Nat.le_refl _)
 refine ⟨.ref h1.objs.size,upd H h1.objs.size (.lst (nV (ssort ns))),I1.laid (t':=tk) k2 (Nat.le_refl _) ⟨?_,out.toList,c,IA_vals hI,by simpa using hp⟩,rfl,q _ hf⟩
 simp only [List.length_map]
 rw [sizeLine_eq]; omega
noncomputable def natsD (l:List D):Option (List Nat):=match intsD l with
 | some ns=>if ns.all (fun n=>decide (0≤n∧n < 128))=true∧(ssort (ns.map Int.toNat)).length < 64 then some (ns.map Int.toNat) else none
 | none=>none
theorem natsD_ok {l:List D} {ns:List Nat} (h:natsD l=some ns):l=nD ns∧(ssort ns).length < 64∧∀ x∈ns,x < 128:=by
 unfold natsD at h
 split at h
 ·rename_i zs hz
  split at h
  ·rename_i hc
   cases h
   refine ⟨?_,hc.2,fun x hx=>?_⟩
   ·rw [intsD_eq hz]
    unfold nD
    rw [List.map_map]
    refine List.map_congr_left fun z hq=>?_
    have:=of_decide_eq_true (List.all_eq_true.mp hc.1 z hq)
    show D.int z=D.int (z.toNat:Int)
    congr 1; omega
   ·obtain ⟨z,hq,rfl⟩:=List.mem_map.mp hx
    have:=of_decide_eq_true (List.all_eq_true.mp hc.1 z hq)
    omega
  ·cases h
 ·cases h
theorem natsD_nD {ns:List Nat} (h:(ssort ns).length < 64) (hx:∀ x∈ns,x < 128):natsD (nD ns)=some ns:=by
 unfold natsD
 have e:nD ns=(ns.map fun n:Nat=>(n:Int)).map D.int:=by simp [nD]
 rw [e,intsD_map]
 dsimp only
 have e:(ns.map fun n:Nat=>(n:Int)).map Int.toNat=ns:=by
  rw [List.map_map]
  have:(Int.toNat ∘ fun n:Nat=>(n:Int))=id:=by funext n; simp
  rw [this,List.map_id]
 rw [e,if_pos ⟨List.all_eq_true.mpr fun z hz=>by
  obtain ⟨n,hn,rfl⟩:=List.mem_map.mp hz
  have:=hx n hn
  exact decide_eq_true (by omega),h⟩]
theorem rels_nD {K:PySem.W.Frag} {ρ:List Addr} {H:Hp} {ns:List Nat} {xs:List V} (h:Rels K ρ H (nD ns) xs):xs=nV ns:=by
 have e:nD ns=(ns.map fun n:Nat=>(n:Int)).map D.int:=by simp [nD]
 rw [e] at h
 rw [Rels.ints_inv h]
 simp [nV]
theorem rels_new {K:PySem.W.Frag} {ρ:List Addr} {H:Hp} (ns:List Nat):Rels K ρ H (nD ns) (nV ns):=by
 have e:nD ns=(ns.map fun n:Nat=>(n:Int)).map D.int:=by simp [nD]
 have e':nV ns=(ns.map fun n:Nat=>(n:Int)).map V.int:=by simp [nV]
 rw [e,e']
 exact Rels.ints
theorem noRefs_nD (ns:List Nat):noRefs (nD ns)=true:=by
 have e:nD ns=(ns.map fun n:Nat=>(n:Int)).map D.int:=by simp [nD]
 rw [e]; exact noRefs_ints
noncomputable def dSortSet (a:Ev→List Cell→R (List D)):Ev→List Cell→R D:=fun e c=>(a e c).bind fun xs c=>match xs with
 | [x]=>match lstD c x with
  | some l=>match natsD l with
   | some ns=>.ok (.lst (nD (ssort ns))) c
   | none=>.bad
  | none=>.bad
 | _=>.bad
noncomputable def dSortSetM (a:Ev→List Cell→R (List D)):Ev→List Cell→R D:=fun e c=>(a e c).bind fun xs c=>match xs with
 | [x]=>match lstD c x with
  | some l=>match natsD l with
   | some ns=>.ok (.ref c.length) (c ++ [.lst (nD (ssort ns))])
   | none=>.bad
  | none=>.bad
 | _=>.bad
theorem pe_sortset {e:Expr} {da:Ev→List Cell→R (List D)} {p1 p2 q1 q2:Pos} {f:List D→List Cell→R D} (ha:PAd X [e] da) (hm:X.mg "sorted"=none) (hm2:X.mg "set"=none) (hg:Gl X "sorted") (hg2:Gl X "set") (hc:X.calm=true)
  (he:starEach [e] X.env=(false,eval e X.env) :: starEach [] X.env)
  (hf:∀ xs c ρ H (Q:VK) vs,Wd X.K ρ H c→Rels X.K ρ H xs vs→post X.K (Rel X.K) (f xs c) ρ H Q→∃ a ns,vs=[.ref a]∧SqL X.K H a (nV ns)∧(ssort ns).length < 64∧(∀ x∈ns,x < 128) ∧
   ∀ p,H p=none→∀ q,upd H p (.ext (setQ X.w p ns)) q=none→Q (.ref q) (upd (upd H p (.ext (setQ X.w p ns))) q (.lst (nV (ssort ns))))) :
  PEd X (.Call (.Name "sorted" p1) [.Call (.Name "set" p2) [e] [] q2] [] q1) (dCB f da):=by
 have hset:PE X (.Call (.Name "set" p2) [e] [] q2) _:=pe_callTy (cr_setS hc) hg2 hm2 (by decide +kernel) ha (by decide) (by decide) he (by exact starAny rfl)
 refine (pe_callB (cr_sortS hc) hg hm (by decide +kernel) (pa_cons hset pa_nil (starE rfl)) (by decide) (by decide) (by exact starE rfl) (by exact starAny rfl)).imp fun σ H Q h=>?_
 obtain ⟨ρ,e,c,W,V,p⟩:=h
 refine ⟨ρ,e,c,W,V,post.bind p fun xs c1 ρ1 H1 vs ex W1 X1 r1 p1=>?_⟩
 obtain ⟨a,ns,rfl,sq,h64,hx,q⟩:=hf xs c1 ρ1 H1 Q vs W1 r1 p1
 exact ⟨a,ns,rfl,sq,h64,hx,fun p hp=>⟨p,ns,rfl,upd_same,h64,fun q' hq=>q p hp q' hq⟩⟩
noncomputable def sortF:List D→List Cell→R D:=fun xs c=>match xs with
 | [x]=>match lstD c x with
  | some l=>match natsD l with
   | some ns=>.ok (.lst (nD (ssort ns))) c
   | none=>.bad
  | none=>.bad
 | _=>.bad
noncomputable def sortFM:List D→List Cell→R D:=fun xs c=>match xs with
 | [x]=>match lstD c x with
  | some l=>match natsD l with
   | some ns=>.ok (.ref c.length) (c ++ [.lst (nD (ssort ns))])
   | none=>.bad
  | none=>.bad
 | _=>.bad
theorem pd_sortset {e:Expr} {da:Ev→List Cell→R (List D)} {p1 p2 q1 q2:Pos} (ha:PAd X [e] da) (hm:X.mg "sorted"=none) (hm2:X.mg "set"=none) (hg:Gl X "sorted":=by rfl) (hg2:Gl X "set":=by rfl) (hc:X.calm=true:=by rfl)
  (he:starEach [e] X.env=(false,eval e X.env) :: starEach [] X.env:=by exact starE rfl):PEd X (.Call (.Name "sorted" p1) [.Call (.Name "set" p2) [e] [] q2] [] q1) (dSortSet da) :=
 pe_sortset (f:=sortF) ha hm hm2 hg hg2 hc he fun xs c ρ H Q vs W r p=>by
  unfold sortF at p
  split at p
  ·rename_i x
   obtain ⟨v,rr,rfl,hx,hr⟩:=r
   cases hr
   split at p
   ·rename_i l hl
    split at p
    ·rename_i ns hn
     obtain ⟨rfl,h64,hx'⟩:=natsD_ok hn
     obtain ⟨a,ys,rfl,ha',rl⟩:=lstD_ok W hx hl
     cases rels_nD rl
     refine ⟨a,ns,rfl,SqL.of ha',h64,hx',fun q hq q' hq'=>?_⟩
     exact new_lst (W.fresh hq) (rels_new _) (post.ext p (Ext.fresh W hq)) q' hq'
    ·exact p.elim
   ·exact p.elim
  ·exact p.elim
end
section
variable (a:Ev→List Cell→R (List D)) (e:Ev) (c:List Cell)
@[simp] theorem x_sortset:dSortSet a e c=(a e c).bind fun xs c=>match xs with
 | [x]=>match lstD c x with
  | some l=>match natsD l with
   | some ns=>.ok (.lst (nD (ssort ns))) c
   | none=>.bad
  | none=>.bad
 | _=>.bad:=rfl
@[simp] theorem x_sortsetM:dSortSetM a e c=(a e c).bind fun xs c=>match xs with
 | [x]=>match lstD c x with
  | some l=>match natsD l with
   | some ns=>.ok (.ref c.length) (c ++ [.lst (nD (ssort ns))])
   | none=>.bad
  | none=>.bad
 | _=>.bad:=rfl
end
end L2
namespace L2
open PySem PySem.Spec PyProof.Rows
theorem triples_snoc {l c:Int} {t u:Tok} {v:Value}:∀ (xs:List Value),TriplesOk xs→TriplesOk (xs ++ [.int l t,.int c u,v])
 | [],_=>trivial
 | .int _ _ :: .int _ _ :: _ :: rest,h=>triples_snoc (l:=l) (c:=c) (t:=t) (u:=u) (v:=v) rest h
theorem among_snoc {pos p:Pos} {v cv:Value}:∀ (xs:List Value),TriplesOk xs→codeAmong p (xs ++ [rawInt pos.line,rawInt pos.col,v])=some cv→codeAmong p xs=some cv∨cv=v
 | [],_,h=>by
  simp only [List.nil_append,rawInt,codeAmong] at h
  split at h
  ·exact .inr (Option.some.inj h).symm
  ·cases h
 | .int a _ :: .int b _ :: x :: rest,ht,h=>by
  simp only [List.cons_append,codeAmong] at h ⊢
  split at h
  ·rename_i hc; rw [if_pos hc]; exact .inl h
  ·rename_i hc; rw [if_neg hc]; exact among_snoc rest ht h
structure LamNew (H H':Hp) (n:Nat) (P:Addr) (q:Str) (e:Expr) (cl:List (Str×Addr)) (a:Addr):Prop where
 at':∃ o c,H' a=some (.ext (lamP a o))∧LamObj e o q c cl∧H' c=some (.ext (codeP c q))
 keep:∀ b u,H b=some u→isTbl u=false→H' b=some u
 new:∀ b,b < n→H b=none→H' b=none
 tabs:∀ b ps,b≠P→H b=some (.tbl ps)→H' b=some (.tbl ps)
 tab:TabAt H' P q
section
variable {X:Cx} {pins:List (Addr×Obj)} {σ:St} {H:Hp} {s:Shared}
theorem codeRec_stay {h1 h2:Heap} {c:Addr} {q:Str} (x:h1.CodeRec (.ref c) q) (k:∀ o,h1.get? c=some o→h2.get? c=some o):h2.CodeRec (.ref c) q:=by
 obtain ⟨c',oc,vs,t,e,h,r⟩:=x
 cases e
 exact ⟨_,oc,vs,t,rfl,k _ h,r⟩
theorem lam_made {c P:Addr} {q:Str} {params:Arguments} {body:Expr} {scope:Scope} {pos:Pos} {clos:List (Str×Addr)} {Q:Value→Shared→Prop}
  (I:Inv X pins σ H s) (hcode:X.env.code=.ref c) (hq:X.env.qual ++ "<lambda>"=q) (hC:PySem.W.codeHdIn X.K c P=true) (hT:TabAt H P q) (hcl:closureFor scope X.env=pure clos) (hdef:defaultsOf params X.env=([],[]))
  (h:∀ a H' s',Inv X pins σ H' s'→s.heap.objs.size≤a→LamNew H H' s.heap.objs.size P q (.Lambda params body scope pos) clos a→Q (.ref a) s') :
  wpAny (model X.prog X.w) X.A (eval (.Lambda params body scope pos) X.env) Q X.xe s:=by
 obtain ⟨ps,hP,ht,hcs⟩:=hT
 have hPh:s.heap.get? P=some (PySem.W.tabObj ps):=I.hok P _ hP
 have hns:s.heap.Ns mainGlobals X.mg:=I.mod.glob.keeps I.bk
 obtain ⟨bm,ob,b1,b2,b3,b4,b5,b6⟩:=I.mod.bmod
 have b3':=I.bk _ _ b3
 have hgP:mainGlobals≠P:=fun z=>by
  obtain ⟨o,es,ep,e,hd,_⟩:=hns
  rw [z,hPh] at e; cases e; cases hd
 have hbP:bm≠P:=fun z=>by rw [z,hPh] at b3'; cases b3'; cases b4
 have hbG:bm≠mainGlobals:=fun z=>by
  obtain ⟨o,es,ep,e,hd,_⟩:=hns
  rw [z,e] at b3'; cases b3'; rw [hd] at b6; cases b6
 have hB:s.heap.BuiltinsAt X.mg P:=⟨bm,ob,b1,b2,hbG,hbP,b3',b4,b5,b6⟩
 have C:PySem.W.CodeHd s.heap c P:=PySem.W.codeHd_of_K I.kIn hC
 refine PySem.W.kla_eval hdef ?_
 rw [hq]
 have hPl:P < s.heap.objs.size:=Heap.lt_size hPh
 cases hf:codeAmong pos ps.toList with
 | some cv =>
  obtain ⟨c',rfl,hc'⟩:=hcs pos cv hf
  refine PySem.W.kla_makeFunctionHit hcl I.ok.glob hns hcode C hPh ht hf hB fun ctv h' tk hk hsz=>?_
  generalize ho:({ cls:=.type "function",data:=.func (PySem.W.kla_fn "<lambda>" q params body scope clos ((X.mg "__name__").getD .none) (.ref c') ctv) }:Obj)=o
  have hof:o.isFreed=false:=by rw [← ho]; rfl
  have hn:H h'.objs.size=none:=I.hok.fresh hsz
  have nb:∀ b u,H b=some u→b≠h'.objs.size:=fun b u e=>ne_of_none e hn
  refine h h'.objs.size (upd H h'.objs.size (.ext (lamP h'.objs.size o))) _ (I.laid (t':=tk) (fun b u e=>Heap.get?_push_of_some _ (hk b u e)) hsz ?_) hsz ⟨⟨o,c',upd_same,⟨_,ctv,ho.symm⟩,by rw [upd_ne (nb _ _ hc')]; exact hc'⟩,fun b u e _=>by rw [upd_ne (nb b u e)]; exact e,fun b hb e=>by rw [upd_ne (Nat.ne_of_lt (Nat.lt_of_lt_of_le hb hsz))]; exact e,fun b ps' _ e=>by rw [upd_ne (nb b _ e)]; exact e,⟨ps,by rw [upd_ne (nb _ _ hP)]; exact hP,ht,fun p v e=>let ⟨d,e1,e2⟩:=hcs p v e; ⟨d,e1,by rw [upd_ne (nb _ _ e2)]; exact e2⟩⟩⟩
  exact ⟨Heap.get?_push_size _ hof,⟨_,Heap.get?_push_size _ hof⟩,fun h1 h2 e k=>k _ e⟩
 | none =>
  refine PySem.W.kla_makeFunction hcl I.ok.glob hns hcode C hPh ht hf hgP hB fun c' ctv h' tk hx hge hlt hrec htb=>?_
  generalize ho:PySem.W.kla_obj "<lambda>" q params body scope clos ((X.mg "__name__").getD .none) c' ctv=o
  have hsz:s.heap.objs.size≤h'.objs.size:=Nat.le_trans hge (Nat.le_of_lt hlt)
  have hof:o.isFreed=false:=by rw [← ho]; rfl
  have hnc:H c'=none:=I.hok.fresh hge
  have hna:H h'.objs.size=none:=I.hok.fresh hsz
  have hca:c'≠h'.objs.size:=Nat.ne_of_lt hlt
  have hPc:P≠c':=Nat.ne_of_lt (Nat.lt_of_lt_of_le hPl hge)
  have hPa:P≠h'.objs.size:=Nat.ne_of_lt (Nat.lt_of_lt_of_le hPl hsz)
  generalize hps:ps ++ #[rawInt pos.line,rawInt pos.col,.ref c']=ps' at htb
  let H':Hp:=upd (upd (upd H P (.tbl ps')) c' (.ext (codeP c' q))) h'.objs.size (.ext (lamP h'.objs.size o))
  have at0:∀ b,b≠P→b≠c'→b≠h'.objs.size→H' b=H b:=fun b n1 n2 n3=>by
   show upd (upd (upd H P (.tbl ps')) c' _) h'.objs.size _ b=_
   rw [upd_ne n3,upd_ne n2,upd_ne n1]
  have atP:H' P=some (.tbl ps'):=by
   show upd (upd (upd H P (.tbl ps')) c' _) h'.objs.size _ P=_
   rw [upd_ne hPa,upd_ne hPc,upd_same]
  have atc:H' c'=some (.ext (codeP c' q)):=by
   show upd (upd (upd H P (.tbl ps')) c' _) h'.objs.size _ c'=_
   rw [upd_ne hca,upd_same]
  have ata:H' h'.objs.size=some (.ext (lamP h'.objs.size o)):=upd_same
  have old:∀ b u,H b=some u→isTbl u=false→H' b=some u:=fun b u e t=>by
   rw [at0 b (fun z=>by rw [z,hP] at e; cases e; cases t) (ne_of_none e hnc) (ne_of_none e hna)]; exact e
  have kp:∀ b ob,b≠P→s.heap.get? b=some ob→(h'.push o).get? b=some ob:=fun b ob n e=>Heap.get?_push_of_some _ (hx b ob n e)
  have hokH:HOk X.prog X.w H' (h'.push o):=fun b u e=>by
   by_cases h1:b=h'.objs.size
   ·subst h1
    rw [ata] at e; cases e
    exact ⟨Heap.get?_push_size _ hof,⟨_,Heap.get?_push_size _ hof⟩,fun h1 h2 e k=>k _ e⟩
   ·by_cases h2:b=c'
    ·subst h2
     rw [atc] at e; cases e
     obtain ⟨d,oc,vs,t,e0,e1,e2⟩:=id hrec
     cases e0
     refine ⟨codeRec_stay hrec fun o e=>Heap.get?_push_of_some _ e,⟨oc,Heap.get?_push_of_some _ e1⟩,fun h1 h2 x k=>codeRec_stay x k⟩
    ·by_cases h3:b=P
     ·subst h3
      rw [atP] at e; cases e
      exact Heap.get?_push_of_some _ htb
     ·rw [at0 b h3 h2 h1] at e
      refine (I.hok b u e).stay (fun d w hd z=>kp d w ?_ z) (fun d z=>?_) fun d xs z=>?_
      ·rcases hd with hd | hd
       ·rw [hd]; exact h3
       ·intro z2; rw [z2,hP] at hd; cases hd
      ·exact old d _ z rfl
      ·exact old d _ z rfl
  have I':Inv X pins σ H' { s with heap:=h'.push o,toks:=tk }:=by
   refine I.step (g':=s.gens) (d':=s.drawn) (ch:=[]) (fun _ z=>nomatch z) (fun b ob _ _ _ e n=>kp b ob (fun z=>by rw [z,hP] at n; cases n) e) (fun b ob _ _ _ e n=>⟨ob.slots,kp b ob (fun z=>by rw [z,hP] at n; cases n) e⟩) (fun b ob _ e n=>?_) (fun b ob _ e=>?_) (fun b xs e=>old b _ e rfl) (fun b o' u e=>old b _ e rfl) (fun b ps2 e=>?_) (fun m hm=>?_) hokH I.bare
   ·have hb:=Heap.lt_size e
    rw [at0 b (fun z=>by rw [z,hP] at n; cases n) (Nat.ne_of_lt (Nat.lt_of_lt_of_le hb hge)) (Nat.ne_of_lt (Nat.lt_of_lt_of_le hb hsz))]
    exact n
   ·by_cases hb:b=P
    ·subst hb; exact ⟨_,Heap.get?_push_of_some _ htb⟩
    ·exact ⟨ob,kp b ob hb e⟩
   ·by_cases hb:b=P
    ·subst hb
     rw [hP] at e; cases e
     exact ⟨#[rawInt pos.line,rawInt pos.col,.ref c'],by rw [atP,hps]⟩
    ·refine ⟨#[],?_⟩
     rw [at0 b hb (ne_of_none e hnc) (ne_of_none e hna),e]
     simp
   ·have hLP:X.env.locals≠P:=fun z=>by have:=I.free; rw [z,hP] at this; cases this
    obtain ⟨ol,es,ep,e,r⟩:=hm
    exact ⟨ol,es,ep,kp _ _ hLP e,r⟩
  refine h h'.objs.size H' _ I' hsz ⟨⟨o,c',ata,⟨_,ctv,ho.symm⟩,atc⟩,old,fun b hb e=>?_,fun b ps2 nb e=>?_,⟨ps',atP,?_,fun p v e=>?_⟩⟩
  ·rw [at0 b (fun z=>by rw [z,hP] at e; cases e) (Nat.ne_of_lt (Nat.lt_of_lt_of_le hb hge)) (Nat.ne_of_lt (Nat.lt_of_lt_of_le hb hsz))]; exact e
  ·rw [at0 b nb (ne_of_none e hnc) (ne_of_none e hna)]; exact e
  ·rw [← hps,Array.toList_append]
   exact triples_snoc _ ht
  ·rw [← hps,Array.toList_append] at e
   rcases among_snoc ps.toList ht e with e | e
   ·obtain ⟨d,e1,e2⟩:=hcs p v e
    exact ⟨d,e1,old d _ e2 rfl⟩
   ·exact ⟨c',e,atc⟩
end
end L2
namespace L2
open PySem PySem.Spec PyProof.Rows
noncomputable def frzH (H:Hp) (F:Addr→Option Obj):Hp:=fun b=>match F b with
 | some o=>some (.frz o (.own 0))
 | none=>H b
noncomputable def unfr (H:Hp) (F:Addr→Option Obj):Hp:=fun b=>match F b with
 | some _=>none
 | none=>H b
section
variable {H H':Hp} {F:Addr→Option Obj} {b:Addr} {o:Obj} {u:HO}
theorem frz_at (h:F b=some o):frzH H F b=some (.frz o (.own 0)):=by unfold frzH; rw [h]
theorem frz_no (h:F b=none):frzH H F b=H b:=by unfold frzH; rw [h]
theorem unfr_at (h:F b=some o):unfr H F b=none:=by unfold unfr; rw [h]
theorem unfr_no (h:F b=none):unfr H F b=H b:=by unfold unfr; rw [h]
theorem F_none (hF:∀ b o,F b=some o→H b=none) (h:H b=some u):F b=none:=by
 cases e:F b with
 | none=>rfl
 | some o=>rw [hF b o e] at h; cases h
theorem frz_old (hF:∀ b o,F b=some o→H b=none) (h:H b=some u):frzH H F b=some u:=by rw [frz_no (F_none hF h)]; exact h
end
section
variable {X:Cx} {pins:List (Addr×Obj)} {σ:St} {H H':Hp} {s s':Shared} {F:Addr→Option Obj}
structure FzOk (X:Cx) (H:Hp) (s:Shared) (F:Addr→Option Obj):Prop where
 heap:∀ b o,F b=some o→s.heap.get? b=some o
 free:∀ b o,F b=some o→H b=none
 high:∀ b o,F b=some o→X.s₀.heap.objs.size≤b
 loc:∀ b o,F b=some o→b≠X.env.locals
theorem frz_hok {P:Program} {w:World} {h:Heap} (hok:HOk P w H h) (hF:∀ b o,F b=some o→H b=none) (hh:∀ b o,F b=some o→h.get? b=some o):HOk P w (frzH H F) h:=fun b u e=>by
 cases hb:F b with
 | some o =>
  rw [frz_at hb] at e; cases e
  exact ⟨hh b o hb,o,hh b o hb⟩
 | none =>
  rw [frz_no hb] at e
  exact (hok b u e).stay (fun _ _ _ z=>z) (fun c z=>frz_old hF z) fun c xs z=>frz_old hF z
theorem frz_env0 (I:Inv X pins σ H s) (Z:FzOk X H s F):Env0 X.prog X.w X.K X.mg X.base X.A X.stack s (frzH H F):=by
 have e:=I.env0
 have sz:X.base.objs.size≤X.s₀.heap.objs.size:=I.ok.bsz
 refine ⟨e.frames,e.mod,fun b o h=>?_,e.bsz,e.funs,fun b hb=>?_,frz_hok I.hok Z.free Z.heap,e.bare⟩
 ·obtain ⟨h1,h2⟩:=e.bs b o h
  refine ⟨h1,?_⟩
  cases hb:F b with
  | none=>rw [frz_no hb]; exact h2
  | some ob=>exact absurd (Nat.lt_of_lt_of_le (Heap.lt_size h) (Nat.le_trans sz (Z.high b ob hb))) (Nat.lt_irrefl _)
 ·cases hF:F b with
  | none=>rw [frz_no hF]; exact e.frf b hb
  | some ob =>
   exfalso
   rcases List.mem_cons.mp (I.stkSub b hb) with z | z
   ·exact Z.loc b ob hF z
   ·obtain ⟨_,o2,ho,_⟩:=I.ok.funs.mem z
    exact absurd (Nat.lt_of_lt_of_le (Heap.lt_size ho) (Z.high b ob hF)) (Nat.lt_irrefl _)
theorem unfr_un {fs:List Addr} {h h':Heap} {P:Program} {w:World} (hF:∀ b o,F b=some o→H b=none) (hh:∀ b o,F b=some o→h.get? b=some o) (hfs:∀ b o,F b=some o→b∉fs) (un:Un fs [] (frzH H F) H' h h') (hok:HOk P w H' h'):Un fs [] H (unfr H' F) h h'∧HOk P w (unfr H' F) h':=by
 have fz:∀ b o,F b=some o→H' b=some (.frz o (.own 0)):=fun b o e=>un.frzs b o _ (frz_at e)
 have nn:∀ {b:Addr} {u:HO},H b=some u→F b=none:=fun e=>F_none hF e
 refine ⟨⟨fun b o e n hb hx=>?_,fun b o e n hb hx=>?_,fun b o e n hx=>?_,un.there,fun b xs e=>?_,fun b o u e=>?_,fun b ps e=>?_⟩,fun b u e=>?_⟩
 ·cases hb':F b with
  | none=>exact un.keep b o e (by rw [frz_no hb']; exact n) hb hx
  | some ob =>
   have e1:=hh b ob hb'
   rw [e] at e1; cases e1
   exact (hok b _ (fz b o hb')).1
 ·cases hb':F b with
  | none=>exact un.slot b o e (by rw [frz_no hb']; exact n) hb hx
  | some ob=>exact absurd hb (hfs b ob hb')
 ·cases hb':F b with
  | none=>rw [unfr_no hb']; exact un.free b o e (by rw [frz_no hb']; exact n) hx
  | some ob=>exact unfr_at hb'
 ·rw [unfr_no (nn e)]; exact un.tups b xs (frz_old hF e)
 ·rw [unfr_no (nn e)]; exact un.frzs b o u (frz_old hF e)
 ·obtain ⟨more,z⟩:=un.tbls b ps (frz_old hF e)
  exact ⟨more,by rw [unfr_no (nn e)]; exact z⟩
 ·cases hb:F b with
  | some ob=>rw [unfr_at hb] at e; cases e
  | none =>
   rw [unfr_no hb] at e
   have st:∀ {c:Addr} {v:HO},H' c=some v→(∀ o,v≠.frz o (.own 0))→unfr H' F c=some v:=fun {c v} z n=>by
    cases hc:F c with
    | none=>rw [unfr_no hc]; exact z
    | some oc=>rw [fz c oc hc] at z; exact absurd (Option.some.inj z).symm (n oc)
   exact (hok b u e).stay (fun _ _ _ z=>z) (fun c z=>st z fun _ q=>nomatch q) fun c xs z=>st z fun _ q=>nomatch q
theorem run_frz {k:Nat} {f:Addr} {fd:FuncData} {ps:List Str} {sp:Sp} {us:List Value} {vs:List V} {Q:VK} (G:FnOk X.prog X.w X.K X.mg X.base CX0 k f fd ps sp) (hr:Room k X.A) (hb:Binds X.K fd ps []) (I:Inv X pins σ H s) (Z:FzOk X H s F) (r:Vals vs us)
  (h:sp vs (frzH H F) (fun v H'=>Q v (unfr H' F)) E0):wpAny (model X.prog X.w) X.A (call (.ref f) us) (EP X pins σ Q) X.xe s:=by
 have hl:us.length=ps.length:=by rw [← r.length]; exact G.len _ _ _ _ h
 have hb':=hb s us I.kIn (by rw [List.append_nil]; exact hl)
 rw [List.append_nil] at hb'
 refine wpAny_call (codeAny_mono (G.run X.A X.stack s (frzH H F) ⟨us,[]⟩ us vs _ E0 hr (frz_env0 I Z) hb' r h) fun r s' hq=>?_)
 cases r with
 | error e=>exact False.elim hq
 | ok fl =>
  cases fl with
  | ret u =>
   obtain ⟨v,H',os,bare,un,hok,rv,q⟩:=hq
   obtain ⟨un2,hok2⟩:=unfr_un Z.free Z.heap (fun b o e hb=>by
    have:=(frz_env0 I Z).frf b hb
    rw [frz_at e] at this; cases this) un hok
   exact ⟨v,unfr H' F,I.call' os un2 hok2 bare fun b z=>absurd z (by simp),rv,q⟩
  | next=>exact False.elim hq
  | brk=>exact False.elim hq
  | cont=>exact False.elim hq
end
end L2
namespace L2
open PySem PySem.Spec PyProof.Rows
section
variable {K:PySem.W.Frag} {ρ ρ':List Addr} {H H':Hp} {c c':List Cell} {F:Addr→Option Obj}
theorem wd_of (W:Wd K ρ H c) (k:∀ b u,H b=some u→isTbl u=false→H' b=some u) (t:TabOk K H'):Ext ρ H ρ H'∧Wd K ρ H' c:=by
 have X:Ext ρ H ρ H':=⟨fun _ _ e=>e,fun a o e n z=>⟨k a o e z,n⟩⟩
 refine ⟨X,W.nd,W.len,fun j a cl e1 e2=>?_,t⟩
 have q:=W.cel j a cl e1 e2
 cases cl with
 | lst l =>
  obtain ⟨nr,xs,e,r⟩:=q
  exact ⟨nr,xs,k _ _ e rfl,Rels.mono W X l xs r⟩
theorem wd_frz (W:Wd K ρ H c) (hF:∀ b o,F b=some o→H b=none):Ext ρ H ρ (frzH H F)∧Wd K ρ (frzH H F) c :=
 wd_of W (fun b u e _=>frz_old hF e) (W.tab.mono (fun _ _ e=>frz_old hF e) fun _ _ e=>frz_old hF e)
theorem unfr_old {b:Addr} {u:HO} (hF:∀ b o,F b=some o→H b=some (.frz o (.own 0))) (e:H b=some u) (n:∀ o,u≠.frz o (.own 0)):unfr H F b=some u:=by
 cases hc:F b with
 | none=>rw [unfr_no hc]; exact e
 | some oc=>rw [hF b oc hc] at e; exact absurd (Option.some.inj e).symm (n oc)
mutual
theorem Rel.unfr (hF:∀ b o,F b=some o→H b=some (.frz o (.own 0))):∀ (d:D) (v:V),noLam d=true→Rel K ρ H d v→Rel K ρ (unfr H F) d v
 | .non,v,_,h=>h
 | .bl b,v,_,h=>h
 | .int i,v,_,h=>h
 | .str y,v,_,h=>h
 | .ty n,v,_,h=>h
 | .tup l,v,n,h=>by
  obtain ⟨a,xs,e,s,r⟩:=h
  exact ⟨a,xs,e,unfr_old hF s (fun _ z=>nomatch z),Rels.unfr hF l xs (by unfold noLam at n; exact n) r⟩
 | .lst l,v,n,h=>by
  obtain ⟨a,xs,e,s,r⟩:=h
  exact ⟨a,xs,e,⟨unfr_old hF s.1 (fun _ z=>nomatch z),s.2⟩,Rels.unfr hF l xs (by unfold noLam at n; exact n) r⟩
 | .ref k,v,_,h=>h
 | .scr l,v,_,h=>by
  obtain ⟨a,e,s⟩:=h
  refine ⟨a,e,?_⟩
  rcases s with ⟨s,z⟩ | s
  ·rcases s with s | ⟨o,s⟩
   ·exact .inl ⟨.inl (unfr_old hF s (fun _ z=>nomatch z)),z⟩
   ·exact .inl ⟨.inr ⟨o,unfr_old hF s (fun _ z=>nomatch z)⟩,z⟩
  ·exact .inr s
 | .fn a n,v,_,h=>h
 | .dic,v,_,h=>by
  obtain ⟨a,e,q⟩:=h
  exact ⟨a,e,unfr_old hF q (fun _ z=>nomatch z)⟩
 | .dct ks,v,_,h=>by
  obtain ⟨a,kvs,e,q,z⟩:=h
  exact ⟨a,kvs,e,unfr_old hF q (fun _ z=>nomatch z),z⟩
 | .exc y,v,_,h=>by
  obtain ⟨a,C,e,n,q⟩:=h
  exact ⟨a,C,e,n,unfr_old hF q (fun _ z=>nomatch z)⟩
 | .lam _ _ _ _,v,n,h=>by unfold noLam at n; cases n
theorem Rels.unfr (hF:∀ b o,F b=some o→H b=some (.frz o (.own 0))):∀ (l:List D) (xs:List V),noLams l=true→Rels K ρ H l xs→Rels K ρ (unfr H F) l xs
 | [],xs,_,h=>h
 | d :: l,xs,n,h=>by
  obtain ⟨y,r,e,h1,h2⟩:=h
  unfold noLams at n
  rw [Bool.and_eq_true] at n
  exact ⟨y,r,e,Rel.unfr hF d y n.1 h1,Rels.unfr hF l r n.2 h2⟩
end
theorem wd_unfr (W:Wd K ρ H c) (hF:∀ b o,F b=some o→H b=some (.frz o (.own 0))):Wd K ρ (unfr H F) c:=by
 refine ⟨W.nd,W.len,fun j a cl e1 e2=>?_,W.tab.mono (fun _ _ e=>unfr_old hF e (fun _ z=>nomatch z)) fun _ _ e=>unfr_old hF e (fun _ z=>nomatch z)⟩
 have q:=W.cel j a cl e1 e2
 cases cl with
 | lst l =>
  obtain ⟨nr,xs,e,r⟩:=q
  exact ⟨nr,xs,unfr_old hF e (fun _ z=>nomatch z),Rels.unfr hF l xs (noLams_of l nr) r⟩
theorem ext_unfr (x:Ext ρ (frzH H F) ρ' H') (hF:∀ b o,F b=some o→H b=none):Ext ρ H ρ' (unfr H' F) :=
 ⟨x.pre,fun a o e n t=>by
  obtain ⟨h1,h2⟩:=x.keep a o (frz_old hF e) n t
  exact ⟨by rw [unfr_no (F_none hF e)]; exact h1,h2⟩⟩
theorem ext_frz (x:Ext ρ (unfr H F) ρ' H') (W':Wd K ρ' H' c') (hF:∀ b o,F b=some o→H b=some (.frz o (.own 0))) (hn:∀ b o,F b=some o→H' b=none):Ext ρ H ρ' (frzH H' F) :=
 ⟨x.pre,fun a o e n t=>by
  cases hc:F a with
  | some oc =>
   have:=hF a oc hc
   rw [e] at this; cases this
   exact ⟨frz_at hc,W'.nil (hn a oc hc)⟩
  | none =>
   obtain ⟨h1,h2⟩:=x.keep a o (by rw [unfr_no hc]; exact e) n t
   exact ⟨by rw [frz_no hc]; exact h1,h2⟩⟩
end
end L2
namespace L2
open PySem PySem.Spec PyProof.Rows
structure LamSc (X:Cx) (ns:List Str) (js:List Nat) (scope:Scope):Prop where
 names:∀ x∈scope.names,x.2=.free→X.env.kindOf x.1=some .cell∨X.env.kindOf x.1=some .free
 got:∀ (i j:Nat) (x:Str),js[i]? = some j→ns[i]? = some x→(x,NameKind.free)∈scope.names∧X.N[j]? = some x∧(X.env.kindOf x=some .cell∨X.env.kindOf x=some .free)
 all:∀ x,(x,NameKind.free)∈scope.names→x∈ns
noncomputable def lamB (XN:List Str) (xn:List (Str×NameKind)) (ns:List Str) (js:List Nat) (names:List (Str×NameKind)):Bool :=
 names.all (fun x=>decide (x.2≠NameKind.free) || ((decide (xn.lookup x.1=some NameKind.cell) || decide (xn.lookup x.1=some NameKind.free)) && decide (x.1∈ns))) &&
 (js.zip ns).all (fun q=>decide ((q.2,NameKind.free)∈names) && decide (XN[q.1]? = some q.2) && (decide (xn.lookup q.2=some NameKind.cell) || decide (xn.lookup q.2=some NameKind.free)))
theorem LamSc.of {X:Cx} {ns:List Str} {js:List Nat} {scope:Scope} (h:lamB X.N X.env.scope.names ns js scope.names=true):LamSc X ns js scope:=by
 unfold lamB at h
 simp only [Bool.and_eq_true,List.all_eq_true,decide_eq_true_eq,Bool.or_eq_true] at h
 obtain ⟨h1,h2⟩:=h
 refine ⟨fun x hx e=>?_,fun i j x hj hx=>?_,fun x hx=>?_⟩
 ·rcases h1 x hx with z | z
  ·exact absurd e z
  ·exact z.1
 ·have hm:(j,x)∈js.zip ns:=by
   have:(js.zip ns)[i]? = some (j,x):=by rw [List.getElem?_zip_eq_some]; exact ⟨hj,hx⟩
   exact List.mem_of_getElem? this
  obtain ⟨⟨a,b⟩,d⟩:=h2 _ hm
  exact ⟨a,b,d⟩
 ·rcases h1 _ hx with z | z
  ·exact absurd rfl z
  ·exact z.2
section
variable {X:Cx} {pins:List (Addr×Obj)} {σ:St} {H:Hp} {s:Shared} {ns:List Str} {js:List Nat} {scope:Scope}
noncomputable abbrev clX (X:Cx) (scope:Scope):List (Str×Addr):=addFree X.env scope.names []
theorem LamSc.clos (S:LamSc X ns js scope) (I:Inv X pins σ H s):closureFor scope X.env=pure (clX X scope):=by
 have e:=addFree_eq (env:=X.env) scope.names [] fun x hx hk=>I.ok.has x.1 (S.names x hx hk)
 show ((forIn scope.names ([]:List (Str×Addr)) fun (x:Str×NameKind) cs=>(if (x.2 == NameKind.free)=true then do let a ← cellOf X.env x.1; pure (ForInStep.yield ((x.1,a) :: cs)) else pure (ForInStep.yield cs):Sem (ForInStep (List (Str×Addr))))) >>= fun cs=>pure cs)=_
 rw [e,pure_bind]
theorem LamSc.cap (S:LamSc X ns js scope) (I:Inv X pins σ H s) {x:Str} {c:Addr} (h:(clX X scope).lookup x=some c):(x,NameKind.free)∈scope.names∧X.env.cells.lookup x=some c:=by
 rcases addFree_from _ _ h with ⟨a,b⟩ | q
 ·refine ⟨a,?_⟩
  obtain ⟨c',hc⟩:=I.ok.has x (S.names _ a rfl)
  rw [hc] at b ⊢
  rw [b]; rfl
 ·cases q
theorem LamSc.has (S:LamSc X ns js scope) (I:Inv X pins σ H s) {x:Str} (h:(x,NameKind.free)∈scope.names):∃ c,(clX X scope).lookup x=some c:=Option.isSome_iff_exists.mp (addFree_acc _ _ (.inr h))
theorem LamSc.cl (S:LamSc X ns js scope) (I:Inv X pins σ H s):ClOk (clX X scope) ns:=⟨fun x y c h1 h2=>I.ok.inj x y c (S.cap I h1).2 (S.cap I h2).2,fun x c h=>S.all x (S.cap I h).1⟩
open Classical in
noncomputable def fzX (cl:List (Str×Addr)) (h:Heap):Addr→Option Obj:=fun b=>if ∃ x,cl.lookup x=some b then h.get? b else none
theorem fzX_some {cl:List (Str×Addr)} {h:Heap} {b:Addr} {o:Obj} (e:fzX cl h b=some o):(∃ x,cl.lookup x=some b)∧h.get? b=some o:=by
 unfold fzX at e
 split at e
 ·rename_i z; exact ⟨z,e⟩
 ·cases e
theorem fzX_at {cl:List (Str×Addr)} {h:Heap} {b:Addr} {o:Obj} {x:Str} (e:cl.lookup x=some b) (g:h.get? b=some o):fzX cl h b=some o:=by
 unfold fzX
 rw [if_pos ⟨x,e⟩,g]
theorem LamSc.fz (S:LamSc X ns js scope) (I:Inv X pins σ H s) (hfn:∀ x,X.fn x=true):FzOk X H s (fzX (clX X scope) s.heap):=by
 refine ⟨fun b o e=>(fzX_some e).2,fun b o e=>?_,fun b o e=>?_,fun b o e=>?_⟩
 all_goals
  obtain ⟨⟨x,hx⟩,_⟩:=fzX_some e
  have hc:=(S.cap I hx).2
 ·exact I.freeC x b hc
 ·exact I.ok.cab x b (hfn x) hc
 ·exact I.cne x b hc
theorem LamSc.cells (S:LamSc X ns js scope) (I:Inv X pins σ H s) (i j:Nat) (x:Str) (v:V) (hj:js[i]? = some j) (hx:ns[i]? = some x) (hv:σ[j]? = some (some v)):∃ c oc u,(clX X scope).lookup x=some c∧fzX (clX X scope) s.heap c=some oc∧oc.data=.cell (some u)∧RelV v u:=by
 obtain ⟨h1,h2,h3⟩:=S.got i j x hj hx
 obtain ⟨c,hc⟩:=S.has I h1
 have hce:=(S.cap I hc).2
 obtain ⟨m,hm,hl⟩:=I.loc
 obtain ⟨u,ru,lk⟩:=hl j x v h2 hv (h3.elim (fun z=>.inr (.inl z)) fun z=>.inr (.inr z))
 rcases lk with ⟨k,_⟩ | ⟨_,c',hc',oc,ho,hd⟩
 ·rcases h3 with z | z <;> (rw [z] at k; cases k)
 ·rw [hce] at hc'; cases hc'
  exact ⟨c,oc,u,hc,fzX_at hc ho,hd,ru⟩
structure LamNw (H H':Hp) (P:Addr) (q:Str) (e:Expr) (cl:List (Str×Addr)) (a:Addr):Prop where
 at':∃ o c,H' a=some (.ext (lamP a o))∧LamObj e o q c cl∧H' c=some (.ext (codeP c q))
 keep:∀ b u,H b=some u→isTbl u=false→H' b=some u
 tabs:∀ b ps,b≠P→H b=some (.tbl ps)→H' b=some (.tbl ps)
 tab:TabAt H' P q
noncomputable def tLam (P:Addr) (q:Str) (e:Expr) (cl:List (Str×Addr)):TE:=fun _ H Q=>TabAt H P q∧∀ a H',LamNw H H' P q e cl a→Q (.ref a) H'
theorem pe_lam {c P:Addr} {q:Str} {params:Arguments} {body:Expr} {pos:Pos} (S:LamSc X ns js scope) (hcode:X.env.code=.ref c) (hq:X.env.qual ++ "<lambda>"=q) (hC:PySem.W.codeHdIn X.K c P=true) (hdef:defaultsOf params X.env=([],[])) :
  PE X (.Lambda params body scope pos) (tLam P q (.Lambda params body scope pos) (clX X scope)):=fun pins s σ H Q I h =>
 lam_made I hcode hq hC h.1 (S.clos I) hdef fun a H' s' I' hge N=>⟨.ref a,H',I',rfl,h.2 a H' ⟨N.at',N.keep,N.tabs,N.tab⟩⟩
noncomputable def tCallF (cl:List (Str×Addr)) (ns:List Str) (js:List Nat) (sp:Sp) (t:TA):TE:=fun σ H Q=>t σ H fun vs H1=>ClOk cl ns→∀ F:Addr→Option Obj,(∀ b o,F b=some o→H1 b=none) →
 (∀ (i j:Nat) (x:Str) (v:V),js[i]? = some j→ns[i]? = some x→σ[j]? = some (some v)→∃ c oc u,cl.lookup x=some c∧F c=some oc∧oc.data=.cell (some u)∧RelV v u)→sp vs (frzH H1 F) (fun v H'=>Q v (unfr H' F)) E0
theorem pe_callF {x:Str} {st:Stmt} {ps:List Str} {f:Addr} {fd:FuncData} {k:Nat} {sp:Sp} {e:Expr} {es:List Expr} {t:TA} {p pos:Pos} (D:Def X.K X.mg x st ps f fd) (G:FnOk X.prog X.w X.K X.mg X.base CX0 k f fd ps sp) (hr:Room k X.A) (S:LamSc X ns js scope) (hfn:∀ x,X.fn x=true) (ha:PA X (e :: es) t) (hg:Gl X x:=by rfl)
  (hdb:(x == ("__debug__":Str))=false:=by decide) (he:starEach (e :: es) X.env=(false,eval e X.env) :: starEach es X.env:=by rfl) (hpl:(backTo pos (starEach es X.env)).any (·.1)=false:=by rfl) :
  PE X (.Call (.Name x p) (e :: es) [] pos) (tCallF (clX X scope) ns js sp t):=by
 intro pins s σ H Q I h
 refine wpAny_Call_Name_kw (ld_glob I hg D.at' ?_ hdb)
 refine PySem.W.callWith_K (h₀:=X.base) I.ok.mod.kin D.fn.kp (thn (ha pos pins s σ H _ I h) fun us s1 ⟨vs,H1,I1,r,q⟩=>⟨I1.kIn,?_⟩) he hpl
 exact run_frz G hr D.bd I1 (S.fz I1 hfn) r (q (S.cl I1) _ (fun b o e=>(S.fz I1 hfn).free b o e) fun i j x v h1 h2 h3=>S.cells I1 i j x v h1 h2 h3)
end
noncomputable def getAll (e:Ev):List Nat→Option (List D)
 | []=>some []
 | j :: js=>match e[j]?,getAll e js with
  | some (some d),some l=>some (d :: l)
  | _,_=>none
noncomputable def dCallLam (k:Nat) (m:List D→List Cell→R D) (d1:Ev→List Cell→R D) (E:Expr) (ns:List Str) (js:List Nat):Ev→List Cell→R D:=fun e c=>(d1 e c).bind fun x c=>match getAll e js with
 | some l=>(m [x,.lam k E ns l] c).bind fun v c=>if noRef v=true then .ok v c else .bad
 | none=>.bad
section
variable {X:Cx} {K:PySem.W.Frag} {ρ:List Addr} {H Hf:Hp} {σ:St}
theorem cap_build {e:Ev} {cl:List (Str×Addr)} {F:Addr→Option Obj} (Vv:REnv K ρ H e σ) (hV:∀ d v,Rel K ρ H d v→Rel K ρ Hf d v) (hf:∀ c o,F c=some o→Hf c=some (.frz o (.own 0))):∀ (js:List Nat) (ns:List Str) (l:List D),js.length=ns.length→getAll e js=some l →
  (∀ (i j:Nat) (x:Str) (v:V),js[i]? = some j→ns[i]? = some x→σ[j]? = some (some v)→∃ c oc u,cl.lookup x=some c∧F c=some oc∧oc.data=.cell (some u)∧RelV v u)→∃ xs,CellsAt Hf cl ns xs∧Rels K ρ Hf l xs
 | [],[],l,_,h,_=>by
  unfold getAll at h; cases h
  exact ⟨[],rfl,rfl⟩
 | j :: js,x :: ns,l,hl,h,hc=>by
  unfold getAll at h
  split at h
  ·rename_i d r hd hr
   cases h
   obtain ⟨v,hv,rv⟩:=Vv.get j d hd
   obtain ⟨c,oc,u,h1,h2,h3,h4⟩:=hc 0 j x v rfl rfl hv
   obtain ⟨xs,h5,h6⟩:=cap_build Vv hV hf js ns r (Nat.succ.inj hl) hr fun i j x v a b d=>hc (i + 1) j x v a b d
   exact ⟨v :: xs,⟨v,xs,c,oc,u,rfl,h1,hf c oc h2,h3,h4,h5⟩,v,xs,rfl,hV d v rv,h6⟩
  ·cases h
 | [],_ :: _,_,hl,_,_=>by cases hl
 | _ :: _,[],_,hl,_,_=>by cases hl
noncomputable def lamTabs (K:PySem.W.Frag):List (Str×Addr):=lamNames.filterMap fun x=>(PySem.W.tabIn K x).map fun q=>(x,q.2)
noncomputable def tabsApart (K:PySem.W.Frag):Bool:=(lamTabs K).all fun a=>(lamTabs K).all fun b=>!(a.2 == b.2) || (a.1 == b.1)
theorem tabs_apart (h:tabsApart K=true) {x y:Str} {c d P:Addr} (hx:x∈lamNames) (hy:y∈lamNames) (tx:PySem.W.tabIn K x=some (c,P)) (ty:PySem.W.tabIn K y=some (d,P)):x=y:=by
 unfold tabsApart at h
 have m:∀ {z:Str} {c:Addr},z∈lamNames→PySem.W.tabIn K z=some (c,P)→(z,P)∈lamTabs K:=fun {z c} hz tz=>List.mem_filterMap.mpr ⟨z,hz,by rw [tz]; rfl⟩
 have:=List.all_eq_true.mp (List.all_eq_true.mp h _ (m hx tx)) _ (m hy ty)
 simpa using this
theorem Wd.nil' {c:List Cell} {a:Addr} {o:Obj} {u:HO} (W:Wd K ρ H c) (h:H a=some (.frz o u)):a∉ρ:=fun m=>by
 obtain ⟨ys,e⟩:=W.at' m
 rw [e] at h; cases h
theorem pd_callLam {kk:Nat} {x y:Str} {st:Stmt} {ps:List Str} {f c P:Addr} {fd:FuncData} {k:Nat} {m:List D→List Cell→R D} {e1 body:Expr} {d1:Ev→List Cell→R D} {params:Arguments} {scope:Scope} {ns:List Str} {js:List Nat} {p pos lpos:Pos}
  (D:Def X.K X.mg x st ps f fd) (G:FnOk X.prog X.w X.K X.mg X.base CX0 k f fd ps (spD X.K 2 m)) (hr:Room k X.A) (he1:PEd X e1 d1) (S:LamSc X ns js scope) (hjn:js.length=ns.length) (hfn:∀ x,X.fn x=true) (hy:y∈lamNames) (ht:PySem.W.tabIn X.K y=some (c,P)) (hap:tabsApart X.K=true) (hcode:X.env.code=.ref c) (hq:X.env.qual ++ "<lambda>"=lamQ y) (hC:PySem.W.codeHdIn X.K c P=true)
  (hdef:defaultsOf params X.env=([],[]):=by rfl) (hg:Gl X x:=by rfl)
  (hdb:(x == ("__debug__":Str))=false:=by decide) (hs1:starEach [e1,.Lambda params body scope lpos] X.env=(false,eval e1 X.env) :: starEach [.Lambda params body scope lpos] X.env:=by exact starE rfl) (hs2:starEach [.Lambda params body scope lpos] X.env=(false,eval (.Lambda params body scope lpos) X.env) :: starEach [] X.env:=by exact starE rfl) (hpl:(backTo pos (starEach [.Lambda params body scope lpos] X.env)).any (·.1)=false:=by exact starAny rfl) :
  PEd X (.Call (.Name x p) [e1,.Lambda params body scope lpos] [] pos) (dCallLam kk m d1 (.Lambda params body scope lpos) ns js) :=
 PE.imp (pe_callF D G hr S hfn (pa_cons he1 (pa_cons (pe_lam (c:=c) (P:=P) (q:=lamQ y) S hcode hq hC hdef) pa_nil hs2) hs1) hg hdb hs1 hpl) fun σ H Q h=>by
  obtain ⟨ρ,e,c0,W,V,pp⟩:=h
  refine ⟨ρ,e,c0,W,V,post.bind pp fun x1 c1 ρ1 H1 v _ W1 X1 r1 p1=>?_⟩
  have V1:=V.mono W X1
  refine ⟨W1.tab y hy c P ht,fun a H' N=>?_⟩
  have tab':TabOk X.K H':=fun z hz d P' tz=>by
   by_cases hP:P'=P
   ·subst hP
    rw [tabs_apart hap hz hy tz ht]
    exact N.tab
   ·exact (W1.tab z hz d P' tz).mono (fun ps e=>N.tabs P' ps hP e) fun c φ e=>N.keep c _ e rfl
  obtain ⟨X2,W2⟩:=wd_of W1 N.keep tab'
  intro hcl F hF hcells
  obtain ⟨X3,W3⟩:=wd_frz W2 hF
  have X23:=X2.trans X3
  split at p1
  ·rename_i l hl
   obtain ⟨xs,hxs,hrs⟩:=cap_build (Hf:=frzH H' F) V1 (fun d v r=>Rel.mono W1 X23 d v r) (fun c o e=>frz_at e) js ns l hjn hl hcells
   obtain ⟨o,cc,ha,hobj,hcc⟩:=N.at'
   refine ⟨ρ1,[x1,.lam kk _ ns l],c1,W3,⟨v,[.ref a],rfl,Rel.mono W1 X23 x1 v r1,.ref a,[],rfl,⟨a,o,lamQ y,cc,_,xs,rfl,frz_old hF ha,hobj,frz_old hF hcc,hcl,hxs,hrs⟩,rfl⟩,rfl,?_⟩
   cases hm:m [x1,.lam kk _ ns l] c1 with
   | bad=>rw [hm] at p1; exact p1.elim
   | ok d c2 =>
    rw [hm,R.bind_ok] at p1
    split at p1
    ·rename_i hn
     intro ρ' H4 b W4 X4 r4
     have fz:∀ b o,F b=some o→H4 b=some (.frz o (.own 0)):=fun b o e=>(X4.keep b _ (frz_at e) (W3.nil' (frz_at e)) rfl).1
     exact p1 ρ' (unfr H4 F) b (wd_unfr W4 fz) (X2.trans (ext_unfr X4 hF)) (Rel.unfr fz d b (noLam_of d hn) r4)
    ·exact p1.elim
  ·exact p1.elim
end
end L2
namespace L2
open PySem PySem.Spec PyProof.Rows
noncomputable def CapAt (s:Shared) (H:Hp) (outer:List Env) (cl:List (Str×Addr)) (ns:List Str) (cs:List V):Prop :=
 cs.length=ns.length∧∀ (i:Nat) (x:Str),ns[i]? = some x→∃ v c u,cs[i]? = some v∧cl.lookup x=some c∧s.heap.IsCell c (some u)∧RelV v u∧H c=none∧c∉frs outer
noncomputable def LamOk (P:Program) (w:World) (K:PySem.W.Frag) (mg:Str→Option Value) (base:Heap) (k:Nat) (E:Expr) (ns:List Str) (n:Nat) (sp:Sp):Prop :=
 ∀ (A:Around) (outer:List Env) (s:Shared) (H:Hp) (a:Addr) (o:Obj) (q:Str) (cc:Addr) (cl:List (Str×Addr)) (us:List Value) (vs cs:List V) (Q:VK),Room k A→Env0 P w K mg base A outer s H→s.heap.get? a=some o→LamObj E o q cc cl→s.heap.CodeRec (.ref cc) q→ClOk cl ns →
  CapAt s H outer cl ns cs→Vals vs us→vs.length=n→sp (vs ++ cs) H Q E0→codeAny (model P w) A (.call (.ref a) ⟨us,[]⟩) (CR CX0 outer P w H s Q E0) s
noncomputable def lamCx (P:Program) (w:World) (K:PySem.W.Frag) (mg:Str→Option Value) (base:Heap) (N:List Str) (qual:Str) (scope:Scope) (f:Addr) (cd:Value) (cl:List (Str×Addr)) (A:Around) (outer:List Env) (s:Shared) (H:Hp):Cx where
 prog:=P
 w:=w
 K:=K
 mg:=mg
 base:=base
 A:=A.deeper (PySem.W.envX qual scope s.heap.objs.size f cd cl)
 N:=N
 s₀:=s
 H₀:=H
 env:=PySem.W.envX qual scope s.heap.objs.size f cd cl
 outer:=outer
 stack:=PySem.W.envX qual scope s.heap.objs.size f cd cl :: outer
 ex:=[]
 calm:=true
 fn:=fun _=>false
 pn:=[]
 xe:=fun _ _=>False
structure LamBody (ps ns:List Str) (scope:Scope):Prop where
 kind:scope.kind=.function
 co:scope.isCoroutine=false
 gen:scope.isGenerator=false
 nd:(ps ++ ns).Nodup
 par:∀ x∈ps,scope.names.lookup x=some .local
 cap:∀ x∈ns,scope.names.lookup x=some .free
 nocell:∀ y∈scope.names,y.2≠.cell
 free:∀ y∈scope.names,y.2=.free→y.1∈ns
theorem LamBody.of {ps ns:List Str} {scope:Scope} (h1:scope.kind=.function) (h2:scope.isCoroutine=false) (h3:scope.isGenerator=false)
  (h:(decide (ps ++ ns).Nodup && ps.all (fun x=>decide (scope.names.lookup x=some NameKind.local)) && ns.all (fun x=>decide (scope.names.lookup x=some NameKind.free)) && scope.names.all (fun y=>decide (y.2≠NameKind.cell) && (decide (y.2≠NameKind.free) || decide (y.1∈ns))))=true):LamBody ps ns scope:=by
 simp only [Bool.and_eq_true,List.all_eq_true,decide_eq_true_eq,Bool.or_eq_true] at h
 obtain ⟨⟨⟨a,b⟩,c⟩,d⟩:=h
 exact ⟨h1,h2,h3,a,b,c,fun y hy=>(d y hy).1,fun y hy e=>(d y hy).2.elim (fun z=>absurd e z) id⟩
theorem zip_none {x:Str}:∀ {ps:List Str} {us:List Value},x∉ps→(ps.zip us).reverse.lookup x=none:=fun {ps us} h=>by
 cases e:(ps.zip us).reverse.lookup x with
 | none=>rfl
 | some v=>exact absurd (List.of_mem_zip (List.mem_reverse.mp (PySem.mem_of_lookup e))).1 h
theorem look_app {x:Str} {v:Value}:∀ {l m:List (Str×Value)},l.lookup x=none→(l ++ m).lookup x=m.lookup x
 | [],_,_=>rfl
 | (y,u) :: l,m,h=>by
  rw [List.lookup_cons] at h
  rw [List.cons_append,List.lookup_cons]
  cases hb:x == y with
  | true=>rw [hb] at h; cases h
  | false=>rw [hb] at h; exact look_app (v:=v) h
theorem look_app1 {x:Str} {v:Value}:∀ {l m:List (Str×Value)},l.lookup x=some v→(l ++ m).lookup x=some v
 | (y,u) :: l,m,h=>by
  rw [List.lookup_cons] at h
  rw [List.cons_append,List.lookup_cons]
  cases hb:x == y with
  | true=>rw [hb] at h; exact h
  | false=>rw [hb] at h; exact look_app1 h
theorem zip_look {x:Str} {v:Value}:∀ {ps:List Str} {us:List Value} {i:Nat},ps.Nodup→ps[i]? = some x→us[i]? = some v→(ps.zip us).reverse.lookup x=some v
 | p :: ps,u :: us,0,nd,h1,h2=>by
  cases h1; cases h2
  rw [List.zip_cons_cons,List.reverse_cons,look_app (v:=v) (zip_none (List.nodup_cons.mp nd).1)]
  simp
 | p :: ps,u :: us,i + 1,nd,h1,h2=>by
  rw [List.zip_cons_cons,List.reverse_cons]
  exact look_app1 (zip_look (i:=i) (List.nodup_cons.mp nd).2 (by simpa using h1) (by simpa using h2))
 | [],_,_,_,h1,_=>by simp at h1
 | _ :: _,[],_,_,_,h2=>by simp at h2
theorem lam_ok {P:Program} {w:World} {K:PySem.W.Frag} {mg:Str→Option Value} {base:Heap} {k:Nat} {params:Arguments} {body:Expr} {scope:Scope} {pos:Pos} {ps ns:List Str} {sp:Sp} (S:LamBody ps ns scope)
  (hbind:∀ (q:Str) (cl:List (Str×Addr)) (pm cdv ct:Value) (us:List Value),us.length=ps.length→bindArgs (PySem.W.kla_fn "<lambda>" q params body scope cl pm cdv ct) ⟨us,[]⟩=pure (ps.zip us))
  (hb:∀ (q:Str) (f:Addr) (cd:Value) (cl:List (Str×Addr)) (A:Around) (outer:List Env) (s:Shared) (H:Hp) (vs:List V) (Q:VK),Room k (A.deeper (PySem.W.envX q scope s.heap.objs.size f cd cl))→sp vs H Q E0→∃ t,PE (lamCx P w K mg base (ps ++ ns) q scope f cd cl A outer s H) body t∧t (vs.map some) H Q) :
  LamOk P w K mg base (k + 1) (.Lambda params body scope pos) ns ps.length sp:=by
 intro A outer s H a o q cc cl us vs cs Q hr e0 ho hobj hcd hcl hcap rv hlen hsp
 obtain ⟨pm,ctv,rfl⟩:=hobj
 have KX:K.In s.heap:=e0.mod.kin.keeps fun b o e=>(e0.bs b o e).1
 have lim:s.heap.NoLimit:=e0.mod.nolimit.keeps fun b o e=>(e0.bs b o e).1
 have hul:us.length=ps.length:=by rw [← rv.length]; exact hlen
 refine PySem.W.kla_callFunE hr.depth ho rfl S.co S.gen rfl hcd ?_
 rw [hbind q cl pm (.ref cc) ctv us hul]
 have ndp:ps.Nodup:=(List.nodup_append.mp S.nd).1
 refine wpAny_pure (wpAny_newFunctionEnv S.nocell (fun y hy=>S.par y.1 (List.of_mem_zip hy).1) (fun h₁ hns hsb=>⟨lim.fresh _ hsb,?_⟩) S.kind)
 show codeAny _ _ (.expr body (PySem.W.envX q scope s.heap.objs.size a (.ref cc) cl)) _ _
 have hk₁:∀ b ob,s.heap.get? b=some ob→h₁.get? b=some ob:=fun b ob e=>hsb.extBut b ob (Nat.ne_of_lt (Heap.lt_size e)) (Heap.get?_push_of_some _ e)
 obtain ⟨t,ht,hq⟩:=hb q a (.ref cc) cl A outer s H (vs ++ cs) Q (hr.deeper _) hsp
 have noA:∀ b:Addr,b∉(lamCx P w K mg base (ps ++ ns) q scope a (.ref cc) cl A outer s H).ex:=fun b z=>absurd (show b∈([]:List Addr) from z) (by simp)
 have getC:∀ x c,cl.lookup x=some c→∃ v u,s.heap.IsCell c (some u)∧RelV v u∧H c=none:=fun x c e=>by
  obtain ⟨i,hi,ei⟩:=List.mem_iff_getElem.mp (hcl.2 x c e)
  obtain ⟨v,c',u,_,h2,h3,h4,h5,_⟩:=hcap.2 i x (by rw [List.getElem?_eq_getElem hi,ei])
  rw [e] at h2; cases h2
  exact ⟨v,u,h3,h4,h5⟩
 have keepC:∀ {c:Addr} {u:Option Value},s.heap.IsCell c u→h₁.IsCell c u:=fun {c u} ⟨o,e,d⟩=>⟨o,hk₁ c o e,d⟩
 have I:Inv (lamCx P w K mg base (ps ++ ns) q scope a (.ref cc) cl A outer s H) [] ((vs ++ cs).map some) H { s with heap:=h₁,toks:=s.toks + (ps.zip us).length }:=by
  refine ⟨⟨e0.mod,S.kind,rfl,rfl,Nat.le_refl _,hcl.1,fun x hx=>?_,fun x c h=>absurd h (by simp [lamCx]),fun _=>hr.hd,Around.frames_deeper e0.frames,.inr ⟨rfl,rfl⟩,fun b z=>absurd z (noA b),e0.bs,e0.bsz,fun b _ _=>noA b,fun b z=>absurd z (noA b),e0.funs,e0.frf⟩,
   rfl,e0.bare,Un.kept hk₁,⟨_,hns,fun i x v h1 h2 h3=>?_⟩,fun x c h=>?_,e0.hok.fresh (Nat.le_refl _),fun x c h=>?_,fun p hp=>absurd (show p∈([]:List (Addr×Obj)) from hp) (by simp),e0.hok.kept hk₁,?_⟩
  ·have hx:scope.names.lookup x=some .cell∨scope.names.lookup x=some .free:=hx
   rcases hx with hx | hx
   ·exact absurd rfl (S.nocell _ (PySem.mem_of_lookup hx))
   ·have hm:=S.free _ (PySem.mem_of_lookup hx) rfl
    obtain ⟨i,hi,ei⟩:=List.mem_iff_getElem.mp hm
    obtain ⟨v,c',u,_,h2,_⟩:=hcap.2 i x (by rw [List.getElem?_eq_getElem hi,ei])
    exact ⟨c',h2⟩
  ·have h1:(ps ++ ns)[i]? = some x:=h1
   have h2':(vs ++ cs)[i]? = some v:=by
    rw [List.getElem?_map] at h2
    cases e:(vs ++ cs)[i]? with
    | none=>rw [e] at h2; cases h2
    | some b=>rw [e] at h2; cases h2; rfl
   by_cases hi:i < ps.length
   ·rw [List.getElem?_append_left hi] at h1
    rw [List.getElem?_append_left (by omega)] at h2'
    obtain ⟨u,hu,ru⟩:=rv.get h2'
    refine ⟨u,ru,.inl ⟨S.par x (List.mem_of_getElem? h1),?_⟩⟩
    exact zip_look ndp h1 hu
   ·rw [List.getElem?_append_right (by omega)] at h1
    rw [List.getElem?_append_right (by omega),hlen] at h2'
    obtain ⟨v',c,u,e1,e2,e3,e4,_⟩:=hcap.2 _ x h1
    rw [h2'] at e1; cases e1
    exact ⟨u,e4,.inr ⟨.inr (S.cap x (List.mem_of_getElem? h1)),c,e2,keepC e3⟩⟩
  ·obtain ⟨v,u,h3,_⟩:=getC x c h
   exact ⟨_,keepC h3⟩
  ·obtain ⟨v,u,_,_,h5⟩:=getC x c h
   exact h5
  ·show ((vs ++ cs).map some).length=(ps ++ ns).length
   rw [List.length_map,List.length_append,List.length_append,hlen,hcap.1]
 refine PySem.W.kla_codeExpr (wpAny_mono (ht [] _ _ H Q I hq) (fun u s' hs=>?_) fun e s' hs=>False.elim hs)
 obtain ⟨v,H',J,ru,q⟩:=hs
 exact ⟨v,H',J.os,J.bare,J.base,J.hok,ru,q⟩
end L2
namespace L2
open PySem PySem.Spec PyProof.Rows
section
variable {M:Model} {A:Around} {E:Value→Shared→Prop} {s:Shared} {env:Env} {pos:Pos} {Q:Value→Shared→Prop}
theorem callWith_L {a:Addr} {o:Obj} {fd:FuncData} {e:Expr} {rest:List Expr} (hd:o.data=.func fd) (h:wpAny M A (spliced (backTo pos (starEach (e :: rest) env))) (fun vs s₁=>s₁.heap.get? a=some o∧wpAny M A (call (.ref a) ([] ++ vs)) Q E s₁) E s)
  (he:starEach (e :: rest) env=(false,eval e env) :: starEach rest env) (hplain:(backTo pos (starEach rest env)).any (·.1)=false) :
  wpAny M A (callWith pos (.ref a) [] (backTo pos (starEach (e :: rest) env)) []) Q E s:=by
 rw [he] at h ⊢
 refine PySem.W.callWith_of (P:=fun h=>h.get? a=some o) (by show ((false || (backTo pos (starEach rest env)).any (·.1)) || false)=false; rw [hplain]; rfl) (fun h e=>⟨.frame,.inl rfl,?_⟩) (PySem.Calls.evalArgs_plain h)
 obtain ⟨oc,od,dt,sl⟩:=o
 cases hd
 exact (PySem.W.Looks.ld (part:=none) e).andThen PySem.W.Looks.now
end
section
variable {X:Cx} {pins:List (Addr×Obj)} {σ:St} {H H':Hp} {s s':Shared} {F:Addr→Option Obj}
theorem unfr_hok {P:Program} {w:World} {h:Heap} (hok:HOk P w H h) (hF:∀ b o,F b=some o→H b=some (.frz o (.own 0))):HOk P w (unfr H F) h:=fun b u e=>by
 cases hb:F b with
 | some o=>rw [unfr_at hb] at e; cases e
 | none =>
  rw [unfr_no hb] at e
  exact (hok b u e).stay (fun _ _ _ z=>z) (fun c z=>unfr_old hF z fun _ q=>nomatch q) fun c xs z=>unfr_old hF z fun _ q=>nomatch q
theorem unfr_none {b:Addr} (h:H b=none):unfr H F b=none:=by
 unfold unfr
 split <;> first | rfl | exact h
theorem run_lam {k n:Nat} {Ex:Expr} {ns:List Str} {sp:Sp} {a cc:Addr} {o:Obj} {q:Str} {cl:List (Str×Addr)} {us:List Value} {vs cs:List V} {Q:VK} (G:LamOk X.prog X.w X.K X.mg X.base k Ex ns n sp) (hr:Room k X.A) (I:Inv X pins σ H s)
  (ha:H a=some (.ext (lamP a o))) (hobj:LamObj Ex o q cc cl) (hcc:H cc=some (.ext (codeP cc q))) (hcl:ClOk cl ns) (hcs:CellsAt H cl ns cs) (r:Vals vs us) (hn:vs.length=n)
  (h:∀ F:Addr→Option Obj,(∀ b o,F b=some o→H b=some (.frz o (.own 0)))→sp (vs ++ cs) (unfr H F) (fun v H'=>(∀ b o,F b=some o→H' b=none)→Q v (frzH H' F)) E0) :
  wpAny (model X.prog X.w) X.A (call (.ref a) us) (EP X pins σ Q) X.xe s:=by
 have hF:∀ b ob,fzX cl s.heap b=some ob→H b=some (.frz ob (.own 0)):=fun b ob e=>by
  obtain ⟨⟨x,hx⟩,hg⟩:=fzX_some e
  obtain ⟨i,hi,ei⟩:=List.mem_iff_getElem.mp (hcl.2 x b hx)
  obtain ⟨v,c,oc,u,_,h2,h3,_⟩:=hcs.get (i:=i) (x:=x) (by rw [List.getElem?_eq_getElem hi,ei])
  rw [hx] at h2; cases h2
  have:=(I.hok b _ h3).1
  rw [hg] at this; cases this
  exact h3
 generalize hFd:fzX cl s.heap=F at hF
 have e:=I.env0
 have e0:Env0 X.prog X.w X.K X.mg X.base X.A X.stack s (unfr H F):=⟨e.frames,e.mod,fun b o h=>⟨(e.bs b o h).1,unfr_none (e.bs b o h).2⟩,e.bsz,e.funs,fun b hb=>unfr_none (e.frf b hb),unfr_hok I.hok hF,e.bare⟩
 have nf:∀ b ob,F b=some ob→b∉frs X.stack:=fun b ob z hb=>by
  have:=I.stkFree b hb
  rw [hF b ob z] at this; cases this
 have cap:CapAt s (unfr H F) X.stack cl ns cs:=by
  refine ⟨hcs.length,fun i x hx=>?_⟩
  obtain ⟨v,c,oc,u,h1,h2,h3,h4,h5⟩:=hcs.get hx
  have hg:=(I.hok c _ h3).1
  have hf:F c=some oc:=by rw [← hFd]; exact fzX_at h2 hg
  exact ⟨v,c,u,h1,h2,⟨oc,hg,h4⟩,h5,unfr_at hf,nf c oc hf⟩
 refine wpAny_call (codeAny_mono (G X.A X.stack s (unfr H F) a o q cc cl us vs cs _ hr e0 (I.hok a _ ha).1 hobj (I.hok cc _ hcc).1 hcl cap r hn (h F hF)) fun rr s' hq=>?_)
 cases rr with
 | error e=>exact False.elim hq
 | ok fl =>
  cases fl with
  | next=>exact False.elim hq
  | brk=>exact False.elim hq
  | cont=>exact False.elim hq
  | ret u =>
   obtain ⟨v,H',os,bare,un,hok,rv,q⟩:=hq
   have gF:∀ b ob,F b=some ob→s.heap.get? b=some ob:=fun b ob z=>(I.hok b _ (hF b ob z)).1
   have hn':∀ b ob,F b=some ob→H' b=none:=fun b ob z=>un.free b ob (gF b ob z) (unfr_at z) (by simp)
   have hg':∀ b ob,F b=some ob→s'.heap.get? b=some ob:=fun b ob z=>un.keep b ob (gF b ob z) (unfr_at z) (nf b ob z) (by simp)
   have Fn:∀ {b:Addr},H b=none→F b=none:=fun {b} z=>by
    cases e:F b with
    | none=>rfl
    | some ob=>rw [hF b ob e] at z; cases z
   have old:∀ {b:Addr} {u:HO},H b=some u→(∀ o,u≠.frz o (.own 0))→F b=none∧unfr H F b=some u:=fun {b u} z nq=>by
    cases e:F b with
    | none=>exact ⟨rfl,by rw [unfr_no e]; exact z⟩
    | some ob=>rw [hF b ob e] at z; exact absurd (Option.some.inj z).symm (nq ob)
   have un2:Un (frs X.stack) [] H (frzH H' F) s.heap s'.heap:=by
    refine ⟨fun b o e n hb hx=>un.keep b o e (unfr_none n) hb hx,fun b o e n hb hx=>un.slot b o e (unfr_none n) hb hx,fun b o e n hx=>?_,un.there,fun b xs e=>?_,fun b o u e=>?_,fun b ps e=>?_⟩
    ·rw [frz_no (Fn n)]; exact un.free b o e (unfr_none n) hx
    ·obtain ⟨h1,h2⟩:=old e fun _ z=>nomatch z
     rw [frz_no h1]; exact un.tups b xs h2
    ·cases z:F b with
     | some ob =>
      have:=hF b ob z
      rw [e] at this; cases this
      exact frz_at z
     | none=>rw [frz_no z]; exact un.frzs b o u (by rw [unfr_no z]; exact e)
    ·obtain ⟨h1,h2⟩:=old e fun _ z=>nomatch z
     rw [frz_no h1]; exact un.tbls b ps h2
   exact ⟨v,frzH H' F,I.call' os un2 (frz_hok hok hn' hg') bare fun b z=>absurd z (by simp),rv,q hn'⟩
end
open Classical in
noncomputable def dCallL (i n:Nat) (tbl:List (Expr×List Str×(List D→List Cell→R D))) (a:Ev→List Cell→R (List D)):Ev→List Cell→R D:=fun e c=>match e[i]? with
 | some (some (.lam k E ns l))=>match tbl[k]? with
  | some t=>if E=t.1∧ns=t.2.1 then (a e c).bind fun xs c=>if xs.length=n∧noLams xs=true∧noLams l=true then t.2.2 (xs ++ l) c else .bad else .bad
  | none=>.bad
 | _=>.bad
theorem pd_callL {X:Cx} (i:Nat) {n:Nat} {tbl:List (Expr×List Str×(List D→List Cell→R D))} {x:Str} {e:Expr} {es:List Expr} {da:Ev→List Cell→R (List D)} {p pos:Pos} (hT:∀ t∈tbl,∃ k,LamOk X.prog X.w X.K X.mg X.base k t.1 t.2.1 n (spD X.K (n + t.2.1.length) t.2.2)∧Room k X.A) (ha:PAd X (e :: es) da)
  (hN:X.N[i]? = some x:=by rfl) (hv:Vis X.env.scope x:=by first | exact Or.inl rfl | exact Or.inr (Or.inl rfl) | exact Or.inr (Or.inr rfl)) (hd:(x == ("__debug__":Str))=false:=by decide)
  (hcd:(x == ("__classdict__":Str))=false:=by decide) (he:starEach (e :: es) X.env=(false,eval e X.env) :: starEach es X.env:=by exact starE rfl) (hpl:(backTo pos (starEach es X.env)).any (·.1)=false:=by exact starAny rfl) :
  PEd X (.Call (.Name x p) (e :: es) [] pos) (dCallL i n tbl da):=by
 intro pins s σ H Q I h
 obtain ⟨ρ,ev,c,W,Vv,q⟩:=h
 unfold dCallL at q
 split at q
 ·rename_i kk Ex ns l hf
  obtain ⟨v,hσ,rl⟩:=Vv.get i _ hf
  obtain ⟨a,o,qn,cc,cl,cs,rfl,ha1,hobj,hcc,hcl,hcs,hrs⟩:=id rl
  split at q
  ·rename_i t ht
   split at q
   ·rename_i hzy
    obtain ⟨rfl,rfl⟩:=hzy
    obtain ⟨k,G,hr⟩:=hT _ (List.mem_of_getElem? ht)
    refine wpAny_Call_Name_kw (thn (pe_var hN hv hd hcd pins s σ H (fun v H1=>v=.ref a∧H1=H) I ⟨_,hσ,rfl,rfl⟩) fun u s1 ⟨v,H1,I1,r1,q1⟩=>?_)
    obtain ⟨rfl,rfl⟩:=q1
    cases r1
    have hdata:∃ fd,o.data=.func fd:=by
     cases hE:t.1 with
     | Lambda params body scope lp =>
      rw [hE] at hobj
      obtain ⟨pm,ctv,rfl⟩:=hobj
      exact ⟨_,rfl⟩
     | _=>rw [hE] at hobj; exact hobj.elim
    obtain ⟨fd,hdata⟩:=hdata
    refine callWith_L hdata (thn (ha pos pins s1 σ H1 (fun vs H2=>∃ ρ1 xs c1,Wd X.K ρ1 H2 c1∧Ext ρ H1 ρ1 H2∧Rels X.K ρ1 H2 xs vs∧xs.length=n∧noLams xs=true∧noLams l=true∧post X.K (Rel X.K) (t.2.2 (xs ++ l) c1) ρ1 H2 Q) I1 ⟨ρ,ev,c,W,Vv,post.bind q fun xs c1 ρ1 H2 vs _ W1 X1 r1 p1=>?_⟩) fun us s2 ⟨vs,H2,I2,r2,ρ1,xs,c1,W1,X1,rx,hl,n1,n2,p1⟩=>?_) he hpl
    ·split at p1
     ·rename_i hc
      exact ⟨ρ1,xs,c1,W1,X1,r1,hc.1,hc.2.1,hc.2.2,p1⟩
     ·exact p1.elim
    ·obtain ⟨a',o',qn',cc',cl',cs',ea,ha2,hobj2,hcc2,hcl2,hcs2,hrs2⟩:=Rel.mono W X1 _ _ rl
     cases ea
     have eo:o=o':=by
      have e1:=(X1.keep a _ ha1 (fun m=>by obtain ⟨ys,z⟩:=W.at' m; rw [z] at ha1; cases ha1) rfl).1
      have g1:=(I2.hok a _ e1).1
      have g2:=(I2.hok a _ ha2).1
      have g1':s2.heap.get? a=some o:=g1
      have g2':s2.heap.get? a=some o':=g2
      rw [g1'] at g2'; exact Option.some.inj g2'
     subst eo
     refine ⟨(I2.hok a _ ha2).1,?_⟩
     refine run_lam (cs:=cs') G hr I2 ha2 hobj2 hcc2 hcl2 hcs2 r2 (by rw [rx.length]; exact hl) fun F hF=>?_
     refine ⟨ρ1,xs ++ l,c1,wd_unfr W1 hF,Rels.append (Rels.unfr hF xs vs n1 rx) (Rels.unfr hF l cs' n2 hrs2),by rw [List.length_append,hl,← hrs2.length,hcs2.length],?_⟩
     cases hm:t.2.2 (xs ++ l) c1 with
     | bad=>rw [hm] at p1; exact p1.elim
     | ok d c2 =>
      rw [hm] at p1
      intro ρ' H4 b W4 X4 r4 hn4
      obtain ⟨X5,W5⟩:=wd_frz W4 hn4
      exact p1 ρ' (frzH H4 F) b W5 (ext_frz X4 W4 hF hn4) (Rel.mono W4 X5 d b r4)
   ·exact q.elim
  ·exact q.elim
 ·exact q.elim
@[simp] theorem x_callL (i n:Nat) (tbl:List (Expr×List Str×(List D→List Cell→R D))) (a:Ev→List Cell→R (List D)) (e:Ev) (c:List Cell) {k:Nat} {Ex:Expr} {ns:List Str} {l:List D} {m:List D→List Cell→R D} (h:e[i]? = some (some (.lam k Ex ns l))) (ht:tbl[k]? = some (Ex,ns,m)):dCallL i n tbl a e c=(a e c).bind fun xs c=>if xs.length=n∧noLams xs=true∧noLams l=true then m (xs ++ l) c else .bad:=by
 unfold dCallL
 rw [h]
 dsimp only
 rw [ht]
 dsimp only
 rw [if_pos ⟨rfl,rfl⟩]
end L2
namespace L2
open PySem PySem.Spec PyProof.Rows
noncomputable def lamD (d:Ev→List Cell→R D):List D→List Cell→R D:=fun xs c=>d (xs.map some) c
theorem renv_map {K:PySem.W.Frag} {ρ:List Addr} {H:Hp} {xs:List D} {vs:List V} (r:Rels K ρ H xs vs):REnv K ρ H (xs.map some) (vs.map some):=by
 refine ⟨fun i d h=>?_,by rw [List.length_map,List.length_map,r.length]⟩
 rw [List.getElem?_map] at h
 cases e:xs[i]? with
 | none=>rw [e] at h; cases h
 | some y =>
  rw [e] at h; cases h
  obtain ⟨v,hv,rv⟩:=r.get e
  exact ⟨v,by rw [List.getElem?_map,hv]; rfl,rv⟩
theorem lamD_ok {P:Program} {w:World} {K:PySem.W.Frag} {mg:Str→Option Value} {base:Heap} {k:Nat} {params:Arguments} {body:Expr} {scope:Scope} {pos:Pos} {ps ns:List Str} {d:Ev→List Cell→R D} (S:LamBody ps ns scope)
  (hbind:∀ (q:Str) (cl:List (Str×Addr)) (pm cdv ct:Value) (us:List Value),us.length=ps.length→bindArgs (PySem.W.kla_fn "<lambda>" q params body scope cl pm cdv ct) ⟨us,[]⟩=pure (ps.zip us))
  (hb:∀ (q:Str) (f:Addr) (cd:Value) (cl:List (Str×Addr)) (A:Around) (outer:List Env) (s:Shared) (H:Hp),Room k (A.deeper (PySem.W.envX q scope s.heap.objs.size f cd cl))→PEd (lamCx P w K mg base (ps ++ ns) q scope f cd cl A outer s H) body d) :
  LamOk P w K mg base (k + 1) (.Lambda params body scope pos) ns ps.length (spD K (ps.length + ns.length) (lamD d)) :=
 lam_ok S hbind fun q f cd cl A outer s H vs Q hr h=>⟨_,hb q f cd cl A outer s H hr,by
  obtain ⟨ρ,xs,c,W,r,hl,p⟩:=h
  exact ⟨ρ,xs.map some,c,W,renv_map r,p⟩⟩
section
variable {P:Program} {w:World} {K:PySem.W.Frag} {mg:Str→Option Value} {base:Heap}
theorem fn_okL {x:Str} {st:Stmt} {f:Addr} {fd:FuncData} {N ps:List Str} {k n m:Nat} {own:Bool} {d:Ev→List Cell→R Fl} (F:Fun K x x st f fd) (hn:PySem.W.nsIn K mainGlobals x=some (some (.ref f))) (S:FnScope N ps (defScope st)) (hN:N.length=n) (hm:ps.length=m)
  (hb:∀ (cdv:Value) (A:Around) (outer:List Env) (s:Shared) (H:Hp) (E:XK),(∀ c P,PySem.W.tabIn K x=some (c,P)→cdv=.ref c)→Room k (A.deeper (envOfC x (defScope st) s.heap.objs.size f cdv))→PSsd (cxOf CX0 P w K mg base N x (defScope st) f cdv A outer s H E).nox (defBody st) d) :
  FnOk P w K mg base CX0 (k + 1) f fd ps (spD K m (fnD n own d)):=by
 obtain ⟨oc,od,kV,doc,pm,an,cdv0,ct,osl,hfd,lk,hcd⟩:=F.ex
 have key:∀ (cdv:Value),(∀ (A:Around) (outer:List Env) (s:Shared) (H:Hp) (E:XK),Room k (A.deeper (envOfC x (defScope st) s.heap.objs.size f cdv))→PSsd (cxOf CX0 P w K mg base N x (defScope st) f cdv A outer s H E).nox (defBody st) d)→cdv=cdv0→FnOk P w K mg base CX0 (k + 1) f fd ps (spD K m (fnD n own d)):=by
  intro cdv hb' e
  subst e
  subst hN; subst hm
  subst hfd
  refine fn_of lk hcd S (fun vs H Q E h=>?_) fun A outer s H vs Q E hr h=>⟨_,PSs.nox (hb' A outer s H E hr),?_⟩
  ·obtain ⟨ρ,xs,c,W,r,hl,p⟩:=h
   exact r.length.trans hl
  ·obtain ⟨ρ,xs,c,W,r,hl,p⟩:=h
   refine ⟨ρ,startD N.length xs,c,W,REnv.start r,post.bind p fun fl c1 ρ1 H1 b _ W1 X1 r1 p1=>?_⟩
   cases fl with
   | nx e1 =>
    obtain ⟨σ1,rfl,V1⟩:=r1
    exact exit_ok (v:=.non) (x:=.non) (H1:=H1) W W1 X1 rfl (by
     unfold fnD at p; exact id (α:=post K (Rel K) (exitD own c.length .non c1) ρ H Q) (by
      rename_i he; rw [he] at p; exact p))
   | rt d =>
    obtain ⟨v,rfl,V1⟩:=r1
    exact exit_ok (v:=d) (x:=v) (H1:=H1) W W1 X1 V1 (by
     unfold fnD at p; rename_i he; rw [he] at p; exact p)
   | bk e1=>exact p1.elim
   | ct e1=>exact p1.elim
 refine key cdv0 (fun A outer s H E hr=>hb cdv0 A outer s H E (fun c P' ht=>?_) hr) rfl
 unfold PySem.W.tabIn at ht
 rw [hn] at ht
 dsimp only at ht
 rw [lk,hfd] at ht
 dsimp only at ht
 cases cdv0 with
 | ref c' =>
  dsimp only at ht
  split at ht
  ·split at ht
   ·cases ht; rfl
   ·cases ht
  ·cases ht
 | _=>cases ht
end
noncomputable def OnlyT (H:Hp) (ts:List Addr):Prop:=∀ b,H b=none∨(∃ o xs,H b=some (.frz o (.lst xs)))∨(b∈ts∧H b=some (.tbl #[]))
theorem law_callT {P:Program} {w:World} {K:PySem.W.Frag} {mg mb:Str→Option Value} {k:Nat} {fa a:Addr} {fd:FuncData} {x:Str} {sp:Sp} {s₁:Shared} {vs:List Value} {ns:List Int} {ts:List (Addr×Addr)}
  (KX:K.In s₁.heap) (hns:s₁.heap.Ns mainGlobals mg) (hb:s₁.heap.Ns builtinsNs mb) (hbb:∀ x:Str,x≠"__name__"→mb x=bootBuiltins x) (hlim:s₁.heap.NoLimit)
  (hbm:∃ bm ob,mg "__builtins__"=some (.ref bm)∧bm≠builtinsNs∧s₁.heap.get? bm=some ob∧ob.cls=.type "module"∧ob.dict=some builtinsNs∧ob.data=.plain) (hg:s₁.gens=#[])
  (ha:s₁.heap.get? a=some { cls:=.type "list",data:=.seq vs.toArray }) (hi:IntsAre vs ns) (hl:ns.length≤sizeLine) (hr:Room k callerA)
  (hTs:∀ q∈ts,PySem.W.codeHdIn K q.1 q.2=true∧s₁.heap.get? q.2=some (PySem.W.tabObj #[])) (hKt:PySem.W.noTabs K=true)
  (F:∀ base:Heap,K.In base→base.Ns mainGlobals mg→FnOk P w K mg base CX0 k fa fd [x] sp) (hbind:∀ (s:Shared) (u:Value),BindsTo s fd ⟨[u],[]⟩ [(x,u)])
  (hsp:∀ H:Hp,(∀ q∈ts,H q.2=some (.tbl #[]))→SqL K H a (ns.map V.int)→sp [.ref a] H (fun v _=>v=.bl true) fun _ _ _=>False) :
  codeAny (model P w) callerA (.call (.ref fa) ⟨[.ref a],[]⟩) (fun r s'=>r=.ok (.ret (.bool true))∧OldK s₁.heap s'.heap∧s'.os=s₁.os∧AllBare s'.gens) s₁:=by
 have rv:=vals_ints hi
 have lenV:=hi.length
 have hta:∀ b,b∈ts.map (·.2)→s₁.heap.get? b=some (PySem.W.tabObj #[]):=fun b h=>by
  obtain ⟨q,hq,rfl⟩:=List.mem_map.mp h
  exact (hTs q hq).2
 have nat:a∉ts.map (·.2):=fun h=>by have:=hta a h; rw [ha] at this; cases this
 have core:∀ H:Hp,OnlyT H (ts.map (·.2))→(∀ q∈ts,H q.2=some (.tbl #[]))→SqL K H a (ns.map V.int)→HOk P w H s₁.heap→(∀ b,H b≠none→b=a∨b∈ts.map (·.2))→(H a≠none→K.lookup a=none) →
   codeAny (model P w) callerA (.call (.ref fa) ⟨[.ref a],[]⟩) (fun r s'=>r=.ok (.ret (.bool true))∧OldK s₁.heap s'.heap∧s'.os=s₁.os∧AllBare s'.gens) s₁:=by
  intro H hO hT hS hok hA hK
  have base_of:∀ {b:Addr} {o:Obj},s₁.heap.get? b=some o→H b=none→(hidT s₁.heap H).get? b=some o:=fun e n=>hidT_get e n
  have noB:∀ {b:Addr} {o:Obj},s₁.heap.get? b=some o→o.cls≠.type "list"→o.cls≠.none→H b=none:=fun {b o} e d1 d2=>by
   cases q:H b with
   | none=>rfl
   | some u =>
    rcases hA b (by rw [q]; simp) with e' | e'
    ·subst e'
     rw [ha] at e; cases e
     exact absurd rfl d1
    ·rw [hta b e'] at e; cases e
     exact absurd rfl d2
  have noA:∀ {b:Addr} {o:Obj} {es:Array DictEntry} {ep:Nat},s₁.heap.get? b=some o→o.data=.dict es ep→H b=none:=fun {b o es ep} e d=>by
   cases q:H b with
   | none=>rfl
   | some u =>
    rcases hA b (by rw [q]; simp) with e' | e'
    ·subst e'
     rw [ha] at e; cases e
     have d':Data.seq vs.toArray _=Data.dict es ep:=d
     cases d'
    ·rw [hta b e'] at e; cases e
     have d':Data.fields #[]=Data.dict es ep:=d
     cases d'
  have nsK:∀ {b:Addr} {m:Str→Option Value},s₁.heap.Ns b m→(hidT s₁.heap H).Ns b m:=fun {b m} ⟨o,es,ep,e,d,r⟩=>⟨o,es,ep,base_of e (noA e d),d,r⟩
  have hKb:K.In (hidT s₁.heap H):=fun b o e=>base_of (KX b o e) (by
   cases q:H b with
   | none=>rfl
   | some u =>
    rcases hA b (by rw [q]; simp) with e' | e'
    ·subst e'
     rw [hK (by rw [q]; simp)] at e; cases e
    ·have h1:=KX b o e
     rw [hta b e'] at h1; cases h1
     have h2:=List.all_eq_true.mp hKt (b,_) (PySem.W.mem_of_lookupK e)
     exact absurd (show false=true from h2) Bool.false_ne_true)
  have hM:Mod K mg (hidT s₁.heap H):=⟨hKb,nsK hns,⟨mb,nsK hb,hbb⟩,let ⟨mc,h1,h2⟩:=hlim; ⟨mc,nsK h1,h2⟩,let ⟨bm,ob,b1,b2,b3,b4,b5⟩:=hbm; ⟨bm,ob,b1,b2,base_of b3 (noB b3 (by rw [b4]; simp) (by rw [b4]; simp)),b4,b5⟩⟩
  have e0:Env0 P w K mg (hidT s₁.heap H) callerA [] s₁ H:=⟨rfl,hM,fun b o e=>of_hidT e,Nat.le_of_eq (hidT_size _ _),trivial,fun b hb=>absurd (show b∈([]:List Addr) from hb) (by simp),hok,.of_eq hg⟩
  refine codeAny_mono ((F _ hKb (nsK hns)).run callerA [] s₁ H ⟨[.ref a],[]⟩ [.ref a] [.ref a] _ _ hr e0 (hbind s₁ (.ref a)) (.cons rfl .nil) (hsp H hT hS)) fun r s' h=>?_
  cases r with
  | error e=>exact False.elim h
  | ok fl =>
   cases fl with
   | next=>exact False.elim h
   | brk=>exact False.elim h
   | cont=>exact False.elim h
   | ret u =>
    obtain ⟨v,H',os,bare,un,hok',r',q⟩:=h
    have q':v=.bl true:=q
    subst q'
    obtain rfl:u=Value.bool true:=r'
    have main:∀ b o,s₁.heap.get? b=some o→s'.heap.get? b=some o∨(b∈ts.map (·.2)∧o=PySem.W.tabObj #[]∧∃ ps,s'.heap.get? b=some (PySem.W.tabObj ps)):=fun b o e=>by
     rcases hO b with z | ⟨ob,xs,z⟩ | ⟨hm,z⟩
     ·exact .inl (un.keep b o e z (by intro z; exact absurd (show b∈([]:List Addr) from z) (by simp)) (by simp))
     ·have z2:=un.frzs b ob _ z
      obtain ⟨e1,_⟩:=hok b _ z
      obtain ⟨e2,_⟩:=hok' b _ z2
      rw [e] at e1; cases e1
      exact .inl e2
     ·obtain ⟨more,z2⟩:=un.tbls b _ z
      have e2:s'.heap.get? b=some (PySem.W.tabObj (#[] ++ more)):=hok' b _ z2
      have e1:=hta b hm
      rw [e] at e1; cases e1
      exact .inr ⟨hm,rfl,_,e2⟩
    refine ⟨rfl,⟨fun b o e=>?_,fun b o e=>?_⟩,os,bare⟩
    ·rcases main b o e with z | ⟨hm,rfl,ps,z⟩
     ·exact .inl z
     ·obtain ⟨q,hq,rfl⟩:=List.mem_map.mp hm
      have hC:=PySem.W.codeHd_of_K KX (hTs q hq).1
      exact .inr (.inl ⟨(hC.tab (hTs q hq).2).isCodeTable,rfl,#[],ps,rfl,by rw [Array.empty_append]; exact z⟩)
    ·rcases main b o e with z | ⟨_,_,ps,z⟩
     ·exact ⟨o,z⟩
     ·exact ⟨_,z⟩
 have tabOk:∀ (H:Hp) b,H b=some (.tbl #[])→b∈ts.map (·.2)→ObjOk P w H s₁.heap b (.tbl #[]):=fun H b _ h=>hta b h
 cases hk:K.lookup a with
 | some o =>
  have e:=KX a o hk
  rw [ha] at e
  cases e
  let H:Hp:=fun b=>if b∈ts.map (·.2) then some (.tbl #[]) else none
  refine core H (fun b=>?_) (fun q hq=>if_pos (List.mem_map_of_mem hq)) (.inr ⟨_,vs.toArray,_,hk,rfl,rfl,rfl,by rw [List.size_toArray,lenV]; exact hl,by simpa using rv⟩) (fun b u z=>?_) (fun b z=>?_) fun z=>absurd (if_neg nat) z
  ·by_cases hb:b∈ts.map (·.2)
   ·exact .inr (.inr ⟨hb,if_pos hb⟩)
   ·exact .inl (if_neg hb)
  ·by_cases hb:b∈ts.map (·.2)
   ·have z':=(if_pos hb).symm.trans z
    cases z'
    exact hta b hb
   ·have z':=(if_neg hb).symm.trans z
    cases z'
  ·by_cases hb:b∈ts.map (·.2)
   ·exact .inr hb
   ·exact absurd (if_neg hb) z
 | none =>
  let H:Hp:=fun b=>if b∈ts.map (·.2) then some (.tbl #[]) else if b=a then some (.frz { cls:=.type "list",data:=.seq vs.toArray } (.lst (ns.map V.int))) else none
  have Ha:H a=some (.frz { cls:=.type "list",data:=.seq vs.toArray } (.lst (ns.map V.int))):=(if_neg nat).trans (if_pos rfl)
  refine core H (fun b=>?_) (fun q hq=>if_pos (List.mem_map_of_mem hq)) (.inl (.inr ⟨_,Ha⟩)) (fun b u z=>?_) (fun b z=>?_) fun _=>hk
  ·by_cases hb:b∈ts.map (·.2)
   ·exact .inr (.inr ⟨hb,if_pos hb⟩)
   ·by_cases hb2:b=a
    ·exact .inr (.inl ⟨_,_,(if_neg hb).trans (if_pos hb2)⟩)
    ·exact .inl ((if_neg hb).trans (if_neg hb2))
  ·by_cases hb:b∈ts.map (·.2)
   ·have z':=(if_pos hb).symm.trans z
    cases z'
    exact hta b hb
   ·by_cases hb2:b=a
    ·have z':=((if_neg hb).trans (if_pos hb2)).symm.trans z
     cases z'
     subst hb2
     exact ⟨ha,by rw [List.length_map]; exact hl,vs,_,rv,ha⟩
    ·have z':=((if_neg hb).trans (if_neg hb2)).symm.trans z
     cases z'
  ·by_cases hb:b∈ts.map (·.2)
   ·exact .inr hb
   ·by_cases hb2:b=a
    ·exact .inl hb2
    ·exact absurd ((if_neg hb).trans (if_neg hb2)) z
noncomputable def tabsIn (K:PySem.W.Frag) (ts:List (Addr×Addr)):Bool:=lamNames.all fun x=>match PySem.W.tabIn K x with
 | some q=>decide (q∈ts)
 | none=>true
theorem tabOk_start {K:PySem.W.Frag} {H:Hp} {ts:List (Addr×Addr)} (h:tabsIn K ts=true) (hT:∀ q∈ts,H q.2=some (.tbl #[])):TabOk K H:=fun x hx c P e=>by
 have:=List.all_eq_true.mp h x hx
 rw [e] at this
 exact ⟨#[],hT (c,P) (of_decide_eq_true this),trivial,fun pos cv z=>by cases z⟩
theorem walk_ofT {l:PySem.W.OpenLaw} {n k:Nat} {q:Program} {loose:List Str} {XP:(Str→Option Value)→Heap→Prop} {YP:World→Heap→Prop} {d:DefRec} {K:Params→PySem.W.Frag} {x:Str} {m:List D→List Cell→R D} {ts:List (Addr×Addr)}
  (hn:l.most=some n) (hn2:n≤sizeLine) (hdf:d.params.defaults=[]) (hr:Room k callerA)
  (hY:∀ (w:World) (h:Heap),YP w h→(K w.params).In h∧∀ q∈ts,h.get? q.2=some (PySem.W.tabObj #[]))
  (hK:∀ p,(ts.all fun q=>PySem.W.codeHdIn (K p) q.1 q.2)=true∧PySem.W.noTabs (K p)=true∧tabsIn (K p) ts=true)
  (F:∀ (w:World) (mg:Str→Option Value) (fa:Addr) (h:Heap),(K w.params).In h→h.Ns mainGlobals mg→mg d.name=some (.ref fa) →
   ∃ fd:FuncData,(∀ (s:Shared) (u:Value),BindsTo s fd ⟨[u],[]⟩ [(x,u)]) ∧
    ∀ base:Heap,(K w.params).In base→base.Ns mainGlobals mg→FnOk l.prog w (K w.params) mg base CX0 k fa fd [x] (spD (K w.params) 1 m))
  (hm:∀ ns:List Int,ns.length≤n→∃ c,m [.scr ns] []=.ok (.bl true) c) :
  PySem.W.WalkO q loose XP YP l.row.toRowW d [] (fun f vs=>PySem.call f vs):=by
 refine Att.attach_call hn hdf fun w s₀ s₁ mg mb fa o pm cd doc a vs ns G Y ho hd hcd hmg hobj hints hlen hg=>?_
 obtain ⟨KX,hT⟩:=hY w _ Y
 obtain ⟨fd,hb,hF⟩:=F w mg fa _ KX G.T.g hmg
 obtain ⟨k1,k2,k3⟩:=hK w.params
 refine law_callT (ts:=ts) KX G.T.g G.T.b G.T.builtins G.T.nolimit G.T.bmain hg hobj hints (Nat.le_trans hlen hn2) hr (fun q hq=>⟨List.all_eq_true.mp k1 q hq,hT q hq⟩) k2 hF hb fun H h1 h2=>?_
 obtain ⟨c,hc⟩:=hm ns hlen
 refine ⟨[],[.scr ns],[],⟨.nil,rfl,fun k a cl e=>(by cases e),tabOk_start k3 h1⟩,⟨.ref a,[],rfl,⟨a,rfl,?_⟩,rfl⟩,rfl,?_⟩
 ·rcases h2 with hS | hS
  ·exact .inl ⟨hS,by simp⟩
  ·exact .inr (.inr hS)
 ·rw [hc]
  exact fun ρ' H' b _ _ r=>r
end L2
namespace L2
open PySem PySem.Spec PyProof.Rows
section
variable {X:Cx} {P:Str→Hp→Prop} {st:Stmt} {e e':Expr} {a b d:Xd} {pos:Pos}
theorem xt_cmp {op:CmpOp} {r:R2} {tb:TE} (ho:OpR X (compareOp op) r) (ha:PEx X P e d) (hb:PE X e' tb) (hm:behindInMarks op e'=false:=by first | exact nomark _ | rfl):PT X (.Compare e [op] [e'] pos) fun σ H _=>tXD X P d σ H :=
 (pt_cmpR ho ha hb hm).imp fun σ H Q h=>h
theorem xd_ift {A B:List Stmt} (hc:PT X e fun σ H _=>tXD X P d σ H):PSx X P (.If e A B pos) d:=(ps_if hc (pss_false (sts:=A)) (pss_false (sts:=B))).imp fun Z σ H h=>h
noncomputable def catM:D→D→List Cell→R D:=fun x y c=>match lstD c x,lstD c y with
 | some l,some m=>if l.length + m.length≤sizeLine∧noRefs (l ++ m)=true then .ok (.ref c.length) (c ++ [.lst (l ++ m)]) else .bad
 | _,_=>.bad
end
end L2
namespace L2
open PySem PySem.Spec PyProof.Rows
section
variable {X:Cx} {P:Str→Hp→Prop} {tg iter:Expr} {body:List Stmt} {u:Xd} {db:Ev→List Cell→R Fl} {pos:Pos}
open Classical in
noncomputable def xForD (st:List Cell→Prop) (g:Gd) (b:Ev→List Cell→R Fl) (u:Xd):List D→Xd
 | [],_,_=>.bad
 | x :: xs,e,c=>if st c then (g x e c).bind fun e c=>match u e c with
   | .ok y c'=>.ok y c'
   | .bad=>(b e c).bind fun f c=>match f with
    | .nx e=>xForD st g b u xs e c
    | .ct e=>xForD st g b u xs e c
    | _=>.bad
  else .bad
noncomputable def xFor (s:Ev→List Cell→R Src) (g:Gd) (b:Ev→List Cell→R Fl) (u:Xd):Xd:=fun e c=>(s e c).bind fun s c=>xForD s.stays g b u s.items e c
noncomputable def tXB (X:Cx) (P:Str→Hp→Prop) (u:Xd) (b:Ev→List Cell→R Fl):TS:=fun Z σ H=>∃ ρ e c,Wd X.K ρ H c∧REnv X.K ρ H e σ∧match u e c with
 | .ok y c'=>post X.K (fun _ _ a b=>a=b) (.ok y c') ρ H P
 | .bad=>post X.K (RelF X.K) (b e c) ρ H (En Z)
theorem pss_xb (hu:PSsx X P body u) (hb:PSsd X.nox body db):PSs X body (tXB X P u db):=fun pins s σ H D I h=>by
 obtain ⟨ρ,e,c,W,V,p⟩:=h
 cases q:u e c with
 | ok x c' =>
  rw [q] at p
  exact hu pins s σ H D I ⟨ρ,e,c,W,V,by rw [q]; exact p⟩
 | bad =>
  rw [q] at p
  exact PSs.nox hb pins s σ H D I ⟨ρ,e,c,W,V,p⟩
theorem xd_for {ds:Ev→List Cell→R Src} {g:Gd} (hi:PId X tg iter ds) (hg:PGd X tg g) (hb:PSsd X.nox body db) (hu:PSsx X P body u) (hp:PassesOwn (model X.prog X.w) X.A X.env X.xe:=by exact PassesOwn.leaving) (hc:X.calm=true:=by rfl)
  (hs:∀ x,foldedSetIterable iter X.env x=pure x:=by intro _; rfl):PSx X P (.For tg iter body [] pos) (xFor ds g db u):=(ps_for hp hc hi hg (pss_xb hu hb) hs).imp fun Z σ H h=>by
 obtain ⟨ρ,e,c,W,V,p⟩:=h
 refine ⟨ρ,e,c,W,V,post.bind p fun s c1 ρ1 H1 J _ W1 X1 j1 p1=>?_⟩
 refine ⟨fun i m σ H=>∃ ρ e c,Wd X.K ρ H c∧Ext ρ1 H1 ρ H∧REnv X.K ρ H e σ∧i≤s.items.length∧m=s.items.length - i∧post X.K (fun _ _ a b=>a=b) (xForD s.stays g db u (s.items.drop i) e c) ρ H P,
  ⟨_,ρ1,e,c1,W1,Ext.refl,V.mono W X1,Nat.zero_le _,rfl,p1⟩,?_⟩
 rintro i m σ2 H2 ⟨ρ2,e2,c2,W2,X2,V2,hi2,rfl,p2⟩
 by_cases hl:i < s.items.length
 ·rw [List.drop_eq_getElem_cons hl] at p2
  unfold xForD at p2
  split at p2
  ·rename_i hst
   obtain ⟨go,yl⟩:=(j1 ρ2 H2 c2 W2 X2 hst i).1 _ (List.getElem?_eq_getElem hl)
   refine .inr ⟨go,fun σ' H'=>∃ ρ e c,Wd X.K ρ H' c∧Ext ρ1 H1 ρ H'∧REnv X.K ρ H' e σ'∧i + 1≤s.items.length∧post X.K (fun _ _ a b=>a=b) (xForD s.stays g db u (s.items.drop (i + 1)) e c) ρ H' P,?_,fun x H3 hy=>?_⟩
   ·rintro σ' H' ⟨ρ,e,c,w,x,v,l,q⟩
    exact ⟨s.items.length - (i + 1),by omega,ρ,e,c,w,x,v,l,rfl,q⟩
   ·obtain ⟨W3,X3,r3⟩:=yl x H3 hy
    refine ⟨ρ2,_,e2,c2,W3,V2.mono W2 X3,r3,post.bind (post.ext p2 X3) fun e4 c4 ρ4 H4 σ4 _ W4 X4 V4 p4=>?_⟩
    refine ⟨ρ4,e4,c4,W4,V4,?_⟩
    cases hq:u e4 c4 with
    | ok y c' =>
     rw [hq] at p4
     exact p4
    | bad =>
     rw [hq] at p4
     refine post.bind p4 fun f c5 ρ5 H5 b _ W5 X5 r5 p5=>?_
     have X15:=((X2.trans X3).trans X4).trans X5
     cases f with
     | nx e1=>obtain ⟨σ1,rfl,V1⟩:=r5; exact ⟨ρ5,e1,c5,W5,X15,V1,hl,p5⟩
     | ct e1=>obtain ⟨σ1,rfl,V1⟩:=r5; exact ⟨ρ5,e1,c5,W5,X15,V1,hl,p5⟩
     | bk e1=>exact p5.elim
     | rt d=>exact p5.elim
  ·exact p2.elim
 ·rw [List.drop_eq_nil_of_le (by omega)] at p2
  exact p2.elim
end
end L2
namespace L2
open PySem PySem.Spec PyProof.Rows
noncomputable def setP (P:Program) (w:World) (a:Addr) (n:Nat):Heap→Prop:=fun h=>∃ o S,h.get? a=some o∧o.SetObjOf (intKind P w) S n
noncomputable def distN (ns:List Int):Nat:=(firstMet (fun i=>ns.getD i 0) ns.length).length
theorem valsIA:∀ {ns:List Int} {us:List Value},Vals (ns.map V.int) us→IntsAre us ns
 | [],_,.nil=>.nil
 | n :: ns,_,.cons ⟨t,e⟩ r=>by subst e; exact .cons _ _ (valsIA r)
section
variable {X:Cx}
noncomputable def rSet (X:Cx):List V→Hp→VK→Prop:=fun xs H Q=>∃ a ns,xs=[.ref a]∧SqL X.K H a (ns.map V.int)∧ns.length + 1 < scanBound∧∀ p,H p=none→Q (.ref p) (upd H p (.ext (setP X.prog X.w p (distN ns))))
theorem cr_set (hc:X.calm=true:=by rfl):CallR X (.type "set") (rSet X):=by
 intro pins s σ H xs us Q I rv h
 obtain ⟨a,ns,rfl,sq,hb,q⟩:=h
 obtain ⟨u,rfl,ru⟩:=vals1 rv
 cases ru
 obtain ⟨its,ri,pl,hz⟩:=I.list sq
 have hl:its.length=ns.length:=by have:=ri.length; simpa using this.symm
 refine call_set_list (I.ok.hd hc) pl.isList (valsIA (by simpa using ri)) (by simpa [hl] using hb) fun h' tk hS kp=>?_
 have hf:H s.heap.objs.size=none:=I.hok.fresh (Nat.le_refl _)
 have hn:(firstMet (fun i=>ns.getD i 0) its.toArray.size).length=distN ns:=by unfold distN; rw [List.size_toArray,hl]
 obtain ⟨o,ho,hso⟩:=hS.objOf
 rw [hn] at hso
 refine ⟨.ref s.heap.objs.size,upd H s.heap.objs.size (.ext (setP X.prog X.w s.heap.objs.size (distN ns))),I.laid (t':=tk) (fun b u e=>kp b u (Heap.lt_size e) e) (Nat.le_refl _) ?_,rfl,q _ hf⟩
 exact ⟨⟨o,_,ho,hso⟩,⟨o,ho⟩,fun h1 h2 ⟨o,S,ho,hs⟩ k=>⟨o,S,k o ho,hs⟩⟩
noncomputable def rLenS (X:Cx):List V→Hp→VK→Prop:=fun xs H Q=>∃ a n,xs=[.ref a]∧H a=some (.ext (setP X.prog X.w a n))∧(n:Int) < 2 ^ 63∧Q (.int (n:Nat)) H
theorem cr_lenS:CallR X (.builtin "len") (rLenS X):=by
 intro pins s σ H xs us Q I rv h
 obtain ⟨a,n,rfl,hH,hn,q⟩:=h
 obtain ⟨u,rfl,ru⟩:=vals1 rv
 cases ru
 obtain ⟨⟨o,S,ho,hso⟩,_,_⟩:=I.hok a _ hH
 obtain ⟨hex,es,ep,t,hd,_,_,he,hf⟩:=hso
 subst he
 exact call_len_set ho hex hd hf hn ⟨.int _,H,I.tok _,⟨_,rfl⟩,q⟩
noncomputable def dLenSet (a:Ev→List Cell→R (List D)):Ev→List Cell→R D:=fun e c=>(a e c).bind fun xs c=>match xs with
 | [x]=>match lstD c x with
  | some l=>match intsD l with
   | some ns=>if ns.length < 1000 then .ok (.int (distN ns)) c else .bad
   | none=>.bad
  | none=>.bad
 | _=>.bad
theorem dist_le (ns:List Int):distN ns≤ns.length:=firstMet_length_le _ _
theorem pd_lenset {e:Expr} {da:Ev→List Cell→R (List D)} {p1 p2 q1 q2:Pos} (ha:PAd X [e] da) (hm:X.mg "len"=none) (hm2:X.mg "set"=none) (hg:Gl X "len":=by rfl) (hg2:Gl X "set":=by rfl) (hc:X.calm=true:=by rfl)
  (he:starEach [e] X.env=(false,eval e X.env) :: starEach [] X.env:=by exact starE rfl):PEd X (.Call (.Name "len" p1) [.Call (.Name "set" p2) [e] [] q2] [] q1) (dLenSet da):=by
 have hset:PE X (.Call (.Name "set" p2) [e] [] q2) _:=pe_callTy (cr_set hc) hg2 hm2 (by decide +kernel) ha (by decide) (by decide) he (by exact starAny rfl)
 refine (pe_callB cr_lenS hg hm (by decide +kernel) (pa_cons hset pa_nil (starE rfl)) (by decide) (by decide) (by exact starE rfl) (by exact starAny rfl)).imp fun σ H Q h=>?_
 obtain ⟨ρ,e,c,W,V,p⟩:=h
 refine ⟨ρ,e,c,W,V,post.bind p fun xs c1 ρ1 H1 vs ex W1 X1 r1 p1=>?_⟩
 clear ex
 split at p1
 ·rename_i x
  obtain ⟨v,r,rfl,hx,hr⟩:=r1
  cases hr
  split at p1
  ·rename_i l hl
   split at p1
   ·rename_i ns hn
    split at p1
    ·rename_i hb
     obtain ⟨a,ys,rfl,ha',rl⟩:=lstD_ok W1 hx hl
     rw [intsD_eq hn] at rl
     cases rl.ints_inv
     refine ⟨a,ns,rfl,SqL.of ha',by unfold scanBound; omega,fun q hq=>?_⟩
     refine ⟨q,distN ns,rfl,upd_same,?_,?_⟩
     ·have:=dist_le ns; omega
     ·exact p1 ρ1 _ _ (W1.fresh hq) (Ext.fresh W1 hq) rfl
    ·exact p1.elim
   ·exact p1.elim
  ·exact p1.elim
 ·exact p1.elim
noncomputable def minLD:List D→List Cell→R D:=fun xs c=>match xs with
 | [.lst l]=>match intsD l with
  | some (a :: r)=>.ok (.int (minL a r)) c
  | _=>.bad
 | _=>.bad
theorem cd_minL (hc:X.calm=true:=by rfl):CallR X (.builtin "min") (rN X.K minLD):=by
 intro pins s σ H vs us Q I rv h
 obtain ⟨ρ,xs,c,W,rx,p⟩:=h
 unfold minLD at p
 split at p
 ·split at p
  ·rename_i a r hb
   obtain ⟨v,r',rfl,⟨b,ys,rfl,s1,r1⟩,hr⟩:=rx
   cases hr
   rw [intsD_eq hb] at r1
   cases r1.ints_inv
   obtain ⟨u,rfl,ru⟩:=vals1 rv
   cases ru
   obtain ⟨its,ri,pt,hz⟩:=I.list (SqL.of s1.1)
   have hpn:b≠s.heap.objs.size:=by obtain ⟨o,e,_⟩:=pt.isList; exact Nat.ne_of_lt (Heap.lt_size e)
   have hl:=ri.length
   have val:∀ i v,its.toArray[i]? = some v→∃ t,v=Value.int ((a :: r).getD i 0) t:=fun i v hv=>by
    obtain ⟨x,hx,rx⟩:=vals_get ri hv
    rw [List.getElem?_map] at hx
    cases q:(a :: r)[i]? with
    | none=>rw [q] at hx; cases hx
    | some z =>
     rw [q] at hx
     cases hx
     obtain ⟨t,rfl⟩:=rx
     exact ⟨t,by rw [List.getD_eq_getElem?_getD,q]; rfl⟩
   refine call_min_walk (wpAny_pyIter_list pt.isList ⟨s.heap.objs.size,_,_,its.toArray.size,_,_,_,rfl,Walks.list (A:=X.A.in1) (I.ok.hd hc) s.heap.objs.size b hpn its.toArray,⟨⟨_,Heap.get?_push_size _ rfl,rfl,rfl⟩,?_⟩,fun d hd=>?_,?_,CmpOf.ints_lt (fun i=>(a :: r).getD i 0) val,fun v h' tk hP kp=>?_⟩)
   ·obtain ⟨o,e,q⟩:=pt.isList; exact ⟨o,Heap.get?_push_of_some _ e,q⟩
   ·rw [Heap.size_push]
    rcases List.mem_cons.mp hd with rfl | hd
    ·exact Nat.lt_succ_self _
    ·rw [List.mem_singleton] at hd
     subst hd
     obtain ⟨o,e,_⟩:=pt.isList
     exact Nat.lt_succ_of_lt (Heap.lt_size e)
   ·rw [List.size_toArray,← hl]; simp
   ·have I1:Inv X pins σ H { s with heap:=h',toks:=tk }:=after_walk I kp
    obtain ⟨t,rfl⟩:=val _ _ hP
    have hs:its.toArray.size - 1=r.length:=by rw [List.size_toArray,← hl]; simp
    rw [hs,best_min r a r.length (by simp),List.take_length]
    exact ⟨.int (minL a r),H,I1,⟨t,rfl⟩,p.here W rfl⟩
  ·exact p.elim
 ·exact p.elim
end
@[simp] theorem x_lenset (a:Ev→List Cell→R (List D)) (e:Ev) (c:List Cell):dLenSet a e c=(a e c).bind fun xs c=>match xs with
 | [x]=>match lstD c x with
  | some l=>match intsD l with
   | some ns=>if ns.length < 1000 then .ok (.int (distN ns)) c else .bad
   | none=>.bad
  | none=>.bad
 | _=>.bad:=rfl
end L2
namespace Ev
open PySem L2 PyProof.Rows
noncomputable def top (i:Nat):Stmt:=PySem.Challenge.pw_evenwebs_k46_no_fields_no_things.main.body.getD i (.Pass ⟨0,0,0,0⟩)
noncomputable abbrev s_is_whole:Stmt:=top 14
noncomputable abbrev s_is_whole_within:Stmt:=top 15
noncomputable abbrev s_is_field:Stmt:=top 21
noncomputable abbrev s_require_field:Stmt:=top 22
noncomputable abbrev s_require_things:Stmt:=top 23
noncomputable abbrev s_row_of:Stmt:=top 24
noncomputable abbrev s_number_of:Stmt:=top 25
noncomputable abbrev s_taken:Stmt:=top 27
noncomputable abbrev s_row_where:Stmt:=top 17
noncomputable abbrev s_web_where:Stmt:=top 18
noncomputable abbrev s_added:Stmt:=top 26
noncomputable abbrev s_times_letter:Stmt:=top 28
noncomputable abbrev s_multiplied:Stmt:=top 29
noncomputable abbrev s_raised:Stmt:=top 31
noncomputable abbrev s_divided:Stmt:=top 30
noncomputable abbrev s_squares_in:Stmt:=top 32
noncomputable abbrev s_root_in:Stmt:=top 33
noncomputable abbrev s_is_maker:Stmt:=top 34
noncomputable abbrev s_maker:Stmt:=top 35
noncomputable abbrev s_field_web:Stmt:=top 36
noncomputable abbrev s_law_cell_at:Stmt:=top 38
noncomputable abbrev s_law_pot:Stmt:=top 39
noncomputable abbrev s_law_take:Stmt:=top 40
noncomputable abbrev s_law_kind_of:Stmt:=top 41
noncomputable abbrev s_law_fields:Stmt:=top 42
noncomputable abbrev s_law_told:Stmt:=top 43
noncomputable abbrev s_law:Stmt:=top 44
noncomputable def lamOf (st:Stmt):Expr:=match (defBody st).getLast? with
 | some (.Return (some (.Call _ [_,e] _ _)) _)=>e
 | _=>.Name "" ⟨0,0,0,0⟩
noncomputable def E_lam0:Expr:=lamOf s_field_web
noncomputable def x_FIELDS:List (Int×List Int):=[(2,[2,1,0]),(3,[3,1,0]),(4,[2,2,3]),(5,[5,1,0]),(7,[7,1,0]),(8,[2,3,3]),(9,[3,2,1]),(11,[11,1,0]),(13,[13,1,0]),(16,[2,4,3]),(17,[17,1,0]),(19,[19,1,0]),(23,[23,1,0]),(25,[5,2,2]),(27,[3,3,7]),(29,[29,1,0]),(31,[31,1,0]),(32,[2,5,5]),(37,[37,1,0]),(41,[41,1,0]),(43,[43,1,0]),(47,[47,1,0]),(49,[7,2,1])]
def xcls:List Str:=["NoWeb","NoText","NoNumbers","NoField","NoThing","NoSquare","NoPlaces","TooMany","NoName","NoDeed","NoRow"]
noncomputable def b_is_whole:Ev→List Cell→R Fl :=
 (sRet (dAndV (dCB isiD (dCons (dVar 0) (dCons (dC (.ty "int")) dNil))) (dNotV (dCB isiD (dCons (dVar 0) (dCons (dC (.ty "bool")) dNil))))))
noncomputable def m_is_whole:List D→List Cell→R D:=fnD 1 false b_is_whole
noncomputable def b_is_whole_within:Ev→List Cell→R Fl :=
 (sRet (dAndV (dCall 1 m_is_whole (dCons (dVar 0) dNil)) (dChain leD leD (dVar 1) (dVar 0) (dVar 2))))
noncomputable def m_is_whole_within:List D→List Cell→R D:=fnD 3 false b_is_whole_within
noncomputable def b_is_field:Ev→List Cell→R Fl :=
 (sRet (dAndV (dCall 1 m_is_whole (dCons (dVar 0) dNil)) (dBin (inF "FIELDS" x_FIELDS) (dVar 0) (dC (.fn "FIELDS" 0)))))
noncomputable def m_is_field:List D→List Cell→R D:=fnD 1 false b_is_field
noncomputable def b_require_field:Ev→List Cell→R Fl :=
 (sIf (dNotT (dBl (dCall 1 m_is_field (dCons (dVar 0) dNil)))) sBad sNext)
noncomputable def m_require_field:List D→List Cell→R D:=fnD 1 false b_require_field
noncomputable def bx_require_field:Xd :=
 (xIf (dNotT (dBl (dCall 1 m_is_field (dCons (dVar 0) dNil)))) (xCls "NoField") xBad)
noncomputable def x_require_field:List D→List Cell→R Str:=fnX 1 bx_require_field
noncomputable def b_require_things:Ev→List Cell→R Fl :=
 (sSeq (sDrop (dCall 1 m_require_field (dCons (dVar 0) dNil))) (sFor (dSeqT (dVar 1)) (gdName 2) (sIf (dNotT (dBl (dCall 3 m_is_whole_within (dCons (dVar 2) (dCons (dC (.int 0)) (dCons (dBin subD (dVar 0) (dC (.int 1))) dNil)))))) sBad sNext)))
noncomputable def m_require_things:List D→List Cell→R D:=fnD 3 false b_require_things
noncomputable def bx_require_things:Xd :=
 (xOr (xCall 1 x_require_field (dCons (dVar 0) dNil)) (xSeq (sDrop (dCall 1 m_require_field (dCons (dVar 0) dNil))) (xFor (dSeqT (dVar 1)) (gdName 2) (sIf (dNotT (dBl (dCall 3 m_is_whole_within (dCons (dVar 2) (dCons (dC (.int 0)) (dCons (dBin subD (dVar 0) (dC (.int 1))) dNil)))))) sBad sNext) (xIf (dNotT (dBl (dCall 3 m_is_whole_within (dCons (dVar 2) (dCons (dC (.int 0)) (dCons (dBin subD (dVar 0) (dC (.int 1))) dNil)))))) (xCls "NoThing") xBad))))
noncomputable def x_require_things:List D→List Cell→R Str:=fnX 3 bx_require_things
noncomputable def b_row_of:Ev→List Cell→R Fl :=
 (sSeq (sSet 2 (dUn (fldD x_FIELDS 0) (dVar 0))) (sSeq (sSet 3 (dLstM dNil)) (sSeq (sSet 4 (dVar 1)) (sSeq (sFor (dRng1 (dCons (dUn (fldD x_FIELDS 1) (dVar 0)) dNil)) (gdName 5) (sSeq (sDrop (dAppend (dVar 3) (dBin modD (dVar 4) (dVar 2)))) (sSet 4 (dBin divD (dVar 4) (dVar 2))))) (sRet (dVar 3))))))
noncomputable def m_row_of:List D→List Cell→R D:=fnD 6 false b_row_of
noncomputable def b_number_of:Ev→List Cell→R Fl :=
 (sSeq (sSet 2 (dUn (fldD x_FIELDS 0) (dVar 0))) (sSeq (sSet 3 (dC (.int 0))) (sSeq (sFor (dRev (dCons (dVar 1) dNil)) (gdName 4) (sSet 3 (dBin addD (dBin mulD (dVar 3) (dVar 2)) (dBin modD (dVar 4) (dVar 2))))) (sRet (dVar 3)))))
noncomputable def m_number_of:List D→List Cell→R D:=fnD 5 false b_number_of
noncomputable def b_taken:Ev→List Cell→R Fl :=
 (sSeq (sDrop (dCall 2 m_require_things (dCons (dVar 0) (dCons (dTup (dCons (dVar 1) (dCons (dVar 2) dNil))) dNil)))) (sRet (dCall 2 m_number_of (dCons (dVar 0) (dCons (dComp (dZip2 (dCons (dCall 2 m_row_of (dCons (dVar 0) (dCons (dVar 1) dNil))) (dCons (dCall 2 m_row_of (dCons (dVar 0) (dCons (dVar 2) dNil))) dNil))) [none,none] (gdTup 2 (gdCons (gdName 0) (gdCons (gdName 1) gdNil))) dYes (dBin subD (dVar 0) (dVar 1))) dNil)))))
noncomputable def m_taken:List D→List Cell→R D:=fnD 3 false b_taken
noncomputable def bx_taken:Xd :=
 (xCall 2 x_require_things (dCons (dVar 0) (dCons (dTup (dCons (dVar 1) (dCons (dVar 2) dNil))) dNil)))
noncomputable def x_taken:List D→List Cell→R Str:=fnX 3 bx_taken
noncomputable def l_lam0:Ev→List Cell→R D :=
 (dBin inD (dCall 3 m_taken (dCons (dVar 3) (dCons (dVar 0) (dCons (dVar 1) dNil)))) (dVar 2))
noncomputable def lams:List (Expr×List Str×(List D→List Cell→R D)):=[(E_lam0,["squares","q"],lamD l_lam0)]
noncomputable def b_row_where:Ev→List Cell→R Fl :=
 (sRet (dCB tupleD (dCons (dComp (dRng1 (dCons (dVar 0) dNil)) [none,some 1,some 2] (gdName 0) (dAndT (dBl (dBin neD (dVar 0) (dVar 1))) (dBl (dCallL 2 2 lams (dCons (dVar 1) (dCons (dVar 0) dNil))))) (dVar 0)) dNil)))
noncomputable def m_row_where:List D→List Cell→R D:=fnD 3 false b_row_where
noncomputable def b_web_where:Ev→List Cell→R Fl :=
 (sRet (dCB tupleD (dCons (dComp (dRng1 (dCons (dVar 0) dNil)) [none,some 0,some 1] (gdName 0) dYes (dCall 3 m_row_where (dCons (dVar 1) (dCons (dVar 0) (dCons (dVar 2) dNil))))) dNil)))
noncomputable def m_web_where:List D→List Cell→R D:=fnD 2 false b_web_where
noncomputable def b_added:Ev→List Cell→R Fl :=
 (sSeq (sDrop (dCall 2 m_require_things (dCons (dVar 0) (dCons (dTup (dCons (dVar 1) (dCons (dVar 2) dNil))) dNil)))) (sRet (dCall 2 m_number_of (dCons (dVar 0) (dCons (dComp (dZip2 (dCons (dCall 2 m_row_of (dCons (dVar 0) (dCons (dVar 1) dNil))) (dCons (dCall 2 m_row_of (dCons (dVar 0) (dCons (dVar 2) dNil))) dNil))) [none,none] (gdTup 2 (gdCons (gdName 0) (gdCons (gdName 1) gdNil))) dYes (dBin addD (dVar 0) (dVar 1))) dNil)))))
noncomputable def m_added:List D→List Cell→R D:=fnD 3 false b_added
noncomputable def bx_added:Xd :=
 (xCall 2 x_require_things (dCons (dVar 0) (dCons (dTup (dCons (dVar 1) (dCons (dVar 2) dNil))) dNil)))
noncomputable def x_added:List D→List Cell→R Str:=fnX 3 bx_added
noncomputable def b_times_letter:Ev→List Cell→R Fl :=
 (sSeq (sSet 2 (dCall 2 m_row_of (dCons (dVar 0) (dCons (dUn (fldD x_FIELDS 2) (dVar 0)) dNil)))) (sRet (dComp (dZip2 (dCons (dBin catD (dLst (dCons (dC (.int 0)) dNil)) (dVar 1)) (dCons (dVar 2) dNil))) [none,none,some 1] (gdTup 2 (gdCons (gdName 0) (gdCons (gdName 1) gdNil))) dYes (dBin subD (dVar 0) (dBin mulD (dBin ixD (dVar 2) (dUn negD (dC (.int 1)))) (dVar 1))))))
noncomputable def m_times_letter:List D→List Cell→R D:=fnD 3 false b_times_letter
noncomputable def b_multiplied:Ev→List Cell→R Fl :=
 (sSeq (sDrop (dCall 2 m_require_things (dCons (dVar 0) (dCons (dTup (dCons (dVar 1) (dCons (dVar 2) dNil))) dNil)))) (sSeq (sSet 3 (dCall 2 m_row_of (dCons (dVar 0) (dCons (dVar 2) dNil)))) (sSeq (sSet 4 (dBin repD (dLst (dCons (dC (.int 0)) dNil)) (dCB lenD (dCons (dVar 3) dNil)))) (sSeq (sFor (dRev (dCons (dCall 2 m_row_of (dCons (dVar 0) (dCons (dVar 1) dNil))) dNil)) (gdName 5) (sSet 4 (dComp (dZip2 (dCons (dCall 2 m_times_letter (dCons (dVar 0) (dCons (dVar 4) dNil))) (dCons (dVar 3) dNil))) [none,none,some 5] (gdTup 2 (gdCons (gdName 0) (gdCons (gdName 1) gdNil))) dYes (dBin addD (dVar 0) (dBin mulD (dVar 2) (dVar 1)))))) (sRet (dCall 2 m_number_of (dCons (dVar 0) (dCons (dVar 4) dNil))))))))
noncomputable def m_multiplied:List D→List Cell→R D:=fnD 6 false b_multiplied
noncomputable def bx_multiplied:Xd :=
 (xCall 2 x_require_things (dCons (dVar 0) (dCons (dTup (dCons (dVar 1) (dCons (dVar 2) dNil))) dNil)))
noncomputable def x_multiplied:List D→List Cell→R Str:=fnX 6 bx_multiplied
noncomputable def b_raised:Ev→List Cell→R Fl :=
 (sSeq (sDrop (dCall 2 m_require_things (dCons (dVar 0) (dCons (dTup (dCons (dVar 1) dNil)) dNil)))) (sSeq (sIf (dBl (dBin eqD (dVar 1) (dC (.int 0)))) (sRet (dIfE (dBl (dBin eqD (dVar 2) (dC (.int 0)))) (dC (.int 1)) (dC (.int 0)))) sNext) (sSeq (sSet 3 (dC (.int 1))) (sSeq (sFor (dRng1 (dCons (dBin modD (dVar 2) (dBin subD (dVar 0) (dC (.int 1)))) dNil)) (gdName 4) (sSet 3 (dCall 3 m_multiplied (dCons (dVar 0) (dCons (dVar 3) (dCons (dVar 1) dNil)))))) (sRet (dVar 3))))))
noncomputable def m_raised:List D→List Cell→R D:=fnD 5 false b_raised
noncomputable def bx_raised:Xd :=
 (xOr (xCall 2 x_require_things (dCons (dVar 0) (dCons (dTup (dCons (dVar 1) dNil)) dNil))) (xSeq (sDrop (dCall 2 m_require_things (dCons (dVar 0) (dCons (dTup (dCons (dVar 1) dNil)) dNil)))) (xSeq (sIf (dBl (dBin eqD (dVar 1) (dC (.int 0)))) (sRet (dIfE (dBl (dBin eqD (dVar 2) (dC (.int 0)))) (dC (.int 1)) (dC (.int 0)))) sNext) (xSeq (sSet 3 (dC (.int 1))) (xFor (dRng1 (dCons (dBin modD (dVar 2) (dBin subD (dVar 0) (dC (.int 1)))) dNil)) (gdName 4) (sSet 3 (dCall 3 m_multiplied (dCons (dVar 0) (dCons (dVar 3) (dCons (dVar 1) dNil))))) (xCall 3 x_multiplied (dCons (dVar 0) (dCons (dVar 3) (dCons (dVar 1) dNil)))))))))
noncomputable def x_raised:List D→List Cell→R Str:=fnX 5 bx_raised
noncomputable def b_divided:Ev→List Cell→R Fl :=
 (sSeq (sDrop (dCall 2 m_require_things (dCons (dVar 0) (dCons (dTup (dCons (dVar 1) (dCons (dVar 2) dNil))) dNil)))) (sSeq (sIf (dBl (dBin eqD (dVar 2) (dC (.int 0)))) sBad sNext) (sRet (dCall 3 m_multiplied (dCons (dVar 0) (dCons (dVar 1) (dCons (dCall 3 m_raised (dCons (dVar 0) (dCons (dVar 2) (dCons (dBin subD (dVar 0) (dC (.int 2))) dNil)))) dNil)))))))
noncomputable def m_divided:List D→List Cell→R D:=fnD 3 false b_divided
noncomputable def bx_divided:Xd :=
 (xOr (xCall 2 x_require_things (dCons (dVar 0) (dCons (dTup (dCons (dVar 1) (dCons (dVar 2) dNil))) dNil))) (xSeq (sDrop (dCall 2 m_require_things (dCons (dVar 0) (dCons (dTup (dCons (dVar 1) (dCons (dVar 2) dNil))) dNil)))) (xOr (xIf (dBl (dBin eqD (dVar 2) (dC (.int 0)))) (xCls "NoThing") xBad) (xSeq (sIf (dBl (dBin eqD (dVar 2) (dC (.int 0)))) sBad sNext) (xCall 3 x_multiplied (dCons (dVar 0) (dCons (dVar 1) (dCons (dCall 3 m_raised (dCons (dVar 0) (dCons (dVar 2) (dCons (dBin subD (dVar 0) (dC (.int 2))) dNil)))) dNil))))))))
noncomputable def x_divided:List D→List Cell→R Str:=fnX 3 bx_divided
noncomputable def b_squares_in:Ev→List Cell→R Fl :=
 (sSeq (sDrop (dCall 1 m_require_field (dCons (dVar 0) dNil))) (sRet (dSortSet (dCons (dComp (dRng2 (dCons (dC (.int 1)) (dCons (dVar 0) dNil))) [none,some 0] (gdName 0) dYes (dCall 3 m_multiplied (dCons (dVar 1) (dCons (dVar 0) (dCons (dVar 0) dNil))))) dNil))))
noncomputable def m_squares_in:List D→List Cell→R D:=fnD 1 false b_squares_in
noncomputable def bx_squares_in:Xd :=
 (xCall 1 x_require_field (dCons (dVar 0) dNil))
noncomputable def x_squares_in:List D→List Cell→R Str:=fnX 1 bx_squares_in
noncomputable def b_root_in:Ev→List Cell→R Fl :=
 (sSeq (sDrop (dCall 2 m_require_things (dCons (dVar 0) (dCons (dTup (dCons (dVar 1) dNil)) dNil)))) (sSeq (sFor (dRng1 (dCons (dVar 0) dNil)) (gdName 2) (sIf (dBl (dBin eqD (dCall 3 m_multiplied (dCons (dVar 0) (dCons (dVar 2) (dCons (dVar 2) dNil)))) (dVar 1))) (sRet (dVar 2)) sNext)) (sRet (dC .non))))
noncomputable def m_root_in:List D→List Cell→R D:=fnD 3 false b_root_in
noncomputable def bx_root_in:Xd :=
 (xOr (xCall 2 x_require_things (dCons (dVar 0) (dCons (dTup (dCons (dVar 1) dNil)) dNil))) (xSeq (sDrop (dCall 2 m_require_things (dCons (dVar 0) (dCons (dTup (dCons (dVar 1) dNil)) dNil)))) (xFor (dRng1 (dCons (dVar 0) dNil)) (gdName 2) (sIf (dBl (dBin eqD (dCall 3 m_multiplied (dCons (dVar 0) (dCons (dVar 2) (dCons (dVar 2) dNil)))) (dVar 1))) (sRet (dVar 2)) sNext) (xCall 3 x_multiplied (dCons (dVar 0) (dCons (dVar 2) (dCons (dVar 2) dNil)))))))
noncomputable def x_root_in:List D→List Cell→R Str:=fnX 3 bx_root_in
noncomputable def b_is_maker:Ev→List Cell→R Fl :=
 (sSeq (sSet 2 (dLstM (dCons (dC (.int 1)) dNil))) (sSeq (sFor (dRng1 (dCons (dBin subD (dVar 0) (dC (.int 2))) dNil)) (gdName 3) (sDrop (dAppend (dVar 2) (dCall 3 m_multiplied (dCons (dVar 0) (dCons (dBin ixD (dVar 2) (dUn negD (dC (.int 1)))) (dCons (dVar 1) dNil))))))) (sRet (dBin eqD (dLenSet (dCons (dVar 2) dNil)) (dBin subD (dVar 0) (dC (.int 1)))))))
noncomputable def m_is_maker:List D→List Cell→R D:=fnD 4 false b_is_maker
noncomputable def b_maker:Ev→List Cell→R Fl :=
 (sSeq (sDrop (dCall 1 m_require_field (dCons (dVar 0) dNil))) (sRet (dCB minLD (dCons (dComp (dRng2 (dCons (dC (.int 1)) (dCons (dVar 0) dNil))) [none,some 0] (gdName 0) (dBl (dCall 2 m_is_maker (dCons (dVar 1) (dCons (dVar 0) dNil)))) (dVar 0)) dNil))))
noncomputable def m_maker:List D→List Cell→R D:=fnD 1 false b_maker
noncomputable def bx_maker:Xd :=
 (xCall 1 x_require_field (dCons (dVar 0) dNil))
noncomputable def x_maker:List D→List Cell→R Str:=fnX 1 bx_maker
noncomputable def b_field_web:Ev→List Cell→R Fl :=
 (sSeq (sDrop (dCall 1 m_require_field (dCons (dVar 0) dNil))) (sSeq (sIf (dBl (dBin neD (dBin modD (dVar 0) (dC (.int 4))) (dC (.int 1)))) sBad sNext) (sSeq (sSet 1 (dCall 1 m_squares_in (dCons (dVar 0) dNil))) (sRet (dCallLam 0 m_web_where (dVar 0) E_lam0 ["squares","q"] [1,0])))))
noncomputable def m_field_web:List D→List Cell→R D:=fnD 2 false b_field_web
noncomputable def bx_field_web:Xd :=
 (xOr (xCall 1 x_require_field (dCons (dVar 0) dNil)) (xSeq (sDrop (dCall 1 m_require_field (dCons (dVar 0) dNil))) (xOr (xIf (dBl (dBin neD (dBin modD (dVar 0) (dC (.int 4))) (dC (.int 1)))) (xCls "NoField") xBad) (xSeq (sIf (dBl (dBin neD (dBin modD (dVar 0) (dC (.int 4))) (dC (.int 1)))) sBad sNext) (xCall 1 x_squares_in (dCons (dVar 0) dNil))))))
noncomputable def x_field_web:List D→List Cell→R Str:=fnX 2 bx_field_web
noncomputable def b_law_cell_at:Ev→List Cell→R Fl :=
 (sSeq (sIf (dBl (dBin ltD (dVar 1) (dCB lenD (dCons (dVar 0) dNil)))) (sRet (dBin ixD (dVar 0) (dVar 1))) sNext) (sRet (dC (.int 0))))
noncomputable def m_law_cell_at:List D→List Cell→R D:=fnD 2 false b_law_cell_at
noncomputable def b_law_pot:Ev→List Cell→R Fl :=
 (sSeq (sIf (dBl (dBin geD (dVar 0) (dBin powD (dC (.int 10)) (dC (.int 18))))) (sRet (dLstM (dCons (dBin subD (dVar 0) (dBin powD (dC (.int 10)) (dC (.int 18)))) dNil))) sNext) (sSeq (sSet 1 (dC (.int 0))) (sSeq (sFor (dRng1 (dCons (dC (.int 64)) dNil)) (gdName 2) (sSeq (sSet 3 (dBin modD (dBin mulD (dBin addD (dBin addD (dBin modD (dVar 0) (dC (.int 2147483629))) (dBin mulD (dC (.int 7919)) (dVar 2))) (dC (.int 1))) (dC (.int 48271))) (dC (.int 2147483647)))) (sSeq (sSet 3 (dBin modD (dBin addD (dBin addD (dBin mulD (dVar 3) (dVar 3)) (dBin mulD (dC (.int 69621)) (dVar 2))) (dC (.int 7))) (dC (.int 2147483587)))) (sSet 1 (dBin addD (dBin mulD (dVar 1) (dC (.int 2147483587))) (dVar 3)))))) (sRet (dLstM (dCons (dVar 1) dNil))))))
noncomputable def m_law_pot:List D→List Cell→R D:=fnD 4 true b_law_pot
noncomputable def b_law_take:Ev→List Cell→R Fl :=
 (sSeq (sSet 2 (dBin modD (dBin ixD (dVar 0) (dC (.int 0))) (dVar 1))) (sSeq (sAsg (dBin divD (dBin ixD (dVar 0) (dC (.int 0))) (dVar 1)) (gdSub (dVar 0) (dC (.int 0)))) (sRet (dVar 2))))
noncomputable def m_law_take:List D→List Cell→R D:=fnD 3 false b_law_take
noncomputable def b_law_kind_of:Ev→List Cell→R Fl :=
 (sSeq (sSet 1 (dLst (dCons (dCB (isxD xcls) (dCons (dVar 0) (dCons (dC (.fn "NoWeb" 0)) dNil))) (dCons (dCB (isxD xcls) (dCons (dVar 0) (dCons (dC (.fn "NoText" 0)) dNil))) (dCons (dCB (isxD xcls) (dCons (dVar 0) (dCons (dC (.fn "NoNumbers" 0)) dNil))) (dCons (dCB (isxD xcls) (dCons (dVar 0) (dCons (dC (.fn "NoField" 0)) dNil))) dNil)))))) (sSeq (sSet 1 (dBin catD (dVar 1) (dLst (dCons (dCB (isxD xcls) (dCons (dVar 0) (dCons (dC (.fn "NoThing" 0)) dNil))) (dCons (dCB (isxD xcls) (dCons (dVar 0) (dCons (dC (.fn "NoSquare" 0)) dNil))) (dCons (dCB (isxD xcls) (dCons (dVar 0) (dCons (dC (.fn "NoPlaces" 0)) dNil))) (dCons (dCB (isxD xcls) (dCons (dVar 0) (dCons (dC (.fn "TooMany" 0)) dNil))) dNil))))))) (sSeq (sSet 1 (dBin catD (dVar 1) (dLst (dCons (dCB (isxD xcls) (dCons (dVar 0) (dCons (dC (.fn "NoName" 0)) dNil))) (dCons (dCB (isxD xcls) (dCons (dVar 0) (dCons (dC (.fn "NoDeed" 0)) dNil))) (dCons (dCB (isxD xcls) (dCons (dVar 0) (dCons (dC (.fn "NoRow" 0)) dNil))) dNil)))))) (sSeq (sIf (dOrT (dBl (dBin neD (dCount (dVar 1) (dC (.bl true))) (dC (.int 1)))) (dNotT (dBl (dCB (isxD xcls) (dCons (dVar 0) (dCons (dC (.ty "ValueError")) dNil)))))) (sRet (dC (.str "other"))) sNext) (sSeq (sSet 2 (dLst (dCons (dC (.str "web")) (dCons (dC (.str "text")) (dCons (dC (.str "numbers")) (dCons (dC (.str "field")) (dCons (dC (.str "thing")) (dCons (dC (.str "square")) (dCons (dC (.str "places")) (dCons (dC (.str "many")) (dCons (dC (.str "name")) (dCons (dC (.str "deed")) (dCons (dC (.str "row")) dNil))))))))))))) (sRet (dBin ixD (dVar 2) (dIndex (dVar 1) (dC (.bl true))))))))))
noncomputable def m_law_kind_of:List D→List Cell→R D:=fnD 3 false b_law_kind_of
noncomputable def b_law_fields:Ev→List Cell→R Fl :=
 (sRet (dLst (dInts [2,3,4,5,7,8,9,11,13,16,17,19,23,25,27,29,31,32,37,41,43,47,49])))
noncomputable def m_law_fields:List D→List Cell→R D:=fnD 0 false b_law_fields
noncomputable def b_law_told:Ev→List Cell→R Fl :=
 (sSeq (sTry xcls 4 5 (sIf (dBl (dBin eqD (dVar 0) (dC (.int 0)))) (sDrop (dCall 3 m_added (dCons (dVar 1) (dCons (dVar 2) (dCons (dVar 3) dNil))))) (sIf (dBl (dBin eqD (dVar 0) (dC (.int 1)))) (sDrop (dCall 3 m_taken (dCons (dVar 1) (dCons (dVar 2) (dCons (dVar 3) dNil))))) (sIf (dBl (dBin eqD (dVar 0) (dC (.int 2)))) (sDrop (dCall 3 m_multiplied (dCons (dVar 1) (dCons (dVar 2) (dCons (dVar 3) dNil))))) (sIf (dBl (dBin eqD (dVar 0) (dC (.int 3)))) (sDrop (dCall 3 m_divided (dCons (dVar 1) (dCons (dVar 2) (dCons (dVar 3) dNil))))) (sIf (dBl (dBin eqD (dVar 0) (dC (.int 4)))) (sDrop (dCall 3 m_raised (dCons (dVar 1) (dCons (dVar 2) (dCons (dC (.int 2)) dNil))))) (sIf (dBl (dBin eqD (dVar 0) (dC (.int 5)))) (sDrop (dCall 2 m_root_in (dCons (dVar 1) (dCons (dVar 2) dNil)))) (sIf (dBl (dBin eqD (dVar 0) (dC (.int 6)))) (sDrop (dCall 1 m_squares_in (dCons (dVar 1) dNil))) (sIf (dBl (dBin eqD (dVar 0) (dC (.int 7)))) (sDrop (dCall 1 m_maker (dCons (dVar 1) dNil))) (sDrop (dCall 1 m_field_web (dCons (dVar 1) dNil))))))))))) (xIf (dBl (dBin eqD (dVar 0) (dC (.int 0)))) (xCall 3 x_added (dCons (dVar 1) (dCons (dVar 2) (dCons (dVar 3) dNil)))) (xIf (dBl (dBin eqD (dVar 0) (dC (.int 1)))) (xCall 3 x_taken (dCons (dVar 1) (dCons (dVar 2) (dCons (dVar 3) dNil)))) (xIf (dBl (dBin eqD (dVar 0) (dC (.int 2)))) (xCall 3 x_multiplied (dCons (dVar 1) (dCons (dVar 2) (dCons (dVar 3) dNil)))) (xIf (dBl (dBin eqD (dVar 0) (dC (.int 3)))) (xCall 3 x_divided (dCons (dVar 1) (dCons (dVar 2) (dCons (dVar 3) dNil)))) (xIf (dBl (dBin eqD (dVar 0) (dC (.int 4)))) (xCall 3 x_raised (dCons (dVar 1) (dCons (dVar 2) (dCons (dC (.int 2)) dNil)))) (xIf (dBl (dBin eqD (dVar 0) (dC (.int 5)))) (xCall 2 x_root_in (dCons (dVar 1) (dCons (dVar 2) dNil))) (xIf (dBl (dBin eqD (dVar 0) (dC (.int 6)))) (xCall 1 x_squares_in (dCons (dVar 1) dNil)) (xIf (dBl (dBin eqD (dVar 0) (dC (.int 7)))) (xCall 1 x_maker (dCons (dVar 1) dNil)) (xCall 1 x_field_web (dCons (dVar 1) dNil)))))))))) (dCall 1 m_law_kind_of (dCons (dVar 4) dNil))) (sRet (dC (.str "told"))))
noncomputable def m_law_told:List D→List Cell→R D:=fnD 5 false b_law_told
noncomputable def b_law:Ev→List Cell→R Fl :=
 (sSeq (sFor (dRng1 (dCons (dCB max2D (dCons (dC (.int 1)) (dCons (dCB min2D (dCons (dCB lenD (dCons (dVar 0) dNil)) (dCons (dC (.int 8)) dNil))) dNil))) dNil)) (gdName 1) (sSeq (sSet 2 (dCall 1 m_law_pot (dCons (dCall 2 m_law_cell_at (dCons (dVar 0) (dCons (dVar 1) dNil))) dNil))) (sSeq (sSet 3 (dBin ixD (dCall 0 m_law_fields dNil) (dCall 2 m_law_take (dCons (dVar 2) (dCons (dC (.int 23)) dNil))))) (sSeq (sSet 4 (dBin ixD (dLst (dCons (dC (.int 0)) (dCons (dC (.int 1)) (dCons (dC (.int 6)) (dCons (dC (.int 10)) (dCons (dC (.int 12)) (dCons (dC (.int 15)) (dCons (dC (.int 50)) (dCons (dC (.int 51)) (dCons (dC (.int 53)) (dCons (dC (.int 64)) (dCons (dBin subD (dC (.int 0)) (dC (.int 5))) (dCons (dC (.bl true)) (dCons (dC .non) (dCons (dC (.str "5")) (dCons (dTup (dCons (dC (.int 5)) dNil)) (dCons (dLst (dCons (dC (.int 7)) dNil)) (dCons (dBin powD (dC (.int 10)) (dC (.int 20))) dNil)))))))))))))))))) (dCall 2 m_law_take (dCons (dVar 2) (dCons (dC (.int 17)) dNil))))) (sSeq (sIf (dBl (dBin nevD (dComp (dRng1 (dCons (dC (.int 9)) dNil)) [none,some 4] (gdName 0) dYes (dCall 4 m_law_told (dCons (dVar 0) (dCons (dVar 1) (dCons (dC .non) (dCons (dC (.int 0)) dNil)))))) (dBin repD (dLst (dCons (dC (.str "field")) dNil)) (dC (.int 9))))) (sRet (dC (.bl false))) sNext) (sSeq (sSet 5 (dBin ixD (dLst (dCons (dBin subD (dC (.int 0)) (dC (.int 1))) (dCons (dVar 3) (dCons (dBin addD (dVar 3) (dC (.int 1))) (dCons (dBin powD (dC (.int 10)) (dC (.int 30))) (dCons (dC (.bl true)) (dCons (dC (.bl false)) (dCons (dC .non) (dCons (dC (.str "0")) (dCons (dTup (dCons (dC (.int 0)) dNil)) (dCons (dLst (dCons (dC (.int 1)) dNil)) dNil))))))))))) (dCall 2 m_law_take (dCons (dVar 2) (dCons (dC (.int 10)) dNil))))) (sSeq (sIf (dBl (dBin nevD (dComp (dRng1 (dCons (dC (.int 6)) dNil)) [none,some 3,some 5] (gdName 0) dYes (dCall 4 m_law_told (dCons (dVar 0) (dCons (dVar 1) (dCons (dVar 2) (dCons (dC (.int 1)) dNil)))))) (dBin repD (dLst (dCons (dC (.str "thing")) dNil)) (dC (.int 6))))) (sRet (dC (.bl false))) sNext) (sSeq (sIf (dBl (dBin nevD (dComp (dRng1 (dCons (dC (.int 4)) dNil)) [none,some 3,some 5] (gdName 0) dYes (dCall 4 m_law_told (dCons (dVar 0) (dCons (dVar 1) (dCons (dC (.int 1)) (dCons (dVar 2) dNil)))))) (dBin repD (dLst (dCons (dC (.str "thing")) dNil)) (dC (.int 4))))) (sRet (dC (.bl false))) sNext) (sSeq (sIf (dBl (dBin neD (dCall 4 m_law_told (dCons (dC (.int 3)) (dCons (dVar 3) (dCons (dCall 2 m_law_take (dCons (dVar 2) (dCons (dVar 3) dNil))) (dCons (dC (.int 0)) dNil))))) (dC (.str "thing")))) (sRet (dC (.bl false))) sNext) (sSeq (sIf (dBl (dBin nevD (dComp (dRng1 (dCons (dC (.int 8)) dNil)) [none,some 3] (gdName 0) dYes (dCall 4 m_law_told (dCons (dVar 0) (dCons (dVar 1) (dCons (dC (.int 1)) (dCons (dC (.int 1)) dNil)))))) (dBin repD (dLst (dCons (dC (.str "told")) dNil)) (dC (.int 8))))) (sRet (dC (.bl false))) sNext) (sIf (dBl (dBin neD (dCall 4 m_law_told (dCons (dC (.int 8)) (dCons (dVar 3) (dCons (dC (.int 0)) (dCons (dC (.int 0)) dNil))))) (dBin ixD (dLst (dCons (dC (.str "field")) (dCons (dC (.str "told")) dNil))) (dCB int1D (dCons (dBin eqD (dBin modD (dVar 3) (dC (.int 4))) (dC (.int 1))) dNil))))) (sRet (dC (.bl false))) sNext))))))))))) (sRet (dC (.bl true))))
noncomputable def m_law:List D→List Cell→R D:=fnD 6 false b_law
end Ev
namespace Ev
open PySem L2 PyProof.Rows
set_option genInjectivity false in
set_option genSizeOfSpec false in
structure Tx (K:PySem.W.Frag) (mg:Str→Option Value) where
 a_is_whole:Addr
 fd_is_whole:FuncData
 d_is_whole:Def K mg "is_whole" s_is_whole ["thing"] a_is_whole fd_is_whole
 n_is_whole:PySem.W.nsIn K mainGlobals "is_whole"=some (some (.ref a_is_whole))
 a_is_whole_within:Addr
 fd_is_whole_within:FuncData
 d_is_whole_within:Def K mg "is_whole_within" s_is_whole_within ["thing","least","most"] a_is_whole_within fd_is_whole_within
 n_is_whole_within:PySem.W.nsIn K mainGlobals "is_whole_within"=some (some (.ref a_is_whole_within))
 a_is_field:Addr
 fd_is_field:FuncData
 d_is_field:Def K mg "is_field" s_is_field ["thing"] a_is_field fd_is_field
 n_is_field:PySem.W.nsIn K mainGlobals "is_field"=some (some (.ref a_is_field))
 a_require_field:Addr
 fd_require_field:FuncData
 d_require_field:Def K mg "require_field" s_require_field ["thing"] a_require_field fd_require_field
 n_require_field:PySem.W.nsIn K mainGlobals "require_field"=some (some (.ref a_require_field))
 a_require_things:Addr
 fd_require_things:FuncData
 d_require_things:Def K mg "require_things" s_require_things ["q","things"] a_require_things fd_require_things
 n_require_things:PySem.W.nsIn K mainGlobals "require_things"=some (some (.ref a_require_things))
 a_row_of:Addr
 fd_row_of:FuncData
 d_row_of:Def K mg "row_of" s_row_of ["q","number"] a_row_of fd_row_of
 n_row_of:PySem.W.nsIn K mainGlobals "row_of"=some (some (.ref a_row_of))
 a_number_of:Addr
 fd_number_of:FuncData
 d_number_of:Def K mg "number_of" s_number_of ["q","row"] a_number_of fd_number_of
 n_number_of:PySem.W.nsIn K mainGlobals "number_of"=some (some (.ref a_number_of))
 a_taken:Addr
 fd_taken:FuncData
 d_taken:Def K mg "taken" s_taken ["q","one","other"] a_taken fd_taken
 n_taken:PySem.W.nsIn K mainGlobals "taken"=some (some (.ref a_taken))
 a_row_where:Addr
 fd_row_where:FuncData
 d_row_where:Def K mg "row_where" s_row_where ["many","one","are_tied"] a_row_where fd_row_where
 n_row_where:PySem.W.nsIn K mainGlobals "row_where"=some (some (.ref a_row_where))
 a_web_where:Addr
 fd_web_where:FuncData
 d_web_where:Def K mg "web_where" s_web_where ["many","are_tied"] a_web_where fd_web_where
 n_web_where:PySem.W.nsIn K mainGlobals "web_where"=some (some (.ref a_web_where))
 a_added:Addr
 fd_added:FuncData
 d_added:Def K mg "added" s_added ["q","one","other"] a_added fd_added
 n_added:PySem.W.nsIn K mainGlobals "added"=some (some (.ref a_added))
 a_times_letter:Addr
 fd_times_letter:FuncData
 d_times_letter:Def K mg "times_letter" s_times_letter ["q","row"] a_times_letter fd_times_letter
 n_times_letter:PySem.W.nsIn K mainGlobals "times_letter"=some (some (.ref a_times_letter))
 a_multiplied:Addr
 fd_multiplied:FuncData
 d_multiplied:Def K mg "multiplied" s_multiplied ["q","one","other"] a_multiplied fd_multiplied
 n_multiplied:PySem.W.nsIn K mainGlobals "multiplied"=some (some (.ref a_multiplied))
 a_raised:Addr
 fd_raised:FuncData
 d_raised:Def K mg "raised" s_raised ["q","one","often"] a_raised fd_raised
 n_raised:PySem.W.nsIn K mainGlobals "raised"=some (some (.ref a_raised))
 a_divided:Addr
 fd_divided:FuncData
 d_divided:Def K mg "divided" s_divided ["q","one","other"] a_divided fd_divided
 n_divided:PySem.W.nsIn K mainGlobals "divided"=some (some (.ref a_divided))
 a_squares_in:Addr
 fd_squares_in:FuncData
 d_squares_in:Def K mg "squares_in" s_squares_in ["q"] a_squares_in fd_squares_in
 n_squares_in:PySem.W.nsIn K mainGlobals "squares_in"=some (some (.ref a_squares_in))
 a_root_in:Addr
 fd_root_in:FuncData
 d_root_in:Def K mg "root_in" s_root_in ["q","one"] a_root_in fd_root_in
 n_root_in:PySem.W.nsIn K mainGlobals "root_in"=some (some (.ref a_root_in))
 a_is_maker:Addr
 fd_is_maker:FuncData
 d_is_maker:Def K mg "is_maker" s_is_maker ["q","thing"] a_is_maker fd_is_maker
 n_is_maker:PySem.W.nsIn K mainGlobals "is_maker"=some (some (.ref a_is_maker))
 a_maker:Addr
 fd_maker:FuncData
 d_maker:Def K mg "maker" s_maker ["q"] a_maker fd_maker
 n_maker:PySem.W.nsIn K mainGlobals "maker"=some (some (.ref a_maker))
 a_field_web:Addr
 fd_field_web:FuncData
 d_field_web:Def K mg "field_web" s_field_web ["q"] a_field_web fd_field_web
 n_field_web:PySem.W.nsIn K mainGlobals "field_web"=some (some (.ref a_field_web))
 a_law_cell_at:Addr
 fd_law_cell_at:FuncData
 d_law_cell_at:Def K mg "_law_cell_at" s_law_cell_at ["script","k"] a_law_cell_at fd_law_cell_at
 n_law_cell_at:PySem.W.nsIn K mainGlobals "_law_cell_at"=some (some (.ref a_law_cell_at))
 a_law_pot:Addr
 fd_law_pot:FuncData
 d_law_pot:Def K mg "_law_pot" s_law_pot ["cell"] a_law_pot fd_law_pot
 n_law_pot:PySem.W.nsIn K mainGlobals "_law_pot"=some (some (.ref a_law_pot))
 a_law_take:Addr
 fd_law_take:FuncData
 d_law_take:Def K mg "_law_take" s_law_take ["pot","far"] a_law_take fd_law_take
 n_law_take:PySem.W.nsIn K mainGlobals "_law_take"=some (some (.ref a_law_take))
 a_law_kind_of:Addr
 fd_law_kind_of:FuncData
 d_law_kind_of:Def K mg "_law_kind_of" s_law_kind_of ["e"] a_law_kind_of fd_law_kind_of
 n_law_kind_of:PySem.W.nsIn K mainGlobals "_law_kind_of"=some (some (.ref a_law_kind_of))
 a_law_fields:Addr
 fd_law_fields:FuncData
 d_law_fields:Def K mg "_law_fields" s_law_fields [] a_law_fields fd_law_fields
 n_law_fields:PySem.W.nsIn K mainGlobals "_law_fields"=some (some (.ref a_law_fields))
 a_law_told:Addr
 fd_law_told:FuncData
 d_law_told:Def K mg "_law_told" s_law_told ["way","q","one","other"] a_law_told fd_law_told
 n_law_told:PySem.W.nsIn K mainGlobals "_law_told"=some (some (.ref a_law_told))
 a_law:Addr
 fd_law:FuncData
 d_law:Def K mg "law" s_law ["script"] a_law fd_law
 n_law:PySem.W.nsIn K mainGlobals "law"=some (some (.ref a_law))
 nb_ValueError:mg "ValueError"=none
 nb_bool:mg "bool"=none
 nb_int:mg "int"=none
 nb_isinstance:mg "isinstance"=none
 nb_len:mg "len"=none
 nb_max:mg "max"=none
 nb_min:mg "min"=none
 nb_range:mg "range"=none
 nb_reversed:mg "reversed"=none
 nb_set:mg "set"=none
 nb_sorted:mg "sorted"=none
 nb_tuple:mg "tuple"=none
 nb_zip:mg "zip"=none
 tc_field_web:Addr
 tp_field_web:Addr
 tb_field_web:PySem.W.tabIn K "field_web"=some (tc_field_web,tp_field_web)
 th_field_web:PySem.W.codeHdIn K tc_field_web tp_field_web=true
 tap:tabsApart K=true
 ad_FIELDS:Addr
 g_FIELDS:mg "FIELDS"=some (.ref ad_FIELDS)
 n_FIELDS:PySem.W.nsIn K mainGlobals "FIELDS"=some (some (.ref ad_FIELDS))
 t_FIELDS:dictIn K ad_FIELDS x_FIELDS=true
 c_NoWeb:Addr
 gc_NoWeb:mg "NoWeb"=some (.ref c_NoWeb)
 nc_NoWeb:PySem.W.nsIn K mainGlobals "NoWeb"=some (some (.ref c_NoWeb))
 c_NoText:Addr
 gc_NoText:mg "NoText"=some (.ref c_NoText)
 nc_NoText:PySem.W.nsIn K mainGlobals "NoText"=some (some (.ref c_NoText))
 c_NoNumbers:Addr
 gc_NoNumbers:mg "NoNumbers"=some (.ref c_NoNumbers)
 nc_NoNumbers:PySem.W.nsIn K mainGlobals "NoNumbers"=some (some (.ref c_NoNumbers))
 c_NoField:Addr
 gc_NoField:mg "NoField"=some (.ref c_NoField)
 nc_NoField:PySem.W.nsIn K mainGlobals "NoField"=some (some (.ref c_NoField))
 c_NoThing:Addr
 gc_NoThing:mg "NoThing"=some (.ref c_NoThing)
 nc_NoThing:PySem.W.nsIn K mainGlobals "NoThing"=some (some (.ref c_NoThing))
 c_NoSquare:Addr
 gc_NoSquare:mg "NoSquare"=some (.ref c_NoSquare)
 nc_NoSquare:PySem.W.nsIn K mainGlobals "NoSquare"=some (some (.ref c_NoSquare))
 c_NoPlaces:Addr
 gc_NoPlaces:mg "NoPlaces"=some (.ref c_NoPlaces)
 nc_NoPlaces:PySem.W.nsIn K mainGlobals "NoPlaces"=some (some (.ref c_NoPlaces))
 c_TooMany:Addr
 gc_TooMany:mg "TooMany"=some (.ref c_TooMany)
 nc_TooMany:PySem.W.nsIn K mainGlobals "TooMany"=some (some (.ref c_TooMany))
 c_NoName:Addr
 gc_NoName:mg "NoName"=some (.ref c_NoName)
 nc_NoName:PySem.W.nsIn K mainGlobals "NoName"=some (some (.ref c_NoName))
 c_NoDeed:Addr
 gc_NoDeed:mg "NoDeed"=some (.ref c_NoDeed)
 nc_NoDeed:PySem.W.nsIn K mainGlobals "NoDeed"=some (some (.ref c_NoDeed))
 c_NoRow:Addr
 gc_NoRow:mg "NoRow"=some (.ref c_NoRow)
 nc_NoRow:PySem.W.nsIn K mainGlobals "NoRow"=some (some (.ref c_NoRow))
 c_WebError:Addr
 gc_WebError:mg "WebError"=some (.ref c_WebError)
 nc_WebError:PySem.W.nsIn K mainGlobals "WebError"=some (some (.ref c_WebError))
 xc_NoField:XCls K mg "NoField" veMro "ValueError.__new__"
 xc_NoThing:XCls K mg "NoThing" veMro "ValueError.__new__"
 xtab:XTab K xcls
 xw:xwIn K xcls c_WebError=true
section
variable {P:Program} {w:World} {K:PySem.W.Frag} {mg:Str→Option Value} {base:Heap}
theorem sc_is_whole:FnScope ["thing"] ["thing"] (defScope s_is_whole):=⟨rfl,rfl,rfl,by decide +kernel,rfl,by decide +kernel,by decide +kernel⟩
theorem ok_is_whole (T:Tx K mg):FnOk P w K mg base CX0 1 T.a_is_whole T.fd_is_whole ["thing"] (spD K 1 m_is_whole) :=
 fn_ok (k:=0) T.d_is_whole.fn sc_is_whole rfl rfl fun cdv A outer s H E hr=>by
  show PSsd _ _ b_is_whole
  unfold b_is_whole
  exact (sd_one (sd_ret (pd_and (pd_callB cd_isi T.nb_isinstance boot_isinstance (pd_cons (pd_var 0) (pd_cons (pd_ty rfl T.nb_int boot_int) pd_nil))) (pd_one (pd_not (pd_callB cd_isi T.nb_isinstance boot_isinstance (pd_cons (pd_var 0) (pd_cons (pd_ty rfl T.nb_bool boot_bool) pd_nil))))))))
theorem sc_is_whole_within:FnScope ["thing","least","most"] ["thing","least","most"] (defScope s_is_whole_within):=⟨rfl,rfl,rfl,by decide +kernel,rfl,by decide +kernel,by decide +kernel⟩
theorem ok_is_whole_within (T:Tx K mg):FnOk P w K mg base CX0 2 T.a_is_whole_within T.fd_is_whole_within ["thing","least","most"] (spD K 3 m_is_whole_within) :=
 fn_ok (k:=1) T.d_is_whole_within.fn sc_is_whole_within rfl rfl fun cdv A outer s H E hr=>by
  show PSsd _ _ b_is_whole_within
  unfold b_is_whole_within
  exact (sd_one (sd_ret (pd_and (pd_fn T.d_is_whole (ok_is_whole T) (hr.mono (by decide)) (pd_cons (pd_var 0) pd_nil)) (pd_one (pd_chain od_le od_le (pd_var 1) (pd_var 0) (pd_var 2))))))
theorem sc_is_field:FnScope ["thing"] ["thing"] (defScope s_is_field):=⟨rfl,rfl,rfl,by decide +kernel,rfl,by decide +kernel,by decide +kernel⟩
theorem ok_is_field (T:Tx K mg):FnOk P w K mg base CX0 2 T.a_is_field T.fd_is_field ["thing"] (spD K 1 m_is_field) :=
 fn_ok (k:=1) T.d_is_field.fn sc_is_field rfl rfl fun cdv A outer s H E hr=>by
  show PSsd _ _ b_is_field
  unfold b_is_field
  exact (sd_one (sd_ret (pd_and (pd_fn T.d_is_whole (ok_is_whole T) (hr.mono (by decide)) (pd_cons (pd_var 0) pd_nil)) (pd_one (pd_cmp (od_inF T.n_FIELDS T.t_FIELDS) (pd_var 0) (pd_gname T.g_FIELDS T.n_FIELDS))))))
theorem sc_require_field:FnScope ["thing"] ["thing"] (defScope s_require_field):=⟨rfl,rfl,rfl,by decide +kernel,rfl,by decide +kernel,by decide +kernel⟩
theorem ok_require_field (T:Tx K mg):FnOk P w K mg base CX0 3 T.a_require_field T.fd_require_field ["thing"] (spD K 1 m_require_field) :=
 fn_ok (k:=2) T.d_require_field.fn sc_require_field rfl rfl fun cdv A outer s H E hr=>by
  show PSsd _ _ b_require_field
  unfold b_require_field
  exact (sd_one (sd_if (pd_notT (pd_bool (pd_fn T.d_is_field (ok_is_field T) (hr.mono (by decide)) (pd_cons (pd_var 0) pd_nil)))) (sd_one sd_never) sd_nil))
theorem okx_require_field (T:Tx K mg):FnOk P w K mg base (CXE P w K) 3 T.a_require_field T.fd_require_field ["thing"] (spX K 1 x_require_field) :=
 fn_raises (k:=2) T.d_require_field.fn sc_require_field rfl rfl fun cdv A outer s H E hr=>by
  show PSsx _ _ _ bx_require_field
  unfold bx_require_field
  exact (xd_here (xd_if (pd_notT (pd_bool (pd_fn T.d_is_field (ok_is_field T) (hr.mono (by decide)) (pd_cons (pd_var 0) pd_nil)))) (xd_here (xd_raise T.xc_NoField F.excBase_ValueError)) xd_none))
theorem sc_require_things:FnScope ["q","things","thing"] ["q","things"] (defScope s_require_things):=⟨rfl,rfl,rfl,by decide +kernel,rfl,by decide +kernel,by decide +kernel⟩
theorem ok_require_things (T:Tx K mg):FnOk P w K mg base CX0 4 T.a_require_things T.fd_require_things ["q","things"] (spD K 2 m_require_things) :=
 fn_ok (k:=3) T.d_require_things.fn sc_require_things rfl rfl fun cdv A outer s H E hr=>by
  show PSsd _ _ b_require_things
  unfold b_require_things
  refine sd_cons (sd_drop (pd_fn T.d_require_field (ok_require_field T) (hr.mono (by decide)) (pd_cons (pd_var 0) pd_nil))) ?_
  exact (sd_one (sd_for (id_tup (pd_var 1)) (gd_name (i:=2) (hN:=sc_require_things.nd)) (sd_one (sd_if (pd_notT (pd_bool (pd_fn T.d_is_whole_within (ok_is_whole_within T) (hr.mono (by decide)) (pd_cons (pd_var 2) (pd_cons pd_int (pd_cons (pd_bin od_sub (pd_var 0) pd_int) pd_nil)))))) (sd_one sd_never) sd_nil))))
theorem okx_require_things (T:Tx K mg):FnOk P w K mg base (CXE P w K) 4 T.a_require_things T.fd_require_things ["q","things"] (spX K 2 x_require_things) :=
 fn_raises (k:=3) T.d_require_things.fn sc_require_things rfl rfl fun cdv A outer s H E hr=>by
  show PSsx _ _ _ bx_require_things
  unfold bx_require_things
  exact (xd_or (xd_here (xd_expr (xd_call T.d_require_field (okx_require_field T) (hr.mono (by decide)) (pd_cons (pd_var 0) pd_nil)))) (xd_cons (sd_drop (pd_fn T.d_require_field (ok_require_field T) (hr.mono (by decide)) (pd_cons (pd_var 0) pd_nil))) (xd_here (xd_for (id_tup (pd_var 1)) (gd_name (i:=2) (hN:=sc_require_things.nd)) (sd_one (sd_if (pd_notT (pd_bool (pd_fn T.d_is_whole_within (ok_is_whole_within T) (hr.mono (by decide)) (pd_cons (pd_var 2) (pd_cons pd_int (pd_cons (pd_bin od_sub (pd_var 0) pd_int) pd_nil)))))) (sd_one sd_never) sd_nil)) (xd_here (xd_if (pd_notT (pd_bool (pd_fn T.d_is_whole_within (ok_is_whole_within T) (hr.mono (by decide)) (pd_cons (pd_var 2) (pd_cons pd_int (pd_cons (pd_bin od_sub (pd_var 0) pd_int) pd_nil)))))) (xd_here (xd_raise T.xc_NoThing F.excBase_ValueError)) xd_none))))))
theorem sc_row_of:FnScope ["q","number","p","row","left","power"] ["q","number"] (defScope s_row_of):=⟨rfl,rfl,rfl,by decide +kernel,rfl,by decide +kernel,by decide +kernel⟩
theorem ok_row_of (T:Tx K mg):FnOk P w K mg base CX0 1 T.a_row_of T.fd_row_of ["q","number"] (spD K 2 m_row_of) :=
 fn_ok (k:=0) T.d_row_of.fn sc_row_of rfl rfl fun cdv A outer s H E hr=>by
  show PSsd _ _ b_row_of
  unfold b_row_of
  refine sd_cons (sd_set (i:=2) (pd_fld T.g_FIELDS T.t_FIELDS (pd_var 0)) (hN:=sc_row_of.nd)) ?_
  refine sd_cons (sd_set (i:=3) (pd_lstM pd_nil) (hN:=sc_row_of.nd)) ?_
  refine sd_cons (sd_set (i:=4) (pd_var 1) (hN:=sc_row_of.nd)) ?_
  refine sd_cons (sd_for (id_rng1 (pd_cons (pd_fld T.g_FIELDS T.t_FIELDS (pd_var 0)) pd_nil) T.nb_range) (gd_name (i:=5) (hN:=sc_row_of.nd)) (sd_cons (sd_drop (pd_append (pd_var 3) (pd_bin od_mod (pd_var 4) (pd_var 2)))) (sd_one (sd_set (i:=4) (pd_bin od_div (pd_var 4) (pd_var 2)) (hN:=sc_row_of.nd))))) ?_
  exact (sd_one (sd_ret (pd_var 3)))
theorem sc_number_of:FnScope ["q","row","p","number","digit"] ["q","row"] (defScope s_number_of):=⟨rfl,rfl,rfl,by decide +kernel,rfl,by decide +kernel,by decide +kernel⟩
theorem ok_number_of (T:Tx K mg):FnOk P w K mg base CX0 1 T.a_number_of T.fd_number_of ["q","row"] (spD K 2 m_number_of) :=
 fn_ok (k:=0) T.d_number_of.fn sc_number_of rfl rfl fun cdv A outer s H E hr=>by
  show PSsd _ _ b_number_of
  unfold b_number_of
  refine sd_cons (sd_set (i:=2) (pd_fld T.g_FIELDS T.t_FIELDS (pd_var 0)) (hN:=sc_number_of.nd)) ?_
  refine sd_cons (sd_set (i:=3) pd_int (hN:=sc_number_of.nd)) ?_
  refine sd_cons (sd_for (id_rev (pd_cons (pd_var 1) pd_nil) T.nb_reversed) (gd_name (i:=4) (hN:=sc_number_of.nd)) (sd_one (sd_set (i:=3) (pd_bin od_add (pd_bin od_mul (pd_var 3) (pd_var 2)) (pd_bin od_mod (pd_var 4) (pd_var 2))) (hN:=sc_number_of.nd)))) ?_
  exact (sd_one (sd_ret (pd_var 3)))
theorem sc_taken:FnScope ["q","one","other"] ["q","one","other"] (defScope s_taken):=⟨rfl,rfl,rfl,by decide +kernel,rfl,by decide +kernel,by decide +kernel⟩
theorem ok_taken (T:Tx K mg):FnOk P w K mg base CX0 5 T.a_taken T.fd_taken ["q","one","other"] (spD K 3 m_taken) :=
 fn_ok (k:=4) T.d_taken.fn sc_taken rfl rfl fun cdv A outer s H E hr=>by
  show PSsd _ _ b_taken
  unfold b_taken
  refine sd_cons (sd_drop (pd_fn T.d_require_things (ok_require_things T) (hr.mono (by decide)) (pd_cons (pd_var 0) (pd_cons (pd_tup (pd_cons (pd_var 1) (pd_cons (pd_var 2) pd_nil))) pd_nil)))) ?_
  exact (sd_one (sd_ret (pd_fn T.d_number_of (ok_number_of T) (hr.mono (by decide)) (pd_cons (pd_var 0) (pd_cons (pd_comp (N':=["x","y"]) (pick:=[none,none]) (CompScope.of rfl rfl) (id_zip2 (pd_cons (pd_fn T.d_row_of (ok_row_of T) (hr.mono (by decide)) (pd_cons (pd_var 0) (pd_cons (pd_var 1) pd_nil))) (pd_cons (pd_fn T.d_row_of (ok_row_of T) (hr.mono (by decide)) (pd_cons (pd_var 0) (pd_cons (pd_var 2) pd_nil))) pd_nil)) T.nb_zip) (fun _ _ _ _ _ _=>(gd_tup (n:=2) (gds_cons (gd_name (i:=0) (hN:=(by decide +kernel:List.Nodup (["x","y"]:List Str)))) (gds_cons (gd_name (i:=1) (hN:=(by decide +kernel:List.Nodup (["x","y"]:List Str)))) gds_nil)))) (fun _ _ _ _ _ _=>pifd_nil) (fun _ _ _ _ _ _=>(pd_bin od_sub (pd_var 0) (pd_var 1)))) pd_nil)))))
theorem okx_taken (T:Tx K mg):FnOk P w K mg base (CXE P w K) 5 T.a_taken T.fd_taken ["q","one","other"] (spX K 3 x_taken) :=
 fn_raises (k:=4) T.d_taken.fn sc_taken rfl rfl fun cdv A outer s H E hr=>by
  show PSsx _ _ _ bx_taken
  unfold bx_taken
  exact (xd_here (xd_expr (xd_call T.d_require_things (okx_require_things T) (hr.mono (by decide)) (pd_cons (pd_var 0) (pd_cons (pd_tup (pd_cons (pd_var 1) (pd_cons (pd_var 2) pd_nil))) pd_nil)))))
theorem ok_lam0 (T:Tx K mg):LamOk P w K mg base 6 E_lam0 ["squares","q"] 2 (spD K (2 + 2) (lamD l_lam0)):=by
 with_unfolding_all refine lamD_ok (k:=5) (ps:=["one","other"]) (ns:=["squares","q"]) (d:=l_lam0) (LamBody.of rfl rfl rfl (by decide +kernel)) (fun q cl pm cdv ct us hl=>match us,hl with | [_,_],_=>rfl) fun q f cd cl A outer s H hr=>?_
 show PEd _ _ l_lam0
 unfold l_lam0
 exact (pd_cmp (od_in (hu64 hr)) (pd_fn T.d_taken (ok_taken T) (hr.mono (by decide)) (pd_cons (pd_var 3) (pd_cons (pd_var 0) (pd_cons (pd_var 1) pd_nil)))) (pd_var 2))
theorem ok_lams (T:Tx K mg) {A:Around} (hr:Room 6 A):∀ t∈lams,∃ k,LamOk P w K mg base k t.1 t.2.1 2 (spD K (2 + t.2.1.length) t.2.2)∧Room k A:=by
 intro t ht
 unfold lams at ht
 simp only [List.mem_cons,List.not_mem_nil,or_false] at ht
 rcases ht with rfl
 ·exact ⟨_,ok_lam0 T,hr.mono (by decide)⟩
theorem sc_row_where:FnScope ["many","one","are_tied"] ["many","one","are_tied"] (defScope s_row_where):=⟨rfl,rfl,rfl,by decide +kernel,rfl,by decide +kernel,by decide +kernel⟩
theorem ok_row_where (T:Tx K mg):FnOk P w K mg base CX0 7 T.a_row_where T.fd_row_where ["many","one","are_tied"] (spD K 3 m_row_where) :=
 fn_ok (k:=6) T.d_row_where.fn sc_row_where rfl rfl fun cdv A outer s H E hr=>by
  show PSsd _ _ b_row_where
  unfold b_row_where
  exact (sd_one (sd_ret (pd_callTy cd_tuple T.nb_tuple boot_tuple (pd_cons (pd_comp (N':=["other","one","are_tied"]) (pick:=[none,some 1,some 2]) (CompScope.of rfl rfl) (id_rng1 (pd_cons (pd_var 0) pd_nil) T.nb_range) (fun _ _ _ _ _ _=>(gd_name (i:=0) (hN:=(by decide +kernel:List.Nodup (["other","one","are_tied"]:List Str))))) (fun _ _ _ _ _ _=>(pifd_one (PW.pt (pd_andT (pd_cmpT od_ne (pd_var 0) (pd_var 1)) (pd_and1 (pd_bool (pd_callL 2 (ok_lams T (hr.mono (by decide))) (pd_cons (pd_var 1) (pd_cons (pd_var 0) pd_nil))))))))) (fun _ _ _ _ _ _=>(pd_var 0))) pd_nil))))
theorem sc_web_where:FnScope ["many","are_tied"] ["many","are_tied"] (defScope s_web_where):=⟨rfl,rfl,rfl,by decide +kernel,rfl,by decide +kernel,by decide +kernel⟩
theorem ok_web_where (T:Tx K mg):FnOk P w K mg base CX0 8 T.a_web_where T.fd_web_where ["many","are_tied"] (spD K 2 m_web_where) :=
 fn_ok (k:=7) T.d_web_where.fn sc_web_where rfl rfl fun cdv A outer s H E hr=>by
  show PSsd _ _ b_web_where
  unfold b_web_where
  exact (sd_one (sd_ret (pd_callTy cd_tuple T.nb_tuple boot_tuple (pd_cons (pd_comp (N':=["one","many","are_tied"]) (pick:=[none,some 0,some 1]) (CompScope.of rfl rfl) (id_rng1 (pd_cons (pd_var 0) pd_nil) T.nb_range) (fun _ _ _ _ _ _=>(gd_name (i:=0) (hN:=(by decide +kernel:List.Nodup (["one","many","are_tied"]:List Str))))) (fun _ _ _ _ _ _=>pifd_nil) (fun _ _ _ _ _ _=>(pd_fn T.d_row_where (ok_row_where T) (hr.mono (by decide)) (pd_cons (pd_var 1) (pd_cons (pd_var 0) (pd_cons (pd_var 2) pd_nil)))))) pd_nil))))
theorem sc_added:FnScope ["q","one","other"] ["q","one","other"] (defScope s_added):=⟨rfl,rfl,rfl,by decide +kernel,rfl,by decide +kernel,by decide +kernel⟩
theorem ok_added (T:Tx K mg):FnOk P w K mg base CX0 5 T.a_added T.fd_added ["q","one","other"] (spD K 3 m_added) :=
 fn_ok (k:=4) T.d_added.fn sc_added rfl rfl fun cdv A outer s H E hr=>by
  show PSsd _ _ b_added
  unfold b_added
  refine sd_cons (sd_drop (pd_fn T.d_require_things (ok_require_things T) (hr.mono (by decide)) (pd_cons (pd_var 0) (pd_cons (pd_tup (pd_cons (pd_var 1) (pd_cons (pd_var 2) pd_nil))) pd_nil)))) ?_
  exact (sd_one (sd_ret (pd_fn T.d_number_of (ok_number_of T) (hr.mono (by decide)) (pd_cons (pd_var 0) (pd_cons (pd_comp (N':=["x","y"]) (pick:=[none,none]) (CompScope.of rfl rfl) (id_zip2 (pd_cons (pd_fn T.d_row_of (ok_row_of T) (hr.mono (by decide)) (pd_cons (pd_var 0) (pd_cons (pd_var 1) pd_nil))) (pd_cons (pd_fn T.d_row_of (ok_row_of T) (hr.mono (by decide)) (pd_cons (pd_var 0) (pd_cons (pd_var 2) pd_nil))) pd_nil)) T.nb_zip) (fun _ _ _ _ _ _=>(gd_tup (n:=2) (gds_cons (gd_name (i:=0) (hN:=(by decide +kernel:List.Nodup (["x","y"]:List Str)))) (gds_cons (gd_name (i:=1) (hN:=(by decide +kernel:List.Nodup (["x","y"]:List Str)))) gds_nil)))) (fun _ _ _ _ _ _=>pifd_nil) (fun _ _ _ _ _ _=>(pd_bin od_add (pd_var 0) (pd_var 1)))) pd_nil)))))
theorem okx_added (T:Tx K mg):FnOk P w K mg base (CXE P w K) 5 T.a_added T.fd_added ["q","one","other"] (spX K 3 x_added) :=
 fn_raises (k:=4) T.d_added.fn sc_added rfl rfl fun cdv A outer s H E hr=>by
  show PSsx _ _ _ bx_added
  unfold bx_added
  exact (xd_here (xd_expr (xd_call T.d_require_things (okx_require_things T) (hr.mono (by decide)) (pd_cons (pd_var 0) (pd_cons (pd_tup (pd_cons (pd_var 1) (pd_cons (pd_var 2) pd_nil))) pd_nil)))))
theorem sc_times_letter:FnScope ["q","row","low"] ["q","row"] (defScope s_times_letter):=⟨rfl,rfl,rfl,by decide +kernel,rfl,by decide +kernel,by decide +kernel⟩
theorem ok_times_letter (T:Tx K mg):FnOk P w K mg base CX0 2 T.a_times_letter T.fd_times_letter ["q","row"] (spD K 2 m_times_letter) :=
 fn_ok (k:=1) T.d_times_letter.fn sc_times_letter rfl rfl fun cdv A outer s H E hr=>by
  show PSsd _ _ b_times_letter
  unfold b_times_letter
  refine sd_cons (sd_set (i:=2) (pd_fn T.d_row_of (ok_row_of T) (hr.mono (by decide)) (pd_cons (pd_var 0) (pd_cons (pd_fld T.g_FIELDS T.t_FIELDS (pd_var 0)) pd_nil))) (hN:=sc_times_letter.nd)) ?_
  exact (sd_one (sd_ret (pd_comp (N':=["below","digit","row"]) (pick:=[none,none,some 1]) (CompScope.of rfl rfl) (id_zip2 (pd_cons (pd_bin od_cat (pd_lst (pd_cons pd_int pd_nil)) (pd_var 1)) (pd_cons (pd_var 2) pd_nil)) T.nb_zip) (fun _ _ _ _ _ _=>(gd_tup (n:=2) (gds_cons (gd_name (i:=0) (hN:=(by decide +kernel:List.Nodup (["below","digit","row"]:List Str)))) (gds_cons (gd_name (i:=1) (hN:=(by decide +kernel:List.Nodup (["below","digit","row"]:List Str)))) gds_nil)))) (fun _ _ _ _ _ _=>pifd_nil) (fun _ _ _ _ _ _=>(pd_bin od_sub (pd_var 0) (pd_bin od_mul (pd_ix id_seq (pd_var 2) (pd_un ud_neg pd_int)) (pd_var 1)))))))
theorem sc_multiplied:FnScope ["q","one","other","row","product","digit"] ["q","one","other"] (defScope s_multiplied):=⟨rfl,rfl,rfl,by decide +kernel,rfl,by decide +kernel,by decide +kernel⟩
theorem ok_multiplied (T:Tx K mg):FnOk P w K mg base CX0 5 T.a_multiplied T.fd_multiplied ["q","one","other"] (spD K 3 m_multiplied) :=
 fn_ok (k:=4) T.d_multiplied.fn sc_multiplied rfl rfl fun cdv A outer s H E hr=>by
  show PSsd _ _ b_multiplied
  unfold b_multiplied
  refine sd_cons (sd_drop (pd_fn T.d_require_things (ok_require_things T) (hr.mono (by decide)) (pd_cons (pd_var 0) (pd_cons (pd_tup (pd_cons (pd_var 1) (pd_cons (pd_var 2) pd_nil))) pd_nil)))) ?_
  refine sd_cons (sd_set (i:=3) (pd_fn T.d_row_of (ok_row_of T) (hr.mono (by decide)) (pd_cons (pd_var 0) (pd_cons (pd_var 2) pd_nil))) (hN:=sc_multiplied.nd)) ?_
  refine sd_cons (sd_set (i:=4) (pd_bin od_rep (pd_lst (pd_cons pd_int pd_nil)) (pd_callB cd_len T.nb_len boot_len (pd_cons (pd_var 3) pd_nil))) (hN:=sc_multiplied.nd)) ?_
  refine sd_cons (sd_for (id_rev (pd_cons (pd_fn T.d_row_of (ok_row_of T) (hr.mono (by decide)) (pd_cons (pd_var 0) (pd_cons (pd_var 1) pd_nil))) pd_nil) T.nb_reversed) (gd_name (i:=5) (hN:=sc_multiplied.nd)) (sd_one (sd_setComp (i:=4) (hN:=sc_multiplied.nd) (N':=["x","y","digit"]) (pick:=[none,none,some 5]) (CompScope.of rfl rfl) (id_zip2 (pd_cons (pd_fn T.d_times_letter (ok_times_letter T) (hr.mono (by decide)) (pd_cons (pd_var 0) (pd_cons (pd_var 4) pd_nil))) (pd_cons (pd_var 3) pd_nil)) T.nb_zip) (fun _ _ _ _ _ _=>(gd_tup (n:=2) (gds_cons (gd_name (i:=0) (hN:=(by decide +kernel:List.Nodup (["x","y","digit"]:List Str)))) (gds_cons (gd_name (i:=1) (hN:=(by decide +kernel:List.Nodup (["x","y","digit"]:List Str)))) gds_nil)))) (fun _ _ _ _ _ _=>pifd_nil) (fun _ _ _ _ _ _=>(pd_bin od_add (pd_var 0) (pd_bin od_mul (pd_var 2) (pd_var 1))))))) ?_
  exact (sd_one (sd_ret (pd_fn T.d_number_of (ok_number_of T) (hr.mono (by decide)) (pd_cons (pd_var 0) (pd_cons (pd_var 4) pd_nil)))))
theorem okx_multiplied (T:Tx K mg):FnOk P w K mg base (CXE P w K) 5 T.a_multiplied T.fd_multiplied ["q","one","other"] (spX K 3 x_multiplied) :=
 fn_raises (k:=4) T.d_multiplied.fn sc_multiplied rfl rfl fun cdv A outer s H E hr=>by
  show PSsx _ _ _ bx_multiplied
  unfold bx_multiplied
  exact (xd_here (xd_expr (xd_call T.d_require_things (okx_require_things T) (hr.mono (by decide)) (pd_cons (pd_var 0) (pd_cons (pd_tup (pd_cons (pd_var 1) (pd_cons (pd_var 2) pd_nil))) pd_nil)))))
theorem sc_raised:FnScope ["q","one","often","product","step"] ["q","one","often"] (defScope s_raised):=⟨rfl,rfl,rfl,by decide +kernel,rfl,by decide +kernel,by decide +kernel⟩
theorem ok_raised (T:Tx K mg):FnOk P w K mg base CX0 6 T.a_raised T.fd_raised ["q","one","often"] (spD K 3 m_raised) :=
 fn_ok (k:=5) T.d_raised.fn sc_raised rfl rfl fun cdv A outer s H E hr=>by
  show PSsd _ _ b_raised
  unfold b_raised
  refine sd_cons (sd_drop (pd_fn T.d_require_things (ok_require_things T) (hr.mono (by decide)) (pd_cons (pd_var 0) (pd_cons (pd_tup (pd_cons (pd_var 1) pd_nil)) pd_nil)))) ?_
  refine sd_cons (sd_if (pd_cmpT od_eq (pd_var 1) pd_int) (sd_one (sd_ret (pd_ifE (pd_cmpT od_eq (pd_var 2) pd_int) pd_int pd_int))) sd_nil) ?_
  refine sd_cons (sd_set (i:=3) pd_int (hN:=sc_raised.nd)) ?_
  refine sd_cons (sd_for (id_rng1 (pd_cons (pd_bin od_mod (pd_var 2) (pd_bin od_sub (pd_var 0) pd_int)) pd_nil) T.nb_range) (gd_name (i:=4) (hN:=sc_raised.nd)) (sd_one (sd_set (i:=3) (pd_fn T.d_multiplied (ok_multiplied T) (hr.mono (by decide)) (pd_cons (pd_var 0) (pd_cons (pd_var 3) (pd_cons (pd_var 1) pd_nil)))) (hN:=sc_raised.nd)))) ?_
  exact (sd_one (sd_ret (pd_var 3)))
theorem okx_raised (T:Tx K mg):FnOk P w K mg base (CXE P w K) 6 T.a_raised T.fd_raised ["q","one","often"] (spX K 3 x_raised) :=
 fn_raises (k:=5) T.d_raised.fn sc_raised rfl rfl fun cdv A outer s H E hr=>by
  show PSsx _ _ _ bx_raised
  unfold bx_raised
  exact (xd_or (xd_here (xd_expr (xd_call T.d_require_things (okx_require_things T) (hr.mono (by decide)) (pd_cons (pd_var 0) (pd_cons (pd_tup (pd_cons (pd_var 1) pd_nil)) pd_nil))))) (xd_cons (sd_drop (pd_fn T.d_require_things (ok_require_things T) (hr.mono (by decide)) (pd_cons (pd_var 0) (pd_cons (pd_tup (pd_cons (pd_var 1) pd_nil)) pd_nil)))) (xd_cons (sd_if (pd_cmpT od_eq (pd_var 1) pd_int) (sd_one (sd_ret (pd_ifE (pd_cmpT od_eq (pd_var 2) pd_int) pd_int pd_int))) sd_nil) (xd_cons (sd_set (i:=3) pd_int (hN:=sc_raised.nd)) (xd_here (xd_for (id_rng1 (pd_cons (pd_bin od_mod (pd_var 2) (pd_bin od_sub (pd_var 0) pd_int)) pd_nil) T.nb_range) (gd_name (i:=4) (hN:=sc_raised.nd)) (sd_one (sd_set (i:=3) (pd_fn T.d_multiplied (ok_multiplied T) (hr.mono (by decide)) (pd_cons (pd_var 0) (pd_cons (pd_var 3) (pd_cons (pd_var 1) pd_nil)))) (hN:=sc_raised.nd))) (xd_here (xd_set (i:=3) (xd_call T.d_multiplied (okx_multiplied T) (hr.mono (by decide)) (pd_cons (pd_var 0) (pd_cons (pd_var 3) (pd_cons (pd_var 1) pd_nil)))) (hN:=sc_raised.nd)))))))))
theorem sc_divided:FnScope ["q","one","other"] ["q","one","other"] (defScope s_divided):=⟨rfl,rfl,rfl,by decide +kernel,rfl,by decide +kernel,by decide +kernel⟩
theorem ok_divided (T:Tx K mg):FnOk P w K mg base CX0 7 T.a_divided T.fd_divided ["q","one","other"] (spD K 3 m_divided) :=
 fn_ok (k:=6) T.d_divided.fn sc_divided rfl rfl fun cdv A outer s H E hr=>by
  show PSsd _ _ b_divided
  unfold b_divided
  refine sd_cons (sd_drop (pd_fn T.d_require_things (ok_require_things T) (hr.mono (by decide)) (pd_cons (pd_var 0) (pd_cons (pd_tup (pd_cons (pd_var 1) (pd_cons (pd_var 2) pd_nil))) pd_nil)))) ?_
  refine sd_cons (sd_if (pd_cmpT od_eq (pd_var 2) pd_int) (sd_one sd_never) sd_nil) ?_
  exact (sd_one (sd_ret (pd_fn T.d_multiplied (ok_multiplied T) (hr.mono (by decide)) (pd_cons (pd_var 0) (pd_cons (pd_var 1) (pd_cons (pd_fn T.d_raised (ok_raised T) (hr.mono (by decide)) (pd_cons (pd_var 0) (pd_cons (pd_var 2) (pd_cons (pd_bin od_sub (pd_var 0) pd_int) pd_nil)))) pd_nil))))))
theorem okx_divided (T:Tx K mg):FnOk P w K mg base (CXE P w K) 7 T.a_divided T.fd_divided ["q","one","other"] (spX K 3 x_divided) :=
 fn_raises (k:=6) T.d_divided.fn sc_divided rfl rfl fun cdv A outer s H E hr=>by
  show PSsx _ _ _ bx_divided
  unfold bx_divided
  exact (xd_or (xd_here (xd_expr (xd_call T.d_require_things (okx_require_things T) (hr.mono (by decide)) (pd_cons (pd_var 0) (pd_cons (pd_tup (pd_cons (pd_var 1) (pd_cons (pd_var 2) pd_nil))) pd_nil))))) (xd_cons (sd_drop (pd_fn T.d_require_things (ok_require_things T) (hr.mono (by decide)) (pd_cons (pd_var 0) (pd_cons (pd_tup (pd_cons (pd_var 1) (pd_cons (pd_var 2) pd_nil))) pd_nil)))) (xd_or (xd_here (xd_if (pd_cmpT od_eq (pd_var 2) pd_int) (xd_here (xd_raise T.xc_NoThing F.excBase_ValueError)) xd_none)) (xd_cons (sd_if (pd_cmpT od_eq (pd_var 2) pd_int) (sd_one sd_never) sd_nil) (xd_here (xd_ret (xd_call T.d_multiplied (okx_multiplied T) (hr.mono (by decide)) (pd_cons (pd_var 0) (pd_cons (pd_var 1) (pd_cons (pd_fn T.d_raised (ok_raised T) (hr.mono (by decide)) (pd_cons (pd_var 0) (pd_cons (pd_var 2) (pd_cons (pd_bin od_sub (pd_var 0) pd_int) pd_nil)))) pd_nil))))))))))
theorem sc_squares_in:FnScope ["q"] ["q"] (defScope s_squares_in):=⟨rfl,rfl,rfl,by decide +kernel,rfl,by decide +kernel,by decide +kernel⟩
theorem ok_squares_in (T:Tx K mg):FnOk P w K mg base CX0 6 T.a_squares_in T.fd_squares_in ["q"] (spD K 1 m_squares_in) :=
 fn_ok (k:=5) T.d_squares_in.fn sc_squares_in rfl rfl fun cdv A outer s H E hr=>by
  show PSsd _ _ b_squares_in
  unfold b_squares_in
  refine sd_cons (sd_drop (pd_fn T.d_require_field (ok_require_field T) (hr.mono (by decide)) (pd_cons (pd_var 0) pd_nil))) ?_
  exact (sd_one (sd_ret (pd_sortset (pd_cons (pd_comp (N':=["thing","q"]) (pick:=[none,some 0]) (CompScope.of rfl rfl) (id_rng2 (pd_cons pd_int (pd_cons (pd_var 0) pd_nil)) T.nb_range) (fun _ _ _ _ _ _=>(gd_name (i:=0) (hN:=(by decide +kernel:List.Nodup (["thing","q"]:List Str))))) (fun _ _ _ _ _ _=>pifd_nil) (fun _ _ _ _ _ _=>(pd_fn T.d_multiplied (ok_multiplied T) (hr.mono (by decide)) (pd_cons (pd_var 1) (pd_cons (pd_var 0) (pd_cons (pd_var 0) pd_nil)))))) pd_nil) T.nb_sorted T.nb_set)))
theorem okx_squares_in (T:Tx K mg):FnOk P w K mg base (CXE P w K) 6 T.a_squares_in T.fd_squares_in ["q"] (spX K 1 x_squares_in) :=
 fn_raises (k:=5) T.d_squares_in.fn sc_squares_in rfl rfl fun cdv A outer s H E hr=>by
  show PSsx _ _ _ bx_squares_in
  unfold bx_squares_in
  exact (xd_here (xd_expr (xd_call T.d_require_field (okx_require_field T) (hr.mono (by decide)) (pd_cons (pd_var 0) pd_nil))))
theorem sc_root_in:FnScope ["q","one","thing"] ["q","one"] (defScope s_root_in):=⟨rfl,rfl,rfl,by decide +kernel,rfl,by decide +kernel,by decide +kernel⟩
theorem ok_root_in (T:Tx K mg):FnOk P w K mg base CX0 6 T.a_root_in T.fd_root_in ["q","one"] (spD K 2 m_root_in) :=
 fn_ok (k:=5) T.d_root_in.fn sc_root_in rfl rfl fun cdv A outer s H E hr=>by
  show PSsd _ _ b_root_in
  unfold b_root_in
  refine sd_cons (sd_drop (pd_fn T.d_require_things (ok_require_things T) (hr.mono (by decide)) (pd_cons (pd_var 0) (pd_cons (pd_tup (pd_cons (pd_var 1) pd_nil)) pd_nil)))) ?_
  refine sd_cons (sd_for (id_rng1 (pd_cons (pd_var 0) pd_nil) T.nb_range) (gd_name (i:=2) (hN:=sc_root_in.nd)) (sd_one (sd_if (pd_cmpT od_eq (pd_fn T.d_multiplied (ok_multiplied T) (hr.mono (by decide)) (pd_cons (pd_var 0) (pd_cons (pd_var 2) (pd_cons (pd_var 2) pd_nil)))) (pd_var 1)) (sd_one (sd_ret (pd_var 2))) sd_nil))) ?_
  exact (sd_one (sd_ret pd_non))
theorem okx_root_in (T:Tx K mg):FnOk P w K mg base (CXE P w K) 6 T.a_root_in T.fd_root_in ["q","one"] (spX K 2 x_root_in) :=
 fn_raises (k:=5) T.d_root_in.fn sc_root_in rfl rfl fun cdv A outer s H E hr=>by
  show PSsx _ _ _ bx_root_in
  unfold bx_root_in
  exact (xd_or (xd_here (xd_expr (xd_call T.d_require_things (okx_require_things T) (hr.mono (by decide)) (pd_cons (pd_var 0) (pd_cons (pd_tup (pd_cons (pd_var 1) pd_nil)) pd_nil))))) (xd_cons (sd_drop (pd_fn T.d_require_things (ok_require_things T) (hr.mono (by decide)) (pd_cons (pd_var 0) (pd_cons (pd_tup (pd_cons (pd_var 1) pd_nil)) pd_nil)))) (xd_here (xd_for (id_rng1 (pd_cons (pd_var 0) pd_nil) T.nb_range) (gd_name (i:=2) (hN:=sc_root_in.nd)) (sd_one (sd_if (pd_cmpT od_eq (pd_fn T.d_multiplied (ok_multiplied T) (hr.mono (by decide)) (pd_cons (pd_var 0) (pd_cons (pd_var 2) (pd_cons (pd_var 2) pd_nil)))) (pd_var 1)) (sd_one (sd_ret (pd_var 2))) sd_nil)) (xd_here (xd_ift (xt_cmp od_eq (xd_call T.d_multiplied (okx_multiplied T) (hr.mono (by decide)) (pd_cons (pd_var 0) (pd_cons (pd_var 2) (pd_cons (pd_var 2) pd_nil)))) (pd_var 1))))))))
theorem sc_is_maker:FnScope ["q","thing","powers","step"] ["q","thing"] (defScope s_is_maker):=⟨rfl,rfl,rfl,by decide +kernel,rfl,by decide +kernel,by decide +kernel⟩
theorem ok_is_maker (T:Tx K mg):FnOk P w K mg base CX0 6 T.a_is_maker T.fd_is_maker ["q","thing"] (spD K 2 m_is_maker) :=
 fn_ok (k:=5) T.d_is_maker.fn sc_is_maker rfl rfl fun cdv A outer s H E hr=>by
  show PSsd _ _ b_is_maker
  unfold b_is_maker
  refine sd_cons (sd_set (i:=2) (pd_lstM (pd_cons pd_int pd_nil)) (hN:=sc_is_maker.nd)) ?_
  refine sd_cons (sd_for (id_rng1 (pd_cons (pd_bin od_sub (pd_var 0) pd_int) pd_nil) T.nb_range) (gd_name (i:=3) (hN:=sc_is_maker.nd)) (sd_one (sd_drop (pd_append (pd_var 2) (pd_fn T.d_multiplied (ok_multiplied T) (hr.mono (by decide)) (pd_cons (pd_var 0) (pd_cons (pd_ix id_seq (pd_var 2) (pd_un ud_neg pd_int)) (pd_cons (pd_var 1) pd_nil)))))))) ?_
  exact (sd_one (sd_ret (pd_cmp od_eq (pd_lenset (pd_cons (pd_var 2) pd_nil) T.nb_len T.nb_set) (pd_bin od_sub (pd_var 0) pd_int))))
theorem sc_maker:FnScope ["q"] ["q"] (defScope s_maker):=⟨rfl,rfl,rfl,by decide +kernel,rfl,by decide +kernel,by decide +kernel⟩
theorem ok_maker (T:Tx K mg):FnOk P w K mg base CX0 7 T.a_maker T.fd_maker ["q"] (spD K 1 m_maker) :=
 fn_ok (k:=6) T.d_maker.fn sc_maker rfl rfl fun cdv A outer s H E hr=>by
  show PSsd _ _ b_maker
  unfold b_maker
  refine sd_cons (sd_drop (pd_fn T.d_require_field (ok_require_field T) (hr.mono (by decide)) (pd_cons (pd_var 0) pd_nil))) ?_
  exact (sd_one (sd_ret (pd_callB cd_minL T.nb_min boot_min (pd_cons (pd_comp (N':=["thing","q"]) (pick:=[none,some 0]) (CompScope.of rfl rfl) (id_rng2 (pd_cons pd_int (pd_cons (pd_var 0) pd_nil)) T.nb_range) (fun _ _ _ _ _ _=>(gd_name (i:=0) (hN:=(by decide +kernel:List.Nodup (["thing","q"]:List Str))))) (fun _ _ _ _ _ _=>(pifd_one (pd_bool (pd_fn T.d_is_maker (ok_is_maker T) (hr.mono (by decide)) (pd_cons (pd_var 1) (pd_cons (pd_var 0) pd_nil)))))) (fun _ _ _ _ _ _=>(pd_var 0))) pd_nil))))
theorem okx_maker (T:Tx K mg):FnOk P w K mg base (CXE P w K) 7 T.a_maker T.fd_maker ["q"] (spX K 1 x_maker) :=
 fn_raises (k:=6) T.d_maker.fn sc_maker rfl rfl fun cdv A outer s H E hr=>by
  show PSsx _ _ _ bx_maker
  unfold bx_maker
  exact (xd_here (xd_expr (xd_call T.d_require_field (okx_require_field T) (hr.mono (by decide)) (pd_cons (pd_var 0) pd_nil))))
theorem sc_field_web:FnScope ["q","squares"] ["q"] (defScope s_field_web):=⟨rfl,rfl,rfl,by decide +kernel,rfl,by decide +kernel,by decide +kernel⟩
theorem ok_field_web (T:Tx K mg):FnOk P w K mg base CX0 9 T.a_field_web T.fd_field_web ["q"] (spD K 1 m_field_web) :=
 fn_okL (k:=8) T.d_field_web.fn T.n_field_web sc_field_web rfl rfl fun cdv A outer s H E hcd hr=>by
  show PSsd _ _ b_field_web
  unfold b_field_web
  refine sd_cons (sd_drop (pd_fn T.d_require_field (ok_require_field T) (hr.mono (by decide)) (pd_cons (pd_var 0) pd_nil))) ?_
  refine sd_cons (sd_if (pd_cmpT od_ne (pd_bin od_mod (pd_var 0) pd_int) pd_int) (sd_one sd_never) sd_nil) ?_
  refine sd_cons (sd_set (i:=1) (pd_fn T.d_squares_in (ok_squares_in T) (hr.mono (by decide)) (pd_cons (pd_var 0) pd_nil)) (hN:=sc_field_web.nd)) ?_
  exact (sd_one (sd_ret (pd_callLam (kk:=0) T.d_web_where (ok_web_where T) (hr.mono (by decide)) (pd_var 0) (LamSc.of (by kernel_rfl)) rfl (fun _=>rfl) (y:="field_web") (by decide +kernel) T.tb_field_web T.tap (hcd _ _ T.tb_field_web) rfl T.th_field_web)))
theorem okx_field_web (T:Tx K mg):FnOk P w K mg base (CXE P w K) 9 T.a_field_web T.fd_field_web ["q"] (spX K 1 x_field_web) :=
 fn_raises (k:=8) T.d_field_web.fn sc_field_web rfl rfl fun cdv A outer s H E hr=>by
  show PSsx _ _ _ bx_field_web
  unfold bx_field_web
  exact (xd_or (xd_here (xd_expr (xd_call T.d_require_field (okx_require_field T) (hr.mono (by decide)) (pd_cons (pd_var 0) pd_nil)))) (xd_cons (sd_drop (pd_fn T.d_require_field (ok_require_field T) (hr.mono (by decide)) (pd_cons (pd_var 0) pd_nil))) (xd_or (xd_here (xd_if (pd_cmpT od_ne (pd_bin od_mod (pd_var 0) pd_int) pd_int) (xd_here (xd_raise T.xc_NoField F.excBase_ValueError)) xd_none)) (xd_cons (sd_if (pd_cmpT od_ne (pd_bin od_mod (pd_var 0) pd_int) pd_int) (sd_one sd_never) sd_nil) (xd_here (xd_set (i:=1) (xd_call T.d_squares_in (okx_squares_in T) (hr.mono (by decide)) (pd_cons (pd_var 0) pd_nil)) (hN:=sc_field_web.nd)))))))
theorem sc_law_cell_at:FnScope ["script","k"] ["script","k"] (defScope s_law_cell_at):=⟨rfl,rfl,rfl,by decide +kernel,rfl,by decide +kernel,by decide +kernel⟩
theorem ok_law_cell_at (T:Tx K mg):FnOk P w K mg base CX0 1 T.a_law_cell_at T.fd_law_cell_at ["script","k"] (spD K 2 m_law_cell_at) :=
 fn_ok (k:=0) T.d_law_cell_at.fn sc_law_cell_at rfl rfl fun cdv A outer s H E hr=>by
  show PSsd _ _ b_law_cell_at
  unfold b_law_cell_at
  refine sd_cons (sd_if (pd_cmpT od_lt (pd_var 1) (pd_callB cd_len T.nb_len boot_len (pd_cons (pd_var 0) pd_nil))) (sd_one (sd_ret (pd_ix id_seq (pd_var 0) (pd_var 1)))) sd_nil) ?_
  exact (sd_one (sd_ret pd_int))
theorem sc_law_pot:FnScope ["cell","number","j","more"] ["cell"] (defScope s_law_pot):=⟨rfl,rfl,rfl,by decide +kernel,rfl,by decide +kernel,by decide +kernel⟩
theorem ok_law_pot (T:Tx K mg):FnOk P w K mg base CX0 1 T.a_law_pot T.fd_law_pot ["cell"] (spD K 1 m_law_pot) :=
 fn_ok (k:=0) T.d_law_pot.fn sc_law_pot rfl rfl fun cdv A outer s H E hr=>by
  show PSsd _ _ b_law_pot
  unfold b_law_pot
  refine sd_cons (sd_if (pd_cmpT od_ge (pd_var 0) (pd_bin od_pow pd_int pd_int)) (sd_one (sd_ret (pd_lstM (pd_cons (pd_bin od_sub (pd_var 0) (pd_bin od_pow pd_int pd_int)) pd_nil)))) sd_nil) ?_
  refine sd_cons (sd_set (i:=1) pd_int (hN:=sc_law_pot.nd)) ?_
  refine sd_cons (sd_for (id_rng1 (pd_cons pd_int pd_nil) T.nb_range) (gd_name (i:=2) (hN:=sc_law_pot.nd)) (sd_cons (sd_set (i:=3) (pd_bin od_mod (pd_bin od_mul (pd_bin od_add (pd_bin od_add (pd_bin od_mod (pd_var 0) pd_int) (pd_bin od_mul pd_int (pd_var 2))) pd_int) pd_int) pd_int) (hN:=sc_law_pot.nd)) (sd_cons (sd_set (i:=3) (pd_bin od_mod (pd_bin od_add (pd_bin od_add (pd_bin od_mul (pd_var 3) (pd_var 3)) (pd_bin od_mul pd_int (pd_var 2))) pd_int) pd_int) (hN:=sc_law_pot.nd)) (sd_one (sd_set (i:=1) (pd_bin od_add (pd_bin od_mul (pd_var 1) pd_int) (pd_var 3)) (hN:=sc_law_pot.nd)))))) ?_
  exact (sd_one (sd_ret (pd_lstM (pd_cons (pd_var 1) pd_nil))))
theorem sc_law_take:FnScope ["pot","far","found"] ["pot","far"] (defScope s_law_take):=⟨rfl,rfl,rfl,by decide +kernel,rfl,by decide +kernel,by decide +kernel⟩
theorem ok_law_take (T:Tx K mg):FnOk P w K mg base CX0 1 T.a_law_take T.fd_law_take ["pot","far"] (spD K 2 m_law_take) :=
 fn_ok (k:=0) T.d_law_take.fn sc_law_take rfl rfl fun cdv A outer s H E hr=>by
  show PSsd _ _ b_law_take
  unfold b_law_take
  refine sd_cons (sd_set (i:=2) (pd_bin od_mod (pd_ix id_seq (pd_var 0) pd_int) (pd_var 1)) (hN:=sc_law_take.nd)) ?_
  refine sd_cons (sd_asg (pd_bin od_div (pd_ix id_seq (pd_var 0) pd_int) (pd_var 1)) (gd_sub (pd_var 0) pd_int)) ?_
  exact (sd_one (sd_ret (pd_var 2)))
theorem sc_law_kind_of:FnScope ["e","some","words"] ["e"] (defScope s_law_kind_of):=⟨rfl,rfl,rfl,by decide +kernel,rfl,by decide +kernel,by decide +kernel⟩
theorem okH_law_kind_of (T:Tx K mg):FnOkH P w K mg base 1 T.a_law_kind_of T.fd_law_kind_of ["e"] (spD K 1 m_law_kind_of) :=
 fn_okH (k:=0) T.d_law_kind_of.fn sc_law_kind_of rfl rfl fun cdv A outer s H E hr=>by
  show PSsd _ _ b_law_kind_of
  unfold b_law_kind_of
  refine sd_cons (sd_set (i:=1) (pd_lst (pd_cons (pd_callB (cd_isx T.xtab) T.nb_isinstance boot_isinstance (pd_cons (pd_var 0) (pd_cons (pd_cls T.gc_NoWeb T.nc_NoWeb) pd_nil))) (pd_cons (pd_callB (cd_isx T.xtab) T.nb_isinstance boot_isinstance (pd_cons (pd_var 0) (pd_cons (pd_cls T.gc_NoText T.nc_NoText) pd_nil))) (pd_cons (pd_callB (cd_isx T.xtab) T.nb_isinstance boot_isinstance (pd_cons (pd_var 0) (pd_cons (pd_cls T.gc_NoNumbers T.nc_NoNumbers) pd_nil))) (pd_cons (pd_callB (cd_isx T.xtab) T.nb_isinstance boot_isinstance (pd_cons (pd_var 0) (pd_cons (pd_cls T.gc_NoField T.nc_NoField) pd_nil))) pd_nil))))) (hN:=sc_law_kind_of.nd)) ?_
  refine sd_cons (sd_set (i:=1) (pd_bin od_cat (pd_var 1) (pd_lst (pd_cons (pd_callB (cd_isx T.xtab) T.nb_isinstance boot_isinstance (pd_cons (pd_var 0) (pd_cons (pd_cls T.gc_NoThing T.nc_NoThing) pd_nil))) (pd_cons (pd_callB (cd_isx T.xtab) T.nb_isinstance boot_isinstance (pd_cons (pd_var 0) (pd_cons (pd_cls T.gc_NoSquare T.nc_NoSquare) pd_nil))) (pd_cons (pd_callB (cd_isx T.xtab) T.nb_isinstance boot_isinstance (pd_cons (pd_var 0) (pd_cons (pd_cls T.gc_NoPlaces T.nc_NoPlaces) pd_nil))) (pd_cons (pd_callB (cd_isx T.xtab) T.nb_isinstance boot_isinstance (pd_cons (pd_var 0) (pd_cons (pd_cls T.gc_TooMany T.nc_TooMany) pd_nil))) pd_nil)))))) (hN:=sc_law_kind_of.nd)) ?_
  refine sd_cons (sd_set (i:=1) (pd_bin od_cat (pd_var 1) (pd_lst (pd_cons (pd_callB (cd_isx T.xtab) T.nb_isinstance boot_isinstance (pd_cons (pd_var 0) (pd_cons (pd_cls T.gc_NoName T.nc_NoName) pd_nil))) (pd_cons (pd_callB (cd_isx T.xtab) T.nb_isinstance boot_isinstance (pd_cons (pd_var 0) (pd_cons (pd_cls T.gc_NoDeed T.nc_NoDeed) pd_nil))) (pd_cons (pd_callB (cd_isx T.xtab) T.nb_isinstance boot_isinstance (pd_cons (pd_var 0) (pd_cons (pd_cls T.gc_NoRow T.nc_NoRow) pd_nil))) pd_nil))))) (hN:=sc_law_kind_of.nd)) ?_
  refine sd_cons (sd_if (PW.pt (pd_orT (pd_cmpT od_ne (pd_count (pd_var 1) pd_bl) pd_int) (pd_or1 (pd_notT (pd_bool (pd_callB (cd_isx T.xtab) T.nb_isinstance boot_isinstance (pd_cons (pd_var 0) (pd_cons (pd_ty rfl T.nb_ValueError bootVE) pd_nil)))))))) (sd_one (sd_ret pd_str)) sd_nil) ?_
  refine sd_cons ?_ ?_
  ·with_reducible refine sd_set (i:=2) ?_ ?_ ?_ ?_ ?_ ?_
   ·with_reducible refine pd_lst ?_
    with_reducible refine pd_cons ?_ ?_ ?_
    ·exact pd_str
    ·skip
     with_reducible refine pd_cons ?_ ?_ ?_
     ·exact pd_str
     ·skip
      with_reducible refine pd_cons ?_ ?_ ?_
      ·exact pd_str
      ·skip
       with_reducible refine pd_cons ?_ ?_ ?_
       ·exact pd_str
       ·skip
        with_reducible refine pd_cons ?_ ?_ ?_
        ·exact pd_str
        ·skip
         with_reducible refine pd_cons ?_ ?_ ?_
         ·exact pd_str
         ·skip
          with_reducible refine pd_cons ?_ ?_ ?_
          ·exact pd_str
          ·skip
           with_reducible refine pd_cons ?_ ?_ ?_
           ·exact pd_str
           ·skip
            with_reducible refine pd_cons ?_ ?_ ?_
            ·exact pd_str
            ·skip
             with_reducible refine pd_cons ?_ ?_ ?_
             ·exact pd_str
             ·skip
              with_reducible refine pd_cons ?_ ?_ ?_
              ·exact pd_str
              ·skip
               with_reducible exact pd_nil
              ·exact starE rfl
             ·exact starE rfl
            ·exact starE rfl
           ·exact starE rfl
          ·exact starE rfl
         ·exact starE rfl
        ·exact starE rfl
       ·exact starE rfl
      ·exact starE rfl
     ·exact starE rfl
    ·exact starE rfl
   ·exact sc_law_kind_of.nd
   ·rfl
   ·first | exact Or.inl rfl | exact Or.inr rfl
   ·rfl
   ·first | exact .inl rfl | exact .inr rfl
  ·skip
   exact (sd_one (sd_ret (pd_ix id_seq (pd_var 2) (pd_index (pd_var 1) pd_bl))))
theorem sc_law_fields:FnScope [] [] (defScope s_law_fields):=⟨rfl,rfl,rfl,by decide +kernel,rfl,by decide +kernel,by decide +kernel⟩
theorem ok_law_fields (T:Tx K mg):FnOk P w K mg base CX0 1 T.a_law_fields T.fd_law_fields [] (spD K 0 m_law_fields) :=
 fn_ok (k:=0) T.d_law_fields.fn sc_law_fields rfl rfl fun cdv A outer s H E hr=>by
  show PSsd _ _ b_law_fields
  unfold b_law_fields
  refine sd_one ?_
  with_reducible refine sd_ret ?_
  with_reducible refine pd_lst ?_
  with_reducible refine pd_ints ?_
  kernel_rfl
theorem sc_law_told:FnScope ["way","q","one","other","e"] ["way","q","one","other"] (defScope s_law_told):=⟨rfl,rfl,rfl,by decide +kernel,rfl,by decide +kernel,by decide +kernel⟩
theorem ok_law_told (T:Tx K mg):FnOk P w K mg base CX0 10 T.a_law_told T.fd_law_told ["way","q","one","other"] (spD K 4 m_law_told) :=
 fn_ok (k:=9) T.d_law_told.fn sc_law_told rfl rfl fun cdv A outer s H E hr=>by
  show PSsd _ _ b_law_told
  unfold b_law_told
  refine sd_cons (sd_try (T:=xcls) (i:=4) (sd_one (sd_if (pd_cmpT od_eq (pd_var 0) pd_int) (sd_one (sd_drop (pd_fn T.d_added (ok_added T) (hr.mono (by decide)) (pd_cons (pd_var 1) (pd_cons (pd_var 2) (pd_cons (pd_var 3) pd_nil)))))) (sd_one (sd_if (pd_cmpT od_eq (pd_var 0) pd_int) (sd_one (sd_drop (pd_fn T.d_taken (ok_taken T) (hr.mono (by decide)) (pd_cons (pd_var 1) (pd_cons (pd_var 2) (pd_cons (pd_var 3) pd_nil)))))) (sd_one (sd_if (pd_cmpT od_eq (pd_var 0) pd_int) (sd_one (sd_drop (pd_fn T.d_multiplied (ok_multiplied T) (hr.mono (by decide)) (pd_cons (pd_var 1) (pd_cons (pd_var 2) (pd_cons (pd_var 3) pd_nil)))))) (sd_one (sd_if (pd_cmpT od_eq (pd_var 0) pd_int) (sd_one (sd_drop (pd_fn T.d_divided (ok_divided T) (hr.mono (by decide)) (pd_cons (pd_var 1) (pd_cons (pd_var 2) (pd_cons (pd_var 3) pd_nil)))))) (sd_one (sd_if (pd_cmpT od_eq (pd_var 0) pd_int) (sd_one (sd_drop (pd_fn T.d_raised (ok_raised T) (hr.mono (by decide)) (pd_cons (pd_var 1) (pd_cons (pd_var 2) (pd_cons pd_int pd_nil)))))) (sd_one (sd_if (pd_cmpT od_eq (pd_var 0) pd_int) (sd_one (sd_drop (pd_fn T.d_root_in (ok_root_in T) (hr.mono (by decide)) (pd_cons (pd_var 1) (pd_cons (pd_var 2) pd_nil))))) (sd_one (sd_if (pd_cmpT od_eq (pd_var 0) pd_int) (sd_one (sd_drop (pd_fn T.d_squares_in (ok_squares_in T) (hr.mono (by decide)) (pd_cons (pd_var 1) pd_nil)))) (sd_one (sd_if (pd_cmpT od_eq (pd_var 0) pd_int) (sd_one (sd_drop (pd_fn T.d_maker (ok_maker T) (hr.mono (by decide)) (pd_cons (pd_var 1) pd_nil)))) (sd_one (sd_drop (pd_fn T.d_field_web (ok_field_web T) (hr.mono (by decide)) (pd_cons (pd_var 1) pd_nil)))))))))))))))))))) (fun W pn=>(xd_here (xd_if (pd_cmpT od_eq (pd_var 0) pd_int) (xd_here (xd_expr (xd_call T.d_added (okx_added T) (hr.mono (by decide)) (pd_cons (pd_var 1) (pd_cons (pd_var 2) (pd_cons (pd_var 3) pd_nil)))))) (xd_here (xd_if (pd_cmpT od_eq (pd_var 0) pd_int) (xd_here (xd_expr (xd_call T.d_taken (okx_taken T) (hr.mono (by decide)) (pd_cons (pd_var 1) (pd_cons (pd_var 2) (pd_cons (pd_var 3) pd_nil)))))) (xd_here (xd_if (pd_cmpT od_eq (pd_var 0) pd_int) (xd_here (xd_expr (xd_call T.d_multiplied (okx_multiplied T) (hr.mono (by decide)) (pd_cons (pd_var 1) (pd_cons (pd_var 2) (pd_cons (pd_var 3) pd_nil)))))) (xd_here (xd_if (pd_cmpT od_eq (pd_var 0) pd_int) (xd_here (xd_expr (xd_call T.d_divided (okx_divided T) (hr.mono (by decide)) (pd_cons (pd_var 1) (pd_cons (pd_var 2) (pd_cons (pd_var 3) pd_nil)))))) (xd_here (xd_if (pd_cmpT od_eq (pd_var 0) pd_int) (xd_here (xd_expr (xd_call T.d_raised (okx_raised T) (hr.mono (by decide)) (pd_cons (pd_var 1) (pd_cons (pd_var 2) (pd_cons pd_int pd_nil)))))) (xd_here (xd_if (pd_cmpT od_eq (pd_var 0) pd_int) (xd_here (xd_expr (xd_call T.d_root_in (okx_root_in T) (hr.mono (by decide)) (pd_cons (pd_var 1) (pd_cons (pd_var 2) pd_nil))))) (xd_here (xd_if (pd_cmpT od_eq (pd_var 0) pd_int) (xd_here (xd_expr (xd_call T.d_squares_in (okx_squares_in T) (hr.mono (by decide)) (pd_cons (pd_var 1) pd_nil)))) (xd_here (xd_if (pd_cmpT od_eq (pd_var 0) pd_int) (xd_here (xd_expr (xd_call T.d_maker (okx_maker T) (hr.mono (by decide)) (pd_cons (pd_var 1) pd_nil)))) (xd_here (xd_expr (xd_call T.d_field_web (okx_field_web T) (hr.mono (by decide)) (pd_cons (pd_var 1) pd_nil))))))))))))))))))))) (fun ea=>(pd_fnH T.d_law_kind_of (okH_law_kind_of T) (RoomH.held (hr.mono (by decide))) (pd_cons (pd_var 4) pd_nil))) T.gc_WebError (xw_of T.xw) (hN:=sc_law_told.nd)) ?_
  exact (sd_one (sd_ret pd_str))
theorem sc_law:FnScope ["script","k","pot","q","odd","thing"] ["script"] (defScope s_law):=⟨rfl,rfl,rfl,by decide +kernel,rfl,by decide +kernel,by decide +kernel⟩
theorem ok_law (T:Tx K mg):FnOk P w K mg base CX0 11 T.a_law T.fd_law ["script"] (spD K 1 m_law) :=
 fn_ok (k:=10) T.d_law.fn sc_law rfl rfl fun cdv A outer s H E hr=>by
  show PSsd _ _ b_law
  unfold b_law
  refine sd_cons (sd_for (id_rng1 (pd_cons (pd_callB cd_max2 T.nb_max boot_max (pd_cons pd_int (pd_cons (pd_callB cd_min2 T.nb_min boot_min (pd_cons (pd_callB cd_len T.nb_len boot_len (pd_cons (pd_var 0) pd_nil)) (pd_cons pd_int pd_nil))) pd_nil))) pd_nil) T.nb_range) (gd_name (i:=1) (hN:=sc_law.nd)) ?_) ?_
  ·skip
   refine sd_cons (sd_set (i:=2) (pd_fn T.d_law_pot (ok_law_pot T) (hr.mono (by decide)) (pd_cons (pd_fn T.d_law_cell_at (ok_law_cell_at T) (hr.mono (by decide)) (pd_cons (pd_var 0) (pd_cons (pd_var 1) pd_nil))) pd_nil)) (hN:=sc_law.nd)) ?_
   refine sd_cons (sd_set (i:=3) (pd_ix id_seq (pd_fn0 T.d_law_fields (ok_law_fields T) (hr.mono (by decide))) (pd_fn T.d_law_take (ok_law_take T) (hr.mono (by decide)) (pd_cons (pd_var 2) (pd_cons pd_int pd_nil)))) (hN:=sc_law.nd)) ?_
   refine sd_cons ?_ ?_
   ·with_reducible refine sd_set (i:=4) ?_ ?_ ?_ ?_ ?_ ?_
    ·with_reducible refine pd_ix id_seq ?_ ?_ ?_
     ·with_reducible refine pd_lst ?_
      with_reducible refine pd_cons ?_ ?_ ?_
      ·exact pd_int
      ·skip
       with_reducible refine pd_cons ?_ ?_ ?_
       ·exact pd_int
       ·skip
        with_reducible refine pd_cons ?_ ?_ ?_
        ·exact pd_int
        ·skip
         with_reducible refine pd_cons ?_ ?_ ?_
         ·exact pd_int
         ·skip
          with_reducible refine pd_cons ?_ ?_ ?_
          ·exact pd_int
          ·skip
           with_reducible refine pd_cons ?_ ?_ ?_
           ·exact pd_int
           ·skip
            with_reducible refine pd_cons ?_ ?_ ?_
            ·exact pd_int
            ·skip
             with_reducible refine pd_cons ?_ ?_ ?_
             ·exact pd_int
             ·skip
              with_reducible refine pd_cons ?_ ?_ ?_
              ·exact pd_int
              ·skip
               with_reducible refine pd_cons ?_ ?_ ?_
               ·exact pd_int
               ·skip
                with_reducible refine pd_cons ?_ ?_ ?_
                ·exact (pd_bin od_sub pd_int pd_int)
                ·skip
                 with_reducible refine pd_cons ?_ ?_ ?_
                 ·exact pd_bl
                 ·skip
                  with_reducible refine pd_cons ?_ ?_ ?_
                  ·exact pd_non
                  ·skip
                   with_reducible refine pd_cons ?_ ?_ ?_
                   ·exact pd_str
                   ·skip
                    with_reducible refine pd_cons ?_ ?_ ?_
                    ·exact (pd_tup (pd_cons pd_int pd_nil))
                    ·skip
                     with_reducible refine pd_cons ?_ ?_ ?_
                     ·exact (pd_lst (pd_cons pd_int pd_nil))
                     ·skip
                      with_reducible refine pd_cons ?_ ?_ ?_
                      ·exact (pd_bin od_pow pd_int pd_int)
                      ·skip
                       with_reducible exact pd_nil
                      ·exact starE rfl
                     ·exact starE rfl
                    ·exact starE rfl
                   ·exact starE rfl
                  ·exact starE rfl
                 ·exact starE rfl
                ·exact starE rfl
               ·exact starE rfl
              ·exact starE rfl
             ·exact starE rfl
            ·exact starE rfl
           ·exact starE rfl
          ·exact starE rfl
         ·exact starE rfl
        ·exact starE rfl
       ·exact starE rfl
      ·exact starE rfl
     ·exact (pd_fn T.d_law_take (ok_law_take T) (hr.mono (by decide)) (pd_cons (pd_var 2) (pd_cons pd_int pd_nil)))
     ·exact fun _ _=>rfl
    ·exact sc_law.nd
    ·rfl
    ·first | exact Or.inl rfl | exact Or.inr rfl
    ·rfl
    ·first | exact .inl rfl | exact .inr rfl
   ·skip
    refine sd_cons (sd_if (pd_cmpT (od_nev (hu64 hr)) (pd_comp (N':=["way","odd"]) (pick:=[none,some 4]) (CompScope.of rfl rfl) (id_rng1 (pd_cons pd_int pd_nil) T.nb_range) (fun _ _ _ _ _ _=>(gd_name (i:=0) (hN:=(by decide +kernel:List.Nodup (["way","odd"]:List Str))))) (fun _ _ _ _ _ _=>pifd_nil) (fun _ _ _ _ _ _=>(pd_fn T.d_law_told (ok_law_told T) (hr.mono (by decide)) (pd_cons (pd_var 0) (pd_cons (pd_var 1) (pd_cons pd_non (pd_cons pd_int pd_nil))))))) (pd_bin od_rep (pd_lst (pd_cons pd_str pd_nil)) pd_int)) (sd_one (sd_ret pd_bl)) sd_nil) ?_
    refine sd_cons ?_ ?_
    ·with_reducible refine sd_set (i:=5) ?_ ?_ ?_ ?_ ?_ ?_
     ·with_reducible refine pd_ix id_seq ?_ ?_ ?_
      ·with_reducible refine pd_lst ?_
       with_reducible refine pd_cons ?_ ?_ ?_
       ·exact (pd_bin od_sub pd_int pd_int)
       ·skip
        with_reducible refine pd_cons ?_ ?_ ?_
        ·exact (pd_var 3)
        ·skip
         with_reducible refine pd_cons ?_ ?_ ?_
         ·exact (pd_bin od_add (pd_var 3) pd_int)
         ·skip
          with_reducible refine pd_cons ?_ ?_ ?_
          ·exact (pd_bin od_pow pd_int pd_int)
          ·skip
           with_reducible refine pd_cons ?_ ?_ ?_
           ·exact pd_bl
           ·skip
            with_reducible refine pd_cons ?_ ?_ ?_
            ·exact pd_bl
            ·skip
             with_reducible refine pd_cons ?_ ?_ ?_
             ·exact pd_non
             ·skip
              with_reducible refine pd_cons ?_ ?_ ?_
              ·exact pd_str
              ·skip
               with_reducible refine pd_cons ?_ ?_ ?_
               ·exact (pd_tup (pd_cons pd_int pd_nil))
               ·skip
                with_reducible refine pd_cons ?_ ?_ ?_
                ·exact (pd_lst (pd_cons pd_int pd_nil))
                ·skip
                 with_reducible exact pd_nil
                ·exact starE rfl
               ·exact starE rfl
              ·exact starE rfl
             ·exact starE rfl
            ·exact starE rfl
           ·exact starE rfl
          ·exact starE rfl
         ·exact starE rfl
        ·exact starE rfl
       ·exact starE rfl
      ·exact (pd_fn T.d_law_take (ok_law_take T) (hr.mono (by decide)) (pd_cons (pd_var 2) (pd_cons pd_int pd_nil)))
      ·exact fun _ _=>rfl
     ·exact sc_law.nd
     ·rfl
     ·first | exact Or.inl rfl | exact Or.inr rfl
     ·rfl
     ·first | exact .inl rfl | exact .inr rfl
    ·skip
     refine sd_cons (sd_if (pd_cmpT (od_nev (hu64 hr)) (pd_comp (N':=["way","q","thing"]) (pick:=[none,some 3,some 5]) (CompScope.of rfl rfl) (id_rng1 (pd_cons pd_int pd_nil) T.nb_range) (fun _ _ _ _ _ _=>(gd_name (i:=0) (hN:=(by decide +kernel:List.Nodup (["way","q","thing"]:List Str))))) (fun _ _ _ _ _ _=>pifd_nil) (fun _ _ _ _ _ _=>(pd_fn T.d_law_told (ok_law_told T) (hr.mono (by decide)) (pd_cons (pd_var 0) (pd_cons (pd_var 1) (pd_cons (pd_var 2) (pd_cons pd_int pd_nil))))))) (pd_bin od_rep (pd_lst (pd_cons pd_str pd_nil)) pd_int)) (sd_one (sd_ret pd_bl)) sd_nil) ?_
     refine sd_cons (sd_if (pd_cmpT (od_nev (hu64 hr)) (pd_comp (N':=["way","q","thing"]) (pick:=[none,some 3,some 5]) (CompScope.of rfl rfl) (id_rng1 (pd_cons pd_int pd_nil) T.nb_range) (fun _ _ _ _ _ _=>(gd_name (i:=0) (hN:=(by decide +kernel:List.Nodup (["way","q","thing"]:List Str))))) (fun _ _ _ _ _ _=>pifd_nil) (fun _ _ _ _ _ _=>(pd_fn T.d_law_told (ok_law_told T) (hr.mono (by decide)) (pd_cons (pd_var 0) (pd_cons (pd_var 1) (pd_cons pd_int (pd_cons (pd_var 2) pd_nil))))))) (pd_bin od_rep (pd_lst (pd_cons pd_str pd_nil)) pd_int)) (sd_one (sd_ret pd_bl)) sd_nil) ?_
     refine sd_cons (sd_if (pd_cmpT od_ne (pd_fn T.d_law_told (ok_law_told T) (hr.mono (by decide)) (pd_cons pd_int (pd_cons (pd_var 3) (pd_cons (pd_fn T.d_law_take (ok_law_take T) (hr.mono (by decide)) (pd_cons (pd_var 2) (pd_cons (pd_var 3) pd_nil))) (pd_cons pd_int pd_nil))))) pd_str) (sd_one (sd_ret pd_bl)) sd_nil) ?_
     refine sd_cons (sd_if (pd_cmpT (od_nev (hu64 hr)) (pd_comp (N':=["way","q"]) (pick:=[none,some 3]) (CompScope.of rfl rfl) (id_rng1 (pd_cons pd_int pd_nil) T.nb_range) (fun _ _ _ _ _ _=>(gd_name (i:=0) (hN:=(by decide +kernel:List.Nodup (["way","q"]:List Str))))) (fun _ _ _ _ _ _=>pifd_nil) (fun _ _ _ _ _ _=>(pd_fn T.d_law_told (ok_law_told T) (hr.mono (by decide)) (pd_cons (pd_var 0) (pd_cons (pd_var 1) (pd_cons pd_int (pd_cons pd_int pd_nil))))))) (pd_bin od_rep (pd_lst (pd_cons pd_str pd_nil)) pd_int)) (sd_one (sd_ret pd_bl)) sd_nil) ?_
     exact (sd_one (sd_if (pd_cmpT od_ne (pd_fn T.d_law_told (ok_law_told T) (hr.mono (by decide)) (pd_cons pd_int (pd_cons (pd_var 3) (pd_cons pd_int (pd_cons pd_int pd_nil))))) (pd_ix id_seq (pd_lst (pd_cons pd_str (pd_cons pd_str pd_nil))) (pd_callTy cd_int1 T.nb_int boot_int (pd_cons (pd_cmp od_eq (pd_bin od_mod (pd_var 3) pd_int) pd_int) pd_nil)))) (sd_one (sd_ret pd_bl)) sd_nil))
  ·skip
   exact (sd_one (sd_ret pd_bl))
end
end Ev
namespace Fq
noncomputable def rowF (p:Int):Nat→Int→List Int
 | 0,_=>[]
 | n + 1,x=>x % p :: rowF p n (x / p)
noncomputable def numF (p:Int):List Int→Int
 | []=>0
 | d :: r=>numF p r * p + d % p
noncomputable def lastI:List Int→Int
 | []=>0
 | [a]=>a
 | _ :: b :: r=>lastI (b :: r)
noncomputable def tlF (low row:List Int):List Int:=List.zipWith (fun b d=>b - lastI row * d) (0 :: row) low
noncomputable def mulR (low ry:List Int):List Int→List Int
 | []=>ry.map fun _=>0
 | d :: rx=>List.zipWith (fun a b=>a + d * b) (tlF low (mulR low ry rx)) ry
noncomputable def addF (p:Int) (n:Nat) (x y:Int):Int:=numF p (List.zipWith (· + ·) (rowF p n x) (rowF p n y))
noncomputable def subF (p:Int) (n:Nat) (x y:Int):Int:=numF p (List.zipWith (· - ·) (rowF p n x) (rowF p n y))
noncomputable def mulF (p:Int) (n:Nat) (low x y:Int):Int:=numF p (mulR (rowF p n low) (rowF p n y) (rowF p n x))
theorem num_mod (p:Int):∀ r:List Int,numF p (r.map (· % p))=numF p r
 | []=>rfl
 | d :: r=>by simp only [List.map_cons,numF,num_mod p r,Int.emod_emod_of_dvd _ (Int.dvd_refl p)]
theorem num_nn {p:Int} (hp:0 < p):∀ r:List Int,0≤numF p r
 | []=>Int.le_refl 0
 | d :: r=>by
  have h1:=num_nn hp r
  have h2:=Int.emod_nonneg d (Int.ne_of_gt hp)
  have h3:=Int.mul_nonneg h1 (Int.le_of_lt hp)
  simp only [numF]
  omega
theorem row_len (p:Int):∀ (n:Nat) (x:Int),(rowF p n x).length=n
 | 0,_=>rfl
 | n + 1,x=>by simp [rowF,row_len p n]
section
variable {p:Int} (hp:0 < p) {n:Nat}
include hp
theorem sub_nn (x y:Int):0≤subF p n x y:=num_nn hp _
end
structure Fd where
 q:Nat
 p:Nat
 n:Nat
 low:Nat
 g:Nat
 E:List Nat
 L:List Nat
noncomputable def fds:List Fd:=[⟨2,2,1,0,1,[1],[0,0]⟩,
 ⟨3,3,1,0,2,[1,2],[0,0,1]⟩,
 ⟨4,2,2,3,2,[1,2,3],[0,0,1,2]⟩,
 ⟨5,5,1,0,2,[1,2,4,3],[0,0,1,3,2]⟩,
 ⟨7,7,1,0,3,[1,3,2,6,4,5],[0,0,2,1,4,5,3]⟩,
 ⟨8,2,3,3,2,[1,2,4,3,6,7,5],[0,0,1,3,2,6,4,5]⟩,
 ⟨9,3,2,1,4,[1,4,6,7,2,8,3,5],[0,0,4,6,1,7,2,3,5]⟩,
 ⟨11,11,1,0,2,[1,2,4,8,5,10,9,7,3,6],[0,0,1,8,2,4,9,7,3,6,5]⟩,
 ⟨13,13,1,0,2,[1,2,4,8,3,6,12,11,9,5,10,7],[0,0,1,4,2,9,5,11,3,8,10,7,6]⟩,
 ⟨16,2,4,3,2,[1,2,4,8,3,6,12,11,5,10,7,14,15,13,9],[0,0,1,4,2,8,5,10,3,14,9,7,6,13,11,12]⟩,
 ⟨17,17,1,0,3,[1,3,9,10,13,5,15,11,16,14,8,7,4,12,2,6],[0,0,14,1,12,5,15,11,10,2,3,7,13,4,9,6,8]⟩,
 ⟨19,19,1,0,2,[1,2,4,8,16,13,7,14,9,18,17,15,11,3,6,12,5,10],[0,0,1,13,2,16,14,6,3,8,17,12,15,5,7,11,4,10,9]⟩,
 ⟨23,23,1,0,5,[1,5,2,10,4,20,8,17,16,11,9,22,18,21,13,19,3,15,6,7,12,14],[0,0,2,16,4,1,18,19,6,10,3,9,20,14,21,17,8,7,12,15,5,13,11]⟩,
 ⟨25,5,2,2,6,[1,6,14,5,8,21,3,18,7,15,19,13,4,24,16,20,22,9,2,12,23,10,11,17],[0,0,18,6,12,3,1,8,4,17,21,22,19,11,2,9,14,23,7,10,15,5,16,20,13]⟩,
 ⟨27,3,3,7,3,[1,3,9,5,15,23,13,17,20,4,12,14,11,2,6,18,7,21,16,26,22,10,8,24,25,19],[0,0,13,1,9,3,14,16,22,2,21,12,10,6,11,4,18,7,15,25,8,17,20,5,23,24,19]⟩,
 ⟨29,29,1,0,2,[1,2,4,8,16,3,6,12,24,19,9,18,7,14,28,27,25,21,13,26,23,17,5,10,20,11,22,15],[0,0,1,5,2,22,6,12,3,10,23,25,7,18,13,27,4,21,11,9,24,17,26,20,8,16,19,15,14]⟩,
 ⟨31,31,1,0,3,[1,3,9,27,19,26,16,17,20,29,25,13,8,24,10,30,28,22,4,12,5,15,14,11,2,6,18,23,7,21],[0,0,24,1,18,20,25,28,12,2,14,23,19,11,22,21,6,7,26,4,8,29,17,27,13,10,5,3,16,9,15]⟩,
 ⟨32,2,5,5,2,[1,2,4,8,16,5,10,20,13,26,17,7,14,28,29,31,27,19,3,6,12,24,21,15,30,25,23,11,22,9,18],[0,0,1,18,2,5,19,11,3,29,6,27,20,8,12,23,4,10,30,17,7,22,28,26,21,25,9,16,13,14,24,15]⟩,
 ⟨37,37,1,0,2,[1,2,4,8,16,32,27,17,34,31,25,13,26,15,30,23,9,18,36,35,33,29,21,5,10,20,3,6,12,24,11,22,7,14,28,19],[0,0,1,26,2,23,27,32,3,16,24,30,28,11,33,13,4,7,17,35,25,22,31,15,29,10,12,6,34,21,14,9,5,20,8,19,18]⟩,
 ⟨41,41,1,0,6,[1,6,36,11,25,27,39,29,10,19,32,28,4,24,21,3,18,26,33,34,40,35,5,30,16,14,2,12,31,22,9,13,37,17,20,38,23,15,8,7],[0,0,26,15,12,22,1,39,38,30,8,3,27,31,25,37,24,33,16,9,34,14,29,36,13,4,17,5,11,7,23,28,10,18,19,21,2,32,35,6,20]⟩,
 ⟨43,43,1,0,3,[1,3,9,27,38,28,41,37,25,32,10,30,4,12,36,22,23,26,35,19,14,42,40,34,16,5,15,2,6,18,11,33,13,39,31,7,21,20,17,8,24,29],[0,0,27,1,12,25,28,35,39,2,10,30,13,32,20,26,24,38,29,19,37,36,15,16,40,8,17,3,5,41,11,34,9,31,23,18,14,7,4,33,22,6,21]⟩,
 ⟨47,47,1,0,5,[1,5,25,31,14,23,21,11,8,40,12,13,18,43,27,41,17,38,2,10,3,15,28,46,42,22,16,33,24,26,36,39,7,35,34,29,4,20,6,30,9,45,37,44,32,19],[0,0,18,20,36,1,38,32,8,40,19,7,10,11,4,21,26,16,12,45,37,6,25,5,28,2,29,14,22,35,39,3,44,27,34,33,30,42,17,31,9,15,24,13,43,41,23]⟩,
 ⟨49,7,2,1,9,[1,9,31,30,21,46,16,44,5,38,43,45,7,20,24,17,4,29,19,15,35,23,8,22,6,47,25,26,28,10,40,12,2,18,13,11,42,36,32,39,3,27,37,41,14,33,48,34],[0,0,32,40,16,8,24,12,22,1,29,35,31,34,44,19,6,15,33,18,13,4,23,21,14,26,27,41,28,17,3,2,38,45,47,20,37,42,9,39,30,43,36,10,7,11,5,25,46]⟩]
noncomputable def nth:List Nat→Nat→Nat
 | [],_=>0
 | a :: _,0=>a
 | _ :: l,i + 1=>nth l i
noncomputable def mI (f:Fd) (x y:Nat):Int:=mulF f.p f.n f.low x y
noncomputable def aI (f:Fd) (x y:Nat):Int:=addF f.p f.n x y
noncomputable def M (f:Fd) (x y:Nat):Nat:=if x=0∨y=0 then 0 else nth f.E ((nth f.L x + nth f.L y) % (f.q - 1))
noncomputable def Mk (f:Fd) (x y:Nat):Nat:=cond (Nat.beq x 0 || Nat.beq y 0) 0 (nth f.E ((nth f.L x + nth f.L y) % (f.q - 1)))
theorem Mk_eq (f:Fd) (x y:Nat):Mk f x y=M f x y:=by
 unfold Mk M
 by_cases h:x=0∨y=0
 ·rw [if_pos h]
  rcases h with h | h <;> subst h <;> simp
 ·rw [if_neg h]
  rw [not_or] at h
  have h1:Nat.beq x 0=false:=by cases x with | zero=>exact absurd rfl h.1 | succ _=>rfl
  have h2:Nat.beq y 0=false:=by cases y with | zero=>exact absurd rfl h.2 | succ _=>rfl
  rw [h1,h2]; rfl
noncomputable def isZ (i:Int) (k:Nat):Bool:=match i with
 | .ofNat m=>Nat.beq m k
 | .negSucc _=>false
theorem isZ_eq {i:Int} {k:Nat} (h:isZ i k=true):i=k:=by
 cases i with
 | ofNat m=>have:m=k:=Nat.eq_of_beq_eq_true h; subst this; rfl
 | negSucc _=>cases h
noncomputable def chkM (f:Fd):Bool:=(List.range f.q).all fun x=>(List.range f.q).all fun y=>isZ (mI f x y) (Mk f x y)
noncomputable def chkD (f:Fd):Bool:=(List.range f.q).all fun x=>(List.range f.q).all fun y=>Nat.beq (Mk f f.g (aI f x y).toNat) (aI f (Mk f f.g x) (Mk f f.g y)).toNat
noncomputable def chkE (f:Fd):Bool:=(List.range (f.q - 1)).all fun i=>Nat.beq (nth f.L (nth f.E i)) i && !Nat.beq (nth f.E i) 0 && Nat.ble (nth f.E i + 1) f.q
noncomputable def chkL (f:Fd):Bool:=(List.range f.q).all fun x=>Nat.beq x 0 || (Nat.beq (nth f.E (nth f.L x)) x && Nat.ble (nth f.L x + 1) (f.q - 1))
noncomputable def chkO (f:Fd):Bool:=Nat.ble 2 f.q && Nat.beq (f.p ^ f.n) f.q && Nat.beq (nth f.E 0) 1 && Nat.ble 2 f.p && Nat.ble f.p 47 && Nat.ble 1 f.n && Nat.ble f.n 5 && Nat.beq (nth f.E (1 % (f.q - 1))) f.g && Nat.ble (f.low + 1) f.q && Nat.ble 1 f.g && Nat.ble (f.g + 1) f.q
theorem all_M:fds.all chkM=true:=by decide +kernel
theorem all_D:fds.all chkD=true:=by decide +kernel
theorem all_E:fds.all chkE=true:=by decide +kernel
theorem all_L:fds.all chkL=true:=by decide +kernel
theorem all_O:fds.all chkO=true:=by decide +kernel
end Fq
namespace Fq
theorem bl {a b:Nat} (h:Nat.ble a b=true):a≤b:=Nat.le_of_ble_eq_true h
theorem be {a b:Nat} (h:Nat.beq a b=true):a=b:=Nat.eq_of_beq_eq_true h
structure Is (f:Fd):Prop where
 q2:2≤f.q
 pn:f.p ^ f.n=f.q
 e0:nth f.E 0=1
 p2:2≤f.p
 p47:f.p≤47
 n1:1≤f.n
 n5:f.n≤5
 eg:nth f.E (1 % (f.q - 1))=f.g
 lo:f.low < f.q
 g1:1≤f.g
 gq:f.g < f.q
 le:∀ i,i < f.q - 1→nth f.L (nth f.E i)=i∧nth f.E i≠0∧nth f.E i < f.q
 el:∀ x,x < f.q→x≠0→nth f.E (nth f.L x)=x∧nth f.L x < f.q - 1
 mm:∀ x y,x < f.q→y < f.q→mI f x y=(M f x y:Nat)
 dd:∀ x y,x < f.q→y < f.q→M f f.g (aI f x y).toNat=(aI f (M f f.g x) (M f f.g y)).toNat
theorem is_of {f:Fd} (h:f∈fds):Is f:=by
 have hM:=List.all_eq_true.mp all_M f h
 have hD:=List.all_eq_true.mp all_D f h
 have hE:=List.all_eq_true.mp all_E f h
 have hL:=List.all_eq_true.mp all_L f h
 have hO:=List.all_eq_true.mp all_O f h
 simp only [chkO,Bool.and_eq_true] at hO
 obtain ⟨⟨⟨⟨⟨⟨⟨⟨⟨⟨o1,o2⟩,o3⟩,o4⟩,o5⟩,o6⟩,o7⟩,o8⟩,o9⟩,o10⟩,o11⟩:=hO
 refine ⟨bl o1,be o2,be o3,bl o4,bl o5,bl o6,bl o7,be o8,bl o9,bl o10,bl o11,fun i hi=>?_,fun x hx h0=>?_,fun x y hx hy=>?_,fun x y hx hy=>?_⟩
 ·have:=List.all_eq_true.mp hE i (List.mem_range.mpr hi)
  simp only [Bool.and_eq_true,Bool.not_eq_true'] at this
  exact ⟨be this.1.1,fun z=>by rw [z] at this; simp at this,bl this.2⟩
 ·have:=List.all_eq_true.mp hL x (List.mem_range.mpr hx)
  simp only [Bool.or_eq_true,Bool.and_eq_true] at this
  rcases this with this | this
  ·exact absurd (be this) h0
  ·exact ⟨be this.1,bl this.2⟩
 ·have:=List.all_eq_true.mp (List.all_eq_true.mp hM x (List.mem_range.mpr hx)) y (List.mem_range.mpr hy)
  rw [isZ_eq this,Mk_eq]
 ·have:=List.all_eq_true.mp (List.all_eq_true.mp hD x (List.mem_range.mpr hx)) y (List.mem_range.mpr hy)
  have:=be this
  rwa [Mk_eq,Mk_eq,Mk_eq] at this
section
variable {f:Fd} (I:Is f)
include I
theorem Is.pp:(0:Int) < f.p:=by have:=I.p2; omega
theorem M_lt (x y:Nat):M f x y < f.q:=by
 have:=I.q2
 unfold M
 split
 ·omega
 ·exact (I.le _ (Nat.mod_lt _ (by omega))).2.2
end
noncomputable def P (f:Fd) (x:Nat):Nat→Nat
 | 0=>1
 | k + 1=>M f (P f x k) x
noncomputable def Rz (f:Fd) (x k:Nat):Nat:=if x=0 then (if k=0 then 1 else 0) else P f x (k % (f.q - 1))
section
variable {f:Fd} (I:Is f)
include I
theorem P_lt (x:Nat):∀ k,P f x k < f.q
 | 0=>I.q2
 | k + 1=>M_lt I _ _
theorem Rz_lt (x k:Nat):Rz f x k < f.q:=by
 have:=I.q2
 unfold Rz
 split
 ·split <;> omega
 ·exact P_lt I _ _
end
end Fq
namespace Ev
open PySem L2 Fq
theorem whole_int (i:Int) (c:List Cell):m_is_whole [.int i] c=.ok (.bl true) c:=by simp [m_is_whole,b_is_whole]
theorem within_int (i lo hi:Int) (c:List Cell):m_is_whole_within [.int i,.int lo,.int hi] c=.ok (.bl (decide (lo≤i) && decide (i≤hi))) c:=by
 simp [m_is_whole_within,b_is_whole_within,whole_int]
 by_cases q:lo≤i <;> simp [q]
theorem tabs_ok:(fds.all fun f=>decide (tabF x_FIELDS f.q=some [(f.p:Int),f.n,f.low]))=true:=by decide +kernel
theorem tab_at {f:Fd} (h:f∈fds):tabF x_FIELDS f.q=some [(f.p:Int),f.n,f.low]:=by
 have:=List.all_eq_true.mp tabs_ok f h
 simpa using this
theorem is_field_ok {f:Fd} (h:f∈fds) (c:List Cell):m_is_field [.int f.q] c=.ok (.bl true) c:=by
 simp [m_is_field,b_is_field,whole_int,tab_at h]
theorem require_field_ok {f:Fd} (h:f∈fds) (c:List Cell):m_require_field [.int f.q] c=.ok .non c:=by
 simp [m_require_field,b_require_field,is_field_ok h]
theorem things2 {f:Fd} (h:f∈fds) {x y:Int} (x0:0≤x) (x1:x < f.q) (y0:0≤y) (y1:y < f.q) (c:List Cell):m_require_things [.int f.q,.tup [.int x,.int y]] c=.ok .non c:=by
 have a1:x≤(f.q:Int) - 1:=by omega
 have a2:y≤(f.q:Int) - 1:=by omega
 simp [m_require_things,b_require_things,require_field_ok h,within_int,x0,y0,a1,a2]
theorem things1 {f:Fd} (h:f∈fds) {x:Int} (x0:0≤x) (x1:x < f.q) (c:List Cell):m_require_things [.int f.q,.tup [.int x]] c=.ok .non c:=by
 have a1:x≤(f.q:Int) - 1:=by omega
 simp [m_require_things,b_require_things,require_field_ok h,within_int,x0,a1]
noncomputable def rowB:Ev→List Cell→R Fl:=(sSeq (sDrop (dAppend (dVar 3) (dBin modD (dVar 4) (dVar 2)))) (sSet 4 (dBin divD (dVar 4) (dVar 2))))
theorem row_step {c:List Cell} {a0 a1 v5:Option D} {p left:Int} {acc:List D} (hp:0 < p) (hp':p < 1000) (ha:acc.length < 1000):rowB [a0,a1,some (.int p),some (.ref c.length),some (.int left),v5] (c ++ [.lst acc]) =
  .ok (.nx [a0,a1,some (.int p),some (.ref c.length),some (.int (left / p)),v5]) (c ++ [.lst (acc ++ [.int (left % p)])]):=by
 have h:=append_here (c:=c) (acc:=acc) (y:=.int (left % p)) (dO:=dVar 3) (da:=dBin modD (dVar 4) (dVar 2)) (e:=[a0,a1,some (.int p),some (.ref c.length),some (.int left),v5]) (by simp) (by simp (disch:=omega) [mod_c]) rfl (by have:=small_line (n:=1000) (by decide); omega)
 unfold rowB
 rw [x_seq,x_drop,h]
 simp (disch:=omega) [div_c]
theorem row_loop {c:List Cell} {a0 a1:Option D} {p:Int} (hp:0 < p) (hp':p < 1000):∀ (items:List D) (left:Int) (acc:List D) (v5:Option D),acc.length + items.length < 1000 →
  ∃ l' v5',forD (fun _=>True) (gdName 5) rowB items [a0,a1,some (.int p),some (.ref c.length),some (.int left),v5] (c ++ [.lst acc]) =
   .ok (.nx [a0,a1,some (.int p),some (.ref c.length),some (.int l'),v5']) (c ++ [.lst (acc ++ (rowF p items.length left).map D.int)])
 | [],left,acc,v5,_=>⟨left,v5,by simp [rowF]⟩
 | x :: xs,left,acc,v5,h=>by
  simp only [List.length_cons] at h
  obtain ⟨l',v',ih⟩:=row_loop hp hp' xs (left / p) (acc ++ [.int (left % p)]) (some x) (by simp; omega)
  refine ⟨l',v',?_⟩
  rw [for_cons]
  simp only [x_gname,List.set_cons_succ,List.set_cons_zero,R.bind_ok]
  rw [row_step hp hp' (by omega)]
  simp only [R.bind_ok]
  rw [ih]
  simp [rowF]
theorem row_gen {q p N low:Int} (ht:tabF x_FIELDS q=some [p,N,low]) (hp:0 < p) (hp':p < 1000) {n:Nat} (hl:(rngD 0 N).length=n) (hn:n < 1000) (b1:-4611686018427387904≤N∧N < 4611686018427387904) (x:Int) (c:List Cell) :
  m_row_of [.int q,.int x] c=.ok (.lst ((rowF p n x).map D.int)) c:=by
 obtain ⟨l',v',hf⟩:=row_loop (c:=c) (a0:=some (.int q)) (a1:=some (.int x)) (p:=p) hp hp' (rngD 0 N) x [] none (by rw [hl,List.length_nil]; omega)
 rw [hl,List.nil_append] at hf
 unfold rowB at hf
 simp [m_row_of,b_row_of,ht]
 rw [if_pos b1]
 simp only [R.bind_ok]
 rw [hf]
 simp [exitD,noRefs_ints]
theorem row_ok {f:Fd} (h:f∈fds) (x:Int) (c:List Cell):m_row_of [.int f.q,.int x] c=.ok (.lst ((rowF f.p f.n x).map D.int)) c:=by
 have I:=is_of h
 have p2:=I.p2
 have p47:=I.p47
 have n5:=I.n5
 exact row_gen (tab_at h) (by omega) (by omega) (by rw [rng_len]; omega) (by omega) (by omega) x c
noncomputable def numB:Ev→List Cell→R Fl:=(sSet 3 (dBin addD (dBin mulD (dVar 3) (dVar 2)) (dBin modD (dVar 4) (dVar 2))))
theorem num_fold (p:Int):∀ r:List Int,r.foldr (fun d n=>n * p + d % p) 0=numF p r
 | []=>rfl
 | d :: r=>by simp only [List.foldr_cons,num_fold p r,numF]
theorem num_loop {c:List Cell} {a0 a1:Option D} {p:Int} (hp:0 < p) (hp':p < 1000):∀ (ds:List Int) (acc:Int) (v4:Option D),
  ∃ v',forD (fun _=>True) (gdName 4) numB (ds.map D.int) [a0,a1,some (.int p),some (.int acc),v4] c=.ok (.nx [a0,a1,some (.int p),some (.int (ds.foldl (fun n d=>n * p + d % p) acc)),v']) c
 | [],acc,v4=>⟨v4,by simp⟩
 | d :: ds,acc,v4=>by
  obtain ⟨v',ih⟩:=num_loop hp hp' ds (acc * p + d % p) (some (.int d))
  refine ⟨v',?_⟩
  rw [List.map_cons,for_cons]
  simp only [x_gname,List.set_cons_succ,List.set_cons_zero,R.bind_ok]
  have e:numB [a0,a1,some (.int p),some (.int acc),some (.int d)] c=.ok (.nx [a0,a1,some (.int p),some (.int (acc * p + d % p)),some (.int d)]) c:=by
   simp (disch:=omega) [numB,mul_r,mod_c]
  rw [e]
  simp only [R.bind_ok]
  rw [ih]
  simp
theorem num_ok {f:Fd} (h:f∈fds) (r:List Int) (c:List Cell):m_number_of [.int f.q,.lst (r.map D.int)] c=.ok (.int (numF f.p r)) c:=by
 have I:=is_of h
 have p2:=I.p2
 have p47:=I.p47
 obtain ⟨v',hf⟩:=num_loop (c:=c) (a0:=some (.int f.q)) (a1:=some (.lst (r.map D.int))) (p:=f.p) (by omega) (by omega) r.reverse 0 none
 rw [List.foldl_reverse,num_fold,List.map_reverse] at hf
 unfold numB at hf
 simp [m_number_of,b_number_of,tab_at h]
 rw [hf]
 simp
theorem added_ok {f:Fd} (h:f∈fds) {x y:Int} (x0:0≤x) (x1:x < f.q) (y0:0≤y) (y1:y < f.q) (c:List Cell):m_added [.int f.q,.int x,.int y] c=.ok (.int (addF f.p f.n x y)) c:=by
 have n5:=(is_of h).n5
 have hs:=small_line (n:=1000) (by decide)
 have hz:f.n < sizeLine:=by omega
 have hc:=comp_zip (st:=fun _=>True∧True) (c:=c) ⟨trivial,trivial⟩ (a:=dBin addD (dVar 0) (dVar 1)) (· + ·) [] (rowF f.p f.n x) (rowF f.p f.n y) none none [] (fun u _ v _=>by simp)
 have hn:=num_ok h (List.zipWith (· + ·) (rowF f.p f.n x) (rowF f.p f.n y)) c
 simp [m_added,b_added,things2 h x0 x1 y0 y1,row_ok h,stayD,row_len,hz,pickD]
 simp at hc hn
 rw [hc]
 simp [hn,addF]
theorem taken_ok {f:Fd} (h:f∈fds) {x y:Int} (x0:0≤x) (x1:x < f.q) (y0:0≤y) (y1:y < f.q) (c:List Cell):m_taken [.int f.q,.int x,.int y] c=.ok (.int (subF f.p f.n x y)) c:=by
 have n5:=(is_of h).n5
 have hs:=small_line (n:=1000) (by decide)
 have hz:f.n < sizeLine:=by omega
 have hc:=comp_zip (st:=fun _=>True∧True) (c:=c) ⟨trivial,trivial⟩ (a:=dBin subD (dVar 0) (dVar 1)) (· - ·) [] (rowF f.p f.n x) (rowF f.p f.n y) none none [] (fun u _ v _=>by simp)
 have hn:=num_ok h (List.zipWith (· - ·) (rowF f.p f.n x) (rowF f.p f.n y)) c
 simp [m_taken,b_taken,things2 h x0 x1 y0 y1,row_ok h,stayD,row_len,hz,pickD]
 simp at hc hn
 rw [hc]
 simp [hn,subF]
theorem at_last:∀ {r:List Int},r≠[]→atI (r.map D.int) (-1)=some (.int (lastI r)):=by
 have gen:∀ r:List Int,r≠[]→(r.map D.int)[r.length - 1]? = some (.int (lastI r)):=by
  intro r
  induction r with
  | nil=>intro h; exact absurd rfl h
  | cons a r ih =>
   intro _
   cases r with
   | nil=>rfl
   | cons b r =>
    have:=ih (by simp)
    simpa [lastI] using this
 intro r hr
 have hl:0 < r.length:=List.length_pos_iff.mpr hr
 have g:=gen r hr
 unfold atI ixN
 rw [List.length_map,if_neg (by decide),if_pos (by omega)]
 show (r.map D.int)[((-1:Int) + (r.length:Int)).toNat]? = _
 rw [show ((-1:Int) + (r.length:Int)).toNat=r.length - 1 by omega]
 exact g
theorem row_bd {p:Int} (hp:0 < p):∀ (n:Nat) (x:Int),∀ d∈rowF p n x,0≤d∧d < p
 | 0,x,d,h=>by cases h
 | n + 1,x,d,h=>by
  rcases List.mem_cons.mp h with rfl | h
  ·exact ⟨Int.emod_nonneg _ (by omega),Int.emod_lt_of_pos _ hp⟩
  ·exact row_bd hp n _ d h
theorem tl_ok {f:Fd} (h:f∈fds) {r:List Int} (hr:r.length=f.n) (c:List Cell):m_times_letter [.int f.q,.lst (r.map D.int)] c=.ok (.lst ((tlF (rowF f.p f.n f.low) r).map D.int)) c:=by
 have I:=is_of h
 have n1:=I.n1
 have n5:=I.n5
 have p2:=I.p2
 have p47:=I.p47
 have hs:=small_line (n:=1000) (by decide)
 have hz:f.n < sizeLine:=by omega
 have hz2:1 + r.length≤sizeLine:=by omega
 have hne:r≠[]:=by intro z; subst z; simp at hr; omega
 have hb:=row_bd (p:=f.p) (by omega) f.n f.low
 have hc:=comp_zip (st:=fun _=>True∧True) (c:=c) ⟨trivial,trivial⟩ (a:=dBin subD (dVar 0) (dBin mulD (dBin ixD (dVar 2) (dUn negD (dC (.int 1)))) (dVar 1))) (fun b d=>b - lastI r * d) [some (.lst (r.map D.int))] (0 :: r) (rowF f.p f.n f.low) none none [] (fun u _ v hv=>by
  have:=hb v hv
  have e:mulD (.int (lastI r)) (.int v) c=.ok (.int (lastI r * v)) c:=mul_r c (by omega) (by omega)
  simp [at_last hne,e])
 simp [m_times_letter,b_times_letter,tab_at h,row_ok h,catD,stayD,row_len,hz,hz2,pickD]
 simp at hc
 rw [if_pos (by rw [hr]; omega)]
 rw [hc]
 have hr:=noRefs_ints (l:=tlF (rowF f.p f.n f.low) r)
 simp [tlF] at hr
 simp [tlF,hr]
end Ev
namespace Ev
open PySem L2 Fq
noncomputable def mulB':Ev→List Cell→R Fl:=(sSet 4 (dComp (dZip2 (dCons (dCall 2 m_times_letter (dCons (dVar 0) (dCons (dVar 4) dNil))) (dCons (dVar 3) dNil))) [none,none,some 5] (gdTup 2 (gdCons (gdName 0) (gdCons (gdName 1) gdNil))) dYes (dBin addD (dVar 0) (dBin mulD (dVar 2) (dVar 1)))))
theorem tl_len {low r:List Int} {n:Nat} (hl:low.length=n) (hr:r.length=n):(tlF low r).length=n:=by
 simp [tlF,hl,hr]
theorem mul_step {f:Fd} (h:f∈fds) {ry r:List Int} (hy:ry.length=f.n) (hr:r.length=f.n) {d:Int} (d0:0≤d) (d1:d < 1000) (c:List Cell) (a1 a2:Option D) :
  mulB' [some (.int f.q),a1,a2,some (.lst (ry.map D.int)),some (.lst (r.map D.int)),some (.int d)] c =
   .ok (.nx [some (.int f.q),a1,a2,some (.lst (ry.map D.int)),some (.lst ((List.zipWith (fun a b=>a + d * b) (tlF (rowF f.p f.n f.low) r) ry).map D.int)),some (.int d)]) c:=by
 have n5:=(is_of h).n5
 have hs:=small_line (n:=1000) (by decide)
 have hz:f.n < sizeLine:=by omega
 have ht:(tlF (rowF f.p f.n f.low) r).length=f.n:=tl_len (row_len _ _ _) hr
 have hc:=comp_zip (st:=fun _=>True∧True) (c:=c) ⟨trivial,trivial⟩ (a:=dBin addD (dVar 0) (dBin mulD (dVar 2) (dVar 1))) (fun a b=>a + d * b) [some (.int d)] (tlF (rowF f.p f.n f.low) r) ry none none [] (fun u _ v hv=>by
  have e:mulD (.int d) (.int v) c=.ok (.int (d * v)) c:=mul_l c (by omega) (by omega)
  simp [e])
 simp [mulB',tl_ok h hr,stayD,ht,hy,hz,pickD]
 simp at hc
 rw [hc]
 simp
theorem mul_loop {f:Fd} (h:f∈fds) {ry:List Int} (hy:ry.length=f.n) (c:List Cell) (a1 a2:Option D):∀ (ds r:List Int) (v5:Option D),r.length=f.n→(∀ d∈ds,0≤d∧d < 1000) →
  ∃ v',forD (fun _=>True) (gdName 5) mulB' (ds.map D.int) [some (.int f.q),a1,a2,some (.lst (ry.map D.int)),some (.lst (r.map D.int)),v5] c =
   .ok (.nx [some (.int f.q),a1,a2,some (.lst (ry.map D.int)),some (.lst ((ds.foldl (fun r d=>List.zipWith (fun a b=>a + d * b) (tlF (rowF f.p f.n f.low) r) ry) r).map D.int)),v']) c
 | [],r,v5,_,_=>⟨v5,by simp⟩
 | d :: ds,r,v5,hr,hd=>by
  have hd0:=hd d List.mem_cons_self
  have hl:(List.zipWith (fun a b=>a + d * b) (tlF (rowF f.p f.n f.low) r) ry).length=f.n:=by
   rw [List.length_zipWith,tl_len (row_len _ _ _) hr,hy]; omega
  obtain ⟨v',ih⟩:=mul_loop h hy c a1 a2 ds (List.zipWith (fun a b=>a + d * b) (tlF (rowF f.p f.n f.low) r) ry) (some (.int d)) hl fun x hx=>hd x (List.mem_cons_of_mem _ hx)
  refine ⟨v',?_⟩
  rw [List.map_cons,for_cons]
  simp only [x_gname,List.set_cons_succ,List.set_cons_zero,R.bind_ok]
  rw [mul_step h hy hr hd0.1 hd0.2]
  simp only [R.bind_ok]
  rw [ih,List.foldl_cons]
theorem mulR_fold (low ry:List Int):∀ rx:List Int,rx.foldr (fun d r=>List.zipWith (fun a b=>a + d * b) (tlF low r) ry) (ry.map fun _=>0)=mulR low ry rx
 | []=>rfl
 | d :: rx=>by rw [List.foldr_cons,mulR_fold low ry rx]; rfl
theorem zeros (ry:List Int):(List.replicate ry.length [D.int 0]).flatten=(ry.map fun _=>(0:Int)).map D.int:=by
 induction ry with
 | nil=>rfl
 | cons a r ih=>rw [List.length_cons,List.replicate_succ,List.flatten_cons,ih]; rfl
theorem rep_gen {N:Int} {n:Nat} (hN:N.toNat=n) (b:-9223372036854775808≤N∧N < 9223372036854775808∧n≤sizeLine) (c:List Cell):repD (.lst [.int 0]) (.int N) c=.ok (.lst (List.replicate n [D.int 0]).flatten) c:=by
 rw [x_rep,hN,if_pos ⟨by omega,by omega,by simp only [List.length_cons,List.length_nil]; omega⟩]
noncomputable def bM (L:List D→List Cell→R D) (Rp:D→D→List Cell→R D):Ev→List Cell→R Fl:=(sSeq (sDrop (dCall 2 m_require_things (dCons (dVar 0) (dCons (dTup (dCons (dVar 1) (dCons (dVar 2) dNil))) dNil)))) (sSeq (sSet 3 (dCall 2 m_row_of (dCons (dVar 0) (dCons (dVar 2) dNil)))) (sSeq (sSet 4 (dBin Rp (dLst (dCons (dC (.int 0)) dNil)) (dCB L (dCons (dVar 3) dNil)))) (sSeq (sFor (dRev (dCons (dCall 2 m_row_of (dCons (dVar 0) (dCons (dVar 1) dNil))) dNil)) (gdName 5) (sSet 4 (dComp (dZip2 (dCons (dCall 2 m_times_letter (dCons (dVar 0) (dCons (dVar 4) dNil))) (dCons (dVar 3) dNil))) [none,none,some 5] (gdTup 2 (gdCons (gdName 0) (gdCons (gdName 1) gdNil))) dYes (dBin addD (dVar 0) (dBin mulD (dVar 2) (dVar 1)))))) (sRet (dCall 2 m_number_of (dCons (dVar 0) (dCons (dVar 4) dNil))))))))
theorem bM_is:b_multiplied=bM lenD repD:=rfl
theorem mul_gen {L:List D→List Cell→R D} {Rp:D→D→List Cell→R D} {q x y N w:Int} {rx ry Z Y:List D} {c:List Cell} {v':Option D} (h0:m_require_things [.int q,.tup [.int x,.int y]] c=.ok .non c) (h1:m_row_of [.int q,.int y] c=.ok (.lst ry) c) (h2:m_row_of [.int q,.int x] c=.ok (.lst rx) c) (hlen:L [.lst ry] c=.ok (.int N) c)
  (hrep:Rp (.lst [.int 0]) (.int N) c=.ok (.lst Z) c) (hf:forD (fun _=>True) (gdName 5) mulB' rx.reverse [some (.int q),some (.int x),some (.int y),some (.lst ry),some (.lst Z),none] c=.ok (.nx [some (.int q),some (.int x),some (.int y),some (.lst ry),some (.lst Y),v']) c)
  (hn:m_number_of [.int q,.lst Y] c=.ok (.int w) c):fnD 6 false (bM L Rp) [.int q,.int x,.int y] c=.ok (.int w) c:=by
 unfold mulB' at hf
 simp [bM,h0,h1,h2,hlen,hrep,hf,hn]
theorem mul_ok {f:Fd} (h:f∈fds) {x y:Int} (x0:0≤x) (x1:x < f.q) (y0:0≤y) (y1:y < f.q) (c:List Cell):m_multiplied [.int f.q,.int x,.int y] c=.ok (.int (mulF f.p f.n f.low x y)) c:=by
 have I:=is_of h
 have n5:=I.n5
 have p2:=I.p2
 have p47:=I.p47
 have hs:=small_line (n:=1000) (by decide)
 have hb:=row_bd (p:=f.p) (by omega) f.n x
 obtain ⟨v',hf⟩:=mul_loop h (row_len f.p f.n y) c (some (.int x)) (some (.int y)) (rowF f.p f.n x).reverse ((rowF f.p f.n y).map fun _=>0) none (by simp [row_len]) (fun d hd=>by
  have:=hb d (List.mem_reverse.mp hd); omega)
 rw [List.foldl_reverse,mulR_fold,List.map_reverse] at hf
 have z0:=zeros (rowF f.p f.n y)
 rw [row_len] at z0
 have hlen:lenD [.lst ((rowF f.p f.n y).map D.int)] c=.ok (.int (f.n:Int)) c:=by
  rw [x_lenL,List.length_map,row_len]
 have hrep:=rep_gen (N:=f.n) (n:=f.n) (by omega) (by omega) c
 rw [z0] at hrep
 rw [m_multiplied,bM_is]
 exact mul_gen (things2 h x0 x1 y0 y1 c) (row_ok h y c) (row_ok h x c) hlen hrep hf (num_ok h (mulR (rowF f.p f.n f.low) (rowF f.p f.n y) (rowF f.p f.n x)) c)
theorem mul_M {f:Fd} (h:f∈fds) {x y:Nat} (hx:x < f.q) (hy:y < f.q) (c:List Cell):m_multiplied [.int f.q,.int x,.int y] c=.ok (.int (M f x y:Nat)) c:=by
 rw [mul_ok h (by omega) (by omega) (by omega) (by omega)]
 have:=(is_of h).mm x y hx hy
 unfold mI at this
 rw [this]
noncomputable def powB:Ev→List Cell→R Fl:=(sSet 3 (dCall 3 m_multiplied (dCons (dVar 0) (dCons (dVar 3) (dCons (dVar 1) dNil)))))
theorem pow_loop {f:Fd} (h:f∈fds) {x:Nat} (hx:x < f.q) (c:List Cell) (a2:Option D):∀ (items:List D) (k:Nat) (v4:Option D),
  ∃ v',forD (fun _=>True) (gdName 4) powB items [some (.int f.q),some (.int x),a2,some (.int (P f x k:Nat)),v4] c=.ok (.nx [some (.int f.q),some (.int x),a2,some (.int (P f x (k + items.length):Nat)),v']) c
 | [],k,v4=>⟨v4,by simp⟩
 | d :: ds,k,v4=>by
  obtain ⟨v',ih⟩:=pow_loop h hx c a2 ds (k + 1) (some d)
  refine ⟨v',?_⟩
  rw [for_cons]
  simp only [x_gname,List.set_cons_succ,List.set_cons_zero,R.bind_ok]
  have e:powB [some (.int f.q),some (.int x),a2,some (.int (P f x k:Nat)),some d] c=.ok (.nx [some (.int f.q),some (.int x),a2,some (.int (P f x (k + 1):Nat)),some d]) c:=by
   simp [powB,mul_M h (P_lt (is_of h) x k) hx]
   rfl
  rw [e]
  simp only [R.bind_ok]
  rw [ih,List.length_cons,Nat.add_assoc,Nat.add_comm 1]
theorem raised_gen {q x k K w:Int} {c:List Cell} {v':Option D} (hth:m_require_things [.int q,.tup [.int x]] c=.ok .non c) (x0:¬ x=0) (hmod:modD (.int k) (.int (q - 1)) c=.ok (.int K) c) (hK:-4611686018427387904≤K∧K < 4611686018427387904)
  (hf:forD (fun _=>True) (gdName 4) powB (rngD 0 K) [some (.int q),some (.int x),some (.int k),some (.int 1),none] c=.ok (.nx [some (.int q),some (.int x),some (.int k),some (.int w),v']) c):m_raised [.int q,.int x,.int k] c=.ok (.int w) c:=by
 unfold powB at hf
 simp [m_raised,b_raised,hth,x0,hmod]
 rw [if_pos hK]
 simp only [R.bind_ok]
 rw [hf]
 simp
theorem raised_zero {q k:Int} {c:List Cell} (hth:m_require_things [.int q,.tup [.int 0]] c=.ok .non c):m_raised [.int q,.int 0,.int k] c=.ok (.int (if k=0 then 1 else 0)) c:=by
 by_cases k0:k=0
 ·simp [m_raised,b_raised,hth,k0]
 ·simp [m_raised,b_raised,hth,k0]
theorem raised_ok {f:Fd} (h:f∈fds) {x k:Nat} (hx:x < f.q) (c:List Cell):m_raised [.int f.q,.int x,.int k] c=.ok (.int (Rz f x k:Nat)) c:=by
 have I:=is_of h
 have q2:=I.q2
 have hq:f.q≤1000:=by
  have:(fds.all fun f=>decide (f.q≤1000))=true:=by decide +kernel
  simpa using List.all_eq_true.mp this f h
 by_cases x0:x=0
 ·subst x0
  have e:=raised_zero (q:=f.q) (k:=k) (c:=c) (things1 h (x:=0) (by omega) (by omega) c)
  have z:((Rz f 0 k:Nat):Int)=if (k:Int)=0 then 1 else 0:=by
   unfold Rz
   rw [if_pos rfl]
   by_cases k0:k=0
   ·rw [if_pos k0,if_pos (by omega)]; rfl
   ·rw [if_neg k0,if_neg (by omega)]; rfl
  rw [z]
  exact e
 ·have hm:0 < (f.q:Int) - 1:=by omega
  have e:(k:Int) % ((f.q:Int) - 1)=((k % (f.q - 1):Nat):Int):=by
   rw [Int.natCast_emod,Int.natCast_sub (by omega)]; rfl
  have hlt:=Nat.mod_lt k (show 0 < f.q - 1 by omega)
  obtain ⟨v',hf⟩:=pow_loop h hx c (some (.int k)) (rngD 0 ((k % (f.q - 1):Nat):Int)) 0 none
  rw [rng_len,Nat.zero_add,show (((k % (f.q - 1):Nat):Int) - 0).toNat=k % (f.q - 1) by omega] at hf
  have p0:((P f x 0:Nat):Int)=1:=rfl
  rw [p0] at hf
  have hr:((Rz f x k:Nat):Int)=(P f x (k % (f.q - 1)):Nat):=by unfold Rz; rw [if_neg x0]
  rw [hr]
  exact raised_gen (things1 h (x:=(x:Int)) (by omega) (by omega) c) (by omega) (by rw [mod_c c hm,e]) (by omega) hf
theorem divided_ok {f:Fd} (h:f∈fds) {x y:Nat} (hx:x < f.q) (hy:y < f.q) (y0:y≠0) (c:List Cell):m_divided [.int f.q,.int x,.int y] c=.ok (.int (M f x (Rz f y (f.q - 2)):Nat)) c:=by
 have I:=is_of h
 have q2:=I.q2
 have e:(f.q:Int) - 2=((f.q - 2:Nat):Int):=by omega
 simp [m_divided,b_divided,things2 h (x:=x) (y:=y) (by omega) (by omega) (by omega) (by omega),y0,e,raised_ok h hy,mul_M h hx (Rz_lt I _ _)]
end Ev
namespace Ev
open PySem L2 Fq
noncomputable def Pot (j:Nat) (n:Nat) (c:List Cell):Prop:=c.length=n∧j < n∧∃ p:Int,c[j]? = some (.lst [.int p])
theorem Pot.set {j n:Nat} {c:List Cell} (h:Pot j n c) (p:Int):Pot j n (c.set j (.lst [.int p])):=by
  obtain ⟨h1,h2,_⟩:=h
  exact ⟨by simp [h1],h2,p,by rw [List.getElem?_set_self (by omega)]⟩
theorem take_ok {j n:Nat} {c:List Cell} {far:Int} (h:Pot j n c) (h0:0 < far) (h1:far < 1073741824) :
    ∃ (x:Int) (c':List Cell),0≤x∧x < far∧Pot j n c'∧m_law_take [.ref j,.int far] c=.ok (.int x) c':=by
  obtain ⟨hl,hj,p,hp⟩:=id h
  refine ⟨p % far,c.set j (.lst [.int (p / far)]),Int.emod_nonneg _ (by omega),Int.emod_lt_of_pos _ h0,h.set _,?_⟩
  have e1:ixD (.ref j) (.int 0) c=.ok (.int p) c:=by
    unfold ixD seqD
    simp [hp]
  have e2:setD (.ref j) (.int 0) (.int (p / far)) c=.ok () (c.set j (.lst [.int (p / far)])):=by
    unfold setD
    simp [hp,ixN]
  have e3:(c.set j (.lst [.int (p / far)])).take c.length=c.set j (.lst [.int (p / far)]):=by
    rw [List.take_of_length_le]; simp
  simp (disch:=omega) [m_law_take,b_law_take,e1,mod_c,div_c,e2,e3]
theorem pot_ok (cell:Int) (c:List Cell):∃ p:Int,m_law_pot [.int cell] c=.ok (.ref c.length) (c ++ [.lst [.int p]]):=by
  by_cases h:10 ^ 18≤cell
  · refine ⟨cell - 10 ^ 18,?_⟩
    simp (disch:=omega) [m_law_pot,b_law_pot,pow_c,h]
    rw [if_pos (by simpa using h)]
    simp [exitD]
  · obtain ⟨e',c',⟨⟨q,v1,v2,rfl⟩,rfl⟩,hf⟩:=for_inv (g:=gdName 2) (s:=(sSeq (sSet 3 (dBin modD (dBin mulD (dBin addD (dBin addD (dBin modD (dVar 0) (dC (.int 2147483629))) (dBin mulD (dC (.int 7919)) (dVar 2))) (dC (.int 1))) (dC (.int 48271))) (dC (.int 2147483647)))) (sSeq (sSet 3 (dBin modD (dBin addD (dBin addD (dBin mulD (dVar 3) (dVar 3)) (dBin mulD (dC (.int 69621)) (dVar 2))) (dC (.int 7))) (dC (.int 2147483587)))) (sSet 1 (dBin addD (dBin mulD (dVar 1) (dC (.int 2147483587))) (dVar 3))))))
      (fun e c'=>(∃ q v1 v2,e=[some (.int cell),some (.int q),v1,v2])∧c'=c) (rngD 0 64) [some (.int cell),some (.int 0),none,none] c ⟨⟨0,none,none,rfl⟩,rfl⟩ (fun x hx e c' ⟨⟨q,v1,v2,he⟩,hc⟩=>by
        obtain ⟨i,rfl,i0,i1⟩:=mem_rng hx
        subst he; subst hc
        have b0:0≤(cell % 2147483629 + 7919 * i + 1) * 48271 % 2147483647:=Int.emod_nonneg _ (by decide)
        have b1:(cell % 2147483629 + 7919 * i + 1) * 48271 % 2147483647 < 2147483647:=Int.emod_lt_of_pos _ (by decide)
        generalize hm:(cell % 2147483629 + 7919 * i + 1) * 48271 % 2147483647=m at b0 b1
        refine ⟨_,[some (.int cell),some (.int (q * 2147483587 + (m * m + 69621 * i + 7) % 2147483587)),some (.int i),some (.int ((m * m + 69621 * i + 7) % 2147483587))],_,_,rfl,by simp (disch:=omega) [mod_c,mul_l,mul_r,hm],⟨⟨_,_,_,rfl⟩,rfl⟩⟩)
    refine ⟨q,?_⟩
    have hh:¬ (1000000000000000000≤cell):=by simpa using h
    simp (disch:=omega) [m_law_pot,b_law_pot,pow_c,hh]
    rw [hf]
    simp [exitD]
theorem cell_ok (ns:List Int) (k:Int) (h:0≤k) (c:List Cell):∃ x:Int,m_law_cell_at [.scr ns,.int k] c=.ok (.int x) c:=by
  by_cases q:k < ns.length
  · have hk:k.toNat < ns.length:=by omega
    refine ⟨ns[k.toNat],?_⟩
    have e:ixD (.scr ns) (.int k) c=.ok (.int ns[k.toNat]) c:=by
      show (match atI (ns.map D.int) k with | some d=>R.ok d c | none=>R.bad)=_
      have:atI (ns.map D.int) k=some (.int ns[k.toNat]):=by
        have:=atI_nat (xs:=ns.map D.int) (j:=k.toNat) (v:=.int ns[k.toNat]) (by simp [hk])
        rw [Int.toNat_of_nonneg h] at this
        exact this
      rw [this]
    simp [m_law_cell_at,b_law_cell_at,q,e]
  · exact ⟨0,by simp [m_law_cell_at,b_law_cell_at,q]⟩
theorem field_at {y:Int} (y0:0≤y) (y1:y < 23):∃ f∈fds,atI [D.int 2,.int 3,.int 4,.int 5,.int 7,.int 8,.int 9,.int 11,.int 13,.int 16,.int 17,.int 19,.int 23,.int 25,.int 27,.int 29,.int 31,.int 32,.int 37,.int 41,.int 43,.int 47,.int 49] y=some (.int f.q):=by
  have gen:∀ (fs:List Fd) (k:Nat),k < fs.length→∃ f∈fs,(fs.map fun f=>D.int f.q)[k]? = some (.int f.q):=fun fs k hk=>⟨fs[k],List.getElem_mem hk,by rw [List.getElem?_map,List.getElem?_eq_getElem hk]; rfl⟩
  obtain ⟨f,hf,e⟩:=gen fds y.toNat (by rw [show fds.length=23 from rfl]; omega)
  refine ⟨f,hf,?_⟩
  have l:([D.int 2,.int 3,.int 4,.int 5,.int 7,.int 8,.int 9,.int 11,.int 13,.int 16,.int 17,.int 19,.int 23,.int 25,.int 27,.int 29,.int 31,.int 32,.int 37,.int 41,.int 43,.int 47,.int 49]:List D)=fds.map fun f=>D.int f.q:=rfl
  rw [l]
  have:=atI_nat (xs:=fds.map fun f=>D.int f.q) (j:=y.toNat) (v:=.int f.q) e
  rw [Int.toNat_of_nonneg y0] at this
  exact this
theorem nat_of {i:Int} (h:0≤i):∃ n:Nat,i=n:=⟨i.toNat,by omega⟩
theorem seq_ok {s t:Ev→List Cell→R Fl} {e e':Ev} {c c':List Cell} (h:s e c=.ok (.nx e') c'):sSeq s t e c=t e' c':=by rw [x_seq,h]; rfl
theorem q500 {f:Fd} (h:f∈fds):f.q≤50:=by
  have:(fds.all fun f=>decide (f.q≤50))=true:=by decide +kernel
  simpa using List.all_eq_true.mp this f h
noncomputable def someL (f:Fd):List Nat:=(List.range f.q).map fun t=>M f t t
noncomputable def sqL (f:Fd):List Nat:=(List.range (f.q - 1)).map fun t=>M f (t + 1) (t + 1)
noncomputable def sqE:Ev→List Cell→R D:=(dCall 3 m_multiplied (dCons (dVar 1) (dCons (dVar 0) (dCons (dVar 0) dNil))))
noncomputable def sqF (f:Fd):D→D
  | .int i=>.int (M f i.toNat i.toNat:Nat)
  | d=>d
theorem rng_sq1 (f:Fd):(rngD 1 (f.q:Int)).map (sqF f)=nD (sqL f):=by
  unfold rngD nD sqL
  rw [List.map_map,List.map_map,show ((f.q:Int) - 1).toNat=f.q - 1 by omega]
  refine List.map_congr_left fun t _=>?_
  have e:((1:Int) + (t:Int)).toNat=t + 1:=by omega
  simp [sqF,e]
theorem filt_true (l:List D):l.filter (fun _=>true)=l:=by simp
theorem sq_comp {f:Fd} (h:f∈fds) (c:List Cell):compD (fun _=>True) (gdName 0) dYes sqE (rngD 1 (f.q:Int)) [none,some (.int f.q)] [] c=.ok (nD (sqL f)) c:=by
  have:=comp_pure (c:=c) (g:=gdName 0) (t:=dYes) (a:=sqE) (fun e=>∃ v,e=[v,some (.int f.q)]) (fun _=>true) (sqF f) (rngD 1 (f.q:Int)) [none,some (.int f.q)] [] ⟨_,rfl⟩ (fun d hd e ⟨v,he⟩=>by
    subst he
    obtain ⟨i,rfl,i0,i1⟩:=mem_rng hd
    obtain ⟨t,rfl⟩:=nat_of (i:=i) (by omega)
    have ht:t < f.q:=by omega
    have hp:=mul_M h ht ht c
    refine ⟨_,rfl,⟨_,rfl⟩,rfl,fun _=>?_⟩
    simp only [sqE,sqF,x_call,x_cons,x_var,gz,gs,x_nil,R.bind_ok,List.set_cons_zero,List.length_cons,List.length_nil,if_pos,hp,Int.toNat_natCast])
  rw [this,List.nil_append,filt_true,rng_sq1]
theorem sort_nD {c:List Cell} {ns:List Nat} {a:Ev→List Cell→R (List D)} {e:Ev} {c0:List Cell} (ha:a e c0=.ok [.lst (nD ns)] c) (h:ns.length < 64) (hx:∀ x∈ns,x < 128):dSortSet a e c0=.ok (.lst (nD (ssort ns))) c:=by
  rw [x_sortset,ha,R.bind_ok]
  dsimp only
  rw [l_lst]
  dsimp only
  rw [natsD_nD (Nat.lt_of_le_of_lt (ssort_len ns) h) hx]
theorem sq_arg {q:Int} {c:List Cell} {l:List D} (b1:-4611686018427387904≤q∧q < 4611686018427387904) (hl:(rngD 1 q).length < sizeLine) (hc:compD (fun _=>True) (gdName 0) dYes sqE (rngD 1 q) [none,some (.int q)] [] c=.ok l c) :
    dCons (dComp (dRng2 (dCons (dC (.int 1)) (dCons (dVar 0) dNil))) [none,some 0] (gdName 0) dYes sqE) dNil [some (.int q)] c=.ok [.lst l] c:=by
  simp [pickD]
  rw [if_pos ⟨by omega,by omega⟩]
  simp only [R.bind_ok]
  rw [if_pos hl,hc]
  simp
theorem sq_small {f:Fd} (h:f∈fds):(sqL f).length < 64∧∀ x∈sqL f,x < 128:=by
  have hq:=q500 h
  have I:=is_of h
  refine ⟨by simp [sqL]; omega,fun x hx=>?_⟩
  obtain ⟨t,_,rfl⟩:=List.mem_map.mp hx
  have:=M_lt I (t + 1) (t + 1)
  omega
noncomputable def rootD (f:Fd) (y:Nat):D:=match (someL f).findIdx? (fun z=>z == y) with
  | some j=>.int (j:Nat)
  | none=>.non
theorem find_rng (g:Nat→Nat) (y:Nat):∀ (n s:Nat),(List.range' s n).findSome? (fun i=>if g i=y then some (D.int (i:Nat)) else none)=(((List.range' s n).map g).findIdx? (fun z=>z == y)).map fun j=>D.int ((s + j:Nat):Int)
  | 0,s=>rfl
  | n + 1,s=>by
    rw [List.range'_succ,List.findSome?_cons,List.map_cons,List.findIdx?_cons]
    by_cases e:g s=y
    · simp [e]
    · rw [if_neg e,find_rng g y n (s + 1)]
      have hb:(g s == y)=false:=by simp [e]
      rw [hb]
      cases ((List.range' (s + 1) n).map g).findIdx? (fun z=>z == y) with
      | none=>rfl
      | some j =>
        simp
        omega
noncomputable def rtP (f:Fd) (y:Nat):D→Option D
  | .int i=>if M f i.toNat i.toNat=y then some (.int i) else none
  | _=>none
theorem find_root (f:Fd) (y:Nat):(rngD 0 (f.q:Int)).findSome? (rtP f y)=((someL f).findIdx? (fun z=>z == y)).map fun j=>D.int (j:Nat):=by
  have:=find_rng (fun t=>M f t t) y f.q 0
  unfold rngD someL
  rw [show ((f.q:Int) - 0).toNat=f.q by omega,List.findSome?_map,List.range_eq_range']
  have e:(rtP f y ∘ fun i:Nat=>D.int (0 + (i:Int)))=fun i:Nat=>if M f i i=y then some (D.int (i:Nat)) else none:=by
    funext i
    simp [rtP]
  rw [e,this]
  simp
noncomputable def rtB:Ev→List Cell→R Fl:=(sIf (dBl (dBin eqD (dCall 3 m_multiplied (dCons (dVar 0) (dCons (dVar 2) (dCons (dVar 2) dNil)))) (dVar 1))) (sRet (dVar 2)) sNext)
theorem root_none {q y:Int} {c:List Cell} {v:Option D} (b1:-4611686018427387904≤q∧q < 4611686018427387904) (th:m_require_things [.int q,.tup [.int y]] c=.ok .non c) (hf:forD (fun _=>True) (gdName 2) rtB (rngD 0 q) [some (.int q),some (.int y),none] c=.ok (.nx [some (.int q),some (.int y),v]) c) :
    fnD 3 false (sSeq (sDrop (dCall 2 m_require_things (dCons (dVar 0) (dCons (dTup (dCons (dVar 1) dNil)) dNil)))) (sSeq (sFor (dRng1 (dCons (dVar 0) dNil)) (gdName 2) rtB) (sRet (dC .non)))) [.int q,.int y] c=.ok .non c:=by
  have h1:(1:Nat)≤sizeLine:=small_line (by decide)
  simp [th,h1]
  rw [if_pos b1]
  simp only [R.bind_ok]
  rw [hf]
  simp
theorem root_some {q y:Int} {c:List Cell} {d:Int} (b1:-4611686018427387904≤q∧q < 4611686018427387904) (th:m_require_things [.int q,.tup [.int y]] c=.ok .non c) (hf:forD (fun _=>True) (gdName 2) rtB (rngD 0 q) [some (.int q),some (.int y),none] c=.ok (.rt (.int d)) c) :
    fnD 3 false (sSeq (sDrop (dCall 2 m_require_things (dCons (dVar 0) (dCons (dTup (dCons (dVar 1) dNil)) dNil)))) (sSeq (sFor (dRng1 (dCons (dVar 0) dNil)) (gdName 2) rtB) (sRet (dC .non)))) [.int q,.int y] c=.ok (.int d) c:=by
  have h1:(1:Nat)≤sizeLine:=small_line (by decide)
  simp [th,h1]
  rw [if_pos b1]
  simp only [R.bind_ok]
  rw [hf]
  simp
theorem root_ok {f:Fd} (h:f∈fds) {y:Nat} (hy:y < f.q) (c:List Cell):m_root_in [.int f.q,.int y] c=.ok (rootD f y) c:=by
  have hq:=q500 h
  have hf:=for_find (c:=c) (g:=gdName 2) (s:=rtB) (fun e=>∃ v,e=[some (.int f.q),some (.int y),v]) (rtP f y) (rngD 0 (f.q:Int)) [some (.int f.q),some (.int y),none] ⟨_,rfl⟩ (fun d hd e ⟨v,he⟩=>by
    subst he
    obtain ⟨i,rfl,i0,i1⟩:=mem_rng hd
    obtain ⟨t,rfl⟩:=nat_of i0
    have ht:t < f.q:=by omega
    have hp:=mul_M h ht ht c
    refine ⟨_,[some (.int f.q),some (.int y),some (.int t)],rfl,⟨_,rfl⟩,?_⟩
    by_cases e:M f t t=y
    · simp [rtB,rtP,hp,e]
    · have e':¬ ((M f t t:Nat):Int)=y:=by omega
      simp [rtB,rtP,hp,e,e'])
  rw [find_root] at hf
  have th:=things1 h (x:=y) (by omega) (by omega) c
  have hb:b_root_in=sSeq (sDrop (dCall 2 m_require_things (dCons (dVar 0) (dCons (dTup (dCons (dVar 1) dNil)) dNil)))) (sSeq (sFor (dRng1 (dCons (dVar 0) dNil)) (gdName 2) rtB) (sRet (dC .non))):=rfl
  rw [m_root_in,hb]
  unfold rootD
  cases hj:(someL f).findIdx? (fun z=>z == y) with
  | none =>
    rw [hj] at hf
    obtain ⟨e',⟨v,rfl⟩,hf⟩:=hf
    exact root_none (by omega) th hf
  | some j =>
    rw [hj] at hf
    exact root_some (by omega) th hf
theorem dat_nD:∀ ns:List Nat,datDs (nD ns)=some (ns.map fun n:Nat=>PyData.int (n:Int))
  | []=>rfl
  | n :: ns=>by
    have:=dat_nD ns
    unfold nD at this ⊢
    simp [datDs,datD,this]
noncomputable def st1:Ev→List Cell→R Fl:=(sSet 3 (dBin ixD (dCall 0 m_law_fields dNil) (dCall 2 m_law_take (dCons (dVar 2) (dCons (dBin ixD (dLst (dCons (dC (.int 18)) (dCons (dC (.int 18)) (dCons (dC (.int 18)) (dCons (dC (.int 18)) (dCons (dC (.int 18)) (dCons (dC (.int 23)) dNil))))))) (dCall 2 m_law_take (dCons (dVar 2) (dCons (dC (.int 6)) dNil)))) dNil)))))
section
variable {q x p y far:Int} {form l m:List D} {j:Nat} {ns:List Int} {c c' c1:List Cell} (a0 a1 v2 v3 v4 v5 v6 v7 v8 v9 v10:Option D)
end
noncomputable def powI (f:Fd) (t:Nat):Nat→List Int
  | 0=>[1]
  | n + 1=>powI f t n ++ [((P f t (n + 1):Nat):Int)]
theorem powI_len (f:Fd) (t:Nat):∀ n,(powI f t n).length=n + 1
  | 0=>rfl
  | n + 1=>by rw [powI,List.length_append,powI_len f t n]; rfl
theorem last_app:∀ (l:List Int) (x:Int),lastI (l ++ [x])=x
  | [],x=>rfl
  | [a],x=>rfl
  | a :: b :: l,x=>by
    have:=last_app (b :: l) x
    simpa [lastI] using this
theorem powI_last (f:Fd) (t:Nat):∀ n,lastI (powI f t n)=(P f t n:Nat)
  | 0=>rfl
  | n + 1=>by rw [powI,last_app]
theorem powI_ne (f:Fd) (t n:Nat):powI f t n≠[]:=fun h=>by have:=powI_len f t n; rw [h] at this; cases this
theorem ix_last {c:List Cell} {r:List Int} (hr:r≠[]):ixD (.ref c.length) (.int (-1)) (c ++ [.lst (r.map D.int)])=.ok (.int (lastI r)) (c ++ [.lst (r.map D.int)]):=by
  unfold ixD seqD
  simp only [List.getElem?_concat_length,at_last hr]
noncomputable def mkB:Ev→List Cell→R Fl:=(sDrop (dAppend (dVar 2) (dCall 3 m_multiplied (dCons (dVar 0) (dCons (dBin ixD (dVar 2) (dUn negD (dC (.int 1)))) (dCons (dVar 1) dNil))))))
theorem mk_step {q:Int} {r:List Int} {t w:Int} {c:List Cell} (hr:r≠[]) (hl:r.length < 1000) (hm:m_multiplied [.int q,.int (lastI r),.int t] (c ++ [.lst (r.map D.int)])=.ok (.int w) (c ++ [.lst (r.map D.int)])) (v3:Option D) :
    mkB [some (.int q),some (.int t),some (.ref c.length),v3] (c ++ [.lst (r.map D.int)])=.ok (.nx [some (.int q),some (.int t),some (.ref c.length),v3]) (c ++ [.lst ((r ++ [w]).map D.int)]):=by
  have h:=append_here (c:=c) (acc:=r.map D.int) (y:=.int w) (dO:=dVar 2) (da:=dCall 3 m_multiplied (dCons (dVar 0) (dCons (dBin ixD (dVar 2) (dUn negD (dC (.int 1)))) (dCons (dVar 1) dNil)))) (e:=[some (.int q),some (.int t),some (.ref c.length),v3]) (by simp) (by
    simp only [x_call,x_cons,x_var,gz,gs,x_bin,x_un,x_c,x_neg,x_nil,R.bind_ok,ix_last hr,List.length_cons,List.length_nil,if_pos,hm]) rfl (by rw [List.length_map]; have:=small_line (n:=1000) (by decide); omega)
  unfold mkB
  rw [x_drop,h,List.map_append]
  rfl
noncomputable def isMk (f:Fd) (t:Nat):Bool:=Nat.beq (distN (powI f t (f.q - 2))) (f.q - 1)
noncomputable def bMk (S:Ev→List Cell→R Src) (Rt:Ev→List Cell→R Fl) (G:Ev→List Cell→R Fl):Ev→List Cell→R Fl:=(sSeq (sSet 2 (dLstM (dCons (dC (.int 1)) dNil))) (sSeq (sFor S (gdName 3) G) Rt))
theorem bMk_is:b_is_maker=bMk (dRng1 (dCons (dBin subD (dVar 0) (dC (.int 2))) dNil)) (sRet (dBin eqD (dLenSet (dCons (dVar 2) dNil)) (dBin subD (dVar 0) (dC (.int 1))))) mkB:=rfl
theorem mk_gen {S:Ev→List Cell→R Src} {Rt G:Ev→List Cell→R Fl} {its:List D} {q t:Int} {c C:List Cell} {v3:Option D} {b:Bool} (hS:S [some (.int q),some (.int t),some (.ref c.length),none] (c ++ [.lst [.int 1]])=.ok ⟨its,fun _=>True⟩ (c ++ [.lst [.int 1]]))
    (hf:forD (fun _=>True) (gdName 3) G its [some (.int q),some (.int t),some (.ref c.length),none] (c ++ [.lst [.int 1]])=.ok (.nx [some (.int q),some (.int t),some (.ref c.length),v3]) (c ++ C)) (hR:Rt [some (.int q),some (.int t),some (.ref c.length),v3] (c ++ C)=.ok (.rt (.bl b)) (c ++ C)):fnD 4 false (bMk S Rt G) [.int q,.int t] c=.ok (.bl b) c:=by
  have key:bMk S Rt G [some (.int q),some (.int t),none,none] c=.ok (.rt (.bl b)) (c ++ C):=by
    simp [bMk,hS,hf,hR]
  rw [x_fn]
  show R.bind (bMk S Rt G [some (.int q),some (.int t),none,none] c) _=_
  rw [key]
  simp
theorem mk_rng {q N t:Int} {c:List Cell} {d v:Option D} (hN:q - 2=N) (b1:-4611686018427387904≤N∧N < 4611686018427387904):(dRng1 (dCons (dBin subD (dVar 0) (dC (.int 2))) dNil)) [some (.int q),some (.int t),d,v] c=.ok ⟨rngD 0 N,fun _=>True⟩ c:=by
  rw [x_rng1,x_cons,x_bin,x_var,gz,R.bind_ok,x_c,R.bind_ok,x_sub,R.bind_ok,x_nil,R.bind_ok,R.bind_ok,hN]
  show (if -(2 ^ 62)≤N∧N < 2 ^ 62 then R.ok (Src.mk (rngD 0 N) fun _=>True) c else R.bad)=_
  rw [if_pos (by omega)]
theorem mk_ret {q t:Int} {r:List Int} {c:List Cell} {v:Option D} (hl:r.length < 1000):(sRet (dBin eqD (dLenSet (dCons (dVar 2) dNil)) (dBin subD (dVar 0) (dC (.int 1))))) [some (.int q),some (.int t),some (.ref c.length),v] (c ++ [.lst (r.map D.int)])=.ok (.rt (.bl (decide ((distN r:Int)=q - 1)))) (c ++ [.lst (r.map D.int)]):=by
  have hlst:lstD (c ++ [.lst (r.map D.int)]) (.ref c.length)=some (r.map D.int):=by simp [lstD]
  simp only [x_ret,x_bin,x_lenset,x_cons,x_var,gz,gs,x_nil,x_c,R.bind_ok,hlst,intsD_map,x_sub]
  rw [if_pos hl]
  simp only [R.bind_ok,x_eqi]
theorem mk_ok {f:Fd} (h:f∈fds) {t:Nat} (ht:t < f.q) (c:List Cell):m_is_maker [.int f.q,.int t] c=.ok (.bl (isMk f t)) c:=by
  have I:=is_of h
  have q2:=I.q2
  have hq:f.q≤500:=by
    have:(fds.all fun f=>decide (f.q≤500))=true:=by decide +kernel
    simpa using List.all_eq_true.mp this f h
  obtain ⟨v',hf⟩:=for_rng (g:=gdName 3) (s:=mkB) (N:=((f.q - 2:Nat):Int)) (n:=f.q - 2) (fun i=>c ++ [.lst ((powI f t i).map D.int)]) (fun _ v=>[some (.int f.q),some (.int t),some (.ref c.length),v]) rfl none (fun i hi v=>by
    refine ⟨_,rfl,some (.int i),?_⟩
    exact mk_step (powI_ne f t i) (by rw [powI_len]; omega) (by rw [powI_last]; exact mul_M h (P_lt I t i) ht _) _)
  have e:isMk f t=decide ((distN (powI f t (f.q - 2)):Int)=(f.q:Int) - 1):=by
    unfold isMk
    cases hb:Nat.beq (distN (powI f t (f.q - 2))) (f.q - 1) with
    | true=>rw [decide_eq_true]; have:=be hb; omega
    | false=>
      rw [decide_eq_false]
      intro z
      have:distN (powI f t (f.q - 2))=f.q - 1:=by omega
      rw [this] at hb; simp at hb
  rw [m_is_maker,bMk_is,e]
  exact mk_gen (mk_rng (N:=((f.q - 2:Nat):Int)) (by omega) (by omega)) hf (mk_ret (by rw [powI_len]; omega))
noncomputable def rndF (f:Fd) (t:Nat):Nat→Nat→Nat→Option Nat
  | 0,_,_=>none
  | n + 1,pw,st=>cond (Nat.ble 2 pw && Nat.ble (st + 1) f.q) (rndF f t n (Mk f pw t) (st + 1)) (some st)
noncomputable def rOk (f:Fd) (t:Nat):Bool:=match rndF f t 60 t 1 with
  | some r=>!Nat.beq r (f.q - 1)
  | none=>false
noncomputable def chkK (f:Fd):Bool:=((List.range f.g).all fun t=>Nat.beq t 0 || (rOk f t && !isMk f t)) && isMk f f.g && (match rndF f f.g 60 f.g 1 with | some r=>Nat.beq r (f.q - 1) | none=>false)
theorem all_K:fds.all chkK=true:=by decide +kernel
theorem K_of {f:Fd} (h:f∈fds):(∀ t,1≤t→t < f.g→isMk f t=false∧∃ r,rndF f t 60 t 1=some r∧r≠f.q - 1)∧isMk f f.g=true∧rndF f f.g 60 f.g 1=some (f.q - 1):=by
  have hK:=List.all_eq_true.mp all_K f h
  simp only [chkK,Bool.and_eq_true] at hK
  obtain ⟨⟨k1,k2⟩,k3⟩:=hK
  refine ⟨fun t t1 t2=>?_,k2,?_⟩
  · have:=List.all_eq_true.mp k1 t (List.mem_range.mpr t2)
    simp only [Bool.or_eq_true,Bool.and_eq_true,Bool.not_eq_true'] at this
    rcases this with this | ⟨h1,h2⟩
    · have:=be this; omega
    · refine ⟨h2,?_⟩
      unfold rOk at h1
      split at h1
      · rename_i r hr
        refine ⟨r,hr,fun z=>?_⟩
        rw [z] at h1; simp at h1
      · cases h1
  · split at k3
    · rename_i r hr
      rw [hr,be k3]
    · cases k3
theorem minL_le:∀ (l:List Int) (a:Int),(∀ x∈l,a≤x)→minL a l=a
  | [],a,_=>rfl
  | b :: l,a,h=>by
    have hb:=h b List.mem_cons_self
    rw [minL,if_neg (by omega)]
    exact minL_le l a fun x hx=>h x (List.mem_cons_of_mem _ hx)
theorem least_filter (P:Nat→Bool) (g:Nat):∀ (k s:Nat),s≤g→g < s + k→(∀ t,s≤t→t < g→P t=false)→P g=true→∃ r,(List.range' s k).filter P=g :: r∧∀ x∈r,g≤x
  | 0,s,h1,h2,_,_=>by omega
  | k + 1,s,h1,h2,h3,h4=>by
    rw [List.range'_succ,List.filter_cons]
    by_cases e:s=g
    · subst e
      rw [h4,if_pos rfl]
      refine ⟨_,rfl,fun x hx=>?_⟩
      have:=(List.mem_filter.mp hx).1
      rw [List.mem_range'] at this
      obtain ⟨i,_,hi⟩:=this
      omega
    · rw [h3 s (Nat.le_refl _) (by omega),if_neg Bool.false_ne_true]
      exact least_filter P g k (s + 1) (by omega) (by omega) (fun t t1 t2=>h3 t (by omega) t2) h4
theorem comp_mk {f:Fd} (h:f∈fds) (c:List Cell):∃ r:List Int,compD (fun _=>True) (gdName 0) (dBl (dCall 2 m_is_maker (dCons (dVar 1) (dCons (dVar 0) dNil)))) (dVar 0) (rngD 1 (f.q:Int)) [none,some (.int f.q)] [] c=.ok ((((f.g:Nat):Int) :: r).map D.int) c∧∀ x∈r,((f.g:Nat):Int)≤x:=by
  have I:=is_of h
  have:=comp_pure (c:=c) (g:=gdName 0) (t:=dBl (dCall 2 m_is_maker (dCons (dVar 1) (dCons (dVar 0) dNil)))) (a:=dVar 0) (fun e=>∃ v,e=[v,some (.int f.q)]) (fun d=>match d with | .int i=>isMk f i.toNat | _=>false) id
    (rngD 1 (f.q:Int)) [none,some (.int f.q)] [] ⟨none,rfl⟩ (fun d hd e ⟨v,he⟩=>by
      subst he
      obtain ⟨i,rfl,i0,i1⟩:=mem_rng hd
      obtain ⟨t,rfl⟩:=nat_of (i:=i) (by omega)
      have hm:=mk_ok h (t:=t) (by omega) c
      refine ⟨_,rfl,⟨_,rfl⟩,?_,fun _=>rfl⟩
      simp only [x_bl,x_call,x_cons,x_var,gz,gs,x_nil,R.bind_ok,List.set_cons_zero,List.length_cons,List.length_nil,if_pos,hm,Int.toNat_natCast])
  obtain ⟨k1,k2,_⟩:=K_of h
  obtain ⟨r,hr,hle⟩:=least_filter (isMk f) f.g (f.q - 1) 1 I.g1 (by have:=I.gq; omega) (fun t t1 t2=>(k1 t t1 t2).1) k2
  refine ⟨r.map fun n:Nat=>(n:Int),?_,fun x hx=>?_⟩
  · rw [this,List.nil_append,List.map_id]
    congr 1
    have e1:rngD 1 (f.q:Int)=(List.range' 1 (f.q - 1)).map fun n:Nat=>D.int n:=by
      unfold rngD
      rw [show ((f.q:Int) - 1).toNat=f.q - 1 by omega,List.range'_eq_map_range,List.map_map]
      apply List.map_congr_left
      intro i _
      simp
    rw [e1,List.filter_map]
    have e2:(List.range' 1 (f.q - 1)).filter ((fun d:D=>match d with | .int i=>isMk f i.toNat | _=>false) ∘ fun n:Nat=>D.int n)=f.g :: r:=by
      rw [← hr]
      apply List.filter_congr
      intro t _
      simp
    rw [e2]
    simp
  · obtain ⟨n,hn,rfl⟩:=List.mem_map.mp hx
    have:=hle n hn
    omega
noncomputable def bMa:Ev→List Cell→R Fl:=(sSeq (sDrop (dCall 1 m_require_field (dCons (dVar 0) dNil))) (sRet (dCB minLD (dCons (dComp (dRng2 (dCons (dC (.int 1)) (dCons (dVar 0) dNil))) [none,some 0] (gdName 0) (dBl (dCall 2 m_is_maker (dCons (dVar 1) (dCons (dVar 0) dNil)))) (dVar 0)) dNil))))
theorem ma_gen {q a:Int} {r:List Int} {c:List Cell} (h0:m_require_field [.int q] c=.ok .non c) (b1:-4611686018427387904≤q∧q < 4611686018427387904) (hl:(rngD 1 q).length < sizeLine) (hc:compD (fun _=>True) (gdName 0) (dBl (dCall 2 m_is_maker (dCons (dVar 1) (dCons (dVar 0) dNil)))) (dVar 0) (rngD 1 q) [none,some (.int q)] [] c=.ok ((a :: r).map D.int) c) (hr:∀ x∈r,a≤x):fnD 1 false bMa [.int q] c=.ok (.int a) c:=by
  have hm:minLD [.lst ((a :: r).map D.int)] c=.ok (.int a) c:=by
    unfold minLD
    simp only [intsD_map]
    rw [minL_le r a hr]
  simp [bMa,h0,pickD]
  rw [if_pos ⟨by omega,by omega⟩]
  simp only [R.bind_ok]
  rw [if_pos hl,hc]
  simp only [R.bind_ok,hm]
  simp
theorem maker_ok {f:Fd} (h:f∈fds) (c:List Cell):m_maker [.int f.q] c=.ok (.int (f.g:Nat)) c:=by
  have I:=is_of h
  have q2:=I.q2
  have hq:f.q≤500:=by
    have:(fds.all fun f=>decide (f.q≤500))=true:=by decide +kernel
    simpa using List.all_eq_true.mp this f h
  have hs:=small_line (n:=1000) (by decide)
  obtain ⟨r,hc,hr⟩:=comp_mk h c
  have e:m_maker=fnD 1 false bMa:=rfl
  rw [e]
  exact ma_gen (require_field_ok h c) (by omega) (by rw [rng_len]; omega) hc hr
theorem sq_gen {q:Int} {c:List Cell} {S:Ev→List Cell→R D} {l:List D} (h0:m_require_field [.int q] c=.ok .non c) (hS:S [some (.int q)] c=.ok (.lst l) c) (nr:noRefs l=true) :
    fnD 1 false (sSeq (sDrop (dCall 1 m_require_field (dCons (dVar 0) dNil))) (sRet S)) [.int q] c=.ok (.lst l) c:=by
  simp [h0,hS,nr]
theorem squares_ok {f:Fd} (h:f∈fds) (c:List Cell):m_squares_in [.int f.q] c=.ok (.lst (nD (ssort (sqL f)))) c:=by
  have hq:=q500 h
  have hs:=small_line (n:=1000) (by decide)
  exact sq_gen (require_field_ok h c) (sort_nD (sq_arg (by omega) (by rw [rng_len]; omega) (sq_comp h c)) (sq_small h).1 (sq_small h).2) (noRefs_nD _)
end Ev
namespace Ev
open PySem L2 Fq
noncomputable def webD (rows:List (List Nat)):D:=.tup (rows.map fun r=>.tup (nD r))
theorem web_noref (rows:List (List Nat)):noRef (webD rows)=true:=by
 unfold webD noRef
 refine noRefs_iff.mpr fun d hd=>?_
 obtain ⟨r,_,rfl⟩:=List.mem_map.mp hd
 unfold noRef
 exact noRefs_nD r
theorem rng_nD (n:Nat):rngD 0 (n:Int)=nD (List.range n):=by
 apply List.ext_getElem?
 intro i
 by_cases h:i < n
 ·have h1:i < (rngD 0 (n:Int)).length:=by rw [rng_len]; omega
  have:=rng_get (List.getElem?_eq_getElem h1)
  rw [List.getElem?_eq_getElem h1,this.2]
  simp [nD,h]
 ·rw [List.getElem?_eq_none (by rw [rng_len]; omega),List.getElem?_eq_none (by simp [nD]; omega)]
theorem filt_comp {α:Type} {E:List (Option D)} {t:Ev→List Cell→R Bool} {a:Ev→List Cell→R D} {c:List Cell} (g F:α→D) (b:α→Bool):∀ (l:List α) (v:Option D) (acc:List D),(∀ x∈l,t (some (g x) :: E) c=.ok (b x) c)→(∀ x∈l,b x=true→a (some (g x) :: E) c=.ok (F x) c)→compD (fun _=>True) (gdName 0) t a (l.map g) (v :: E) acc c=.ok (acc ++ (l.filter b).map F) c
 | [],v,acc,_,_=>by simp
 | x :: l,v,acc,h1,h2=>by
  have e1:gdName 0 (g x) (v :: E) c=.ok (some (g x) :: E) c:=rfl
  rw [List.map_cons,comp_cons,e1,R.bind_ok,h1 x (.head _),R.bind_ok]
  cases hb:b x with
  | true =>
   rw [if_pos rfl,h2 x (.head _) hb,R.bind_ok,filt_comp g F b l _ _ (fun z hz=>h1 z (.tail _ hz)) (fun z hz=>h2 z (.tail _ hz)),List.filter_cons_of_pos hb,List.append_assoc]
   rfl
  | false =>
   rw [if_neg (by decide),filt_comp g F b l _ _ (fun z hz=>h1 z (.tail _ hz)) (fun z hz=>h2 z (.tail _ hz)),List.filter_cons_of_neg (by simp [hb])]
noncomputable def rwT:Ev→List Cell→R Bool:=(dAndT (dBl (dBin neD (dVar 0) (dVar 1))) (dBl (dCallL 2 2 lams (dCons (dVar 1) (dCons (dVar 0) dNil)))))
noncomputable def wRow (n:Nat) (f:Nat→Nat→Bool) (i:Nat):List Nat:=(List.range n).filter fun j=>decide (j≠i) && f i j
noncomputable def wAll (n:Nat) (f:Nat→Nat→Bool):List (List Nat):=(List.range n).map (wRow n f)
section
variable {k n:Nat} {E:Expr} {ns:List Str} {l:List D} {m:List D→List Cell→R D} {c:List Cell} {f:Nat→Nat→Bool}
theorem row_t {one j:Nat} (hk:lams[k]? = some (E,ns,m)) (hl:noLams l=true) (hm:j≠one→m ([.int one,.int j] ++ l) c=.ok (.bl (f one j)) c) :
  rwT [some (.int j),some (.int one),some (.lam k E ns l)] c=.ok (decide (j≠one) && f one j) c:=by
 unfold rwT
 by_cases h:j=one
 ·subst h; simp
 ·have h':¬ ((j:Int)=one):=by omega
  have hc:dCallL 2 2 lams (dCons (dVar 1) (dCons (dVar 0) dNil)) [some (.int j),some (.int one),some (.lam k E ns l)] c=.ok (.bl (f one j)) c:=by
   rw [x_callL 2 2 lams _ _ c (k:=k) (Ex:=E) (ns:=ns) (l:=l) rfl hk]
   simp only [x_cons,x_var,gz,gs,x_nil,R.bind_ok]
   rw [if_pos ⟨rfl,rfl,hl⟩]
   exact hm h
  simp [h,h',hc]
theorem row_gen7 {q:Int} {one L:D} {r:List D} (bq:-4611686018427387904≤q∧q < 4611686018427387904) (hlen:(rngD 0 q).length < sizeLine) (hc:compD (fun _=>True) (gdName 0) rwT (dVar 0) (rngD 0 q) [none,some one,some L] [] c=.ok r c) (nr:noRef (.tup r)=true):m_row_where [.int q,one,L] c=.ok (.tup r) c:=by
 have hb:b_row_where=sRet (dCB tupleD (dCons (dComp (dRng1 (dCons (dVar 0) dNil)) [none,some 1,some 2] (gdName 0) rwT (dVar 0)) dNil)):=rfl
 rw [m_row_where,x_fn,hb]
 have es:startD 3 [D.int q,one,L]=[some (.int q),some one,some L]:=rfl
 rw [es]
 simp only [x_ret,x_cb,x_cons,x_comp,x_rng1,x_var,gz,gs,x_nil,R.bind_ok]
 rw [if_pos (by omega)]
 simp only [R.bind_ok]
 rw [if_pos hlen]
 have ep:pickD [none,some 1,some 2] [some (D.int q),some one,some L]=[none,some one,some L]:=rfl
 rw [ep,hc]
 simp only [R.bind_ok]
 show exitD false c.length (.tup r) c=_
 unfold exitD
 dsimp only
 rw [if_pos nr,List.take_length]
theorem wwh_gen {q:Int} {L:D} {r:List D} (bq:-4611686018427387904≤q∧q < 4611686018427387904) (hlen:(rngD 0 q).length < sizeLine) (hc:compD (fun _=>True) (gdName 0) dYes (dCall 3 m_row_where (dCons (dVar 1) (dCons (dVar 0) (dCons (dVar 2) dNil)))) (rngD 0 q) [none,some (.int q),some L] [] c=.ok r c) (nr:noRef (.tup r)=true):m_web_where [.int q,L] c=.ok (.tup r) c:=by
 have hb:b_web_where=sRet (dCB tupleD (dCons (dComp (dRng1 (dCons (dVar 0) dNil)) [none,some 0,some 1] (gdName 0) dYes (dCall 3 m_row_where (dCons (dVar 1) (dCons (dVar 0) (dCons (dVar 2) dNil))))) dNil)):=rfl
 rw [m_web_where,x_fn,hb]
 have es:startD 2 [D.int q,L]=[some (.int q),some L]:=rfl
 rw [es]
 simp only [x_ret,x_cb,x_cons,x_comp,x_rng1,x_var,gz,gs,x_nil,R.bind_ok]
 rw [if_pos (by omega)]
 simp only [R.bind_ok]
 rw [if_pos hlen]
 have ep:pickD [none,some 0,some 1] [some (D.int q),some L]=[none,some (.int q),some L]:=rfl
 rw [ep,hc]
 simp only [R.bind_ok]
 show exitD false c.length (.tup r) c=_
 unfold exitD
 dsimp only
 rw [if_pos nr,List.take_length]
theorem noRef_tup {l:List D} (h:noRefs l=true):noRef (.tup l)=true:=by unfold noRef; exact h
theorem len_rng (hn:n < 1000):(rngD 0 (n:Int)).length < sizeLine:=by
 have hs:=small_line (n:=1000) (by decide)
 rw [rng_len]; omega
theorem row_b1 (hn:n < 1000):-4611686018427387904≤(n:Int)∧(n:Int) < 4611686018427387904:=by omega
theorem row_f1 {one:Nat} {L:D} {r:List Nat} (hc:compD (fun _=>True) (gdName 0) rwT (dVar 0) ((List.range n).map fun j:Nat=>D.int (j:Int)) [none,some (.int one),some L] [] c=.ok (r.map fun j:Nat=>D.int (j:Int)) c):compD (fun _=>True) (gdName 0) rwT (dVar 0) (rngD 0 (n:Int)) [none,some (.int one),some L] [] c=.ok (nD r) c:=by rw [rng_nD]; exact hc
theorem row_fin {one:Nat} {L:D} {r:List Nat} (hn:n < 1000) (hc:compD (fun _=>True) (gdName 0) rwT (dVar 0) ((List.range n).map fun j:Nat=>D.int (j:Int)) [none,some (.int one),some L] [] c=.ok (r.map fun j:Nat=>D.int (j:Int)) c) :
  m_row_where [.int n,.int one,L] c=.ok (.tup (nD r)) c:=row_gen7 (row_b1 hn) (len_rng hn) (row_f1 hc) (noRef_tup (noRefs_nD _))
theorem row_ok7 {one:Nat} (hk:lams[k]? = some (E,ns,m)) (hl:noLams l=true) (hn:n < 1000) (hm:∀ j,j < n→j≠one→m ([.int one,.int j] ++ l) c=.ok (.bl (f one j)) c) :
  m_row_where [.int n,.int one,.lam k E ns l] c=.ok (.tup (nD (wRow n f one))) c:=by
 have hc:=filt_comp (E:=[some (.int one),some (.lam k E ns l)]) (t:=rwT) (a:=dVar 0) (c:=c) (fun j:Nat=>D.int (j:Int)) (fun j:Nat=>D.int (j:Int)) (fun j=>decide (j≠one) && f one j) (List.range n) none [] (fun j hj=>row_t hk hl (hm j (List.mem_range.mp hj))) (fun j _ _=>rfl)
 rw [List.nil_append] at hc
 exact row_fin hn hc
theorem call3 {m:List D→List Cell→R D} {x y z:D} {r:R D} (h:m [x,y,z] c=r):(if [x,y,z].length=3 then m [x,y,z] c else .bad)=r:=by
 rw [if_pos (by rfl)]; exact h
theorem web_fin {L:D} {w:List (List Nat)} (hn:n < 1000) (hc:compD (fun _=>True) (gdName 0) dYes (dCall 3 m_row_where (dCons (dVar 1) (dCons (dVar 0) (dCons (dVar 2) dNil)))) (rngD 0 (n:Int)) [none,some (.int n),some L] [] c=.ok (w.map fun r=>.tup (nD r)) c):m_web_where [.int n,L] c=.ok (webD w) c:=wwh_gen (row_b1 hn) (len_rng hn) hc (web_noref _)
theorem call_step3 {m:List D→List Cell→R D} {x y z:D} {r:R D} (h:m [y,x,z] c=r):dCall 3 m (dCons (dVar 1) (dCons (dVar 0) (dCons (dVar 2) dNil))) [some x,some y,some z] c=r:=by
 simp only [x_call,x_cons,x_var,gz,gs,x_nil,R.bind_ok]
 exact call3 h
theorem web_step {i:Nat} {L:D} {r:List Nat} (h:m_row_where [.int n,.int i,L] c=.ok (.tup (nD r)) c):dCall 3 m_row_where (dCons (dVar 1) (dCons (dVar 0) (dCons (dVar 2) dNil))) [some (.int i),some (.int n),some L] c=.ok (.tup (nD r)) c:=call_step3 h
theorem web_comp {L:D} {g:Nat→List Nat} (h:∀ i,i < n→m_row_where [.int n,.int i,L] c=.ok (.tup (nD (g i))) c):compD (fun _=>True) (gdName 0) dYes (dCall 3 m_row_where (dCons (dVar 1) (dCons (dVar 0) (dCons (dVar 2) dNil)))) (rngD 0 (n:Int)) [none,some (.int n),some L] [] c=.ok (((List.range n).map g).map fun r=>.tup (nD r)) c:=by
 have hc:=filt_comp (E:=[some (.int n),some L]) (t:=dYes) (a:=dCall 3 m_row_where (dCons (dVar 1) (dCons (dVar 0) (dCons (dVar 2) dNil)))) (c:=c) (fun j:Nat=>D.int (j:Int)) (fun j:Nat=>D.tup (nD (g j))) (fun _=>true) (List.range n) none [] (fun j hj=>rfl) (fun i hi _=>web_step (h i (List.mem_range.mp hi)))
 have ft:(List.range n).filter (fun _=>true)=List.range n:=by simp
 rw [List.nil_append,ft] at hc
 rw [List.map_map,rng_nD]
 exact hc
theorem web_ok (hk:lams[k]? = some (E,ns,m)) (hl:noLams l=true) (hn:n < 1000) (hm:∀ i j,i < n→j < n→j≠i→m ([.int i,.int j] ++ l) c=.ok (.bl (f i j)) c) :
  m_web_where [.int n,.lam k E ns l] c=.ok (webD (wAll n f)) c:=web_fin hn (web_comp fun i hi=>row_ok7 hk hl hn fun j hj hne=>hm i j hi hj hne)
end
theorem callLam {kk:Nat} {m:List D→List Cell→R D} {d1:Ev→List Cell→R D} {E:Expr} {ns:List Str} {js:List Nat} {e:Ev} {c:List Cell} {x v:D} {l:List D} (h1:d1 e c=.ok x c) (hg:getAll e js=some l) (h2:m [x,.lam kk E ns l] c=.ok v c) (hv:noRef v=true):dCallLam kk m d1 E ns js e c=.ok v c:=by
 unfold dCallLam
 rw [h1]
 simp only [R.bind_ok]
 rw [hg]
 dsimp only
 rw [h2]
 simp only [R.bind_ok]
 rw [if_pos hv]
theorem set_gen {i:Nat} {d:Ev→List Cell→R D} {e:Ev} {c:List Cell} {v:D} (h:d e c=.ok v c):sSet i d e c=.ok (.nx (e.set i (some v))) c:=by rw [x_set,h]; rfl
theorem ret_gen {d:Ev→List Cell→R D} {e:Ev} {c:List Cell} {v:D} (h:d e c=.ok v c):sRet d e c=.ok (.rt v) c:=by rw [x_ret,h]; rfl
theorem bin_gen {f:D→D→List Cell→R D} {d1 d2:Ev→List Cell→R D} {e:Ev} {c:List Cell} {x y:D} {r:R D} (h1:d1 e c=.ok x c) (h2:d2 e c=.ok y c) (h:f x y c=r):dBin f d1 d2 e c=r:=by
 rw [x_bin,h1]
 simp only [R.bind_ok]
 rw [h2]
 exact h
theorem call_gen3 {m:List D→List Cell→R D} {d1 d2 d3:Ev→List Cell→R D} {e:Ev} {c:List Cell} {x y z v:D} (h1:d1 e c=.ok x c) (h2:d2 e c=.ok y c) (h3:d3 e c=.ok z c) (h:m [x,y,z] c=.ok v c):dCall 3 m (dCons d1 (dCons d2 (dCons d3 dNil))) e c=.ok v c:=by
 simp only [x_call,x_cons,h1,h2,h3,x_nil,R.bind_ok]
 rw [if_pos (by rfl)]; exact h
theorem call_gen1 {m:List D→List Cell→R D} {d1:Ev→List Cell→R D} {e:Ev} {c:List Cell} {x v:D} (h1:d1 e c=.ok x c) (h:m [x] c=.ok v c):dCall 1 m (dCons d1 dNil) e c=.ok v c:=by
 simp only [x_call,x_cons,h1,x_nil,R.bind_ok]
 rw [if_pos (by rfl)]; exact h
theorem ret_fn {n:Nat} {b:Ev→List Cell→R Fl} {xs:List D} {c:List Cell} {v:D} (h:b (startD n xs) c=.ok (.rt v) c) (hv:noRef v=true) (hr:∀ k,v≠.ref k):fnD n false b xs c=.ok v c:=by
 rw [x_fn,h]
 simp only [R.bind_ok]
 cases v <;> first | exact absurd rfl (hr _) | (unfold exitD; dsimp only; rw [if_pos hv,List.take_length])
end Ev
namespace Ev
open PySem L2
theorem isx_fn (x y:Str) (b:Bool) (c:List Cell) (h:(decide (x∈xcls∧y∈xcls) && ((x == y) == b))=true):isxD xcls [.exc x,.fn y 0] c=.ok (.bl b) c:=by
 simp only [Bool.and_eq_true,decide_eq_true_eq,beq_iff_eq] at h
 unfold isxD
 simp only
 rw [if_pos h.1,h.2]
theorem isx_ve (x:Str) (c:List Cell) (h:decide (x∈xcls)=true):isxD xcls [.exc x,.ty "ValueError"] c=.ok (.bl true) c:=by
 unfold isxD
 simp only
 rw [if_pos ⟨by simpa using h,by trivial⟩]
theorem kindF (c:List Cell):m_law_kind_of [.exc "NoField"] c=.ok (.str "field") c:=by
 have t8:(8:Nat)≤sizeLine:=by decide
 have t11:(11:Nat)≤sizeLine:=by decide
 have h_NoWeb:=fun c=>isx_fn "NoField" "NoWeb" false c (by decide +kernel)
 have h_NoText:=fun c=>isx_fn "NoField" "NoText" false c (by decide +kernel)
 have h_NoNumbers:=fun c=>isx_fn "NoField" "NoNumbers" false c (by decide +kernel)
 have h_NoField:=fun c=>isx_fn "NoField" "NoField" true c (by decide +kernel)
 have h_NoThing:=fun c=>isx_fn "NoField" "NoThing" false c (by decide +kernel)
 have h_NoSquare:=fun c=>isx_fn "NoField" "NoSquare" false c (by decide +kernel)
 have h_NoPlaces:=fun c=>isx_fn "NoField" "NoPlaces" false c (by decide +kernel)
 have h_TooMany:=fun c=>isx_fn "NoField" "TooMany" false c (by decide +kernel)
 have h_NoName:=fun c=>isx_fn "NoField" "NoName" false c (by decide +kernel)
 have h_NoDeed:=fun c=>isx_fn "NoField" "NoDeed" false c (by decide +kernel)
 have h_NoRow:=fun c=>isx_fn "NoField" "NoRow" false c (by decide +kernel)
 have h_ve:=fun c=>isx_ve "NoField" c (by decide +kernel)
 have hf:List.findIdx? id [false,false,false,true,false,false,false,false,false,false,false]=some 3:=by decide
 simp [m_law_kind_of,b_law_kind_of,h_NoWeb,h_NoText,h_NoNumbers,h_NoField,h_NoThing,h_NoSquare,h_NoPlaces,h_TooMany,h_NoName,h_NoDeed,h_NoRow,h_ve,dCount,dIndex,catD,lstD,blsD,t8,t11,hf]
theorem kindT (c:List Cell):m_law_kind_of [.exc "NoThing"] c=.ok (.str "thing") c:=by
 have t8:(8:Nat)≤sizeLine:=by decide
 have t11:(11:Nat)≤sizeLine:=by decide
 have h_NoWeb:=fun c=>isx_fn "NoThing" "NoWeb" false c (by decide +kernel)
 have h_NoText:=fun c=>isx_fn "NoThing" "NoText" false c (by decide +kernel)
 have h_NoNumbers:=fun c=>isx_fn "NoThing" "NoNumbers" false c (by decide +kernel)
 have h_NoField:=fun c=>isx_fn "NoThing" "NoField" false c (by decide +kernel)
 have h_NoThing:=fun c=>isx_fn "NoThing" "NoThing" true c (by decide +kernel)
 have h_NoSquare:=fun c=>isx_fn "NoThing" "NoSquare" false c (by decide +kernel)
 have h_NoPlaces:=fun c=>isx_fn "NoThing" "NoPlaces" false c (by decide +kernel)
 have h_TooMany:=fun c=>isx_fn "NoThing" "TooMany" false c (by decide +kernel)
 have h_NoName:=fun c=>isx_fn "NoThing" "NoName" false c (by decide +kernel)
 have h_NoDeed:=fun c=>isx_fn "NoThing" "NoDeed" false c (by decide +kernel)
 have h_NoRow:=fun c=>isx_fn "NoThing" "NoRow" false c (by decide +kernel)
 have h_ve:=fun c=>isx_ve "NoThing" c (by decide +kernel)
 have hf:List.findIdx? id [false,false,false,false,true,false,false,false,false,false,false]=some 4:=by decide
 simp [m_law_kind_of,b_law_kind_of,h_NoWeb,h_NoText,h_NoNumbers,h_NoField,h_NoThing,h_NoSquare,h_NoPlaces,h_TooMany,h_NoName,h_NoDeed,h_NoRow,h_ve,dCount,dIndex,catD,lstD,blsD,t8,t11,hf]
theorem inF_x:("NoField":Str)∈xcls:=by decide +kernel
theorem inT_x:("NoThing":Str)∈xcls:=by decide +kernel
end Ev
namespace Ev
open PySem L2 Fq
theorem in_lD (l:List Nat) (k:Nat) (c:List Cell):∃ b,inD (.int (k:Int)) (.lst (nD l)) c=.ok (.bl b) c:=by
 have h1:datC c (.int (k:Int))=some (.int (k:Int)):=rfl
 have h2:datC c (.lst (nD l))=some (.list (l.map fun n:Nat=>PyData.int (n:Int))):=by
  show (match datDs (nD l) with | some r=>some (PyData.list r) | none=>none)=_
  rw [dat_nD]
 unfold inD
 rw [h1,h2]
 dsimp only
 rw [if_pos (by simp [PyData.depth])]
 exact ⟨_,rfl⟩
theorem field_web_some {f:Fd} (h:f∈fds) (h4:f.q % 4=1) (c:List Cell):∃ W,m_field_web [.int (f.q:Int)] c=.ok (webD W) c:=by
 have hq:=q500 h
 have hsq:=squares_ok h c
 generalize ssort (sqL f)=L at hsq
 have hnl:noLams [D.lst (nD L),.int (f.q:Int)]=true:=by
  show (noLam (D.lst (nD L)) && (noLam (D.int (f.q:Int)) && true))=true
  rw [noLam_of (D.lst (nD L)) (by unfold noRef; exact noRefs_nD _),noLam_of (D.int (f.q:Int)) rfl]
  rfl
 have hin:∀ i j:Nat,∃ b,i < f.q→j < f.q→l_lam0 [some (.int i),some (.int j),some (.lst (nD L)),some (.int (f.q:Int))] c=.ok (.bl b) c:=fun i j=>by
  by_cases hi:i < f.q
  ·by_cases hj:j < f.q
   ·have ht:=taken_ok h (x:=(i:Int)) (y:=(j:Int)) (by omega) (by omega) (by omega) (by omega) c
    have h0:=Fq.sub_nn (is_of h).pp (n:=f.n) (i:Int) (j:Int)
    obtain ⟨k,hk⟩:∃ k:Nat,subF f.p f.n i j=(k:Int):=⟨(subF f.p f.n i j).toNat,by omega⟩
    rw [hk] at ht
    obtain ⟨b,hb⟩:=in_lD L k c
    refine ⟨b,fun _ _=>?_⟩
    unfold l_lam0
    exact bin_gen (f:=inD) (call_gen3 (m:=m_taken) (d1:=dVar 3) (d2:=dVar 0) (d3:=dVar 1) rfl rfl rfl ht) (d2:=dVar 2) rfl hb
   ·exact ⟨false,fun _ z=>absurd z hj⟩
  ·exact ⟨false,fun z=>absurd z hi⟩
 obtain ⟨g,hg⟩:∃ g:Nat→Nat→Bool,∀ i j,i < f.q→j < f.q→l_lam0 [some (.int i),some (.int j),some (.lst (nD L)),some (.int (f.q:Int))] c=.ok (.bl (g i j)) c :=
  ⟨fun i j=>Classical.choose (hin i j),fun i j=>Classical.choose_spec (hin i j)⟩
 have hw:=web_ok (k:=0) (n:=f.q) (E:=E_lam0) (ns:=["squares","q"]) (l:=[.lst (nD L),.int (f.q:Int)]) (m:=lamD l_lam0) (c:=c) (f:=g) rfl hnl (by omega) fun i j hi hj hne=>hg i j hi hj
 have hm:modD (.int (f.q:Int)) (.int 4) c=.ok (.int ((f.q:Int) % 4)) c:=mod_c c (by decide)
 have h1:((f.q:Int) % 4=1):=by omega
 refine ⟨wAll f.q g,ret_fn (n:=2) (b:=b_field_web) ?_ (web_noref _) (fun k h=>by cases h)⟩
 ·have es:startD 2 [.int (f.q:Int)]=[some (.int (f.q:Int)),none]:=rfl
  have hb:b_field_web=sSeq (sDrop (dCall 1 m_require_field (dCons (dVar 0) dNil))) (sSeq (sIf (dBl (dBin neD (dBin modD (dVar 0) (dC (.int 4))) (dC (.int 1)))) sBad sNext) (sSeq (sSet 1 (dCall 1 m_squares_in (dCons (dVar 0) dNil))) (sRet (dCallLam 0 m_web_where (dVar 0) E_lam0 ["squares","q"] [1,0])))):=rfl
  have e0:sDrop (dCall 1 m_require_field (dCons (dVar 0) dNil)) [some (.int (f.q:Int)),none] c=.ok (.nx [some (.int (f.q:Int)),none]) c:=by simp [require_field_ok h]
  have e1:sIf (dBl (dBin neD (dBin modD (dVar 0) (dC (.int 4))) (dC (.int 1)))) sBad sNext [some (.int (f.q:Int)),none] c=.ok (.nx [some (.int (f.q:Int)),none]) c:=by simp [hm,h1]
  have e2:sSet 1 (dCall 1 m_squares_in (dCons (dVar 0) dNil)) [some (.int (f.q:Int)),none] c=.ok (.nx [some (.int (f.q:Int)),some (.lst (nD L))]) c:=set_gen (i:=1) (call_gen1 (m:=m_squares_in) (d1:=dVar 0) rfl hsq)
  rw [es,hb,seq_ok e0,seq_ok e1,seq_ok e2]
  exact ret_gen (callLam (kk:=0) (m:=m_web_where) (d1:=dVar 0) (E:=E_lam0) (ns:=["squares","q"]) (js:=[1,0]) (l:=[.lst (nD L),.int (f.q:Int)]) (x:=.int (f.q:Int)) rfl rfl hw (web_noref _))
noncomputable def odd17:List D:=[.int 0,.int 1,.int 6,.int 10,.int 12,.int 15,.int 50,.int 51,.int 53,.int 64,.int (-5),.bl true,.non,.str "5",.tup [.int 5],.lst [.int 7],.int (10 ^ 20)]
theorem nf_int {i:Int} (h:tabF x_FIELDS i=none) (c:List Cell):m_is_field [.int i] c=.ok (.bl false) c:=by
 simp [m_is_field,b_is_field,whole_int,h]
theorem odd_no (c:List Cell):∀ X∈odd17,m_is_field [X] c=.ok (.bl false) c:=by
 have tu:∀ l,isiD [.tup l,.ty "int"] c=.ok (.bl false) c:=fun _=>rfl
 have ls:∀ l,isiD [.lst l,.ty "int"] c=.ok (.bl false) c:=fun _=>rfl
 intro X hX
 simp only [odd17,List.mem_cons,List.not_mem_nil,or_false] at hX
 rcases hX with rfl | rfl | rfl | rfl | rfl | rfl | rfl | rfl | rfl | rfl | rfl | rfl | rfl | rfl | rfl | rfl | rfl
 all_goals first | exact nf_int (by decide +kernel) c | simp [m_is_field,b_is_field,m_is_whole,b_is_whole,tu,ls]
section
variable {X:D} (h:∀ c,m_is_field [X] c=.ok (.bl false) c)
include h
theorem rf_bad (c:List Cell):m_require_field [X] c=.bad:=by simp [m_require_field,b_require_field,h]
theorem rf_x (c:List Cell):x_require_field [X] c=.ok "NoField" c:=by simp [x_require_field,bx_require_field,fnX,xIf,xCls,h]
theorem rt_bad (l:List D) (c:List Cell):m_require_things [X,.tup l] c=.bad:=by simp [m_require_things,b_require_things,rf_bad h]
theorem rt_x (l:List D) (c:List Cell):x_require_things [X,.tup l] c=.ok "NoField" c:=by simp [x_require_things,bx_require_things,fnX,xOr,xCall,rf_x h]
theorem added_fb (a b:D) (c:List Cell):m_added [X,a,b] c=.bad:=by
 have t1:(1:Nat)≤sizeLine:=by decide
 have t2:(2:Nat)≤sizeLine:=by decide
 simp [m_added,b_added,rt_bad h,t1,t2]
theorem added_fx (a b:D) (c:List Cell):x_added [X,a,b] c=.ok "NoField" c:=by
 have t1:(1:Nat)≤sizeLine:=by decide
 have t2:(2:Nat)≤sizeLine:=by decide
 simp [x_added,bx_added,fnX,xOr,xCall,rt_x h,t1,t2]
theorem taken_fb (a b:D) (c:List Cell):m_taken [X,a,b] c=.bad:=by
 have t1:(1:Nat)≤sizeLine:=by decide
 have t2:(2:Nat)≤sizeLine:=by decide
 simp [m_taken,b_taken,rt_bad h,t1,t2]
theorem taken_fx (a b:D) (c:List Cell):x_taken [X,a,b] c=.ok "NoField" c:=by
 have t1:(1:Nat)≤sizeLine:=by decide
 have t2:(2:Nat)≤sizeLine:=by decide
 simp [x_taken,bx_taken,fnX,xOr,xCall,rt_x h,t1,t2]
theorem multiplied_fb (a b:D) (c:List Cell):m_multiplied [X,a,b] c=.bad:=by
 have t1:(1:Nat)≤sizeLine:=by decide
 have t2:(2:Nat)≤sizeLine:=by decide
 simp [m_multiplied,b_multiplied,rt_bad h,t1,t2]
theorem multiplied_fx (a b:D) (c:List Cell):x_multiplied [X,a,b] c=.ok "NoField" c:=by
 have t1:(1:Nat)≤sizeLine:=by decide
 have t2:(2:Nat)≤sizeLine:=by decide
 simp [x_multiplied,bx_multiplied,fnX,xOr,xCall,rt_x h,t1,t2]
theorem divided_fb (a b:D) (c:List Cell):m_divided [X,a,b] c=.bad:=by
 have t1:(1:Nat)≤sizeLine:=by decide
 have t2:(2:Nat)≤sizeLine:=by decide
 simp [m_divided,b_divided,rt_bad h,t1,t2]
theorem divided_fx (a b:D) (c:List Cell):x_divided [X,a,b] c=.ok "NoField" c:=by
 have t1:(1:Nat)≤sizeLine:=by decide
 have t2:(2:Nat)≤sizeLine:=by decide
 simp [x_divided,bx_divided,fnX,xOr,xCall,rt_x h,t1,t2]
theorem raised_fb (a b:D) (c:List Cell):m_raised [X,a,b] c=.bad:=by
 have t1:(1:Nat)≤sizeLine:=by decide
 have t2:(2:Nat)≤sizeLine:=by decide
 simp [m_raised,b_raised,rt_bad h,t1,t2]
theorem raised_fx (a b:D) (c:List Cell):x_raised [X,a,b] c=.ok "NoField" c:=by
 have t1:(1:Nat)≤sizeLine:=by decide
 have t2:(2:Nat)≤sizeLine:=by decide
 simp [x_raised,bx_raised,fnX,xOr,xCall,rt_x h,t1,t2]
theorem root_in_fb (a:D) (c:List Cell):m_root_in [X,a] c=.bad:=by
 have t1:(1:Nat)≤sizeLine:=by decide
 have t2:(2:Nat)≤sizeLine:=by decide
 simp [m_root_in,b_root_in,rt_bad h,t1,t2]
theorem root_in_fx (a:D) (c:List Cell):x_root_in [X,a] c=.ok "NoField" c:=by
 have t1:(1:Nat)≤sizeLine:=by decide
 have t2:(2:Nat)≤sizeLine:=by decide
 simp [x_root_in,bx_root_in,fnX,xOr,xCall,rt_x h,t1,t2]
theorem squares_in_fb (c:List Cell):m_squares_in [X] c=.bad:=by simp [m_squares_in,b_squares_in,rf_bad h]
theorem squares_in_fx (c:List Cell):x_squares_in [X] c=.ok "NoField" c:=by simp [x_squares_in,bx_squares_in,fnX,xOr,xCall,rf_x h]
theorem maker_fb (c:List Cell):m_maker [X] c=.bad:=by simp [m_maker,b_maker,rf_bad h]
theorem maker_fx (c:List Cell):x_maker [X] c=.ok "NoField" c:=by simp [x_maker,bx_maker,fnX,xOr,xCall,rf_x h]
theorem field_web_fb (c:List Cell):m_field_web [X] c=.bad:=by simp [m_field_web,b_field_web,rf_bad h]
theorem field_web_fx (c:List Cell):x_field_web [X] c=.ok "NoField" c:=by simp [x_field_web,bx_field_web,fnX,xOr,xCall,rf_x h]
theorem told_f0 (a b:D) (c:List Cell):m_law_told [.int 0,X,a,b] c=.ok (.str "field") c:=by simp [m_law_told,b_law_told,sTry,added_fb h,xIf,xCall,added_fx h,inF_x,kindF]
theorem told_f1 (a b:D) (c:List Cell):m_law_told [.int 1,X,a,b] c=.ok (.str "field") c:=by simp [m_law_told,b_law_told,sTry,taken_fb h,xIf,xCall,taken_fx h,inF_x,kindF]
theorem told_f2 (a b:D) (c:List Cell):m_law_told [.int 2,X,a,b] c=.ok (.str "field") c:=by simp [m_law_told,b_law_told,sTry,multiplied_fb h,xIf,xCall,multiplied_fx h,inF_x,kindF]
theorem told_f3 (a b:D) (c:List Cell):m_law_told [.int 3,X,a,b] c=.ok (.str "field") c:=by simp [m_law_told,b_law_told,sTry,divided_fb h,xIf,xCall,divided_fx h,inF_x,kindF]
theorem told_f4 (a b:D) (c:List Cell):m_law_told [.int 4,X,a,b] c=.ok (.str "field") c:=by simp [m_law_told,b_law_told,sTry,raised_fb h,xIf,xCall,raised_fx h,inF_x,kindF]
theorem told_f5 (a b:D) (c:List Cell):m_law_told [.int 5,X,a,b] c=.ok (.str "field") c:=by simp [m_law_told,b_law_told,sTry,root_in_fb h,xIf,xCall,root_in_fx h,inF_x,kindF]
theorem told_f6 (a b:D) (c:List Cell):m_law_told [.int 6,X,a,b] c=.ok (.str "field") c:=by simp [m_law_told,b_law_told,sTry,squares_in_fb h,xIf,xCall,squares_in_fx h,inF_x,kindF]
theorem told_f7 (a b:D) (c:List Cell):m_law_told [.int 7,X,a,b] c=.ok (.str "field") c:=by simp [m_law_told,b_law_told,sTry,maker_fb h,xIf,xCall,maker_fx h,inF_x,kindF]
theorem told_f8 (a b:D) (c:List Cell):m_law_told [.int 8,X,a,b] c=.ok (.str "field") c:=by simp [m_law_told,b_law_told,sTry,field_web_fb h,xIf,xCall,field_web_fx h,inF_x,kindF]
end
section
variable {f:Fd} (h:f∈fds)
include h
theorem rf_xb (c:List Cell):x_require_field [.int f.q] c=.bad:=by simp [x_require_field,bx_require_field,fnX,xIf,xBad,is_field_ok h]
theorem rt_fine {l:List D} (hl:∀ X∈l,∀ c,m_is_whole_within [X,.int 0,.int ((f.q:Int) - 1)] c=.ok (.bl true) c) (c:List Cell):x_require_things [.int f.q,.tup l] c=.bad:=by
 have e:∀ (l:List D) (v:Option D),(∀ X∈l,∀ c,m_is_whole_within [X,.int 0,.int ((f.q:Int) - 1)] c=.ok (.bl true) c)→∀ t:D,xForD (fun _=>True) (gdName 2) (sIf (dNotT (dBl (dCall 3 m_is_whole_within (dCons (dVar 2) (dCons (dC (.int 0)) (dCons (dBin subD (dVar 0) (dC (.int 1))) dNil)))))) sBad sNext) (xIf (dNotT (dBl (dCall 3 m_is_whole_within (dCons (dVar 2) (dCons (dC (.int 0)) (dCons (dBin subD (dVar 0) (dC (.int 1))) dNil)))))) (xCls "NoThing") xBad) l [some (.int f.q),some t,v] c=.bad:=by
  intro l
  induction l with
  | nil=>intro v _ t; rfl
  | cons X l ih =>
   intro v hl t
   have i2:=ih (some X) (fun Y hY=>hl Y (.tail _ hY)) t
   have hx:=hl X (.head _) c
   unfold xForD
   rw [if_pos trivial]
   simp [xIf,xBad,hx,i2]
 have e2:=e l none hl (.tup l)
 simp [x_require_things,bx_require_things,fnX,xOr,xCall,rf_xb h,xSeq,require_field_ok h,xFor,e2]
section
variable {X:D} (hX:∀ c,m_is_whole_within [X,.int 0,.int ((f.q:Int) - 1)] c=.ok (.bl false) c)
include hX
theorem tb1 (l:List D) (c:List Cell):m_require_things [.int f.q,.tup (X :: l)] c=.bad:=by simp [m_require_things,b_require_things,require_field_ok h,hX]
theorem tx1 (l:List D) (c:List Cell):x_require_things [.int f.q,.tup (X :: l)] c=.ok "NoThing" c:=by
 simp [x_require_things,bx_require_things,fnX,xOr,xCall,rf_xb h,xSeq,require_field_ok h,xFor,xForD,xIf,xCls,hX]
theorem one_in:m_is_whole_within [.int 1,.int 0,.int ((f.q:Int) - 1)] c=.ok (.bl true) c:=by
 have:=(is_of h).q2
 rw [within_int]
 simp
 omega
theorem tb2 (c:List Cell):m_require_things [.int f.q,.tup [.int 1,X]] c=.bad:=by simp [m_require_things,b_require_things,require_field_ok h,hX,one_in h hX]
theorem tx2 (c:List Cell):x_require_things [.int f.q,.tup [.int 1,X]] c=.ok "NoThing" c:=by
 simp [x_require_things,bx_require_things,fnX,xOr,xCall,rf_xb h,xSeq,require_field_ok h,xFor,xForD,xIf,xCls,xBad,hX,one_in h hX]
theorem added_lb (b:D) (c:List Cell):m_added [.int f.q,X,b] c=.bad:=by
 have t1:(1:Nat)≤sizeLine:=by decide
 have t2:(2:Nat)≤sizeLine:=by decide
 simp [m_added,b_added,tb1 h hX,t1,t2]
theorem added_lx (b:D) (c:List Cell):x_added [.int f.q,X,b] c=.ok "NoThing" c:=by
 have t1:(1:Nat)≤sizeLine:=by decide
 have t2:(2:Nat)≤sizeLine:=by decide
 simp [x_added,bx_added,fnX,xOr,xCall,tx1 h hX,t1,t2]
theorem taken_lb (b:D) (c:List Cell):m_taken [.int f.q,X,b] c=.bad:=by
 have t1:(1:Nat)≤sizeLine:=by decide
 have t2:(2:Nat)≤sizeLine:=by decide
 simp [m_taken,b_taken,tb1 h hX,t1,t2]
theorem taken_lx (b:D) (c:List Cell):x_taken [.int f.q,X,b] c=.ok "NoThing" c:=by
 have t1:(1:Nat)≤sizeLine:=by decide
 have t2:(2:Nat)≤sizeLine:=by decide
 simp [x_taken,bx_taken,fnX,xOr,xCall,tx1 h hX,t1,t2]
theorem multiplied_lb (b:D) (c:List Cell):m_multiplied [.int f.q,X,b] c=.bad:=by
 have t1:(1:Nat)≤sizeLine:=by decide
 have t2:(2:Nat)≤sizeLine:=by decide
 simp [m_multiplied,b_multiplied,tb1 h hX,t1,t2]
theorem multiplied_lx (b:D) (c:List Cell):x_multiplied [.int f.q,X,b] c=.ok "NoThing" c:=by
 have t1:(1:Nat)≤sizeLine:=by decide
 have t2:(2:Nat)≤sizeLine:=by decide
 simp [x_multiplied,bx_multiplied,fnX,xOr,xCall,tx1 h hX,t1,t2]
theorem divided_lb (b:D) (c:List Cell):m_divided [.int f.q,X,b] c=.bad:=by
 have t1:(1:Nat)≤sizeLine:=by decide
 have t2:(2:Nat)≤sizeLine:=by decide
 simp [m_divided,b_divided,tb1 h hX,t1,t2]
theorem divided_lx (b:D) (c:List Cell):x_divided [.int f.q,X,b] c=.ok "NoThing" c:=by
 have t1:(1:Nat)≤sizeLine:=by decide
 have t2:(2:Nat)≤sizeLine:=by decide
 simp [x_divided,bx_divided,fnX,xOr,xCall,tx1 h hX,t1,t2]
theorem raised_lb (b:D) (c:List Cell):m_raised [.int f.q,X,b] c=.bad:=by
 have t1:(1:Nat)≤sizeLine:=by decide
 have t2:(2:Nat)≤sizeLine:=by decide
 simp [m_raised,b_raised,tb1 h hX,t1,t2]
theorem raised_lx (b:D) (c:List Cell):x_raised [.int f.q,X,b] c=.ok "NoThing" c:=by
 have t1:(1:Nat)≤sizeLine:=by decide
 have t2:(2:Nat)≤sizeLine:=by decide
 simp [x_raised,bx_raised,fnX,xOr,xCall,tx1 h hX,t1,t2]
theorem root_in_lb (c:List Cell):m_root_in [.int f.q,X] c=.bad:=by
 have t1:(1:Nat)≤sizeLine:=by decide
 have t2:(2:Nat)≤sizeLine:=by decide
 simp [m_root_in,b_root_in,tb1 h hX,t1,t2]
theorem root_in_lx (c:List Cell):x_root_in [.int f.q,X] c=.ok "NoThing" c:=by
 have t1:(1:Nat)≤sizeLine:=by decide
 have t2:(2:Nat)≤sizeLine:=by decide
 simp [x_root_in,bx_root_in,fnX,xOr,xCall,tx1 h hX,t1,t2]
theorem added_rb (c:List Cell):m_added [.int f.q,.int 1,X] c=.bad:=by
 have t1:(1:Nat)≤sizeLine:=by decide
 have t2:(2:Nat)≤sizeLine:=by decide
 simp [m_added,b_added,tb2 h hX,t1,t2]
theorem added_rx (c:List Cell):x_added [.int f.q,.int 1,X] c=.ok "NoThing" c:=by
 have t1:(1:Nat)≤sizeLine:=by decide
 have t2:(2:Nat)≤sizeLine:=by decide
 simp [x_added,bx_added,fnX,xOr,xCall,tx2 h hX,t1,t2]
theorem taken_rb (c:List Cell):m_taken [.int f.q,.int 1,X] c=.bad:=by
 have t1:(1:Nat)≤sizeLine:=by decide
 have t2:(2:Nat)≤sizeLine:=by decide
 simp [m_taken,b_taken,tb2 h hX,t1,t2]
theorem taken_rx (c:List Cell):x_taken [.int f.q,.int 1,X] c=.ok "NoThing" c:=by
 have t1:(1:Nat)≤sizeLine:=by decide
 have t2:(2:Nat)≤sizeLine:=by decide
 simp [x_taken,bx_taken,fnX,xOr,xCall,tx2 h hX,t1,t2]
theorem multiplied_rb (c:List Cell):m_multiplied [.int f.q,.int 1,X] c=.bad:=by
 have t1:(1:Nat)≤sizeLine:=by decide
 have t2:(2:Nat)≤sizeLine:=by decide
 simp [m_multiplied,b_multiplied,tb2 h hX,t1,t2]
theorem multiplied_rx (c:List Cell):x_multiplied [.int f.q,.int 1,X] c=.ok "NoThing" c:=by
 have t1:(1:Nat)≤sizeLine:=by decide
 have t2:(2:Nat)≤sizeLine:=by decide
 simp [x_multiplied,bx_multiplied,fnX,xOr,xCall,tx2 h hX,t1,t2]
theorem divided_rb (c:List Cell):m_divided [.int f.q,.int 1,X] c=.bad:=by
 have t1:(1:Nat)≤sizeLine:=by decide
 have t2:(2:Nat)≤sizeLine:=by decide
 simp [m_divided,b_divided,tb2 h hX,t1,t2]
theorem divided_rx (c:List Cell):x_divided [.int f.q,.int 1,X] c=.ok "NoThing" c:=by
 have t1:(1:Nat)≤sizeLine:=by decide
 have t2:(2:Nat)≤sizeLine:=by decide
 simp [x_divided,bx_divided,fnX,xOr,xCall,tx2 h hX,t1,t2]
theorem told_l0 (b:D) (c:List Cell):m_law_told [.int 0,.int f.q,X,b] c=.ok (.str "thing") c:=by simp [m_law_told,b_law_told,sTry,added_lb h hX,xIf,xCall,added_lx h hX,inT_x,kindT]
theorem told_l1 (b:D) (c:List Cell):m_law_told [.int 1,.int f.q,X,b] c=.ok (.str "thing") c:=by simp [m_law_told,b_law_told,sTry,taken_lb h hX,xIf,xCall,taken_lx h hX,inT_x,kindT]
theorem told_l2 (b:D) (c:List Cell):m_law_told [.int 2,.int f.q,X,b] c=.ok (.str "thing") c:=by simp [m_law_told,b_law_told,sTry,multiplied_lb h hX,xIf,xCall,multiplied_lx h hX,inT_x,kindT]
theorem told_l3 (b:D) (c:List Cell):m_law_told [.int 3,.int f.q,X,b] c=.ok (.str "thing") c:=by simp [m_law_told,b_law_told,sTry,divided_lb h hX,xIf,xCall,divided_lx h hX,inT_x,kindT]
theorem told_l4 (b:D) (c:List Cell):m_law_told [.int 4,.int f.q,X,b] c=.ok (.str "thing") c:=by simp [m_law_told,b_law_told,sTry,raised_lb h hX,xIf,xCall,raised_lx h hX,inT_x,kindT]
theorem told_l5 (b:D) (c:List Cell):m_law_told [.int 5,.int f.q,X,b] c=.ok (.str "thing") c:=by simp [m_law_told,b_law_told,sTry,root_in_lb h hX,xIf,xCall,root_in_lx h hX,inT_x,kindT]
theorem told_r0 (c:List Cell):m_law_told [.int 0,.int f.q,.int 1,X] c=.ok (.str "thing") c:=by simp [m_law_told,b_law_told,sTry,added_rb h hX,xIf,xCall,added_rx h hX,inT_x,kindT]
theorem told_r1 (c:List Cell):m_law_told [.int 1,.int f.q,.int 1,X] c=.ok (.str "thing") c:=by simp [m_law_told,b_law_told,sTry,taken_rb h hX,xIf,xCall,taken_rx h hX,inT_x,kindT]
theorem told_r2 (c:List Cell):m_law_told [.int 2,.int f.q,.int 1,X] c=.ok (.str "thing") c:=by simp [m_law_told,b_law_told,sTry,multiplied_rb h hX,xIf,xCall,multiplied_rx h hX,inT_x,kindT]
theorem told_r3 (c:List Cell):m_law_told [.int 3,.int f.q,.int 1,X] c=.ok (.str "thing") c:=by simp [m_law_told,b_law_told,sTry,divided_rb h hX,xIf,xCall,divided_rx h hX,inT_x,kindT]
end
theorem in_ok {x:Int} (x0:0≤x) (x1:x < f.q) (c:List Cell):m_is_whole_within [.int x,.int 0,.int ((f.q:Int) - 1)] c=.ok (.bl true) c:=by
 rw [within_int]
 simp
 omega
theorem told_d0 {x:Int} (x0:0≤x) (x1:x < f.q) (c:List Cell):m_law_told [.int 3,.int f.q,.int x,.int 0] c=.ok (.str "thing") c:=by
 have t2:(2:Nat)≤sizeLine:=by decide
 have q2:=(is_of h).q2
 have hf:=rt_fine h (l:=[.int x,.int 0]) (fun X hX c=>by
  simp only [List.mem_cons,List.not_mem_nil,or_false] at hX
  rcases hX with rfl | rfl
  ·exact in_ok h x0 x1 c
  ·exact in_ok h (by omega) (by omega) c) c
 have ht:=things2 h x0 x1 (y:=0) (by omega) (by omega) c
 have h1:m_divided [.int f.q,.int x,.int 0] c=.bad:=by simp [m_divided,b_divided,ht,t2]
 have h2:x_divided [.int f.q,.int x,.int 0] c=.ok "NoThing" c:=by simp [x_divided,bx_divided,fnX,xOr,xCall,hf,t2,xSeq,ht,xIf,xCls]
 simp [m_law_told,b_law_told,sTry,h1,xIf,xCall,h2,inT_x,kindT]
noncomputable def t10 (q:Int):List D:=[.int (-1),.int q,.int (q + 1),.int (10 ^ 30),.bl true,.bl false,.non,.str "0",.tup [.int 0],.lst [.int 1]]
theorem t10_no (c:List Cell):∀ X∈t10 (f.q:Int),m_is_whole_within [X,.int 0,.int ((f.q:Int) - 1)] c=.ok (.bl false) c:=by
 have tu:∀ l,isiD [.tup l,.ty "int"] c=.ok (.bl false) c:=fun _=>rfl
 have ls:∀ l,isiD [.lst l,.ty "int"] c=.ok (.bl false) c:=fun _=>rfl
 have hq:=q500 h
 intro X hX
 simp only [t10,List.mem_cons,List.not_mem_nil,or_false] at hX
 rcases hX with rfl | rfl | rfl | rfl | rfl | rfl | rfl | rfl | rfl | rfl
 ·rw [within_int]; simp
 ·rw [within_int]; simp
  omega
 ·rw [within_int]; simp
  omega
 ·rw [within_int,show decide ((10:Int) ^ 30≤(f.q:Int) - 1)=false from decide_eq_false (by omega),Bool.and_false]
 all_goals simp [m_is_whole_within,b_is_whole_within,m_is_whole,b_is_whole,tu,ls]
theorem told_g0 (c:List Cell):m_law_told [.int 0,.int f.q,.int 1,.int 1] c=.ok (.str "told") c:=by
 have q2:=(is_of h).q2
 have e:∃ v,m_added [.int f.q,.int 1,.int 1] c=.ok v c:=⟨_,added_ok h (x:=1) (y:=1) (by omega) (by omega) (by omega) (by omega) c⟩
 obtain ⟨v,e⟩:=e
 simp [m_law_told,b_law_told,sTry,e]
theorem told_g1 (c:List Cell):m_law_told [.int 1,.int f.q,.int 1,.int 1] c=.ok (.str "told") c:=by
 have q2:=(is_of h).q2
 have e:∃ v,m_taken [.int f.q,.int 1,.int 1] c=.ok v c:=⟨_,taken_ok h (x:=1) (y:=1) (by omega) (by omega) (by omega) (by omega) c⟩
 obtain ⟨v,e⟩:=e
 simp [m_law_told,b_law_told,sTry,e]
theorem told_g2 (c:List Cell):m_law_told [.int 2,.int f.q,.int 1,.int 1] c=.ok (.str "told") c:=by
 have q2:=(is_of h).q2
 have e:∃ v,m_multiplied [.int f.q,.int 1,.int 1] c=.ok v c:=⟨_,mul_ok h (x:=1) (y:=1) (by omega) (by omega) (by omega) (by omega) c⟩
 obtain ⟨v,e⟩:=e
 simp [m_law_told,b_law_told,sTry,e]
theorem told_g3 (c:List Cell):m_law_told [.int 3,.int f.q,.int 1,.int 1] c=.ok (.str "told") c:=by
 have q2:=(is_of h).q2
 have e:∃ v,m_divided [.int f.q,.int 1,.int 1] c=.ok v c:=⟨_,divided_ok h (x:=1) (y:=1) (by omega) (by omega) (by decide) c⟩
 obtain ⟨v,e⟩:=e
 simp [m_law_told,b_law_told,sTry,e]
theorem told_g4 (c:List Cell):m_law_told [.int 4,.int f.q,.int 1,.int 1] c=.ok (.str "told") c:=by
 have q2:=(is_of h).q2
 have e:∃ v,m_raised [.int f.q,.int 1,.int 2] c=.ok v c:=⟨_,raised_ok h (x:=1) (k:=2) (by omega) c⟩
 obtain ⟨v,e⟩:=e
 simp [m_law_told,b_law_told,sTry,e]
theorem told_g5 (c:List Cell):m_law_told [.int 5,.int f.q,.int 1,.int 1] c=.ok (.str "told") c:=by
 have q2:=(is_of h).q2
 have e:∃ v,m_root_in [.int f.q,.int 1] c=.ok v c:=⟨_,root_ok h (y:=1) (by omega) c⟩
 obtain ⟨v,e⟩:=e
 simp [m_law_told,b_law_told,sTry,e]
theorem told_g6 (c:List Cell):m_law_told [.int 6,.int f.q,.int 1,.int 1] c=.ok (.str "told") c:=by
 have q2:=(is_of h).q2
 have e:∃ v,m_squares_in [.int f.q] c=.ok v c:=⟨_,squares_ok h c⟩
 obtain ⟨v,e⟩:=e
 simp [m_law_told,b_law_told,sTry,e]
theorem told_g7 (c:List Cell):m_law_told [.int 7,.int f.q,.int 1,.int 1] c=.ok (.str "told") c:=by
 have q2:=(is_of h).q2
 have e:∃ v,m_maker [.int f.q] c=.ok v c:=⟨_,maker_ok h c⟩
 obtain ⟨v,e⟩:=e
 simp [m_law_told,b_law_told,sTry,e]
theorem told_w1 (h4:f.q % 4=1) (c:List Cell):m_law_told [.int 8,.int f.q,.int 0,.int 0] c=.ok (.str "told") c:=by
 obtain ⟨W,e⟩:=field_web_some h h4 c
 simp [m_law_told,b_law_told,sTry,e]
theorem told_w0 (h4:¬ f.q % 4=1) (c:List Cell):m_law_told [.int 8,.int f.q,.int 0,.int 0] c=.ok (.str "field") c:=by
 have hm:modD (.int (f.q:Int)) (.int 4) c=.ok (.int ((f.q:Int) % 4)) c:=mod_c c (by decide)
 have hn:¬ ((f.q:Int) % 4=1):=by omega
 have h1:m_field_web [.int (f.q:Int)] c=.bad:=by simp [m_field_web,b_field_web,require_field_ok h,hm,hn]
 have h2:x_field_web [.int (f.q:Int)] c=.ok "NoField" c:=by simp [x_field_web,bx_field_web,fnX,xOr,xCall,rf_xb h,xSeq,require_field_ok h,hm,hn,xIf,xCls]
 simp [m_law_told,b_law_told,sTry,h1,xIf,xCall,h2,inF_x,kindF]
end
end Ev
namespace Ev
open PySem L2 Fq
theorem sizeH:1000000 < sizeLine:=by decide
noncomputable def oq0:Ev→List Cell→R Fl:=(sSet 2 (dCall 1 m_law_pot (dCons (dCall 2 m_law_cell_at (dCons (dVar 0) (dCons (dVar 1) dNil))) dNil)))
noncomputable def oq1:Ev→List Cell→R Fl:=(sSet 3 (dBin ixD (dCall 0 m_law_fields dNil) (dCall 2 m_law_take (dCons (dVar 2) (dCons (dC (.int 23)) dNil)))))
noncomputable def oq2:Ev→List Cell→R Fl:=(sSet 4 (dBin ixD (dLst (dCons (dC (.int 0)) (dCons (dC (.int 1)) (dCons (dC (.int 6)) (dCons (dC (.int 10)) (dCons (dC (.int 12)) (dCons (dC (.int 15)) (dCons (dC (.int 50)) (dCons (dC (.int 51)) (dCons (dC (.int 53)) (dCons (dC (.int 64)) (dCons (dBin subD (dC (.int 0)) (dC (.int 5))) (dCons (dC (.bl true)) (dCons (dC .non) (dCons (dC (.str "5")) (dCons (dTup (dCons (dC (.int 5)) dNil)) (dCons (dLst (dCons (dC (.int 7)) dNil)) (dCons (dBin powD (dC (.int 10)) (dC (.int 20))) dNil)))))))))))))))))) (dCall 2 m_law_take (dCons (dVar 2) (dCons (dC (.int 17)) dNil)))))
noncomputable def oq3:Ev→List Cell→R Fl:=(sIf (dBl (dBin nevD (dComp (dRng1 (dCons (dC (.int 9)) dNil)) [none,some 4] (gdName 0) dYes (dCall 4 m_law_told (dCons (dVar 0) (dCons (dVar 1) (dCons (dC .non) (dCons (dC (.int 0)) dNil)))))) (dBin repD (dLst (dCons (dC (.str "field")) dNil)) (dC (.int 9))))) (sRet (dC (.bl false))) sNext)
noncomputable def oq4:Ev→List Cell→R Fl:=(sSet 5 (dBin ixD (dLst (dCons (dBin subD (dC (.int 0)) (dC (.int 1))) (dCons (dVar 3) (dCons (dBin addD (dVar 3) (dC (.int 1))) (dCons (dBin powD (dC (.int 10)) (dC (.int 30))) (dCons (dC (.bl true)) (dCons (dC (.bl false)) (dCons (dC .non) (dCons (dC (.str "0")) (dCons (dTup (dCons (dC (.int 0)) dNil)) (dCons (dLst (dCons (dC (.int 1)) dNil)) dNil))))))))))) (dCall 2 m_law_take (dCons (dVar 2) (dCons (dC (.int 10)) dNil)))))
noncomputable def oq5:Ev→List Cell→R Fl:=(sIf (dBl (dBin nevD (dComp (dRng1 (dCons (dC (.int 6)) dNil)) [none,some 3,some 5] (gdName 0) dYes (dCall 4 m_law_told (dCons (dVar 0) (dCons (dVar 1) (dCons (dVar 2) (dCons (dC (.int 1)) dNil)))))) (dBin repD (dLst (dCons (dC (.str "thing")) dNil)) (dC (.int 6))))) (sRet (dC (.bl false))) sNext)
noncomputable def oq6:Ev→List Cell→R Fl:=(sIf (dBl (dBin nevD (dComp (dRng1 (dCons (dC (.int 4)) dNil)) [none,some 3,some 5] (gdName 0) dYes (dCall 4 m_law_told (dCons (dVar 0) (dCons (dVar 1) (dCons (dC (.int 1)) (dCons (dVar 2) dNil)))))) (dBin repD (dLst (dCons (dC (.str "thing")) dNil)) (dC (.int 4))))) (sRet (dC (.bl false))) sNext)
noncomputable def oq7:Ev→List Cell→R Fl:=(sIf (dBl (dBin neD (dCall 4 m_law_told (dCons (dC (.int 3)) (dCons (dVar 3) (dCons (dCall 2 m_law_take (dCons (dVar 2) (dCons (dVar 3) dNil))) (dCons (dC (.int 0)) dNil))))) (dC (.str "thing")))) (sRet (dC (.bl false))) sNext)
noncomputable def oq8:Ev→List Cell→R Fl:=(sIf (dBl (dBin nevD (dComp (dRng1 (dCons (dC (.int 8)) dNil)) [none,some 3] (gdName 0) dYes (dCall 4 m_law_told (dCons (dVar 0) (dCons (dVar 1) (dCons (dC (.int 1)) (dCons (dC (.int 1)) dNil)))))) (dBin repD (dLst (dCons (dC (.str "told")) dNil)) (dC (.int 8))))) (sRet (dC (.bl false))) sNext)
noncomputable def oq9:Ev→List Cell→R Fl:=(sIf (dBl (dBin neD (dCall 4 m_law_told (dCons (dC (.int 8)) (dCons (dVar 3) (dCons (dC (.int 0)) (dCons (dC (.int 0)) dNil))))) (dBin ixD (dLst (dCons (dC (.str "field")) (dCons (dC (.str "told")) dNil))) (dCB int1D (dCons (dBin eqD (dBin modD (dVar 3) (dC (.int 4))) (dC (.int 1))) dNil))))) (sRet (dC (.bl false))) sNext)
noncomputable def outerB:Ev→List Cell→R Fl:=sSeq oq0 (sSeq oq1 (sSeq oq2 (sSeq oq3 (sSeq oq4 (sSeq oq5 (sSeq oq6 (sSeq oq7 (sSeq oq8 oq9))))))))
theorem nev9 (c:List Cell):nevD (.lst [.str "field",.str "field",.str "field",.str "field",.str "field",.str "field",.str "field",.str "field",.str "field"]) (.lst [.str "field",.str "field",.str "field",.str "field",.str "field",.str "field",.str "field",.str "field",.str "field"]) c=.ok (.bl false) c:=by
 have hs:PyData.strOk "field"=true:=by decide +kernel
 simp [nevD,datC,datD,datDs,PyData.depth,PyData.depthAll,PyData.eqv,PyData.eqvAll,hs]
theorem nev6 (c:List Cell):nevD (.lst [.str "thing",.str "thing",.str "thing",.str "thing",.str "thing",.str "thing"]) (.lst [.str "thing",.str "thing",.str "thing",.str "thing",.str "thing",.str "thing"]) c=.ok (.bl false) c:=by
 have hs:PyData.strOk "thing"=true:=by decide +kernel
 simp [nevD,datC,datD,datDs,PyData.depth,PyData.depthAll,PyData.eqv,PyData.eqvAll,hs]
theorem nev4 (c:List Cell):nevD (.lst [.str "thing",.str "thing",.str "thing",.str "thing"]) (.lst [.str "thing",.str "thing",.str "thing",.str "thing"]) c=.ok (.bl false) c:=by
 have hs:PyData.strOk "thing"=true:=by decide +kernel
 simp [nevD,datC,datD,datDs,PyData.depth,PyData.depthAll,PyData.eqv,PyData.eqvAll,hs]
theorem nev8 (c:List Cell):nevD (.lst [.str "told",.str "told",.str "told",.str "told",.str "told",.str "told",.str "told",.str "told"]) (.lst [.str "told",.str "told",.str "told",.str "told",.str "told",.str "told",.str "told",.str "told"]) c=.ok (.bl false) c:=by
 have hs:PyData.strOk "told"=true:=by decide +kernel
 simp [nevD,datC,datD,datDs,PyData.depth,PyData.depthAll,PyData.eqv,PyData.eqvAll,hs]
theorem at_mem {l:List D} {x:Int} (h0:0≤x) (h1:x < l.length):∃ X∈l,∀ c,ixD (.lst l) (.int x) c=.ok X c:=by
 obtain ⟨q,rfl⟩:∃ q:Nat,x=q:=⟨x.toNat,by omega⟩
 have hq:q < l.length:=by omega
 refine ⟨l[q],List.getElem_mem hq,fun c=>?_⟩
 have ha:atI l (q:Int)=some l[q]:=by
  unfold atI ixN
  rw [if_pos (by omega),if_pos (by omega)]
  simp [hq]
 unfold ixD seqD
 simp only [ha]
theorem s1 {j n:Nat} {c:List Cell} (h:Pot j n c) (a0 a1 v3 v4 v5:Option D):∃ f c',f∈fds∧Pot j n c'∧oq1 [a0,a1,some (.ref j),v3,v4,v5] c=.ok (.nx [a0,a1,some (.ref j),some (.int (f.q:Int)),v4,v5]) c':=by
 obtain ⟨y,c',y0,y1,P,ht⟩:=take_ok (far:=23) h (by decide) (by decide)
 obtain ⟨f,hf,ha⟩:=field_at y0 y1
 refine ⟨f,c',hf,P,?_⟩
 have hl:∀ c,m_law_fields [] c=.ok (.lst [.int 2,.int 3,.int 4,.int 5,.int 7,.int 8,.int 9,.int 11,.int 13,.int 16,.int 17,.int 19,.int 23,.int 25,.int 27,.int 29,.int 31,.int 32,.int 37,.int 41,.int 43,.int 47,.int 49]) c:=fun c=>by
  have hs:(23:Nat)≤sizeLine:=by decide
  simp [m_law_fields,b_law_fields,hs]
 have hx:∀ c,ixD (.lst [.int 2,.int 3,.int 4,.int 5,.int 7,.int 8,.int 9,.int 11,.int 13,.int 16,.int 17,.int 19,.int 23,.int 25,.int 27,.int 29,.int 31,.int 32,.int 37,.int 41,.int 43,.int 47,.int 49]) (.int y) c=.ok (.int (f.q:Int)) c:=fun c=>by
  unfold ixD seqD
  simp only [ha]
 simp [oq1,hl,ht,hx]
theorem s2 {j n:Nat} {c:List Cell} (h:Pot j n c) (a0 a1 a3 v4 v5:Option D):∃ X c',X∈odd17∧Pot j n c'∧oq2 [a0,a1,some (.ref j),a3,v4,v5] c=.ok (.nx [a0,a1,some (.ref j),a3,some X,v5]) c':=by
 have sz:=sizeH
 obtain ⟨y,c',y0,y1,P,ht⟩:=take_ok (far:=17) h (by decide) (by decide)
 obtain ⟨X,hX,hx⟩:=at_mem (l:=odd17) y0 (by show y < 17; omega)
 refine ⟨X,c',hX,P,?_⟩
 have hl:∀ e:Ev,(dLst (dCons (dC (.int 0)) (dCons (dC (.int 1)) (dCons (dC (.int 6)) (dCons (dC (.int 10)) (dCons (dC (.int 12)) (dCons (dC (.int 15)) (dCons (dC (.int 50)) (dCons (dC (.int 51)) (dCons (dC (.int 53)) (dCons (dC (.int 64)) (dCons (dBin subD (dC (.int 0)) (dC (.int 5))) (dCons (dC (.bl true)) (dCons (dC .non) (dCons (dC (.str "5")) (dCons (dTup (dCons (dC (.int 5)) dNil)) (dCons (dLst (dCons (dC (.int 7)) dNil)) (dCons (dBin powD (dC (.int 10)) (dC (.int 20))) dNil)))))))))))))))))) e c=.ok (.lst odd17) c:=fun e=>by
  have hpw:powD (.int 10) (.int 20) c=.ok (.int (10 ^ 20)) c:=rfl
  have t17:(17:Nat)≤sizeLine:=by decide
  simp (disch:=omega) [odd17,hpw,t17]
 unfold oq2
 rw [x_set,x_bin,hl,R.bind_ok]
 simp [ht,hx]
theorem s3 {X:D} (h:∀ c,m_is_field [X] c=.ok (.bl false) c) (a0 a1 a2 a3 v5:Option D) (c:List Cell):oq3 [a0,a1,a2,a3,some X,v5] c=.ok (.nx [a0,a1,a2,a3,some X,v5]) c:=by
 have t9:(9:Nat) < sizeLine:=by decide
 have t9':(9:Nat)≤sizeLine:=by decide
 have hr:rngD 0 9=[.int 0,.int 1,.int 2,.int 3,.int 4,.int 5,.int 6,.int 7,.int 8]:=by rfl
 have hq:repD (.lst [.str "field"]) (.int 9) c=.ok (.lst [.str "field",.str "field",.str "field",.str "field",.str "field",.str "field",.str "field",.str "field",.str "field"]) c:=by rfl
 simp (config:={ maxSteps:=2000000 }) [oq3,hr,t9,t9',compD,told_f0 h,told_f1 h,told_f2 h,told_f3 h,told_f4 h,told_f5 h,told_f6 h,told_f7 h,told_f8 h,pickD,hq,nev9]
theorem s4 {q:Int} {j n:Nat} {c:List Cell} (h:Pot j n c) (a0 a1 a4 v5:Option D):∃ X c',X∈t10 q∧Pot j n c'∧oq4 [a0,a1,some (.ref j),some (.int q),a4,v5] c=.ok (.nx [a0,a1,some (.ref j),some (.int q),a4,some X]) c':=by
 have sz:=sizeH
 obtain ⟨y,c',y0,y1,P,ht⟩:=take_ok (far:=10) h (by decide) (by decide)
 obtain ⟨X,hX,hx⟩:=at_mem (l:=t10 q) y0 (by show y < 10; omega)
 refine ⟨X,c',hX,P,?_⟩
 have hl:∀ v,(dLst (dCons (dBin subD (dC (.int 0)) (dC (.int 1))) (dCons (dVar 3) (dCons (dBin addD (dVar 3) (dC (.int 1))) (dCons (dBin powD (dC (.int 10)) (dC (.int 30))) (dCons (dC (.bl true)) (dCons (dC (.bl false)) (dCons (dC .non) (dCons (dC (.str "0")) (dCons (dTup (dCons (dC (.int 0)) dNil)) (dCons (dLst (dCons (dC (.int 1)) dNil)) dNil))))))))))) [a0,a1,some (.ref j),some (.int q),a4,v] c=.ok (.lst (t10 q)) c:=fun v=>by
  have hpw:powD (.int 10) (.int 30) c=.ok (.int (10 ^ 30)) c:=rfl
  have t10':(10:Nat)≤sizeLine:=by decide
  simp (disch:=omega) [t10,hpw,t10']
 unfold oq4
 rw [x_set,x_bin,hl,R.bind_ok]
 simp [ht,hx]
theorem s5 {f:Fd} (hf:f∈fds) {X:D} (h:∀ c,m_is_whole_within [X,.int 0,.int ((f.q:Int) - 1)] c=.ok (.bl false) c) (a0 a1 a2 a4:Option D) (c:List Cell):oq5 [a0,a1,a2,some (.int (f.q:Int)),a4,some X] c=.ok (.nx [a0,a1,a2,some (.int (f.q:Int)),a4,some X]) c:=by
 have t6:(6:Nat) < sizeLine:=by decide
 have hr:rngD 0 6=[.int 0,.int 1,.int 2,.int 3,.int 4,.int 5]:=by rfl
 have hq:repD (.lst [.str "thing"]) (.int 6) c=.ok (.lst [.str "thing",.str "thing",.str "thing",.str "thing",.str "thing",.str "thing"]) c:=by rfl
 simp [oq5,hr,t6,compD,told_l0 hf h,told_l1 hf h,told_l2 hf h,told_l3 hf h,told_l4 hf h,told_l5 hf h,pickD,hq,nev6]
theorem s6 {f:Fd} (hf:f∈fds) {X:D} (h:∀ c,m_is_whole_within [X,.int 0,.int ((f.q:Int) - 1)] c=.ok (.bl false) c) (a0 a1 a2 a4:Option D) (c:List Cell):oq6 [a0,a1,a2,some (.int (f.q:Int)),a4,some X] c=.ok (.nx [a0,a1,a2,some (.int (f.q:Int)),a4,some X]) c:=by
 have t4:(4:Nat) < sizeLine:=by decide
 have hr:rngD 0 4=[.int 0,.int 1,.int 2,.int 3]:=by rfl
 have hq:repD (.lst [.str "thing"]) (.int 4) c=.ok (.lst [.str "thing",.str "thing",.str "thing",.str "thing"]) c:=by rfl
 simp [oq6,hr,t4,compD,told_r0 hf h,told_r1 hf h,told_r2 hf h,told_r3 hf h,pickD,hq,nev4]
theorem s7 {f:Fd} (hf:f∈fds) {j n:Nat} {c:List Cell} (h:Pot j n c) (a0 a1 a4 a5:Option D):∃ c',Pot j n c'∧oq7 [a0,a1,some (.ref j),some (.int (f.q:Int)),a4,a5] c=.ok (.nx [a0,a1,some (.ref j),some (.int (f.q:Int)),a4,a5]) c':=by
 have hq:=q500 hf
 have q2:=(is_of hf).q2
 obtain ⟨y,c',y0,y1,P,ht⟩:=take_ok (far:=(f.q:Int)) h (by omega) (by omega)
 exact ⟨c',P,by simp [oq7,ht,told_d0 hf y0 y1]⟩
theorem s8 {f:Fd} (hf:f∈fds) (a0 a1 a2 a4 a5:Option D) (c:List Cell):oq8 [a0,a1,a2,some (.int (f.q:Int)),a4,a5] c=.ok (.nx [a0,a1,a2,some (.int (f.q:Int)),a4,a5]) c:=by
 have t8:(8:Nat) < sizeLine:=by decide
 have t8':(8:Nat)≤sizeLine:=by decide
 have hr:rngD 0 8=[.int 0,.int 1,.int 2,.int 3,.int 4,.int 5,.int 6,.int 7]:=by rfl
 have hq:repD (.lst [.str "told"]) (.int 8) c=.ok (.lst [.str "told",.str "told",.str "told",.str "told",.str "told",.str "told",.str "told",.str "told"]) c:=by rfl
 simp (config:={ maxSteps:=2000000 }) [oq8,hr,t8,t8',compD,told_g0 hf,told_g1 hf,told_g2 hf,told_g3 hf,told_g4 hf,told_g5 hf,told_g6 hf,told_g7 hf,pickD,hq,nev8]
theorem s9 {f:Fd} (hf:f∈fds) (a0 a1 a2 a4 a5:Option D) (c:List Cell):oq9 [a0,a1,a2,some (.int (f.q:Int)),a4,a5] c=.ok (.nx [a0,a1,a2,some (.int (f.q:Int)),a4,a5]) c:=by
 have sz:=sizeH
 have hm:modD (.int (f.q:Int)) (.int 4) c=.ok (.int ((f.q:Int) % 4)) c:=mod_c c (by decide)
 by_cases h4:f.q % 4=1
 ·have hi:((f.q:Int) % 4=1):=by omega
  simp (disch:=omega) [oq9,told_w1 hf h4,hm,hi]
 ·have hi:¬ ((f.q:Int) % 4=1):=by omega
  simp (disch:=omega) [oq9,told_w0 hf h4,hm,hi]
theorem outer_ok {ns:List Int} {i:Int} (hi:0≤i) (c:List Cell) (v2 v3 v4 v5:Option D) :
  ∃ e' c',(∃ w1 w2 w3 w4 w5,e'=[some (.scr ns),w1,w2,w3,w4,w5])∧outerB [some (.scr ns),some (.int i),v2,v3,v4,v5] c=.ok (.nx e') c':=by
 obtain ⟨x,hx⟩:=cell_ok ns i hi c
 obtain ⟨p0,hp⟩:=pot_ok x c
 have P0:Pot c.length (c.length + 1) (c ++ [.lst [.int p0]]):=⟨by simp,by omega,p0,by simp⟩
 have e0:oq0 [some (.scr ns),some (.int i),v2,v3,v4,v5] c=.ok (.nx [some (.scr ns),some (.int i),some (.ref c.length),v3,v4,v5]) (c ++ [.lst [.int p0]]):=by simp [oq0,hx,hp]
 obtain ⟨f,c1,hf,P1,e1⟩:=s1 P0 (some (.scr ns)) (some (.int i)) v3 v4 v5
 obtain ⟨X,c2,hX,P2,e2⟩:=s2 P1 (some (.scr ns)) (some (.int i)) (some (.int (f.q:Int))) v4 v5
 have e3:=s3 (fun c=>odd_no c X hX) (some (.scr ns)) (some (.int i)) (some (.ref c.length)) (some (.int (f.q:Int))) v5 c2
 obtain ⟨Y,c3,hY,P3,e4⟩:=s4 (q:=(f.q:Int)) P2 (some (.scr ns)) (some (.int i)) (some X) v5
 have hno:∀ c,m_is_whole_within [Y,.int 0,.int ((f.q:Int) - 1)] c=.ok (.bl false) c:=fun c=>t10_no hf c Y hY
 have e5:=s5 hf hno (some (.scr ns)) (some (.int i)) (some (.ref c.length)) (some X) c3
 have e6:=s6 hf hno (some (.scr ns)) (some (.int i)) (some (.ref c.length)) (some X) c3
 obtain ⟨c4,P4,e7⟩:=s7 hf P3 (some (.scr ns)) (some (.int i)) (some X) (some Y)
 have e8:=s8 hf (some (.scr ns)) (some (.int i)) (some (.ref c.length)) (some X) (some Y) c4
 have e9:=s9 hf (some (.scr ns)) (some (.int i)) (some (.ref c.length)) (some X) (some Y) c4
 refine ⟨_,c4,⟨some (.int i),some (.ref c.length),some (.int (f.q:Int)),some X,some Y,rfl⟩,?_⟩
 unfold outerB
 rw [seq_ok e0,seq_ok e1,seq_ok e2,seq_ok e3,seq_ok e4,seq_ok e5,seq_ok e6,seq_ok e7,seq_ok e8,e9]
theorem law_main (ns:List Int) (hl:ns.length≤63):∃ c,m_law [.scr ns] []=.ok (.bl true) c:=by
 generalize hm:(if (if (8:Int) < ns.length then (8:Int) else ns.length) > 1 then (if (8:Int) < ns.length then (8:Int) else ns.length) else 1)=m
 have hb:-4611686018427387904≤m∧m < 4611686018427387904:=by
  rw [← hm]
  split <;> (try split) <;> omega
 obtain ⟨e',c',⟨w1,w2,w3,w4,w5,rfl⟩,hf⟩:=for_any (g:=gdName 1) (s:=outerB)
  (fun e=>∃ w1 w2 w3 w4 w5,e=[some (.scr ns),w1,w2,w3,w4,w5]) (rngD 0 m) [some (.scr ns),none,none,none,none,none] [] ⟨_,_,_,_,_,rfl⟩ (fun t ht e c ⟨w1,w2,w3,w4,w5,he⟩=>by
   subst he
   obtain ⟨i,rfl,i0,i1⟩:=mem_rng ht
   obtain ⟨e',c',ie,ho⟩:=outer_ok (ns:=ns) i0 c w2 w3 w4 w5
   exact ⟨_,e',_,c',rfl,ho,ie⟩)
 have hb2:b_law=sSeq (sFor (dRng1 (dCons (dCB max2D (dCons (dC (.int 1)) (dCons (dCB min2D (dCons (dCB lenD (dCons (dVar 0) dNil)) (dCons (dC (.int 8)) dNil))) dNil))) dNil)) (gdName 1) outerB) (sRet (dC (.bl true))):=rfl
 have hsr:(dRng1 (dCons (dCB max2D (dCons (dC (.int 1)) (dCons (dCB min2D (dCons (dCB lenD (dCons (dVar 0) dNil)) (dCons (dC (.int 8)) dNil))) dNil))) dNil)) [some (.scr ns),none,none,none,none,none] []=.ok ⟨rngD 0 m,fun _=>True⟩ []:=by
  simp
  simp only [gt_iff_lt] at hm
  rw [hm,if_pos (by omega)]
 have e1:sFor (dRng1 (dCons (dCB max2D (dCons (dC (.int 1)) (dCons (dCB min2D (dCons (dCB lenD (dCons (dVar 0) dNil)) (dCons (dC (.int 8)) dNil))) dNil))) dNil)) (gdName 1) outerB [some (.scr ns),none,none,none,none,none] []=.ok (.nx [some (.scr ns),w1,w2,w3,w4,w5]) c':=by
  rw [x_for,hsr,R.bind_ok]
  exact hf
 refine ⟨c'.take 0,?_⟩
 unfold m_law fnD
 rw [show startD 6 [D.scr ns]=[some (.scr ns),none,none,none,none,none] from rfl,hb2,seq_ok e1]
 rfl
end Ev
namespace Ev
open PySem L2 PyProof.Rows
theorem all_mk {l:PySem.W.OpenLaw} {w:World} {K:PySem.W.Frag} {h:Heap} {mg:Str→Option Value} {fa:Addr} {f_is_whole f_is_whole_within f_is_field f_require_field f_require_things f_row_of f_number_of f_taken f_row_where f_web_where f_added f_times_letter f_multiplied f_raised f_divided f_squares_in f_root_in f_is_maker f_maker f_field_web f_law_cell_at f_law_pot f_law_take f_law_kind_of f_law_fields f_law_told f_law:Addr} (X:K.In h) (G:h.Ns mainGlobals mg) (hfa:mg "law"=some (.ref fa))
  {od_is_whole an_is_whole od_is_whole_within an_is_whole_within od_is_field an_is_field od_require_field an_require_field od_require_things an_require_things od_row_of an_row_of od_number_of an_number_of od_taken an_taken od_row_where an_row_where od_web_where an_web_where od_added an_added od_times_letter an_times_letter od_multiplied an_multiplied od_raised an_raised od_divided an_divided od_squares_in an_squares_in od_root_in an_root_in od_is_maker an_is_maker od_maker an_maker od_field_web an_field_web od_law_cell_at an_law_cell_at od_law_pot an_law_pot od_law_take an_law_take od_law_kind_of an_law_kind_of od_law_fields an_law_fields od_law_told an_law_told od_law an_law:Option Addr} {sl_is_whole sl_is_whole_within sl_is_field sl_require_field sl_require_things sl_row_of sl_number_of sl_taken sl_row_where sl_web_where sl_added sl_times_letter sl_multiplied sl_raised sl_divided sl_squares_in sl_root_in sl_is_maker sl_maker sl_field_web sl_law_cell_at sl_law_pot sl_law_take sl_law_kind_of sl_law_fields sl_law_told sl_law:Array (Option Value)} {oc_is_whole kV_is_whole dc_is_whole pm_is_whole cd_is_whole ct_is_whole oc_is_whole_within kV_is_whole_within dc_is_whole_within pm_is_whole_within cd_is_whole_within ct_is_whole_within oc_is_field kV_is_field dc_is_field pm_is_field cd_is_field ct_is_field oc_require_field kV_require_field dc_require_field pm_require_field cd_require_field ct_require_field oc_require_things kV_require_things dc_require_things pm_require_things cd_require_things ct_require_things oc_row_of kV_row_of dc_row_of pm_row_of cd_row_of ct_row_of oc_number_of kV_number_of dc_number_of pm_number_of cd_number_of ct_number_of oc_taken kV_taken dc_taken pm_taken cd_taken ct_taken oc_row_where kV_row_where dc_row_where pm_row_where cd_row_where ct_row_where oc_web_where kV_web_where dc_web_where pm_web_where cd_web_where ct_web_where oc_added kV_added dc_added pm_added cd_added ct_added oc_times_letter kV_times_letter dc_times_letter pm_times_letter cd_times_letter ct_times_letter oc_multiplied kV_multiplied dc_multiplied pm_multiplied cd_multiplied ct_multiplied oc_raised kV_raised dc_raised pm_raised cd_raised ct_raised oc_divided kV_divided dc_divided pm_divided cd_divided ct_divided oc_squares_in kV_squares_in dc_squares_in pm_squares_in cd_squares_in ct_squares_in oc_root_in kV_root_in dc_root_in pm_root_in cd_root_in ct_root_in oc_is_maker kV_is_maker dc_is_maker pm_is_maker cd_is_maker ct_is_maker oc_maker kV_maker dc_maker pm_maker cd_maker ct_maker oc_field_web kV_field_web dc_field_web pm_field_web cd_field_web ct_field_web oc_law_cell_at kV_law_cell_at dc_law_cell_at pm_law_cell_at cd_law_cell_at ct_law_cell_at oc_law_pot kV_law_pot dc_law_pot pm_law_pot cd_law_pot ct_law_pot oc_law_take kV_law_take dc_law_take pm_law_take cd_law_take ct_law_take oc_law_kind_of kV_law_kind_of dc_law_kind_of pm_law_kind_of cd_law_kind_of ct_law_kind_of oc_law_fields kV_law_fields dc_law_fields pm_law_fields cd_law_fields ct_law_fields oc_law_told kV_law_told dc_law_told pm_law_told cd_law_told ct_law_told oc_law kV_law dc_law pm_law cd_law ct_law:Value}
  (a_is_whole:PySem.W.nsIn K mainGlobals "is_whole"=some (some (.ref f_is_whole))) (l_is_whole:K.lookup f_is_whole=some ⟨oc_is_whole,od_is_whole,.func (PySem.W.fnOf "is_whole" "is_whole" (defArgs s_is_whole) (defBody s_is_whole) (defScope s_is_whole) .none kV_is_whole dc_is_whole pm_is_whole an_is_whole cd_is_whole ct_is_whole),sl_is_whole⟩) (c_is_whole:PySem.W.codeIn K cd_is_whole "is_whole"=true) (k_is_whole:PySem.W.keepIn K (.ref f_is_whole)=true)
  (a_is_whole_within:PySem.W.nsIn K mainGlobals "is_whole_within"=some (some (.ref f_is_whole_within))) (l_is_whole_within:K.lookup f_is_whole_within=some ⟨oc_is_whole_within,od_is_whole_within,.func (PySem.W.fnOf "is_whole_within" "is_whole_within" (defArgs s_is_whole_within) (defBody s_is_whole_within) (defScope s_is_whole_within) .none kV_is_whole_within dc_is_whole_within pm_is_whole_within an_is_whole_within cd_is_whole_within ct_is_whole_within),sl_is_whole_within⟩) (c_is_whole_within:PySem.W.codeIn K cd_is_whole_within "is_whole_within"=true) (k_is_whole_within:PySem.W.keepIn K (.ref f_is_whole_within)=true)
  (a_is_field:PySem.W.nsIn K mainGlobals "is_field"=some (some (.ref f_is_field))) (l_is_field:K.lookup f_is_field=some ⟨oc_is_field,od_is_field,.func (PySem.W.fnOf "is_field" "is_field" (defArgs s_is_field) (defBody s_is_field) (defScope s_is_field) .none kV_is_field dc_is_field pm_is_field an_is_field cd_is_field ct_is_field),sl_is_field⟩) (c_is_field:PySem.W.codeIn K cd_is_field "is_field"=true) (k_is_field:PySem.W.keepIn K (.ref f_is_field)=true)
  (a_require_field:PySem.W.nsIn K mainGlobals "require_field"=some (some (.ref f_require_field))) (l_require_field:K.lookup f_require_field=some ⟨oc_require_field,od_require_field,.func (PySem.W.fnOf "require_field" "require_field" (defArgs s_require_field) (defBody s_require_field) (defScope s_require_field) .none kV_require_field dc_require_field pm_require_field an_require_field cd_require_field ct_require_field),sl_require_field⟩) (c_require_field:PySem.W.codeIn K cd_require_field "require_field"=true) (k_require_field:PySem.W.keepIn K (.ref f_require_field)=true)
  (a_require_things:PySem.W.nsIn K mainGlobals "require_things"=some (some (.ref f_require_things))) (l_require_things:K.lookup f_require_things=some ⟨oc_require_things,od_require_things,.func (PySem.W.fnOf "require_things" "require_things" (defArgs s_require_things) (defBody s_require_things) (defScope s_require_things) .none kV_require_things dc_require_things pm_require_things an_require_things cd_require_things ct_require_things),sl_require_things⟩) (c_require_things:PySem.W.codeIn K cd_require_things "require_things"=true) (k_require_things:PySem.W.keepIn K (.ref f_require_things)=true)
  (a_row_of:PySem.W.nsIn K mainGlobals "row_of"=some (some (.ref f_row_of))) (l_row_of:K.lookup f_row_of=some ⟨oc_row_of,od_row_of,.func (PySem.W.fnOf "row_of" "row_of" (defArgs s_row_of) (defBody s_row_of) (defScope s_row_of) .none kV_row_of dc_row_of pm_row_of an_row_of cd_row_of ct_row_of),sl_row_of⟩) (c_row_of:PySem.W.codeIn K cd_row_of "row_of"=true) (k_row_of:PySem.W.keepIn K (.ref f_row_of)=true)
  (a_number_of:PySem.W.nsIn K mainGlobals "number_of"=some (some (.ref f_number_of))) (l_number_of:K.lookup f_number_of=some ⟨oc_number_of,od_number_of,.func (PySem.W.fnOf "number_of" "number_of" (defArgs s_number_of) (defBody s_number_of) (defScope s_number_of) .none kV_number_of dc_number_of pm_number_of an_number_of cd_number_of ct_number_of),sl_number_of⟩) (c_number_of:PySem.W.codeIn K cd_number_of "number_of"=true) (k_number_of:PySem.W.keepIn K (.ref f_number_of)=true)
  (a_taken:PySem.W.nsIn K mainGlobals "taken"=some (some (.ref f_taken))) (l_taken:K.lookup f_taken=some ⟨oc_taken,od_taken,.func (PySem.W.fnOf "taken" "taken" (defArgs s_taken) (defBody s_taken) (defScope s_taken) .none kV_taken dc_taken pm_taken an_taken cd_taken ct_taken),sl_taken⟩) (c_taken:PySem.W.codeIn K cd_taken "taken"=true) (k_taken:PySem.W.keepIn K (.ref f_taken)=true)
  (a_row_where:PySem.W.nsIn K mainGlobals "row_where"=some (some (.ref f_row_where))) (l_row_where:K.lookup f_row_where=some ⟨oc_row_where,od_row_where,.func (PySem.W.fnOf "row_where" "row_where" (defArgs s_row_where) (defBody s_row_where) (defScope s_row_where) .none kV_row_where dc_row_where pm_row_where an_row_where cd_row_where ct_row_where),sl_row_where⟩) (c_row_where:PySem.W.codeIn K cd_row_where "row_where"=true) (k_row_where:PySem.W.keepIn K (.ref f_row_where)=true)
  (a_web_where:PySem.W.nsIn K mainGlobals "web_where"=some (some (.ref f_web_where))) (l_web_where:K.lookup f_web_where=some ⟨oc_web_where,od_web_where,.func (PySem.W.fnOf "web_where" "web_where" (defArgs s_web_where) (defBody s_web_where) (defScope s_web_where) .none kV_web_where dc_web_where pm_web_where an_web_where cd_web_where ct_web_where),sl_web_where⟩) (c_web_where:PySem.W.codeIn K cd_web_where "web_where"=true) (k_web_where:PySem.W.keepIn K (.ref f_web_where)=true)
  (a_added:PySem.W.nsIn K mainGlobals "added"=some (some (.ref f_added))) (l_added:K.lookup f_added=some ⟨oc_added,od_added,.func (PySem.W.fnOf "added" "added" (defArgs s_added) (defBody s_added) (defScope s_added) .none kV_added dc_added pm_added an_added cd_added ct_added),sl_added⟩) (c_added:PySem.W.codeIn K cd_added "added"=true) (k_added:PySem.W.keepIn K (.ref f_added)=true)
  (a_times_letter:PySem.W.nsIn K mainGlobals "times_letter"=some (some (.ref f_times_letter))) (l_times_letter:K.lookup f_times_letter=some ⟨oc_times_letter,od_times_letter,.func (PySem.W.fnOf "times_letter" "times_letter" (defArgs s_times_letter) (defBody s_times_letter) (defScope s_times_letter) .none kV_times_letter dc_times_letter pm_times_letter an_times_letter cd_times_letter ct_times_letter),sl_times_letter⟩) (c_times_letter:PySem.W.codeIn K cd_times_letter "times_letter"=true) (k_times_letter:PySem.W.keepIn K (.ref f_times_letter)=true)
  (a_multiplied:PySem.W.nsIn K mainGlobals "multiplied"=some (some (.ref f_multiplied))) (l_multiplied:K.lookup f_multiplied=some ⟨oc_multiplied,od_multiplied,.func (PySem.W.fnOf "multiplied" "multiplied" (defArgs s_multiplied) (defBody s_multiplied) (defScope s_multiplied) .none kV_multiplied dc_multiplied pm_multiplied an_multiplied cd_multiplied ct_multiplied),sl_multiplied⟩) (c_multiplied:PySem.W.codeIn K cd_multiplied "multiplied"=true) (k_multiplied:PySem.W.keepIn K (.ref f_multiplied)=true)
  (a_raised:PySem.W.nsIn K mainGlobals "raised"=some (some (.ref f_raised))) (l_raised:K.lookup f_raised=some ⟨oc_raised,od_raised,.func (PySem.W.fnOf "raised" "raised" (defArgs s_raised) (defBody s_raised) (defScope s_raised) .none kV_raised dc_raised pm_raised an_raised cd_raised ct_raised),sl_raised⟩) (c_raised:PySem.W.codeIn K cd_raised "raised"=true) (k_raised:PySem.W.keepIn K (.ref f_raised)=true)
  (a_divided:PySem.W.nsIn K mainGlobals "divided"=some (some (.ref f_divided))) (l_divided:K.lookup f_divided=some ⟨oc_divided,od_divided,.func (PySem.W.fnOf "divided" "divided" (defArgs s_divided) (defBody s_divided) (defScope s_divided) .none kV_divided dc_divided pm_divided an_divided cd_divided ct_divided),sl_divided⟩) (c_divided:PySem.W.codeIn K cd_divided "divided"=true) (k_divided:PySem.W.keepIn K (.ref f_divided)=true)
  (a_squares_in:PySem.W.nsIn K mainGlobals "squares_in"=some (some (.ref f_squares_in))) (l_squares_in:K.lookup f_squares_in=some ⟨oc_squares_in,od_squares_in,.func (PySem.W.fnOf "squares_in" "squares_in" (defArgs s_squares_in) (defBody s_squares_in) (defScope s_squares_in) .none kV_squares_in dc_squares_in pm_squares_in an_squares_in cd_squares_in ct_squares_in),sl_squares_in⟩) (c_squares_in:PySem.W.codeIn K cd_squares_in "squares_in"=true) (k_squares_in:PySem.W.keepIn K (.ref f_squares_in)=true)
  (a_root_in:PySem.W.nsIn K mainGlobals "root_in"=some (some (.ref f_root_in))) (l_root_in:K.lookup f_root_in=some ⟨oc_root_in,od_root_in,.func (PySem.W.fnOf "root_in" "root_in" (defArgs s_root_in) (defBody s_root_in) (defScope s_root_in) .none kV_root_in dc_root_in pm_root_in an_root_in cd_root_in ct_root_in),sl_root_in⟩) (c_root_in:PySem.W.codeIn K cd_root_in "root_in"=true) (k_root_in:PySem.W.keepIn K (.ref f_root_in)=true)
  (a_is_maker:PySem.W.nsIn K mainGlobals "is_maker"=some (some (.ref f_is_maker))) (l_is_maker:K.lookup f_is_maker=some ⟨oc_is_maker,od_is_maker,.func (PySem.W.fnOf "is_maker" "is_maker" (defArgs s_is_maker) (defBody s_is_maker) (defScope s_is_maker) .none kV_is_maker dc_is_maker pm_is_maker an_is_maker cd_is_maker ct_is_maker),sl_is_maker⟩) (c_is_maker:PySem.W.codeIn K cd_is_maker "is_maker"=true) (k_is_maker:PySem.W.keepIn K (.ref f_is_maker)=true)
  (a_maker:PySem.W.nsIn K mainGlobals "maker"=some (some (.ref f_maker))) (l_maker:K.lookup f_maker=some ⟨oc_maker,od_maker,.func (PySem.W.fnOf "maker" "maker" (defArgs s_maker) (defBody s_maker) (defScope s_maker) .none kV_maker dc_maker pm_maker an_maker cd_maker ct_maker),sl_maker⟩) (c_maker:PySem.W.codeIn K cd_maker "maker"=true) (k_maker:PySem.W.keepIn K (.ref f_maker)=true)
  (a_field_web:PySem.W.nsIn K mainGlobals "field_web"=some (some (.ref f_field_web))) (l_field_web:K.lookup f_field_web=some ⟨oc_field_web,od_field_web,.func (PySem.W.fnOf "field_web" "field_web" (defArgs s_field_web) (defBody s_field_web) (defScope s_field_web) .none kV_field_web dc_field_web pm_field_web an_field_web cd_field_web ct_field_web),sl_field_web⟩) (c_field_web:PySem.W.codeIn K cd_field_web "field_web"=true) (k_field_web:PySem.W.keepIn K (.ref f_field_web)=true)
  (a_law_cell_at:PySem.W.nsIn K mainGlobals "_law_cell_at"=some (some (.ref f_law_cell_at))) (l_law_cell_at:K.lookup f_law_cell_at=some ⟨oc_law_cell_at,od_law_cell_at,.func (PySem.W.fnOf "_law_cell_at" "_law_cell_at" (defArgs s_law_cell_at) (defBody s_law_cell_at) (defScope s_law_cell_at) .none kV_law_cell_at dc_law_cell_at pm_law_cell_at an_law_cell_at cd_law_cell_at ct_law_cell_at),sl_law_cell_at⟩) (c_law_cell_at:PySem.W.codeIn K cd_law_cell_at "_law_cell_at"=true) (k_law_cell_at:PySem.W.keepIn K (.ref f_law_cell_at)=true)
  (a_law_pot:PySem.W.nsIn K mainGlobals "_law_pot"=some (some (.ref f_law_pot))) (l_law_pot:K.lookup f_law_pot=some ⟨oc_law_pot,od_law_pot,.func (PySem.W.fnOf "_law_pot" "_law_pot" (defArgs s_law_pot) (defBody s_law_pot) (defScope s_law_pot) .none kV_law_pot dc_law_pot pm_law_pot an_law_pot cd_law_pot ct_law_pot),sl_law_pot⟩) (c_law_pot:PySem.W.codeIn K cd_law_pot "_law_pot"=true) (k_law_pot:PySem.W.keepIn K (.ref f_law_pot)=true)
  (a_law_take:PySem.W.nsIn K mainGlobals "_law_take"=some (some (.ref f_law_take))) (l_law_take:K.lookup f_law_take=some ⟨oc_law_take,od_law_take,.func (PySem.W.fnOf "_law_take" "_law_take" (defArgs s_law_take) (defBody s_law_take) (defScope s_law_take) .none kV_law_take dc_law_take pm_law_take an_law_take cd_law_take ct_law_take),sl_law_take⟩) (c_law_take:PySem.W.codeIn K cd_law_take "_law_take"=true) (k_law_take:PySem.W.keepIn K (.ref f_law_take)=true)
  (a_law_kind_of:PySem.W.nsIn K mainGlobals "_law_kind_of"=some (some (.ref f_law_kind_of))) (l_law_kind_of:K.lookup f_law_kind_of=some ⟨oc_law_kind_of,od_law_kind_of,.func (PySem.W.fnOf "_law_kind_of" "_law_kind_of" (defArgs s_law_kind_of) (defBody s_law_kind_of) (defScope s_law_kind_of) .none kV_law_kind_of dc_law_kind_of pm_law_kind_of an_law_kind_of cd_law_kind_of ct_law_kind_of),sl_law_kind_of⟩) (c_law_kind_of:PySem.W.codeIn K cd_law_kind_of "_law_kind_of"=true) (k_law_kind_of:PySem.W.keepIn K (.ref f_law_kind_of)=true)
  (a_law_fields:PySem.W.nsIn K mainGlobals "_law_fields"=some (some (.ref f_law_fields))) (l_law_fields:K.lookup f_law_fields=some ⟨oc_law_fields,od_law_fields,.func (PySem.W.fnOf "_law_fields" "_law_fields" (defArgs s_law_fields) (defBody s_law_fields) (defScope s_law_fields) .none kV_law_fields dc_law_fields pm_law_fields an_law_fields cd_law_fields ct_law_fields),sl_law_fields⟩) (c_law_fields:PySem.W.codeIn K cd_law_fields "_law_fields"=true) (k_law_fields:PySem.W.keepIn K (.ref f_law_fields)=true)
  (a_law_told:PySem.W.nsIn K mainGlobals "_law_told"=some (some (.ref f_law_told))) (l_law_told:K.lookup f_law_told=some ⟨oc_law_told,od_law_told,.func (PySem.W.fnOf "_law_told" "_law_told" (defArgs s_law_told) (defBody s_law_told) (defScope s_law_told) .none kV_law_told dc_law_told pm_law_told an_law_told cd_law_told ct_law_told),sl_law_told⟩) (c_law_told:PySem.W.codeIn K cd_law_told "_law_told"=true) (k_law_told:PySem.W.keepIn K (.ref f_law_told)=true)
  (a_law:PySem.W.nsIn K mainGlobals "law"=some (some (.ref f_law))) (l_law:K.lookup f_law=some ⟨oc_law,od_law,.func (PySem.W.fnOf "law" "law" (defArgs s_law) (defBody s_law) (defScope s_law) .none kV_law dc_law pm_law an_law cd_law ct_law),sl_law⟩) (c_law:PySem.W.codeIn K cd_law "law"=true) (k_law:PySem.W.keepIn K (.ref f_law)=true)
  (z_ValueError:PySem.W.nsIn K mainGlobals "ValueError"=some none)
  (z_bool:PySem.W.nsIn K mainGlobals "bool"=some none)
  (z_int:PySem.W.nsIn K mainGlobals "int"=some none)
  (z_isinstance:PySem.W.nsIn K mainGlobals "isinstance"=some none)
  (z_len:PySem.W.nsIn K mainGlobals "len"=some none)
  (z_max:PySem.W.nsIn K mainGlobals "max"=some none)
  (z_min:PySem.W.nsIn K mainGlobals "min"=some none)
  (z_range:PySem.W.nsIn K mainGlobals "range"=some none)
  (z_reversed:PySem.W.nsIn K mainGlobals "reversed"=some none)
  (z_set:PySem.W.nsIn K mainGlobals "set"=some none)
  (z_sorted:PySem.W.nsIn K mainGlobals "sorted"=some none)
  (z_tuple:PySem.W.nsIn K mainGlobals "tuple"=some none)
  (z_zip:PySem.W.nsIn K mainGlobals "zip"=some none)
  {ad_FIELDS:Addr} (y_FIELDS:PySem.W.nsIn K mainGlobals "FIELDS"=some (some (.ref ad_FIELDS))) (u_FIELDS:dictIn K ad_FIELDS x_FIELDS=true)
  {c_NoWeb:Addr} (p_NoWeb:PySem.W.nsIn K mainGlobals "NoWeb"=some (some (.ref c_NoWeb)))
  {c_NoText:Addr} (p_NoText:PySem.W.nsIn K mainGlobals "NoText"=some (some (.ref c_NoText)))
  {c_NoNumbers:Addr} (p_NoNumbers:PySem.W.nsIn K mainGlobals "NoNumbers"=some (some (.ref c_NoNumbers)))
  {c_NoField:Addr} (p_NoField:PySem.W.nsIn K mainGlobals "NoField"=some (some (.ref c_NoField)))
  {c_NoThing:Addr} (p_NoThing:PySem.W.nsIn K mainGlobals "NoThing"=some (some (.ref c_NoThing)))
  {c_NoSquare:Addr} (p_NoSquare:PySem.W.nsIn K mainGlobals "NoSquare"=some (some (.ref c_NoSquare)))
  {c_NoPlaces:Addr} (p_NoPlaces:PySem.W.nsIn K mainGlobals "NoPlaces"=some (some (.ref c_NoPlaces)))
  {c_TooMany:Addr} (p_TooMany:PySem.W.nsIn K mainGlobals "TooMany"=some (some (.ref c_TooMany)))
  {c_NoName:Addr} (p_NoName:PySem.W.nsIn K mainGlobals "NoName"=some (some (.ref c_NoName)))
  {c_NoDeed:Addr} (p_NoDeed:PySem.W.nsIn K mainGlobals "NoDeed"=some (some (.ref c_NoDeed)))
  {c_NoRow:Addr} (p_NoRow:PySem.W.nsIn K mainGlobals "NoRow"=some (some (.ref c_NoRow)))
  {c_WebError:Addr} (p_WebError:PySem.W.nsIn K mainGlobals "WebError"=some (some (.ref c_WebError)))
  (e_NoField:PySem.W.excIn K c_NoField veMro "ValueError.__new__"=true)
  (e_NoThing:PySem.W.excIn K c_NoThing veMro "ValueError.__new__"=true)
  {tc_field_web tp_field_web:Addr} (tb_field_web:PySem.W.tabIn K "field_web"=some (tc_field_web,tp_field_web)) (th_field_web:PySem.W.codeHdIn K tc_field_web tp_field_web=true)
  (tap:tabsApart K=true)
  (xtab:xtabIn K xcls=true) (xw:xwIn K xcls c_WebError=true)
  : ∃ fd:FuncData,(∀ (s:Shared) (v:Value),BindsTo s fd ⟨[v],[]⟩ [("script",v)])∧∀ base:Heap,K.In base→base.Ns mainGlobals mg→FnOk l.prog w K mg base CX0 11 fa fd ["script"] (spD K 1 m_law):=by
 have e:=hfa.symm.trans (PySem.W.mg_of X G a_law)
 cases e
 have F_is_whole:=fun_mk (st:=s_is_whole) l_is_whole c_is_whole k_is_whole
 have b_is_whole:=F_is_whole.binds (ps:=["thing"]) fun _ _ _ _ _ _ us hl=>match us,hl with | [_],_=>rfl
 have F_is_whole_within:=fun_mk (st:=s_is_whole_within) l_is_whole_within c_is_whole_within k_is_whole_within
 have b_is_whole_within:=F_is_whole_within.binds (ps:=["thing","least","most"]) fun _ _ _ _ _ _ us hl=>match us,hl with | [_,_,_],_=>rfl
 have F_is_field:=fun_mk (st:=s_is_field) l_is_field c_is_field k_is_field
 have b_is_field:=F_is_field.binds (ps:=["thing"]) fun _ _ _ _ _ _ us hl=>match us,hl with | [_],_=>rfl
 have F_require_field:=fun_mk (st:=s_require_field) l_require_field c_require_field k_require_field
 have b_require_field:=F_require_field.binds (ps:=["thing"]) fun _ _ _ _ _ _ us hl=>match us,hl with | [_],_=>rfl
 have F_require_things:=fun_mk (st:=s_require_things) l_require_things c_require_things k_require_things
 have b_require_things:=F_require_things.binds (ps:=["q","things"]) fun _ _ _ _ _ _ us hl=>match us,hl with | [_,_],_=>rfl
 have F_row_of:=fun_mk (st:=s_row_of) l_row_of c_row_of k_row_of
 have b_row_of:=F_row_of.binds (ps:=["q","number"]) fun _ _ _ _ _ _ us hl=>match us,hl with | [_,_],_=>rfl
 have F_number_of:=fun_mk (st:=s_number_of) l_number_of c_number_of k_number_of
 have b_number_of:=F_number_of.binds (ps:=["q","row"]) fun _ _ _ _ _ _ us hl=>match us,hl with | [_,_],_=>rfl
 have F_taken:=fun_mk (st:=s_taken) l_taken c_taken k_taken
 have b_taken:=F_taken.binds (ps:=["q","one","other"]) fun _ _ _ _ _ _ us hl=>match us,hl with | [_,_,_],_=>rfl
 have F_row_where:=fun_mk (st:=s_row_where) l_row_where c_row_where k_row_where
 have b_row_where:=F_row_where.binds (ps:=["many","one","are_tied"]) fun _ _ _ _ _ _ us hl=>match us,hl with | [_,_,_],_=>rfl
 have F_web_where:=fun_mk (st:=s_web_where) l_web_where c_web_where k_web_where
 have b_web_where:=F_web_where.binds (ps:=["many","are_tied"]) fun _ _ _ _ _ _ us hl=>match us,hl with | [_,_],_=>rfl
 have F_added:=fun_mk (st:=s_added) l_added c_added k_added
 have b_added:=F_added.binds (ps:=["q","one","other"]) fun _ _ _ _ _ _ us hl=>match us,hl with | [_,_,_],_=>rfl
 have F_times_letter:=fun_mk (st:=s_times_letter) l_times_letter c_times_letter k_times_letter
 have b_times_letter:=F_times_letter.binds (ps:=["q","row"]) fun _ _ _ _ _ _ us hl=>match us,hl with | [_,_],_=>rfl
 have F_multiplied:=fun_mk (st:=s_multiplied) l_multiplied c_multiplied k_multiplied
 have b_multiplied:=F_multiplied.binds (ps:=["q","one","other"]) fun _ _ _ _ _ _ us hl=>match us,hl with | [_,_,_],_=>rfl
 have F_raised:=fun_mk (st:=s_raised) l_raised c_raised k_raised
 have b_raised:=F_raised.binds (ps:=["q","one","often"]) fun _ _ _ _ _ _ us hl=>match us,hl with | [_,_,_],_=>rfl
 have F_divided:=fun_mk (st:=s_divided) l_divided c_divided k_divided
 have b_divided:=F_divided.binds (ps:=["q","one","other"]) fun _ _ _ _ _ _ us hl=>match us,hl with | [_,_,_],_=>rfl
 have F_squares_in:=fun_mk (st:=s_squares_in) l_squares_in c_squares_in k_squares_in
 have b_squares_in:=F_squares_in.binds (ps:=["q"]) fun _ _ _ _ _ _ us hl=>match us,hl with | [_],_=>rfl
 have F_root_in:=fun_mk (st:=s_root_in) l_root_in c_root_in k_root_in
 have b_root_in:=F_root_in.binds (ps:=["q","one"]) fun _ _ _ _ _ _ us hl=>match us,hl with | [_,_],_=>rfl
 have F_is_maker:=fun_mk (st:=s_is_maker) l_is_maker c_is_maker k_is_maker
 have b_is_maker:=F_is_maker.binds (ps:=["q","thing"]) fun _ _ _ _ _ _ us hl=>match us,hl with | [_,_],_=>rfl
 have F_maker:=fun_mk (st:=s_maker) l_maker c_maker k_maker
 have b_maker:=F_maker.binds (ps:=["q"]) fun _ _ _ _ _ _ us hl=>match us,hl with | [_],_=>rfl
 have F_field_web:=fun_mk (st:=s_field_web) l_field_web c_field_web k_field_web
 have b_field_web:=F_field_web.binds (ps:=["q"]) fun _ _ _ _ _ _ us hl=>match us,hl with | [_],_=>rfl
 have F_law_cell_at:=fun_mk (st:=s_law_cell_at) l_law_cell_at c_law_cell_at k_law_cell_at
 have b_law_cell_at:=F_law_cell_at.binds (ps:=["script","k"]) fun _ _ _ _ _ _ us hl=>match us,hl with | [_,_],_=>rfl
 have F_law_pot:=fun_mk (st:=s_law_pot) l_law_pot c_law_pot k_law_pot
 have b_law_pot:=F_law_pot.binds (ps:=["cell"]) fun _ _ _ _ _ _ us hl=>match us,hl with | [_],_=>rfl
 have F_law_take:=fun_mk (st:=s_law_take) l_law_take c_law_take k_law_take
 have b_law_take:=F_law_take.binds (ps:=["pot","far"]) fun _ _ _ _ _ _ us hl=>match us,hl with | [_,_],_=>rfl
 have F_law_kind_of:=fun_mk (st:=s_law_kind_of) l_law_kind_of c_law_kind_of k_law_kind_of
 have b_law_kind_of:=F_law_kind_of.binds (ps:=["e"]) fun _ _ _ _ _ _ us hl=>match us,hl with | [_],_=>rfl
 have F_law_fields:=fun_mk (st:=s_law_fields) l_law_fields c_law_fields k_law_fields
 have b_law_fields:=F_law_fields.binds (ps:=[]) fun _ _ _ _ _ _ us hl=>match us,hl with | [],_=>rfl
 have F_law_told:=fun_mk (st:=s_law_told) l_law_told c_law_told k_law_told
 have b_law_told:=F_law_told.binds (ps:=["way","q","one","other"]) fun _ _ _ _ _ _ us hl=>match us,hl with | [_,_,_,_],_=>rfl
 have F_law:=fun_mk (st:=s_law) l_law c_law k_law
 have b_law:=F_law.binds (ps:=["script"]) fun _ _ _ _ _ _ us hl=>match us,hl with | [_],_=>rfl
 let T:Tx K mg:={
  a_is_whole:=f_is_whole,fd_is_whole:=_,d_is_whole:=⟨F_is_whole,PySem.W.mg_of X G a_is_whole,b_is_whole⟩,n_is_whole:=a_is_whole,
  a_is_whole_within:=f_is_whole_within,fd_is_whole_within:=_,d_is_whole_within:=⟨F_is_whole_within,PySem.W.mg_of X G a_is_whole_within,b_is_whole_within⟩,n_is_whole_within:=a_is_whole_within,
  a_is_field:=f_is_field,fd_is_field:=_,d_is_field:=⟨F_is_field,PySem.W.mg_of X G a_is_field,b_is_field⟩,n_is_field:=a_is_field,
  a_require_field:=f_require_field,fd_require_field:=_,d_require_field:=⟨F_require_field,PySem.W.mg_of X G a_require_field,b_require_field⟩,n_require_field:=a_require_field,
  a_require_things:=f_require_things,fd_require_things:=_,d_require_things:=⟨F_require_things,PySem.W.mg_of X G a_require_things,b_require_things⟩,n_require_things:=a_require_things,
  a_row_of:=f_row_of,fd_row_of:=_,d_row_of:=⟨F_row_of,PySem.W.mg_of X G a_row_of,b_row_of⟩,n_row_of:=a_row_of,
  a_number_of:=f_number_of,fd_number_of:=_,d_number_of:=⟨F_number_of,PySem.W.mg_of X G a_number_of,b_number_of⟩,n_number_of:=a_number_of,
  a_taken:=f_taken,fd_taken:=_,d_taken:=⟨F_taken,PySem.W.mg_of X G a_taken,b_taken⟩,n_taken:=a_taken,
  a_row_where:=f_row_where,fd_row_where:=_,d_row_where:=⟨F_row_where,PySem.W.mg_of X G a_row_where,b_row_where⟩,n_row_where:=a_row_where,
  a_web_where:=f_web_where,fd_web_where:=_,d_web_where:=⟨F_web_where,PySem.W.mg_of X G a_web_where,b_web_where⟩,n_web_where:=a_web_where,
  a_added:=f_added,fd_added:=_,d_added:=⟨F_added,PySem.W.mg_of X G a_added,b_added⟩,n_added:=a_added,
  a_times_letter:=f_times_letter,fd_times_letter:=_,d_times_letter:=⟨F_times_letter,PySem.W.mg_of X G a_times_letter,b_times_letter⟩,n_times_letter:=a_times_letter,
  a_multiplied:=f_multiplied,fd_multiplied:=_,d_multiplied:=⟨F_multiplied,PySem.W.mg_of X G a_multiplied,b_multiplied⟩,n_multiplied:=a_multiplied,
  a_raised:=f_raised,fd_raised:=_,d_raised:=⟨F_raised,PySem.W.mg_of X G a_raised,b_raised⟩,n_raised:=a_raised,
  a_divided:=f_divided,fd_divided:=_,d_divided:=⟨F_divided,PySem.W.mg_of X G a_divided,b_divided⟩,n_divided:=a_divided,
  a_squares_in:=f_squares_in,fd_squares_in:=_,d_squares_in:=⟨F_squares_in,PySem.W.mg_of X G a_squares_in,b_squares_in⟩,n_squares_in:=a_squares_in,
  a_root_in:=f_root_in,fd_root_in:=_,d_root_in:=⟨F_root_in,PySem.W.mg_of X G a_root_in,b_root_in⟩,n_root_in:=a_root_in,
  a_is_maker:=f_is_maker,fd_is_maker:=_,d_is_maker:=⟨F_is_maker,PySem.W.mg_of X G a_is_maker,b_is_maker⟩,n_is_maker:=a_is_maker,
  a_maker:=f_maker,fd_maker:=_,d_maker:=⟨F_maker,PySem.W.mg_of X G a_maker,b_maker⟩,n_maker:=a_maker,
  a_field_web:=f_field_web,fd_field_web:=_,d_field_web:=⟨F_field_web,PySem.W.mg_of X G a_field_web,b_field_web⟩,n_field_web:=a_field_web,
  a_law_cell_at:=f_law_cell_at,fd_law_cell_at:=_,d_law_cell_at:=⟨F_law_cell_at,PySem.W.mg_of X G a_law_cell_at,b_law_cell_at⟩,n_law_cell_at:=a_law_cell_at,
  a_law_pot:=f_law_pot,fd_law_pot:=_,d_law_pot:=⟨F_law_pot,PySem.W.mg_of X G a_law_pot,b_law_pot⟩,n_law_pot:=a_law_pot,
  a_law_take:=f_law_take,fd_law_take:=_,d_law_take:=⟨F_law_take,PySem.W.mg_of X G a_law_take,b_law_take⟩,n_law_take:=a_law_take,
  a_law_kind_of:=f_law_kind_of,fd_law_kind_of:=_,d_law_kind_of:=⟨F_law_kind_of,PySem.W.mg_of X G a_law_kind_of,b_law_kind_of⟩,n_law_kind_of:=a_law_kind_of,
  a_law_fields:=f_law_fields,fd_law_fields:=_,d_law_fields:=⟨F_law_fields,PySem.W.mg_of X G a_law_fields,b_law_fields⟩,n_law_fields:=a_law_fields,
  a_law_told:=f_law_told,fd_law_told:=_,d_law_told:=⟨F_law_told,PySem.W.mg_of X G a_law_told,b_law_told⟩,n_law_told:=a_law_told,
  a_law:=fa,fd_law:=_,d_law:=⟨F_law,PySem.W.mg_of X G a_law,b_law⟩,n_law:=a_law,
  nb_ValueError:=PySem.W.mg_none_of X G z_ValueError,
  nb_bool:=PySem.W.mg_none_of X G z_bool,
  nb_int:=PySem.W.mg_none_of X G z_int,
  nb_isinstance:=PySem.W.mg_none_of X G z_isinstance,
  nb_len:=PySem.W.mg_none_of X G z_len,
  nb_max:=PySem.W.mg_none_of X G z_max,
  nb_min:=PySem.W.mg_none_of X G z_min,
  nb_range:=PySem.W.mg_none_of X G z_range,
  nb_reversed:=PySem.W.mg_none_of X G z_reversed,
  nb_set:=PySem.W.mg_none_of X G z_set,
  nb_sorted:=PySem.W.mg_none_of X G z_sorted,
  nb_tuple:=PySem.W.mg_none_of X G z_tuple,
  nb_zip:=PySem.W.mg_none_of X G z_zip,
  ad_FIELDS:=ad_FIELDS,g_FIELDS:=PySem.W.mg_of X G y_FIELDS,n_FIELDS:=y_FIELDS,t_FIELDS:=u_FIELDS,
  c_NoWeb:=c_NoWeb,gc_NoWeb:=PySem.W.mg_of X G p_NoWeb,nc_NoWeb:=p_NoWeb,
  c_NoText:=c_NoText,gc_NoText:=PySem.W.mg_of X G p_NoText,nc_NoText:=p_NoText,
  c_NoNumbers:=c_NoNumbers,gc_NoNumbers:=PySem.W.mg_of X G p_NoNumbers,nc_NoNumbers:=p_NoNumbers,
  c_NoField:=c_NoField,gc_NoField:=PySem.W.mg_of X G p_NoField,nc_NoField:=p_NoField,
  c_NoThing:=c_NoThing,gc_NoThing:=PySem.W.mg_of X G p_NoThing,nc_NoThing:=p_NoThing,
  c_NoSquare:=c_NoSquare,gc_NoSquare:=PySem.W.mg_of X G p_NoSquare,nc_NoSquare:=p_NoSquare,
  c_NoPlaces:=c_NoPlaces,gc_NoPlaces:=PySem.W.mg_of X G p_NoPlaces,nc_NoPlaces:=p_NoPlaces,
  c_TooMany:=c_TooMany,gc_TooMany:=PySem.W.mg_of X G p_TooMany,nc_TooMany:=p_TooMany,
  c_NoName:=c_NoName,gc_NoName:=PySem.W.mg_of X G p_NoName,nc_NoName:=p_NoName,
  c_NoDeed:=c_NoDeed,gc_NoDeed:=PySem.W.mg_of X G p_NoDeed,nc_NoDeed:=p_NoDeed,
  c_NoRow:=c_NoRow,gc_NoRow:=PySem.W.mg_of X G p_NoRow,nc_NoRow:=p_NoRow,
  c_WebError:=c_WebError,gc_WebError:=PySem.W.mg_of X G p_WebError,nc_WebError:=p_WebError,
  xc_NoField:=XCls.of p_NoField (PySem.W.mg_of X G p_NoField) e_NoField,
  xc_NoThing:=XCls.of p_NoThing (PySem.W.mg_of X G p_NoThing) e_NoThing,
  tc_field_web:=tc_field_web,tp_field_web:=tp_field_web,tb_field_web:=tb_field_web,th_field_web:=th_field_web,
  tap:=tap,
  xtab:=XTab.of xtab,xw:=xw }
 exact ⟨_,fun s v=>.of_eq rfl,fun base _ _=>ok_law T⟩
theorem walk {l:PySem.W.OpenLaw} {q:Program} {loose:List Str} {XP:(Str→Option Value)→Heap→Prop} {YP:World→Heap→Prop} {d:DefRec} {K:Params→PySem.W.Frag} {ts:List (Addr×Addr)} (hn:l.most=some 63) (hdf:d.params.defaults=[])
  (hY:∀ (w:World) (h:Heap),YP w h→(K w.params).In h∧∀ q∈ts,h.get? q.2=some (PySem.W.tabObj #[]))
  (hK:∀ p,(ts.all fun q=>PySem.W.codeHdIn (K p) q.1 q.2)=true∧PySem.W.noTabs (K p)=true∧tabsIn (K p) ts=true)
  (F:∀ (w:World) (mg:Str→Option Value) (fa:Addr) (h:Heap),(K w.params).In h→h.Ns mainGlobals mg→mg d.name=some (.ref fa) →
   ∃ fd:FuncData,(∀ (s:Shared) (u:Value),BindsTo s fd ⟨[u],[]⟩ [("script",u)])∧∀ base:Heap,(K w.params).In base→base.Ns mainGlobals mg→FnOk l.prog w (K w.params) mg base CX0 11 fa fd ["script"] (spD (K w.params) 1 m_law)) :
  PySem.W.WalkO q loose XP YP l.row.toRowW d [] (fun f vs=>PySem.call f vs) :=
 L2.walk_ofT (n:=63) (k:=11) (x:="script") hn (by decide) hdf ⟨rfl,by decide,by decide⟩ hY hK F law_main
end Ev
noncomputable def PySem.W.Fast.tw10033846826840225168:Nat:=0
noncomputable def PySem.W.Fast.tw8342228306051352517:Nat:=0
noncomputable def PySem.W.Fast.tw11866606061914460771:Nat:=0
noncomputable def PySem.W.Fast.tw13632962738276299487:Nat:=0
noncomputable def PySem.W.Fast.tw16265553274625472798:Nat:=0
noncomputable def PySem.W.Fast.tw13005505843307390900:Nat:=0
noncomputable def PySem.W.Fast.tw796106604127944622:Nat:=0
noncomputable def PySem.W.Fast.tw10275980444040352987:Nat:=0
noncomputable def PySem.W.Fast.tw2903675048694678483:Nat:=0
noncomputable def PySem.W.Fast.tw9693179356493416795:Nat:=0
noncomputable def PySem.W.Fast.tw11216163166575131881:Nat:=0
noncomputable def PySem.W.Fast.tw12431716744430755352:Nat:=0
noncomputable def PySem.W.Fast.tw6741569861138633240:Nat:=0
noncomputable def PySem.W.Fast.tw13093084839678164153:Nat:=0
noncomputable def PySem.W.Fast.tw17078091266553932485:Nat:=0
noncomputable def PySem.W.Fast.tw11201982263626149493:Nat:=0
noncomputable def PySem.W.Fast.tw11631530456954433131:Nat:=0
noncomputable def PySem.W.Fast.tw16895510047842545543:Nat:=0
noncomputable def PySem.W.Fast.tw17293167624729808787:Nat:=0
noncomputable def PySem.W.Fast.tw6832273605614002555:Nat:=0
noncomputable def PySem.W.Fast.tw14416983888500731124:Nat:=0
noncomputable def PySem.W.Fast.tw17780373970546038156:Nat:=0
noncomputable def PySem.W.Fast.tw4699679697442953577:Nat:=0
noncomputable def PySem.W.Fast.tw10599991159380235835:Nat:=0
noncomputable def PySem.W.Fast.tw7562199223027726640:Nat:=0
noncomputable def PySem.W.Fast.tw15280811289258073245:Nat:=0
noncomputable def PySem.W.Fast.tw2424055640294226750:Nat:=0
noncomputable def PySem.W.Fast.tw9371639319979390752:Nat:=0
noncomputable def PySem.W.Fast.tw12898747376290147698:Nat:=0
noncomputable def PySem.W.Fast.tw1620646960517519332:Nat:=0
noncomputable def PySem.W.Fast.tw4373663128933092538:Nat:=0
noncomputable def PySem.W.Fast.tw9787934490619615909:Nat:=0
noncomputable def PySem.W.Fast.tw18329408137017746126:Nat:=0
noncomputable def PySem.W.Fast.tw18015604196009248235:Nat:=0
open PySem PySem.W PyProof.Rows
set_option maxRecDepth 100000 in
set_option maxHeartbeats 0 in
theorem PySem.Challenge.cw_evenwebs_k46_no_fields_no_things_holds : PySem.Challenge.rw_evenwebs_k46_no_fields_no_things.Holds := by
  w_on; o_law; k_head; (case hw => w_witness2)
  k_fill
  refine Ev.walk (l := PySem.Challenge.rw_evenwebs_k46_no_fields_no_things) (ts := [(307, 303)]) rfl rfl (fun w h Y => ⟨PySem.W.km_in_of Y, List.forall_mem_cons.mpr ⟨PySem.W.km_tabs_of Y _ (by first | k_mem | decide), fun _ h => nomatch h⟩⟩) (fun p => ⟨by kernel_rfl, by kernel_rfl, by kernel_rfl⟩) ?F
  case F =>
    intro w mg fa h KX G hmg
    refine' Ev.all_mk (tc_field_web := 307) (tp_field_web := 303) KX G hmg ?a_is_whole ?l_is_whole ?c_is_whole ?k_is_whole ?a_is_whole_within ?l_is_whole_within ?c_is_whole_within ?k_is_whole_within ?a_is_field ?l_is_field ?c_is_field ?k_is_field ?a_require_field ?l_require_field ?c_require_field ?k_require_field ?a_require_things ?l_require_things ?c_require_things ?k_require_things ?a_row_of ?l_row_of ?c_row_of ?k_row_of ?a_number_of ?l_number_of ?c_number_of ?k_number_of ?a_taken ?l_taken ?c_taken ?k_taken ?a_row_where ?l_row_where ?c_row_where ?k_row_where ?a_web_where ?l_web_where ?c_web_where ?k_web_where ?a_added ?l_added ?c_added ?k_added ?a_times_letter ?l_times_letter ?c_times_letter ?k_times_letter ?a_multiplied ?l_multiplied ?c_multiplied ?k_multiplied ?a_raised ?l_raised ?c_raised ?k_raised ?a_divided ?l_divided ?c_divided ?k_divided ?a_squares_in ?l_squares_in ?c_squares_in ?k_squares_in ?a_root_in ?l_root_in ?c_root_in ?k_root_in ?a_is_maker ?l_is_maker ?c_is_maker ?k_is_maker ?a_maker ?l_maker ?c_maker ?k_maker ?a_field_web ?l_field_web ?c_field_web ?k_field_web ?a_law_cell_at ?l_law_cell_at ?c_law_cell_at ?k_law_cell_at ?a_law_pot ?l_law_pot ?c_law_pot ?k_law_pot ?a_law_take ?l_law_take ?c_law_take ?k_law_take ?a_law_kind_of ?l_law_kind_of ?c_law_kind_of ?k_law_kind_of ?a_law_fields ?l_law_fields ?c_law_fields ?k_law_fields ?a_law_told ?l_law_told ?c_law_told ?k_law_told ?a_law ?l_law ?c_law ?k_law ?z_ValueError ?z_bool ?z_int ?z_isinstance ?z_len ?z_max ?z_min ?z_range ?z_reversed ?z_set ?z_sorted ?z_tuple ?z_zip ?y_FIELDS ?u_FIELDS ?p_NoWeb ?p_NoText ?p_NoNumbers ?p_NoField ?p_NoThing ?p_NoSquare ?p_NoPlaces ?p_TooMany ?p_NoName ?p_NoDeed ?p_NoRow ?p_WebError ?e_NoField ?e_NoThing ?tb_field_web ?th_field_web ?tap ?xtab ?xw
    (case a_is_whole => k_is)
    (case l_is_whole => k_is)
    (case c_is_whole => k_is)
    (case k_is_whole => k_is)
    (case a_is_whole_within => k_is)
    (case l_is_whole_within => k_is)
    (case c_is_whole_within => k_is)
    (case k_is_whole_within => k_is)
    (case a_is_field => k_is)
    (case l_is_field => k_is)
    (case c_is_field => k_is)
    (case k_is_field => k_is)
    (case a_require_field => k_is)
    (case l_require_field => k_is)
    (case c_require_field => k_is)
    (case k_require_field => k_is)
    (case a_require_things => k_is)
    (case l_require_things => k_is)
    (case c_require_things => k_is)
    (case k_require_things => k_is)
    (case a_row_of => k_is)
    (case l_row_of => k_is)
    (case c_row_of => k_is)
    (case k_row_of => k_is)
    (case a_number_of => k_is)
    (case l_number_of => k_is)
    (case c_number_of => k_is)
    (case k_number_of => k_is)
    (case a_taken => k_is)
    (case l_taken => k_is)
    (case c_taken => k_is)
    (case k_taken => k_is)
    (case a_row_where => k_is)
    (case l_row_where => k_is)
    (case c_row_where => k_is)
    (case k_row_where => k_is)
    (case a_web_where => k_is)
    (case l_web_where => k_is)
    (case c_web_where => k_is)
    (case k_web_where => k_is)
    (case a_added => k_is)
    (case l_added => k_is)
    (case c_added => k_is)
    (case k_added => k_is)
    (case a_times_letter => k_is)
    (case l_times_letter => k_is)
    (case c_times_letter => k_is)
    (case k_times_letter => k_is)
    (case a_multiplied => k_is)
    (case l_multiplied => k_is)
    (case c_multiplied => k_is)
    (case k_multiplied => k_is)
    (case a_raised => k_is)
    (case l_raised => k_is)
    (case c_raised => k_is)
    (case k_raised => k_is)
    (case a_divided => k_is)
    (case l_divided => k_is)
    (case c_divided => k_is)
    (case k_divided => k_is)
    (case a_squares_in => k_is)
    (case l_squares_in => k_is)
    (case c_squares_in => k_is)
    (case k_squares_in => k_is)
    (case a_root_in => k_is)
    (case l_root_in => k_is)
    (case c_root_in => k_is)
    (case k_root_in => k_is)
    (case a_is_maker => k_is)
    (case l_is_maker => k_is)
    (case c_is_maker => k_is)
    (case k_is_maker => k_is)
    (case a_maker => k_is)
    (case l_maker => k_is)
    (case c_maker => k_is)
    (case k_maker => k_is)
    (case a_field_web => k_is)
    (case l_field_web => k_is)
    (case c_field_web => k_is)
    (case k_field_web => k_is)
    (case a_law_cell_at => k_is)
    (case l_law_cell_at => k_is)
    (case c_law_cell_at => k_is)
    (case k_law_cell_at => k_is)
    (case a_law_pot => k_is)
    (case l_law_pot => k_is)
    (case c_law_pot => k_is)
    (case k_law_pot => k_is)
    (case a_law_take => k_is)
    (case l_law_take => k_is)
    (case c_law_take => k_is)
    (case k_law_take => k_is)
    (case a_law_kind_of => k_is)
    (case l_law_kind_of => k_is)
    (case c_law_kind_of => k_is)
    (case k_law_kind_of => k_is)
    (case a_law_fields => k_is)
    (case l_law_fields => k_is)
    (case c_law_fields => k_is)
    (case k_law_fields => k_is)
    (case a_law_told => k_is)
    (case l_law_told => k_is)
    (case c_law_told => k_is)
    (case k_law_told => k_is)
    (case a_law => k_is)
    (case l_law => k_is)
    (case c_law => k_is)
    (case k_law => k_is)
    (case z_ValueError => k_is)
    (case z_bool => k_is)
    (case z_int => k_is)
    (case z_isinstance => k_is)
    (case z_len => k_is)
    (case z_max => k_is)
    (case z_min => k_is)
    (case z_range => k_is)
    (case z_reversed => k_is)
    (case z_set => k_is)
    (case z_sorted => k_is)
    (case z_tuple => k_is)
    (case z_zip => k_is)
    (case y_FIELDS => k_is)
    (case u_FIELDS => kernel_rfl)
    (case p_NoWeb => k_is)
    (case p_NoText => k_is)
    (case p_NoNumbers => k_is)
    (case p_NoField => k_is)
    (case p_NoThing => k_is)
    (case p_NoSquare => k_is)
    (case p_NoPlaces => k_is)
    (case p_TooMany => k_is)
    (case p_NoName => k_is)
    (case p_NoDeed => k_is)
    (case p_NoRow => k_is)
    (case p_WebError => k_is)
    (case e_NoField => k_exc)
    (case e_NoThing => k_exc)
    (case tb_field_web => kernel_rfl)
    (case th_field_web => kernel_rfl)
    (case tap => kernel_rfl)
    (case xtab => kernel_rfl)
    (case xw => kernel_rfl)
