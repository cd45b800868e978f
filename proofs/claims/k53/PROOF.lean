import PyProof.Rows.All
import Wide.All
import OpenK.AllK
import Wide.FinOn
import Lean
import PyProof.EqAt
import PyProof.EqKinds
import PyProof.TupleCall
import PySem.Challenge.RW_evenwebs_k53_some_square_across
import PyProof.P3In
import PyProof.EqLayable
import PyProof.ExcArgsOwn
import PyProof.ExcBaseAll.ValueError
import PyProof.Rows.SeqMore
import PyProof.SetScanFacts
import PyProof.SetKind
import PyProof.DictKinds
import PyProof.Rows.SetFrom
import PyProof.Walks
import PyProof.DictValues
import PyProof.FactsAll.set_1
import PyProof.DictWalks
import KE.KDictSum
import PyProof.SetRoads
import PyProof.MeetsSeq2
import PyProof.WalksMore
import PyProof.AutoSeq1
import PyProof.ListRange
import PyProof.Rows.SortShell
import PyProof.TupleOfSeq
set_option Elab.async false
set_option linter.all false
set_option maxHeartbeats 4000000
set_option maxRecDepth 100000
set_option bootstrap.genMatcherCode false
set_option genSizeOfSpec false
set_option genSizeOf false
namespace L2
open PySem PySem.Spec PyProof.Rows
noncomputable abbrev Key:=Sum Int Str
noncomputable def keyIs:Key→Value→Bool
  | .inl k,v=>Value.isInt k v
  | .inr x,v=>Value.isStrOf x v
noncomputable def keyH (w:World):Key→Int
  | .inl k=>hashInt k
  | .inr x=>hashStr w x
theorem keyIs_shape:∀ {k:Key} {v:Value},keyIs k v=true→(∃ i t,k=Sum.inl i∧v=Value.int i t)∨(∃ x t,k=Sum.inr x∧v=Value.str x t)
  | .inl i,v,h=>by
    obtain ⟨t,e⟩:=Value.isInt_shape (k:=i) (v:=v) h
    exact .inl ⟨i,t,rfl,e⟩
  | .inr x,v,h=>by
    obtain ⟨t,e⟩:=Value.isStrOf_shape (x:=x) (v:=v) h
    exact .inr ⟨x,t,rfl,e⟩
theorem key_ll (a b:Int):decide ((Sum.inl a:Key)=Sum.inl b)=(a == b):=by
  by_cases e:a=b
  · subst e; simp
  · have h:¬ (Sum.inl a:Key)=Sum.inl b:=fun q=>e (Sum.inl.inj q)
    rw [decide_eq_false h]
    exact (beq_eq_false_iff_ne.mpr e).symm
theorem key_rr (a b:Str):decide ((Sum.inr a:Key)=Sum.inr b)=decide (a=b):=by
  by_cases e:a=b
  · subst e; simp
  · have h:¬ (Sum.inr a:Key)=Sum.inr b:=fun q=>e (Sum.inr.inj q)
    rw [decide_eq_false h,decide_eq_false e]
theorem key_lr (a:Int) (b:Str):decide ((Sum.inl a:Key)=Sum.inr b)=false:=decide_eq_false (fun q=>nomatch q)
theorem key_rl (a:Str) (b:Int):decide ((Sum.inr a:Key)=Sum.inl b)=false:=decide_eq_false (fun q=>nomatch q)
noncomputable def mixKind (prog:Program) (w:World):PySem.KeyKind prog w Key where
  is:=keyIs
  hash:=keyH w
  inj:=fun v a b ha hb=>by
    rcases keyIs_shape ha with ⟨i,t,rfl,rfl⟩ | ⟨x,t,rfl,rfl⟩
    · rcases keyIs_shape hb with ⟨j,u,rfl,e⟩ | ⟨y,u,rfl,e⟩
      · injection e with e1 _; rw [e1]
      · exact nomatch e
    · rcases keyIs_shape hb with ⟨j,u,rfl,e⟩ | ⟨y,u,rfl,e⟩
      · exact nomatch e
      · injection e with e1 _; rw [e1]
  byValue:=fun k v h=>by
    rcases keyIs_shape h with ⟨i,t,rfl,rfl⟩ | ⟨x,t,rfl,rfl⟩ <;> rfl
  pyHash:=fun hv h=>by
    rcases keyIs_shape hv with ⟨i,t,rfl,rfl⟩ | ⟨x,t,rfl,rfl⟩
    · exact wpAny_pyHash_int h
    · exact wpAny_pyHash_str h
  eqBool:=fun hu hv h=>by
    rcases keyIs_shape hu with ⟨i,t,rfl,rfl⟩ | ⟨x,t,rfl,rfl⟩
    · rcases keyIs_shape hv with ⟨j,u,rfl,rfl⟩ | ⟨y,u,rfl,rfl⟩
      · rw [key_ll] at h; exact wpAny_eqBool_int h
      · rw [key_lr] at h; exact SeqAt.EqAt.int_str i t y u _ _ _ _ h
    · rcases keyIs_shape hv with ⟨j,u,rfl,rfl⟩ | ⟨y,u,rfl,rfl⟩
      · rw [key_rl] at h; exact SeqAt.EqAt.str_int x t j u _ _ _ _ h
      · rw [key_rr] at h; exact wpAny_eqBool_str h
  «strs»:=fun k x t v h=>by
    rcases keyIs_shape h with ⟨i,u,rfl,e⟩ | ⟨y,u,rfl,e⟩
    · exact nomatch e
    · injection e with e1 _
      subst e1
      cases v <;> rfl
end L2
namespace L2
open PySem PySem.Spec PyProof.Rows
inductive V where
  | non | bl (b:Bool) | int (i:Int) | str (x:Str) | byt (b:Array UInt8) | flt (b:UInt64) | ref (a:Addr) | ty (n:String)
  deriving DecidableEq
noncomputable def RelV:V→Value→Prop
  | .non,u=>u=Value.none
  | .bl b,u=>u=Value.bool b
  | .int i,u=>∃ t,u=Value.int i t
  | .str x,u=>∃ t,u=Value.str x t
  | .byt b,u=>∃ t,u=Value.bytes b t
  | .flt b,u=>∃ t,u=Value.float b t
  | .ref a,u=>u=Value.ref a
  | .ty n,u=>u=Value.type n
noncomputable abbrev Vals:List V→List Value→Prop:=Paired RelV
theorem Vals.length {xs:List V} {us:List Value} (r:Vals xs us):xs.length=us.length:=Paired.length r
theorem Vals.get:∀ {xs:List V} {us:List Value} {i:Nat} {x:V},Vals xs us→xs[i]? = some x→∃ u,us[i]? = some u∧RelV x u
  | _,_,_,_,.nil,e=>by simp at e
  | _,_,0,_,.cons r _,e=>by simp at e; subst e; exact ⟨_,rfl,r⟩
  | _,_,i + 1,x,.cons _ t,e=>by
    obtain ⟨u,h1,h2⟩:=Vals.get (i:=i) (x:=x) t (by simpa using e)
    exact ⟨u,by simpa using h1,h2⟩
theorem Vals.set {x:V} {u:Value} (r:RelV x u):∀ {xs:List V} {us:List Value} (i:Nat),Vals xs us→Vals (xs.set i x) (us.set i u)
  | _,_,_,.nil=>.nil
  | _,_,0,.cons _ t=>.cons r t
  | _,_,i + 1,.cons q t=>.cons q (Vals.set r i t)
theorem Vals.append:∀ {xs ys:List V} {us ws:List Value},Vals xs us→Vals ys ws→Vals (xs ++ ys) (us ++ ws)
  | _,_,_,_,.nil,s=>s
  | _,_,_,_,.cons r t,s=>.cons r (Vals.append t s)
theorem Vals.take:∀ {xs:List V} {us:List Value} (n:Nat),Vals xs us→Vals (xs.take n) (us.take n)
  | _,_,0,_=>.nil
  | _,_,_ + 1,.nil=>.nil
  | _,_,n + 1,.cons r t=>.cons r (Vals.take n t)
theorem Vals.drop:∀ {xs:List V} {us:List Value} (n:Nat),Vals xs us→Vals (xs.drop n) (us.drop n)
  | _,_,0,r=>r
  | _,_,_ + 1,.nil=>.nil
  | _,_,n + 1,.cons _ t=>Vals.drop n t
noncomputable def RelO:Option V→Option Value→Prop
  | some v,some u=>RelV v u
  | none,none=>True
  | _,_=>False
noncomputable def KV {κ:Type}:List (κ×V)→List (κ×Value)→Prop:=Paired fun (p:κ×V) (q:κ×Value)=>p.1=q.1∧RelV p.2 q.2
noncomputable def kV:Key→V
  | .inl i=>.int i
  | .inr x=>.str x
inductive HO where
  /-- a list -/
  | lst (xs:List V)
  /-- a tuple (never changes) -/
  | tup (xs:List V)
  /-- a dict whose keys are ints and texts; one whose keys are tuples of ints and texts (the empty one is both) -/
  | dK (kvs:List (Key×V)) | dT (kvs:List (List Key×V))
  /-- a set of ints: its members,its size -/
  | set (S:Int→Bool) (n:Nat)
  /-- an instance of the class at C,its dict at dx,its attributes -/
  | ins (C dx:Addr) (fs:List (Str×V))
  /-- the dict of the instance at x -/
  | own (x:Addr)
  /-- the dict of an exception -/
  | xd (fs:List (Str×V))
  /-- a bound method,f of x -/
  | met (f x:Addr)
  /-- a range object lo,lo + 1,.. below hi -/
  | rng (lo hi:Int)
  /-- a thing that is known to the object (the script; a dict while a loop walks it): read,never written while it is so -/
  | frz (o:Obj) (u:HO)
  /-- a code object's table -/
  | tbl (ps:Array Value)
  /-- any other thing,by what is true of its one object (a def of one's own: SetO a S n:=HO.ext fun h=>..) -/
  | ext (φ:Heap→Prop)
noncomputable abbrev Hp:=Addr→Option HO
noncomputable def upd (H:Hp) (a:Addr) (o:HO):Hp:=fun b=>if b=a then some o else H b
theorem upd_same {H:Hp} {a:Addr} {o:HO}:upd H a o a=some o:=by unfold upd; rw [if_pos rfl]
theorem upd_ne {H:Hp} {a b:Addr} {o:HO} (h:b≠a):upd H a o b=H b:=by unfold upd; rw [if_neg h]
theorem ne_of_none {H:Hp} {a b:Addr} {o:HO} (h:H a=some o) (h':H b=none):a≠b:=by
  intro e; subst e; rw [h] at h'; cases h'
noncomputable def TupN (h:Heap) (a:Addr) (items:Array Value):Prop:=∃ o,h.get? a=some o∧o.cls=.type "tuple"∧(∃ n,o.data=.seq items n)∧o.dict=none
theorem TupN.tup {h:Heap} {a:Addr} {items:Array Value}:TupN h a items→IsTup h a items:=fun ⟨o,e,c,d,_⟩=>⟨o,e,c,d⟩
theorem TupN.new (h:Heap) (items:Array Value):TupN (h.push { cls:=.type "tuple",data:=.seq items }) h.objs.size items:=⟨_,Heap.get?_push_size _ rfl,rfl,⟨_,rfl⟩,rfl⟩
section
variable (P:Program) (w:World)
noncomputable def ObjOk (H:Hp) (h:Heap) (a:Addr):HO→Prop
  | .lst xs=>xs.length≤sizeLine∧∃ (its:List Value) (n:Nat),Vals xs its∧h.get? a=some { cls:=.type "list",data:=.seq its.toArray n }
  | .tup xs=>xs.length≤sizeLine∧∃ its:List Value,Vals xs its∧TupN h a its.toArray
  | .dK kvs=>kvs.length≤sizeLine∧(a == sysModules)=false∧∃ vs,KV kvs vs∧h.DictOf (mixKind P w) a vs
  | .dT kvs=>kvs.length≤sizeLine∧(a == sysModules)=false∧∃ xs:List (List Key×Addr×Value),
      Paired (fun (p:List Key×V) (q:List Key×Addr×Value)=>p.1=q.1∧H q.2.1=some (.tup (p.1.map kV))∧RelV p.2 q.2.2) kvs xs ∧
      ∃ o es ep,h.get? a=some o∧o.ExactDict∧o.data=.dict es ep∧es.toList=xs.map (entryOfKey (tupleKind (mixKind P w)))∧(xs.map (·.1)).Nodup
  | .set S n=>h.SetOf (intKind P w) a S n
  | .ins C dx fs=>H dx=some (.own a)∧fs.length≤1000∧dx≠a∧h.get? a=some (PySem.W.instObj C dx) ∧
      ∃ mA,h.Ns1 dx mA∧(∀ f,RelO (fs.lookup f) (mA f))∧PySem.Within mA (fs.map (·.1))
  | .own _=>∃ o,h.get? a=some o
  | .xd fs=>∃ mA,h.Ns1 a mA∧∀ f,RelO (fs.lookup f) (mA f)
  | .rng lo hi=>∃ t u v,h.get? a=some { cls:=.type "range",data:=.fields #[.int lo t,.int hi u,.int 1 v] }
  | .frz o u=>h.get? a=some o∧ObjOk H h a u
  | .tbl ps=>h.get? a=some { cls:=.none,data:=.fields ps }
  | .met f x=>h.get? a=some (PySem.W.methodObj (.ref f) (.ref x))
  | .ext φ=>φ h∧(∃ o,h.get? a=some o)∧∀ h1 h2:Heap,φ h1→(∀ o,h1.get? a=some o→h2.get? a=some o)→φ h2
noncomputable def HOk (H:Hp) (h:Heap):Prop:=∀ a o,H a=some o→ObjOk P w H h a o
end
section
variable {P:Program} {w:World} {H H':Hp} {h h':Heap} {a:Addr} {o:HO}
theorem ObjOk.lt (x:ObjOk P w H h a o):a < h.objs.size:=by
  cases o with
  | lst xs=>obtain ⟨_,_,_,_,e⟩:=x; exact Heap.lt_size e
  | tup xs=>obtain ⟨_,_,_,p⟩:=x; exact p.tup.lt
  | dK kvs=>obtain ⟨_,_,_,_,o,_,_,e,_⟩:=x; exact Heap.lt_size e
  | dT kvs=>obtain ⟨_,_,_,_,o,_,_,e,_⟩:=x; exact Heap.lt_size e
  | set S n=>obtain ⟨o,_,_,_,e,_⟩:=x; exact Heap.lt_size e
  | ins C dx fs=>obtain ⟨_,_,_,e,_⟩:=x; exact Heap.lt_size e
  | own y=>obtain ⟨_,e⟩:=x; exact Heap.lt_size e
  | xd fs=>obtain ⟨_,⟨_,_,_,e,_⟩,_⟩:=x; exact Heap.lt_size e
  | rng lo hi=>obtain ⟨_,_,_,e⟩:=x; exact Heap.lt_size e
  | frz ob u=>obtain ⟨e,_⟩:=x; exact Heap.lt_size e
  | tbl ps=>exact Heap.lt_size (show h.get? a=some _ from x)
  | met f y=>exact Heap.lt_size (show h.get? a=some _ from x)
  | ext φ=>obtain ⟨_,⟨_,e⟩,_⟩:=x; exact Heap.lt_size e
theorem Paired.mapP {α β:Type} {F G:α→β→Prop}:∀ {l₁:List α} {l₂:List β},Paired F l₁ l₂→(∀ a b,F a b→G a b)→Paired G l₁ l₂
  | _,_,.nil,_=>.nil
  | _,_,.cons r t,f=>.cons (f _ _ r) (Paired.mapP t f)
theorem ObjOk.stay (x:ObjOk P w H h a o) (k:∀ b u,(b=a∨H b=some (.own a))→h.get? b=some u→h'.get? b=some u)
    (ho:∀ b,H b=some (.own a)→H' b=some (.own a)) (ht:∀ b xs,H b=some (.tup xs)→H' b=some (.tup xs)):ObjOk P w H' h' a o:=by
  induction o with
  | lst xs=>obtain ⟨z,its,n,r,e⟩:=x; exact ⟨z,its,n,r,k _ _ (.inl rfl) e⟩
  | tup xs=>obtain ⟨z,its,r,ob,e,c⟩:=x; exact ⟨z,its,r,ob,k _ _ (.inl rfl) e,c⟩
  | dK kvs=>obtain ⟨z,y,vs,r,ob,es,ep,e,c⟩:=x; exact ⟨z,y,vs,r,ob,es,ep,k _ _ (.inl rfl) e,c⟩
  | dT kvs =>
    obtain ⟨z,y,xs,r,ob,es,ep,e,c⟩:=x
    exact ⟨z,y,xs,Paired.mapP r fun p q z=>⟨z.1,ht _ _ z.2.1,z.2.2⟩,ob,es,ep,k _ _ (.inl rfl) e,c⟩
  | set S n=>obtain ⟨ob,es,ep,t,e,c⟩:=x; exact ⟨ob,es,ep,t,k _ _ (.inl rfl) e,c⟩
  | ins C dx fs =>
    obtain ⟨d,z,ne,e,mA,⟨od,es,ep,e2,c⟩,r⟩:=x
    exact ⟨ho _ d,z,ne,k _ _ (.inl rfl) e,mA,⟨od,es,ep,k _ _ (.inr d) e2,c⟩,r⟩
  | own y=>obtain ⟨ob,e⟩:=x; exact ⟨ob,k _ _ (.inl rfl) e⟩
  | xd fs=>obtain ⟨mA,⟨od,es,ep,e,c⟩,r⟩:=x; exact ⟨mA,⟨od,es,ep,k _ _ (.inl rfl) e,c⟩,r⟩
  | rng lo hi=>obtain ⟨t,u,v,e⟩:=x; exact ⟨t,u,v,k _ _ (.inl rfl) e⟩
  | frz ob u ih=>obtain ⟨e,q⟩:=x; exact ⟨k _ _ (.inl rfl) e,ih q⟩
  | tbl ps =>
    have e:h.get? a=some { cls:=.none,data:=.fields ps }:=x
    show h'.get? a=some { cls:=.none,data:=.fields ps }
    exact k a _ (.inl rfl) e
  | met f y =>
    have e:h.get? a=some (PySem.W.methodObj (.ref f) (.ref y)):=x
    show h'.get? a=some (PySem.W.methodObj (.ref f) (.ref y))
    exact k a _ (.inl rfl) e
  | ext φ=>obtain ⟨p,⟨o,e⟩,st⟩:=x; exact ⟨st _ _ p fun o q=>k _ _ (.inl rfl) q,⟨o,k _ _ (.inl rfl) e⟩,st⟩
theorem HOk.lt (x:HOk P w H h) (e:H a=some o):a < h.objs.size:=(x a o e).lt
theorem HOk.fresh (x:HOk P w H h) (e:h.objs.size≤a):H a=none:=by
  cases q:H a with
  | none=>rfl
  | some u=>exact absurd (Nat.lt_of_lt_of_le (x.lt q) e) (Nat.lt_irrefl _)
theorem HOk.kept (x:HOk P w H h) (k:∀ b u,h.get? b=some u→h'.get? b=some u):HOk P w H h':=fun a o e =>
  (x a o e).stay (fun b u _ q=>k b u q) (fun _ q=>q) fun _ _ q=>q
theorem HOk.laid (x:HOk P w H h) (k:∀ b u,h.get? b=some u→h'.get? b=some u) (hp:h.objs.size≤a) (new:ObjOk P w (upd H a o) h' a o):HOk P w (upd H a o) h':=fun b u e=>by
  have hn:=x.fresh hp
  by_cases hb:b=a
  · subst hb; rw [upd_same] at e; cases e; exact new
  · rw [upd_ne hb] at e
    exact (x b u e).stay (fun c v _ q=>k c v q) (fun c q=>by rw [upd_ne (ne_of_none q hn)]; exact q) fun c xs q=>by rw [upd_ne (ne_of_none q hn)]; exact q
end
noncomputable def Rd (H:Hp) (a:Addr) (u:HO):Prop:=H a=some u∨∃ o,H a=some (.frz o u)
theorem Rd.ok {P:Program} {w:World} {H:Hp} {h:Heap} {a:Addr} {u:HO} (r:Rd H a u) (x:HOk P w H h):ObjOk P w H h a u:=by
  rcases r with r | ⟨o,r⟩
  · exact x a u r
  · obtain ⟨_,q⟩:=x a _ r
    exact q
noncomputable def Mut:Option HO→Prop
  | some (.lst _)=>True
  | some (.dK _)=>True
  | some (.dT _)=>True
  | some (.set _ _)=>True
  | some (.ins _ _ _)=>True
  | some (.ext _)=>True
  | _=>False
section
variable {P:Program} {w:World} {H:Hp} {h h':Heap} {x e:Addr} {o':HO}
theorem HOk.write (ok:HOk P w H h) (mu:Mut (H x)) (he:e=x∨H e=some (.own x)) (k:∀ b u,b≠e→h.get? b=some u→h'.get? b=some u) (heo:∃ u,h'.get? e=some u)
    (new:ObjOk P w (upd H x o') h' x o'):HOk P w (upd H x o') h':=fun b u q=>by
  have nown:∀ c y,H c=some (.own y)→c≠x:=fun c y r z=>by subst z; rw [r] at mu; exact mu
  have ntup:∀ c xs,H c=some (.tup xs)→c≠x:=fun c xs r z=>by subst z; rw [r] at mu; exact mu
  by_cases hb:b=x
  · subst hb; rw [upd_same] at q; cases q; exact new
  · rw [upd_ne hb] at q
    by_cases hbe:b=e
    · have q':H b=some (.own x):=by
        rcases he with z | z
        · exact absurd (hbe.trans z) hb
        · rw [hbe]; exact z
      rw [q] at q'; cases q'
      obtain ⟨v,hv⟩:=heo
      exact ⟨v,by rw [hbe]; exact hv⟩
    · refine (ok b u q).stay (fun c v hc r=>k c v ?_ r) (fun c r=>by rw [upd_ne (nown c b r)]; exact r) fun c xs r=>by rw [upd_ne (ntup c xs r)]; exact r
      rcases hc with rfl | hc
      · exact hbe
      · rintro rfl
        rcases he with z | z
        · exact nown c b hc z
        · rw [hc] at z; cases z; exact hb rfl
end
structure Un (fs ex:List Addr) (H H':Hp) (h h':Heap):Prop where
  keep:∀ b o,h.get? b=some o→H b=none→b∉fs→b∉ex→h'.get? b=some o
  slot:∀ b o,h.get? b=some o→H b=none→b∈fs→b∉ex→∃ sl,h'.get? b=some { o with slots:=sl }
  free:∀ b o,h.get? b=some o→H b=none→b∉ex→H' b=none
  there:∀ b o,h.get? b=some o→b∉ex→∃ o',h'.get? b=some o'
  tups:∀ b xs,H b=some (.tup xs)→H' b=some (.tup xs)
  frzs:∀ b o u,H b=some (.frz o u)→H' b=some (.frz o u)
  tbls:∀ b ps,H b=some (.tbl ps)→∃ more,H' b=some (.tbl (ps ++ more))
section
variable {fs fs' ex ex':List Addr} {H H1 H2:Hp} {h h1 h2 h':Heap} {a x e:Addr} {o:HO}
theorem Un.any (u:Un fs ex H H1 h h1) {b:Addr} {ob:Obj} (q:h.get? b=some ob) (n:H b=none) (hx:b∉ex):∃ sl,h1.get? b=some { ob with slots:=sl }:=by
  by_cases hb:b∈fs
  · exact u.slot b ob q n hb hx
  · exact ⟨ob.slots,u.keep b ob q n hb hx⟩
theorem Un.kept (k:∀ b u,h.get? b=some u→h'.get? b=some u):Un fs ex H H h h' :=
  ⟨fun b ob q _ _ _=>k b ob q,fun b ob q _ _ _=>⟨ob.slots,k b ob q⟩,fun _ _ _ n _=>n,fun b ob q _=>⟨ob,k b ob q⟩,fun _ _ q=>q,fun _ _ _ q=>q,fun _ ps q=>⟨#[],by rw [q]; simp⟩⟩
theorem Un.refl:Un fs ex H H h h:=Un.kept fun _ _ q=>q
theorem Un.laid (k:∀ b u,h.get? b=some u→h'.get? b=some u) (hp:h.objs.size≤a) (hn:H a=none):Un fs ex H (upd H a o) h h' where
  keep:=fun b u q _ _ _=>k b u q
  slot:=fun b u q _ _ _=>⟨u.slots,k b u q⟩
  free:=fun b u q n _=>by rw [upd_ne (Nat.ne_of_lt (Nat.lt_of_lt_of_le (Heap.lt_size q) hp))]; exact n
  there:=fun b u q _=>⟨u,k b u q⟩
  tups:=fun b xs q=>by rw [upd_ne (ne_of_none q hn)]; exact q
  frzs:=fun b u xs q=>by rw [upd_ne (ne_of_none q hn)]; exact q
  tbls:=fun b ps q=>⟨#[],by rw [upd_ne (ne_of_none q hn),q]; simp⟩
theorem Un.write (mu:Mut (H x)) (he:e=x∨H e=some (.own x)) (k:∀ b u,b≠e→h.get? b=some u→h'.get? b=some u) (heo:∃ u,h'.get? e=some u):Un fs ex H (upd H x o) h h':=by
  have hx:∀ b,H b=none→b≠x:=fun b n z=>by subst z; rw [n] at mu; exact mu
  have hb:∀ b,H b=none→b≠e:=fun b n z=>by
    subst z
    rcases he with r | r
    · exact hx b n r
    · rw [n] at r; cases r
  have hm:∀ b u,H b=some u→¬ Mut (some u)→b≠x:=fun b u q nm z=>by subst z; rw [q] at mu; exact nm mu
  refine ⟨fun b u q n _ _=>k b u (hb b n) q,fun b u q n _ _=>⟨u.slots,k b u (hb b n) q⟩,fun b u q n _=>by rw [upd_ne (hx b n)]; exact n,fun b u q _=>?_,
    fun b xs q=>by rw [upd_ne (hm b _ q fun z=>z)]; exact q,fun b u xs q=>by rw [upd_ne (hm b _ q fun z=>z)]; exact q,fun b ps q=>⟨#[],by rw [upd_ne (hm b _ q fun z=>z),q]; simp⟩⟩
  by_cases hbe:b=e
  · subst hbe; exact heo
  · exact ⟨u,k b u hbe q⟩
end
noncomputable def trk (h:Heap) (H:Hp):List Addr:=(List.range h.objs.size).filter fun a=>(H a).isSome
noncomputable def hidT (h:Heap) (H:Hp):Heap:=PySem.W.hideAll h (trk h H)
theorem hidT_size (h:Heap) (H:Hp):(hidT h H).objs.size=h.objs.size:=PySem.W.hideAll_size _ _
theorem hidT_get {h:Heap} {H:Hp} {b:Addr} {o:Obj} (e:h.get? b=some o) (n:H b=none):(hidT h H).get? b=some o :=
  PySem.W.hideAll_get _ e fun hm=>by
    have q:(H b).isSome=true:=(List.mem_filter.mp hm).2
    rw [n] at q; simp at q
theorem of_hidT {h:Heap} {H:Hp} {b:Addr} {o:Obj} (e:(hidT h H).get? b=some o):h.get? b=some o∧H b=none:=by
  have e':h.get? b=some o:=PySem.W.of_hideAll (trk h H) e
  refine ⟨e',?_⟩
  cases q:H b with
  | none=>rfl
  | some x =>
    have hm:b∈trk h H:=List.mem_filter.mpr ⟨List.mem_range.mpr (Heap.lt_size e'),by simp [q]⟩
    have z:(hidT h H).get? b=none:=PySem.W.hideAll_none (trk h H) hm
    rw [z] at e; cases e
end L2
namespace L2
open PySem PySem.Spec PyProof.Rows
structure Mod (K:PySem.W.Frag) (mg:Str→Option Value) (base:Heap):Prop where
  kin:K.In base
  glob:base.Ns mainGlobals mg
  blt:∃ mb,base.Ns builtinsNs mb∧∀ x:Str,x≠"__name__"→mb x=bootBuiltins x
  nolimit:base.NoLimit
structure Cx where
  prog:Program
  w:World
  K:PySem.W.Frag
  mg:Str→Option Value
  base:Heap
  A:Around
  N:List Str
  s₀:Shared
  H₀:Hp
  env:Env
  outer:List Env
  stack:List Env
  ex:List Addr
  fn:Str→Bool
  calm:Bool
  pn:List (Addr×Obj)
  xe:Value→Shared→Prop
noncomputable def frs (l:List Env):List Addr:=l.filterMap (·.frame)
noncomputable abbrev Cx.fs (X:Cx):List Addr:=frs X.outer
noncomputable def Vis (sc:Scope) (x:Str):Prop:=sc.names.lookup x=some .local∨sc.names.lookup x=some .cell∨sc.names.lookup x=some .free
noncomputable def Loc (sc:Scope) (x:Str):Prop:=sc.names.lookup x=some .local∨sc.names.lookup x=some .cell
noncomputable def Look (env:Env) (h:Heap) (m:Str→Option Value) (x:Str) (u:Value):Prop :=
  (env.kindOf x=some .local∧m x=some u)∨((env.kindOf x=some .cell∨env.kindOf x=some .free)∧∃ c,env.cells.lookup x=some c∧h.IsCell c (some u))
structure Cx.Ok (X:Cx):Prop where
  mod:Mod X.K X.mg X.base
  kind:X.env.scope.kind=.function
  glob:X.env.globals=mainGlobals
  blt:X.env.builtins=builtinsNs
  above:X.s₀.heap.objs.size≤X.env.locals
  inj:∀ x y c,X.env.cells.lookup x=some c→X.env.cells.lookup y=some c→x=y
  has:∀ x,(X.env.kindOf x=some .cell∨X.env.kindOf x=some .free)→∃ c,X.env.cells.lookup x=some c
  cab:∀ x c,X.fn x=true→X.env.cells.lookup x=some c→X.s₀.heap.objs.size≤c
  hd:X.calm=true→X.A.handled=none
  frames:X.A.frames=some X.stack
  stk:X.stack=X.outer∨(X.stack=X.env :: X.outer∧X.env.frame=some X.env.locals)
  exf:∀ b∈X.ex,b≠X.env.locals∧∀ x c,X.env.cells.lookup x=some c→c≠b
  bs:∀ b o,X.base.get? b=some o→X.s₀.heap.get? b=some o∧X.H₀ b=none
  bsz:X.base.objs.size≤X.s₀.heap.objs.size
  noex:∀ b o,X.base.get? b=some o→b∉X.ex
  exfs:∀ b∈X.ex,b∉X.fs
  funs:X.s₀.heap.FunFrames X.base X.outer
  frf:∀ b∈X.fs,X.H₀ b=none
structure Inv (X:Cx) (pins:List (Addr×Obj)) (σ:List (Option V)) (H:Hp) (s:Shared):Prop where
  ok:X.Ok
  os:s.os=X.s₀.os
  bare:AllBare s.gens
  base:Un X.fs X.ex X.H₀ H X.s₀.heap s.heap
  loc:∃ m,s.heap.Ns X.env.locals m∧∀ (i:Nat) (x:Str) (v:V),X.N[i]? = some x→σ[i]? = some (some v)→Vis X.env.scope x→∃ u,RelV v u∧Look X.env s.heap m x u
  cell:∀ x c,X.env.cells.lookup x=some c→∃ v,s.heap.IsCell c v
  free:H X.env.locals=none
  freeC:∀ x c,X.env.cells.lookup x=some c→H c=none
  pin:∀ p∈X.pn ++ pins,s.heap.get? p.1=some p.2∧H p.1=none∧p.1≠X.env.locals∧p.1∉X.fs∧∀ v,p.2.data≠.cell v
  hok:HOk X.prog X.w H s.heap
  len:σ.length=X.N.length
section
variable {X:Cx} {pins:List (Addr×Obj)} {σ:List (Option V)} {H H':Hp} {s:Shared} {h':Heap}
theorem Cx.Ok.nofr (ok:X.Ok) {b:Addr} {o:Obj} (e:X.base.get? b=some o):b∉X.fs:=fun hb=>by
  have:=(ok.funs.mem hb).1
  rw [e] at this; cases this
theorem Inv.bs (I:Inv X pins σ H s):∀ b o,X.base.get? b=some o→s.heap.get? b=some o∧H b=none:=fun b o e =>
  ⟨I.base.keep b o (I.ok.bs b o e).1 (I.ok.bs b o e).2 (I.ok.nofr e) (I.ok.noex b o e),I.base.free b o (I.ok.bs b o e).1 (I.ok.bs b o e).2 (I.ok.noex b o e)⟩
theorem Inv.bk (I:Inv X pins σ H s):∀ b o,X.base.get? b=some o→s.heap.get? b=some o:=fun b o e=>(I.bs b o e).1
theorem Inv.mod (I:Inv X pins σ H s):Mod X.K X.mg X.base:=I.ok.mod
theorem Inv.kIn (I:Inv X pins σ H s):X.K.In s.heap:=I.ok.mod.kin.keeps I.bk
theorem Inv.lt (I:Inv X pins σ H s):X.env.locals < s.heap.objs.size:=let ⟨_,hn,_⟩:=I.loc; hn.lt
theorem Inv.sz (I:Inv X pins σ H s):X.s₀.heap.objs.size≤s.heap.objs.size:=Nat.le_trans I.ok.above (Nat.le_of_lt I.lt)
theorem Inv.nofs (I:Inv X pins σ H s) {a:Addr} (h:s.heap.objs.size≤a):a∉X.fs:=fun hb=>by
  obtain ⟨_,o,ho,_⟩:=I.ok.funs.mem hb
  exact absurd (Nat.lt_of_lt_of_le (Heap.lt_size ho) (Nat.le_trans I.sz h)) (Nat.lt_irrefl _)
theorem Inv.cne (I:Inv X pins σ H s):∀ x c,X.env.cells.lookup x=some c→c≠X.env.locals:=fun x c e z=>by
  obtain ⟨v,o,ho,hd⟩:=I.cell x c e
  obtain ⟨m,⟨o',es,ep,ho',hd',_⟩,_⟩:=I.loc
  rw [z,ho'] at ho; cases ho; rw [hd'] at hd; cases hd
theorem Inv.funs (I:Inv X pins σ H s):s.heap.FunFrames X.base X.outer:=by
  have all:∀ (l:List Env),(∀ b∈frs l,b∈X.fs)→X.s₀.heap.FunFrames X.base l→s.heap.FunFrames X.base l:=by
    intro l
    induction l with
    | nil=>intro _ _; trivial
    | cons env r ih =>
      intro hs hl
      obtain ⟨hk,⟨L,o,hf,hn,ho,hd⟩,hr⟩:=hl
      have hL:L∈X.fs:=hs L (by unfold frs; rw [List.filterMap_cons,hf]; exact List.mem_cons_self)
      obtain ⟨sl,e⟩:=I.base.slot L o ho (I.ok.frf L hL) hL fun z=>I.ok.exfs L z hL
      exact ⟨hk,⟨L,_,hf,hn,e,hd⟩,ih (fun b hb=>hs b (by unfold frs; rw [List.filterMap_cons,hf]; exact List.mem_cons_of_mem _ hb)) hr⟩
  exact all X.outer (fun _ hb=>hb) I.ok.funs
theorem Inv.stack (I:Inv X pins σ H s):s.heap.FunFrames X.base X.stack:=by
  rcases I.ok.stk with e | ⟨e,hf⟩
  · rw [e]; exact I.funs
  · rw [e]
    obtain ⟨m,hn,_⟩:=I.loc
    refine .cons (by rw [I.ok.kind]; decide) hf hn ?_ I.funs
    exact Heap.get?_none_of_le (Nat.le_trans I.ok.bsz I.ok.above)
theorem Inv.stkSub (I:Inv X pins σ H s):∀ b∈frs X.stack,b∈X.env.locals :: X.fs:=fun b hb=>by
  rcases I.ok.stk with e | ⟨e,hf⟩
  · rw [e] at hb; exact List.mem_cons_of_mem _ hb
  · rw [e] at hb
    unfold frs at hb
    rw [List.filterMap_cons,hf] at hb
    exact hb
theorem Inv.stkFree (I:Inv X pins σ H s):∀ b∈frs X.stack,H b=none:=fun b hb=>by
  rcases List.mem_cons.mp (I.stkSub b hb) with e | hb
  · rw [e]; exact I.free
  · obtain ⟨_,o,ho,_⟩:=I.ok.funs.mem hb
    exact I.base.free b o ho (I.ok.frf b hb) fun z=>I.ok.exfs b z hb
theorem Inv.step {g':Array GenState} {t':Nat} {d':Drawn} {ch:List Addr} (I:Inv X pins σ H s)
    (hch:∀ b∈ch,(b∈X.ex∨X.s₀.heap.objs.size≤b)∧b≠X.env.locals∧(∀ x c,X.env.cells.lookup x=some c→c≠b)∧∀ p∈X.pn ++ pins,p.1≠b)
    (keep:∀ b o,b≠X.env.locals→b∉X.fs→b∉ch→s.heap.get? b=some o→H b=none→h'.get? b=some o)
    (slot:∀ b o,b≠X.env.locals→b∈X.fs→b∉ch→s.heap.get? b=some o→H b=none→∃ sl,h'.get? b=some { o with slots:=sl }) (free:∀ b o,b∉ch→s.heap.get? b=some o→H b=none→H' b=none)
    (there:∀ b o,b∉ch→s.heap.get? b=some o→∃ o',h'.get? b=some o')
    (tups:∀ b xs,H b=some (.tup xs)→H' b=some (.tup xs)) (frzs:∀ b o u,H b=some (.frz o u)→H' b=some (.frz o u)) (tbls:∀ b ps,H b=some (.tbl ps)→∃ more,H' b=some (.tbl (ps ++ more)))
    (ns:∀ m,s.heap.Ns X.env.locals m→h'.Ns X.env.locals m) (hok:HOk X.prog X.w H' h') (hg:AllBare g') :
    Inv X pins σ H' { s with heap:=h',gens:=g',drawn:=d',toks:=t' }:=by
  have neL:∀ b o,X.s₀.heap.get? b=some o→b≠X.env.locals:=fun b o e=>Nat.ne_of_lt (Nat.lt_of_lt_of_le (Heap.lt_size e) I.ok.above)
  have neC:∀ b o,X.s₀.heap.get? b=some o→b∉X.ex→b∉ch:=fun b o e hx hb=>by
    rcases (hch b hb).1 with z | z
    · exact hx z
    · exact absurd (Nat.lt_of_lt_of_le (Heap.lt_size e) z) (Nat.lt_irrefl _)
  have cellK:∀ x c,X.env.cells.lookup x=some c→∀ v,s.heap.IsCell c v→h'.IsCell c v:=fun x c e v ⟨o,ho,hd⟩=>by
    have nch:c∉ch:=fun z=>(hch c z).2.2.1 x c e rfl
    by_cases hc:c∈X.fs
    · obtain ⟨sl,q⟩:=slot c o (I.cne x c e) hc nch ho (I.freeC x c e)
      exact ⟨_,q,hd⟩
    · exact ⟨o,keep c o (I.cne x c e) hc nch ho (I.freeC x c e),hd⟩
  refine ⟨I.ok,I.os,hg,⟨fun b o e n hb hx=>?_,fun b o e n hb hx=>?_,fun b o e n hx=>?_,fun b o e hx=>?_,fun b xs e=>tups b xs (I.base.tups b xs e),fun b o xs e=>frzs b o xs (I.base.frzs b o xs e),fun b ps e=>?_⟩,?_,fun x c e=>?_,?_,fun x c e=>?_,fun p hp=>?_,hok,I.len⟩
  · exact keep b o (neL b o e) hb (neC b o e hx) (I.base.keep b o e n hb hx) (I.base.free b o e n hx)
  · obtain ⟨sl,e1⟩:=I.base.slot b o e n hb hx
    obtain ⟨sl',e2⟩:=slot b _ (neL b o e) hb (neC b o e hx) e1 (I.base.free b o e n hx)
    exact ⟨sl',e2⟩
  · obtain ⟨o',e1⟩:=I.base.there b o e hx
    exact free b o' (neC b o e hx) e1 (I.base.free b o e n hx)
  · obtain ⟨o',e1⟩:=I.base.there b o e hx
    exact there b o' (neC b o e hx) e1
  · obtain ⟨m1,e1⟩:=I.base.tbls b ps e
    obtain ⟨m2,e2⟩:=tbls b _ e1
    exact ⟨m1 ++ m2,by rw [e2,Array.append_assoc]⟩
  · obtain ⟨m,hn,hl⟩:=I.loc
    refine ⟨m,ns m hn,fun i x v e1 e2 e3=>?_⟩
    obtain ⟨u,r,l⟩:=hl i x v e1 e2 e3
    refine ⟨u,r,?_⟩
    rcases l with l | ⟨k,c,e,z⟩
    · exact .inl l
    · exact .inr ⟨k,c,e,cellK x c e _ z⟩
  · obtain ⟨v,z⟩:=I.cell x c e
    exact ⟨v,cellK x c e v z⟩
  · obtain ⟨m,⟨o,_,_,ho,_⟩,_⟩:=I.loc
    exact free _ o (fun z=>(hch _ z).2.1 rfl) ho I.free
  · obtain ⟨v,o,ho,hd⟩:=I.cell x c e
    exact free c o (fun z=>(hch c z).2.2.1 x c e rfl) ho (I.freeC x c e)
  · obtain ⟨e,n,ne,nf,d⟩:=I.pin p hp
    have nch:p.1∉ch:=fun z=>(hch p.1 z).2.2.2 p hp rfl
    exact ⟨keep p.1 p.2 ne nf nch e n,free p.1 p.2 nch e n,ne,nf,d⟩
theorem Inv.un {t':Nat} (I:Inv X pins σ H s) (u:Un X.fs [] H H' s.heap h') (hok:HOk X.prog X.w H' h'):Inv X pins σ H' { s with heap:=h',toks:=t' }:=by
  obtain ⟨m,⟨o,es,ep,ho,r⟩,_⟩:=id I.loc
  obtain ⟨sl,hL⟩:=u.any ho I.free (by simp)
  exact I.step (g':=s.gens) (d':=s.drawn) (ch:=[]) (fun _ z=>nomatch z) (fun b o _ hb _ e n=>u.keep b o e n hb (by simp)) (fun b o _ hb _ e n=>u.slot b o e n hb (by simp)) (fun b o _ e n=>u.free b o e n (by simp)) (fun b o _ e=>u.there b o e (by simp)) u.tups u.frzs u.tbls (fun m' hm=>by
    obtain ⟨o',es',ep',ho',r'⟩:=hm
    rw [ho] at ho'; cases ho'
    exact ⟨_,es',ep',hL,r'⟩) hok I.bare
theorem Inv.call {g':Array GenState} {t':Nat} {d':Drawn} {ch:List Addr} (I:Inv X pins σ H s) (u:Un (frs X.stack) ch H H' s.heap h') (hok:HOk X.prog X.w H' h') (hg:AllBare g')
    (hch:∀ b∈ch,(b∈X.ex∨X.s₀.heap.objs.size≤b)∧b≠X.env.locals∧(∀ x c,X.env.cells.lookup x=some c→c≠b)∧∀ p∈X.pn ++ pins,p.1≠b) :
    Inv X pins σ H' { s with heap:=h',gens:=g',drawn:=d',toks:=t' }:=by
  obtain ⟨m,⟨o,es,ep,ho,r⟩,_⟩:=id I.loc
  obtain ⟨sl,hL⟩:=u.any ho I.free fun z=>(hch _ z).2.1 rfl
  exact I.step (ch:=ch) hch (fun b o hL hb hc e n=>u.keep b o e n (fun z=>(List.mem_cons.mp (I.stkSub b z)).elim hL hb) hc) (fun b o _ _ hc e n=>u.any e n hc) (fun b o hc e n=>u.free b o e n hc) (fun b o hc e=>u.there b o e hc) u.tups u.frzs u.tbls (fun m' hm=>by
    obtain ⟨o',es',ep',ho',r'⟩:=hm
    rw [ho] at ho'; cases ho'
    exact ⟨_,es',ep',hL,r'⟩) hok hg
theorem Inv.turned {t':Nat} {it:Addr} (I:Inv X pins σ H s) (k:∀ b o,b≠it→s.heap.get? b=some o→h'.get? b=some o) (hn:H it=none) (hL:it≠X.env.locals)
    (h1:it∈X.ex∨X.s₀.heap.objs.size≤it) (h2:∀ x c,X.env.cells.lookup x=some c→c≠it) (h3:∀ p∈X.pn ++ pins,p.1≠it):Inv X pins σ H { s with heap:=h',toks:=t' }:=by
  have nit:∀ b u,H b=some u→b≠it:=fun b u e z=>by rw [z,hn] at e; cases e
  refine I.step (g':=s.gens) (d':=s.drawn) (ch:=[it]) (fun b hb=>?_) (fun b o _ _ hc e _=>k b o (fun z=>hc (by simp [z])) e) (fun b o _ _ hc e _=>⟨o.slots,k b o (fun z=>hc (by simp [z])) e⟩) (fun _ _ _ _ n=>n)
    (fun b o hc e=>⟨o,k b o (fun z=>hc (by simp [z])) e⟩) (fun _ _ e=>e) (fun _ _ _ e=>e) (fun b ps e=>⟨#[],by rw [e]; simp⟩) (fun m hm=>?_) (fun b u e=>?_) I.bare
  · have e:b=it:=by simpa using hb
    subst e
    exact ⟨h1,hL,h2,h3⟩
  · obtain ⟨o,es,ep,ho,r⟩:=hm
    exact ⟨o,es,ep,k _ o (Ne.symm hL) ho,r⟩
  · refine (I.hok b u e).stay (fun c v hc q=>k c v ?_ q) (fun _ q=>q) fun _ _ q=>q
    rcases hc with z | z
    · rw [z]; exact nit b u e
    · exact nit c _ z
theorem Inv.tok (I:Inv X pins σ H s) (t:Nat):Inv X pins σ H { s with toks:=t }:=I.un (h':=s.heap) (t':=t) Un.refl I.hok
theorem Inv.kept {t':Nat} (I:Inv X pins σ H s) (k:∀ b u,s.heap.get? b=some u→h'.get? b=some u):Inv X pins σ H { s with heap:=h',toks:=t' }:=I.un (Un.kept k) (I.hok.kept k)
theorem Inv.laid {a:Addr} {o:HO} {t':Nat} (I:Inv X pins σ H s) (k:∀ b u,s.heap.get? b=some u→h'.get? b=some u) (hp:s.heap.objs.size≤a) (new:ObjOk X.prog X.w (upd H a o) h' a o) :
    Inv X pins σ (upd H a o) { s with heap:=h',toks:=t' }:=I.un (Un.laid k hp (I.hok.fresh hp)) (I.hok.laid k hp new)
theorem Inv.write {x e:Addr} {o:HO} {t':Nat} (I:Inv X pins σ H s) (mu:Mut (H x)) (he:e=x∨H e=some (.own x)) (k:∀ b u,b≠e→s.heap.get? b=some u→h'.get? b=some u) (heo:∃ u,h'.get? e=some u)
    (new:ObjOk X.prog X.w (upd H x o) h' x o):Inv X pins σ (upd H x o) { s with heap:=h',toks:=t' }:=I.un (Un.write mu he k heo) (I.hok.write mu he k heo new)
theorem Inv.pins_of {pins':List (Addr×Obj)} (I:Inv X pins σ H s) (h:∀ p∈pins',s.heap.get? p.1=some p.2∧H p.1=none∧p.1≠X.env.locals∧p.1∉X.fs∧∀ v,p.2.data≠.cell v):Inv X pins' σ H s :=
  ⟨I.ok,I.os,I.bare,I.base,I.loc,I.cell,I.free,I.freeC,fun p hp=>(List.mem_append.mp hp).elim (fun z=>I.pin p (List.mem_append_left _ z)) (h p),I.hok,I.len⟩
theorem nodup_ix {N:List Str} (hN:N.Nodup) {i j:Nat} {x:Str} (a:N[i]? = some x) (b:N[j]? = some x):i=j:=by
  obtain ⟨h1,e1⟩:=List.getElem?_eq_some_iff.mp a
  obtain ⟨h2,e2⟩:=List.getElem?_eq_some_iff.mp b
  exact (List.getElem_inj hN).mp (e1.trans e2.symm)
theorem store_ok2 {M:Model} {A:Around} {E:Value→Shared→Prop} {i:Nat} {x:Str} {v:V} {u:Value} {Q:Unit→Shared→Prop} (I:Inv X pins σ H s) (hN:X.N.Nodup) (hi:X.N[i]? = some x) (hx:Loc X.env.scope x) (r:RelV v u)
    (h:∀ s',Inv X pins (σ.set i (some v)) H s'→(∃ a,Heap.SameBut a s.heap s'.heap∧(a=X.env.locals∨X.env.cells.lookup x=some a))→Q () s') (hf:X.fn x=true∨X.env.scope.names.lookup x=some .local:=by first | exact .inl rfl | exact .inr rfl | assumption):wpAny M A (storeName X.env x u) Q E s:=by
  obtain ⟨m,hn,hl⟩:=id I.loc
  have hcls:(X.env.scope.kind == .class || (X.env.scope.kind == .module && X.env.locals != X.env.globals))=false:=by rw [I.ok.kind]; rfl
  have hiσ:i < σ.length:=by rw [I.len]; exact (List.getElem?_eq_some_iff.mp hi).1
  have cne:=I.cne
  have tracked:∀ {a:Addr} {h':Heap},(∃ o,s.heap.get? a=some o∧H a=none)→Heap.SameBut a s.heap h'→HOk X.prog X.w H h':=fun {a h'} ha hs b ob e=>by
    obtain ⟨_,_,hfree⟩:=ha
    refine (I.hok b ob e).stay (fun c w' hc q=>(hs.2 c ?_).trans q) (fun _ q=>q) fun _ _ q=>q
    rintro rfl
    rcases hc with rfl | hc
    · rw [hfree] at e; cases e
    · rw [hfree] at hc; cases hc
  rcases hx with hk | hk
  · refine wpAny_storeName_local hk hn (fun h' hn' hs=>?_) hcls
    obtain ⟨oL,_,_,hoL,_⟩:=id hn
    refine h _ ⟨I.ok,I.os,I.bare,⟨fun b o e n hb hx=>?_,fun b o e n hb hx=>?_,I.base.free,fun b o e hx=>?_,I.base.tups,I.base.frzs,I.base.tbls⟩,⟨_,hn',fun j y v' e1 e2 e3=>?_⟩,fun y c e=>?_,I.free,I.freeC,fun p hp=>?_,tracked ⟨oL,hoL,I.free⟩ hs,by simpa using I.len⟩ ⟨_,hs,.inl rfl⟩
    · exact (hs.2 b (Nat.ne_of_lt (Nat.lt_of_lt_of_le (Heap.lt_size e) I.ok.above))).trans (I.base.keep b o e n hb hx)
    · obtain ⟨sl,e1⟩:=I.base.slot b o e n hb hx
      exact ⟨sl,(hs.2 b (Nat.ne_of_lt (Nat.lt_of_lt_of_le (Heap.lt_size e) I.ok.above))).trans e1⟩
    · obtain ⟨o',e1⟩:=I.base.there b o e hx
      exact ⟨o',(hs.2 b (Nat.ne_of_lt (Nat.lt_of_lt_of_le (Heap.lt_size e) I.ok.above))).trans e1⟩
    · by_cases hj:j=i
      · subst hj
        rw [hi] at e1; cases e1
        rw [List.getElem?_set_self hiσ] at e2
        cases e2
        exact ⟨u,r,.inl ⟨hk,by simp⟩⟩
      · rw [List.getElem?_set_ne (Ne.symm hj)] at e2
        obtain ⟨u',r',q⟩:=hl j y v' e1 e2 e3
        refine ⟨u',r',?_⟩
        rcases q with ⟨k,e⟩ | ⟨k,c,e,z⟩
        · refine .inl ⟨k,?_⟩
          have:y≠x:=fun e=>hj (nodup_ix hN e1 (e ▸ hi))
          simp [this,e]
        · exact .inr ⟨k,c,e,z.sameBut hs (cne y c e)⟩
    · obtain ⟨w',z⟩:=I.cell y c e
      exact ⟨w',z.sameBut hs (cne y c e)⟩
    · obtain ⟨e,n,ne,nf,d⟩:=I.pin p hp
      exact ⟨(hs.2 p.1 ne).trans e,n,ne,nf,d⟩
  · have hfn:X.fn x=true:=by
      rcases hf with z | z
      · exact z
      · rw [z] at hk; cases hk
    obtain ⟨c,hc⟩:=I.ok.has x (.inl hk)
    obtain ⟨w',z⟩:=I.cell x c hc
    refine wpAny_storeName_cell I.ok.kind hk hc z (fun h' hc' hs=>?_)
    obtain ⟨oc,hoc,hocd⟩:=id z
    refine h { s with heap:=h' } ⟨I.ok,I.os,I.bare,⟨fun b o e n hb hx=>?_,fun b o e n hb hx=>?_,I.base.free,fun b o e hx=>?_,I.base.tups,I.base.frzs,I.base.tbls⟩,⟨m,hn.sameBut hs (Ne.symm (cne x c hc)),fun j y v' e1 e2 e3=>?_⟩,fun y c' e=>?_,I.free,I.freeC,fun p hp=>?_,tracked ⟨oc,hoc,I.freeC x c hc⟩ hs,by simpa using I.len⟩ ⟨c,hs,.inr hc⟩
    · exact (hs.2 b (Nat.ne_of_lt (Nat.lt_of_lt_of_le (Heap.lt_size e) (I.ok.cab x c hfn hc)))).trans (I.base.keep b o e n hb hx)
    · obtain ⟨sl,e1⟩:=I.base.slot b o e n hb hx
      exact ⟨sl,(hs.2 b (Nat.ne_of_lt (Nat.lt_of_lt_of_le (Heap.lt_size e) (I.ok.cab x c hfn hc)))).trans e1⟩
    · obtain ⟨o',e1⟩:=I.base.there b o e hx
      exact ⟨o',(hs.2 b (Nat.ne_of_lt (Nat.lt_of_lt_of_le (Heap.lt_size e) (I.ok.cab x c hfn hc)))).trans e1⟩
    · by_cases hj:j=i
      · subst hj
        rw [hi] at e1; cases e1
        rw [List.getElem?_set_self hiσ] at e2
        cases e2
        exact ⟨u,r,.inr ⟨.inl hk,c,hc,hc'⟩⟩
      · rw [List.getElem?_set_ne (Ne.symm hj)] at e2
        obtain ⟨u',r',q⟩:=hl j y v' e1 e2 e3
        refine ⟨u',r',?_⟩
        rcases q with q | ⟨k,c',e,z'⟩
        · exact .inl q
        · refine .inr ⟨k,c',e,z'.sameBut hs ?_⟩
          rintro rfl
          exact hj (nodup_ix hN e1 (I.ok.inj _ _ _ e hc ▸ hi))
    · by_cases hcc:c'=c
      · subst hcc; exact ⟨_,hc'⟩
      · obtain ⟨w2,z2⟩:=I.cell y c' e
        exact ⟨w2,z2.sameBut hs hcc⟩
    · obtain ⟨e,n,ne,nf,d⟩:=I.pin p hp
      refine ⟨(hs.2 p.1 ?_).trans e,n,ne,nf,d⟩
      intro q
      rw [q,hoc] at e
      have q':oc=p.2:=Option.some.inj e
      exact d w' (by rw [← q']; exact hocd)
theorem store_ok {M:Model} {A:Around} {E:Value→Shared→Prop} {i:Nat} {x:Str} {v:V} {u:Value} {Q:Unit→Shared→Prop} (I:Inv X pins σ H s) (hN:X.N.Nodup) (hi:X.N[i]? = some x) (hx:Loc X.env.scope x) (r:RelV v u)
    (h:∀ s',Inv X pins (σ.set i (some v)) H s'→Q () s') (hf:X.fn x=true∨X.env.scope.names.lookup x=some .local:=by first | exact .inl rfl | exact .inr rfl | assumption):wpAny M A (storeName X.env x u) Q E s :=
  store_ok2 I hN hi hx r (fun s' I' _=>h s' I') hf
theorem Inv.call' {s':Shared} {ch:List Addr} (I:Inv X pins σ H s) (ho:s'.os=s.os) (u:Un (frs X.stack) ch H H' s.heap s'.heap) (hok:HOk X.prog X.w H' s'.heap) (hg:AllBare s'.gens)
    (hch:∀ b∈ch,(b∈X.ex∨X.s₀.heap.objs.size≤b)∧b≠X.env.locals∧(∀ x c,X.env.cells.lookup x=some c→c≠b)∧∀ p∈X.pn ++ pins,p.1≠b):Inv X pins σ H' s':=by
  obtain ⟨h',g',d',t',o'⟩:=s'
  have e:o'=s.os:=ho
  subst e
  exact I.call (g':=g') (t':=t') (d':=d') u hok hg hch
end
noncomputable abbrev XK:=Value→Option Addr→Hp→Prop
noncomputable abbrev St:=List (Option V)
noncomputable abbrev VK:=V→Hp→Prop
noncomputable abbrev TE:=St→Hp→VK→Prop
noncomputable abbrev TT:=St→Hp→(Bool→Hp→Prop)→Prop
noncomputable abbrev TA:=St→Hp→(List V→Hp→Prop)→Prop
structure Ends where
  nx:St→Hp→Prop
  rt:VK
  bk:St→Hp→Prop:=fun _ _=>False
  ct:St→Hp→Prop:=fun _ _=>False
noncomputable abbrev TS:=Ends→St→Hp→Prop
noncomputable def EP (X:Cx) (pins:List (Addr×Obj)) (σ:St) (Q:VK) (u:Value) (s':Shared):Prop:=∃ v H',Inv X pins σ H' s'∧RelV v u∧Q v H'
noncomputable def TP (X:Cx) (pins:List (Addr×Obj)) (σ:St) (Q:Bool→Hp→Prop) (b:Bool) (s':Shared):Prop:=∃ H',Inv X pins σ H' s'∧Q b H'
noncomputable def AP (X:Cx) (pins:List (Addr×Obj)) (σ:St) (Q:List V→Hp→Prop) (us:List Value) (s':Shared):Prop:=∃ vs H',Inv X pins σ H' s'∧Vals vs us∧Q vs H'
noncomputable def SP (X:Cx) (pins:List (Addr×Obj)) (D:Ends) (f:Flow) (s':Shared):Prop :=
  match f with
  | .next=>∃ σ' H',Inv X pins σ' H' s'∧D.nx σ' H'
  | .brk=>∃ σ' H',Inv X pins σ' H' s'∧D.bk σ' H'
  | .cont=>∃ σ' H',Inv X pins σ' H' s'∧D.ct σ' H'
  | .ret u=>∃ v σ' H',Inv X pins σ' H' s'∧RelV v u∧D.rt v H'
noncomputable def PE (X:Cx) (e:Expr) (t:TE):Prop :=
  ∀ (pins:List (Addr×Obj)) (s:Shared) (σ:St) (H:Hp) (Q:VK),Inv X pins σ H s→t σ H Q→wpAny (model X.prog X.w) X.A (eval e X.env) (EP X pins σ Q) X.xe s
noncomputable def PT (X:Cx) (e:Expr) (t:TT):Prop :=
  ∀ (pins:List (Addr×Obj)) (s:Shared) (σ:St) (H:Hp) (Q:Bool→Hp→Prop),Inv X pins σ H s→t σ H Q→wpAny (model X.prog X.w) X.A (isTrue e X.env (eval e X.env)) (TP X pins σ Q) X.xe s
noncomputable def PW (X:Cx) (e:Expr) (t:TT):Prop :=
  ∀ (whole:Sem Value) (pins:List (Addr×Obj)) (s:Shared) (σ:St) (H:Hp) (Q:Bool→Hp→Prop),Inv X pins σ H s→t σ H Q→wpAny (model X.prog X.w) X.A (isTrue e X.env whole) (TP X pins σ Q) X.xe s
theorem PW.pt {X:Cx} {e:Expr} {t:TT} (h:PW X e t):PT X e t:=h _
noncomputable def PA (X:Cx) (es:List Expr) (t:TA):Prop :=
  ∀ (pos:Pos) (pins:List (Addr×Obj)) (s:Shared) (σ:St) (H:Hp) (Q:List V→Hp→Prop),Inv X pins σ H s→t σ H Q→wpAny (model X.prog X.w) X.A (spliced (backTo pos (starEach es X.env))) (AP X pins σ Q) X.xe s
noncomputable def PS (X:Cx) (st:Stmt) (t:TS):Prop :=
  ∀ (pins:List (Addr×Obj)) (s:Shared) (σ:St) (H:Hp) (D:Ends),Inv X pins σ H s→t D σ H→wpAny (model X.prog X.w) X.A (exec st X.env) (SP X pins D) X.xe s
noncomputable def PSs (X:Cx) (st:List Stmt) (t:TS):Prop :=
  ∀ (pins:List (Addr×Obj)) (s:Shared) (σ:St) (H:Hp) (D:Ends),Inv X pins σ H s→t D σ H→wpAny (model X.prog X.w) X.A (execs st X.env) (SP X pins D) X.xe s
theorem thn {α:Type} {t:Sem α} {Q Q':α→Shared→Prop} {M:Model} {A:Around} {E:Value→Shared→Prop} {s:Shared} (h:wpAny M A t Q E s) (hQ:∀ a s,Q a s→Q' a s):wpAny M A t Q' E s:=wpAny_mono h hQ fun _ _ x=>x
end L2
namespace L2
open PySem PySem.Spec PyProof.Rows
section
variable {X:Cx}
theorem bin {a b:Expr} {ta tb:TE} (ha:PE X a ta) (hb:PE X b tb) {pins:List (Addr×Obj)} {s:Shared} {σ:St} {H:Hp} {R:V→V→Hp→Prop} (I:Inv X pins σ H s) (h:ta σ H fun x H1=>tb σ H1 fun y H2=>R x y H2)
    {α:Type} {Q:α→Shared→Prop} {f:Value→Value→Sem α}
    (hf:∀ v u s2 x y H2,Inv X pins σ H2 s2→RelV x v→RelV y u→R x y H2→wpAny (model X.prog X.w) X.A (f v u) Q X.xe s2) :
    wpAny (model X.prog X.w) X.A (eval a X.env) (fun v s₁=>wpAny (model X.prog X.w) X.A (eval b X.env) (fun u s₂=>wpAny (model X.prog X.w) X.A (f v u) Q X.xe s₂) X.xe s₁) X.xe s:=by
  refine thn (ha pins s σ H _ I h) fun v s1 ⟨x,H1,I1,r1,q1⟩=>?_
  refine thn (hb pins s1 σ H1 _ I1 q1) fun u s2 ⟨y,H2,I2,r2,q2⟩=>?_
  exact hf v u s2 x y H2 I2 r1 r2 q2
noncomputable def tVar (i:Nat):TE:=fun σ H Q=>∃ v,σ[i]? = some (some v)∧Q v H
noncomputable def tC (v:V):TE:=fun _ H Q=>Q v H
theorem pe_var {i:Nat} {x:Str} {pos:Pos} (hN:X.N[i]? = some x) (hv:Vis X.env.scope x) (hd:(x == ("__debug__":Str))=false:=by decide) (hcd:(x == ("__classdict__":Str))=false:=by decide):PE X (.Name x pos) (tVar i):=by
  intro pins s σ H Q I h
  obtain ⟨v,e,h⟩:=h
  obtain ⟨m,hn,hl⟩:=I.loc
  obtain ⟨u,r,l⟩:=hl i x v hN e hv
  have fin:EP X pins σ Q u s:=⟨v,H,I,r,h⟩
  rcases l with ⟨hk,hm⟩ | ⟨hk,c,hc,hcell⟩
  · exact wpAny_Name (wpAny_loadName_local I.ok.kind hk hn hm fin) hd
  · rcases hk with hk | hk
    · exact wpAny_Name (wpAny_loadName_cell I.ok.kind hk hc hcell fin) hd
    · exact wpAny_Name (wpAny_loadName_free I.ok.kind hk hc hcell fin hcd) hd
theorem pe_int {i j pos}:PE X (.Constant (.int i) j pos) (tC (.int i)):=fun _ _ _ H _ I h=>wpAny_Constant_int ⟨.int i,H,I.tok _,⟨_,rfl⟩,h⟩
theorem pe_bl {b j pos}:PE X (.Constant (.bool b) j pos) (tC (.bl b)):=fun _ _ _ H _ I h=>Constant_bool ⟨.bl b,H,I,rfl,h⟩
theorem pe_non {j pos}:PE X (.Constant .none j pos) (tC .non):=fun _ _ _ H _ I h=>Constant_none ⟨.non,H,I,rfl,h⟩
theorem pe_str {x j pos}:PE X (.Constant (.str x) j pos) (tC (.str x)):=fun _ _ _ H _ I h=>Calls.Constant_str ⟨.str x,H,I.tok _,⟨_,rfl⟩,h⟩
noncomputable def Gl (X:Cx) (x:Str):Prop:=X.env.kindOf x=some .globalImplicit
theorem ld_glob {E:Value→Shared→Prop} {pins:List (Addr×Obj)} {s:Shared} {σ:St} {H:Hp} {x:Str} {u:Value} {pos:Pos} {Q:Value→Shared→Prop} (I:Inv X pins σ H s) (hg:Gl X x) (hm:X.mg x=some u) (h:Q u s)
    (hd:(x == ("__debug__":Str))=false:=by decide):wpAny (model X.prog X.w) X.A (eval (.Name x pos) X.env) Q E s :=
  Calls.Name_function_global I.ok.kind hg (Calls.loadGlobal_global (by rw [I.ok.glob]; exact I.mod.glob.keeps I.bk) hm h) hd
theorem ld_blt {E:Value→Shared→Prop} {pins:List (Addr×Obj)} {s:Shared} {σ:St} {H:Hp} {x:Str} {u:Value} {pos:Pos} {Q:Value→Shared→Prop} (I:Inv X pins σ H s) (hg:Gl X x) (hm:X.mg x=none) (hv:bootBuiltins x=some u) (h:Q u s)
    (hn:x≠"__name__":=by decide) (hd:(x == ("__debug__":Str))=false:=by decide):wpAny (model X.prog X.w) X.A (eval (.Name x pos) X.env) Q E s:=by
  obtain ⟨mb,h1,h2⟩:=I.mod.blt
  exact Calls.Name_function_global I.ok.kind hg (Calls.loadGlobal_builtin (by rw [I.ok.glob]; exact I.mod.glob.keeps I.bk) hm (by rw [I.ok.blt]; exact h1.keeps I.bk) ((h2 x hn).trans hv) h) hd
theorem pe_glob {x:Str} {v:V} {u:Value} {pos:Pos} (hg:Gl X x) (hm:X.mg x=some u) (r:RelV v u) (hd:(x == ("__debug__":Str))=false:=by decide):PE X (.Name x pos) (tC v) :=
  fun _ _ _ H _ I h=>ld_glob I hg hm ⟨v,H,I,r,h⟩ hd
theorem pe_bltn {x:Str} {v:V} {u:Value} {pos:Pos} (hg:Gl X x) (hm:X.mg x=none) (hv:bootBuiltins x=some u) (r:RelV v u) (hn:x≠"__name__":=by decide) (hd:(x == ("__debug__":Str))=false:=by decide):PE X (.Name x pos) (tC v) :=
  fun _ _ _ H _ I h=>ld_blt I hg hm hv ⟨v,H,I,r,h⟩ hn hd
variable {a b:Expr} {ta tb:TE} {pos:Pos}
noncomputable def PC (X:Cx) (op:CmpOp) (a b:Expr) (t:TE):Prop :=
  ∀ (pins:List (Addr×Obj)) (s:Shared) (σ:St) (H:Hp) (Q:VK),Inv X pins σ H s→t σ H Q →
    wpAny (model X.prog X.w) X.A (eval a X.env) (fun v s₁=>wpAny (model X.prog X.w) X.A (eval b X.env) (fun u s₂=>wpAny (model X.prog X.w) X.A (compareOp op v u) (EP X pins σ Q) X.xe s₂) X.xe s₁) X.xe s
noncomputable def tB (t:TE):TT:=fun σ H Q=>t σ H fun x H1=>∃ c,x=.bl c∧Q c H1
theorem pt_cmp {op:CmpOp} {t:TE} (h:PC X op a b t) (h1:behindInMarks op b=false:=by first | exact nobehind _ (by decide) (by decide) | rfl):PT X (.Compare a [op] [b] pos) (tB t):=by
  intro pins s σ H Q I hw
  refine wpAny_isTrue_Compare1 (thn (h pins s σ H _ I hw) fun v s1 h1=>thn h1 fun u s2 h2=>thn h2 fun c s3 ⟨x,H1,I1,r1,q1⟩=>?_) h1
  obtain ⟨d,rfl,q⟩:=q1
  cases r1
  exact wpAny_truthy_bool ⟨H1,I1,q⟩
theorem pt_val {e:Expr} {t:TE} (h:PE X e t) (he:∀ whole,isTrue e X.env whole=(do let v ← whole; standAt e.pos; holding [v] (truthy v)):=by intro _; rfl):PT X e (tB t):=by
  intro pins s σ H Q I hw
  refine isTrue_plain (thn (h pins s σ H _ I hw) fun v s1 ⟨x,H1,I1,r1,q1⟩=>?_) (he _)
  obtain ⟨d,rfl,q⟩:=q1
  cases r1
  exact wpAny_truthy_bool ⟨H1,I1,q⟩
variable {tA tB':TT} {rest:List Expr}
noncomputable def tAnd (t u:TT):TT:=fun σ H Q=>t σ H fun c H1=>if c=true then u σ H1 Q else Q false H1
noncomputable def tOr (t u:TT):TT:=fun σ H Q=>t σ H fun c H1=>if c=true then Q true H1 else u σ H1 Q
noncomputable def tNot (t:TT):TT:=fun σ H Q=>t σ H fun c H1=>Q (!c) H1
theorem pw_and1 (ha:PT X a tA):PW X (.BoolOp .And [a] pos) tA:=by
  intro wh pins s σ H Q I h
  refine isTrue_and (thn (ha pins s σ H Q I h) fun c s1 e=>?_)
  cases c with
  | true=>exact isTrue_and_nil e
  | false=>exact e
theorem pw_or1 (ha:PT X a tA):PW X (.BoolOp .Or [a] pos) tA:=by
  intro wh pins s σ H Q I h
  refine isTrue_or (thn (ha pins s σ H Q I h) fun c s1 e=>?_)
  cases c with
  | false=>exact isTrue_or_nil e
  | true=>exact e
theorem pw_and (ha:PT X a tA) (hb:PW X (.BoolOp .And (b :: rest) pos) tB'):PW X (.BoolOp .And (a :: b :: rest) pos) (tAnd tA tB'):=by
  intro wh pins s σ H Q I h
  refine isTrue_and (thn (ha pins s σ H _ I h) fun c s1 ⟨H1,I1,q1⟩=>?_)
  cases c with
  | true=>exact hb wh pins s1 σ H1 Q I1 q1
  | false=>exact ⟨H1,I1,q1⟩
theorem pw_or (ha:PT X a tA) (hb:PW X (.BoolOp .Or (b :: rest) pos) tB'):PW X (.BoolOp .Or (a :: b :: rest) pos) (tOr tA tB'):=by
  intro wh pins s σ H Q I h
  refine isTrue_or (thn (ha pins s σ H _ I h) fun c s1 ⟨H1,I1,q1⟩=>?_)
  cases c with
  | true=>exact ⟨H1,I1,q1⟩
  | false=>exact hb wh pins s1 σ H1 Q I1 q1
theorem pt_not (ha:PT X a tA):PT X (.UnaryOp .Not a pos) (tNot tA):=by
  intro pins s σ H Q I h
  exact isTrue_not (ha pins s σ H (fun c H1=>Q (!c) H1) I h)
noncomputable def tAndV (ta tb:TE):TE:=fun σ H Q=>ta σ H fun x H1=>∃ c,x=.bl c∧if c=true then tb σ H1 Q else Q (.bl false) H1
noncomputable def tNotV (ta:TE):TE:=fun σ H Q=>ta σ H fun x H1=>∃ c,x=.bl c∧Q (.bl (!c)) H1
theorem pe_one {op} {t:TE} (h:PE X a t):PE X (.BoolOp op [a] pos) t:=fun pins s σ H Q I hw=>BoolOp_one (h pins s σ H Q I hw)
theorem pe_and (ha:PE X a ta) (hb:PE X (.BoolOp .And (b :: rest) pos) tb):PE X (.BoolOp .And (a :: b :: rest) pos) (tAndV ta tb):=by
  intro pins s σ H Q I h
  refine BoolOp_and (thn (ha pins s σ H _ I h) fun v s1 ⟨x,H1,I1,r1,q1⟩=>?_)
  obtain ⟨c,rfl,q1⟩:=q1
  cases r1
  refine wpAny_truthy_bool ?_
  cases c with
  | true=>exact hb pins s1 σ H1 Q I1 q1
  | false=>exact ⟨.bl false,H1,I1,rfl,q1⟩
theorem pe_not (ha:PE X a ta):PE X (.UnaryOp .Not a pos) (tNotV ta):=by
  intro pins s σ H Q I h
  refine UnaryOp_ (thn (ha pins s σ H _ I h) fun v s1 ⟨x,H1,I1,r1,q1⟩=>?_)
  obtain ⟨c,rfl,q1⟩:=q1
  cases r1
  exact not_of (wpAny_truthy_bool ⟨.bl (!c),H1,I1,rfl,q1⟩)
noncomputable def tIf (t:TT) (ta tb:TE):TE:=fun σ H Q=>t σ H fun c H1=>if c=true then ta σ H1 Q else tb σ H1 Q
theorem pe_ifExp {c:Expr} (hc:PT X c tA) (ha:PE X a ta) (hb:PE X b tb):PE X (.IfExp c a b pos) (tIf tA ta tb):=by
  intro pins s σ H Q I h
  refine wpAny_IfExp (thn (hc pins s σ H _ I h) fun d s1 ⟨H1,I1,q1⟩=>?_)
  cases d with
  | true=>exact ha pins s1 σ H1 Q I1 q1
  | false=>exact hb pins s1 σ H1 Q I1 q1
end
end L2
namespace L2
open PySem PySem.Spec PyProof.Rows
noncomputable def SqL (K:PySem.W.Frag) (H:Hp) (a:Addr) (xs:List V):Prop :=
  Rd H a (.lst xs) ∨
    ∃ (o:Obj) (its:Array Value) (n:Nat),K.lookup a=some o∧o.cls=.type "list"∧o.dict=none∧o.data=.seq its n∧its.size≤sizeLine∧Vals xs its.toList
noncomputable def SqT (K:PySem.W.Frag) (H:Hp) (a:Addr) (xs:List V):Prop :=
  Rd H a (.tup xs) ∨
    ∃ (o:Obj) (its:Array Value) (n:Nat),K.lookup a=some o∧o.cls=.type "tuple"∧o.data=.seq its n∧its.size≤sizeLine∧Vals xs its.toList
noncomputable def absV:Value→Option V
  | .none=>some .non
  | .bool b=>some (.bl b)
  | .int i _=>some (.int i)
  | .str x _=>some (.str x)
  | .bytes b _=>some (.byt b)
  | .float b _=>some (.flt b)
  | .ref a=>some (.ref a)
  | .type n=>some (.ty n)
  | _=>none
theorem RelV.abs {x:V} {u:Value} (r:RelV x u):absV u=some x:=by
  cases x with
  | non=>cases r; rfl
  | bl _=>cases r; rfl
  | int _=>obtain ⟨t,rfl⟩:=r; rfl
  | str _=>obtain ⟨t,rfl⟩:=r; rfl
  | byt _=>obtain ⟨t,rfl⟩:=r; rfl
  | flt _=>obtain ⟨t,rfl⟩:=r; rfl
  | ref _=>cases r; rfl
  | ty _=>cases r; rfl
theorem RelV.inj {x y:V} {u:Value} (r:RelV x u) (q:RelV y u):x=y:=Option.some.inj (r.abs.symm.trans q.abs)
theorem Vals.inj:∀ {xs ys:List V} {us:List Value},Vals xs us→Vals ys us→xs=ys
  | _,_,_,.nil,.nil=>rfl
  | _,_,_,.cons r t,.cons r' t'=>by rw [r.inj r',Vals.inj t t']
section
variable {X:Cx} {pins:List (Addr×Obj)} {σ:St} {H:Hp} {s:Shared} {a:Addr} {xs ys:List V}
theorem SqL.of {K:PySem.W.Frag} (h:H a=some (.lst xs)):SqL K H a xs:=.inl (.inl h)
theorem SqT.of {K:PySem.W.Frag} (h:H a=some (.tup xs)):SqT K H a xs:=.inl (.inl h)
theorem Inv.list (I:Inv X pins σ H s) (h:SqL X.K H a xs):∃ its:List Value,Vals xs its∧PlainL s.heap a its.toArray∧xs.length≤sizeLine:=by
  rcases h with h | ⟨o,its,n,hk,hc,hd,hs,hz,r⟩
  · obtain ⟨z,its,n,r,e⟩:=h.ok I.hok
    exact ⟨its,r,⟨_,n,e,rfl,rfl,rfl⟩,z⟩
  · refine ⟨its.toList,r,⟨o,n,I.kIn a o hk,hc,hd,by simpa using hs⟩,?_⟩
    have e:=r.length
    simp only [Array.length_toList] at e
    omega
theorem Inv.tuple (I:Inv X pins σ H s) (h:SqT X.K H a xs):∃ its:List Value,Vals xs its∧IsTup s.heap a its.toArray∧xs.length≤sizeLine:=by
  rcases h with h | ⟨o,its,n,hk,hc,hs,hz,r⟩
  · obtain ⟨z,its,r,p⟩:=h.ok I.hok
    exact ⟨its,r,p.tup,z⟩
  · refine ⟨its.toList,r,⟨o,I.kIn a o hk,hc,n,by simpa using hs⟩,?_⟩
    have e:=r.length
    simp only [Array.length_toList] at e
    omega
theorem Inv.list_inj (I:Inv X pins σ H s) (h:SqL X.K H a xs) (h':SqL X.K H a ys):xs=ys:=by
  obtain ⟨its,r,⟨o,n,e,_,_,d⟩,_⟩:=I.list h
  obtain ⟨its',r',⟨o',n',e',_,_,d'⟩,_⟩:=I.list h'
  rw [e] at e'; cases e'
  rw [d] at d'
  injection d' with d1 _
  have:its=its':=by simpa using congrArg Array.toList d1
  subst this
  exact r.inj r'
theorem Inv.tuple_inj (I:Inv X pins σ H s) (h:SqT X.K H a xs) (h':SqT X.K H a ys):xs=ys:=by
  obtain ⟨its,r,⟨o,e,_,n,d⟩,_⟩:=I.tuple h
  obtain ⟨its',r',⟨o',e',_,n',d'⟩,_⟩:=I.tuple h'
  rw [e] at e'; cases e'
  rw [d] at d'
  injection d' with d1 _
  have:its=its':=by simpa using congrArg Array.toList d1
  subst this
  exact r.inj r'
end
noncomputable abbrev Cx.wish (X:Cx) (E:Value→Shared→Prop):Cx:={ X with xe:=E }
noncomputable abbrev Cx.nox (X:Cx):Cx:=X.wish fun _ _=>False
theorem Cx.Ok.wish {X:Cx} (ok:X.Ok) (E:Value→Shared→Prop):(X.wish E).Ok :=
  ⟨ok.mod,ok.kind,ok.glob,ok.blt,ok.above,ok.inj,ok.has,ok.cab,ok.hd,ok.frames,ok.stk,ok.exf,ok.bs,ok.bsz,ok.noex,ok.exfs,ok.funs,ok.frf⟩
theorem Cx.Ok.unwish {X:Cx} {E:Value→Shared→Prop} (ok:(X.wish E).Ok):X.Ok :=
  ⟨ok.mod,ok.kind,ok.glob,ok.blt,ok.above,ok.inj,ok.has,ok.cab,ok.hd,ok.frames,ok.stk,ok.exf,ok.bs,ok.bsz,ok.noex,ok.exfs,ok.funs,ok.frf⟩
section
variable {X:Cx} {pins:List (Addr×Obj)} {σ:St} {H:Hp} {s:Shared} {E:Value→Shared→Prop}
theorem Inv.wish (I:Inv X pins σ H s) (E:Value→Shared→Prop):Inv (X.wish E) pins σ H s:=⟨I.ok.wish E,I.os,I.bare,I.base,I.loc,I.cell,I.free,I.freeC,I.pin,I.hok,I.len⟩
theorem Inv.unwish (I:Inv (X.wish E) pins σ H s):Inv X pins σ H s:=⟨I.ok.unwish,I.os,I.bare,I.base,I.loc,I.cell,I.free,I.freeC,I.pin,I.hok,I.len⟩
theorem SP.unwish {D:Ends} {f:Flow} {s':Shared} (h:SP (X.wish E) pins D f s'):SP X pins D f s':=by
  cases f with
  | next=>obtain ⟨σ',H',I,q⟩:=h; exact ⟨σ',H',I.unwish,q⟩
  | brk=>obtain ⟨σ',H',I,q⟩:=h; exact ⟨σ',H',I.unwish,q⟩
  | cont=>obtain ⟨σ',H',I,q⟩:=h; exact ⟨σ',H',I.unwish,q⟩
  | ret u=>obtain ⟨v,σ',H',I,r,q⟩:=h; exact ⟨v,σ',H',I.unwish,r,q⟩
theorem PT.nox {e:Expr} {t:TT} (h:PT X.nox e t):PT X e t:=fun pins s σ H Q I hw =>
  wpAny_mono (h pins s σ H Q (I.wish _) hw) (fun _ _ ⟨H',I',q⟩=>⟨H',I'.unwish,q⟩) fun _ _ z=>False.elim z
theorem PSs.nox {st:List Stmt} {t:TS} (h:PSs X.nox st t):PSs X st t:=fun pins s σ H D I hw =>
  wpAny_mono (h pins s σ H D (I.wish _) hw) (fun _ _ q=>q.unwish) fun _ _ z=>False.elim z
end
section
variable {X:Cx} {st:Stmt} {rest:List Stmt} {t u:TS} {e:Expr} {te:TE} {pos:Pos}
noncomputable def tNext:TS:=fun D σ H=>D.nx σ H
noncomputable def tSeq (t u:TS):TS:=fun D σ H=>t { D with nx:=u D } σ H
theorem pss_nil:PSs X [] tNext:=fun _ _ σ H _ I h=>wpAny_execs_nil ⟨σ,H,I,h⟩
theorem pss_cons (h1:PS X st t) (h2:PSs X rest u):PSs X (st :: rest) (tSeq t u):=by
  intro pins s σ H D I h
  refine wpAny_execs_cons (thn (h1 pins s σ H { D with nx:=u D } I h) fun f s1 q=>?_)
  cases f with
  | next =>
    obtain ⟨σ',H',I',q⟩:=q
    exact h2 pins s1 σ' H' D I' q
  | ret v=>exact q
  | brk=>exact q
  | cont=>exact q
theorem pss_one (h1:PS X st t):PSs X [st] t:=by
  intro pins s σ H D I h
  refine wpAny_execs_cons (thn (h1 pins s σ H D I h) fun f s1 q=>?_)
  cases f with
  | next=>exact wpAny_execs_nil q
  | ret v=>exact q
  | brk=>exact q
  | cont=>exact q
theorem Inv.quiet {pins:List (Addr×Obj)} {σ:St} {H:Hp} {s:Shared} (I:Inv X pins σ H s):interactive X.env=false:=by simp [interactive,I.ok.kind]
noncomputable def tDrop (te:TE):TS:=fun D σ H=>te σ H fun _ H1=>D.nx σ H1
theorem ps_expr (he:PE X e te) (hs:swapsWith e none pos.line X.env=pure false:=by rfl):PS X (.Expr e pos) (tDrop te):=by
  intro pins s σ H D I h
  exact wpAny_Expr_any (thn (he pins s σ H _ I h) fun v s1 ⟨x,H1,I1,r1,q1⟩=>⟨σ,H1,I1,q1⟩) I.quiet hs
noncomputable def tRet (te:TE):TS:=fun D σ H=>te σ H D.rt
theorem ps_ret (he:PE X e te):PS X (.Return (some e) pos) (tRet te):=by
  intro pins s σ H D I h
  exact wpAny_Return_some (thn (he pins s σ H _ I h) fun v s1 ⟨x,H1,I1,r1,q1⟩=>⟨x,σ,H1,I1,r1,q1⟩)
noncomputable def tIfS (c:TT) (t u:TS):TS:=fun D σ H=>c σ H fun b H1=>if b=true then t D σ H1 else u D σ H1
theorem ps_if {c:Expr} {a b:List Stmt} {tc:TT} (hc:PT X c tc) (ha:PSs X a t) (hb:PSs X b u):PS X (.If c a b pos) (tIfS tc t u):=by
  intro pins s σ H D I h
  refine wpAny_If (thn (hc pins s σ H _ I h) fun d s1 ⟨H1,I1,q1⟩=>?_)
  cases d with
  | true=>exact ha pins s1 σ H1 D I1 q1
  | false=>exact hb pins s1 σ H1 D I1 q1
end
noncomputable abbrev TG:=V→St→Hp→(St→Hp→Prop)→Prop
noncomputable abbrev TGs:=List V→St→Hp→(St→Hp→Prop)→Prop
noncomputable def PG (X:Cx) (target:Expr) (t:TG):Prop :=
  ∀ (pins:List (Addr×Obj)) (s:Shared) (σ:St) (H:Hp) (v:V) (u:Value) (Q:St→Hp→Prop),Inv X pins σ H s→RelV v u→t v σ H Q →
    wpAny (model X.prog X.w) X.A (assign target X.env u) (fun _ s'=>∃ σ' H',Inv X pins σ' H' s'∧Q σ' H') X.xe s
noncomputable def PGs (X:Cx) (ts:List Expr) (t:TGs):Prop :=
  ∀ (pins:List (Addr×Obj)) (s:Shared) (σ:St) (H:Hp) (vs:List V) (us:List Value) (Q:St→Hp→Prop),Inv X pins σ H s→Vals vs us→t vs σ H Q →
    wpAny (model X.prog X.w) X.A (assignInOrder ((assignEach ts X.env).map (·.2)) us) (fun _ s'=>∃ σ' H',Inv X pins σ' H' s'∧Q σ' H') X.xe s
noncomputable abbrev TSet:=V→V→V→Hp→(Hp→Prop)→Prop
noncomputable def PSet (X:Cx) (t:TSet):Prop :=
  ∀ (pins:List (Addr×Obj)) (s:Shared) (σ:St) (H:Hp) (o i v:V) (ov iv u:Value) (Q:Hp→Prop),Inv X pins σ H s→RelV o ov→RelV i iv→RelV v u→t o i v H Q →
    wpAny (model X.prog X.w) X.A (setItem ov iv u) (fun _ s'=>∃ H',Inv X pins σ H' s'∧Q H') X.xe s
section
variable {X:Cx} {pos:Pos}
noncomputable def gName (i:Nat):TG:=fun v σ H Q=>Q (σ.set i (some v)) H
theorem pg_name {i:Nat} {x:Str} (hN:X.N.Nodup) (hi:X.N[i]? = some x) (hx:Loc X.env.scope x) (hf:X.fn x=true∨X.env.scope.names.lookup x=some .local:=by first | exact .inl rfl | exact .inr rfl | assumption):PG X (.Name x pos) (gName i):=by
  intro pins s σ H v u Q I r h
  exact wpAny_assign_Name (store_ok I hN hi hx r (fun s' I'=>⟨_,H,I',h⟩) hf)
noncomputable def gNil:TGs:=fun vs σ H Q=>vs=[]∧Q σ H
noncomputable def gCons (t:TG) (u:TGs):TGs:=fun vs σ H Q=>∃ v r,vs=v :: r∧t v σ H fun σ' H'=>u r σ' H' Q
theorem pgs_nil:PGs X [] gNil:=by
  intro pins s σ H vs us Q I r h
  obtain ⟨e,h⟩:=h
  subst e
  cases r
  exact assignInOrder_nil ⟨σ,H,I,h⟩
theorem pgs_cons {e:Expr} {es:List Expr} {t:TG} {u:TGs} (h1:PG X e t) (h2:PGs X es u)
    (hs:(assignEach (e :: es) X.env).map (·.2)=assign e X.env :: (assignEach es X.env).map (·.2):=by rfl):PGs X (e :: es) (gCons t u):=by
  intro pins s σ H vs us Q I r h
  obtain ⟨v,vr,e1,h⟩:=h
  subst e1
  cases r with
  | cons r rr =>
    rw [hs]
    refine assignInOrder_cons (thn (h1 pins s σ H _ _ _ I r h) fun _ s1 ⟨σ1,H1,I1,q1⟩=>?_)
    exact h2 pins s1 σ1 H1 _ _ Q I1 rr q1
noncomputable def gTup (K:PySem.W.Frag) (n:Nat) (t:TGs):TG:=fun v σ H Q=>∃ a xs,v=.ref a∧SqT K H a xs∧xs.length=n∧t xs σ H Q
theorem pg_tup {es:List Expr} {k:Nat} {t:TGs} {n:Nat} (hc:X.calm=true) (h:PGs X es t)
    (hn:(assignEach es X.env).length=n:=by rfl) (hst:(assignEach es X.env).findIdx? (·.1)=none:=by rfl):PG X (.Tuple es k pos) (gTup X.K n t):=by
  intro pins s σ H v u Q I r hw
  obtain ⟨a,xs,e1,hq,hl,hw⟩:=hw
  subst e1
  cases r
  obtain ⟨its,rv,ht,hz⟩:=I.tuple hq
  refine assign_Tuple_tuple (I.ok.hd hc) ht (by simp [hn,← hl,rv.length]) hst fun h' hx=>?_
  have I1:Inv X pins σ H { s with heap:=h' }:=I.kept (t':=s.toks) fun b o e=>hx b o (Nat.ne_of_lt (Heap.lt_size e)) e
  exact h pins _ σ H xs _ Q I1 (by simpa using rv) hw
noncomputable def gSub (to ti:TE) (t:TSet):TG:=fun v σ H Q=>to σ H fun o H1=>ti σ H1 fun i H2=>t o i v H2 fun H3=>Q σ H3
theorem pg_sub {o i:Expr} {to ti:TE} {t:TSet} (ho:PE X o to) (hi:PE X i ti) (hs:PSet X t)
    (ha:∀ v,assign (.Subscript o i pos) X.env v=(do
      let ov ← holding [v] (eval o X.env)
      let iv ← holding [v,ov] (eval i X.env)
      standAt pos
      holding [v,ov,iv] (setItem ov iv v)
      release [v,ov,iv] []):=by intro _; rfl):PG X (.Subscript o i pos) (gSub to ti t):=by
  intro pins s σ H v u Q I r h
  rw [ha]
  refine wpAny_bind (wpAny_holding (thn (ho pins s σ H _ I h) fun ov s1 ⟨x,H1,I1,r1,q1⟩=>?_))
  refine wpAny_bind (wpAny_holding (thn (hi pins s1 σ H1 _ I1 q1) fun iv s2 ⟨y,H2,I2,r2,q2⟩=>?_))
  refine wpAny_bind (wpAny_standAt (wpAny_bind (wpAny_holding (thn (hs pins s2 σ H2 x y v ov iv u _ I2 r1 r2 r q2) fun _ s3 ⟨H3,I3,q3⟩=>?_))))
  exact wpAny_release ⟨σ,H3,I3,q3⟩
noncomputable def tAsg (te:TE) (g:TG):TS:=fun D σ H=>te σ H fun x H1=>g x σ H1 D.nx
theorem ps_asg {tg e:Expr} {te:TE} {g:TG} (he:PE X e te) (hg:PG X tg g) (hs:swapsWithSole [tg] e pos.line X.env=pure false:=by rfl) (hw:swappedStores [tg] e X.env=pure none:=by rfl)
    (h1:(assignEach [tg] X.env).map (·.2)=[assign tg X.env]:=by rfl):PS X (.Assign [tg] e pos) (tAsg te g):=by
  intro pins s σ H D I h
  refine wpAny_Assign_stores (thn (he pins s σ H _ I h) fun v s1 ⟨x,H1,I1,r1,q1⟩=>?_) hs hw
  rw [h1]
  exact thn (hg pins s1 σ H1 x v _ I1 r1 q1) fun _ s2 q=>q
theorem ps_set {i:Nat} {x:Str} {e:Expr} {te:TE} {pos':Pos} (hN:X.N.Nodup) (hi:X.N[i]? = some x) (hx:Loc X.env.scope x) (he:PE X e te) (hs:swapsWith e (some (.Name x pos')) pos.line X.env=pure false:=by rfl) (hf:X.fn x=true∨X.env.scope.names.lookup x=some .local:=by first | exact .inl rfl | exact .inr rfl | assumption) :
    PS X (.Assign [.Name x pos'] e pos) (tAsg te (gName i)):=by
  intro pins s σ H D I h
  refine wpAny_Assign_Name (thn (he pins s σ H _ I h) fun v s1 ⟨y,H1,I1,r1,q1⟩=>?_) hs
  exact store_ok I1 hN hi hx r1 (fun s2 I2=>⟨_,H1,I2,q1⟩) hf
end
section
variable {X:Cx} {pos:Pos}
end
structure It where
  go:Nat→Hp→Prop
  yld:Nat→Hp→V→Hp→Prop
  stop:Nat→Hp→Prop
noncomputable def FpOk (X:Cx) (pins:List (Addr×Obj)) (H:Hp) (b:Addr):Prop :=
  H b=none∧b≠X.env.locals∧b∉X.fs∧(b∈X.ex∨X.s₀.heap.objs.size≤b)∧(∀ x c,X.env.cells.lookup x=some c→c≠b)∧∀ p∈X.pn ++ pins,p.1≠b
theorem Inv.fpOk {X:Cx} {pins:List (Addr×Obj)} {σ:St} {H H':Hp} {s:Shared} {b:Addr} (I:Inv X pins σ H s) (hb:s.heap.objs.size≤b) (hn:H' b=none):FpOk X pins H' b:=by
  refine ⟨hn,Nat.ne_of_gt (Nat.lt_of_lt_of_le I.lt hb),I.nofs hb,.inr (Nat.le_trans I.sz hb),fun x c e z=>?_,fun p hp z=>?_⟩
  · obtain ⟨v,q⟩:=I.cell x c e
    exact absurd (Nat.lt_of_lt_of_le q.lt (by rw [z]; exact hb)) (Nat.lt_irrefl _)
  · exact absurd (Nat.lt_of_lt_of_le (Heap.lt_size (I.pin p hp).1) (by rw [z]; exact hb)) (Nat.lt_irrefl _)
structure Turn (P:Program) (w:World) (K:PySem.W.Frag) (tg:Expr) (J:It) (fp:List Addr) (it:Addr) (tn:Nat→Heap→Prop):Prop where
  mem:it∈fp
  obj:∀ i h,tn i h→∀ b∈fp,∃ o,h.get? b=some o∧∀ v,o.data≠.cell v
  keep:∀ i h h',tn i h→(∀ b∈fp,∀ o,h.get? b=some o→h'.get? b=some o)→tn i h'
  item:∀ (X:Cx),X.prog=P→X.w=w→X.K=K→X.calm=true→∀ (i:Nat) (pins:List (Addr×Obj)) (s:Shared) (σ:St) (H:Hp) (E:Value→Shared→Prop),Inv X pins σ H s→(∀ b∈fp,FpOk X pins H b)→tn i s.heap→J.go i H →
    wpAny (model P w) X.A (pyNext (.ref it)) (fun r s1=>∃ u,r=some u ∧
      wpAny (model P w) X.A (letOwnedTupleGo tg (.ref it) u) (fun _ s2=>∃ x H',Inv X pins σ H' s2∧RelV x u∧J.yld i H x H'∧tn (i + 1) s2.heap∧∀ b∈fp,H' b=none) E s1) E s
  done:∀ (X:Cx),X.prog=P→X.w=w→X.K=K→X.calm=true→∀ (i:Nat) (pins:List (Addr×Obj)) (s:Shared) (σ:St) (H:Hp) (E:Value→Shared→Prop),Inv X pins σ H s→(∀ b∈fp,FpOk X pins H b)→tn i s.heap→J.stop i H →
    wpAny (model P w) X.A (pyNext (.ref it)) (fun r s1=>r=none∧Inv X pins σ H s1) E s
  self:∀ (A:Around) (i:Nat) (s:Shared) (Q:Value→Shared→Prop) (E:Value→Shared→Prop),tn i s.heap→Q (.ref it) s→wpAny (model P w) A (pyIter (.ref it)) Q E s
noncomputable abbrev TI:=St→Hp→(It→Hp→Prop)→Prop
noncomputable def PIE (X:Cx) (pins:List (Addr×Obj)) (σ:St) (tg:Expr) (R:It→Hp→Prop) (itv:Value) (s2:Shared):Prop :=
  ∃ (it:Addr) (fp:List Addr) (tn:Nat→Heap→Prop) (J:It) (H':Hp),itv=.ref it∧Inv X pins σ H' s2∧Turn X.prog X.w X.K tg J fp it tn∧tn 0 s2.heap∧(∀ b∈fp,FpOk X pins H' b)∧R J H'
noncomputable def PI (X:Cx) (tg iter:Expr) (wi:TI):Prop :=
  ∀ (pins:List (Addr×Obj)) (s:Shared) (σ:St) (H:Hp) (R:It→Hp→Prop),Inv X pins σ H s→wi σ H R →
    wpAny (model X.prog X.w) X.A (eval iter X.env) (fun v s1=>wpAny (model X.prog X.w) X.A (pyIter v) (PIE X pins σ tg R) X.xe s1) X.xe s
theorem go_of {M:Model} {A:Around} {E:Value→Shared→Prop} {s:Shared} {tg:Expr} {it:Addr} {u:Value} {o:Obj} {n:String} {vs:Array Value} {Q:Unit→Shared→Prop} (ho:s.heap.get? it=some o) (hc:o.cls=.type n) (hd:o.data=.fields vs)
    (hn:["enumerate","zip","dict_itemiterator","dict_reverseitemiterator","odict_iterator","itertools.zip_longest","itertools.pairwise"].contains n=false) (hQ:Q () s):wpAny M A (letOwnedTupleGo tg (.ref it) u) Q E s:=by
  unfold letOwnedTupleGo
  cases tg <;> first
    | exact wpAny_pure hQ
    | (cases u <;> first
        | exact wpAny_pure hQ
        | (refine wpAny_bind (wpAny_load ho ?_)
           rw [hc,hd]
           show wpAny M A (if (["enumerate","zip","dict_itemiterator","dict_reverseitemiterator","odict_iterator","itertools.zip_longest","itertools.pairwise"].contains n && vs[0]? == some (rawInt _))=true then _ else _) Q E s
           rw [if_neg (by intro h; rw [hn,Bool.false_and] at h; cases h)]
           exact wpAny_pure hQ))
noncomputable def Itl (K:PySem.W.Frag) (a:Addr):It :=
  ⟨fun i H=>∃ xs x,SqL K H a xs∧xs[i]? = some x,fun i H x H'=>H'=H∧∀ xs,SqL K H a xs→xs[i]? = some x,fun i H=>∃ xs,SqL K H a xs∧xs.length≤i⟩
noncomputable def Itt (K:PySem.W.Frag) (a:Addr):It :=
  ⟨fun i H=>∃ xs x,SqT K H a xs∧xs[i]? = some x,fun i H x H'=>H'=H∧∀ xs,SqT K H a xs→xs[i]? = some x,fun i H=>∃ xs,SqT K H a xs∧xs.length≤i⟩
noncomputable def Itr (lo:Int) (n:Nat):It:=⟨fun i _=>i < n,fun i H x H'=>H'=H∧x=.int (lo + i),fun i _=>n≤i⟩
theorem turn_list {P:Program} {w:World} {K:PySem.W.Frag} {tg:Expr} (a it:Addr):Turn P w K tg (Itl K a) [it] it (fun i h=>h.IsListIter it a i) where
  mem:=by simp
  obj:=fun i h st b hb=>by
    have e:b=it:=by simpa using hb
    subst e
    obtain ⟨o,e,c,d⟩:=st
    exact ⟨o,e,fun v z=>by rw [d] at z; cases z⟩
  keep:=fun i h h' st k=>st.at fun o e=>k it (by simp) o e
  item:=by
    intro X hP hw hK hc i pins s σ H E I hf st hg
    subst hP hw hK
    obtain ⟨xs,x,hq,hx⟩:=hg
    obtain ⟨its,rv,p,hz⟩:=I.list hq
    obtain ⟨u,hu,ru⟩:=rv.get hx
    obtain ⟨f0,f1,f2,f3,f4,f5⟩:=hf it (by simp)
    refine wpAny_pyNext_list_item st p.isList (x:=u) (by simpa using hu) fun h' st' sb=>?_
    have I1:Inv X pins σ H { s with heap:=h' }:=I.turned (t':=s.toks) (fun b o hb e=>(sb.2 b hb).trans e) f0 f1 f3 f4 f5
    obtain ⟨o,e,c,d⟩:=id st'
    exact ⟨u,rfl,go_of (s:={ s with heap:=h' }) e c d (by decide) ⟨x,H,I1,ru,⟨rfl,fun ys hy=>by rw [I.list_inj hy hq]; exact hx⟩,st',fun b hb=>(hf b hb).1⟩⟩
  done:=by
    intro X hP hw hK hc i pins s σ H E I hf st hg
    subst hP hw hK
    obtain ⟨xs,hq,hx⟩:=hg
    obtain ⟨its,rv,p,hz⟩:=I.list hq
    obtain ⟨f0,f1,f2,f3,f4,f5⟩:=hf it (by simp)
    have hl:=rv.length
    exact wpAny_pyNext_list_end (I.ok.hd hc) st p.isList (by simp; omega) fun h' eb=>⟨rfl,I.turned (t':=s.toks) (fun b o hb e=>eb b o hb e) f0 f1 f3 f4 f5⟩
  self:=fun _ _ _ _ _ st h=>wpAny_pyIter_listiter st h
theorem turn_tuple {P:Program} {w:World} {K:PySem.W.Frag} {tg:Expr} (a it:Addr):Turn P w K tg (Itt K a) [it] it (fun i h=>h.IsTupleIter it a i) where
  mem:=by simp
  obj:=fun i h st b hb=>by
    have e:b=it:=by simpa using hb
    subst e
    obtain ⟨o,e,c,d⟩:=st
    exact ⟨o,e,fun v z=>by rw [d] at z; cases z⟩
  keep:=fun i h h' st k=>st.at fun o e=>k it (by simp) o e
  item:=by
    intro X hP hw hK hc i pins s σ H E I hf st hg
    subst hP hw hK
    obtain ⟨xs,x,hq,hx⟩:=hg
    obtain ⟨its,rv,p,hz⟩:=I.tuple hq
    obtain ⟨u,hu,ru⟩:=rv.get hx
    obtain ⟨f0,f1,f2,f3,f4,f5⟩:=hf it (by simp)
    refine wpAny_pyNext_tuple_item st (show s.heap.IsTuple a its.toArray from p) (x:=u) (by simpa using hu) fun h' st' sb=>?_
    have I1:Inv X pins σ H { s with heap:=h' }:=I.turned (t':=s.toks) (fun b o hb e=>(sb.2 b hb).trans e) f0 f1 f3 f4 f5
    obtain ⟨o,e,c,d⟩:=id st'
    exact ⟨u,rfl,go_of (s:={ s with heap:=h' }) e c d (by decide) ⟨x,H,I1,ru,⟨rfl,fun ys hy=>by rw [I.tuple_inj hy hq]; exact hx⟩,st',fun b hb=>(hf b hb).1⟩⟩
  done:=by
    intro X hP hw hK hc i pins s σ H E I hf st hg
    subst hP hw hK
    obtain ⟨xs,hq,hx⟩:=hg
    obtain ⟨its,rv,p,hz⟩:=I.tuple hq
    obtain ⟨f0,f1,f2,f3,f4,f5⟩:=hf it (by simp)
    have hl:=rv.length
    exact wpAny_pyNext_tuple_end (I.ok.hd hc) st (show s.heap.IsTuple a its.toArray from p) (by simp; omega) fun h' eb=>⟨rfl,I.turned (t':=s.toks) (fun b o hb e=>eb b o hb e) f0 f1 f3 f4 f5⟩
  self:=fun _ _ _ _ _ st h=>wpAny_pyIter_tupleiter st h
theorem turn_range {P:Program} {w:World} {K:PySem.W.Frag} {tg:Expr} (it:Addr) (lo:Int) (n:Nat):Turn P w K tg (Itr lo n) [it] it (fun i h=>IsRangeIter h it (lo + (i:Nat) * 1) ((n:Int) - (i:Nat)) 1) where
  mem:=by simp
  obj:=fun i h st b hb=>by
    have e:b=it:=by simpa using hb
    subst e
    exact ⟨_,st,fun v z=>by
      have z':Data.fields _=Data.cell v:=z
      cases z'⟩
  keep:=fun i h h' st k=>k it (by simp) _ st
  item:=by
    intro X hP hw hK hc i pins s σ H E I hf st hg
    subst hP hw hK
    obtain ⟨f0,f1,f2,f3,f4,f5⟩:=hf it (by simp)
    have W:=Walks.range (prog:=X.prog) (w:=X.w) (I.ok.hd hc) it lo 1 n
    refine W.item i s _ _ hg st fun v h' tk hv st' kk=>?_
    obtain ⟨t,rfl⟩:=hv
    have I1:Inv X pins σ H { s with heap:=h',toks:=tk }:=I.turned (fun b o hb e=>kk b o (by simpa using hb) e) f0 f1 f3 f4 f5
    refine ⟨_,rfl,go_of (s:={ s with heap:=h',toks:=tk }) (n:="range_iterator") st' rfl rfl (by decide) ⟨.int (lo + i),H,I1,⟨t,?_⟩,⟨rfl,rfl⟩,st',fun b hb=>(hf b hb).1⟩⟩
    rw [Int.mul_one]
  done:=by
    intro X hP hw hK hc i pins s σ H E I hf st hg
    subst hP hw hK
    obtain ⟨f0,f1,f2,f3,f4,f5⟩:=hf it (by simp)
    exact wpAny_pyNext_range_end (I.ok.hd hc) st (by have:n≤i:=hg; omega) fun h' eb=>⟨rfl,I.turned (t':=s.toks) (fun b o hb e=>eb b o hb e) f0 f1 f3 f4 f5⟩
  self:=fun _ _ _ _ _ st h=>wpAny_pyIter_rangeiter st h
end L2
namespace L2
open PySem PySem.Spec PyProof.Rows
section
variable {X:Cx} {tg:Expr}
noncomputable def iList (K:PySem.W.Frag) (tl:TE):TI:=fun σ H R=>tl σ H fun x H1=>∃ a,x=.ref a∧(∃ xs,SqL K H1 a xs)∧R (Itl K a) H1
noncomputable def iTup (K:PySem.W.Frag) (tl:TE):TI:=fun σ H R=>tl σ H fun x H1=>∃ a,x=.ref a∧(∃ xs,SqT K H1 a xs)∧R (Itt K a) H1
theorem pi_list {l:Expr} {tl:TE} (hl:PE X l tl):PI X tg l (iList X.K tl):=by
  intro pins s σ H R I h
  refine thn (hl pins s σ H _ I h) fun v s1 ⟨x,H1,I1,r1,q1⟩=>?_
  obtain ⟨a,e,⟨xs,hq⟩,q⟩:=q1
  subst e
  cases r1
  obtain ⟨its,rv,p,hz⟩:=I1.list hq
  refine wpAny_pyIter_list p.isList ?_
  refine ⟨s1.heap.objs.size,[s1.heap.objs.size],_,_,H1,rfl,I1.kept (t':=s1.toks) fun b o e=>Heap.get?_push_of_some _ e,turn_list a _,⟨_,Heap.get?_push_size _ rfl,rfl,rfl⟩,fun b hb=>?_,q⟩
  have e:b=s1.heap.objs.size:=by simpa using hb
  subst e
  exact I1.fpOk (Nat.le_refl _) (I1.hok.fresh (Nat.le_refl _))
theorem pi_tup {l:Expr} {tl:TE} (hl:PE X l tl):PI X tg l (iTup X.K tl):=by
  intro pins s σ H R I h
  refine thn (hl pins s σ H _ I h) fun v s1 ⟨x,H1,I1,r1,q1⟩=>?_
  obtain ⟨a,e,⟨xs,hq⟩,q⟩:=q1
  subst e
  cases r1
  obtain ⟨its,rv,p,hz⟩:=I1.tuple hq
  refine wpAny_pyIter_tuple (show s1.heap.IsTuple a its.toArray from p) ?_
  refine ⟨s1.heap.objs.size,[s1.heap.objs.size],_,_,H1,rfl,I1.kept (t':=s1.toks) fun b o e=>Heap.get?_push_of_some _ e,turn_tuple a _,⟨_,Heap.get?_push_size _ rfl,rfl,rfl⟩,fun b hb=>?_,q⟩
  have e:b=s1.heap.objs.size:=by simpa using hb
  subst e
  exact I1.fpOk (Nat.le_refl _) (I1.hok.fresh (Nat.le_refl _))
theorem range_it {pins:List (Addr×Obj)} {σ:St} {H:Hp} {s:Shared} {R:It→Hp→Prop} {E:Value→Shared→Prop} {lo hi:Int} {t u v:Tok} {tk:Nat} (I:Inv X pins σ H s) (h1:-(2 ^ 62)≤lo) (h2:lo < 2 ^ 62) (h3:-(2 ^ 62)≤hi) (h4:hi < 2 ^ 62)
    (q:R (Itr lo (hi - lo).toNat) H):wpAny (model X.prog X.w) X.A (pyIter (.ref s.heap.objs.size)) (PIE X pins σ tg R) E { s with heap:=s.heap.push { cls:=.type "range",data:=.fields #[.int lo t,.int hi u,.int 1 v] },toks:=tk }:=by
  refine wpAny_pyIter_range (IsRange.new ..) (small_one h1 h2 h3 h4) ?_
  have I1:Inv X pins σ H { s with heap:=s.heap.push { cls:=.type "range",data:=.fields #[.int lo t,.int hi u,.int 1 v] },toks:=tk }:=I.kept fun b o e=>Heap.get?_push_of_some _ e
  refine ⟨(s.heap.push { cls:=.type "range",data:=.fields #[.int lo t,.int hi u,.int 1 v] }).objs.size,[(s.heap.push { cls:=.type "range",data:=.fields #[.int lo t,.int hi u,.int 1 v] }).objs.size],_,_,H,rfl,
    I1.kept (t':=tk) fun b o e=>Heap.get?_push_of_some _ e,turn_range _ lo (hi - lo).toNat,?_,fun b hb=>?_,q⟩
  · have e1:lo + ((0:Nat):Int) * 1=lo:=by simp
    have e2:(((hi - lo).toNat:Nat):Int) - ((0:Nat):Int)=Builtin.Range.rangeSize lo hi 1:=by rw [rangeSize_one]; split <;> omega
    show IsRangeIter _ _ (lo + ((0:Nat):Int) * 1) ((((hi - lo).toNat:Nat):Int) - ((0:Nat):Int)) 1
    rw [e1,e2]
    exact Heap.get?_push_size _ rfl
  · have e:b=(s.heap.push { cls:=.type "range",data:=.fields #[.int lo t,.int hi u,.int 1 v] }).objs.size:=by simpa using hb
    subst e
    exact I1.fpOk (Nat.le_refl _) (I1.hok.fresh (Nat.le_refl _))
noncomputable def iRng1 (ta:TA):TI:=fun σ H R=>ta σ H fun vs H1=>∃ j:Int,vs=[.int j]∧-(2 ^ 62)≤j∧j < 2 ^ 62∧R (Itr 0 j.toNat) H1
theorem pi_range1 {a:Expr} {ta:TA} {p pos:Pos} (hg:Gl X "range") (hm:X.mg "range"=none) (ha:PA X [a] ta) (hs:starEach [a] X.env=[(false,eval a X.env)]:=by rfl):PI X tg (.Call (.Name "range" p) [a] [] pos) (iRng1 ta):=by
  intro pins s σ H R I h
  refine Call_ (ld_blt I hg hm boot_range (PyProof.Rows.callWith_type1 (thn (ha pos pins s σ H _ I h) fun us s1 ⟨vs,H1,I1,r1,q1⟩=>?_) hs rfl))
  obtain ⟨j,e,q1,q2,q⟩:=q1
  subst e
  cases r1 with
  | cons r rr =>
    cases rr
    obtain ⟨t,rfl⟩:=r
    exact call_range_1 (range_it I1 (by omega) (by omega) q1 q2 (by simpa using q))
noncomputable def tFor (wi:TI) (g:TG) (tb:TS):TS:=fun D σ H=>wi σ H fun J H1=>∃ W:Nat→Nat→St→Hp→Prop,(∃ m,W 0 m σ H1)∧∀ i m σ H,W i m σ H →
  (J.stop i H∧D.nx σ H)∨(J.go i H∧∃ N:St→Hp→Prop,(∀ σ' H',N σ' H'→∃ m',m' < m∧W (i + 1) m' σ' H')∧∀ x H',J.yld i H x H'→g x σ H' fun σ2 H2=>tb { D with nx:=N,ct:=N,bk:=D.nx } σ2 H2)
noncomputable def pinsAt (fp:List Addr) (h:Heap):List (Addr×Obj):=fp.filterMap fun b=>(h.get? b).map fun o=>(b,o)
theorem mem_pinsAt {fp:List Addr} {h:Heap} {b:Addr} {o:Obj} (hb:b∈fp) (e:h.get? b=some o):(b,o)∈pinsAt fp h:=List.mem_filterMap.mpr ⟨b,hb,by rw [e]; rfl⟩
theorem of_pinsAt {fp:List Addr} {h:Heap} {p:Addr×Obj} (hp:p∈pinsAt fp h):p.1∈fp∧h.get? p.1=some p.2:=by
  obtain ⟨b,hb,e⟩:=List.mem_filterMap.mp hp
  cases q:h.get? b with
  | none=>rw [q] at e; cases e
  | some o =>
    rw [q] at e
    have e':(b,o)=p:=Option.some.inj e
    subst e'
    exact ⟨hb,q⟩
theorem Inv.pinned {pins:List (Addr×Obj)} {σ:St} {H:Hp} {s:Shared} {fp:List Addr} (I:Inv X pins σ H s) (hf:∀ b∈fp,FpOk X pins H b) (ho:∀ b∈fp,∃ o,s.heap.get? b=some o∧∀ v,o.data≠.cell v):Inv X (pins ++ pinsAt fp s.heap) σ H s :=
  I.pins_of fun p hp=>(List.mem_append.mp hp).elim (fun z=>I.pin p (List.mem_append_right _ z)) fun z=>by
    obtain ⟨hb,e⟩:=of_pinsAt z
    obtain ⟨f0,f1,f2,_⟩:=hf p.1 hb
    obtain ⟨o,e',d⟩:=ho p.1 hb
    rw [e] at e'; cases e'
    exact ⟨e,f0,f1,f2,d⟩
theorem Inv.unpinned {pins pl:List (Addr×Obj)} {σ:St} {H:Hp} {s:Shared} (I:Inv X (pins ++ pl) σ H s):Inv X pins σ H s:=I.pins_of fun p hp=>I.pin p (List.mem_append_right _ (List.mem_append_left _ hp))
theorem ps_for {iter:Expr} {body:List Stmt} {wi:TI} {g:TG} {tb:TS} {pos:Pos} (hp:PassesOwn (model X.prog X.w) X.A X.env X.xe) (hc:X.calm=true) (hi:PI X tg iter wi) (hg:PG X tg g) (hb:PSs X body tb)
    (hs:∀ x,foldedSetIterable iter X.env x=pure x:=by intro _; rfl):PS X (.For tg iter body [] pos) (tFor wi g tb):=by
  intro pins s σ H D I h
  refine wpAny_For (thn (hi pins s σ H _ I h) fun v s1 h1=>thn h1 fun itv s2 h2=>?_) hs
  obtain ⟨it,fp,tn,J,H2,e,I2,T,st2,f2,W,⟨m0,w0⟩,turn⟩:=h2
  subst e
  -- what stays true of the iterator's objects through the loop
  have stat:∀ {H':Hp},(∀ b∈fp,H' b=none)→∀ b∈fp,FpOk X pins H' b:=fun hn b hb=>⟨hn b hb,(f2 b hb).2⟩
  refine codeAny_forLoop_any (fun n s'=>∃ i σ' H',Inv X pins σ' H' s'∧tn i s'.heap∧(∀ b∈fp,H' b=none)∧W i n σ' H') ?_ m0 ⟨0,σ,H2,I2,st2,fun b hb=>(f2 b hb).1,w0⟩
  rintro n s3 ⟨i,σ3,H3,I3,st3,fr3,w3⟩
  rcases turn i n σ3 H3 w3 with ⟨stop,qn⟩ | ⟨go,N,hN,step⟩
  · refine wpAny_passesOwn hp (thn (T.done X rfl rfl rfl hc i pins s3 σ3 H3 X.xe I3 (stat fr3) st3 stop) fun r s4 ⟨hr,I4⟩=>?_)
    subst hr
    exact wpAny_execs_nil ⟨σ3,H3,I4,qn⟩
  · refine wpAny_passesOwn hp (thn (T.item X rfl rfl rfl hc i pins s3 σ3 H3 X.xe I3 (stat fr3) st3 go) fun r s4 ⟨u,hr,h4⟩=>?_)
    subst hr
    refine wpAny_passesOwn hp (thn h4 fun _ s5 ⟨x,H5,I5,r5,y5,st5,fr5⟩=>?_)
    have I5':=I5.pinned (stat fr5) (T.obj _ _ st5)
    refine wpAny_passesOwn hp (thn (hg _ s5 σ3 H5 x u _ I5' r5 (step x H5 y5)) fun _ s6 ⟨σ6,H6,I6,q6⟩=>?_)
    refine wpAny_passesOwn hp (thn (hb _ s6 σ6 H6 _ I6 q6) fun f s7 q7=>?_)
    have again:∀ {σ7:St} {H7:Hp},Inv X (pins ++ pinsAt fp s5.heap) σ7 H7 s7→N σ7 H7→∃ m,m < n∧∃ i σ' H',Inv X pins σ' H' s7∧tn i s7.heap∧(∀ b∈fp,H' b=none)∧W i m σ' H':=fun {σ7 H7} I7 n7=>by
      obtain ⟨m',hm,w7⟩:=hN σ7 H7 n7
      refine ⟨m',hm,i + 1,σ7,H7,I7.unpinned,T.keep _ _ _ st5 fun b hb o e=>(I7.pin (b,o) (List.mem_append_right _ (List.mem_append_right _ (mem_pinsAt hb e)))).1,fun b hb=>?_,w7⟩
      obtain ⟨o,e,d⟩:=T.obj _ _ st5 b hb
      exact (I7.pin (b,o) (List.mem_append_right _ (List.mem_append_right _ (mem_pinsAt hb e)))).2.1
    cases f with
    | next=>obtain ⟨σ7,H7,I7,n7⟩:=q7; exact again I7 n7
    | cont=>obtain ⟨σ7,H7,I7,n7⟩:=q7; exact again I7 n7
    | brk=>obtain ⟨σ7,H7,I7,q7⟩:=q7; exact ⟨σ7,H7,I7.unpinned,q7⟩
    | ret v=>obtain ⟨x7,σ7,H7,I7,r7,q7⟩:=q7; exact ⟨x7,σ7,H7,I7.unpinned,r7,q7⟩
end
end L2
namespace L2
open PySem PySem.Spec PyProof.Rows
noncomputable abbrev R2:=V→V→Hp→VK→Prop
noncomputable def OpR (X:Cx) (f:Value→Value→Sem Value) (r:R2):Prop :=
  ∀ (pins:List (Addr×Obj)) (s:Shared) (σ:St) (H:Hp) (x y:V) (v u:Value) (Q:VK),Inv X pins σ H s→RelV x v→RelV y u→r x y H Q →
    wpAny (model X.prog X.w) X.A (f v u) (EP X pins σ Q) X.xe s
noncomputable def CallR (X:Cx) (f:Value) (r:List V→Hp→VK→Prop):Prop :=
  ∀ (pins:List (Addr×Obj)) (s:Shared) (σ:St) (H:Hp) (xs:List V) (us:List Value) (Q:VK),Inv X pins σ H s→Vals xs us→r xs H Q →
    wpAny (model X.prog X.w) X.A (call f us) (EP X pins σ Q) X.xe s
noncomputable def TruR (X:Cx) (r:V→Hp→(Bool→Hp→Prop)→Prop):Prop :=
  ∀ (pins:List (Addr×Obj)) (s:Shared) (σ:St) (H:Hp) (x:V) (v:Value) (Q:Bool→Hp→Prop),Inv X pins σ H s→RelV x v→r x H Q →
    wpAny (model X.prog X.w) X.A (truthy v) (TP X pins σ Q) X.xe s
noncomputable def tOp (r:R2) (ta tb:TE):TE:=fun σ H Q=>ta σ H fun x H1=>tb σ H1 fun y H2=>r x y H2 Q
noncomputable def rI (C:Int→Int→Prop) (g:Int→Int→V):R2:=fun x y H Q=>∃ i j,x=.int i∧y=.int j∧C i j∧Q (g i j) H
noncomputable def rI0 (g:Int→Int→V):R2:=fun x y H Q=>∃ i j,x=.int i∧y=.int j∧Q (g i j) H
section
variable {X:Cx} {a b c:Expr} {ta tb tc:TE} {pos:Pos}
theorem binT (ha:PE X a ta) (hb:PE X b tb) {pins:List (Addr×Obj)} {s:Shared} {σ:St} {H:Hp} {R:V→V→Hp→Prop} (I:Inv X pins σ H s)
    (h:ta σ H fun x H1=>tb σ H1 fun y H2=>R x y H2) {Q:Value→Shared→Prop} {f:Value→Value→Sem Value}
    (hf:∀ v u s2 x y H2,Inv X pins σ H2 s2→RelV x v→RelV y u→R x y H2→wpAny (model X.prog X.w) X.A (f v u) Q X.xe s2) :
    wpAny (model X.prog X.w) X.A (eval a X.env) (fun v s₁=>wpAny (model X.prog X.w) X.A (eval b X.env) (fun u s₂=>wpAny (model X.prog X.w) X.A (f v u) Q X.xe s₂) X.xe s₁) X.xe s:=by
  refine thn (ha pins s σ H _ I h) fun v s1 ⟨x,H1,I1,r1,q1⟩=>?_
  refine thn (hb pins s1 σ H1 _ I1 q1) fun u s2 ⟨y,H2,I2,r2,q2⟩=>?_
  exact hf v u s2 x y H2 I2 r1 r2 q2
theorem pe_op {op:Operator} {r:R2} (ho:OpR X (binaryOp op) r) (ha:PE X a ta) (hb:PE X b tb):PE X (.BinOp a op b pos) (tOp r ta tb):=by
  intro pins s σ H Q I h
  exact wpAny_BinOp (binT ha hb I h fun v u s2 x y H2 I2 rx ry q=>ho pins s2 σ H2 x y v u Q I2 rx ry q)
theorem opI {f:Value→Value→Sem Value} {C:Int→Int→Prop} {g:Int→Int→Int}
    (rule:∀ (i j:Int) (t u:Tok) (s:Shared) (Q:Value→Shared→Prop) (E:Value→Shared→Prop),C i j→Q (.int (g i j) s.toks) { s with toks:=s.toks + 1 }→wpAny (model X.prog X.w) X.A (f (.int i t) (.int j u)) Q E s) :
    OpR X f (rI C fun i j=>.int (g i j)):=by
  intro pins s σ H x y v u Q I rx ry h
  obtain ⟨i,j,rfl,rfl,hc,q⟩:=h
  obtain ⟨t,rfl⟩:=rx
  obtain ⟨t',rfl⟩:=ry
  exact rule i j t t' s _ _ hc ⟨.int (g i j),H,I.tok _,⟨_,rfl⟩,q⟩
theorem opI0 {f:Value→Value→Sem Value} {g:Int→Int→Int}
    (rule:∀ (i j:Int) (t u:Tok) (s:Shared) (Q:Value→Shared→Prop) (E:Value→Shared→Prop),Q (.int (g i j) s.toks) { s with toks:=s.toks + 1 }→wpAny (model X.prog X.w) X.A (f (.int i t) (.int j u)) Q E s) :
    OpR X f (rI0 fun i j=>.int (g i j)):=by
  intro pins s σ H x y v u Q I rx ry h
  obtain ⟨i,j,rfl,rfl,q⟩:=h
  obtain ⟨t,rfl⟩:=rx
  obtain ⟨t',rfl⟩:=ry
  exact rule i j t t' s _ _ ⟨.int (g i j),H,I.tok _,⟨_,rfl⟩,q⟩
theorem opB0 {f:Value→Value→Sem Value} {g:Int→Int→Bool}
    (rule:∀ (i j:Int) (t u:Tok) (s:Shared) (Q:Value→Shared→Prop) (E:Value→Shared→Prop),Q (.bool (g i j)) s→wpAny (model X.prog X.w) X.A (f (.int i t) (.int j u)) Q E s) :
    OpR X f (rI0 fun i j=>.bl (g i j)):=by
  intro pins s σ H x y v u Q I rx ry h
  obtain ⟨i,j,rfl,rfl,q⟩:=h
  obtain ⟨t,rfl⟩:=rx
  obtain ⟨t',rfl⟩:=ry
  exact rule i j t t' s _ _ ⟨.bl (g i j),H,I,rfl,q⟩
noncomputable def CDiv (i j:Int):Prop:=0 < j∧j < 1073741824
noncomputable def CPow (i j:Int):Prop:=0≤j∧j≤1000000∧i.natAbs < 2 ^ 64
noncomputable def CMul (i j:Int):Prop:=(-(2 ^ 64) < i∧i < 2 ^ 64)∨(-(2 ^ 64) < j∧j < 2 ^ 64)
theorem CMul.ok {i j:Int} (h:CMul i j):IntMulOk i j:=by
  rcases h with ⟨h1,h2⟩ | ⟨h1,h2⟩
  · exact .of_left (intBits_le_64 h1 h2)
  · exact .of_right (intBits_le_64 h1 h2)
theorem op_add:OpR X (binaryOp .Add) (rI0 fun i j=>.int (i + j)):=opI0 fun _ _ _ _ _ _ _ q=>add_int q
theorem op_sub:OpR X (binaryOp .Sub) (rI0 fun i j=>.int (i - j)):=opI0 fun _ _ _ _ _ _ _ q=>sub_int q
theorem op_mul:OpR X (binaryOp .Mult) (rI CMul fun i j=>.int (i * j)):=opI fun _ _ _ _ _ _ _ hc q=>mul_int q hc.ok
theorem op_fdiv:OpR X (binaryOp .FloorDiv) (rI CDiv fun i j=>.int (i / j)):=opI fun i j _ _ _ _ _ hc q=>by
  have h1:(0:Int) < j:=hc.1
  have h2:j < 1073741824:=hc.2
  exact floordiv_int (by omega) (by rw [Int.fdiv_eq_ediv_of_nonneg i (by omega)]; exact q) (.inl (PyProof.noPylong_small (by omega)))
theorem op_mod:OpR X (binaryOp .Mod) (rI (fun _ j=>0 < j) fun i j=>.int (i % j)):=opI fun i j _ _ _ _ _ hc q=>by
  have h1:(0:Int) < j:=hc
  exact mod_int' (by omega) (by rw [Int.fmod_eq_emod_of_nonneg i (by omega)]; exact q)
theorem op_pow:OpR X (binaryOp .Pow) (rI CPow fun i j=>.int (i ^ j.toNat)):=opI fun _ _ _ _ _ _ _ hc q=>pow_int_small hc.1 hc.2.1 hc.2.2 q
theorem op_xor:OpR X (binaryOp .BitXor) (rI0 fun i j=>.int (Builtin.bitXor i j)):=opI0 fun _ _ _ _ _ _ _ q=>xor_int q
end
noncomputable def scal:V→V→Bool
  | .non,.non=>true | .non,.int _=>true | .int _,.non=>true | .non,.bl _=>true | .bl _,.non=>true | .non,.str _=>true | .str _,.non=>true
  | .int _,.int _=>true | .bl _,.bl _=>true | .str _,.str _=>true | .byt _,.byt _=>true
  | .int _,.str _=>true | .str _,.int _=>true | .bl _,.str _=>true | .str _,.bl _=>true
  | _,_=>false
noncomputable def rEq:R2:=fun x y H Q=>scal x y=true∧Q (.bl (decide (x=y))) H
noncomputable def rNe:R2:=fun x y H Q=>scal x y=true∧Q (.bl (!decide (x=y))) H
theorem dec_int {i j:Int}:decide (V.int i=V.int j)=(i == j):=by
  rw [Bool.eq_iff_iff]
  simp
theorem dec_bl {i j:Bool}:decide (V.bl i=V.bl j)=(i == j):=by
  rw [Bool.eq_iff_iff]
  simp
theorem dec_str {i j:Str}:decide (V.str i=V.str j)=(i == j):=by
  rw [Bool.eq_iff_iff]
  simp
theorem dec_byt {i j:Array UInt8}:decide (V.byt i=V.byt j)=(i.toList == j.toList):=by
  rw [Bool.eq_iff_iff]
  cases i
  cases j
  simp
section
variable {X:Cx} {a b c:Expr} {ta tb tc:TE} {pos:Pos}
theorem fin_bl {pins:List (Addr×Obj)} {σ:St} {H:Hp} {s:Shared} {Q:VK} {k k':Bool} (I:Inv X pins σ H s) (q:Q (.bl k) H) (e:k=k'):EP X pins σ Q (.bool k') s:=by
  subst e
  exact ⟨.bl k,H,I,rfl,q⟩
theorem op_eq:OpR X (compareOp .Eq) rEq:=by
  intro pins s σ H x y v u Q I rx ry h
  obtain ⟨hs,q⟩:=h
  cases x with
  | non =>
    cases rx
    cases y with
    | non=>cases ry; exact PySem.EqNone.eq_none_none (fin_bl I q (by simp))
    | bl j=>cases ry; exact PySem.EqNone.eq_none_bool (fin_bl I q (by simp))
    | int j=>obtain ⟨t',rfl⟩:=ry; exact PySem.EqNone.eq_none_int (fin_bl I q (by simp))
    | str j=>obtain ⟨t',rfl⟩:=ry; exact PySem.EqNone.eq_none_str (fin_bl I q (by simp))
    | _=>exact absurd (show false=true from hs) Bool.false_ne_true
  | bl i =>
    cases rx
    cases y with
    | non=>cases ry; exact PySem.EqNone.eq_bool_none (fin_bl I q (by simp))
    | bl j=>cases ry; exact eq_bool (fin_bl I q dec_bl)
    | str j=>obtain ⟨t',rfl⟩:=ry; exact PySem.EqMixed.eq_bool_str (fin_bl I q (by simp))
    | _=>exact absurd (show false=true from hs) Bool.false_ne_true
  | int i =>
    obtain ⟨t,rfl⟩:=rx
    cases y with
    | non=>cases ry; exact PySem.EqNone.eq_int_none (fin_bl I q (by simp))
    | int j=>obtain ⟨t',rfl⟩:=ry; exact eq_int (fin_bl I q dec_int)
    | str j=>obtain ⟨t',rfl⟩:=ry; exact PySem.EqMixed.eq_int_str (fin_bl I q (by simp))
    | _=>exact absurd (show false=true from hs) Bool.false_ne_true
  | str i =>
    obtain ⟨t,rfl⟩:=rx
    cases y with
    | non=>cases ry; exact PySem.EqNone.eq_str_none (fin_bl I q (by simp))
    | bl j=>cases ry; exact PySem.EqMixed.eq_str_bool (fin_bl I q (by simp))
    | int j=>obtain ⟨t',rfl⟩:=ry; exact PySem.EqMixed.eq_str_int (fin_bl I q (by simp))
    | str j=>obtain ⟨t',rfl⟩:=ry; exact eq_str (fin_bl I q dec_str)
    | _=>exact absurd (show false=true from hs) Bool.false_ne_true
  | byt i =>
    obtain ⟨t,rfl⟩:=rx
    cases y with
    | byt j=>obtain ⟨t',rfl⟩:=ry; exact PySem.W.eq_bytes (fin_bl I q dec_byt)
    | _=>exact absurd (show false=true from hs) Bool.false_ne_true
  | _=>cases y <;> exact absurd (show false=true from hs) Bool.false_ne_true
theorem op_ne:OpR X (compareOp .NotEq) rNe:=by
  intro pins s σ H x y v u Q I rx ry h
  obtain ⟨hs,q⟩:=h
  cases x with
  | non =>
    cases rx
    cases y with
    | non=>cases ry; exact PySem.EqNone.ne_none_none (fin_bl I q (by simp))
    | bl j=>cases ry; exact PySem.EqNone.ne_none_bool (fin_bl I q (by simp))
    | int j=>obtain ⟨t',rfl⟩:=ry; exact PySem.EqNone.ne_none_int (fin_bl I q (by simp))
    | str j=>obtain ⟨t',rfl⟩:=ry; exact PySem.EqNone.ne_none_str (fin_bl I q (by simp))
    | _=>exact absurd (show false=true from hs) Bool.false_ne_true
  | bl i =>
    cases rx
    cases y with
    | non=>cases ry; exact PySem.EqNone.ne_bool_none (fin_bl I q (by simp))
    | bl j=>cases ry; exact ne_bool (fin_bl I q (congrArg not dec_bl))
    | str j=>obtain ⟨t',rfl⟩:=ry; exact PySem.EqMixed.ne_bool_str (fin_bl I q (by simp))
    | _=>exact absurd (show false=true from hs) Bool.false_ne_true
  | int i =>
    obtain ⟨t,rfl⟩:=rx
    cases y with
    | non=>cases ry; exact PySem.EqNone.ne_int_none (fin_bl I q (by simp))
    | int j=>obtain ⟨t',rfl⟩:=ry; exact ne_int (fin_bl I q (congrArg not dec_int))
    | str j=>obtain ⟨t',rfl⟩:=ry; exact PySem.EqMixed.ne_int_str (fin_bl I q (by simp))
    | _=>exact absurd (show false=true from hs) Bool.false_ne_true
  | str i =>
    obtain ⟨t,rfl⟩:=rx
    cases y with
    | non=>cases ry; exact PySem.EqNone.ne_str_none (fin_bl I q (by simp))
    | bl j=>cases ry; exact PySem.EqMixed.ne_str_bool (fin_bl I q (by simp))
    | int j=>obtain ⟨t',rfl⟩:=ry; exact PySem.EqMixed.ne_str_int (fin_bl I q (by simp))
    | str j=>obtain ⟨t',rfl⟩:=ry; exact ne_str (fin_bl I q (congrArg not dec_str))
    | _=>exact absurd (show false=true from hs) Bool.false_ne_true
  | byt i =>
    obtain ⟨t,rfl⟩:=rx
    cases y with
    | byt j=>obtain ⟨t',rfl⟩:=ry; exact PySem.W.ne_bytes (fin_bl I q (congrArg not dec_byt))
    | _=>exact absurd (show false=true from hs) Bool.false_ne_true
  | _=>cases y <;> exact absurd (show false=true from hs) Bool.false_ne_true
theorem op_lt:OpR X (compareOp .Lt) (rI0 fun i j=>.bl (decide (i < j))):=opB0 fun _ _ _ _ _ _ _ q=>lt_int q
theorem op_le:OpR X (compareOp .LtE) (rI0 fun i j=>.bl (decide (i≤j))):=opB0 fun _ _ _ _ _ _ _ q=>le_int q
theorem op_gt:OpR X (compareOp .Gt) (rI0 fun i j=>.bl (decide (j < i))):=opB0 fun _ _ _ _ _ _ _ q=>gt_int q
theorem op_ge:OpR X (compareOp .GtE) (rI0 fun i j=>.bl (decide (j≤i))):=opB0 fun _ _ _ _ _ _ _ q=>ge_int q
theorem op_notN:OpR X (compareOp .IsNot) (fun x y H Q=>y=.non∧Q (.bl (!decide (x=.non))) H):=by
  intro pins s σ H x y v u Q I rx ry h
  obtain ⟨rfl,q⟩:=h
  cases ry
  refine isnot_none_gen (fin_bl I q ?_)
  cases x <;> first
    | (cases rx; rfl)
    | (obtain ⟨t,rfl⟩:=rx; rfl)
theorem nomark (b:Expr) {op:CmpOp} (h:op≠.In:=by decide) (h2:op≠.NotIn:=by decide):behindInMarks op b=false:=by
  have e1:(op == CmpOp.In)=false:=by cases op <;> first | rfl | exact absurd rfl h
  have e2:(op == CmpOp.NotIn)=false:=by cases op <;> first | rfl | exact absurd rfl h2
  cases b <;> simp [behindInMarks,e1,e2]
theorem pe_cmpR {op:CmpOp} {r:R2} (ho:OpR X (compareOp op) r) (ha:PE X a ta) (hb:PE X b tb) (hm:behindInMarks op b=false):PE X (.Compare a [op] [b] pos) (tOp r ta tb):=by
  intro pins s σ H Q I h
  exact wpAny_Compare1 (binT ha hb I h fun v u s2 x y H2 I2 rx ry q=>ho pins s2 σ H2 x y v u Q I2 rx ry q) hm
noncomputable def tTest (t:TE):TT:=fun σ H Q=>t σ H fun x H'=>∃ k,x=.bl k∧Q k H'
theorem pt_cmpR {op:CmpOp} {r:R2} (ho:OpR X (compareOp op) r) (ha:PE X a ta) (hb:PE X b tb) (hm:behindInMarks op b=false):PT X (.Compare a [op] [b] pos) (tTest (tOp r ta tb)):=by
  intro pins s σ H Q I h
  refine wpAny_isTrue_Compare1 (thn (ha pins s σ H _ I h) fun v s1 ⟨x,H1,I1,r1,q1⟩=>thn (hb pins s1 σ H1 _ I1 q1) fun u s2 ⟨y,H2,I2,r2,q2⟩ =>
    thn (ho pins s2 σ H2 x y v u _ I2 r1 r2 q2) fun c s3 ⟨z,H3,I3,r3,k,e,q3⟩=>?_) hm
  subst e
  cases r3
  exact wpAny_truthy_bool ⟨H3,I3,q3⟩
noncomputable def tChain (r r':R2) (ta tb tc:TE):TE:=fun σ H Q=>ta σ H fun x H1=>tb σ H1 fun y H2=>r x y H2 fun z H3=>∃ k,z=.bl k ∧
  (if k=true then tc σ H3 fun w' H4=>r' y w' H4 Q else Q (.bl false) H3)
theorem pe_chain {op op':CmpOp} {r r':R2} (ho:OpR X (compareOp op) r) (ho':OpR X (compareOp op') r') (ha:PE X a ta) (hb:PE X b tb) (hc:PE X c tc)
    (hm:lastMarks [op,op'] [b,c]=false:=by with_unfolding_all rfl):PE X (.Compare a [op,op'] [b,c] pos) (tChain r r' ta tb tc):=by
  intro pins s σ H Q I h
  refine Compare_chain (thn (ha pins s σ H _ I h) fun v s1 ⟨x,H1,I1,r1,q1⟩=>chain_link (thn (hb pins s1 σ H1 _ I1 q1) fun u s2 ⟨y,H2,I2,r2,q2⟩ =>
    thn (ho pins s2 σ H2 x y v u _ I2 r1 r2 q2) fun d s3 ⟨z,H3,I3,r3,k,e,q3⟩=>?_)) hm
  subst e
  cases r3
  refine wpAny_truthy_bool ?_
  cases k with
  | false=>exact ite_ff ⟨.bl false,H3,I3,rfl,q3⟩
  | true=>exact ite_tt (chain_last (thn (hc pins s3 σ H3 _ I3 q3) fun w' s4 ⟨z',H4,I4,r4,q4⟩=>ho' pins s4 σ H4 y z' u w' Q I4 r2 r4 q4))
theorem pt_chain {op op':CmpOp} {r r':R2} (ho:OpR X (compareOp op) r) (ho':OpR X (compareOp op') r') (ha:PE X a ta) (hb:PE X b tb) (hc:PE X c tc)
    (hm:lastMarks [op,op'] [b,c]=false:=by with_unfolding_all rfl):PT X (.Compare a [op,op'] [b,c] pos) (tTest (tChain r r' ta tb tc)):=by
  intro pins s σ H Q I h
  refine isTrue_chain (thn (ha pins s σ H _ I h) fun v s1 ⟨x,H1,I1,r1,q1⟩=>test_link (thn (hb pins s1 σ H1 _ I1 q1) fun u s2 ⟨y,H2,I2,r2,q2⟩ =>
    thn (ho pins s2 σ H2 x y v u _ I2 r1 r2 q2) fun d s3 ⟨z,H3,I3,r3,k,e,q3⟩=>?_)) hm
  subst e
  cases r3
  refine wpAny_truthy_bool ?_
  cases k with
  | false =>
    obtain ⟨k',e',q'⟩:=q3
    cases e'
    exact ite_ff ⟨H3,I3,q'⟩
  | true =>
    refine ite_tt (test_last (thn (hc pins s3 σ H3 _ I3 q3) fun w' s4 ⟨z',H4,I4,r4,q4⟩=>thn (ho' pins s4 σ H4 y z' u w' _ I4 r2 r4 q4) fun d' s5 ⟨z2,H5,I5,r5,k2,e2,q5⟩=>?_))
    subst e2
    cases r5
    exact wpAny_truthy_bool ⟨H5,I5,q5⟩
noncomputable def TruV (K:PySem.W.Frag) (x:V) (H:Hp) (k:Bool):Prop :=
  match x with
  | .non=>k=false
  | .bl b=>k=b
  | .int i=>k=(i != 0)
  | .str y=>y.length≤sizeLine∧k=((y.length:Int) != 0)
  | .byt y=>y.size≤sizeLine∧k=((y.size:Int) != 0)
  | .ref p=>(∃ xs,SqL K H p xs∧k = !xs.isEmpty)∨(∃ xs,SqT K H p xs∧k = !xs.isEmpty)∨∃ kvs,H p=some (.dK kvs)∧k = !kvs.isEmpty
  | _=>False
theorem isEmpty_kv {κ:Type} {kvs:List (κ×V)} {vs:List (κ×Value)} (r:KV kvs vs):(!vs.isEmpty) = !kvs.isEmpty:=by
  cases r <;> rfl
theorem isEmpty_of {xs:List V} {its:List Value} (r:Vals xs its):(!its.toArray.isEmpty) = !xs.isEmpty:=by
  cases r <;> simp
theorem line63:(sizeLine:Nat) < 2 ^ 63:=by rw [sizeLine_eq]; decide
theorem tru_ok:TruR X (fun x H Q=>∃ k,TruV X.K x H k∧Q k H):=by
  intro pins s σ H x v Q I rx h
  obtain ⟨k,e,q⟩:=h
  have hl:=line63
  have hs:sizeLine=16777216:=sizeLine_eq
  cases x with
  | non =>
    cases rx
    have e':k=false:=e
    subst e'
    exact truthy_none ⟨H,I,q⟩
  | bl b =>
    cases rx
    have e':k=b:=e
    subst e'
    exact wpAny_truthy_bool ⟨H,I,q⟩
  | int i =>
    obtain ⟨t,rfl⟩:=rx
    have e':k=(i != 0):=e
    subst e'
    exact PySem.P.truthy_int ⟨H,I,q⟩
  | str y =>
    obtain ⟨t,rfl⟩:=rx
    obtain ⟨hy,e'⟩:y.length≤sizeLine∧k=((y.length:Int) != 0):=e
    subst e'
    exact PySem.P.truthy_str (by omega) ⟨H,I.tok _,q⟩
  | byt y =>
    obtain ⟨t,rfl⟩:=rx
    obtain ⟨hy,e'⟩:y.size≤sizeLine∧k=((y.size:Int) != 0):=e
    subst e'
    exact PySem.W.truthy_bytes (by omega) ⟨H,I.tok _,q⟩
  | ref p =>
    cases rx
    have e':(∃ xs,SqL X.K H p xs∧k = !xs.isEmpty)∨(∃ xs,SqT X.K H p xs∧k = !xs.isEmpty)∨∃ kvs,H p=some (.dK kvs)∧k = !kvs.isEmpty:=e
    rcases e' with ⟨xs,hx,e'⟩ | ⟨xs,hx,e'⟩ | ⟨kvs,hx,e'⟩
    · subst e'
      obtain ⟨its,r,pl,hz⟩:=I.list hx
      have hlen:=r.length
      exact wpAny_truthy_list pl.isList (by simp only [List.size_toArray]; omega) ⟨H,I.tok _,by rw [isEmpty_of r]; exact q⟩
    · subst e'
      obtain ⟨its,r,pl,hz⟩:=I.tuple hx
      have hlen:=r.length
      exact truthy_tuple pl (by simp only [List.size_toArray]; omega) ⟨H,I.tok _,by rw [isEmpty_of r]; exact q⟩
    · subst e'
      obtain ⟨hz,hS,vs,r,m⟩:kvs.length≤sizeLine∧(p == sysModules)=false∧∃ vs,KV kvs vs∧s.heap.DictOf (mixKind X.prog X.w) p vs:=I.hok p _ hx
      have hlen:kvs.length=vs.length:=Paired.length r
      exact wpAny_truthy_dict hS m (by omega) ⟨H,I.tok _,by rw [isEmpty_kv r]; exact q⟩
  | _=>exact (show False from e).elim
theorem pt_truth (ha:PE X a ta) (he:∀ whole,isTrue a X.env whole=(do let v ← whole; standAt a.pos; holding [v] (truthy v))) :
    PT X a (fun σ H Q=>ta σ H fun x H'=>∃ k,TruV X.K x H' k∧Q k H'):=by
  intro pins s σ H Q I h
  exact isTrue_plain (thn (ha pins s σ H _ I h) fun v s1 ⟨x,H1,I1,r1,q1⟩=>tru_ok pins s1 σ H1 x v Q I1 r1 q1) (he _)
theorem op_add_str:OpR X (binaryOp .Add) (fun x y H Q=>∃ i j,x=.str i∧y=.str j∧i.length + j.length≤sizeLine∧Q (.str (i ++ j)) H):=by
  intro pins s σ H x y v u Q I rx ry h
  obtain ⟨i,j,rfl,rfl,hz,q⟩:=h
  obtain ⟨t,rfl⟩:=rx
  obtain ⟨t',rfl⟩:=ry
  exact add_str (fun t' tk=>⟨.str (i ++ j),H,I.tok _,⟨_,rfl⟩,q⟩) hz
theorem vals1 {x:V} {us:List Value} (r:Vals [x] us):∃ u,us=[u]∧RelV x u:=by
  cases r with
  | cons r1 r2=>cases r2; exact ⟨_,rfl,r1⟩
theorem vals2 {x y:V} {us:List Value} (r:Vals [x,y] us):∃ u w',us=[u,w']∧RelV x u∧RelV y w':=by
  cases r with
  | cons r1 r2 =>
    cases r2 with
    | cons r3 r4=>cases r4; exact ⟨_,_,rfl,r1,r3⟩
theorem call_max2 (hc:X.calm=true):CallR X (.builtin "max") (fun xs H Q=>∃ i j,xs=[.int i,.int j]∧Q (.int (if j > i then j else i)) H):=by
  intro pins s σ H xs us Q I r h
  obtain ⟨i,j,rfl,q⟩:=h
  obtain ⟨u,w',rfl,⟨t,rfl⟩,⟨t',rfl⟩⟩:=vals2 r
  refine max_two_ints (I.ok.hd hc) fun h' tk k=>⟨_,H,I.kept k,?_,q⟩
  by_cases hj:j > i
  · rw [if_pos hj,if_pos hj]; exact ⟨_,rfl⟩
  · rw [if_neg hj,if_neg hj]; exact ⟨_,rfl⟩
end
end L2
namespace L2
open PySem PySem.Spec PyProof.Rows
structure ObjM (h:Heap) (x dx C:Addr) (mA:Str→Option Value):Prop where
  obj:h.get? x=some (PySem.W.instObj C dx)
  ns:h.Ns1 dx mA
  ne:dx≠x
theorem lookIn_ns {h:Heap} {dx:Addr} {mA:Str→Option Value} (n:h.Ns1 dx mA):∃ od,h.get? dx=some od∧∀ name,PySem.W.lookIn name od=some (mA name):=by
  obtain ⟨o,es,ep,ho,hd,hk,_,hm⟩:=n
  refine ⟨o,ho,fun name=>?_⟩
  have e:=hm name
  unfold nsFind findBy at e
  rw [← Array.find?_toList] at e
  unfold PySem.W.lookIn
  rw [hd]
  dsimp only
  split
  · rename_i y q
    rw [q] at e
    exact congrArg some e
  · rename_i q
    rw [q] at e
    have a:es.toList.any (·.refKey)=false:=by
      rw [List.any_eq_false]
      intro y hy
      obtain ⟨z,t,hkey⟩:=hk y (Array.mem_toList_iff.mp hy)
      simp [DictEntry.refKey,hkey]
    have a':¬ es.toList.any (·.refKey)=true:=by rw [a]; exact Bool.false_ne_true
    rw [if_neg a']
    exact congrArg some e
theorem ObjM.look {h:Heap} {x dx C:Addr} {mA:Str→Option Value} (I:ObjM h x dx C mA):∃ od,PySem.W.InstAt h x (PySem.W.instObj C dx) C (some od)∧∀ name,PySem.W.lookIn name od=some (mA name) :=
  let ⟨od,ho,hl⟩:=lookIn_ns I.ns
  ⟨od,⟨I.obj,rfl,rfl,ho⟩,hl⟩
section
variable {prog:Program} {w:World} {A:Around} {E:Value→Shared→Prop} {s:Shared} {K:PySem.W.Frag} {x dx C f:Addr} {mA:Str→Option Value} {name:Str} {v:Value}
end
section
variable {P:Program} {w:World} {H H':Hp} {h h':Heap} {a C dx:Addr} {fs fs':List (Str×V)}
theorem ins_get (hok:HOk P w H h) (e:H a=some (.ins C dx fs)):∃ mA,ObjM h a dx C mA∧(∀ f,RelO (fs.lookup f) (mA f))∧PySem.Within mA (fs.map (·.1))∧fs.length≤1000∧H dx=some (.own a):=by
  obtain ⟨d,z,ne,ob,mA,n,r,q⟩:=(show ObjOk P w H h a (.ins C dx fs) from hok a _ e)
  exact ⟨mA,⟨ob,n,ne⟩,r,q,z,d⟩
end
structure Cls (K:PySem.W.Frag) (C:Addr):Prop where
  pg:PySem.W.plainGet K C Str.empty=true
  hd:PySem.W.hasDictIn K C=true
  po:PySem.W.plainOver K C=true
  sa:PySem.W.findIn K (.ref C) "__setattr__"=some (some (.builtin "object.__setattr__"))
theorem Cls.get {K:PySem.W.Frag} {C:Addr} (c:Cls K C) (f:Str):PySem.W.plainGet K C f=true:=c.pg
section
variable {X:Cx} {pins:List (Addr×Obj)} {σ:St} {H:Hp} {s:Shared} {a C dx:Addr} {fs:List (Str×V)} {f:Str} {v:V} {A:Around} {E:Value→Shared→Prop}
end
section
variable {X:Cx} {o e value:Expr} {f:Str} {pos pos' tpos:Pos} {ta tv:TE}
end
section
variable {X:Cx} {pins:List (Addr×Obj)} {σ:St} {H:Hp} {s:Shared} {A:Around} {E:Value→Shared→Prop} {Q:Value→Shared→Prop} {c:Value} {b:Bool}
inductive TyOf (K:PySem.W.Frag) (H:Hp):V→Value→Prop where
  | non:TyOf K H .non (.type "NoneType")
  | bl (x:Bool):TyOf K H (.bl x) (.type "bool")
  | int (i:Int):TyOf K H (.int i) (.type "int")
  | str (x:Str):TyOf K H (.str x) (.type "str")
  | flt (x:UInt64):TyOf K H (.flt x) (.type "float")
  | lst {a:Addr} {xs:List V} (e:H a=some (.lst xs)):TyOf K H (.ref a) (.type "list")
  | frz {a:Addr} {o:Obj} {xs:List V} (e:H a=some (.frz o (.lst xs))):TyOf K H (.ref a) (.type "list")
  | tup {a:Addr} {xs:List V} (e:H a=some (.tup xs)):TyOf K H (.ref a) (.type "tuple")
  | dK {a:Addr} {kvs:List (Key×V)} (e:H a=some (.dK kvs)):TyOf K H (.ref a) (.type "dict")
  | dT {a:Addr} {kvs:List (List Key×V)} (e:H a=some (.dT kvs)):TyOf K H (.ref a) (.type "dict")
  | ins {a C dx:Addr} {fs:List (Str×V)} (e:H a=some (.ins C dx fs)) (cl:Cls K C) (ha:PySem.W.findIn K (.ref C) "__class__"=some (some (.builtin "object.__class__")))
      (hn:PySem.W.specialIn K (.builtin "object.__class__") "__get__"=some (some (.builtin "getset_descriptor.__get__"))) (htk:PySem.W.takesIn K (.builtin "object.__class__")=some true)
      (hm:PySem.W.mroIn K C (.type "object")=some true):TyOf K H (.ref a) (.ref C)
theorem isinst_ok {x:V} {u t:Value} (I:Inv X pins σ H s) (rx:RelV x u) (ty:TyOf X.K H x t) (e:PySem.W.kitOne X.K t c=some b) (h:∀ tk,Q (.bool b) { s with toks:=tk }) :
    wpAny (model X.prog X.w) A (call (.builtin "isinstance") [u,c]) Q E s:=by
  cases ty with
  | non=>cases (show u=Value.none from rx); exact PySem.W.kia_one PySem.W.kitx_none I.kIn True.intro e (fun z=>nomatch z) h
  | bl y=>cases (show u=Value.bool y from rx); exact PySem.W.kia_one PySem.W.kitx_bool I.kIn True.intro e (fun z=>nomatch z) h
  | int i=>obtain ⟨t,q⟩:=(show ∃ t,u=Value.int i t from rx); cases q; exact PySem.W.kia_one PySem.W.kitx_int I.kIn True.intro e (fun z=>nomatch z) h
  | str y=>obtain ⟨t,q⟩:=(show ∃ t,u=Value.str y t from rx); cases q; exact PySem.W.kia_one PySem.W.kitx_str I.kIn True.intro e (fun z=>nomatch z) h
  | flt y=>obtain ⟨t,q⟩:=(show ∃ t,u=Value.float y t from rx); cases q; exact PySem.W.kia_one PySem.W.kitx_float I.kIn True.intro e (fun z=>nomatch z) h
  | @lst a xs ea =>
    cases (show u=Value.ref a from rx)
    obtain ⟨_,_,n,_,h1⟩:=(show ObjOk X.prog X.w H s.heap a (.lst xs) from I.hok a _ ea)
    exact PySem.W.kia_one PySem.W.kitx_list I.kIn ⟨_,h1,rfl⟩ e (fun z=>nomatch z) h
  | @frz a ob xs ea =>
    cases (show u=Value.ref a from rx)
    obtain ⟨_,_,_,n,_,h1⟩:=(show ObjOk X.prog X.w H s.heap a (.frz ob (.lst xs)) from I.hok a _ ea)
    exact PySem.W.kia_one PySem.W.kitx_list I.kIn ⟨_,h1,rfl⟩ e (fun z=>nomatch z) h
  | @tup a xs ea =>
    cases (show u=Value.ref a from rx)
    obtain ⟨_,_,_,p⟩:=(show ObjOk X.prog X.w H s.heap a (.tup xs) from I.hok a _ ea)
    obtain ⟨o,h1,h2,_⟩:=p
    exact PySem.W.kia_one PySem.W.kitx_tuple I.kIn ⟨o,h1,h2⟩ e (fun z=>nomatch z) h
  | @dK a kvs ea =>
    cases (show u=Value.ref a from rx)
    obtain ⟨_,_,vs,_,p⟩:=(show ObjOk X.prog X.w H s.heap a (.dK kvs) from I.hok a _ ea)
    obtain ⟨o,es,ep,h1,h2,_⟩:=p
    exact PySem.W.kia_one PySem.W.kitx_dict I.kIn ⟨o,h1,h2.1⟩ e (fun z=>nomatch z) h
  | @dT a kvs ea =>
    cases (show u=Value.ref a from rx)
    obtain ⟨_,_,xs,_,o,es,ep,h1,h2,_⟩:=(show ObjOk X.prog X.w H s.heap a (.dT kvs) from I.hok a _ ea)
    exact PySem.W.kia_one PySem.W.kitx_dict I.kIn ⟨o,h1,h2.1⟩ e (fun z=>nomatch z) h
  | @ins a C dx fs ea cl ha hn htk hm =>
    cases (show u=Value.ref a from rx)
    obtain ⟨mA,O,_⟩:=ins_get I.hok ea
    obtain ⟨od,J,_⟩:=O.look
    exact PySem.W.kia_one (PySem.W.kitx_own (cl.get _) cl.hd ha hn htk hm) I.kIn J e (fun z=>nomatch z) h
end
end L2
namespace L2
open PySem PySem.Spec PyProof.Rows
structure Room (k:Nat) (A:Around):Prop where
  hd:A.handled=none
  dp:A.depth + 3 * k + 5 < recursionLimit
  un:A.units + 16 * k + 200 < cLine
theorem Room.mono {j k:Nat} {A:Around} (r:Room k A) (h:j≤k):Room j A:=⟨r.hd,by have:=r.dp; omega,by have:=r.un; omega⟩
theorem Room.deeper {k:Nat} {A:Around} (r:Room (k + 1) A) (env:Env):Room k (A.deeper env) :=
  ⟨r.hd,by have:=r.dp; show A.depth + 1 + 3 * k + 5 < _; omega,by have:=r.un; show A.units + 3 + 16 * k + 200 < _; omega⟩
theorem Room.depth {k:Nat} {A:Around} (r:Room k A):A.depth < recursionLimit:=by have:=r.dp; omega
noncomputable def tNil:TA:=fun _ H Q=>Q [] H
noncomputable def tCons (ta:TE) (tr:TA):TA:=fun σ H Q=>ta σ H fun x H1=>tr σ H1 fun xs H2=>Q (x :: xs) H2
section
variable {X:Cx} {e:Expr} {es:List Expr} {te:TE} {t:TA} {pos:Pos}
theorem pa_nil:PA X [] tNil:=fun _ _ _ _ H Q I h=>Calls.spliced_nil ⟨[],H,I,.nil,h⟩
theorem pa_cons (ha:PE X e te) (hr:PA X es t) (hs:starEach (e :: es) X.env=(false,eval e X.env) :: starEach es X.env:=by rfl):PA X (e :: es) (tCons te t):=by
  intro pos pins s σ H Q I h
  rw [hs]
  show wpAny _ _ (spliced ((false,eval e X.env) :: backTo pos (starEach es X.env))) _ _ s
  refine Calls.spliced_cons (thn (ha pins s σ H _ I h) fun u s1 ⟨x,H1,I1,r1,q1⟩=>?_)
  exact thn (hr pos pins s1 σ H1 _ I1 q1) fun us s2 ⟨xs,H2,I2,r2,q2⟩=>⟨x :: xs,H2,I2,.cons r1 r2,q2⟩
noncomputable def tTup (t:TA):TE:=fun σ H Q=>t σ H fun xs H1=>xs.length≤sizeLine∧∀ p,H1 p=none→Q (.ref p) (upd H1 p (.tup xs))
noncomputable def tLst (t:TA):TE:=fun σ H Q=>t σ H fun xs H1=>xs.length≤sizeLine∧∀ p,H1 p=none→Q (.ref p) (upd H1 p (.lst xs))
theorem pe_tup {x1} (h:PA X es t):PE X (.Tuple es x1 pos) (tTup t):=by
  intro pins s σ H Q I hq
  refine wpAny_Tuple_spliced (thn (h pos pins s σ H _ I hq) fun us s1 ⟨xs,H1,I1,r,z,q⟩=>⟨by rw [← r.length]; exact z,?_⟩)
  have hf:H1 s1.heap.objs.size=none:=I1.hok.fresh (Nat.le_refl _)
  refine ⟨.ref s1.heap.objs.size,upd H1 s1.heap.objs.size (.tup xs),I1.laid (t':=s1.toks) (fun b u e=>Heap.get?_push_of_some _ e) (Nat.le_refl _) ?_,rfl,q _ hf⟩
  exact ⟨z,us,r,⟨_,Heap.get?_push_size _ rfl,rfl,⟨_,rfl⟩,rfl⟩⟩
theorem pe_lst (h:PA X es t):PE X (.List es pos) (tLst t):=by
  intro pins s σ H Q I hq
  refine wpAny_List_spliced (thn (h pos pins s σ H _ I hq) fun us s1 ⟨xs,H1,I1,r,z,q⟩=>⟨by rw [← r.length]; exact z,?_⟩)
  have hf:H1 s1.heap.objs.size=none:=I1.hok.fresh (Nat.le_refl _)
  refine ⟨.ref s1.heap.objs.size,upd H1 s1.heap.objs.size (.lst xs),I1.laid (t':=s1.toks) (fun b u e=>Heap.get?_push_of_some _ e) (Nat.le_refl _) ?_,rfl,q _ hf⟩
  exact ⟨z,us,0,r,Heap.get?_push_size _ rfl⟩
end
noncomputable abbrev Sp:=List V→Hp→VK→XK→Prop
noncomputable abbrev CXT:=List Env→Hp→Shared→XK→Value→Shared→Prop
structure Env0 (P:Program) (w:World) (K:PySem.W.Frag) (mg:Str→Option Value) (base:Heap) (A:Around) (outer:List Env) (s:Shared) (H:Hp):Prop where
  frames:A.frames=some outer
  mod:Mod K mg base
  bs:∀ b o,base.get? b=some o→s.heap.get? b=some o∧H b=none
  bsz:base.objs.size≤s.heap.objs.size
  funs:s.heap.FunFrames base outer
  frf:∀ b∈frs outer,H b=none
  hok:HOk P w H s.heap
  bare:AllBare s.gens
noncomputable def CE (outer:List Env) (P:Program) (w:World) (H:Hp) (s:Shared) (Q:VK) (u:Value) (s':Shared):Prop :=
  ∃ v H',s'.os=s.os∧AllBare s'.gens∧Un (frs outer) [] H H' s.heap s'.heap∧HOk P w H' s'.heap∧RelV v u∧Q v H'
noncomputable def CR (CX:CXT) (outer:List Env) (P:Program) (w:World) (H:Hp) (s:Shared) (Q:VK) (E:XK) (r:Result) (s':Shared):Prop :=
  match r with
  | .ok (.ret u)=>CE outer P w H s Q u s'
  | .ok _=>False
  | .error e=>CX outer H s E e s'
structure FnOk (P:Program) (w:World) (K:PySem.W.Frag) (mg:Str→Option Value) (base:Heap) (CX:CXT) (k:Nat) (f:Addr) (fd:FuncData) (ps:List Str) (sp:Sp):Prop where
  len:∀ vs H Q E,sp vs H Q E→vs.length=ps.length
  run:∀ (A:Around) (outer:List Env) (s:Shared) (H:Hp) (args:Args) (us:List Value) (vs:List V) (Q:VK) (E:XK),Room k A→Env0 P w K mg base A outer s H→BindsTo s fd args (ps.zip us)→Vals vs us→sp vs H Q E →
    codeAny (model P w) A (.call (.ref f) args) (CR CX outer P w H s Q E) s
section
variable {X:Cx} {pins:List (Addr×Obj)} {σ:St} {H:Hp} {s s':Shared}
theorem Inv.env0 (I:Inv X pins σ H s):Env0 X.prog X.w X.K X.mg X.base X.A X.stack s H :=
  ⟨I.ok.frames,I.ok.mod,I.bs,Nat.le_trans I.ok.bsz I.sz,I.stack,I.stkFree,I.hok,I.bare⟩
theorem Inv.after {Q:VK} {u:Value} (I:Inv X pins σ H s) (h:CE X.stack X.prog X.w H s Q u s'):EP X pins σ Q u s':=by
  obtain ⟨v,H',os,bare,un,hok,r,q⟩:=h
  obtain ⟨hh,g,d,t,os'⟩:=s'
  obtain rfl:os'=s.os:=os
  exact ⟨v,H',I.call (h':=hh) (g':=g) (d':=d) (t':=t) (ch:=[]) un hok bare (fun b z=>absurd z (by simp)),r,q⟩
end
noncomputable def tCall (sp:Sp) (dvs:List V) (E:XK) (t:TA):TE:=fun σ H Q=>t σ H fun vs H1=>sp (vs ++ dvs) H1 Q E
noncomputable def Binds (K:PySem.W.Frag) (fd:FuncData) (ps:List Str) (ds:List Value):Prop :=
  ∀ (s:Shared) (us:List Value),K.In s.heap→(us ++ ds).length=ps.length→BindsTo s fd ⟨us,[]⟩ (ps.zip (us ++ ds))
theorem Binds.all {K:PySem.W.Frag} {fd:FuncData} {ps:List Str} (h:∀ us:List Value,us.length=ps.length→bindArgs fd ⟨us,[]⟩=pure (ps.zip us)):Binds K fd ps []:=fun s us _ hl=>by
  rw [List.append_nil] at hl ⊢
  exact .of_eq (h us hl)
noncomputable def Passes (CX:CXT) (X:Cx) (E:XK):Prop:=∀ (pins:List (Addr×Obj)) (σ:St) (H:Hp) (s:Shared) (e:Value) (s':Shared),Inv X pins σ H s→CX X.stack H s E e s'→X.xe e s'
section
variable {X:Cx} {CX:CXT} {k:Nat} {f C:Addr} {fd:FuncData} {ps:List Str} {sp:Sp} {dvs:List V} {ds:List Value} {E:XK} {x m:Str} {p pos apos:Pos} {e o:Expr} {es:List Expr} {ta:TE} {t:TA}
theorem run_fn {pins:List (Addr×Obj)} {σ:St} {H:Hp} {s:Shared} {Q:VK} {us:List Value} {vs:List V} (F:FnOk X.prog X.w X.K X.mg X.base CX k f fd ps sp) (hr:Room k X.A) (hb:Binds X.K fd ps ds) (hd:Vals dvs ds) (hx:Passes CX X E)
    (I:Inv X pins σ H s) (r:Vals vs us) (h:sp (vs ++ dvs) H Q E):wpAny (model X.prog X.w) X.A (call (.ref f) us) (EP X pins σ Q) X.xe s:=by
  have r2:Vals (vs ++ dvs) (us ++ ds):=r.append hd
  have hl:(us ++ ds).length=ps.length:=by rw [← r2.length]; exact F.len _ _ _ _ h
  refine wpAny_call (codeAny_mono (F.run X.A X.stack s H ⟨us,[]⟩ (us ++ ds) (vs ++ dvs) Q E hr I.env0 (hb s us I.kIn hl) r2 h) fun r s' hq=>?_)
  cases r with
  | error e=>exact hx pins σ H s e s' I hq
  | ok fl =>
    cases fl with
    | ret u=>exact I.after hq
    | next=>exact False.elim hq
    | brk=>exact False.elim hq
    | cont=>exact False.elim hq
theorem pe_call (F:FnOk X.prog X.w X.K X.mg X.base CX k f fd ps sp) (hr:Room k X.A) (hg:Gl X x) (hm:X.mg x=some (.ref f)) (hk:PySem.W.keepIn X.K (.ref f)=true) (hb:Binds X.K fd ps ds) (hd:Vals dvs ds) (hx:Passes CX X E)
    (ha:PA X (e :: es) t) (hdb:(x == ("__debug__":Str))=false:=by decide) (he:starEach (e :: es) X.env=(false,eval e X.env) :: starEach es X.env:=by rfl) (hpl:(backTo pos (starEach es X.env)).any (·.1)=false:=by rfl) :
    PE X (.Call (.Name x p) (e :: es) [] pos) (tCall sp dvs E t):=by
  intro pins s σ H Q I h
  refine wpAny_Call_Name_kw (ld_glob I hg hm ?_ hdb)
  refine PySem.W.callWith_K (h₀:=X.base) I.ok.mod.kin hk (thn (ha pos pins s σ H _ I h) fun us s1 ⟨vs,H1,I1,r,q⟩=>⟨I1.kIn,?_⟩) he hpl
  exact run_fn F hr hb hd hx I1 r q
end
section
variable {X:Cx} {CX:CXT} {k:Nat} {f C:Addr} {fd:FuncData} {ps ks:List Str} {sp:Sp} {E:XK} {x m:Str} {p pos apos kpos:Pos} {e o:Expr} {es:List Expr} {kws:List Keyword} {te ta:TE} {t tk:TA} {nm:Option Str}
variable {g:List Value→List Value→List Value} {gV:List V→List V→List V}
end
structure FnScope (N P:List Str) (sc:Scope):Prop where
  kind:sc.kind=.function
  co:sc.isCoroutine=false
  gen:sc.isGenerator=false
  nd:N.Nodup
  pre:N.take P.length=P
  par:∀ x∈P,sc.names.lookup x=some .local∨sc.names.lookup x=some .cell
  nofree:∀ y∈sc.names,y.2≠.free
theorem bindL_out {kindOf:Str→Option NameKind} {x:Str}:∀ {binds:List (Str×Value)} {m:Str→Option Value},(∀ v,(x,v)∉binds)→bindL kindOf binds m x=m x
  | [],_,_=>rfl
  | (n,v) :: r,m,h=>by
    unfold bindL
    rw [bindL_out fun w hw=>h w (List.mem_cons_of_mem _ hw)]
    split
    · have:x≠n:=by rintro rfl; exact h v List.mem_cons_self
      simp [this]
    · rfl
theorem bindC_out {kindOf:Str→Option NameKind} {x:Str}:∀ {binds:List (Str×Value)} {m:Str→Option Value},(∀ v,(x,v)∉binds)→bindC kindOf binds m x=m x
  | [],_,_=>rfl
  | (n,v) :: r,m,h=>by
    unfold bindC
    rw [bindC_out fun w hw=>h w (List.mem_cons_of_mem _ hw)]
    split
    · rfl
    · have:x≠n:=by rintro rfl; exact h v List.mem_cons_self
      simp [this]
theorem bindL_get {kindOf:Str→Option NameKind} {x:Str} {v:Value}:∀ {P:List Str} {vs:List Value} {i:Nat} {m:Str→Option Value},P.Nodup→P[i]? = some x→vs[i]? = some v→kindOf x=some .local →
    bindL kindOf (P.zip vs) m x=some v
  | [],_,_,_,_,h,_,_=>by simp at h
  | _ :: _,[],_,_,_,_,h,_=>by simp at h
  | p :: P,w :: vs,0,m,nd,h1,h2,hk=>by
    simp at h1 h2; subst h1; subst h2
    show bindL kindOf ((p,w) :: P.zip vs) m p=_
    unfold bindL
    rw [bindL_out fun v hv=>(List.nodup_cons.mp nd).1 (List.of_mem_zip hv).1,if_pos hk]
    simp
  | p :: P,w :: vs,i + 1,m,nd,h1,h2,hk=>by
    show bindL kindOf ((p,w) :: P.zip vs) m x=_
    unfold bindL
    exact bindL_get (i:=i) (List.nodup_cons.mp nd).2 (by simpa using h1) (by simpa using h2) hk
theorem bindC_get {kindOf:Str→Option NameKind} {x:Str} {v:Value}:∀ {P:List Str} {vs:List Value} {i:Nat} {m:Str→Option Value},P.Nodup→P[i]? = some x→vs[i]? = some v→kindOf x≠some .local →
    bindC kindOf (P.zip vs) m x=some v
  | [],_,_,_,_,h,_,_=>by simp at h
  | _ :: _,[],_,_,_,_,h,_=>by simp at h
  | p :: P,w :: vs,0,m,nd,h1,h2,hk=>by
    simp at h1 h2; subst h1; subst h2
    show bindC kindOf ((p,w) :: P.zip vs) m p=_
    unfold bindC
    rw [bindC_out fun v hv=>(List.nodup_cons.mp nd).1 (List.of_mem_zip hv).1,if_neg hk]
    simp
  | p :: P,w :: vs,i + 1,m,nd,h1,h2,hk=>by
    show bindC kindOf ((p,w) :: P.zip vs) m x=_
    unfold bindC
    exact bindC_get (i:=i) (List.nodup_cons.mp nd).2 (by simpa using h1) (by simpa using h2) hk
noncomputable def start (N:List Str) (vs:List V):St:=vs.map some ++ List.replicate (N.length - vs.length) none
noncomputable def cxOf (CX:CXT) (P:Program) (w:World) (K:PySem.W.Frag) (mg:Str→Option Value) (base:Heap) (N:List Str) (qual:Str) (scope:Scope) (f:Addr) (cd:Value) (A:Around) (outer:List Env) (s:Shared) (H:Hp) (E:XK):Cx where
  prog:=P
  w:=w
  K:=K
  mg:=mg
  base:=base
  A:=A.deeper (envOfC qual scope s.heap.objs.size f cd)
  N:=N
  s₀:=s
  H₀:=H
  env:=envOfC qual scope s.heap.objs.size f cd
  outer:=outer
  stack:=envOfC qual scope s.heap.objs.size f cd :: outer
  ex:=[]
  calm:=true
  fn:=fun _=>true
  pn:=[]
  xe:=fun e s'=>wpAny (model P w) (A.deeper (envOfC qual scope s.heap.objs.size f cd)) (leaving (envOfC qual scope s.heap.objs.size f cd) e) (fun _ s''=>CX outer H s E e s'') (fun e' s''=>CX outer H s E e' s'') s'
theorem cell_has {sc:Scope} {n:Nat} {x:Str} (h:sc.names.lookup x=some .cell):∃ c,(cellsFrom n sc.names []).lookup x=some c:=by
  have q:=PySem.W.cellsFrom_some sc.names n [] (.inl h)
  exact Option.isSome_iff_exists.mp q
theorem inv_start {CX:CXT} {P:Program} {w:World} {K:PySem.W.Frag} {mg:Str→Option Value} {base:Heap} {N ps:List Str} {qual:Str} {scope:Scope} {f:Addr} {cd:Value} {A:Around} {outer:List Env} {s s1:Shared} {H:Hp} {E:XK} {us:List Value} {vs:List V}
    (S:FnScope N ps scope) (hd:A.handled=none) (e0:Env0 P w K mg base A outer s H) (hl:vs.length=ps.length) (r:Vals vs us)
    (x:InCallC s s.heap.objs.size (bindL (envOfC qual scope s.heap.objs.size f cd).kindOf (ps.zip us) fun _=>none) (cellsFrom (s.heap.objs.size + 1) scope.names []) (bindC (envOfC qual scope s.heap.objs.size f cd).kindOf (ps.zip us) fun _=>none) s1) :
    Inv (cxOf CX P w K mg base N qual scope f cd A outer s H E) [] (start N vs) H s1:=by
  have hpl:ps.length≤N.length:=by have:=congrArg List.length S.pre; rw [List.length_take] at this; omega
  obtain ⟨h1,tk,rfl,hk⟩:=x.done
  have noA:∀ b:Addr,b∉(cxOf CX P w K mg base N qual scope f cd A outer s H E).ex:=fun b z=>absurd (show b∈([]:List Addr) from z) (by simp)
  refine ⟨⟨e0.mod,S.kind,rfl,rfl,Nat.le_refl _,fun y z c h1 h2=>?_,fun y hy=>?_,fun y c _ h=>?_,fun _=>hd,Around.frames_deeper e0.frames,.inr ⟨rfl,rfl⟩,fun b z=>absurd z (noA b),e0.bs,e0.bsz,fun b _ _=>noA b,fun b z=>absurd z (noA b),e0.funs,e0.frf⟩,
    rfl,e0.bare,Un.kept hk,⟨_,x.toInCall.ns,fun i y v h1 h2 h3=>?_⟩,fun y c h=>⟨_,x.cell y c h⟩,e0.hok.fresh (Nat.le_refl _),fun y c h=>?_,fun p hp=>absurd (show p∈([]:List (Addr×Obj)) from hp) (by simp),e0.hok.kept hk,?_⟩
  · exact name_of_addr x.apart (PySem.mem_of_lookup h1) (PySem.mem_of_lookup h2)
  · have hy:scope.names.lookup y=some .cell∨scope.names.lookup y=some .free:=hy
    rcases hy with hy | hy
    · exact cell_has hy
    · exact absurd rfl (S.nofree _ (PySem.mem_of_lookup hy))
  · exact Nat.le_of_lt (x.above y c (PySem.mem_of_lookup h))
  · have hi:i < vs.length:=by
      unfold start at h2
      by_cases hi:i < vs.length
      · exact hi
      · rw [List.getElem?_append_right (by simpa using hi)] at h2
        rw [List.getElem?_replicate] at h2
        split at h2 <;> cases h2
    have ha:vs[i]? = some v:=by
      unfold start at h2
      rw [List.getElem?_append_left (by simpa using hi),List.getElem?_map] at h2
      cases e:vs[i]? with
      | none=>rw [e] at h2; cases h2
      | some a=>rw [e] at h2; cases h2; rfl
    obtain ⟨u,hu,rv⟩:=r.get ha
    have hp:ps[i]? = some y:=by
      rw [← S.pre,List.getElem?_take_of_lt (by omega)]; exact h1
    have ndP:ps.Nodup:=by rw [← S.pre]; exact S.nd.sublist (List.take_sublist _ _)
    refine ⟨u,rv,?_⟩
    rcases S.par y (List.mem_of_getElem? hp) with k | k
    · exact .inl ⟨k,bindL_get ndP hp hu k⟩
    · obtain ⟨c,e⟩:=cell_has (n:=s.heap.objs.size + 1) k
      refine .inr ⟨.inl k,c,e,?_⟩
      have q:=x.cell y c e
      rw [bindC_get ndP hp hu (by show scope.names.lookup y≠_; rw [k]; decide)] at q
      exact q
  · exact e0.hok.fresh (Nat.le_of_lt (x.above y c (PySem.mem_of_lookup h)))
  · unfold start
    show _=N.length
    rw [List.length_append,List.length_map,List.length_replicate]
    omega
theorem fn_of {CX:CXT} {P:Program} {w:World} {K:PySem.W.Frag} {mg:Str→Option Value} {base:Heap} {k:Nat} {f:Addr} {name qual:Str} {params:Arguments} {body:List Stmt} {scope:Scope} {dV kV doc pm cdv ct oc:Value} {an od:Option Addr}
    {osl:Array (Option Value)} {N ps:List Str} {sp:Sp} (lk:K.lookup f=some ⟨oc,od,.func (PySem.W.fnOf name qual params body scope dV kV doc pm an cdv ct),osl⟩) (hcd:PySem.W.codeIn K cdv qual=true) (S:FnScope N ps scope)
    (len:∀ vs H Q E,sp vs H Q E→vs.length=ps.length)
    (hbody:∀ (A:Around) (outer:List Env) (s:Shared) (H:Hp) (vs:List V) (Q:VK) (E:XK),Room k (A.deeper (envOfC qual scope s.heap.objs.size f cdv))→sp vs H Q E →
      ∃ t,PSs (cxOf CX P w K mg base N qual scope f cdv A outer s H E) body t∧t { nx:=fun _ H'=>Q .non H',rt:=Q } (start N vs) H) :
    FnOk P w K mg base CX (k + 1) f (PySem.W.fnOf name qual params body scope dV kV doc pm an cdv ct) ps sp:=by
  refine ⟨len,fun A outer s H args us vs Q E hr e0 hb r hsp=>?_⟩
  have hl:=len _ _ _ _ hsp
  have KX:K.In s.heap:=e0.mod.kin.keeps fun b o e=>(e0.bs b o e).1
  have lim:s.heap.NoLimit:=e0.mod.nolimit.keeps fun b o e=>(e0.bs b o e).1
  have hkind:∀ y∈ps.zip us,scope.names.lookup y.1=some .local∨(scope.names.lookup y.1=some .cell∧((cellsFrom (s.heap.objs.size + 1) scope.names []).lookup y.1).isSome=true):=fun ⟨n,v⟩ hy=>by
    rcases S.par n (List.of_mem_zip hy).1 with q | q
    · exact .inl q
    · exact .inr ⟨q,PySem.W.cellsFrom_some _ _ _ (.inl q)⟩
  refine codeAny_call_function hr.depth (KX _ _ lk) rfl S.co S.gen rfl (PySem.W.codeRec_of KX hcd) (hb _ _ _ _ ?_)
  refine wpAny_newFunctionEnv_cells S.kind hkind fun env he s1 x=>?_
  subst he
  refine ⟨lim.keeps x.toInCall.keep,codeAny_func ?_⟩
  obtain ⟨t,ht,hq⟩:=hbody A outer s H vs Q E (hr.deeper _) hsp
  have I:Inv (cxOf CX P w K mg base N qual scope f cdv A outer s H E) [] (start N vs) H s1:=inv_start S hr.hd e0 hl r x
  refine wpAny_mono (ht [] s1 (start N vs) H _ I hq) (fun fl s' hs=>?_) fun e s' hs=>hs
  have fin:∀ {σ':St} {H':Hp} {v:V} {u:Value},Inv (cxOf CX P w K mg base N qual scope f cdv A outer s H E) [] σ' H' s'→RelV v u→Q v H'→CE outer P w H s Q u s' :=
    fun {σ' H' v u} J rv q=>⟨v,H',J.os,J.bare,J.base,J.hok,rv,q⟩
  cases fl with
  | ret u =>
    obtain ⟨v,σ',H',J,rv,q⟩:=hs
    exact fin J rv q
  | next =>
    obtain ⟨σ',H',J,q⟩:=hs
    exact fin (v:=V.non) (u:=Value.none) J rfl q
  | brk =>
    obtain ⟨_,_,_,q⟩:=hs
    exact False.elim q
  | cont =>
    obtain ⟨_,_,_,q⟩:=hs
    exact False.elim q
end L2
namespace L2
open PySem PySem.Spec PyProof.Rows
section
variable {X:Cx} {x:Str} {p pos:Pos} {e:Expr} {es:List Expr} {t:TA} {id T:String} {r:List V→Hp→VK→Prop}
noncomputable def tCB (r:List V→Hp→VK→Prop) (t:TA):TE:=fun σ H Q=>t σ H fun vs H1=>r vs H1 Q
theorem pe_callB (hc:CallR X (.builtin id) r) (hg:Gl X x) (hm:X.mg x=none) (hv:bootBuiltins x=some (.builtin id)) (ha:PA X (e :: es) t) (hn:x≠"__name__":=by decide) (hdb:(x == ("__debug__":Str))=false:=by decide)
    (he:starEach (e :: es) X.env=(false,eval e X.env) :: starEach es X.env:=by rfl) (hpl:(backTo pos (starEach es X.env)).any (·.1)=false:=by rfl):PE X (.Call (.Name x p) (e :: es) [] pos) (tCB r t):=by
  intro pins s σ H Q I h
  refine wpAny_Call_Name_kw (ld_blt I hg hm hv ?_ hn hdb)
  exact PyProof.Rows.callWith_builtin1 (thn (ha pos pins s σ H _ I h) fun us s1 ⟨vs,H1,I1,r1,q1⟩=>hc pins s1 σ H1 vs us Q I1 r1 q1) he hpl
theorem pe_callTy (hc:CallR X (.type T) r) (hg:Gl X x) (hm:X.mg x=none) (hv:bootBuiltins x=some (.type T)) (ha:PA X (e :: es) t) (hn:x≠"__name__":=by decide) (hdb:(x == ("__debug__":Str))=false:=by decide)
    (he:starEach (e :: es) X.env=(false,eval e X.env) :: starEach es X.env:=by rfl) (hpl:(backTo pos (starEach es X.env)).any (·.1)=false:=by rfl):PE X (.Call (.Name x p) (e :: es) [] pos) (tCB r t):=by
  intro pins s σ H Q I h
  refine wpAny_Call_Name_kw (ld_blt I hg hm hv ?_ hn hdb)
  exact PyProof.Rows.callWith_type1 (thn (ha pos pins s σ H _ I h) fun us s1 ⟨vs,H1,I1,r1,q1⟩=>hc pins s1 σ H1 vs us Q I1 r1 q1) he hpl
end
end L2
namespace HT
open PySem PyProof.Rows
section
open PySem.SeqAt
open PySem.AutoSeq1 (wpAny_loadPart')
open PySem.MeetsSeq PySem.MeetsSeq2 PySem.MeetsSeq3
end
section
variable {prog:Program} {w:World} {A:Around} {E:Value→Shared→Prop} {s:Shared}
theorem cat_tup {t b:Addr} {vs ws:List Value} {Q:Value→Shared→Prop} (ht:IsTup s.heap t vs.toArray) (hb:IsTup s.heap b ws.toArray) (hv:vs≠[])
    (h1:ws=[]→Q (.ref t) s) (h2:ws≠[]→Q (.ref s.heap.objs.size) { s with heap:=s.heap.push { cls:=.type "tuple",data:=.seq (vs ++ ws).toArray } })
    (hsz:vs.length + ws.length≤sizeLine):wpAny (model prog w) A (binaryOp .Add (.ref t) (.ref b)) Q E s:=by
  obtain ⟨⟨cls,dd,data,sl⟩,ho,hc,n,hd⟩:=id ht
  obtain ⟨⟨cls2,dd2,data2,sl2⟩,ho2,hc2,n2,hd2⟩:=id hb
  simp only at hc hd hc2 hd2
  subst hc hd hc2 hd2
  have e:vs.toArray ++ ws.toArray=(vs ++ ws).toArray:=by simp
  by_cases hw:ws=[]
  · exact concat_meets ⟨_,ho,rfl⟩ ⟨_,ho2,rfl⟩ noFill_tuple_add seq_tuple_add PySem.F.slot_tuple_add PySem.F.entry_tuple_add (PySem.F.args_tuple_add_2 _ _)
      (tuple_addW1 t b vs.toArray ws.toArray n n2 dd dd2 sl sl2 (by simpa using hv) (by simp [hw])) ⟨ho,ho2,h1 hw⟩
  · refine concat_meets ⟨_,ho,rfl⟩ ⟨_,ho2,rfl⟩ noFill_tuple_add seq_tuple_add PySem.F.slot_tuple_add PySem.F.entry_tuple_add (PySem.F.args_tuple_add_2 _ _)
      (tuple_addW2 t b vs.toArray ws.toArray n n2 dd dd2 sl sl2 (by simpa using hv) (by simpa using hw) (by rw [List.size_toArray,List.size_toArray]; exact hsz)) ⟨ho,ho2,?_⟩
    rw [e]
    exact h2 hw
noncomputable def sIx (n d:Nat):Option Int→Nat
  | none=>d
  | some v=>if v < 0 then (v + (n:Int)).toNat else min v.toNat n
end
end HT
namespace L2
open PySem PySem.Spec PyProof.Rows
noncomputable abbrev TO:=St→Hp→(Option Int→Hp→Prop)→Prop
noncomputable def PO (X:Cx) (e:Option Expr) (t:TO):Prop :=
  ∀ (pins:List (Addr×Obj)) (s:Shared) (σ:St) (H:Hp) (Q:Option Int→Hp→Prop),Inv X pins σ H s→t σ H Q →
    wpAny (model X.prog X.w) X.A (evalPart e X.env) (fun u s'=>∃ o H',Inv X pins σ H' s'∧IsPart u o∧Q o H') X.xe s
theorem intsAre_of {ns:List Int}:∀ {us:List Value},Vals (ns.map V.int) us→IntsAre us ns:=by
  induction ns with
  | nil=>intro us r; rw [List.map_nil] at r; cases r; exact .nil
  | cons n ns ih =>
    intro us r
    rw [List.map_cons] at r
    cases r with
    | cons r1 r2 =>
      obtain ⟨t,e⟩:=r1
      subst e
      exact .cons n t (ih r2)
section
variable {X:Cx} {e:Expr} {te:TE} {lo hi:Option Expr} {tl th:TO} {pos p2:Pos}
noncomputable def SlR (X:Cx) (r:V→Option Int→Option Int→Hp→VK→Prop):Prop :=
  ∀ (pins:List (Addr×Obj)) (s:Shared) (σ:St) (H:Hp) (x:V) (v vl vu:Value) (lo hi:Option Int) (sl:Addr) (Q:VK),Inv X pins σ H s→RelV x v→s.heap.IsSliceOf sl vl vu .none→IsPart vl lo→IsPart vu hi→r x lo hi H Q →
    ∃ T id,typeLookup (.type T) "__getitem__"=pure (some (.builtin id))∧s.TypeIs v T∧wpAny (model X.prog X.w) X.A (getItem v (.ref sl)) (EP X pins σ Q) X.xe s
noncomputable def cutV (xs:List V) (lo hi:Option Int):List V:=(xs.drop (HT.sIx xs.length 0 lo)).take (HT.sIx xs.length xs.length hi - HT.sIx xs.length 0 lo)
theorem cutV_length (xs:List V) (lo hi:Option Int):(cutV xs lo hi).length≤xs.length:=by
  unfold cutV
  rw [List.length_take,List.length_drop]
  omega
noncomputable def rCatT (K:PySem.W.Frag):R2:=fun x y H Q=>∃ a b xs ys,x=.ref a∧y=.ref b∧SqT K H a xs∧SqT K H b ys∧xs≠[]∧xs.length + ys.length≤sizeLine ∧
  (ys=[]→Q (.ref a) H)∧(ys≠[]→∀ p,H p=none→Q (.ref p) (upd H p (.tup (xs ++ ys))))
theorem Vals.nil_iff {xs:List V} {us:List Value} (r:Vals xs us):us=[]↔xs=[]:=by
  cases r with
  | nil=>simp
  | cons _ _=>simp
theorem op_catT:OpR X (binaryOp .Add) (rCatT X.K):=by
  intro pins s σ H x y v u Q I rx ry h
  obtain ⟨a,b,xs,ys,rfl,rfl,ha,hb,hx,hz,q1,q2⟩:=h
  cases rx
  cases ry
  obtain ⟨its,r1,p1,_⟩:=I.tuple ha
  obtain ⟨its2,r2,p2,_⟩:=I.tuple hb
  refine HT.cat_tup p1 p2 (fun z=>hx (r1.nil_iff.mp z)) (fun z=>⟨.ref a,H,I,rfl,q1 (r2.nil_iff.mp z)⟩) (fun z=>?_) (by rw [← r1.length,← r2.length]; exact hz)
  refine ⟨.ref s.heap.objs.size,_,I.laid (t':=s.toks) (o:=.tup (xs ++ ys)) (fun b ob q=>Heap.get?_push_of_some _ q) (Nat.le_refl _) ?_,rfl,q2 (fun w=>z (r2.nil_iff.mpr w)) _ (I.hok.fresh (Nat.le_refl _))⟩
  exact ⟨by rw [List.length_append]; exact hz,_,r1.append r2,TupN.new _ _⟩
end
end L2
namespace L2
open PySem PySem.Spec PyProof.Rows
noncomputable def ixN (n:Nat) (i:Int):Option Nat:=if 0≤i then (if i < n then some i.toNat else none) else if -(n:Int)≤i then some (i + n).toNat else none
noncomputable def atI {α:Type} (xs:List α) (i:Int):Option α:=(ixN xs.length i).bind fun j=>xs[j]?
theorem ixN_seq {n:Nat} {i:Int} {j:Nat} (h:ixN n i=some j):seqIndex? i n=some j∧j < n∧-(n:Int)≤i∧i < n:=by
  unfold ixN at h
  by_cases h0:0≤i
  · rw [if_pos h0] at h
    by_cases h1:i < n
    · rw [if_pos h1] at h
      have e:i.toNat=j:=Option.some.inj h
      exact ⟨by rw [seqIndex_of h0 h1,e],by omega,by omega,h1⟩
    · rw [if_neg h1] at h; cases h
  · rw [if_neg h0] at h
    by_cases h1:-(n:Int)≤i
    · rw [if_pos h1] at h
      have e:(i + n).toNat=j:=Option.some.inj h
      exact ⟨by rw [seqIndex_neg (by omega) h1,e],by omega,h1,by omega⟩
    · rw [if_neg h1] at h; cases h
theorem atI_get {α:Type} {xs:List α} {i:Int} {v:α} (h:atI xs i=some v):∃ j,seqIndex? i xs.length=some j∧xs[j]? = some v∧j < xs.length∧-(xs.length:Int)≤i∧i < xs.length:=by
  unfold atI at h
  cases e:ixN xs.length i with
  | none=>rw [e] at h; cases h
  | some j =>
    rw [e] at h
    obtain ⟨h1,h2,h3,h4⟩:=ixN_seq e
    exact ⟨j,h1,h,h2,h3,h4⟩
theorem atI_nat {α:Type} {xs:List α} {j:Nat} {v:α} (h:xs[j]? = some v):atI xs (j:Int)=some v:=by
  have hj:j < xs.length:=(List.getElem?_eq_some_iff.mp h).1
  have e:ixN xs.length (j:Int)=some j:=by
    unfold ixN
    rw [if_pos (by omega),if_pos (by omega)]; simp
  unfold atI; rw [e]; exact h
noncomputable def PlainIx (b:Expr):Prop:=∀ o i,subscripted b false o i=operate [o,i] (getItem o i)
noncomputable def IxR (X:Cx) (r:R2):Prop :=
  ∀ (value slice:Expr) (pins:List (Addr×Obj)) (s:Shared) (σ:St) (H:Hp) (x y:V) (v u:Value) (Q:VK),Inv X pins σ H s→RelV x v→RelV y u→r x y H Q →
    subscripted slice false v u=operate [v,u] (getItem v u)→wpAny (model X.prog X.w) X.A (subscriptTail value slice v u) (EP X pins σ Q) X.xe s
noncomputable def MtR (X:Cx) (id:String) (r:V→List V→Hp→VK→Prop):Prop :=
  ∀ (pins:List (Addr×Obj)) (s:Shared) (σ:St) (H:Hp) (x:V) (xs:List V) (v:Value) (us:List Value) (Q:VK),Inv X pins σ H s→RelV x v→Vals xs us→r x xs H Q →
    wpAny (model X.prog X.w) X.A (call (.builtin id) (v :: us)) (EP X pins σ Q) X.xe s
section
variable {X:Cx} {a b:Expr} {ta tb:TE} {pos:Pos}
theorem pe_ix {r:R2} (hr:IxR X r) (ha:PE X a ta) (hb:PE X b tb) (hs:PlainIx b):PE X (.Subscript a b pos) (tOp r ta tb):=by
  intro pins s σ H Q I h
  exact Subscript_ (binT ha hb I h fun v u s2 x y H2 I2 rx ry q=>hr a b pins s2 σ H2 x y v u Q I2 rx ry q (hs _ _))
noncomputable def rIxL (K:PySem.W.Frag):R2:=fun x y H Q=>∃ p xs i v,x=.ref p∧y=.int i∧SqL K H p xs∧atI xs i=some v∧Q v H
noncomputable def rIxT (K:PySem.W.Frag):R2:=fun x y H Q=>∃ p xs i v,x=.ref p∧y=.int i∧SqT K H p xs∧atI xs i=some v∧Q v H
theorem ix_list:IxR X (rIxL X.K):=by
  intro value slice pins s σ H x y v u Q I rx ry h hs
  obtain ⟨p,xs,i,z,rfl,rfl,hq,he,q⟩:=h
  cases rx
  obtain ⟨t,rfl⟩:=ry
  obtain ⟨its,r,pl,hz⟩:=I.list hq
  obtain ⟨j,h1,h2,h3,h4,h5⟩:=atI_get he
  obtain ⟨w,ew,rw'⟩:=r.get h2
  have hl:=r.length
  have hn:=line63
  have fin:EP X pins σ Q w s:=⟨z,H,I,rw',q⟩
  by_cases h0:0≤i
  · have hj:i.toNat=j:=by
      rw [seqIndex_of h0 h5] at h1
      exact Option.some.inj h1
    exact item_listR pl.isList h0 (by omega) (by rw [hj]; simpa using ew) fin hs
  · have hj:(i + (its.toArray.size:Int)).toNat=j:=by
      rw [seqIndex_neg (by omega) h4] at h1
      rw [List.size_toArray,← hl]
      exact Option.some.inj h1
    exact subscriptTail_builtinR (x:=w) pl.isList.typeIs slot_list_getitem.lookup
      (wpAny_getItem_list_neg (Q:=fun r s'=>r=w∧EP X pins σ Q r s') pl.isList (by omega) (by rw [List.size_toArray] <;> omega) (by omega) (by rw [hj]; simpa using ew) ⟨rfl,fin⟩) hs
theorem ix_tup:IxR X (rIxT X.K):=by
  intro value slice pins s σ H x y v u Q I rx ry h hs
  obtain ⟨p,xs,i,z,rfl,rfl,hq,he,q⟩:=h
  cases rx
  obtain ⟨t,rfl⟩:=ry
  obtain ⟨its,r,pl,hz⟩:=I.tuple hq
  obtain ⟨j,h1,h2,h3,h4,h5⟩:=atI_get he
  obtain ⟨w,ew,rw'⟩:=r.get h2
  have hl:=r.length
  have hn:=line63
  have fin:EP X pins σ Q w s:=⟨z,H,I,rw',q⟩
  exact subscriptTail_builtinR (x:=w) pl.typeIs slot_tuple_getitem.lookup
    (getItem_tuple (j:=j) (Q:=fun r s'=>r=w∧EP X pins σ Q r s') pl (by omega) (by omega) (by rw [List.size_toArray,← hl]; exact h1) (by simpa using ew) ⟨rfl,fin⟩) hs
theorem mapSeq_set (its:List Value) (n j:Nat) (u:Value):Obj.mapSeq (·.setIfInBounds j u) { cls:=.type "list",data:=.seq its.toArray n }={ cls:=.type "list",data:=.seq (its.set j u).toArray n }:=by
  simp [Obj.mapSeq]
theorem Inv.lst {pins:List (Addr×Obj)} {σ:St} {H:Hp} {s:Shared} {p:Addr} {xs:List V} (I:Inv X pins σ H s) (h:H p=some (.lst xs)) :
    ∃ (its:List Value) (n:Nat),Vals xs its∧s.heap.get? p=some { cls:=.type "list",data:=.seq its.toArray n }∧xs.length≤sizeLine:=by
  obtain ⟨z,its,n,r,e⟩:=I.hok p _ h
  exact ⟨its,n,r,e,z⟩
theorem Inv.lstUpd {pins:List (Addr×Obj)} {σ:St} {H:Hp} {s:Shared} {p:Addr} {xs ys:List V} {its its':List Value} {n n':Nat} {f:Obj→Obj} (I:Inv X pins σ H s) (h:H p=some (.lst xs))
    (ho:s.heap.get? p=some { cls:=.type "list",data:=.seq its.toArray n }) (hf:f { cls:=.type "list",data:=.seq its.toArray n }={ cls:=.type "list",data:=.seq its'.toArray n' }) (r:Vals ys its') (hz:ys.length≤sizeLine) (t:Nat) :
    Inv X pins σ (upd H p (.lst ys)) { s with heap:=s.heap.update p f,toks:=t }:=by
  have e:(s.heap.update p f).get? p=some { cls:=.type "list",data:=.seq its'.toArray n' }:=by
    rw [Heap.get?_update_self f ho (by rw [hf] <;> rfl),hf]
  refine I.write (x:=p) (e:=p) (by rw [h]; trivial) (.inl rfl) (fun b u hb q=>(Heap.get?_update_other _ _ (Ne.symm hb)).trans q) ⟨_,e⟩ ?_
  exact ⟨hz,its',n',r,e⟩
noncomputable def rSetL:V→V→V→Hp→(Hp→Prop)→Prop:=fun o i v H Q=>∃ p xs k j,o=.ref p∧i=.int k∧H p=some (.lst xs)∧ixN xs.length k=some j∧Q (upd H p (.lst (xs.set j v)))
theorem set_list:PSet X rSetL:=by
  intro pins s σ H o i v ov iv u Q I ro ri rv h
  obtain ⟨p,xs,k,j,rfl,rfl,hp,hj,q⟩:=h
  cases ro
  obtain ⟨t,rfl⟩:=ri
  obtain ⟨its,n,r,ho,hz⟩:=I.lst hp
  obtain ⟨h1,h2,h3,h4⟩:=ixN_seq hj
  have hl:=r.length
  have hn:=line63
  have I':Inv X pins σ (upd H p (.lst (xs.set j v))) { s with heap:=s.heap.update p (Obj.mapSeq (·.setIfInBounds j u)) } :=
    I.lstUpd hp ho (mapSeq_set its n j u) (r.set rv j) (by rw [List.length_set]; exact hz) s.toks
  by_cases h0:0≤k
  · have hk:k.toNat=j:=by
      rw [seqIndex_of h0 h4] at h1
      exact Option.some.inj h1
    exact PySem.W.ki_setAt ho h0 (by omega) (by rw [List.size_toArray,← hl]; exact h4) (by rw [hk]; exact ⟨_,I',q⟩)
  · have hk:(k + (its.toArray.size:Int)).toNat=j:=by
      rw [seqIndex_neg (by omega) h3] at h1
      rw [List.size_toArray,← hl]
      exact Option.some.inj h1
    exact PySem.W.ki_setBack ho (by omega) (by rw [List.size_toArray,← hl]; exact h3) (by omega) (by rw [hk]; exact ⟨_,I',q⟩)
theorem slice_bounds (lo hi:Option Int) (n:Nat):(sliceBounds lo hi none n).1=((HT.sIx n 0 lo:Nat):Int)∧(sliceBounds lo hi none n).2.1=((HT.sIx n n hi:Nat):Int)∧(sliceBounds lo hi none n).2.2=1:=by
  refine ⟨?_,?_,rfl⟩
  · cases lo with
    | none=>simp [sliceBounds,HT.sIx]
    | some i =>
      simp only [sliceBounds,HT.sIx,Option.getD_none,show (1:Int) > 0 by decide,if_true]
      by_cases h:i < 0
      · simp only [h,if_true] <;> omega
      · simp only [h,if_false] <;> omega
  · cases hi with
    | none=>simp [sliceBounds,HT.sIx]
    | some i =>
      simp only [sliceBounds,HT.sIx,Option.getD_none,show (1:Int) > 0 by decide,if_true]
      by_cases h:i < 0
      · simp only [h,if_true] <;> omega
      · simp only [h,if_false] <;> omega
theorem slicePick_cut (its:List Value) (lo hi:Option Int):slicePick its.toArray lo hi none=((its.drop (HT.sIx its.length 0 lo)).take (HT.sIx its.length its.length hi - HT.sIx its.length 0 lo)).toArray:=by
  obtain ⟨h1,h2,h3⟩:=slice_bounds lo hi its.toArray.size
  unfold slicePick
  rw [h1,h2,h3]
  simp only [sliceRange_one,pick_run,List.size_toArray] <;> rfl
noncomputable def rSlL (K:PySem.W.Frag):V→Option Int→Option Int→Hp→VK→Prop:=fun x lo hi H Q=>∃ a xs,x=.ref a∧SqL K H a xs∧∀ p,H p=none→Q (.ref p) (upd H p (.lst (cutV xs lo hi)))
theorem sl_list:SlR X (rSlL X.K):=by
  intro pins s σ H x v vl vu lo hi sl Q I rx hs pl pu h
  obtain ⟨a,xs,rfl,hx,q⟩:=h
  cases rx
  obtain ⟨its,r,ht,hz⟩:=I.list hx
  have hlen:=r.length
  refine ⟨"list",_,slot_list_getitem.lookup,ht.isList.typeIs,?_⟩
  refine wpAny_getItem_list_slice ht.isList hs pl pu .none (by simp) ?_ (by rw [List.size_toArray] <;> omega)
  rw [slicePick_cut,← hlen]
  refine ⟨.ref s.heap.objs.size,_,I.laid (t':=s.toks) (o:=.lst (cutV xs lo hi)) (fun b ob q=>Heap.get?_push_of_some _ q) (Nat.le_refl _) ?_,rfl,q _ (I.hok.fresh (Nat.le_refl _))⟩
  exact ⟨Nat.le_trans (cutV_length xs lo hi) hz,_,0,(r.drop (HT.sIx xs.length 0 lo)).take (HT.sIx xs.length xs.length hi - HT.sIx xs.length 0 lo),Heap.get?_push_size _ rfl⟩
theorem call_len_seq:CallR X (.builtin "len") (fun xs H Q=>∃ p ys,xs=[.ref p]∧(SqL X.K H p ys∨SqT X.K H p ys)∧Q (.int ys.length) H):=by
  intro pins s σ H xs us Q I r h
  obtain ⟨p,ys,rfl,hq,q⟩:=h
  obtain ⟨u,rfl,rx⟩:=vals1 r
  cases rx
  have hn:=line63
  rcases hq with hq | hq
  · obtain ⟨its,r',pl,hz⟩:=I.list hq
    have hlen:=r'.length
    exact Calls.call_len_list pl.isList (by simp only [List.size_toArray] <;> omega) ⟨.int ys.length,H,I.tok _,⟨s.toks + 1,by rw [List.size_toArray,hlen]⟩,q⟩
  · obtain ⟨its,r',pl,hz⟩:=I.tuple hq
    have hlen:=r'.length
    exact len_tuple pl (by simp only [List.size_toArray] <;> omega) ⟨.int ys.length,H,I.tok _,⟨s.toks + 1,by rw [List.size_toArray,hlen]⟩,q⟩
theorem call_len_str:CallR X (.builtin "len") (fun xs H Q=>∃ z,xs=[.str z]∧z.length≤sizeLine∧Q (.int z.length) H):=by
  intro pins s σ H xs us Q I r h
  obtain ⟨z,rfl,hz,q⟩:=h
  obtain ⟨u,rfl,t,rfl⟩:=vals1 r
  have hn:=line63
  exact len_str (by omega) ⟨.int z.length,H,I.tok _,⟨_,rfl⟩,q⟩
theorem call_tuple_of:CallR X (.type "tuple") (fun xs H Q=>∃ p ys,xs=[.ref p]∧((SqL X.K H p ys∧∀ l,H l=none→Q (.ref l) (upd H l (.tup ys)))∨(SqT X.K H p ys∧Q (.ref p) H))):=by
  intro pins s σ H xs us Q I r h
  obtain ⟨p,ys,rfl,h⟩:=h
  obtain ⟨u,rfl,rx⟩:=vals1 r
  cases rx
  rcases h with ⟨hq,q⟩ | ⟨hq,q⟩
  · obtain ⟨its,r',pl,hz⟩:=I.list hq
    have hlen:=r'.length
    refine call_tuple_list pl.isList (fun h' kp=>?_) (by simp only [List.size_toArray] <;> omega)
    have I1:Inv X pins σ H { s with heap:=h' }:=I.kept (t':=s.toks) kp
    have I2:Inv X pins σ (upd H h'.objs.size (.tup ys)) { s with heap:=h'.push { cls:=.type "tuple",data:=.seq its.toArray } } :=
      I1.laid (t':=s.toks) (fun b o e=>Heap.get?_push_of_some _ e) (Nat.le_refl _) (show ObjOk X.prog X.w _ _ _ (.tup ys) from ⟨hz,its,r',TupN.new _ _⟩)
    exact ⟨.ref h'.objs.size,_,I2,rfl,q _ (I1.hok.fresh (Nat.le_refl _))⟩
  · obtain ⟨its,r',pl,hz⟩:=I.tuple hq
    exact call_tuple_same pl ⟨.ref p,H,I,rfl,q⟩
noncomputable def tyV (K:PySem.W.Frag) (T:String) (x:V) (H:Hp):Prop:=match x with
  | .str _=>T="str"
  | .int _=>T="int"
  | .ref p=>(T="list"∧∃ xs,SqL K H p xs)∨(T="tuple"∧((∃ xs,H p=some (.tup xs))∨∃ o,K.lookup p=some o∧o.cls=.type "tuple"∧o.dict=none)) ∨
      (T="dict"∧((∃ kvs,H p=some (.dK kvs))∨∃ kvs,H p=some (.dT kvs)))∨(T="set"∧∃ S n,H p=some (.set S n))
  | _=>False
theorem tyV_is {pins:List (Addr×Obj)} {σ:St} {H:Hp} {s:Shared} {T:String} {x:V} {v:Value} (I:Inv X pins σ H s) (r:RelV x v) (ty:tyV X.K T x H) :
    s.TypeIs v T∧∀ a,v=.ref a→∃ ob,s.heap.get? a=some ob∧ob.dict=none:=by
  cases x with
  | str z =>
    obtain ⟨t,rfl⟩:=r
    cases (show T="str" from ty)
    exact ⟨typeIs_str s z t,fun _ e=>nomatch e⟩
  | int i =>
    obtain ⟨t,rfl⟩:=r
    cases (show T="int" from ty)
    exact ⟨typeIs_int s i t,fun _ e=>nomatch e⟩
  | ref p =>
    cases r
    rcases ty with ⟨rfl,xs,hq⟩ | ⟨rfl,⟨xs,hk⟩ | ⟨o,hk,hc,hd⟩⟩ | ⟨rfl,hk⟩ | ⟨rfl,S,n,hk⟩
    · obtain ⟨its,_,pl,_⟩:=I.list hq
      refine ⟨pl.isList.typeIs,fun a e=>?_⟩
      cases e
      obtain ⟨o,n,e,c,hd,_⟩:=pl
      exact ⟨o,e,hd⟩
    · obtain ⟨_,its,_,o,e,c,_,hd⟩:=(show ObjOk X.prog X.w H s.heap p (.tup xs) from I.hok p _ hk)
      refine ⟨⟨o,e,c⟩,fun a e2=>?_⟩
      cases e2
      exact ⟨o,e,hd⟩
    · refine ⟨⟨o,I.kIn p o hk,hc⟩,fun a e=>?_⟩
      cases e
      exact ⟨o,I.kIn _ o hk,hd⟩
    · have z:∃ o,s.heap.get? p=some o∧o.ExactDict:=by
        rcases hk with ⟨kvs,hk⟩ | ⟨kvs,hk⟩
        · obtain ⟨_,_,_,_,o,_,_,e,ex,_⟩:=I.hok p _ hk
          exact ⟨o,e,ex⟩
        · obtain ⟨_,_,_,_,o,_,_,e,ex,_⟩:=I.hok p _ hk
          exact ⟨o,e,ex⟩
      obtain ⟨o,e,ex⟩:=z
      refine ⟨⟨o,e,ex.1⟩,fun a e2=>?_⟩
      cases e2
      exact ⟨o,e,ex.2.1⟩
    · obtain ⟨o,_,_,_,e,ex,_⟩:=I.hok p _ hk
      refine ⟨⟨o,e,ex.1⟩,fun a e2=>?_⟩
      cases e2
      exact ⟨o,e,ex.2.1⟩
  | _=>exact False.elim ty
noncomputable def tBM (K:PySem.W.Frag) (T:String) (r:V→List V→Hp→VK→Prop) (to:TE) (t:TA):TE:=fun σ H Q=>to σ H fun x H1=>tyV K T x H1∧t σ H1 fun xs H2=>r x xs H2 Q
variable {o e:Expr} {es:List Expr} {to:TE} {t:TA} {name:Str} {apos cpos:Pos} {T id:String} {r:V→List V→Hp→VK→Prop}
theorem pe_bm (pa:PlainAttrs T) (slot:Slot T name id) (hty:typeOf (.builtin id)=pure (.type "method_descriptor")) (hm:MtR X id r) (ho:PE X o to) (ha:PA X (e :: es) t)
    (hbase:attributeBase o name X.env (eval o X.env)=eval o X.env:=by rfl)
    (hfew:((backTo cpos (starEach (e :: es) X.env)).all (fun x=>!x.1) && (backToKw cpos (keywordEach [] X.env)).all (fun x=>x.1.isSome)
      && decide ((e :: es).length + ([]:List Keyword).length + (if ([]:List Keyword).isEmpty then 0 else 1) < 30))=true:=by rfl)
    (hline:(apos.endLine == cpos.line)=true:=by rfl) (hs:starEach (e :: es) X.env=(false,eval e X.env) :: starEach es X.env:=by rfl) (hplain:(backTo cpos (starEach es X.env)).any (·.1)=false:=by rfl) :
    PE X (.Call (.Attribute o name apos) (e :: es) [] cpos) (tBM X.K T r to t):=by
  intro pins s σ H Q I h
  refine wpAny_Call_method_late hbase hfew hline rfl (thn (ho pins s σ H _ I h) fun v s1 ⟨x,H1,I1,r1,ty,q1⟩=>?_)
  obtain ⟨h1,h2⟩:=tyV_is I1 r1 ty
  refine ⟨T,id,pa,slot,hty,h1,h2,?_⟩
  have hA:=ha cpos pins s1 σ H1 _ I1 q1
  rw [hs] at hA ⊢
  refine Calls.callWith_builtin (by show (false || (backTo cpos (starEach es X.env)).any (·.1))=false; rw [hplain] <;> rfl) (Calls.evalArgs_plain ?_)
  exact thn hA fun us s2 ⟨vs,H2,I2,r2,q2⟩=>hm pins s2 σ H2 x vs v us Q I2 r1 r2 q2
end
end L2
namespace L2
open PySem PySem.Spec PyProof.Rows
noncomputable def MtM (X:Cx) (id:String) (r:V→List V→Hp→VK→Prop):Prop :=
  ∀ (pins:List (Addr×Obj)) (s:Shared) (σ:St) (H:Hp) (x:V) (xs:List V) (v:Value) (us:List Value) (Q:VK),Inv X pins σ H s→RelV x v→Vals xs us→r x xs H Q →
    wpAny (model X.prog X.w) X.A (call (.builtin id) (v :: us)) (EP X pins σ Q) X.xe s
theorem Vals.one:∀ {x:V} {us:List Value},Vals [x] us→∃ u,us=[u]∧RelV x u
  | _,_,.cons r .nil=>⟨_,rfl,r⟩
theorem Vals.two:∀ {x y:V} {us:List Value},Vals [x,y] us→∃ u v,us=[u,v]∧RelV x u∧RelV y v
  | _,_,_,.cons r (.cons q .nil)=>⟨_,_,rfl,r,q⟩
theorem Vals.eraseIdx:∀ {xs:List V} {us:List Value} (i:Nat),Vals xs us→Vals (xs.eraseIdx i) (us.eraseIdx i)
  | _,_,_,.nil=>.nil
  | _,_,0,.cons _ t=>t
  | _,_,i + 1,.cons r t=>.cons r (Vals.eraseIdx i t)
theorem len_erase {α:Type}:∀ (l:List α) (i:Nat),(l.eraseIdx i).length≤l.length
  | [],_=>Nat.le_refl _
  | _ :: _,0=>Nat.le_succ _
  | _ :: r,i + 1=>Nat.succ_le_succ (len_erase r i)
section
variable {X:Cx} {pins:List (Addr×Obj)} {σ:St} {H:Hp} {s:Shared} {l b:Addr} {xs ys zs:List V}
theorem Inv.lset {its its':List Value} {n:Nat} {f:Array Value→Array Value} {t':Nat} (I:Inv X pins σ H s) (hH:H l=some (.lst xs))
    (e:s.heap.get? l=some { cls:=.type "list",data:=.seq its.toArray n }) (hf:f its.toArray=its'.toArray) (hv:Vals ys its') (hz:ys.length≤sizeLine) :
    Inv X pins σ (upd H l (.lst ys)) { s with heap:=s.heap.update l (Obj.mapSeq f),toks:=t' }:=by
  have q:=PySem.IsL.update e f
  rw [hf] at q
  refine I.write (x:=l) (e:=l) (by rw [hH]; exact trivial) (.inl rfl) (fun b' u hb hu=>(Heap.get?_update_other s.heap (Obj.mapSeq f) (Ne.symm hb)).trans hu) ⟨_,q⟩ ?_
  exact ⟨hz,its',_,hv,q⟩
theorem Inv.lnew {its:List Value} {t':Nat} (I:Inv X pins σ H s) (hv:Vals ys its) (hz:ys.length≤sizeLine) :
    Inv X pins σ (upd H s.heap.objs.size (.lst ys)) { s with heap:=s.heap.push { cls:=.type "list",data:=.seq its.toArray },toks:=t' } :=
  I.laid (fun _ _ q=>Heap.get?_push_of_some _ q) (Nat.le_refl _) ⟨hz,its,0,hv,Heap.get?_push_size _ rfl⟩
theorem Inv.fresh (I:Inv X pins σ H s):H s.heap.objs.size=none:=I.hok.fresh (Nat.le_refl _)
theorem Inv.lstM (I:Inv X pins σ H s) (hH:H l=some (.lst xs)):xs.length≤sizeLine∧∃ (its:List Value) (n:Nat),Vals xs its∧xs.length=its.length∧s.heap.get? l=some { cls:=.type "list",data:=.seq its.toArray n }:=by
  obtain ⟨z,its,n,r,e⟩:=I.hok l _ hH
  exact ⟨z,its,n,r,r.length,e⟩
theorem notLongL {n:Nat} (h:n≤sizeLine):Builtin.List.listTooLong n=false:=by
  unfold Builtin.List.listTooLong
  exact decide_eq_false (by omega)
end
section
variable {X:Cx}
noncomputable def rAppend:V→List V→Hp→VK→Prop:=fun x vs H Q=>∃ l xs y,x=.ref l∧vs=[y]∧H l=some (.lst xs)∧xs.length < sizeLine∧Q .non (upd H l (.lst (xs ++ [y])))
theorem mt_append:MtM X "list.append" rAppend:=by
  intro pins s σ H x vs v us Q I rx rv h
  obtain ⟨l,xs,y,rfl,rfl,hH,hz,q⟩:=h
  cases rx
  obtain ⟨u,rfl,ru⟩:=rv.one
  obtain ⟨z,its,n,r,hl,e⟩:=I.lstM hH
  refine call_meets F.slot_list_append ⟨_,e,rfl⟩ F.entry_list_append (F.args_list_append_2 _ _) (PySem.list_append l its.toArray n u (by rw [List.size_toArray]; omega)) ⟨e,?_⟩
  refine ⟨.non,_,I.lset (its':=its ++ [u]) hH e (by simp) (r.append (.cons ru .nil)) ?_,rfl,q⟩
  rw [List.length_append,List.length_singleton]
  omega
noncomputable def rExtend:V→List V→Hp→VK→Prop:=fun x vs H Q=>∃ l b xs zs,x=.ref l∧vs=[.ref b]∧H l=some (.lst xs)∧H b=some (.lst zs)∧xs.length + zs.length≤sizeLine∧Q .non (upd H l (.lst (xs ++ zs)))
theorem mt_extend:MtM X "list.extend" rExtend:=by
  intro pins s σ H x vs v us Q I rx rv h
  obtain ⟨l,b,xs,zs,rfl,rfl,hH,hB,hz,q⟩:=h
  cases rx
  obtain ⟨u,rfl,ru⟩:=rv.one
  cases ru
  obtain ⟨z,its,n,r,hl,e⟩:=I.lstM hH
  obtain ⟨z2,its2,n2,r2,hl2,e2⟩:=I.lstM hB
  have hsz:its.toArray.size + its2.toArray.size≤sizeLine:=by rw [List.size_toArray,List.size_toArray]; omega
  have hlong:¬ (!its.toArray.isEmpty && Builtin.List.listTooLong (its.toArray.size + its2.toArray.size))=true:=by
    rw [notLongL hsz,Bool.and_false]
    exact Bool.false_ne_true
  refine call_meets F.slot_list_extend ⟨_,e,rfl⟩ F.entry_list_extend (F.args_list_extend_2 _ _)
    (AutoSeq1.list_extend_list_list_0 l its.toArray n b its2.toArray n2 hlong (by rw [List.size_toArray]; omega) (by omega)) ⟨e,e2,?_⟩
  refine ⟨.non,_,I.lset (its':=its ++ its2) hH e (by simp) (r.append r2) ?_,rfl,q⟩
  rw [List.length_append]
  omega
noncomputable def rPopAt:V→List V→Hp→VK→Prop:=fun x vs H Q=>∃ l xs i k y,x=.ref l∧vs=[.int i]∧H l=some (.lst xs)∧-(2 ^ 63)≤i∧i < 2 ^ 63∧seqIndex? i xs.length=some k∧xs[k]? = some y∧Q y (upd H l (.lst (xs.eraseIdx k)))
theorem mt_popAt:MtM X "list.pop" rPopAt:=by
  intro pins s σ H x vs v us Q I rx rv h
  obtain ⟨l,xs,i,k,y,rfl,rfl,hH,h1,h2,hk,hy,q⟩:=h
  cases rx
  obtain ⟨u,rfl,ru⟩:=rv.one
  obtain ⟨t,rfl⟩:=ru
  obtain ⟨z,its,n,r,hl,e⟩:=I.lstM hH
  obtain ⟨w,hw,rw'⟩:=r.get hy
  refine call_meets F.slot_list_pop ⟨_,e,rfl⟩ F.entry_list_pop (F.args_list_pop_2 _ _)
    (MeetsSeq.list_pop_at l its.toArray n i t k w (fitsIndex_both h1 h2) (by rw [List.size_toArray,← hl]; exact hk) (by rw [← Array.getElem?_toList]; exact hw) (by rw [List.size_toArray]; omega)) ⟨e,?_⟩
  refine ⟨y,_,I.lset (its':=its.eraseIdx k) hH e ?_ (r.eraseIdx k) ?_,rw',q⟩
  · show its.toArray.eraseIdxIfInBounds k=(its.eraseIdx k).toArray
    rw [List.eraseIdxIfInBounds_toArray]
  · have:=len_erase xs k
    omega
noncomputable def rCat:R2:=fun x y H Q=>∃ l b xs zs,x=.ref l∧y=.ref b∧H l=some (.lst xs)∧H b=some (.lst zs)∧xs.length + zs.length≤sizeLine∧∀ p,H p=none→Q (.ref p) (upd H p (.lst (xs ++ zs)))
theorem op_cat:OpR X (binaryOp .Add) rCat:=by
  intro pins s σ H x y v u Q I rx ry h
  obtain ⟨l,b,xs,zs,rfl,rfl,hH,hB,hz,q⟩:=h
  cases rx
  cases ry
  obtain ⟨z,its,n,r,hl,e⟩:=I.lstM hH
  obtain ⟨z2,its2,n2,r2,hl2,e2⟩:=I.lstM hB
  refine PySem.P.add_list e e2 ?_ (by rw [List.size_toArray,List.size_toArray]; omega)
  have ea:its.toArray ++ its2.toArray=(its ++ its2).toArray:=by simp
  rw [ea]
  exact ⟨.ref _,_,I.lnew (t':=s.toks) (r.append r2) (by rw [List.length_append]; omega),rfl,q _ I.fresh⟩
end
section
variable {prog:Program} {w:World} {A:Around} {E:Value→Shared→Prop} {s:Shared}
set_option maxRecDepth 100000 in
end
section
variable {X:Cx}
end
end L2
namespace Att
open PySem PySem.W PySem.Calls PyProof.Rows
theorem ints_of_wellAll {P:Params} {h:Heap}:∀ (ns:List Int) (vs:List Value),WellAll P h vs (ns.map WData.int)→IntsAre vs ns:=by
  intro ns
  induction ns with
  | nil =>
    intro vs w
    rw [List.map_nil] at w
    cases w
    exact .nil
  | cons n ns ih =>
    intro vs w
    rw [List.map_cons] at w
    cases w with
    | cons a b =>
      cases a
      exact .cons _ _ (ih _ b)
theorem script_of {l:OpenLaw} {n:Nat} (hn:l.most=some n) {P:Params} {h:Heap} {args:List WData} {vals:List Value}
    (hpre:l.row.toRowW.claim.pre args=true) (hwl:WellAll P h vals args) :
    ∃ a vs ns,vals=[Value.ref a]∧args=[WData.list (ns.map WData.int)]∧h.get? a=some { cls:=.type "list",data:=.seq vs.toArray }∧IntsAre vs ns∧ns.length≤n:=by
  have hsh:WShape.hasAll [] args [.list .int]=true:=(pre_splitW hpre).1
  have hc:l.pre.holds [] { args:=args }=true:=(pre_splitW hpre).2
  obtain ⟨d,r,rfl,h1,h2⟩:=hasAllW_cons hsh
  obtain rfl:=hasAllW_nil h2
  obtain ⟨xs,rfl,h3⟩:=hasW_list h1
  obtain ⟨ns,rfl⟩:=items_int h3
  have hlen:ns.length≤n:=by
    unfold OpenLaw.pre at hc
    have h4:(WTm.not (.lt (.lit (.int (n:Int))) (.len (.arg 0)))).holds [] { args:=[.list (ns.map .int)] }=true:=by
      have h4:=(holds_andW hc).1
      rw [hn] at h4
      exact h4
    have h5:=condW_of h4 (w_not (w_lt w_lit (w_len_list (w_arg rfl))))
    rw [List.length_map] at h5
    refine Nat.le_of_not_lt fun q=>?_
    have q':(n:Int) < ((ns.length:Nat):Int):=by omega
    first
      | (rw [decide_eq_true q'] at h5; exact absurd h5 (by decide))
      | (simp at h5; omega)
  cases hwl with
  | cons w1 w2 =>
    cases w2
    cases w1 with
    | list ho hall=>exact ⟨_,_,ns,rfl,rfl,ho,ints_of_wellAll ns _ hall,hlen⟩
theorem post_true (l:OpenLaw) (args:List WData):l.row.toRowW.claim.post args (.bool true) args=true :=
  postW_of (r:=l.row.toRowW) (X:=(true == true))
    (show WShape.has [] (.bool true) .bool=true by first | rfl | decide | simp [WShape.has,WShape.arms,WShape.armsAll])
    (show (WTm.eq .res (.lit (.bool true))).value [] { args:=args,res:=some (.bool true),after:=args }=some (.bool (true == true)) from w_eq_bool (w_res rfl) w_lit) rfl
theorem attach_call {l:OpenLaw} {n:Nat} {q:Program} {loose:List Str} {XP:(Str→Option Value)→Heap→Prop} {YP:World→Heap→Prop} {d:DefRec}
    (hn:l.most=some n) (hdf:d.params.defaults=[])
    (call:∀ (w:World) (s₀ s₁:Shared) (mg mb:Str→Option Value) (fa:Addr) (o:Obj) (pm cd doc:Value) (a:Addr) (vs:List Value) (ns:List Int),
      Ground q loose [] XP w s₀ mg mb s₁.heap→YP w s₁.heap →
      s₁.heap.get? fa=some o→o.data=.func (docDef d.name d.params d.body d.scope pm cd doc)→s₁.heap.CodeRec cd d.name→mg d.name=some (.ref fa) →
      s₁.heap.get? a=some { cls:=.type "list",data:=.seq vs.toArray }→IntsAre vs ns→ns.length≤n→s₁.gens=#[] →
      codeAny (model l.prog w) callerA (.call (.ref fa) ⟨[.ref a],[]⟩) (fun r s'=>r=.ok (.ret (.bool true))∧OldK s₁.heap s'.heap∧s'.os=s₁.os∧AllBare s'.gens) s₁) :
    WalkO q loose XP YP l.row.toRowW d [] (fun f vs=>PySem.call f vs):=by
  intro w s₀ s₁ mg mb G Y fa o pm cd doc dV kV ho hd hcd hD hmg hg args vals as hpre hlay hrd hwl hlo
  obtain rfl:dV=.none:=Dflts.none hD hdf
  obtain rfl:kV=.none:=Dflts.noKw hD
  obtain ⟨a,vs,ns,rfl,rfl,hobj,hints,hlen⟩:=script_of hn hpre hwl
  refine enter_call (codeAny_mono (call w s₀ s₁ mg mb fa o pm cd doc a vs ns G Y ho (fd_plain hd) hcd hmg hobj hints hlen hg) fun r s' hq=>?_)
  obtain ⟨rfl,h2,h3,h4⟩:=hq
  exact ⟨.inl ⟨.bool true,.bool true,[],rfl,fun _=>rfl,.bool true,post_true l _,fun _=>⟨List.Pairwise.nil,fun _ hm=>(nomatch hm)⟩⟩,h2,h3,h4⟩
section
variable {prog:Program} {w:World} {A:Around} {E:Value→Shared→Prop} {s:Shared} {K:Frag}
end
end Att
namespace L2
open PySem PySem.Spec PyProof.Rows
theorem vals_ints:∀ {vs:List Value} {ns:List Int},IntsAre vs ns→Vals (ns.map V.int) vs
  | _,_,.nil=>.nil
  | _,_,.cons n t h=>.cons ⟨t,rfl⟩ (vals_ints h)
noncomputable def Only (H:Hp):Prop:=∀ b,H b=none∨∃ o xs,H b=some (.frz o (.lst xs))
theorem law_call {P:Program} {w:World} {K:PySem.W.Frag} {mg mb:Str→Option Value} {CX:CXT} {k:Nat} {fa a:Addr} {fd:FuncData} {x:Str} {sp:Sp} {s₁:Shared} {vs:List Value} {ns:List Int}
    (KX:K.In s₁.heap) (hns:s₁.heap.Ns mainGlobals mg) (hb:s₁.heap.Ns builtinsNs mb) (hbb:∀ x:Str,x≠"__name__"→mb x=bootBuiltins x) (hlim:s₁.heap.NoLimit) (hg:s₁.gens=#[])
    (ha:s₁.heap.get? a=some { cls:=.type "list",data:=.seq vs.toArray }) (hi:IntsAre vs ns) (hl:ns.length≤sizeLine) (hr:Room k callerA)
    (F:∀ base:Heap,K.In base→base.Ns mainGlobals mg→FnOk P w K mg base CX k fa fd [x] sp) (hbind:∀ (s:Shared) (u:Value),BindsTo s fd ⟨[u],[]⟩ [(x,u)])
    (hsp:∀ H:Hp,Only H→SqL K H a (ns.map V.int)→sp [.ref a] H (fun v _=>v=.bl true) fun _ _ _=>False)
    (hCX:∀ H e s',CX [] H s₁ (fun _ _ _=>False) e s'→False) :
    codeAny (model P w) callerA (.call (.ref fa) ⟨[.ref a],[]⟩) (fun r s'=>r=.ok (.ret (.bool true))∧OldK s₁.heap s'.heap∧s'.os=s₁.os∧AllBare s'.gens) s₁:=by
  have rv:=vals_ints hi
  have lenV:=hi.length
  -- from an abstract heap in which nothing but the script may be tracked
  have core:∀ H:Hp,Only H→SqL K H a (ns.map V.int)→HOk P w H s₁.heap→(∀ b,H b≠none→b=a)→(H a≠none→K.lookup a=none) →
      codeAny (model P w) callerA (.call (.ref fa) ⟨[.ref a],[]⟩) (fun r s'=>r=.ok (.ret (.bool true))∧OldK s₁.heap s'.heap∧s'.os=s₁.os∧AllBare s'.gens) s₁:=by
    intro H hO hS hok hA hK
    have base_of:∀ {b:Addr} {o:Obj},s₁.heap.get? b=some o→H b=none→(hidT s₁.heap H).get? b=some o:=fun e n=>hidT_get e n
    have noA:∀ {b:Addr} {o:Obj} {es:Array DictEntry} {ep:Nat},s₁.heap.get? b=some o→o.data=.dict es ep→H b=none:=fun {b o es ep} e d=>by
      cases q:H b with
      | none=>rfl
      | some u =>
        have e':b=a:=hA b (by rw [q]; simp)
        subst e'
        rw [ha] at e; cases e
        have d':Data.seq vs.toArray _=Data.dict es ep:=d
        cases d'
    have nsK:∀ {b:Addr} {m:Str→Option Value},s₁.heap.Ns b m→(hidT s₁.heap H).Ns b m:=fun {b m} ⟨o,es,ep,e,d,r⟩=>⟨o,es,ep,base_of e (noA e d),d,r⟩
    have hKb:K.In (hidT s₁.heap H):=fun b o e=>base_of (KX b o e) (by
      cases q:H b with
      | none=>rfl
      | some u =>
        have e':b=a:=hA b (by rw [q]; simp)
        subst e'
        rw [hK (by rw [q]; simp)] at e; cases e)
    have hM:Mod K mg (hidT s₁.heap H):=⟨hKb,nsK hns,⟨mb,nsK hb,hbb⟩,let ⟨mc,h1,h2⟩:=hlim; ⟨mc,nsK h1,h2⟩⟩
    have e0:Env0 P w K mg (hidT s₁.heap H) callerA [] s₁ H:=⟨rfl,hM,fun b o e=>of_hidT e,Nat.le_of_eq (hidT_size _ _),trivial,fun b hb=>absurd (show b∈([]:List Addr) from hb) (by simp),hok,.of_eq hg⟩
    refine codeAny_mono ((F _ hKb (nsK hns)).run callerA [] s₁ H ⟨[.ref a],[]⟩ [.ref a] [.ref a] _ _ hr e0 (hbind s₁ (.ref a)) (.cons rfl .nil) (hsp H hO hS)) fun r s' h=>?_
    cases r with
    | error e=>exact (hCX H e s' h).elim
    | ok fl =>
      cases fl with
      | next=>exact False.elim h
      | brk=>exact False.elim h
      | cont=>exact False.elim h
      | ret u =>
        obtain ⟨v,H',os,bare,un,hok',r',q⟩:=h
        have q':v=.bl true:=q
        subst q'
        obtain rfl:u=Value.bool true:=r'
        refine ⟨rfl,OldK.of_keep fun b o e=>?_,os,bare⟩
        cases q:H b with
        | none=>exact un.keep b o e q (by intro z; exact absurd (show b∈([]:List Addr) from z) (by simp)) (by simp)
        | some u =>
          rcases hO b with z | ⟨ob,xs,z⟩
          · rw [q] at z; cases z
          · have z2:=un.frzs b ob _ z
            obtain ⟨e1,_⟩:=hok b _ z
            obtain ⟨e2,_⟩:=hok' b _ z2
            rw [e] at e1; cases e1
            exact e2
  cases hk:K.lookup a with
  | some o =>
    -- the script is one of the module's own objects
    have e:=KX a o hk
    rw [ha] at e
    cases e
    refine core (fun _=>none) (fun _=>.inl rfl) (.inr ⟨_,vs.toArray,_,hk,rfl,rfl,rfl,by rw [List.size_toArray,lenV]; exact hl,by simpa using rv⟩) (fun b u z=>by have z':(none:Option HO)=some u:=z; cases z') (fun b z=>absurd rfl z) fun z=>absurd rfl z
  | none =>
    refine core (fun b=>if b=a then some (.frz { cls:=.type "list",data:=.seq vs.toArray } (.lst (ns.map V.int))) else none) (fun b=>?_) (.inl (.inr ⟨{ cls:=.type "list",data:=.seq vs.toArray },if_pos rfl⟩)) (fun b u z=>?_) (fun b z=>?_) fun _=>hk
    · by_cases hb:b=a
      · exact .inr ⟨_,_,if_pos hb⟩
      · exact .inl (if_neg hb)
    · by_cases hb:b=a
      · have z':=(if_pos hb).symm.trans z
        cases z'
        subst hb
        exact ⟨ha,by rw [List.length_map]; exact hl,vs,_,rv,ha⟩
      · have z':=(if_neg hb).symm.trans z
        cases z'
    · by_cases hb:b=a
      · exact hb
      · exact absurd (if_neg hb) z
end L2
namespace L2
open PySem PySem.Spec PyProof.Rows
theorem walk_of {l:PySem.W.OpenLaw} {n k:Nat} {q:Program} {loose:List Str} {XP:(Str→Option Value)→Heap→Prop} {YP:World→Heap→Prop} {d:DefRec} {K:Params→PySem.W.Frag} {CX:World→CXT} {sp:World→Sp} {x:Str}
    (hn:l.most=some n) (hn2:n≤sizeLine) (hdf:d.params.defaults=[]) (hr:Room k callerA)
    (hY:∀ (w:World) (h:Heap),YP w h→(K w.params).In h)
    (F:∀ (w:World) (mg:Str→Option Value) (fa:Addr) (h:Heap),(K w.params).In h→h.Ns mainGlobals mg→mg d.name=some (.ref fa) →
      ∃ fd:FuncData,(∀ (s:Shared) (u:Value),BindsTo s fd ⟨[u],[]⟩ [(x,u)]) ∧
        ∀ base:Heap,(K w.params).In base→base.Ns mainGlobals mg→FnOk l.prog w (K w.params) mg base (CX w) k fa fd [x] (sp w))
    (hsp:∀ (w:World) (H:Hp) (a:Addr) (ns:List Int),ns.length≤n→Only H→SqL (K w.params) H a (ns.map V.int)→sp w [.ref a] H (fun v _=>v=.bl true) fun _ _ _=>False)
    (hCX:∀ (w:World) (H:Hp) (s:Shared) (e:Value) (s':Shared),CX w [] H s (fun _ _ _=>False) e s'→False) :
    PySem.W.WalkO q loose XP YP l.row.toRowW d [] (fun f vs=>PySem.call f vs):=by
  refine Att.attach_call hn hdf fun w s₀ s₁ mg mb fa o pm cd doc a vs ns G Y ho hd hcd hmg hobj hints hlen hg=>?_
  have KX:=hY w _ Y
  obtain ⟨fd,hb,hF⟩:=F w mg fa _ KX G.T.g hmg
  exact law_call KX G.T.g G.T.b G.T.builtins G.T.nolimit hg hobj hints (Nat.le_trans hlen hn2) hr hF hb (fun H hO hS=>hsp w H a ns hlen hO hS) fun H e s'=>hCX w H s₁ e s'
end L2
namespace L2
open PySem PySem.Spec PyProof.Rows
noncomputable def defArgs (s:Stmt):Arguments:=match s with
  | .FunctionDef _ a _ _ _ _ _ _ _ _=>a
  | _=>{ posonlyargs:=[],args:=[],vararg:=none,kwonlyargs:=[],kw_defaults:=[],kwarg:=none,defaults:=[] }
noncomputable def defBody (s:Stmt):List Stmt:=match s with
  | .FunctionDef _ _ b _ _ _ _ _ _ _=>b
  | _=>[]
noncomputable def defScope (s:Stmt):Scope:=match s with
  | .FunctionDef _ _ _ _ _ _ sc _ _ _=>sc
  | _=>{ kind:=.function,names:=[],isGenerator:=false,isCoroutine:=false }
noncomputable abbrev CX0:CXT:=fun _ _ _ _ _ _=>False
noncomputable abbrev E0:XK:=fun _ _ _=>False
theorem pass0 {X:Cx}:Passes CX0 X E0:=fun _ _ _ _ _ _ _ h=>h.elim
structure Fun (K:PySem.W.Frag) (x qual:Str) (st:Stmt) (f:Addr) (fd:FuncData):Prop where
  ex:∃ (oc:Value) (od:Option Addr) (kV doc pm:Value) (an:Option Addr) (cdv ct:Value) (osl:Array (Option Value)),
    fd=PySem.W.fnOf x qual (defArgs st) (defBody st) (defScope st) .none kV doc pm an cdv ct∧K.lookup f=some ⟨oc,od,.func fd,osl⟩∧PySem.W.codeIn K cdv qual=true
  kp:PySem.W.keepIn K (.ref f)=true
section
variable {P:Program} {w:World} {K:PySem.W.Frag} {mg:Str→Option Value} {base:Heap}
theorem Fun.ok {x qual:Str} {st:Stmt} {f:Addr} {fd:FuncData} {N ps:List Str} {k:Nat} {sp:Sp} (F:Fun K x qual st f fd) (S:FnScope N ps (defScope st)) (len:∀ vs H Q E,sp vs H Q E→vs.length=ps.length)
    (hbody:∀ (cdv:Value) (A:Around) (outer:List Env) (s:Shared) (H:Hp) (vs:List V) (Q:VK) (E:XK),Room k (A.deeper (envOfC qual (defScope st) s.heap.objs.size f cdv))→sp vs H Q E →
      ∃ t,PSs (cxOf CX0 P w K mg base N qual (defScope st) f cdv A outer s H E).nox (defBody st) t∧t { nx:=fun _ H'=>Q .non H',rt:=Q } (start N vs) H):FnOk P w K mg base CX0 (k + 1) f fd ps sp:=by
  obtain ⟨oc,od,kV,doc,pm,an,cdv,ct,osl,rfl,lk,hcd⟩:=F.ex
  refine fn_of lk hcd S len fun A outer s H vs Q E hr hsp=>?_
  obtain ⟨t,h,q⟩:=hbody cdv A outer s H vs Q E hr hsp
  exact ⟨t,h.nox,q⟩
theorem Fun.binds {x qual:Str} {st:Stmt} {f:Addr} {fd:FuncData} {ps:List Str} (F:Fun K x qual st f fd)
    (h:∀ (kV doc pm:Value) (an:Option Addr) (cdv ct:Value) (us:List Value),us.length=ps.length→bindArgs (PySem.W.fnOf x qual (defArgs st) (defBody st) (defScope st) .none kV doc pm an cdv ct) ⟨us,[]⟩=pure (ps.zip us)):Binds K fd ps []:=by
  obtain ⟨oc,od,kV,doc,pm,an,cdv,ct,osl,rfl,lk,hcd⟩:=F.ex
  exact .all (h kV doc pm an cdv ct)
theorem fun_mk {x qual:Str} {st:Stmt} {f:Addr} {oc:Value} {od an:Option Addr} {osl:Array (Option Value)} {kV doc pm cdv ct:Value} (l:K.lookup f=some ⟨oc,od,.func (PySem.W.fnOf x qual (defArgs st) (defBody st) (defScope st) .none kV doc pm an cdv ct),osl⟩)
    (c:PySem.W.codeIn K cdv qual=true) (k:PySem.W.keepIn K (.ref f)=true):Fun K x qual st f (PySem.W.fnOf x qual (defArgs st) (defBody st) (defScope st) .none kV doc pm an cdv ct):=⟨⟨oc,od,kV,doc,pm,an,cdv,ct,osl,rfl,l,c⟩,k⟩
end
section
variable {X:Cx}
end
theorem iteF {A B:Prop} (h:B):if false=true then A else B:=by
  rw [if_neg Bool.false_ne_true]
  exact h
theorem iteT {A B:Prop} (h:A):if true=true then A else B:=by
  rw [if_pos rfl]
  exact h
end L2
namespace L2
open PySem PySem.Spec PyProof.Rows
noncomputable def compCx (X:Cx) (N':List Str) (scope:Scope) (cl:List (Str×Addr)) (C:Addr) (s₀:Shared) (H₀:Hp) (ex:List Addr) (pn:List (Addr×Obj)):Cx where
  prog:=X.prog
  w:=X.w
  K:=X.K
  mg:=X.mg
  base:=X.base
  A:=X.A
  N:=N'
  s₀:=s₀
  H₀:=H₀
  env:=compEnvC scope cl C X.env
  outer:=X.stack
  stack:=X.stack
  ex:=ex
  fn:=fun x=>scope.names.lookup x == some NameKind.cell
  calm:=X.calm
  pn:=pn
  xe:=fun _ _=>False
structure CompScope (X:Cx) (N':List Str) (pick:List (Option Nat)) (scope:Scope):Prop where
  kind:scope.kind=.function
  nd:N'.Nodup
  names:∀ x∈scope.names,x.2=.local→scope.names.lookup x.1=some .local
  uniq:(scope.names.map (·.1)).Nodup
  len:pick.length=N'.length
  got:∀ (i j:Nat) (x:Str),pick[i]? = some (some j)→N'[i]? = some x→scope.names.lookup x=some .free∧X.N[j]? = some x
  free:∀ x∈scope.names,x.2=.free→X.env.kindOf x.1=some .cell∨X.env.kindOf x.1=some .free
noncomputable def spick (pick:List (Option Nat)) (σ:St):St:=pick.map fun o=>o.bind fun j=>(σ[j]?).bind id
noncomputable def PIfs (X:Cx) (ifs:List Expr) (t:TT):Prop :=
  ∀ (pins:List (Addr×Obj)) (s:Shared) (σ:St) (H:Hp) (Q:Bool→Hp→Prop),Inv X pins σ H s→t σ H Q →
    wpAny (model X.prog X.w) X.A (forIn ifs true fun c r=>if r=true then do let ok ← isTrue c X.env (eval c X.env); pure (ForInStep.yield ok) else pure (ForInStep.yield r)) (TP X pins σ Q) X.xe s
noncomputable def tYes:TT:=fun _ H Q=>Q true H
theorem pifs_nil {X:Cx}:PIfs X [] tYes:=fun pins s σ H Q I h=>wpAny_tests_nil ⟨H,I,h⟩
theorem pifs_one {X:Cx} {c:Expr} {t:TT} (h:PT X c t):PIfs X [c] t:=fun pins s σ H Q I q=>wpAny_tests_one (h pins s σ H Q I q)
noncomputable def CompW (J:It) (g:TG) (tt:TT) (te:TE) (Q:VK) (σ:St) (H:Hp):Prop:=∃ W:Nat→Nat→St→List V→Hp→Prop,(∃ m,W 0 m σ [] H) ∧
  ∀ i m σ' ys H,W i m σ' ys H→ys.length < sizeLine ∧
    ((J.stop i H∧∀ p,H p=none→Q (.ref p) (upd H p (.lst ys))) ∨
     (J.go i H∧∃ N:St→List V→Hp→Prop,(∀ σ2 zs H2,N σ2 zs H2→∃ m',m' < m∧W (i + 1) m' σ2 zs H2)∧∀ x H',J.yld i H x H'→g x σ' H' fun σ2 H2=>tt σ2 H2 fun b H3 =>
        if b=true then te σ2 H3 fun y H4=>N σ2 (ys ++ [y]) H4 else N σ2 ys H3))
noncomputable def tComp (wi:TI) (pick:List (Option Nat)) (g:TG) (tt:TT) (te:TE):TE:=fun σ H Q=>wi σ H fun J H1=>CompW J g tt te Q (spick pick σ) H1
noncomputable def addFree (env:Env):List (Str×NameKind)→List (Str×Addr)→List (Str×Addr)
  | [],acc=>acc
  | (n,k) :: r,acc=>addFree env r (if (k == NameKind.free)=true then (n,(env.cells.lookup n).getD 0) :: acc else acc)
theorem addFree_eq {env:Env}:∀ (names:List (Str×NameKind)) (acc:List (Str×Addr)),(∀ x∈names,x.2=.free→∃ c,env.cells.lookup x.1=some c) →
    (forIn names acc fun (x:Str×NameKind) cs=>(if (x.2 == NameKind.free)=true then do let a ← cellOf env x.1; pure (ForInStep.yield ((x.1,a) :: cs)) else pure (ForInStep.yield cs):Sem (ForInStep (List (Str×Addr)))))=pure (addFree env names acc)
  | [],acc,_=>rfl
  | (n,k) :: r,acc,h=>by
    rw [List.forIn_cons]
    by_cases hk:(k == NameKind.free)=true
    · obtain ⟨c,hc⟩:=h (n,k) List.mem_cons_self (by simpa using hk)
      have e1:cellOf env n=pure c:=by unfold cellOf; rw [show env.cells.lookup n=some c from hc]
      simp only [hk,if_true,e1,pure_bind]
      rw [addFree_eq r _ fun x hx=>h x (List.mem_cons_of_mem _ hx)]
      show _=pure (addFree env r (if (k == NameKind.free)=true then _ else _))
      rw [if_pos hk,show env.cells.lookup n=some c from hc]
      rfl
    · simp only [hk,Bool.false_eq_true,if_false,pure_bind]
      rw [addFree_eq r _ fun x hx=>h x (List.mem_cons_of_mem _ hx)]
      show _=pure (addFree env r (if (k == NameKind.free)=true then _ else _))
      rw [if_neg hk]
theorem addFree_from {env:Env} {x:Str} {c:Addr}:∀ (names:List (Str×NameKind)) (acc:List (Str×Addr)),(addFree env names acc).lookup x=some c →
    ((x,NameKind.free)∈names∧c=(env.cells.lookup x).getD 0)∨acc.lookup x=some c
  | [],acc,h=>.inr h
  | (n,k) :: r,acc,h=>by
    unfold addFree at h
    rcases addFree_from r _ h with ⟨a,b⟩ | q
    · exact .inl ⟨List.mem_cons_of_mem _ a,b⟩
    · by_cases hk:(k == NameKind.free)=true
      · rw [if_pos hk,List.lookup_cons] at q
        cases hx:x == n with
        | true =>
          rw [hx] at q
          have e1:x=n:=by simpa using hx
          have e2:k=.free:=by simpa using hk
          subst e1; subst e2
          exact .inl ⟨List.mem_cons_self,(Option.some.inj q).symm⟩
        | false=>rw [hx] at q; exact .inr q
      · rw [if_neg hk] at q; exact .inr q
theorem addFree_acc {env:Env} {x:Str}:∀ (names:List (Str×NameKind)) (acc:List (Str×Addr)),(acc.lookup x).isSome=true∨(x,NameKind.free)∈names→((addFree env names acc).lookup x).isSome=true
  | [],acc,h=>h.elim id fun z=>by cases z
  | (n,k) :: r,acc,h=>by
    unfold addFree
    refine addFree_acc r _ ?_
    by_cases hk:(k == NameKind.free)=true
    · rw [if_pos hk,List.lookup_cons]
      cases hx:x == n with
      | true=>exact .inl rfl
      | false =>
        refine h.imp id fun z=>?_
        rcases List.mem_cons.mp z with e | z
        · exact absurd (show (x == n)=true by cases e; simp) (by rw [hx]; simp)
        · exact z
    · rw [if_neg hk]
      refine h.imp id fun z=>?_
      rcases List.mem_cons.mp z with e | z
      · exact absurd (show (k == NameKind.free)=true by cases e; rfl) hk
      · exact z
theorem cf_from {x:Str} {c:Addr}:∀ (names:List (Str×NameKind)) (n:Nat) (acc:List (Str×Addr)),(cellsFrom n names acc).lookup x=some c→(n≤c∧(x,NameKind.cell)∈names)∨acc.lookup x=some c
  | [],_,_,h=>.inr h
  | (y,k) :: r,n,acc,h=>by
    unfold cellsFrom at h
    by_cases hk:(k == NameKind.cell)=true
    · rw [if_pos hk] at h
      rcases cf_from r _ _ h with ⟨a,b⟩ | q
      · exact .inl ⟨Nat.le_trans (Nat.le_succ _) a,List.mem_cons_of_mem _ b⟩
      · rw [List.lookup_cons] at q
        cases hx:x == y with
        | true =>
          rw [hx] at q
          have e1:x=y:=by simpa using hx
          have e2:k=.cell:=by simpa using hk
          subst e1; subst e2
          exact .inl ⟨Nat.le_of_eq (Option.some.inj q),List.mem_cons_self⟩
        | false=>rw [hx] at q; exact .inr q
    · rw [if_neg hk] at h
      rcases cf_from r _ _ h with ⟨a,b⟩ | q
      · exact .inl ⟨a,List.mem_cons_of_mem _ b⟩
      · exact .inr q
theorem cf_inj:∀ (names:List (Str×NameKind)) (n:Nat) (acc:List (Str×Addr)),(∀ x y c,acc.lookup x=some c→acc.lookup y=some c→x=y)→(∀ x c,acc.lookup x=some c→c < n) →
    ∀ x y c,(cellsFrom n names acc).lookup x=some c→(cellsFrom n names acc).lookup y=some c→x=y
  | [],_,_,hi,_,x,y,c,h1,h2=>hi x y c h1 h2
  | (z,k) :: r,n,acc,hi,hl,x,y,c,h1,h2=>by
    unfold cellsFrom at h1 h2
    by_cases hk:(k == NameKind.cell)=true
    · rw [if_pos hk] at h1 h2
      refine cf_inj r (n + 1) ((z,n) :: acc) (fun x y c e1 e2=>?_) (fun x c e=>?_) x y c h1 h2
      · rw [List.lookup_cons] at e1 e2
        cases hx:x == z with
        | true =>
          rw [hx] at e1
          cases hy:y == z with
          | true=>exact (by simpa using hx:x=z).trans (by simpa using hy:y=z).symm
          | false =>
            rw [hy] at e2
            have e3:n=c:=Option.some.inj e1
            exact absurd (e3 ▸ hl y c e2) (Nat.lt_irrefl _)
        | false =>
          rw [hx] at e1
          cases hy:y == z with
          | true =>
            rw [hy] at e2
            have e3:n=c:=Option.some.inj e2
            exact absurd (e3 ▸ hl x c e1) (Nat.lt_irrefl _)
          | false=>rw [hy] at e2; exact hi x y c e1 e2
      · rw [List.lookup_cons] at e
        cases hx:x == z with
        | true=>rw [hx] at e; have e3:n=c:=Option.some.inj e; exact e3 ▸ Nat.lt_succ_self n
        | false=>rw [hx] at e; exact Nat.lt_succ_of_lt (hl x c e)
    · rw [if_neg hk] at h1 h2
      exact cf_inj r n acc hi hl x y c h1 h2
theorem cf_cell {x:Str} {c:Addr}:∀ (names:List (Str×NameKind)) (h:Heap) (acc:List (Str×Addr)),(cellsFrom h.objs.size names acc).lookup x=some c→acc.lookup x=some c∨(h.objs.size≤c∧(pushCells h names).IsCell c none)
  | [],_,_,e=>.inl e
  | (y,k) :: r,h,acc,e=>by
    unfold cellsFrom at e
    unfold pushCells
    by_cases hk:(k == NameKind.cell)=true
    · rw [if_pos hk] at e ⊢
      have e':=e
      rw [show h.objs.size + 1=(h.push { cls:=.type "cell",data:=.cell none }).objs.size from (Heap.size_push ..).symm] at e'
      rcases cf_cell r _ _ e' with q | ⟨a,q⟩
      · rw [List.lookup_cons] at q
        cases hx:x == y with
        | true =>
          rw [hx] at q
          have e3:h.objs.size=c:=Option.some.inj q
          subst e3
          exact .inr ⟨Nat.le_refl _,_,pushCells_keeps _ _ _ _ (Heap.get?_push_size _ rfl),rfl⟩
        | false=>rw [hx] at q; exact .inl q
      · refine .inr ⟨?_,q⟩
        rw [Heap.size_push] at a
        omega
    · rw [if_neg hk] at e ⊢
      exact cf_cell r h acc e
theorem wpAny_newBlock {M:Model} {A:Around} {E:Value→Shared→Prop} {s:Shared} {scope:Scope} {globals:Addr} {cl:List (Str×Addr)} {qual:Str} {env:Env} {Q:Env→Shared→Prop}
    (hQ:∀ h',(∀ b o,s.heap.get? b=some o→h'.get? b=some o)→h'.Ns s.heap.objs.size (fun _=>none) →
      (∀ x c,(cellsFrom (s.heap.objs.size + 1) scope.names cl).lookup x=some c→cl.lookup x=some c∨(s.heap.objs.size < c∧h'.IsCell c none)) →
      Q { scope,locals:=s.heap.objs.size,globals,cells:=cellsFrom (s.heap.objs.size + 1) scope.names cl,qual,func:=none,code:=env.code,frame:=env.frame,builtins:=env.builtins } { s with heap:=h' }) :
    wpAny M A (newFunctionEnv scope globals cl [] qual none .none (some env)) Q E s:=by
  simp only [newFunctionEnv,Option.isSome_some,if_true]
  refine wpAny_bind (wpAny_alloc ?_)
  refine wpAny_bind (wpAny_layCells _ (fun name kind cells=>by cases hkc:kind == NameKind.cell <;> simp [hkc]) _ _ _ _ ?_)
  rw [show ({ s with heap:=s.heap.push { cls:=.type "dict",data:=.dict #[] } }:Shared).heap.objs.size=s.heap.objs.size + 1 from Heap.size_push ..]
  refine wpAny_bind (wpAny_pure (wpAny_pure ?_))
  refine hQ _ (fun b o e=>pushCells_keeps _ _ b o (Heap.get?_push_of_some _ e)) ((Heap.Ns.new s.heap (.type "dict")).keeps (pushCells_keeps _ _)) fun x c e=>?_
  have e':=e
  rw [show s.heap.objs.size + 1=(s.heap.push { cls:=.type "dict",data:=.dict #[] }).objs.size from (Heap.size_push ..).symm] at e'
  rcases cf_cell scope.names (s.heap.push { cls:=.type "dict",data:=.dict #[] }) cl e' with q | ⟨a,q⟩
  · exact .inl q
  · refine .inr ⟨?_,q⟩
    rw [Heap.size_push] at a
    omega
end L2
namespace L2
open PySem PySem.Spec PyProof.Rows
theorem rl_from {env:Env} {x:Str} {k':NameKind}:∀ {names:List (Str×NameKind)},(names.map fun (n,k)=>if (k == NameKind.free && env.scope.kind == .function && env.kindOf n == some .cell) then (n,NameKind.cell) else (n,k)).lookup x=some k' →
  ∃ k,names.lookup x=some k∧(k'=k∨(k=.free∧k'=.cell))
 | [],h=>by cases h
 | (n,k) :: r,h=>by
  rw [List.map_cons] at h
  by_cases hc:(k == NameKind.free && env.scope.kind == .function && env.kindOf n == some .cell)=true
  ·have e:(match ((n,k):Str×NameKind) with | (n,k)=>if (k == NameKind.free && env.scope.kind == .function && env.kindOf n == some .cell) then (n,NameKind.cell) else (n,k))=(n,NameKind.cell):=if_pos hc
   rw [e,List.lookup_cons] at h
   rw [List.lookup_cons]
   cases hx:x == n with
   | true =>
    rw [hx] at h
    have hk:k=.free:=by
     simp only [Bool.and_eq_true] at hc
     simpa using hc.1.1
    exact ⟨k,rfl,.inr ⟨hk,(Option.some.inj h).symm⟩⟩
   | false=>rw [hx] at h; exact rl_from h
  ·have e:(match ((n,k):Str×NameKind) with | (n,k)=>if (k == NameKind.free && env.scope.kind == .function && env.kindOf n == some .cell) then (n,NameKind.cell) else (n,k))=(n,k):=if_neg hc
   rw [e,List.lookup_cons] at h
   rw [List.lookup_cons]
   cases hx:x == n with
   | true=>rw [hx] at h; exact ⟨k,rfl,.inl (Option.some.inj h).symm⟩
   | false=>rw [hx] at h; exact rl_from h
theorem rl_to {env:Env} {x:Str} {k:NameKind}:∀ {names:List (Str×NameKind)},names.lookup x=some k →
  ∃ k',(names.map fun (n,k)=>if (k == NameKind.free && env.scope.kind == .function && env.kindOf n == some .cell) then (n,NameKind.cell) else (n,k)).lookup x=some k'∧(k'=k∨(k=.free∧k'=.cell))
 | [],h=>by cases h
 | (n,j) :: r,h=>by
  rw [List.map_cons]
  rw [List.lookup_cons] at h
  by_cases hc:(j == NameKind.free && env.scope.kind == .function && env.kindOf n == some .cell)=true
  ·have e:(match ((n,j):Str×NameKind) with | (n,k)=>if (k == NameKind.free && env.scope.kind == .function && env.kindOf n == some .cell) then (n,NameKind.cell) else (n,k))=(n,NameKind.cell):=if_pos hc
   rw [e,List.lookup_cons]
   cases hx:x == n with
   | true =>
    rw [hx] at h
    have hk:j=.free:=by
     simp only [Bool.and_eq_true] at hc
     simpa using hc.1.1
    exact ⟨.cell,rfl,.inr ⟨(Option.some.inj h).symm.trans hk,rfl⟩⟩
   | false=>rw [hx] at h; exact rl_to h
  ·have e:(match ((n,j):Str×NameKind) with | (n,k)=>if (k == NameKind.free && env.scope.kind == .function && env.kindOf n == some .cell) then (n,NameKind.cell) else (n,k))=(n,j):=if_neg hc
   rw [e,List.lookup_cons]
   cases hx:x == n with
   | true=>rw [hx] at h; exact ⟨j,rfl,.inl (Option.some.inj h)⟩
   | false=>rw [hx] at h; exact rl_to h
theorem lookup_nodup {x:Str} {k:NameKind}:∀ {names:List (Str×NameKind)},(names.map (·.1)).Nodup→(x,k)∈names→names.lookup x=some k
 | [],_,h=>by cases h
 | (n,j) :: r,nd,h=>by
  have nd:(n :: r.map (·.1)).Nodup:=nd
  obtain ⟨n1,n2⟩:=List.nodup_cons.mp nd
  rw [List.lookup_cons]
  rcases List.mem_cons.mp h with e | h2
  ·cases e; simp
  ·have hx:(x == n)=false:=by
    have:x≠n:=by
     intro e
     exact n1 (List.mem_map.mpr ⟨(x,k),h2,e⟩)
    simpa using this
   rw [hx]; exact lookup_nodup n2 h2
theorem compLoop_gen {prog:Program} {w:World} {A:Around} {R:Result→Shared→Prop} {s:Shared} {elt target iter:Expr} {ifs:List Expr} {scope:Scope} {pos:Pos} {it acc:Value} {env:Env} (I:Nat→Shared→Prop)
  (turn:∀ n s,I n s→wpAny (model prog w) A (pyNext it) (fun r s₁=>match r with
   | none=>R (.ok .next) s₁
   | some v=>wpAny (model prog w) A (letOwnedTupleGo target it v) (fun _ s₁'=>wpAny (model prog w) A (assign target env v) (fun _ s₂ =>
     wpAny (model prog w) A (forIn ifs true fun c r=>if r=true then do let ok ← isTrue c env (eval c env); pure (ForInStep.yield ok) else pure (ForInStep.yield r)) (fun ok s₃ =>
      if ok=true then wpAny (model prog w) A (eval elt env) (fun x s₄ =>
       wpAny (model prog w) A (call (.builtin "list.append") [acc,x]) (fun _ s₅=>∃ m,m < n∧I m s₅) (fun _ _=>False) s₄) (fun _ _=>False) s₃
      else ∃ m,m < n∧I m s₃) (fun _ _=>False) s₂) (fun _ _=>False) s₁') (fun _ _=>False) s₁) (fun _ _=>False) s)
  (n:Nat) (h:I n s) :
  codeAny (model prog w) A (.compLoop (.ListComp elt [⟨target,iter,ifs,0⟩] scope pos) 0 it acc env) R s:=by
 refine codeAny_loop rfl I (fun n s hI=>?_) n h
 show wpAny _ A ((compTurn (.ListComp elt [⟨target,iter,ifs,0⟩] scope pos) 0 it acc env).onRaise (fun x=>do noteFrame x env; theTreesLotGoes x)) _ _ s
 refine wpAny_noted ?_
 rw [compTurn_list]
 refine wpAny_bind (wpAny_standAt (wpAny_bind (wpAny_mono (turn n s hI) (fun r s₁ h₁=>?_) fun _ _ h'=>h'.elim)))
 cases r with
 | none=>exact wpAny_pure h₁
 | some v =>
  refine wpAny_bind (wpAny_mono h₁ (fun _ s₁' h₁'=>?_) fun _ _ h'=>h'.elim)
  refine wpAny_bind (wpAny_mono h₁' (fun _ s₂ h₂=>wpAny_bind (wpAny_mono h₂ (fun ok s₃ h₃=>?_) fun _ _ h'=>h'.elim)) fun _ _ h'=>h'.elim)
  cases ok with
  | false=>exact wpAny_pure ⟨rfl,h₃⟩
  | true =>
   exact wpAny_bind (wpAny_bind (wpAny_mono h₃ (fun x s₄ h₄=>wpAny_bind (wpAny_mono h₄ (fun _ s₅ h₅=>wpAny_pure (wpAny_pure ⟨rfl,h₅⟩)) fun _ _ h'=>h'.elim)) fun _ _ h'=>h'.elim))
section
variable {X:Cx} {N':List Str} {pick:List (Option Nat)} {scope:Scope} {pins:List (Addr×Obj)} {σ:St} {H₂:Hp} {s₂:Shared} {tg:Expr} {J:It} {fp:List Addr} {it:Addr} {tn:Nat→Heap→Prop}
theorem clos_of (S:CompScope X N' pick scope) (I:Inv X pins σ H₂ s₂):closureFor scope X.env=pure (addFree X.env scope.names []):=by
 have e:=addFree_eq (env:=X.env) scope.names [] fun x hx hk=>I.ok.has x.1 (S.free x hx hk)
 show ((forIn scope.names ([]:List (Str×Addr)) fun (x:Str×NameKind) cs=>(if (x.2 == NameKind.free)=true then do let a ← cellOf X.env x.1; pure (ForInStep.yield ((x.1,a) :: cs)) else pure (ForInStep.yield cs):Sem (ForInStep (List (Str×Addr))))) >>= fun cs=>pure cs)=_
 rw [e,pure_bind]
theorem cap_of (S:CompScope X N' pick scope) (I:Inv X pins σ H₂ s₂) {x:Str} {c:Addr} (h:(addFree X.env scope.names []).lookup x=some c):(x,NameKind.free)∈scope.names∧X.env.cells.lookup x=some c:=by
 rcases addFree_from _ _ h with ⟨a,b⟩ | q
 ·refine ⟨a,?_⟩
  obtain ⟨c',hc⟩:=I.ok.has x (S.free _ a rfl)
  rw [hc] at b ⊢
  rw [b]; rfl
 ·cases q
theorem cells_of (S:CompScope X N' pick scope) (I:Inv X pins σ H₂ s₂) {n:Nat} {x:Str} {c:Addr} (h:(cellsFrom n scope.names (addFree X.env scope.names [])).lookup x=some c) :
  (n≤c∧scope.names.lookup x=some .cell)∨(scope.names.lookup x=some .free∧X.env.cells.lookup x=some c):=by
 rcases cf_from _ _ _ h with ⟨a,b⟩ | q
 ·exact .inl ⟨a,lookup_nodup S.uniq b⟩
 ·obtain ⟨a,b⟩:=cap_of S I q
  exact .inr ⟨lookup_nodup S.uniq a,b⟩
theorem cells_free (S:CompScope X N' pick scope) (I:Inv X pins σ H₂ s₂) {n:Nat} {x:Str} {c:Addr} (hx:scope.names.lookup x=some .free) (hc:X.env.cells.lookup x=some c) :
  (cellsFrom n scope.names (addFree X.env scope.names [])).lookup x=some c:=by
 have h1:((addFree X.env scope.names []).lookup x).isSome=true:=addFree_acc _ _ (.inr (PySem.mem_of_lookup hx))
 obtain ⟨c',h2⟩:=Option.isSome_iff_exists.mp (PySem.W.cellsFrom_some scope.names n _ (.inr h1))
 rcases cells_of S I h2 with ⟨_,z⟩ | ⟨_,z⟩
 ·rw [hx] at z; cases z
 ·rw [hc] at z; cases z; exact h2
theorem frs_old (I:Inv X pins σ H₂ s₂) {b:Addr} (hb:b∈frs X.stack):b < s₂.heap.objs.size:=by
 rcases List.mem_cons.mp (I.stkSub b hb) with e | hb
 ·rw [e]; exact I.lt
 ·by_cases q:b < s₂.heap.objs.size
  ·exact q
  ·exact absurd hb (I.nofs (Nat.not_lt.mp q))
theorem comp_start (S:CompScope X N' pick scope) (I:Inv X pins σ H₂ s₂) (hf:∀ b∈fp,FpOk X pins H₂ b) (hfo:∀ b∈fp,b < s₂.heap.objs.size) {n:Nat} {C:Addr} {s₄:Shared} (hn:s₂.heap.objs.size≤n) (hC:s₂.heap.objs.size≤C) (hCn:C < n)
  (hos:s₄.os=s₂.os) (hge:s₄.gens=s₂.gens) (kp:∀ b o,s₂.heap.get? b=some o→s₄.heap.get? b=some o) (ns:s₄.heap.Ns C fun _=>none)
  (ce:∀ x c,(cellsFrom n scope.names (addFree X.env scope.names [])).lookup x=some c→(addFree X.env scope.names []).lookup x=some c∨(n≤c∧s₄.heap.IsCell c none)) :
  Inv (compCx X N' scope (cellsFrom n scope.names (addFree X.env scope.names [])) C s₂ H₂ fp (X.pn ++ pins)) [] (spick pick σ) H₂ s₄:=by
 have fr:∀ {a:Addr},s₂.heap.objs.size≤a→H₂ a=none:=fun h=>I.hok.fresh h
 have old:∀ {x:Str} {c:Addr},X.env.cells.lookup x=some c→c < s₂.heap.objs.size:=fun {x c} e=>let ⟨v,z⟩:=I.cell x c e; z.lt
 have pold:∀ p∈X.pn ++ pins,p.1 < s₂.heap.objs.size:=fun p hp=>Heap.lt_size (I.pin p hp).1
 refine ⟨⟨I.ok.mod,S.kind,I.ok.glob,I.ok.blt,hC,?inj,?has,?cab,I.ok.hd,I.ok.frames,.inl rfl,?exf,I.bs,Nat.le_trans I.ok.bsz I.sz,?noex,?exfs,I.stack,I.stkFree⟩,
  hos,by rw [hge]; exact I.bare,Un.kept kp,⟨_,ns,?loc⟩,?cell,fr hC,?freeC,?pin,I.hok.kept kp,?len⟩
 case inj =>
  refine cf_inj _ _ _ (fun x y c h1 h2=>?_) fun x c h=>?_
  ·exact I.ok.inj x y c (cap_of S I h1).2 (cap_of S I h2).2
  ·exact Nat.lt_of_lt_of_le (old (cap_of S I h).2) hn
 case has =>
  intro x hx
  have hx:(relabel scope X.env).names.lookup x=some .cell∨(relabel scope X.env).names.lookup x=some .free:=hx
  have go:∀ k,scope.names.lookup x=some k→k=.cell∨k=.free→∃ c,(cellsFrom n scope.names (addFree X.env scope.names [])).lookup x=some c:=fun k hk hq=>by
   rcases hq with rfl | rfl
   ·exact Option.isSome_iff_exists.mp (PySem.W.cellsFrom_some _ _ _ (.inl hk))
   ·obtain ⟨c,hc⟩:=I.ok.has x (S.free _ (PySem.mem_of_lookup hk) rfl)
    exact ⟨c,cells_free S I hk hc⟩
  rcases hx with hx | hx
  ·obtain ⟨k,hk,e | ⟨e,_⟩⟩:=rl_from hx
   ·exact go k hk (.inl e.symm)
   ·exact go k hk (.inr e)
  ·obtain ⟨k,hk,e | ⟨_,e⟩⟩:=rl_from hx
   ·exact go k hk (.inr e.symm)
   ·cases e
 case cab =>
  intro x c hx hc
  have hx:scope.names.lookup x=some .cell:=by simpa [compCx] using hx
  rcases cells_of S I hc with ⟨a,_⟩ | ⟨a,_⟩
  ·exact Nat.le_trans hn a
  ·rw [hx] at a; cases a
 case exf =>
  intro b hb
  refine ⟨Nat.ne_of_lt (Nat.lt_of_lt_of_le (hfo b hb) hC),fun x c hc=>?_⟩
  rcases cells_of S I hc with ⟨a,_⟩ | ⟨_,a⟩
  ·exact Nat.ne_of_gt (Nat.lt_of_lt_of_le (hfo b hb) (Nat.le_trans hn a))
  ·exact (hf b hb).2.2.2.2.1 x c a
 case noex =>
  intro b o e hb
  rcases (hf b hb).2.2.2.1 with z | z
  ·exact I.ok.noex b o e z
  ·exact absurd (Nat.lt_of_lt_of_le (Heap.lt_size e) (Nat.le_trans I.ok.bsz z)) (Nat.lt_irrefl _)
 case exfs =>
  intro b hb hs
  rcases List.mem_cons.mp (I.stkSub b hs) with e | e
  ·exact (hf b hb).2.1 e
  ·exact (hf b hb).2.2.1 e
 case loc =>
  intro i x v h1 h2 h3
  have h1:N'[i]? = some x:=h1
  have hp:∃ j,pick[i]? = some (some j)∧σ[j]? = some (some v):=by
   unfold spick at h2
   rw [List.getElem?_map] at h2
   cases e:pick[i]? with
   | none=>rw [e] at h2; cases h2
   | some o =>
    rw [e] at h2
    cases o with
    | none=>cases h2
    | some j =>
     refine ⟨j,rfl,?_⟩
     have h2':(σ[j]?).bind id=some v:=Option.some.inj h2
     cases e2:σ[j]? with
     | none=>rw [e2] at h2'; cases h2'
     | some q=>rw [e2] at h2'; exact congrArg some h2'
  obtain ⟨j,hj,hv⟩:=hp
  obtain ⟨hfr,hN⟩:=S.got i j x hj h1
  have hk:=S.free _ (PySem.mem_of_lookup hfr) rfl
  obtain ⟨m,hm,hl⟩:=I.loc
  obtain ⟨u,ru,lk⟩:=hl j x v hN hv (.inr hk)
  refine ⟨u,ru,?_⟩
  rcases lk with ⟨z,_⟩ | ⟨_,c,hc,hcell⟩
  ·rcases hk with q | q <;> (rw [show X.env.kindOf x=_ from z] at q; cases q)
  ·refine .inr ⟨?_,c,cells_free S I hfr hc,hcell.keeps kp⟩
   show (relabel scope X.env).names.lookup x=some .cell∨(relabel scope X.env).names.lookup x=some .free
   obtain ⟨k',hk',e | ⟨_,e⟩⟩:=rl_to (env:=X.env) hfr
   ·exact .inr (by rw [← e]; exact hk')
   ·exact .inl (by rw [← e]; exact hk')
 case cell =>
  intro x c hc
  rcases ce x c hc with z | ⟨_,z⟩
  ·obtain ⟨v,q⟩:=I.cell x c (cap_of S I z).2
   exact ⟨v,q.keeps kp⟩
  ·exact ⟨none,z⟩
 case freeC =>
  intro x c hc
  rcases cells_of S I hc with ⟨a,_⟩ | ⟨_,a⟩
  ·exact fr (Nat.le_trans hn a)
  ·exact I.freeC x c a
 case pin =>
  intro p hp
  have hp:p∈X.pn ++ pins:=by simpa [compCx] using hp
  obtain ⟨e,n0,ne,nf,d⟩:=I.pin p hp
  refine ⟨kp _ _ e,n0,Nat.ne_of_lt (Nat.lt_of_lt_of_le (pold p hp) hC),fun z=>?_,d⟩
  rcases List.mem_cons.mp (I.stkSub _ z) with e | e
  ·exact ne e
  ·exact nf e
 case len =>
  unfold spick
  rw [List.length_map]
  exact S.len
end
end L2
namespace L2
open PySem PySem.Spec PyProof.Rows
section
variable {X:Cx} {N':List Str} {pick:List (Option Nat)} {scope:Scope} {pins:List (Addr×Obj)} {σ:St} {H₂:Hp} {s₂:Shared} {tg:Expr} {J:It} {fp:List Addr} {it:Addr} {tn:Nat→Heap→Prop}
  {elt iter:Expr} {ifs:List Expr} {pos:Pos} {g:TG} {tt:TT} {te:TE}
theorem comp_block {E:Value→Shared→Prop} {RR:Value→Addr→Result→Shared→Prop} {Qv:V→Hp→Prop} (S:CompScope X N' pick scope) (hc:X.calm=true) (I₂:Inv X pins σ H₂ s₂) (T:Turn X.prog X.w X.K tg J fp it tn) (st:tn 0 s₂.heap) (hf:∀ b∈fp,FpOk X pins H₂ b)
    (hg:∀ cl C s₀ H₀ ex pn,PG (compCx X N' scope cl C s₀ H₀ ex pn) tg g) (hi:∀ cl C s₀ H₀ ex pn,PIfs (compCx X N' scope cl C s₀ H₀ ex pn) ifs tt) (he:∀ cl C s₀ H₀ ex pn,PE (compCx X N' scope cl C s₀ H₀ ex pn) elt te)
    {W:Nat→Nat→St→List V→Hp→Prop} {m0:Nat} (h0:W 0 m0 (spick pick σ) [] H₂)
    (turn:∀ i m σ' ys H,W i m σ' ys H→ys.length < sizeLine ∧
      ((J.stop i H∧∀ p,H p=none→Qv (.ref p) (upd H p (.lst ys))) ∨
       (J.go i H∧∃ N:St→List V→Hp→Prop,(∀ σ2 zs H2,N σ2 zs H2→∃ m',m' < m∧W (i + 1) m' σ2 zs H2)∧∀ x H',J.yld i H x H'→g x σ' H' fun σ2 H2=>tt σ2 H2 fun b H3 =>
          if b=true then te σ2 H3 fun y H4=>N σ2 (ys ++ [y]) H4 else N σ2 ys H3)))
    (fin:∀ (D C:Addr) (H':Hp) (s':Shared) (m:Str→Option Value),Inv X pins σ H' s'→FpOk X pins H' C→s'.heap.Ns C m→Qv (.ref D) H'→RR (.ref D) C (.ok .next) s') :
    wpAny (model X.prog X.w) X.A (newList []) (fun acc s₃=>wpAny (model X.prog X.w) X.A (newFunctionEnv scope X.env.globals (addFree X.env scope.names []) [] X.env.qual none .none (some X.env)) (fun cenv s₄ =>
      codeAny (model X.prog X.w) X.A (.compStart (.ListComp elt [⟨tg,iter,ifs,0⟩] scope pos) 0 (.ref it) acc { cenv with scope:=relabel scope X.env }) (RR acc cenv.locals) s₄) E s₃) E s₂:=by
  have hfo:∀ b∈fp,b < s₂.heap.objs.size:=fun b hb=>let ⟨o,e,_⟩:=T.obj 0 _ st b hb; Heap.lt_size e
  refine wpAny_newObj_type (wpAny_newBlock fun h₄ kp ns ce=>?_)
  generalize hH3:s₂.heap.push { cls:=.type "list",dict:=none,data:=.seq ([]:List Value).toArray }=H3 at kp ns ce ⊢
  have hC:H3.objs.size=s₂.heap.objs.size + 1:=by rw [← hH3,Heap.size_push]
  have kp2:∀ b o,s₂.heap.get? b=some o→h₄.get? b=some o:=fun b o e=>kp b o (hH3 ▸ Heap.get?_push_of_some _ e)
  have hD:h₄.get? s₂.heap.objs.size=some { cls:=.type "list",data:=.seq ([]:List Value).toArray }:=kp _ _ (hH3 ▸ Heap.get?_push_size _ rfl)
  have hCle:s₂.heap.objs.size≤H3.objs.size:=by rw [hC]; exact Nat.le_succ _
  have hDC:s₂.heap.objs.size≠H3.objs.size:=by rw [hC]; exact Nat.ne_of_lt (Nat.lt_succ_self _)
  -- names for the block
  generalize hcl:cellsFrom (H3.objs.size + 1) scope.names (addFree X.env scope.names [])=cl at ce
  have I₄:Inv (compCx X N' scope cl H3.objs.size s₂ H₂ fp (X.pn ++ pins)) [] (spick pick σ) H₂ { s₂ with heap:=h₄ }:=by
    subst hcl
    exact comp_start S I₂ hf hfo (n:=H3.objs.size + 1) (Nat.le_trans hCle (Nat.le_succ _)) hCle (Nat.lt_succ_self _) rfl rfl kp2 ns fun x c e=>ce x c e
  have hcells:∀ x c,cl.lookup x=some c→c≠s₂.heap.objs.size:=fun x c e=>by
    subst hcl
    rcases cells_of S I₂ e with ⟨a,_⟩ | ⟨_,a⟩
    · refine Nat.ne_of_gt (Nat.lt_of_lt_of_le ?_ a)
      rw [hC]
      exact Nat.lt_succ_of_lt (Nat.lt_succ_self _)
    · obtain ⟨v,z⟩:=I₂.cell x c a
      exact Nat.ne_of_lt z.lt
  have hcellsC:∀ x c,X.env.cells.lookup x=some c→c≠H3.objs.size:=fun x c e=>by
    obtain ⟨v,z⟩:=I₂.cell x c e
    exact Nat.ne_of_lt (Nat.lt_of_lt_of_le z.lt hCle)
  generalize hX':compCx X N' scope cl H3.objs.size s₂ H₂ fp (X.pn ++ pins)=X' at I₄
  have xprog:X'.prog=X.prog:=by subst hX'; rfl
  have xw:X'.w=X.w:=by subst hX'; rfl
  have xK:X'.K=X.K:=by subst hX'; rfl
  have xA:X'.A=X.A:=by subst hX'; rfl
  have xcalm:X'.calm=true:=by subst hX'; exact hc
  have xloc:X'.env.locals=H3.objs.size:=by subst hX'; rfl
  have xcells:X'.env.cells=cl:=by subst hX'; rfl
  have xenv:X'.env=compEnvC scope cl H3.objs.size X.env:=by subst hX'; rfl
  have xfs:X'.fs=frs X.stack:=by subst hX'; rfl
  have xex:X'.ex=fp:=by subst hX'; rfl
  have xs0:X'.s₀=s₂:=by subst hX'; rfl
  have xpn:X'.pn=X.pn ++ pins:=by subst hX'; rfl
  have xxe:X'.xe=fun _ _=>False:=by subst hX'; rfl
  have xH0:X'.H₀=H₂:=by subst hX'; rfl
  have hg':PG X' tg g:=by subst hX'; exact hg _ _ _ _ _ _
  have hi':PIfs X' ifs tt:=by subst hX'; exact hi _ _ _ _ _ _
  have he':PE X' elt te:=by subst hX'; exact he _ _ _ _ _ _
  -- the records of the iterator,within the block
  have stat:∀ {H':Hp} {pl:List (Addr×Obj)},(∀ b∈fp,H' b=none)→(∀ p∈pl,s₂.heap.objs.size≤p.1)→∀ b∈fp,FpOk X' pl H' b:=fun {H' pl} hn hp b hb=>by
    have hlt:=hfo b hb
    obtain ⟨_,f1,f2,f3,f4,f5⟩:=hf b hb
    refine ⟨hn b hb,by rw [xloc]; exact Nat.ne_of_lt (Nat.lt_of_lt_of_le hlt hCle),?_,.inl (by rw [xex]; exact hb),fun x c e=>?_,fun p hp'=>?_⟩
    · rw [xfs]
      intro z
      rcases List.mem_cons.mp (I₂.stkSub b z) with e | e
      · exact f1 e
      · exact f2 e
    · have:=I₄.ok.exf b (by rw [xex]; exact hb)
      exact this.2 x c e
    · rcases List.mem_append.mp hp' with z | z
      · rw [xpn] at z; exact f5 p z
      · exact Nat.ne_of_gt (Nat.lt_of_lt_of_le hlt (hp p z))
  -- the list's pin
  have pinD:∀ {H':Hp} {s':Shared} {σ':St} {o:Obj},Inv X' [] σ' H' s'→s'.heap.get? s₂.heap.objs.size=some o→H' s₂.heap.objs.size=none→(∀ v,o.data≠.cell v)→Inv X' [(s₂.heap.objs.size,o)] σ' H' s':=fun {H' s' σ' o} I e hn hnc =>
    I.pins_of fun p hp=>by
      obtain rfl:p=(s₂.heap.objs.size,o):=by simpa using hp
      refine ⟨e,hn,by rw [xloc]; exact hDC,?_,hnc⟩
      rw [xfs]
      intro z
      exact absurd (frs_old I₂ z) (Nat.lt_irrefl _)
  have HD0:H₂ s₂.heap.objs.size=none:=I₂.hok.fresh (Nat.le_refl _)
  -- the invariant
  let Iv:Nat→Shared→Prop:=fun n s'=>∃ (i:Nat) (σ':St) (ys:List V) (H':Hp) (its:List Value) (k:Nat),Inv X' [(s₂.heap.objs.size,{ cls:=.type "list",data:=.seq its.toArray k })] σ' H' s'∧Vals ys its∧tn i s'.heap∧(∀ b∈fp,H' b=none)∧W i n σ' ys H'
  have loop:codeAny (model X.prog X.w) X.A (.compLoop (.ListComp elt [⟨tg,iter,ifs,0⟩] scope pos) 0 (.ref it) (.ref s₂.heap.objs.size) X'.env) (RR (.ref s₂.heap.objs.size) H3.objs.size) { s₂ with heap:=h₄ }:=by
    refine compLoop_gen Iv ?_ m0 ⟨0,_,[],H₂,[],_,pinD I₄ hD HD0 (fun v q=>nomatch q),.nil,T.keep _ _ _ st fun b _ o e=>kp2 b o e,fun b hb=>(hf b hb).1,h0⟩
    rintro n s5 ⟨i,σ5,ys,H5,its,k,I5,rv,st5,fr5,w5⟩
    obtain ⟨hlen,tr⟩:=turn i n σ5 ys H5 w5
    have p5:∀ {o:Obj},∀ p∈[(s₂.heap.objs.size,o)],s₂.heap.objs.size≤p.1:=fun {o} p hp=>by
      obtain rfl:p=(s₂.heap.objs.size,o):=by simpa using hp
      exact Nat.le_refl _
    rw [← xA]
    rcases tr with ⟨stop,qf⟩ | ⟨go,N,hN,step⟩
    · have dn:=T.done X' xprog xw xK xcalm i _ s5 σ5 H5 (fun _ _=>False) I5 (stat fr5 p5) st5 stop
      rw [xA] at dn ⊢
      refine wpAny_mono dn (fun r s6 h6=>?_) fun _ _ z=>z
      obtain ⟨rfl,I6⟩:=h6
      show RR (.ref s₂.heap.objs.size) H3.objs.size (.ok .next) s6
      obtain ⟨eD,nD,_⟩:=I6.pin _ (List.mem_append_right _ List.mem_cons_self)
      have un0:Un (frs X.stack) fp H₂ H5 s₂.heap s6.heap:=by
        have:=I6.base
        rw [xfs,xex,xs0,xH0] at this
        exact this
      have lt:∀ {b:Addr} {o:Obj},s₂.heap.get? b=some o→b≠s₂.heap.objs.size:=fun e=>Nat.ne_of_lt (Heap.lt_size e)
      have un1:Un (frs X.stack) fp H₂ (upd H5 s₂.heap.objs.size (.lst ys)) s₂.heap s6.heap :=
        ⟨un0.keep,un0.slot,fun b o e n hx=>by rw [upd_ne (lt e)]; exact un0.free b o e n hx,un0.there,fun b xs e=>by rw [upd_ne (ne_of_none e HD0)]; exact un0.tups b xs e,
          fun b o u e=>by rw [upd_ne (ne_of_none e HD0)]; exact un0.frzs b o u e,fun b ps e=>by rw [upd_ne (ne_of_none e HD0)]; exact un0.tbls b ps e⟩
      have hok1:HOk X.prog X.w (upd H5 s₂.heap.objs.size (.lst ys)) s6.heap:=fun b u e=>by
        by_cases hb:b=s₂.heap.objs.size
        · subst hb
          rw [upd_same] at e; cases e
          exact ⟨Nat.le_of_lt hlen,its,k,rv,eD⟩
        · rw [upd_ne hb] at e
          have:=I6.hok b u e
          rw [xprog,xw] at this
          exact this.stay (fun _ _ _ q=>q) (fun c q=>by rw [upd_ne (ne_of_none q nD)]; exact q) fun c xs q=>by rw [upd_ne (ne_of_none q nD)]; exact q
      have I7:Inv X pins σ (upd H5 s₂.heap.objs.size (.lst ys)) s6:=by
        refine I₂.call' (ch:=fp) ?_ un1 hok1 I6.bare fun b hb=>?_
        · have:=I6.os; rw [xs0] at this; exact this
        · obtain ⟨_,f1,f2,f3,f4,f5⟩:=hf b hb
          exact ⟨f3,f1,f4,f5⟩
      obtain ⟨m6,n6,_⟩:=I6.loc
      rw [xloc] at n6
      have hC6:H5 H3.objs.size=none:=by have:=I6.free; rw [xloc] at this; exact this
      refine fin _ _ _ s6 m6 I7 ⟨by rw [upd_ne (Ne.symm hDC)]; exact hC6,?_,?_,.inr (Nat.le_trans I₂.sz hCle),hcellsC,fun p hp=>?_⟩ n6 (qf _ nD)
      · exact Nat.ne_of_gt (Nat.lt_of_lt_of_le I₂.lt hCle)
      · intro z
        exact absurd z (I₂.nofs hCle)
      · exact Nat.ne_of_lt (Nat.lt_of_lt_of_le (Heap.lt_size (I₂.pin p hp).1) hCle)
    · have itm:=T.item X' xprog xw xK xcalm i _ s5 σ5 H5 (fun _ _=>False) I5 (stat fr5 p5) st5 go
      refine wpAny_mono itm (fun r s6 h6=>?_) fun _ _ z=>z
      obtain ⟨u,rfl,h6⟩:=h6
      refine wpAny_mono h6 (fun _ s7 h7=>?_) fun _ _ z=>z
      obtain ⟨x,H7,I7,rx,y7,st7,fr7⟩:=h7
      have I7':=I7.pinned (stat fr7 p5) (T.obj _ _ st7)
      have mp:∀ {α:Type} {t:Sem α} {Q:α→Shared→Prop} {s:Shared},wpAny (model X'.prog X'.w) X'.A t Q X'.xe s→wpAny (model X.prog X.w) X'.A t Q (fun _ _=>False) s:=fun {α t Q s} h=>by
        rw [xprog,xw,xxe] at h; exact h
      refine wpAny_mono (mp (hg' _ s7 σ5 H7 x u _ I7' rx (step x H7 y7))) (fun _ s8 h8=>?_) fun _ _ z=>z
      obtain ⟨σ8,H8,I8,q8⟩:=h8
      refine wpAny_mono (mp (hi' _ s8 σ8 H8 _ I8 q8)) (fun ok s9 h9=>?_) fun _ _ z=>z
      obtain ⟨H9,I9,q9⟩:=h9
      have keepT:∀ {σ':St} {H':Hp} {s':Shared},Inv X' ([(s₂.heap.objs.size,{ cls:=.type "list",data:=.seq its.toArray k })] ++ pinsAt fp s7.heap) σ' H' s'→tn (i + 1) s'.heap∧∀ b∈fp,H' b=none:=fun {σ' H' s'} I=>by
        refine ⟨T.keep _ _ _ st7 fun b hb o e=>(I.pin (b,o) (List.mem_append_right _ (List.mem_append_right _ (mem_pinsAt hb e)))).1,fun b hb=>?_⟩
        obtain ⟨o,e,d⟩:=T.obj _ _ st7 b hb
        exact (I.pin (b,o) (List.mem_append_right _ (List.mem_append_right _ (mem_pinsAt hb e)))).2.1
      cases ok with
      | false =>
        rw [if_neg Bool.false_ne_true] at q9 ⊢
        obtain ⟨m',hm,w9⟩:=hN _ _ _ q9
        obtain ⟨t9,f9⟩:=keepT I9
        exact ⟨m',hm,i + 1,σ8,ys,H9,its,k,I9.unpinned,rv,t9,f9,w9⟩
      | true =>
        rw [if_pos rfl] at q9 ⊢
        refine wpAny_mono (mp (he' _ s9 σ8 H9 _ I9 q9)) (fun v s10 h10=>?_) fun _ _ z=>z
        obtain ⟨y,H10,I10,ry,n10⟩:=h10
        obtain ⟨m',hm,w10⟩:=hN _ _ _ n10
        obtain ⟨t10,f10⟩:=keepT I10
        have I10':=I10.unpinned
        obtain ⟨eD,nD,neD,nfD,dD⟩:=I10'.pin _ (List.mem_append_right _ List.mem_cons_self)
        have hl:=rv.length
        refine call_meets F.slot_list_append ⟨_,eD,rfl⟩ F.entry_list_append (F.args_list_append_2 _ _) (PySem.list_append s₂.heap.objs.size its.toArray k v (by rw [List.size_toArray]; omega)) ⟨eD,?_⟩
        have q:=PySem.IsL.update eD (·.push v)
        have I11:Inv X' [] σ8 H10 { s10 with heap:=s10.heap.update s₂.heap.objs.size (Obj.mapSeq (·.push v)) }:=by
          refine (I10'.pins_of (pins':=[]) fun p hp=>by cases hp).turned (t':=s10.toks) (it:=s₂.heap.objs.size) (fun b o hb e=>(Heap.get?_update_other s10.heap (Obj.mapSeq (·.push v)) (Ne.symm hb)).trans e) nD neD (.inr (by rw [xs0]; exact Nat.le_refl _)) (fun x c hc=>hcells x c (by rw [← xcells]; exact hc)) fun p hp=>?_
          have hp:p∈X.pn ++ pins:=by rw [List.append_nil,xpn] at hp; exact hp
          exact Nat.ne_of_lt (Heap.lt_size (I₂.pin p hp).1)
        rw [show its.toArray.push v=(its ++ [v]).toArray by simp] at q
        refine ⟨m',hm,i + 1,σ8,ys ++ [y],H10,its ++ [v],_,pinD I11 q nD (fun v q=>nomatch q),rv.append (.cons ry .nil),?_,f10,w10⟩
        refine T.keep _ _ _ t10 fun b hb o e=>(Heap.get?_update_other s10.heap (Obj.mapSeq (·.push v)) ?_).trans e
        exact Nat.ne_of_gt (hfo b hb)
  have e4:({ scope:=relabel scope X.env,locals:=H3.objs.size,globals:=X.env.globals,cells:=cl,qual:=X.env.qual,func:=none,code:=X.env.code,frame:=X.env.frame,builtins:=X.env.builtins }:Env)=X'.env:=by rw [xenv]; rfl
  have st4:tn 0 h₄:=T.keep _ _ _ st fun b _ o e=>kp2 b o e
  have goal:codeAny (model X.prog X.w) X.A (.compStart (.ListComp elt [⟨tg,iter,ifs,0⟩] scope pos) 0 (.ref it) (.ref s₂.heap.objs.size) X'.env) (RR (.ref s₂.heap.objs.size) H3.objs.size) { s₂ with heap:=h₄ } :=
    codeAny_compStart_list loop (T.self _ 0 _ _ _ st4 loop)
  rw [← e4] at goal
  exact goal
theorem Inv.gone {H':Hp} {s':Shared} {h':Heap} {C:Addr} (I:Inv X pins σ H' s') (f:FpOk X pins H' C) (hs:Heap.SameBut C s'.heap h'):Inv X pins σ H' { s' with heap:=h' }:=by
  obtain ⟨f0,f1,f2,f3,f4,f5⟩:=f
  exact I.turned (t':=s'.toks) (fun b o hb e=>(hs.2 b hb).trans e) f0 f1 f3 f4 f5
theorem pe_comp {wi:TI} (S:CompScope X N' pick scope) (hc:X.calm=true) (hit:PI X tg iter wi)
    (hg:∀ cl C s₀ H₀ ex pn,PG (compCx X N' scope cl C s₀ H₀ ex pn) tg g) (hi:∀ cl C s₀ H₀ ex pn,PIfs (compCx X N' scope cl C s₀ H₀ ex pn) ifs tt) (he:∀ cl C s₀ H₀ ex pn,PE (compCx X N' scope cl C s₀ H₀ ex pn) elt te)
    (hs:∀ x,foldedSetIterable iter X.env x=pure x:=by intro _; rfl) :
    PE X (.ListComp elt [⟨tg,iter,ifs,0⟩] scope pos) (tComp wi pick g tt te):=by
  intro pins s σ H Q I h
  rw [eval_ListComp]
  refine wpAny_comprehension_free (use:=none) rfl hs (clos_of S I) S.kind S.names (thn (hit pins s σ H _ I h) fun v s1 h1=>thn h1 fun itv s2 h2=>?_)
  obtain ⟨it,fp,tn,J,H2,rfl,I2,T,st2,f2,W,⟨m0,w0⟩,turn⟩:=h2
  refine comp_block (RR:=fun acc C=>compPost (model X.prog X.w) X.A X.xe none (EP X pins σ Q) acc C) (Qv:=Q) S hc I2 T st2 f2 hg hi he w0 turn ?_
  intro D C H' s' m I' f' n' q'
  exact ⟨m,n',fun h' hs'=>⟨.ref D,H',I'.gone f' hs',rfl,q'⟩⟩
noncomputable def tSetComp (i:Nat) (t:TE):TS:=fun D σ H=>t σ H fun v H1=>D.nx (σ.set i (some v)) H1
theorem ps_setComp {wi:TI} {i:Nat} {y:Str} {py spos:Pos} (hsw:swapsWith (.ListComp elt [⟨tg,iter,ifs,0⟩] scope pos) (some (.Name y py)) spos.line X.env=pure true) (hN:X.N.Nodup) (hy:X.N[i]? = some y) (hl:X.env.scope.names.lookup y=some .local)
    (S:CompScope X N' pick scope) (hc:X.calm=true) (hit:PI X tg iter wi)
    (hg:∀ cl C s₀ H₀ ex pn,PG (compCx X N' scope cl C s₀ H₀ ex pn) tg g) (hi:∀ cl C s₀ H₀ ex pn,PIfs (compCx X N' scope cl C s₀ H₀ ex pn) ifs tt) (he:∀ cl C s₀ H₀ ex pn,PE (compCx X N' scope cl C s₀ H₀ ex pn) elt te)
    (hs:∀ x,foldedSetIterable iter X.env x=pure x:=by intro _; rfl) :
    PS X (.Assign [.Name y py] (.ListComp elt [⟨tg,iter,ifs,0⟩] scope pos) spos) (tSetComp i (tComp wi pick g tt te)):=by
  intro pins s σ H D I h
  rw [exec_Assign_Name_used _ _ _ _ hsw]
  refine wpAny_bind (wpAny_standAt (wpAny_bind ?_))
  show wpAny _ X.A (do let _ ← comprehension (.ListComp elt [⟨tg,iter,ifs,0⟩] scope pos) scope X.env _ (newList []) false (eval iter X.env) (some (assign (.Name y py) X.env))) _ _ s
  refine wpAny_bind (wpAny_mono (wpAny_comprehension_free (use:=some (assign (.Name y py) X.env)) (Q:=fun _ s'=>SP X pins D .next s') rfl hs (clos_of S I) S.kind S.names
    (thn (hit pins s σ H _ I h) fun v s1 h1=>thn h1 fun itv s2 h2=>?_)) (fun _ s' hq=>wpAny_pure (wpAny_pure hq)) fun _ _ e=>e)
  obtain ⟨it,fp,tn,J,H2,rfl,I2,T,st2,f2,W,⟨m0,w0⟩,turn⟩:=h2
  refine comp_block (RR:=fun acc C=>compPost (model X.prog X.w) X.A X.xe (some (assign (.Name y py) X.env)) (fun _ s'=>SP X pins D .next s') acc C) (Qv:=fun v H1=>D.nx (σ.set i (some v)) H1) S hc I2 T st2 f2 hg hi he w0 turn ?_
  intro Da C H' s' m I' f' n' q'
  show wpAny _ X.A (assign (.Name y py) X.env (.ref Da)) _ _ _
  refine wpAny_assign_Name (store_ok2 I' hN hy (.inl hl) (v:=.ref Da) rfl (fun s'' I'' ⟨a,sb,ha⟩=>?_) (.inr hl))
  have hCa:C≠a:=by
    rcases ha with e | e
    · rw [e]; exact f'.2.1
    · exact Ne.symm (f'.2.2.2.2.1 _ _ e)
  exact ⟨m,n'.sameBut sb hCa,fun h' hs'=>⟨_,H',I''.gone f' hs',q'⟩⟩
end
noncomputable def compB (XN:List Str) (xn:List (Str×NameKind)) (N':List Str) (pick:List (Option Nat)) (names:List (Str×NameKind)):Bool :=
  decide N'.Nodup && names.all (fun x=>decide (names.lookup x.1=some x.2)) && decide ((names.map (·.1)).Nodup) && (pick.length == N'.length) &&
  (pick.zip N').all (fun q=>match q.1 with | none=>true | some j=>decide (names.lookup q.2=some NameKind.free) && decide (XN[j]? = some q.2)) &&
  names.all (fun x=>decide (x.2≠NameKind.free) || (decide (xn.lookup x.1=some NameKind.cell) || decide (xn.lookup x.1=some NameKind.free)))
theorem CompScope.of {X:Cx} {N':List Str} {pick:List (Option Nat)} {scope:Scope} (hk:scope.kind=.function) (h:compB X.N X.env.scope.names N' pick scope.names=true):CompScope X N' pick scope:=by
  unfold compB at h
  simp only [Bool.and_eq_true,List.all_eq_true,decide_eq_true_eq,beq_iff_eq,Bool.or_eq_true] at h
  obtain ⟨⟨⟨⟨⟨h1,h2⟩,h3⟩,h4⟩,h5⟩,h6⟩:=h
  refine ⟨hk,h1,fun x hx e=>by rw [← e]; exact h2 x hx,h3,h4,fun i j x hp hN=>?_,fun x hx e=>?_⟩
  · have hm:(some j,x)∈pick.zip N':=by
      have:(pick.zip N')[i]? = some (some j,x):=by rw [List.getElem?_zip_eq_some]; exact ⟨hp,hN⟩
      exact List.mem_of_getElem? this
    exact h5 _ hm |> fun z=>by simpa using z
  · rcases h6 x hx with z | z | z
    · exact absurd e z
    · exact .inl z
    · exact .inr z
end L2
namespace PySem
open Sem (wp)
section
variable {prog:Program} {w:World} {A:Around} {E:Value→Shared→Prop} {s:Shared}
theorem nextOf_tuple_item {it l:Addr} {i:Nat} {items:Array Value} {x:Value} {Q:Value→Shared→Prop} (hit:s.heap.IsTupleIter it l i)
  (hl:s.heap.IsTuple l items) (hx:items[i]? = some x)
  (hQ:∀ h',h'.IsTupleIter it l (i + 1)→Heap.SameBut it s.heap h'→Q x { s with heap:=h' }) :
  wpAny (model prog w) A (Builtin.SmallTypes.nextOf (.ref it)) Q E s:=by
 obtain ⟨o,ho,hc,hd⟩:=id hit
 obtain ⟨ol,hol,_,nl,hdl⟩:=hl
 unfold Builtin.SmallTypes.nextOf
 refine wpAny_bind (wpAny_callSpecial?_slot (name:=Str.ofString "__next__") hit.typeIs F.slot_tuple_iterator_next
  (wpAny_call_entry F.slot_tuple_iterator_next hit.typeIs F.entry_tuple_iterator_next ?_ (F.args_tuple_iterator_next_1 _)))
 show wpAny _ _ (field (.ref it) 0 >>= _) _ _ s
 refine wpAny_bind (wpAny_field ho hd (x:=.ref l) rfl ?_)
 show wpAny _ _ (if (Value.ref l == Value.none)=true then _ else _) _ _ s
 rw [if_neg (show ¬ ((Value.ref l == Value.none)=true) from Bool.false_ne_true)]
 show wpAny _ _ (field (.ref it) 1 >>= _) _ _ s
 refine wpAny_bind (wpAny_field ho hd (x:=.int i 0) rfl ?_)
 show wpAny _ _ (seqItems? (.ref l) >>= _) _ _ s
 refine wpAny_bind (wpAny_seqItems hol hdl ?_)
 simp only [Int.toNat_natCast,hx]
 refine wpAny_bind (wpAny_setField ho hd (by simp) (wpAny_pure ⟨x,rfl,wpAny_pure (hQ _ ?_ (Heap.SameBut.update ..))⟩))
 exact ⟨_,Heap.get?_update_self _ ho (Obj.isFreed_of_fields (Obj.data_mapFields hd _)),(Obj.cls_mapFields ..).trans hc,by
  rw [Obj.data_mapFields hd]; simp [rawInt]⟩
theorem nextOf_tuple_end {it l:Addr} {i:Nat} {items:Array Value} {Q:Value→Shared→Prop} (hh:A.handled=none)
  (hit:s.heap.IsTupleIter it l i) (hl:s.heap.IsTuple l items) (hx:items[i]? = none)
  (hE:∀ h' e,Heap.ExtBut it s.heap h'→(∃ o,h'.get? e=some o∧o.cls=.type "StopIteration")→E (.ref e) { s with heap:=h' }) :
  wpAny (model prog w) A (Builtin.SmallTypes.nextOf (.ref it)) Q E s:=by
 obtain ⟨o,ho,hc,hd⟩:=id hit
 obtain ⟨ol,hol,_,nl,hdl⟩:=hl
 unfold Builtin.SmallTypes.nextOf
 refine wpAny_bind (wpAny_callSpecial?_slot (name:=Str.ofString "__next__") hit.typeIs F.slot_tuple_iterator_next
  (wpAny_call_entry F.slot_tuple_iterator_next hit.typeIs F.entry_tuple_iterator_next ?_ (F.args_tuple_iterator_next_1 _)))
 show wpAny _ _ (field (.ref it) 0 >>= _) _ _ s
 refine wpAny_bind (wpAny_field ho hd (x:=.ref l) rfl ?_)
 show wpAny _ _ (if (Value.ref l == Value.none)=true then _ else _) _ _ s
 rw [if_neg (show ¬ ((Value.ref l == Value.none)=true) from Bool.false_ne_true)]
 show wpAny _ _ (field (.ref it) 1 >>= _) _ _ s
 refine wpAny_bind (wpAny_field ho hd (x:=.int i 0) rfl ?_)
 show wpAny _ _ (seqItems? (.ref l) >>= _) _ _ s
 refine wpAny_bind (wpAny_seqItems hol hdl ?_)
 simp only [Int.toNat_natCast,hx]
 refine wpAny_bind (wpAny_rule (wpAny_bind (wpAny_setField ho hd (by simp) ?_)))
 show wpAny _ _ (newExc (.type "StopIteration") [] >>= _) _ _ _
 refine wpAny_bind ?_
 simp only [newExc,newTuple]
 refine wpAny_bind (wpAny_newObj_type ?_ (by size_fits))
 refine wpAny_bind (m:=firstArgMember _ _) (wpAny_of_eq (a:=Value.none) (by first | rfl | (simp only [firstArgMember]; rfl)) ?_)
 refine wpAny_newObj_type ?_ (by size_fits)
 simp only [raiseNew]
 refine wpAny_bind (wpAny_handled ?_)
 first | rw [show A.in1.handled=none from hh] | rw [hh]
 refine wpAny_bind (wpAny_pure (wpAny_throw ?_))
 exact hE _ _ (((Heap.SameBut.update ..).extBut.push _).push _) ⟨_,Heap.get?_push_size _ rfl,rfl⟩
theorem Draws.tuple {prog:Program} {w:World} {A:Around} (hh:A.handled=none) (it l:Addr) (hne:l≠it) (items:Array Value) :
  Draws prog w A it [it,l] items.size (fun i v=>items[i]? = some v) (fun i h=>h.IsTupleIter it l i∧h.IsTuple l items) where
 live:=fun _ _ st=>let ⟨o,ho,_⟩:=st.1; ⟨o,ho⟩
 frame:=fun _ _ _ st hk=>⟨st.1.at fun o e=>hk it (by simp) o e,let ⟨o,e,r⟩:=st.2; ⟨o,hk l (by simp) o e,r⟩⟩
 item:=fun i s Q E hi st hQ=>by
  refine nextOf_tuple_item st.1 st.2 (x:=items[i]) (by simp [hi]) fun h' hit' hs'=>?_
  exact hQ _ h' s.toks (by simp [hi]) ⟨hit',let ⟨o,e,r⟩:=st.2; ⟨o,hs'.extBut _ _ hne e,r⟩⟩ hs'
 done:=fun s Q E st hE=>nextOf_tuple_end hh st.1 st.2 (by simp) hE
structure ZA (z TI TO i1 i2:Addr) (f1 f2:List Addr):Prop where
 TIz:TI≠z
 TOz:TO≠z
 TITO:TI≠TO
 TIi1:TI≠i1
 TIi2:TI≠i2
 m1:i1∈f1
 m2:i2∈f2
 z1:z∉f1
 z2:z∉f2
 o1:TO∉f1
 o2:TO∉f2
 x1:i1∉f2
 x2:i2∉f1
theorem zipD_item {z TI TO i1 i2:Addr} {f1 f2:List Addr} {n1 n2 k:Nat} {P1 P2:Nat→Value→Prop} {S1 S2:Nat→Heap→Prop} {a b:Value} {Q:Value→Shared→Prop} (D:ZA z TI TO i1 i2 f1 f2) (D1:Draws prog w A i1 f1 n1 P1 S1) (D2:Draws prog w A i2 f2 n2 P2 S2)
  (hz:IsZip s.heap z TI TO .none) (hTI:IsPair s.heap TI (.ref i1) (.ref i2)) (hTO:IsPair s.heap TO a b)
  (h1:S1 k s.heap) (h2:S2 k s.heap) (hx:k < n1) (hy:k < n2)
  (hQ:∀ x y h' tk,P1 k x→P2 k y→IsZip h' z TI TO (rawInt s.heap.objs.size)→IsPair h' TO x y→S1 (k + 1) h'→S2 (k + 1) h'→IsPair h' s.heap.objs.size x y →
   (∀ c o,c≠z→c≠TO→c≠i1→c≠i2→s.heap.get? c=some o→h'.get? c=some o)→Q (.ref s.heap.objs.size) { s with heap:=h',toks:=tk }) :
  wpAny (model prog w) A (Builtin.«zip.__next__» ⟨[.ref z],[]⟩) (fun fin s'=>∃ v,fin=.done (.ret v)∧Q v s') E s:=by
 have nz1:i1≠z:=fun e=>D.z1 (e ▸ D.m1)
 have nz2:i2≠z:=fun e=>D.z2 (e ▸ D.m2)
 have no1:TO≠i1:=fun e=>D.o1 (e ▸ D.m1)
 have no2:TO≠i2:=fun e=>D.o2 (e ▸ D.m2)
 have n12:i1≠i2:=fun e=>D.x1 (e ▸ D.m2)
 show wpAny _ _ (field (.ref z) 2 >>= _) _ _ _
 refine wpAny_bind (wpAny_field hz rfl (x:=.bool false) rfl ?_)
 show wpAny _ _ (field (.ref z) 3 >>= _) _ _ _
 refine wpAny_bind (wpAny_field hz rfl (x:=.ref TI) rfl ?_)
 refine wpAny_bind (wpAny_seqItems hTI rfl ?_)
 show wpAny _ _ (Builtin.SmallTypes.ownedTupleIsFree (.ref z) >>= _) _ _ _
 refine wpAny_bind ?_
 unfold Builtin.SmallTypes.ownedTupleIsFree
 refine wpAny_bind (wpAny_field hz rfl (x:=.none) rfl (wpAny_pure ?_))
 simp only [if_true]
 refine wpAny_bind (wpAny_rule ?_)
 refine wpAny_bind (wpAny_field hz rfl (x:=.ref TO) rfl ?_)
 refine wpAny_bind (wpAny_setField_rec hz (by simp) fun h₁ hz₁ hs₁=>?_)
 replace hz₁:IsZip h₁ z TI TO .ellipsis:=hz₁
 refine wpAny_bind ?_
 simp only [List.zipIdx_cons,List.zipIdx_nil,List.forIn_cons,List.forIn_nil]
 refine wpAny_bind (wpAny_bind (wpAny_onRaise ?_))
 show wpAny _ _ (Builtin.SmallTypes.nextOf (.ref i1) >>= _) _ _ _
 refine wpAny_bind (D1.item k _ _ _ hx (D1.frame _ _ _ h1 fun c hc o e=>hs₁.extBut _ _ (fun q=>D.z1 (q ▸ hc)) e) fun x h₂ tk₂ px h1₂ hs₂=>wpAny_pure ?_)
 have hTO₂:IsPair h₂ TO a b:=hs₂.extBut _ _ no1 (hs₁.extBut _ _ D.TOz hTO)
 refine wpAny_bind (wpAny_seqItems hTO₂ rfl ?_)
 refine wpAny_bind (wpAny_updateSeq_pair hTO₂ fun h₃ hTO₃ hs₃=>?_)
 replace hTO₃:IsPair h₃ TO x b:=hTO₃
 refine wpAny_bind (wpAny_letGo (wpAny_pure ?_))
 refine wpAny_bind (wpAny_bind (wpAny_onRaise ?_))
 show wpAny _ _ (Builtin.SmallTypes.nextOf (.ref i2) >>= _) _ _ _
 refine wpAny_bind (D2.item k _ _ _ hy (D2.frame _ _ _ h2 fun c hc o e=>hs₃.extBut _ _ (fun q=>D.o2 (q ▸ hc)) (hs₂.extBut _ _ (fun q=>D.x1 (q ▸ hc)) (hs₁.extBut _ _ (fun q=>D.z2 (q ▸ hc)) e))) fun y h₄ tk₄ py h2₄ hs₄=>wpAny_pure ?_)
 have hTO₄:IsPair h₄ TO x b:=hs₄.extBut _ _ no2 hTO₃
 refine wpAny_bind (wpAny_seqItems hTO₄ rfl ?_)
 refine wpAny_bind (wpAny_updateSeq_pair hTO₄ fun h₅ hTO₅ hs₅=>?_)
 replace hTO₅:IsPair h₅ TO x y:=hTO₅
 refine wpAny_bind (wpAny_letGo (wpAny_pure (wpAny_pure ?_)))
 refine wpAny_bind (wpAny_seqItems hTO₅ rfl ?_)
 refine wpAny_bind (wpAny_newTuple ?_)
 have hsz:h₅.objs.size=s.heap.objs.size:=by rw [hs₅.1,hs₄.1,hs₃.1,hs₂.1,hs₁.1]
 have hz₅:IsZip h₅ z TI TO .ellipsis:=hs₅.extBut _ _ D.TOz.symm (hs₄.extBut _ _ nz2.symm (hs₃.extBut _ _ D.TOz.symm (hs₂.extBut _ _ nz1.symm hz₁)))
 have hk₅:∀ c o,c≠z→c≠TO→c≠i1→c≠i2→s.heap.get? c=some o→h₅.get? c=some o:=fun c o c1 c2 c3 c4 e =>
  hs₅.extBut _ _ c2 (hs₄.extBut _ _ c4 (hs₃.extBut _ _ c2 (hs₂.extBut _ _ c3 (hs₁.extBut _ _ c1 e))))
 have h1₅:S1 (k + 1) h₅:=D1.frame _ _ _ h1₂ fun c hc o e=>hs₅.extBut _ _ (fun q=>D.o1 (q ▸ hc)) (hs₄.extBut _ _ (fun q=>D.x2 (q ▸ hc)) (hs₃.extBut _ _ (fun q=>D.o1 (q ▸ hc)) e))
 have h2₅:S2 (k + 1) h₅:=D2.frame _ _ _ h2₄ fun c hc o e=>hs₅.extBut _ _ (fun q=>D.o2 (q ▸ hc)) e
 have hzlt:z < h₅.objs.size:=Heap.lt_size hz₅
 show wpAny _ _ (Builtin.SmallTypes.ownedTupleHandOut (.ref z) (.ref h₅.objs.size) >>= _) _ _ _
 refine wpAny_bind ?_
 unfold Builtin.SmallTypes.ownedTupleHandOut
 have hz₆:IsZip (h₅.push { cls:=.type "tuple",data:=.seq #[x,y] }) z TI TO .ellipsis:=Heap.get?_push_of_some _ hz₅
 refine wpAny_bind (wpAny_setField_rec hz₆ (by simp) fun h₇ hz₇ hs₇=>?_)
 replace hz₇:IsZip h₇ z TI TO (rawInt h₅.objs.size):=hz₇
 refine wpAny_setField_rec hz₇ (by simp) fun h₈ hz₈ hs₈=>?_
 replace hz₈:IsZip h₈ z TI TO (rawInt h₅.objs.size):=hz₈
 have up:∀ c o,c≠z→h₅.get? c=some o→h₈.get? c=some o:=fun c o c1 e=>hs₈.extBut _ _ c1 (hs₇.extBut _ _ c1 (Heap.get?_push_of_some _ e))
 have hT₈:IsPair h₈ h₅.objs.size x y:=hs₈.extBut _ _ (Nat.ne_of_gt hzlt) (hs₇.extBut _ _ (Nat.ne_of_gt hzlt) (Heap.get?_push_size _ rfl))
 rw [hsz] at hz₈ hT₈
 refine wpAny_pure ⟨_,rfl,?_⟩
 show Q (.ref h₅.objs.size) _
 rw [hsz]
 exact hQ x y h₈ _ px py hz₈ (up _ _ D.TOz hTO₅) (D1.frame _ _ _ h1₅ fun c hc o e=>up c o (fun q=>D.z1 (q ▸ hc)) e) (D2.frame _ _ _ h2₅ fun c hc o e=>up c o (fun q=>D.z2 (q ▸ hc)) e) hT₈ fun c o c1 c2 c3 c4 e=>up c o c1 (hk₅ c o c1 c2 c3 c4 e)
theorem zipD_end {z TI TO i1 i2:Addr} {f1 f2:List Addr} {n1 n2 k:Nat} {P1 P2:Nat→Value→Prop} {S1 S2:Nat→Heap→Prop} {a b:Value} {Q:Fin→Shared→Prop} (D:ZA z TI TO i1 i2 f1 f2) (D1:Draws prog w A i1 f1 n1 P1 S1) (D2:Draws prog w A i2 f2 n2 P2 S2)
  (hz:IsZip s.heap z TI TO .none) (hTI:IsPair s.heap TI (.ref i1) (.ref i2)) (hTO:IsPair s.heap TO a b)
  (h1:S1 k s.heap) (h2:S2 k s.heap) (hend:k=n1∨(k < n1∧k=n2))
  (hE:∀ h' tk e,(∀ c o,c≠z→c≠TO→c≠i1→c≠i2→s.heap.get? c=some o→h'.get? c=some o)→(∃ o,h'.get? e=some o∧o.cls=.type "StopIteration")→E (.ref e) { s with heap:=h',toks:=tk }) :
  wpAny (model prog w) A (Builtin.«zip.__next__» ⟨[.ref z],[]⟩) Q E s:=by
 have nz1:i1≠z:=fun e=>D.z1 (e ▸ D.m1)
 have nz2:i2≠z:=fun e=>D.z2 (e ▸ D.m2)
 have no1:TO≠i1:=fun e=>D.o1 (e ▸ D.m1)
 have no2:TO≠i2:=fun e=>D.o2 (e ▸ D.m2)
 show wpAny _ _ (field (.ref z) 2 >>= _) _ _ _
 refine wpAny_bind (wpAny_field hz rfl (x:=.bool false) rfl ?_)
 show wpAny _ _ (field (.ref z) 3 >>= _) _ _ _
 refine wpAny_bind (wpAny_field hz rfl (x:=.ref TI) rfl ?_)
 refine wpAny_bind (wpAny_seqItems hTI rfl ?_)
 show wpAny _ _ (Builtin.SmallTypes.ownedTupleIsFree (.ref z) >>= _) _ _ _
 refine wpAny_bind ?_
 unfold Builtin.SmallTypes.ownedTupleIsFree
 refine wpAny_bind (wpAny_field hz rfl (x:=.none) rfl (wpAny_pure ?_))
 simp only [if_true]
 refine wpAny_bind (wpAny_rule ?_)
 refine wpAny_bind (wpAny_field hz rfl (x:=.ref TO) rfl ?_)
 refine wpAny_bind (wpAny_setField_rec hz (by simp) fun h₁ hz₁ hs₁=>?_)
 replace hz₁:IsZip h₁ z TI TO .ellipsis:=hz₁
 refine wpAny_bind ?_
 simp only [List.zipIdx_cons,List.zipIdx_nil,List.forIn_cons,List.forIn_nil]
 refine wpAny_bind (wpAny_bind (wpAny_onRaise ?_))
 show wpAny _ _ (Builtin.SmallTypes.nextOf (.ref i1) >>= _) _ _ _
 have h1₁:S1 k h₁:=D1.frame _ _ _ h1 fun c hc o e=>hs₁.extBut _ _ (fun q=>D.z1 (q ▸ hc)) e
 rcases hend with rfl | ⟨hlt,rfl⟩
 ·refine wpAny_bind (D1.done _ _ _ h1₁ fun h₂ e hs₂ he=>?_)
  obtain ⟨oe,hoe,hce⟩:=he
  have hz₂:IsZip h₂ z TI TO .ellipsis:=hs₂ _ _ nz1.symm hz₁
  have hez:e≠z:=fun x=>by subst x; rw [hz₂] at hoe; cases hoe; simp at hce
  refine wpAny_setField_rec hz₂ (by simp) fun h₃ _ hs₃=>hE h₃ _ e (fun c o c1 _ c3 _ x=>hs₃.extBut _ _ c1 (hs₂ _ _ c3 (hs₁.extBut _ _ c1 x))) ⟨oe,hs₃.extBut _ _ hez hoe,hce⟩
 ·refine wpAny_bind (D1.item k _ _ _ hlt h1₁ fun x h₂ tk₂ px h1₂ hs₂=>wpAny_pure ?_)
  have hTO₂:IsPair h₂ TO a b:=hs₂.extBut _ _ no1 (hs₁.extBut _ _ D.TOz hTO)
  refine wpAny_bind (wpAny_seqItems hTO₂ rfl ?_)
  refine wpAny_bind (wpAny_updateSeq_pair hTO₂ fun h₃ hTO₃ hs₃=>?_)
  refine wpAny_bind (wpAny_letGo (wpAny_pure ?_))
  refine wpAny_bind (wpAny_bind (wpAny_onRaise ?_))
  show wpAny _ _ (Builtin.SmallTypes.nextOf (.ref i2) >>= _) _ _ _
  refine wpAny_bind (D2.done _ _ _ (D2.frame _ _ _ h2 fun c hc o e=>hs₃.extBut _ _ (fun q=>D.o2 (q ▸ hc)) (hs₂.extBut _ _ (fun q=>D.x1 (q ▸ hc)) (hs₁.extBut _ _ (fun q=>D.z2 (q ▸ hc)) e))) fun h₄ e hs₄ he=>?_)
  obtain ⟨oe,hoe,hce⟩:=he
  have hz₄:IsZip h₄ z TI TO .ellipsis:=hs₄ _ _ nz2.symm (hs₃.extBut _ _ D.TOz.symm (hs₂.extBut _ _ nz1.symm hz₁))
  have hez:e≠z:=fun x=>by subst x; rw [hz₄] at hoe; cases hoe; simp at hce
  refine wpAny_setField_rec hz₄ (by simp) fun h₅ _ hs₅=>hE h₅ _ e (fun c o c1 c2 c3 c4 x=>hs₅.extBut _ _ c1 (hs₄ _ _ c4 (hs₃.extBut _ _ c2 (hs₂.extBut _ _ c3 (hs₁.extBut _ _ c1 x))))) ⟨oe,hs₅.extBut _ _ hez hoe,hce⟩
theorem pyNext_zipD_item {z TI TO i1 i2:Addr} {f1 f2:List Addr} {n1 n2 k:Nat} {P1 P2:Nat→Value→Prop} {S1 S2:Nat→Heap→Prop} {a b:Value} {Q:Option Value→Shared→Prop} (D:ZA z TI TO i1 i2 f1 f2) (D1:Draws prog w A.in1 i1 f1 n1 P1 S1) (D2:Draws prog w A.in1 i2 f2 n2 P2 S2)
  (hz:IsZip s.heap z TI TO .none) (hTI:IsPair s.heap TI (.ref i1) (.ref i2)) (hTO:IsPair s.heap TO a b)
  (h1:S1 k s.heap) (h2:S2 k s.heap) (hx:k < n1) (hy:k < n2)
  (hQ:∀ x y h' tk,P1 k x→P2 k y→IsZip h' z TI TO (rawInt s.heap.objs.size)→IsPair h' TO x y→S1 (k + 1) h'→S2 (k + 1) h'→IsPair h' s.heap.objs.size x y →
   (∀ c o,c≠z→c≠TO→c≠i1→c≠i2→s.heap.get? c=some o→h'.get? c=some o)→Q (some (.ref s.heap.objs.size)) { s with heap:=h',toks:=tk }) :
  wpAny (model prog w) A (pyNext (.ref z)) Q E s:=by
 have hT:s.TypeIs (.ref z) "zip":=⟨_,hz,rfl⟩
 unfold pyNext
 exact wpAny_bind (wpAny_attempt (wpAny_callSpecial?_slot (name:=Str.ofString "__next__") hT F.slot_zip_next
  (wpAny_call_entry F.slot_zip_next hT F.entry_zip_next
   (zipD_item D D1 D2 hz hTI hTO h1 h2 hx hy fun x y h' tk a0 b0 a1 a2 a3 a4 a5 a7=>wpAny_pure (hQ x y h' tk a0 b0 a1 a2 a3 a4 a5 a7)) (F.args_zip_next_1 _))))
theorem pyNext_zipD_end {z TI TO i1 i2:Addr} {f1 f2:List Addr} {n1 n2 k:Nat} {P1 P2:Nat→Value→Prop} {S1 S2:Nat→Heap→Prop} {a b:Value} {Q:Option Value→Shared→Prop} (D:ZA z TI TO i1 i2 f1 f2) (D1:Draws prog w A.in1 i1 f1 n1 P1 S1) (D2:Draws prog w A.in1 i2 f2 n2 P2 S2)
  (hz:IsZip s.heap z TI TO .none) (hTI:IsPair s.heap TI (.ref i1) (.ref i2)) (hTO:IsPair s.heap TO a b)
  (h1:S1 k s.heap) (h2:S2 k s.heap) (hend:k=n1∨(k < n1∧k=n2))
  (hQ:∀ h' tk,(∀ c o,c≠z→c≠TO→c≠i1→c≠i2→s.heap.get? c=some o→h'.get? c=some o)→Q none { s with heap:=h',toks:=tk }):wpAny (model prog w) A (pyNext (.ref z)) Q E s:=by
 have hT:s.TypeIs (.ref z) "zip":=⟨_,hz,rfl⟩
 unfold pyNext
 refine wpAny_bind (wpAny_attempt (wpAny_callSpecial?_slot (name:=Str.ofString "__next__") hT F.slot_zip_next
  (wpAny_call_entry F.slot_zip_next hT F.entry_zip_next (zipD_end D D1 D2 hz hTI hTO h1 h2 hend fun h' tk e hk he=>?_) (F.args_zip_next_1 _))))
 obtain ⟨o,ho,hc⟩:=he
 refine wpAny_bind (wpAny_isInstance (T:="StopIteration") (b:=true) ⟨o,ho,hc⟩ isSubtype_stop ?_)
 exact wpAny_pure (hQ _ _ hk)
noncomputable abbrev zipT1 (h:Heap) (l1:Addr):Heap:=h.push { cls:=.type "tuple_iterator",data:=.fields #[.ref l1,.int 0 0] }
noncomputable abbrev zipT2 (h:Heap) (l1 l2:Addr):Heap:=(zipT1 h l1).push { cls:=.type "tuple_iterator",data:=.fields #[.ref l2,.int 0 0] }
noncomputable abbrev zipT3 (h:Heap) (l1 l2:Addr):Heap:=(zipT2 h l1 l2).push { cls:=.type "tuple",data:=.seq #[.ref h.objs.size,.ref (zipT1 h l1).objs.size] }
noncomputable abbrev zipT4 (h:Heap) (l1 l2:Addr):Heap:=(zipT3 h l1 l2).push { cls:=.type "tuple",data:=.seq #[.none,.none] }
noncomputable abbrev zipT5 (h:Heap) (l1 l2:Addr):Heap:=(zipT4 h l1 l2).push { cls:=.type "zip",data:=.fields #[.none,.bool false,.bool false,.ref (zipT2 h l1 l2).objs.size,.ref (zipT3 h l1 l2).objs.size] }
theorem IsTuple_push {h:Heap} {a:Addr} {xs:Array Value} (x:h.IsTuple a xs) (o:Obj):(h.push o).IsTuple a xs:=let ⟨q,e,r⟩:=x; ⟨q,Heap.get?_push_of_some _ e,r⟩
theorem meets_zip_newT (l1 l2:Addr) (xs ys:Array Value) :
  Meets (Builtin.«zip.__new__» ⟨[.type "zip",.ref l1,.ref l2],[]⟩) (fun _ R s=>s.heap.IsTuple l1 xs∧s.heap.IsTuple l2 ys ∧
   R (.ok (.ret (.ref (zipT4 s.heap l1 l2).objs.size))) { s with heap:=zipT5 s.heap l1 l2 }) :=
 .of_wp fun prog w A R s h=>by
  obtain ⟨hp,g,d,tk,os⟩:=s; obtain ⟨hl1,hl2,h⟩:=h
  have hsub:=sub_zip
  have hL1:Heap.IsTuple (Shared.heap ⟨hp,g,d,tk,os⟩) l1 xs:=hl1
  have hL2:Heap.IsTuple (Shared.heap ⟨hp.push { cls:=.type "tuple_iterator",data:=.fields #[.ref l1,.int 0 0] },g,d,tk,os⟩) l2 ys:=IsTuple_push hl2 _
  wp_walk using wpAny_pyIter_tuple hL1,wpAny_pyIter_tuple hL2
  exact ⟨_,rfl,h⟩
theorem call_zip_2T {l1 l2:Addr} {xs ys:Array Value} {Q:Value→Shared→Prop} (hl1:s.heap.IsTuple l1 xs) (hl2:s.heap.IsTuple l2 ys)
  (h:∀ h',IsZip h' (s.heap.objs.size + 4) (s.heap.objs.size + 2) (s.heap.objs.size + 3) .none→IsPair h' (s.heap.objs.size + 2) (.ref s.heap.objs.size) (.ref (s.heap.objs.size + 1)) →
   IsPair h' (s.heap.objs.size + 3) .none .none→h'.IsTupleIter s.heap.objs.size l1 0→h'.IsTupleIter (s.heap.objs.size + 1) l2 0 →
   (∀ c o,s.heap.get? c=some o→h'.get? c=some o)→Q (.ref (s.heap.objs.size + 4)) { s with heap:=h' }) :
  wpAny (model prog w) A (call (.type "zip") [.ref l1,.ref l2]) Q E s:=by
 refine callType_new F.called_zip (by decide) (F.typeCall_zip_2 _ _) (F.newCall_zip_2 _ _) (fun obj=>F.args_object_init_3 obj _ _) F.entry_zip_new
  (meets_zip_newT l1 l2 xs ys) ⟨hl1,hl2,?_⟩
 have z1:(zipT1 s.heap l1).objs.size=s.heap.objs.size + 1:=Heap.size_push ..
 have z2:(zipT2 s.heap l1 l2).objs.size=s.heap.objs.size + 2:=by rw [Heap.size_push,z1]
 have z3:(zipT3 s.heap l1 l2).objs.size=s.heap.objs.size + 3:=by rw [Heap.size_push,z2]
 have z4:(zipT4 s.heap l1 l2).objs.size=s.heap.objs.size + 4:=by rw [Heap.size_push,z3]
 have g5:(zipT5 s.heap l1 l2).get? (zipT4 s.heap l1 l2).objs.size=some _:=Heap.get?_push_size _ rfl
 have g4:(zipT5 s.heap l1 l2).get? (zipT3 s.heap l1 l2).objs.size=some _:=Heap.get?_push_of_some _ (Heap.get?_push_size _ rfl)
 have g3:(zipT5 s.heap l1 l2).get? (zipT2 s.heap l1 l2).objs.size=some _:=Heap.get?_push_of_some _ (Heap.get?_push_of_some _ (Heap.get?_push_size _ rfl))
 have g2:(zipT5 s.heap l1 l2).get? (zipT1 s.heap l1).objs.size=some _:=Heap.get?_push_of_some _ (Heap.get?_push_of_some _ (Heap.get?_push_of_some _ (Heap.get?_push_size _ rfl)))
 have g1:(zipT5 s.heap l1 l2).get? s.heap.objs.size=some _:=Heap.get?_push_of_some _ (Heap.get?_push_of_some _ (Heap.get?_push_of_some _ (Heap.get?_push_of_some _ (Heap.get?_push_size _ rfl))))
 show _∧_
 rw [z2,z3,z4] at g5
 rw [z1,z2] at g3
 rw [z3] at g4
 rw [z1] at g2
 rw [z4]
 exact ⟨⟨_,g5,rfl⟩,h _ g5 g3 g4 ⟨_,g1,rfl,rfl⟩ ⟨_,g2,rfl,rfl⟩ fun c o x =>
  Heap.get?_push_of_some _ (Heap.get?_push_of_some _ (Heap.get?_push_of_some _ (Heap.get?_push_of_some _ (Heap.get?_push_of_some _ x))))⟩
open AutoSeq1 (wpAny_loadPart')
end
end PySem
namespace L2
open PySem PySem.Spec PyProof.Rows
section
variable {X:Cx} {pins:List (Addr×Obj)} {σ:St} {H:Hp} {s:Shared} {K:PySem.W.Frag}
theorem fp_neT {a b:Addr} {xs:List V} (I:Inv X pins σ H s) (f:FpOk X pins H b) (q:SqT X.K H a xs):a≠b:=by
  rintro rfl
  rcases q with (q | ⟨o,q⟩) | ⟨o,its,n,q,_⟩
  · rw [f.1] at q; cases q
  · rw [f.1] at q; cases q
  · have e:=I.ok.mod.kin a o q
    rcases f.2.2.2.1 with z | z
    · exact I.ok.noex _ _ e z
    · exact absurd (Nat.lt_of_lt_of_le (Heap.lt_size e) (Nat.le_trans I.ok.bsz z)) (Nat.lt_irrefl _)
theorem fp_neL {a b:Addr} {xs:List V} (I:Inv X pins σ H s) (f:FpOk X pins H b) (q:SqL X.K H a xs):a≠b:=by
  rintro rfl
  rcases q with (q | ⟨o,q⟩) | ⟨o,its,n,q,_⟩
  · rw [f.1] at q; cases q
  · rw [f.1] at q; cases q
  · have e:=I.ok.mod.kin a o q
    rcases f.2.2.2.1 with z | z
    · exact I.ok.noex _ _ e z
    · exact absurd (Nat.lt_of_lt_of_le (Heap.lt_size e) (Nat.le_trans I.ok.bsz z)) (Nat.lt_irrefl _)
theorem Inv.turnedNew {h':Heap} {t':Nat} {ch:List Addr} {T:Addr} {vs:List V} {us:List Value} (I:Inv X pins σ H s) (hf:∀ b∈ch,FpOk X pins H b) (k:∀ b o,b∉ch→s.heap.get? b=some o→h'.get? b=some o)
    (hT:s.heap.objs.size≤T) (th:∀ b∈ch,∃ o,h'.get? b=some o) (rv:Vals vs us) (hz:vs.length≤sizeLine) (tup:TupN h' T us.toArray):Inv X pins σ (upd H T (.tup vs)) { s with heap:=h',toks:=t' }:=by
  have hn:H T=none:=I.hok.fresh hT
  have nch:∀ b u,H b=some u→b∉ch:=fun b u e z=>by rw [(hf b z).1] at e; cases e
  refine I.step (g':=s.gens) (d':=s.drawn) (ch:=ch) (fun b hb=>?_) (fun b o _ _ hc e _=>k b o hc e) (fun b o _ _ hc e _=>⟨o.slots,k b o hc e⟩) (fun b o _ e n=>?_)
    (fun b o hc e=>⟨o,k b o hc e⟩) (fun b xs e=>by rw [upd_ne (ne_of_none e hn)]; exact e) (fun b o u e=>by rw [upd_ne (ne_of_none e hn)]; exact e) (fun b ps e=>⟨#[],by rw [upd_ne (ne_of_none e hn),e]; simp⟩) (fun m hm=>?_) (fun b u e=>?_) I.bare
  · obtain ⟨f0,f1,f2,f3,f4,f5⟩:=hf b hb
    exact ⟨f3,f1,f4,f5⟩
  · rw [upd_ne (Nat.ne_of_lt (Nat.lt_of_lt_of_le (Heap.lt_size e) hT))]; exact n
  · obtain ⟨o,es,ep,ho,r⟩:=hm
    exact ⟨o,es,ep,k _ o (fun z=>(hf _ z).2.1 rfl) ho,r⟩
  · by_cases hb:b=T
    · subst hb
      rw [upd_same] at e; cases e
      exact ⟨hz,us,rv,tup⟩
    · rw [upd_ne hb] at e
      refine (I.hok b u e).stay (fun c v hc q=>k c v ?_ q) (fun c q=>by rw [upd_ne (ne_of_none q hn)]; exact q) fun c xs q=>by rw [upd_ne (ne_of_none q hn)]; exact q
      rcases hc with z | z
      · rw [z]; exact nch b u e
      · exact nch c _ z
theorem Inv.turnedMany {h':Heap} {t':Nat} {ch:List Addr} (I:Inv X pins σ H s) (hf:∀ b∈ch,FpOk X pins H b) (k:∀ b o,b∉ch→s.heap.get? b=some o→h'.get? b=some o):Inv X pins σ H { s with heap:=h',toks:=t' }:=by
  have nch:∀ b u,H b=some u→b∉ch:=fun b u e z=>by rw [(hf b z).1] at e; cases e
  refine I.step (g':=s.gens) (d':=s.drawn) (ch:=ch) (fun b hb=>?_) (fun b o _ _ hc e _=>k b o hc e) (fun b o _ _ hc e _=>⟨o.slots,k b o hc e⟩) (fun b o _ e n=>n)
    (fun b o hc e=>⟨o,k b o hc e⟩) (fun b xs e=>e) (fun b o u e=>e) (fun b ps e=>⟨#[],by rw [e]; simp⟩) (fun m hm=>?_) (fun b u e=>?_) I.bare
  · obtain ⟨f0,f1,f2,f3,f4,f5⟩:=hf b hb
    exact ⟨f3,f1,f4,f5⟩
  · obtain ⟨o,es,ep,ho,r⟩:=hm
    exact ⟨o,es,ep,k _ o (fun z=>(hf _ z).2.1 rfl) ho,r⟩
  · refine (I.hok b u e).stay (fun c v hc q=>k c v ?_ q) (fun c q=>q) fun c xs q=>q
    rcases hc with z | z
    · rw [z]; exact nch b u e
    · exact nch c _ z
end
structure SeqK (P:Program) (w:World) (K:PySem.W.Frag) (Sq:Hp→Addr→List V→Prop) (IsIt:Heap→Addr→Addr→Nat→Prop) (IsSeq:Heap→Addr→Array Value→Prop):Prop where
  get:∀ {X:Cx} {pins:List (Addr×Obj)} {σ:St} {H:Hp} {s:Shared} {a:Addr} {xs:List V},X.K=K→Inv X pins σ H s→Sq H a xs→∃ its:List Value,Vals xs its∧IsSeq s.heap a its.toArray∧xs.length≤sizeLine
  inj:∀ {X:Cx} {pins:List (Addr×Obj)} {σ:St} {H:Hp} {s:Shared} {a:Addr} {xs ys:List V},X.K=K→Inv X pins σ H s→Sq H a xs→Sq H a ys→xs=ys
  ne:∀ {X:Cx} {pins:List (Addr×Obj)} {σ:St} {H:Hp} {s:Shared} {a b:Addr} {xs:List V},X.K=K→Inv X pins σ H s→FpOk X pins H b→Sq H a xs→a≠b
  drw:∀ (A:Around) (it l:Addr) (items:Array Value),A.handled=none→l≠it→Draws P w A it [it,l] items.size (fun i v=>items[i]? = some v) (fun i h=>IsIt h it l i∧IsSeq h l items)
  obj:∀ {h:Heap} {it l:Addr} {i:Nat},IsIt h it l i→∃ o,h.get? it=some o∧∀ v,o.data≠.cell v
  at':∀ {h h':Heap} {it l:Addr} {i:Nat},IsIt h it l i→(∀ o,h.get? it=some o→h'.get? it=some o)→IsIt h' it l i
theorem seqK_tup {P:Program} {w:World} {K:PySem.W.Frag}:SeqK P w K (SqT K) (fun h it l i=>h.IsTupleIter it l i) (fun h a xs=>h.IsTuple a xs) where
  get:=fun e I q=>by subst e; obtain ⟨its,r,p,z⟩:=I.tuple q; exact ⟨its,r,p,z⟩
  inj:=fun e I q q'=>by subst e; exact I.tuple_inj q q'
  ne:=fun e I f q=>by subst e; exact fp_neT I f q
  drw:=fun A it l items hh hne=>Draws.tuple hh it l hne items
  obj:=fun st=>by obtain ⟨o,e,c,d⟩:=st; exact ⟨o,e,fun v z=>by rw [d] at z; cases z⟩
  at':=fun st k=>st.at k
theorem seqK_lst {P:Program} {w:World} {K:PySem.W.Frag}:SeqK P w K (SqL K) (fun h it l i=>h.IsListIter it l i) (fun h a xs=>h.IsList a xs) where
  get:=fun e I q=>by subst e; obtain ⟨its,r,p,z⟩:=I.list q; exact ⟨its,r,p.isList,z⟩
  inj:=fun e I q q'=>by subst e; exact I.list_inj q q'
  ne:=fun e I f q=>by subst e; exact fp_neL I f q
  drw:=fun A it l items hh hne=>Draws.list hh it l hne items
  obj:=fun st=>by obtain ⟨o,e,c,d⟩:=st; exact ⟨o,e,fun v z=>by rw [d] at z; cases z⟩
  at':=fun st k=>st.at k
noncomputable def Itz (Sq:Hp→Addr→List V→Prop) (a1 a2:Addr):It :=
  ⟨fun i H=>∃ xs ys x y,Sq H a1 xs∧Sq H a2 ys∧xs[i]? = some x∧ys[i]? = some y,
   fun i H v H'=>∃ t x y,v=.ref t∧H t=none∧H'=upd H t (.tup [x,y])∧∀ xs ys,Sq H a1 xs→Sq H a2 ys→xs[i]? = some x∧ys[i]? = some y,
   fun i H=>∃ xs ys,Sq H a1 xs∧Sq H a2 ys∧(i=xs.length∨(i < xs.length∧i=ys.length))⟩
theorem vals_get {xs:List V} {us:List Value} {i:Nat} {u:Value} (r:Vals xs us) (h:us.toArray[i]? = some u):∃ x,xs[i]? = some x∧RelV x u:=by
  have h':us[i]? = some u:=by simpa using h
  have hi:i < xs.length:=by rw [r.length]; exact (List.getElem?_eq_some_iff.mp h').1
  obtain ⟨u',e,q⟩:=r.get (i:=i) (x:=xs[i]) (List.getElem?_eq_getElem hi)
  rw [h'] at e; cases e
  exact ⟨xs[i],List.getElem?_eq_getElem hi,q⟩
theorem turn_zip {P:Program} {w:World} {K:PySem.W.Frag} {Sq:Hp→Addr→List V→Prop} {IsIt:Heap→Addr→Addr→Nat→Prop} {IsSeq:Heap→Addr→Array Value→Prop} (S:SeqK P w K Sq IsIt IsSeq) {es:List Expr} {k:Nat} {pt:Pos} (a1 a2 z TI TO i1 i2:Addr)
    (n1:TI≠z) (n2:TO≠z) (n3:TI≠TO) (n4:TI≠i1) (n5:TI≠i2) (n6:TO≠i1) (n7:TO≠i2) (n8:i1≠z) (n9:i2≠z) (n10:i1≠i2) :
    Turn P w K (.Tuple es k pt) (Itz Sq a1 a2) [z,TI,TO,i1,i2] z (fun i h=>IsZip h z TI TO .none∧IsPair h TI (.ref i1) (.ref i2)∧(∃ a b,IsPair h TO a b)∧IsIt h i1 a1 i∧IsIt h i2 a2 i) where
  mem:=by simp
  obj:=fun i h st b hb=>by
    obtain ⟨hz,hTI,⟨a,b',hTO⟩,h1,h2⟩:=st
    simp only [List.mem_cons,List.not_mem_nil,or_false] at hb
    rcases hb with rfl | rfl | rfl | rfl | rfl
    · exact ⟨_,hz,fun v q=>nomatch q⟩
    · exact ⟨_,hTI,fun v q=>nomatch q⟩
    · exact ⟨_,hTO,fun v q=>nomatch q⟩
    · exact S.obj h1
    · exact S.obj h2
  keep:=fun i h h' st kp=>by
    obtain ⟨hz,hTI,⟨a,b,hTO⟩,h1,h2⟩:=st
    exact ⟨kp _ (by simp) _ hz,kp _ (by simp) _ hTI,⟨a,b,kp _ (by simp) _ hTO⟩,S.at' h1 fun o e=>kp _ (by simp) o e,S.at' h2 fun o e=>kp _ (by simp) o e⟩
  item:=by
    intro X hP hw hK hc i pins s σ H E I hf st hg
    subst hP hw
    obtain ⟨xs,ys,x,y,q1,q2,hx,hy⟩:=hg
    obtain ⟨hz,hTI,⟨a,b,hTO⟩,h1,h2⟩:=st
    obtain ⟨us,r1,p1,l1⟩:=S.get hK I q1
    obtain ⟨vs,r2,p2,l2⟩:=S.get hK I q2
    have ne1:∀ {b:Addr},b∈[z,TI,TO,i1,i2]→a1≠b:=fun hb=>S.ne hK I (hf _ hb) q1
    have ne2:∀ {b:Addr},b∈[z,TI,TO,i1,i2]→a2≠b:=fun hb=>S.ne hK I (hf _ hb) q2
    have hx':i < us.toArray.size:=by have:=(List.getElem?_eq_some_iff.mp hx).1; have:=r1.length; simp; omega
    have hy':i < vs.toArray.size:=by have:=(List.getElem?_eq_some_iff.mp hy).1; have:=r2.length; simp; omega
    have D:ZA z TI TO i1 i2 [i1,a1] [i2,a2]:=⟨n1,n2,n3,n4,n5,by simp,by simp,by simp only [List.mem_cons,List.not_mem_nil,or_false,not_or]; exact ⟨n8.symm,(ne1 (by simp)).symm⟩,by simp only [List.mem_cons,List.not_mem_nil,or_false,not_or]; exact ⟨n9.symm,(ne2 (by simp)).symm⟩,
      by simp only [List.mem_cons,List.not_mem_nil,or_false,not_or]; exact ⟨n6,(ne1 (by simp)).symm⟩,by simp only [List.mem_cons,List.not_mem_nil,or_false,not_or]; exact ⟨n7,(ne2 (by simp)).symm⟩,
      by simp only [List.mem_cons,List.not_mem_nil,or_false,not_or]; exact ⟨n10,(ne2 (by simp)).symm⟩,by simp only [List.mem_cons,List.not_mem_nil,or_false,not_or]; exact ⟨n10.symm,(ne1 (by simp)).symm⟩⟩
    refine pyNext_zipD_item D (S.drw X.A.in1 i1 a1 us.toArray (I.ok.hd hc) (ne1 (by simp))) (S.drw X.A.in1 i2 a2 vs.toArray (I.ok.hd hc) (ne2 (by simp))) hz hTI hTO ⟨h1,p1⟩ ⟨h2,p2⟩ hx' hy' fun u v h' tk pu pv hz' hTO' s1 s2 hT kp=>?_
    refine ⟨_,rfl,?_⟩
    refine wpAny_letOwnedTupleGo_zip (s:={ s with heap:=h',toks:=tk }) hz' fun h'' hz'' hs''=>?_
    obtain ⟨x',ex,rx⟩:=vals_get r1 pu
    obtain ⟨y',ey,ry⟩:=vals_get r2 pv
    have lt:∀ {c:Addr} {o:Obj},s.heap.get? c=some o→c≠s.heap.objs.size:=fun e=>Nat.ne_of_lt (Heap.lt_size e)
    have kp2:∀ c o,c∉[z,TO,i1,i2]→s.heap.get? c=some o→h''.get? c=some o:=fun c o hcn e=>by
      simp only [List.mem_cons,List.not_mem_nil,or_false,not_or] at hcn
      exact hs''.extBut _ _ hcn.1 (kp c o hcn.1 hcn.2.1 hcn.2.2.1 hcn.2.2.2 e)
    have hT2:TupN h'' s.heap.objs.size [u,v].toArray:=⟨_,hs''.extBut _ _ (lt hz).symm hT,rfl,⟨_,rfl⟩,rfl⟩
    have I2:Inv X pins σ (upd H s.heap.objs.size (.tup [x',y'])) { s with heap:=h'',toks:=tk }:=by
      refine I.turnedNew (ch:=[z,TO,i1,i2]) (us:=[u,v]) (fun b hb=>hf b ?_) kp2 (Nat.le_refl _) (fun b hb=>?_) (.cons rx (.cons ry .nil)) (by show 2≤sizeLine; decide) hT2
      · simp only [List.mem_cons,List.not_mem_nil,or_false] at hb ⊢
        rcases hb with rfl | rfl | rfl | rfl <;> simp
      · simp only [List.mem_cons,List.not_mem_nil,or_false] at hb
        rcases hb with rfl | rfl | rfl | rfl
        · exact ⟨_,hz''⟩
        · exact ⟨_,hs''.extBut _ _ n2 hTO'⟩
        · obtain ⟨o,e,_⟩:=S.obj s1.1; exact ⟨_,hs''.extBut _ _ n8 e⟩
        · obtain ⟨o,e,_⟩:=S.obj s2.1; exact ⟨_,hs''.extBut _ _ n9 e⟩
    refine ⟨.ref s.heap.objs.size,_,I2,rfl,⟨_,x',y',rfl,I.hok.fresh (Nat.le_refl _),rfl,fun xs' ys' w1 w2=>?_⟩,⟨hz'',?_,⟨_,_,hs''.extBut _ _ n2 hTO'⟩,S.at' s1.1 fun o e=>hs''.extBut _ _ n8 e,S.at' s2.1 fun o e=>hs''.extBut _ _ n9 e⟩,fun b hb=>?_⟩
    · rw [S.inj hK I w1 q1,S.inj hK I w2 q2]; exact ⟨ex,ey⟩
    · exact hs''.extBut _ _ n1 (kp _ _ n1 n3 n4 n5 hTI)
    · have hb':b≠s.heap.objs.size:=by
        simp only [List.mem_cons,List.not_mem_nil,or_false] at hb
        rcases hb with rfl | rfl | rfl | rfl | rfl
        · exact lt hz
        · exact lt hTI
        · exact lt hTO
        · obtain ⟨o,e,_⟩:=S.obj h1; exact lt e
        · obtain ⟨o,e,_⟩:=S.obj h2; exact lt e
      rw [upd_ne hb']; exact (hf b hb).1
  done:=by
    intro X hP hw hK hc i pins s σ H E I hf st hg
    subst hP hw
    obtain ⟨xs,ys,q1,q2,hend⟩:=hg
    obtain ⟨hz,hTI,⟨a,b,hTO⟩,h1,h2⟩:=st
    obtain ⟨us,r1,p1,l1⟩:=S.get hK I q1
    obtain ⟨vs,r2,p2,l2⟩:=S.get hK I q2
    have ne1:∀ {b:Addr},b∈[z,TI,TO,i1,i2]→a1≠b:=fun hb=>S.ne hK I (hf _ hb) q1
    have ne2:∀ {b:Addr},b∈[z,TI,TO,i1,i2]→a2≠b:=fun hb=>S.ne hK I (hf _ hb) q2
    have D:ZA z TI TO i1 i2 [i1,a1] [i2,a2]:=⟨n1,n2,n3,n4,n5,by simp,by simp,by simp only [List.mem_cons,List.not_mem_nil,or_false,not_or]; exact ⟨n8.symm,(ne1 (by simp)).symm⟩,by simp only [List.mem_cons,List.not_mem_nil,or_false,not_or]; exact ⟨n9.symm,(ne2 (by simp)).symm⟩,
      by simp only [List.mem_cons,List.not_mem_nil,or_false,not_or]; exact ⟨n6,(ne1 (by simp)).symm⟩,by simp only [List.mem_cons,List.not_mem_nil,or_false,not_or]; exact ⟨n7,(ne2 (by simp)).symm⟩,
      by simp only [List.mem_cons,List.not_mem_nil,or_false,not_or]; exact ⟨n10,(ne2 (by simp)).symm⟩,by simp only [List.mem_cons,List.not_mem_nil,or_false,not_or]; exact ⟨n10.symm,(ne1 (by simp)).symm⟩⟩
    have e1:=r1.length
    have e2:=r2.length
    refine pyNext_zipD_end D (S.drw X.A.in1 i1 a1 us.toArray (I.ok.hd hc) (ne1 (by simp))) (S.drw X.A.in1 i2 a2 vs.toArray (I.ok.hd hc) (ne2 (by simp))) hz hTI hTO (k:=i) ⟨h1,p1⟩ ⟨h2,p2⟩ (by simp only [List.size_toArray]; omega) fun h' tk kp=>?_
    refine ⟨rfl,I.turnedMany (ch:=[z,TO,i1,i2]) (fun b hb=>hf b ?_) fun c o hcn e=>?_⟩
    · simp only [List.mem_cons,List.not_mem_nil,or_false] at hb ⊢
      rcases hb with rfl | rfl | rfl | rfl <;> simp
    · simp only [List.mem_cons,List.not_mem_nil,or_false,not_or] at hcn
      exact kp c o hcn.1 hcn.2.1 hcn.2.2.1 hcn.2.2.2 e
  self:=fun A i s Q E st h=>wpAny_pyIter_zip st.1 h
section
variable {X:Cx} {es':List Expr} {kt:Nat} {pt:Pos}
noncomputable def iZip (Sq:Hp→Addr→List V→Prop) (ta:TA):TI:=fun σ H R=>ta σ H fun vs H1=>∃ a b,vs=[.ref a,.ref b]∧(∃ xs ys,Sq H1 a xs∧Sq H1 b ys)∧R (Itz Sq a b) H1
theorem zip_fp {pins:List (Addr×Obj)} {σ:St} {H:Hp} {s:Shared} {n:Nat} (I:Inv X pins σ H s) (hn:s.heap.objs.size=n):∀ b∈[n + 4,n + 2,n + 3,n,n + 1],FpOk X pins H b:=fun b hb=>by
  have:s.heap.objs.size≤b:=by
    simp only [List.mem_cons,List.not_mem_nil,or_false] at hb
    rcases hb with rfl | rfl | rfl | rfl | rfl <;> rw [hn]
    · exact Nat.le_add_right _ _
    · exact Nat.le_add_right _ _
    · exact Nat.le_add_right _ _
    · exact Nat.le_refl _
    · exact Nat.le_add_right _ _
  exact I.fpOk this (I.hok.fresh this)
theorem pi_zipT {a b:Expr} {ta:TA} {p pos:Pos} (hg:Gl X "zip") (hm:X.mg "zip"=none) (ha:PA X [a,b] ta) (hs:starEach [a,b] X.env=[(false,eval a X.env),(false,eval b X.env)]:=by rfl) (hs2:starEach [b] X.env=[(false,eval b X.env)]:=by rfl) :
    PI X (.Tuple es' kt pt) (.Call (.Name "zip" p) [a,b] [] pos) (iZip (SqT X.K) ta):=by
  intro pins s σ H R I h
  refine Call_ (ld_blt I hg hm boot_zip (PyProof.Rows.callWith_type1 (thn (ha pos pins s σ H _ I h) fun us s1 ⟨vs,H1,I1,r1,q1⟩=>?_) (by rw [hs,hs2]) (by rw [hs2]; rfl)))
  obtain ⟨a1,a2,e,⟨xs,ys,q1,q2⟩,q⟩:=q1
  subst e
  cases r1 with
  | cons r rr =>
    cases rr with
    | cons r' rr =>
      cases rr
      cases r
      cases r'
      obtain ⟨us,ru,pu,lu⟩:=I1.tuple q1
      obtain ⟨vs,rv,pv,lv⟩:=I1.tuple q2
      refine call_zip_2T pu pv fun h' hz hTI hTO t1 t2 kp=>wpAny_pyIter_zip hz ?_
      generalize hn:s1.heap.objs.size=n at hz hTI hTO t1 t2
      have ne:∀ {i j:Nat},i≠j→n + i≠n + j:=fun h e=>h (Nat.add_left_cancel e)
      have ne0:∀ {i:Nat},i≠0→n + i≠n:=fun h e=>h (Nat.add_left_cancel (e.trans (Nat.add_zero n).symm))
      refine ⟨n + 4,_,_,_,H1,rfl,I1.kept (t':=s1.toks) kp,turn_zip seqK_tup a1 a2 (n + 4) (n + 2) (n + 3) n (n + 1) (ne (by decide)) (ne (by decide)) (ne (by decide)) (ne0 (by decide)) (ne (by decide)) (ne0 (by decide)) (ne (by decide)) (ne0 (by decide)).symm (ne (by decide)) (ne0 (by decide)).symm,⟨hz,hTI,⟨_,_,hTO⟩,t1,t2⟩,zip_fp I1 hn,q⟩
theorem pi_zipL {a b:Expr} {ta:TA} {p pos:Pos} (hg:Gl X "zip") (hm:X.mg "zip"=none) (ha:PA X [a,b] ta) (hs:starEach [a,b] X.env=[(false,eval a X.env),(false,eval b X.env)]:=by rfl) (hs2:starEach [b] X.env=[(false,eval b X.env)]:=by rfl) :
    PI X (.Tuple es' kt pt) (.Call (.Name "zip" p) [a,b] [] pos) (iZip (SqL X.K) ta):=by
  intro pins s σ H R I h
  refine Call_ (ld_blt I hg hm boot_zip (PyProof.Rows.callWith_type1 (thn (ha pos pins s σ H _ I h) fun us s1 ⟨vs,H1,I1,r1,q1⟩=>?_) (by rw [hs,hs2]) (by rw [hs2]; rfl)))
  obtain ⟨a1,a2,e,⟨xs,ys,q1,q2⟩,q⟩:=q1
  subst e
  cases r1 with
  | cons r rr =>
    cases rr with
    | cons r' rr =>
      cases rr
      cases r
      cases r'
      obtain ⟨us,ru,pu,lu⟩:=I1.list q1
      obtain ⟨vs,rv,pv,lv⟩:=I1.list q2
      refine call_zip_2 pu.isList pv.isList fun h' hz hTI hTO t1 t2 _ kp=>wpAny_pyIter_zip hz ?_
      generalize hn:s1.heap.objs.size=n at hz hTI hTO t1 t2
      have ne:∀ {i j:Nat},i≠j→n + i≠n + j:=fun h e=>h (Nat.add_left_cancel e)
      have ne0:∀ {i:Nat},i≠0→n + i≠n:=fun h e=>h (Nat.add_left_cancel (e.trans (Nat.add_zero n).symm))
      refine ⟨n + 4,_,_,_,H1,rfl,I1.kept (t':=s1.toks) kp,turn_zip seqK_lst a1 a2 (n + 4) (n + 2) (n + 3) n (n + 1) (ne (by decide)) (ne (by decide)) (ne (by decide)) (ne0 (by decide)) (ne (by decide)) (ne0 (by decide)) (ne (by decide)) (ne0 (by decide)).symm (ne (by decide)) (ne0 (by decide)).symm,⟨hz,hTI,⟨_,_,hTO⟩,t1,t2⟩,zip_fp I1 hn,q⟩
end
end L2
namespace L2
open PySem PySem.Spec PyProof.Rows
section
variable {X:Cx}
theorem truth_bools {A:Around} {bs:List Bool} {its:List Value} (r:Vals (bs.map V.bl) its):TruthOf X.prog X.w A (fun i v=>its.toArray[i]? = some v) (fun i=>bs.getD i false):=by
 intro i v s Q E hP hQ
 obtain ⟨x,ex,rx⟩:=vals_get r hP
 rw [List.getElem?_map] at ex
 cases e:bs[i]? with
 | none=>rw [e] at ex; cases ex
 | some b =>
  rw [e] at ex
  cases ex
  cases rx
  refine wpAny_truthy_bool ?_
  have:bs.getD i false=b:=by rw [List.getD_eq_getElem?_getD,e]; rfl
  have hQ:Q (bs.getD i false) s:=hQ
  rw [this] at hQ
  exact hQ
theorem range_all (bs:List Bool):((List.range bs.length).all fun i=>bs.getD i false)=bs.all id:=by
 rw [Bool.eq_iff_iff,List.all_eq_true,List.all_eq_true]
 constructor
 ·intro h b hb
  obtain ⟨i,hi,e⟩:=List.mem_iff_getElem.mp hb
  have:=h i (List.mem_range.mpr hi)
  rw [List.getD_eq_getElem?_getD,List.getElem?_eq_getElem hi] at this
  rw [← e]; exact this
 ·intro h i hi
  have hi:=List.mem_range.mp hi
  rw [List.getD_eq_getElem?_getD,List.getElem?_eq_getElem hi]
  exact h _ (List.getElem_mem hi)
theorem range_any (bs:List Bool):((List.range bs.length).any fun i=>bs.getD i false)=bs.any id:=by
 rw [Bool.eq_iff_iff,List.any_eq_true,List.any_eq_true]
 constructor
 ·rintro ⟨i,hi,h⟩
  have hi:=List.mem_range.mp hi
  rw [List.getD_eq_getElem?_getD,List.getElem?_eq_getElem hi] at h
  exact ⟨_,List.getElem_mem hi,h⟩
 ·rintro ⟨b,hb,h⟩
  obtain ⟨i,hi,e⟩:=List.mem_iff_getElem.mp hb
  refine ⟨i,List.mem_range.mpr hi,?_⟩
  rw [List.getD_eq_getElem?_getD,List.getElem?_eq_getElem hi,e]; exact h
theorem after_walk {pins:List (Addr×Obj)} {σ:St} {H:Hp} {s:Shared} {h':Heap} {tk:Nat} {o:Obj} (I:Inv X pins σ H s) (kp:∀ b q,b∉[s.heap.objs.size]→(s.heap.push o).get? b=some q→h'.get? b=some q):Inv X pins σ H { s with heap:=h',toks:=tk } :=
 I.kept fun b q e=>kp b q (by simp only [List.mem_cons,List.not_mem_nil,or_false]; exact Nat.ne_of_lt (Heap.lt_size e)) (Heap.get?_push_of_some _ e)
theorem call_allB (hc:X.calm=true):CallR X (.builtin "all") (fun xs H Q=>∃ (p:Addr) (bs:List Bool),xs=[.ref p]∧SqL X.K H p (bs.map V.bl)∧Q (.bl (bs.all id)) H):=by
 intro pins s σ H xs us Q I r h
 obtain ⟨p,bs,rfl,hp,q⟩:=h
 obtain ⟨u,rfl,ru⟩:=vals1 r
 cases ru
 obtain ⟨its,rv,pl,hz⟩:=I.list hp
 have hL:=pl.isList
 have hpn:p≠s.heap.objs.size:=by obtain ⟨o,e,_⟩:=hL; exact Nat.ne_of_lt (Heap.lt_size e)
 refine call_all_walk (wpAny_pyIter_list hL ⟨s.heap.objs.size,_,_,its.toArray.size,_,_,fun i=>bs.getD i false,rfl,Walks.list (A:=X.A.in1) (I.ok.hd hc) s.heap.objs.size p hpn its.toArray,⟨⟨_,Heap.get?_push_size _ rfl,rfl,rfl⟩,hL.push _⟩,truth_bools rv,fun h' tk kp=>?_⟩)
 have hl:=rv.length
 rw [List.length_map] at hl
 have I1:Inv X pins σ H { s with heap:=h',toks:=tk }:=after_walk I kp
 refine ⟨.bl (bs.all id),H,I1,?_,q⟩
 show Value.bool _=Value.bool _
 rw [List.size_toArray,← hl,range_all]
theorem call_anyB (hc:X.calm=true):CallR X (.builtin "any") (fun xs H Q=>∃ (p:Addr) (bs:List Bool),xs=[.ref p]∧SqL X.K H p (bs.map V.bl)∧Q (.bl (bs.any id)) H):=by
 intro pins s σ H xs us Q I r h
 obtain ⟨p,bs,rfl,hp,q⟩:=h
 obtain ⟨u,rfl,ru⟩:=vals1 r
 cases ru
 obtain ⟨its,rv,pl,hz⟩:=I.list hp
 have hL:=pl.isList
 have hpn:p≠s.heap.objs.size:=by obtain ⟨o,e,_⟩:=hL; exact Nat.ne_of_lt (Heap.lt_size e)
 refine call_any_walk (wpAny_pyIter_list hL ⟨s.heap.objs.size,_,_,its.toArray.size,_,_,fun i=>bs.getD i false,rfl,Walks.list (A:=X.A.in1) (I.ok.hd hc) s.heap.objs.size p hpn its.toArray,⟨⟨_,Heap.get?_push_size _ rfl,rfl,rfl⟩,hL.push _⟩,truth_bools rv,fun h' tk kp=>?_⟩)
 have hl:=rv.length
 rw [List.length_map] at hl
 have I1:Inv X pins σ H { s with heap:=h',toks:=tk }:=after_walk I kp
 refine ⟨.bl (bs.any id),H,I1,?_,q⟩
 show Value.bool _=Value.bool _
 rw [List.size_toArray,← hl,range_any]
noncomputable def tyName (H:Hp):V→String→Prop
 | .non,n=>n="NoneType"
 | .bl _,n=>n="bool"
 | .int _,n=>n="int"
 | .str _,n=>n="str"
 | .ref a,n=>(n="list"∧((∃ xs,H a=some (.lst xs))∨∃ o xs,H a=some (.frz o (.lst xs))))∨(n="tuple"∧∃ xs,H a=some (.tup xs))∨(n="dict"∧((∃ k,H a=some (.dK k))∨∃ k,H a=some (.dT k)))
 | _,_=>False
theorem tyOf_name {K:PySem.W.Frag} {H:Hp} {x:V} {n:String} (h:tyName H x n):TyOf K H x (.type n):=by
 cases x with
 | non=>cases (show n="NoneType" from h); exact .non
 | bl b=>cases (show n="bool" from h); exact .bl b
 | int b=>cases (show n="int" from h); exact .int b
 | str b=>cases (show n="str" from h); exact .str b
 | ref a =>
  rcases h with ⟨rfl,⟨xs,e⟩ | ⟨o,xs,e⟩⟩ | ⟨rfl,xs,e⟩ | ⟨rfl,⟨k,e⟩ | ⟨k,e⟩⟩
  ·exact .lst e
  ·exact .frz e
  ·exact .tup e
  ·exact .dK e
  ·exact .dT e
 | _=>exact False.elim h
noncomputable def subT (n T:String):Bool:=n == T || (n == "bool" && T == "int")
noncomputable def kitG (n T:String):Option Bool:=if (Value.type n == Value.type T)=true then some true else if PySem.W.kitMeta T=true then (fastBuiltinMro n).map (·.contains (Value.type T)) else none
theorem kit_sub {K:PySem.W.Frag} {n T:String} (hn:n∈["NoneType","bool","int","str","list","tuple","dict"]) (hT:T∈["bool","int","str","list","tuple","dict"]):PySem.W.kitOne K (.type n) (.type T)=some (subT n T):=by
 show kitG n T=some (subT n T)
 simp only [List.mem_cons,List.not_mem_nil,or_false] at hn hT
 rcases hn with rfl | rfl | rfl | rfl | rfl | rfl | rfl <;> rcases hT with rfl | rfl | rfl | rfl | rfl | rfl <;> decide +kernel
theorem tyName_mem {H:Hp} {x:V} {n:String} (h:tyName H x n):n∈["NoneType","bool","int","str","list","tuple","dict"]:=by
 cases x with
 | non=>cases (show n="NoneType" from h); simp
 | bl b=>cases (show n="bool" from h); simp
 | int b=>cases (show n="int" from h); simp
 | str b=>cases (show n="str" from h); simp
 | ref a=>rcases h with ⟨rfl,_⟩ | ⟨rfl,_⟩ | ⟨rfl,_⟩ <;> simp
 | _=>exact False.elim h
theorem call_isinst:CallR X (.builtin "isinstance") (fun xs H Q=>∃ x n T,xs=[x,.ty T]∧tyName H x n∧T∈["bool","int","str","list","tuple","dict"]∧Q (.bl (subT n T)) H):=by
 intro pins s σ H xs us Q I r h
 obtain ⟨x,n,T,rfl,hx,hT,q⟩:=h
 obtain ⟨u,v,rfl,ru,rv⟩:=Vals.two r
 cases (show v=Value.type T from rv)
 exact isinst_ok I ru (tyOf_name hx) (kit_sub (tyName_mem hx) hT) fun tk=>⟨.bl _,H,I.tok tk,rfl,q⟩
end
end L2
namespace L2
open PySem PySem.Spec PyProof.Rows
noncomputable def excP (ea C:Addr):Heap→Prop:=fun h=>∃ o,h.get? ea=some o∧o.cls=.ref C
noncomputable def dicP (a:Addr):Heap→Prop:=PySem.W.KitAt a "dict"
structure Def (K:PySem.W.Frag) (mg:Str→Option Value) (x:Str) (st:Stmt) (ps:List Str) (f:Addr) (fd:FuncData):Prop where
 fn:Fun K x x st f fd
 at':mg x=some (.ref f)
 bd:Binds K fd ps []
section
variable {X:Cx}
theorem pe_fn {x:Str} {st:Stmt} {ps:List Str} {f:Addr} {fd:FuncData} {k:Nat} {sp:Sp} {e:Expr} {es:List Expr} {t:TA} {p pos:Pos} (D:Def X.K X.mg x st ps f fd) (G:FnOk X.prog X.w X.K X.mg X.base CX0 k f fd ps sp) (hr:Room k X.A) (ha:PA X (e :: es) t) (hg:Gl X x:=by rfl)
  (hdb:(x == ("__debug__":Str))=false:=by decide) (he:starEach (e :: es) X.env=(false,eval e X.env) :: starEach es X.env:=by rfl) (hpl:(backTo pos (starEach es X.env)).any (·.1)=false:=by rfl) :
  PE X (.Call (.Name x p) (e :: es) [] pos) (tCall sp [] E0 t):=pe_call G hr hg D.at' D.fn.kp D.bd .nil pass0 ha hdb he hpl
theorem pe_ty {x:Str} {n:String} {pos:Pos} (hg:Gl X x) (hm:X.mg x=none) (hv:bootBuiltins x=some (.type n)) (hn:x≠"__name__":=by decide) (hd:(x == ("__debug__":Str))=false:=by decide):PE X (.Name x pos) (tC (.ty n)):=pe_bltn hg hm hv rfl hn hd
end
end L2
namespace L2
open PySem PySem.Spec PyProof.Rows
noncomputable def isStar:Expr→Bool
 | .Starred _ _=>true
 | _=>false
theorem starE {a:Expr} {es:List Expr} {env:Env} (h:isStar a=false):starEach (a :: es) env=(false,eval a env) :: starEach es env:=by
 cases a <;> first | (cases h; done) | (simp only [starEach]; done)
noncomputable def noStar (es:List Expr):Bool:=es.all fun a=>!isStar a
theorem starAny {es:List Expr} {env:Env} {pos:Pos} (h:noStar es=true):(backTo pos (starEach es env)).any (·.1)=false:=by
 induction es with
 | nil=>simp only [starEach]; rfl
 | cons a es ih =>
  have h:(!isStar a && noStar es)=true:=h
  rw [Bool.and_eq_true] at h
  rw [starE (by simpa using h.1)]
  have:=ih h.2
  simpa [backTo] using this
theorem star1 {a:Expr} {env:Env} (h:isStar a=false):starEach [a] env=[(false,eval a env)]:=by
 rw [starE h]; simp only [starEach]
theorem star2 {a b:Expr} {env:Env} (h:isStar a=false) (g:isStar b=false):starEach [a,b] env=[(false,eval a env),(false,eval b env)]:=by
 rw [starE h,star1 g]
theorem starFew {a:Expr} {env:Env} {pos:Pos} (h:isStar a=false):((backTo pos (starEach [a] env)).all (fun x=>!x.1) && (backToKw pos (keywordEach [] env)).all (fun x=>x.1.isSome)
   && decide ([a].length + ([]:List Keyword).length + (if ([]:List Keyword).isEmpty then 0 else 1) < 30))=true:=by
 rw [star1 h]; simp [backTo,backToKw,keywordEach]
inductive D where
 | non | bl (b:Bool) | int (i:Int) | str (x:Str) | ty (n:String) | tup (l:List D) | lst (l:List D) | ref (k:Nat) | scr (l:List Int) | fn (x:Str) (n:Nat) | exc (x:Str) | dic
inductive Cell where
 | lst (l:List D)
mutual
noncomputable def noRef:D→Bool
 | .tup l=>noRefs l
 | .lst l=>noRefs l
 | .ref _=>false
 | .non=>true
 | .bl _=>true
 | .int _=>true
 | .str _=>true
 | .ty _=>true
 | .scr _=>true
 | .fn _ _=>true
 | .exc _=>true
 | .dic=>true
noncomputable def noRefs:List D→Bool
 | []=>true
 | d :: l=>noRef d && noRefs l
end
theorem noRefs_append:∀ {l m:List D},noRefs (l ++ m)=(noRefs l && noRefs m)
 | [],m=>by simp [noRefs]
 | d :: l,m=>by simp [noRefs,noRefs_append (l:=l),Bool.and_assoc]
theorem noRefs_set:∀ {l:List D} {i:Nat} {d:D},noRefs l=true→noRef d=true→noRefs (l.set i d)=true
 | [],i,d,h,g=>h
 | b :: l,0,d,h,g=>by simp_all [noRefs]
 | b :: l,i + 1,d,h,g=>by
  simp only [noRefs,Bool.and_eq_true] at h
  simp only [List.set_cons_succ,noRefs,Bool.and_eq_true]
  exact ⟨h.1,noRefs_set h.2 g⟩
theorem noRefs_iff:∀ {l:List D},noRefs l=true↔∀ d∈l,noRef d=true
 | []=>by simp [noRefs]
 | d :: l=>by simp [noRefs,noRefs_iff (l:=l)]
theorem noRefs_ints {l:List Int}:noRefs (l.map D.int)=true:=noRefs_iff.mpr fun d h=>by
 obtain ⟨i,_,rfl⟩:=List.mem_map.mp h
 rfl
inductive R (α:Type) where
 | ok (a:α) (c:List Cell)
 | bad
noncomputable def R.bind {α β:Type} (r:R α) (f:α→List Cell→R β):R β:=match r with
 | .ok a c=>f a c
 | .bad=>.bad
@[simp] theorem R.bind_ok {α β:Type} {a:α} {c:List Cell} {f:α→List Cell→R β}:(R.ok a c).bind f=f a c:=rfl
@[simp] theorem R.bind_bad {α β:Type} {f:α→List Cell→R β}:(R.bad:R α).bind f=.bad:=rfl
noncomputable def SqP (K:PySem.W.Frag) (ρ:List Addr) (H:Hp) (a:Addr) (xs:List V):Prop:=(Rd H a (.lst xs)∧a∉ρ)∨SqL K (fun _=>none) a xs
mutual
noncomputable def Rel (K:PySem.W.Frag) (ρ:List Addr) (H:Hp):D→V→Prop
 | .non,v=>v=.non
 | .bl b,v=>v=.bl b
 | .int i,v=>v=.int i
 | .str x,v=>v=.str x
 | .ty n,v=>v=.ty n
 | .tup l,v=>∃ a xs,v=.ref a∧H a=some (.tup xs)∧Rels K ρ H l xs
 | .lst l,v=>∃ a xs,v=.ref a∧(H a=some (.lst xs)∧a∉ρ)∧Rels K ρ H l xs
 | .ref k,v=>∃ a,v=.ref a∧ρ[k]? = some a
 | .scr l,v=>∃ a,v=.ref a∧SqP K ρ H a (l.map V.int)
 | .fn x n,v=>∃ a,v=.ref a∧PySem.W.nsIn K mainGlobals x=some (some (.ref a))
 | .dic,v=>∃ a,v=.ref a∧H a=some (.ext (dicP a))
 | .exc x,v=>∃ a C,v=.ref a∧PySem.W.nsIn K mainGlobals x=some (some (.ref C))∧H a=some (.ext (excP a C))
noncomputable def Rels (K:PySem.W.Frag) (ρ:List Addr) (H:Hp):List D→List V→Prop
 | [],xs=>xs=[]
 | d :: l,xs=>∃ x r,xs=x :: r∧Rel K ρ H d x∧Rels K ρ H l r
end
theorem SqP.sql {K:PySem.W.Frag} {ρ:List Addr} {H:Hp} {a:Addr} {xs:List V} (h:SqP K ρ H a xs):SqL K H a xs:=by
 rcases h with ⟨h,_⟩ | (h | h)
 ·exact .inl h
 ·rcases h with h | ⟨o,h⟩ <;> cases h
 ·exact .inr h
noncomputable def CellOk (K:PySem.W.Frag) (ρ:List Addr) (H:Hp) (a:Addr):Cell→Prop
 | .lst l=>noRefs l=true∧∃ xs,H a=some (.lst xs)∧Rels K ρ H l xs
structure Wd (K:PySem.W.Frag) (ρ:List Addr) (H:Hp) (c:List Cell):Prop where
 nd:ρ.Nodup
 len:ρ.length=c.length
 cel:∀ (k:Nat) (a:Addr) (cl:Cell),ρ[k]? = some a→c[k]? = some cl→CellOk K ρ H a cl
structure Ext (ρ:List Addr) (H:Hp) (ρ':List Addr) (H':Hp):Prop where
 pre:∀ (k:Nat) (a:Addr),ρ[k]? = some a→ρ'[k]? = some a
 keep:∀ a o,H a=some o→a∉ρ→H' a=some o∧a∉ρ'
theorem Ext.refl {ρ:List Addr} {H:Hp}:Ext ρ H ρ H:=⟨fun _ _ h=>h,fun _ _ h n=>⟨h,n⟩⟩
theorem Ext.trans {ρ ρ1 ρ2:List Addr} {H H1 H2:Hp} (x:Ext ρ H ρ1 H1) (y:Ext ρ1 H1 ρ2 H2):Ext ρ H ρ2 H2 :=
 ⟨fun k a h=>y.pre k a (x.pre k a h),fun a o h n=>let ⟨h1,n1⟩:=x.keep a o h n; y.keep a o h1 n1⟩
section
variable {K:PySem.W.Frag} {ρ ρ':List Addr} {H H':Hp} {c c':List Cell}
theorem Wd.at' (W:Wd K ρ H c) {a:Addr} (h:a∈ρ):∃ xs,H a=some (.lst xs):=by
 obtain ⟨k,hk,e⟩:=List.mem_iff_getElem.mp h
 have hc:k < c.length:=by rw [← W.len]; exact hk
 have q:=W.cel k a c[k] (by rw [List.getElem?_eq_getElem hk,e]) (List.getElem?_eq_getElem hc)
 cases hcl:c[k] with
 | lst l=>rw [hcl] at q; obtain ⟨_,xs,h,_⟩:=q; exact ⟨xs,h⟩
theorem Wd.noT (W:Wd K ρ H c) {a:Addr} {xs:List V} (h:H a=some (.tup xs)):a∉ρ:=fun m=>by
 obtain ⟨ys,e⟩:=W.at' m
 rw [e] at h; cases h
theorem Wd.nil (W:Wd K ρ H c) {a:Addr} (h:H a=none):a∉ρ:=fun m=>by
 obtain ⟨ys,e⟩:=W.at' m
 rw [e] at h; cases h
theorem tup_mono (W:Wd K ρ H c) (x:Ext ρ H ρ' H') {a:Addr} {xs:List V} (h:H a=some (.tup xs)):H' a=some (.tup xs):=(x.keep a _ h (W.noT h)).1
theorem lst_mono (x:Ext ρ H ρ' H') {a:Addr} {xs:List V} (h:H a=some (.lst xs)∧a∉ρ):H' a=some (.lst xs)∧a∉ρ':=x.keep a _ h.1 h.2
theorem sqP_mono (x:Ext ρ H ρ' H') {a:Addr} {xs:List V} (h:SqP K ρ H a xs):SqP K ρ' H' a xs:=by
 rcases h with ⟨h,n⟩ | h
 ·rcases h with h | ⟨o,h⟩
  ·exact .inl ⟨.inl (x.keep a _ h n).1,(x.keep a _ h n).2⟩
  ·exact .inl ⟨.inr ⟨o,(x.keep a _ h n).1⟩,(x.keep a _ h n).2⟩
 ·exact .inr h
mutual
theorem Rel.mono (W:Wd K ρ H c) (x:Ext ρ H ρ' H'):∀ (d:D) (v:V),Rel K ρ H d v→Rel K ρ' H' d v
 | .non,v,h=>h
 | .bl b,v,h=>h
 | .int i,v,h=>h
 | .str y,v,h=>h
 | .ty n,v,h=>h
 | .tup l,v,h=>by
  obtain ⟨a,xs,e,s,r⟩:=h
  exact ⟨a,xs,e,tup_mono W x s,Rels.mono W x l xs r⟩
 | .lst l,v,h=>by
  obtain ⟨a,xs,e,s,r⟩:=h
  exact ⟨a,xs,e,lst_mono x s,Rels.mono W x l xs r⟩
 | .ref k,v,h=>by
  obtain ⟨a,e,s⟩:=h
  exact ⟨a,e,x.pre k a s⟩
 | .scr l,v,h=>by
  obtain ⟨a,e,s⟩:=h
  exact ⟨a,e,sqP_mono x s⟩
 | .fn a n,v,h=>h
 | .dic,v,h=>by
  obtain ⟨a,e,q⟩:=h
  exact ⟨a,e,(x.keep a _ q fun m=>by obtain ⟨ys,z⟩:=W.at' m; rw [z] at q; cases q).1⟩
 | .exc y,v,h=>by
  obtain ⟨a,C,e,n,q⟩:=h
  exact ⟨a,C,e,n,(x.keep a _ q fun m=>by obtain ⟨ys,z⟩:=W.at' m; rw [z] at q; cases q).1⟩
theorem Rels.mono (W:Wd K ρ H c) (x:Ext ρ H ρ' H'):∀ (l:List D) (xs:List V),Rels K ρ H l xs→Rels K ρ' H' l xs
 | [],xs,h=>h
 | d :: l,xs,h=>by
  obtain ⟨y,r,e,h1,h2⟩:=h
  exact ⟨y,r,e,Rel.mono W x d y h1,Rels.mono W x l r h2⟩
end
theorem Rels.length:∀ {l:List D} {xs:List V},Rels K ρ H l xs→xs.length=l.length
 | [],xs,h=>by cases (show xs=[] from h); rfl
 | d :: l,xs,h=>by
  obtain ⟨y,r,rfl,h1,h2⟩:=h
  simp only [List.length_cons,Rels.length h2]
theorem Rels.get:∀ {l:List D} {xs:List V} {i:Nat} {d:D},Rels K ρ H l xs→l[i]? = some d→∃ x,xs[i]? = some x∧Rel K ρ H d x
 | [],_,_,_,_,e=>by cases e
 | _ :: l,_,0,_,h,e=>by
  obtain ⟨y,r,rfl,h1,h2⟩:=h
  cases e
  exact ⟨y,rfl,h1⟩
 | _ :: l,_,i + 1,_,h,e=>by
  obtain ⟨y,r,rfl,h1,h2⟩:=h
  exact Rels.get (i:=i) h2 e
theorem Rels.append:∀ {l m:List D} {xs ys:List V},Rels K ρ H l xs→Rels K ρ H m ys→Rels K ρ H (l ++ m) (xs ++ ys)
 | [],m,xs,ys,h,g=>by cases (show xs=[] from h); exact g
 | d :: l,m,xs,ys,h,g=>by
  obtain ⟨y,r,rfl,h1,h2⟩:=h
  exact ⟨y,r ++ ys,rfl,h1,Rels.append h2 g⟩
theorem Rels.set:∀ {l:List D} {xs:List V} {d:D} {x:V} (i:Nat),Rels K ρ H l xs→Rel K ρ H d x→Rels K ρ H (l.set i d) (xs.set i x)
 | [],xs,d,x,i,h,g=>by cases (show xs=[] from h); exact rfl
 | b :: l,xs,d,x,0,h,g=>by
  obtain ⟨y,r,rfl,h1,h2⟩:=h
  exact ⟨x,r,rfl,g,h2⟩
 | b :: l,xs,d,x,i + 1,h,g=>by
  obtain ⟨y,r,rfl,h1,h2⟩:=h
  exact ⟨y,r.set i x,rfl,h1,Rels.set i h2 g⟩
theorem Rels.take:∀ {l:List D} {xs:List V} (n:Nat),Rels K ρ H l xs→Rels K ρ H (l.take n) (xs.take n)
 | l,xs,0,h=>by simp only [List.take_zero]; exact rfl
 | [],xs,n + 1,h=>by cases (show xs=[] from h); exact rfl
 | d :: l,xs,n + 1,h=>by
  obtain ⟨y,r,rfl,h1,h2⟩:=h
  exact ⟨y,r.take n,rfl,h1,Rels.take n h2⟩
theorem Rels.drop:∀ {l:List D} {xs:List V} (n:Nat),Rels K ρ H l xs→Rels K ρ H (l.drop n) (xs.drop n)
 | l,xs,0,h=>h
 | [],xs,n + 1,h=>by cases (show xs=[] from h); exact rfl
 | d :: l,xs,n + 1,h=>by
  obtain ⟨y,r,rfl,h1,h2⟩:=h
  exact Rels.drop n h2
theorem Rels.ints {l:List Int}:Rels K ρ H (l.map D.int) (l.map V.int):=by
 induction l with
 | nil=>exact rfl
 | cons a l ih=>exact ⟨_,_,rfl,rfl,ih⟩
theorem Rels.ints_inv:∀ {l:List Int} {xs:List V},Rels K ρ H (l.map D.int) xs→xs=l.map V.int
 | [],xs,h=>h
 | a :: l,xs,h=>by
  obtain ⟨y,r,rfl,h1,h2⟩:=h
  cases (show y=V.int a from h1)
  rw [Rels.ints_inv h2]; rfl
theorem Rels.bls_inv:∀ {l:List Bool} {xs:List V},Rels K ρ H (l.map D.bl) xs→xs=l.map V.bl
 | [],xs,h=>h
 | a :: l,xs,h=>by
  obtain ⟨y,r,rfl,h1,h2⟩:=h
  cases (show y=V.bl a from h1)
  rw [Rels.bls_inv h2]; rfl
theorem Ext.fresh {p:Addr} {o:HO} (W:Wd K ρ H c) (h:H p=none):Ext ρ H ρ (upd H p o) :=
 ⟨fun _ _ e=>e,fun a u e n=>⟨by rw [upd_ne (ne_of_none e h)]; exact e,n⟩⟩
theorem Wd.fresh {p:Addr} {o:HO} (W:Wd K ρ H c) (h:H p=none):Wd K ρ (upd H p o) c :=
 ⟨W.nd,W.len,fun k a cl e1 e2=>by
  have q:=W.cel k a cl e1 e2
  cases cl with
  | lst l =>
   obtain ⟨nr,xs,e,r⟩:=q
   exact ⟨nr,xs,by rw [upd_ne (ne_of_none e h)]; exact e,Rels.mono W (Ext.fresh W h) l xs r⟩⟩
theorem Ext.cell {p:Addr} {o:HO} (W:Wd K ρ H c) (h:H p=none):Ext ρ H (ρ ++ [p]) (upd H p o) :=
 ⟨fun k a e=>by rw [List.getElem?_append_left (List.getElem?_eq_some_iff.mp e).1]; exact e,fun a u e n=>⟨by rw [upd_ne (ne_of_none e h)]; exact e,by
  rw [List.mem_append]
  rintro (z | z)
  ·exact n z
  ·exact ne_of_none e h (by simpa using z)⟩⟩
theorem Wd.cell {p:Addr} {l:List D} {xs:List V} (W:Wd K ρ H c) (h:H p=none) (nr:noRefs l=true) (r:Rels K ρ H l xs):Wd K (ρ ++ [p]) (upd H p (.lst xs)) (c ++ [.lst l]):=by
 have X:=Ext.cell (o:=.lst xs) W h
 refine ⟨?_,by simp [W.len],fun k a cl e1 e2=>?_⟩
 ·rw [List.nodup_append]
  refine ⟨W.nd,by simp,?_⟩
  intro a ha b hb
  rw [List.mem_singleton] at hb
  subst hb
  exact fun z=>W.nil h (z ▸ ha)
 ·by_cases hk:k < c.length
  ·rw [List.getElem?_append_left hk] at e2
   rw [List.getElem?_append_left (by rw [W.len]; exact hk)] at e1
   have q:=W.cel k a cl e1 e2
   cases cl with
   | lst l' =>
    obtain ⟨nr',ys,e,r'⟩:=q
    exact ⟨nr',ys,by rw [upd_ne (ne_of_none e h)]; exact e,Rels.mono W X l' ys r'⟩
  ·have hk':k=c.length:=by
    have:=(List.getElem?_eq_some_iff.mp e2).1
    simp at this
    omega
   subst hk'
   rw [List.getElem?_append_right (Nat.le_refl _),Nat.sub_self] at e2
   rw [List.getElem?_append_right (by rw [W.len]; exact Nat.le_refl _),W.len,Nat.sub_self] at e1
   cases e1; cases e2
   exact ⟨nr,xs,upd_same,Rels.mono W X l xs r⟩
theorem Ext.write {k:Nat} {p:Addr} {o:HO} (h:ρ[k]? = some p):Ext ρ H ρ (upd H p o) :=
 ⟨fun _ _ e=>e,fun a u e n=>⟨by rw [upd_ne (fun z=>n (by rw [z]; exact List.mem_of_getElem? h))]; exact e,n⟩⟩
theorem Wd.write {k:Nat} {p:Addr} {l:List D} {xs:List V} (W:Wd K ρ H c) (h:ρ[k]? = some p) (nr:noRefs l=true) (r:Rels K ρ H l xs):Wd K ρ (upd H p (.lst xs)) (c.set k (.lst l)):=by
 have X:=Ext.write (H:=H) (o:=.lst xs) h
 refine ⟨W.nd,by simp [W.len],fun j a cl e1 e2=>?_⟩
 by_cases hj:j=k
 ·subst hj
  rw [h] at e1; cases e1
  have hl:j < c.length:=by rw [← W.len]; exact (List.getElem?_eq_some_iff.mp h).1
  rw [List.getElem?_set_self hl] at e2
  cases e2
  exact ⟨nr,xs,upd_same,Rels.mono W X l xs r⟩
 ·rw [List.getElem?_set_ne (Ne.symm hj)] at e2
  have q:=W.cel j a cl e1 e2
  have hap:a≠p:=by
   intro e
   subst e
   have h1:=(List.getElem?_eq_some_iff.mp h)
   have h2:=(List.getElem?_eq_some_iff.mp e1)
   exact hj ((List.getElem_inj W.nd (h₀:=h2.1) (h₁:=h1.1)).mp (h2.2.trans h1.2.symm))
  cases cl with
  | lst l' =>
   obtain ⟨nr',ys,e,r'⟩:=q
   exact ⟨nr',ys,by rw [upd_ne hap]; exact e,Rels.mono W X l' ys r'⟩
mutual
theorem Rel.low (h:∀ a,a∈ρ'→a∈ρ):∀ (d:D) (v:V),noRef d=true→Rel K ρ H d v→Rel K ρ' H d v
 | .non,v,_,r=>r
 | .bl b,v,_,r=>r
 | .int i,v,_,r=>r
 | .str y,v,_,r=>r
 | .ty n,v,_,r=>r
 | .tup l,v,n,r=>by
  obtain ⟨a,xs,e,s,r⟩:=r
  exact ⟨a,xs,e,s,Rels.low h l xs n r⟩
 | .lst l,v,n,r=>by
  obtain ⟨a,xs,e,s,r⟩:=r
  exact ⟨a,xs,e,⟨s.1,fun q=>s.2 (h a q)⟩,Rels.low h l xs n r⟩
 | .ref k,v,n,r=>by cases n
 | .scr l,v,n,r=>by
  obtain ⟨a,e,s⟩:=r
  refine ⟨a,e,?_⟩
  rcases s with ⟨s,z⟩ | s
  ·exact .inl ⟨s,fun q=>z (h a q)⟩
  ·exact .inr s
 | .fn a m,v,n,r=>r
 | .exc y,v,n,r=>r
 | .dic,v,n,r=>r
theorem Rels.low (h:∀ a,a∈ρ'→a∈ρ):∀ (l:List D) (xs:List V),noRefs l=true→Rels K ρ H l xs→Rels K ρ' H l xs
 | [],xs,_,r=>r
 | d :: l,xs,n,r=>by
  obtain ⟨y,ys,e,h1,h2⟩:=r
  have n:(noRef d && noRefs l)=true:=n
  rw [Bool.and_eq_true] at n
  exact ⟨y,ys,e,Rel.low h d y n.1 h1,Rels.low h l ys n.2 h2⟩
end
theorem Wd.cut {n:Nat} (W:Wd K ρ H c) (hn:n≤c.length):Wd K (ρ.take n) H (c.take n):=by
 have sub:∀ a,a∈ρ.take n→a∈ρ:=fun a h=>List.mem_of_mem_take h
 refine ⟨W.nd.sublist (List.take_sublist _ _),by simp [W.len],fun k a cl e1 e2=>?_⟩
 rw [List.getElem?_take] at e1 e2
 split at e1
 ·rename_i hk
  rw [if_pos hk] at e2
  have q:=W.cel k a cl e1 e2
  cases cl with
  | lst l =>
   obtain ⟨nr,xs,e,r⟩:=q
   exact ⟨nr,xs,e,Rels.low sub l xs nr r⟩
 ·cases e1
theorem Ext.cut {n:Nat} (x:Ext ρ H ρ' H') (hn:ρ.length≤n):Ext ρ H (ρ'.take n) H' :=
 ⟨fun k a e=>by rw [List.getElem?_take,if_pos (Nat.lt_of_lt_of_le (List.getElem?_eq_some_iff.mp e).1 hn)]; exact x.pre k a e,fun a o e z=>let ⟨h1,h2⟩:=x.keep a o e z; ⟨h1,fun q=>h2 (List.mem_of_mem_take q)⟩⟩
theorem Ext.len (W:Wd K ρ H c) (W':Wd K ρ' H' c') (x:Ext ρ H ρ' H'):c.length≤c'.length:=by
 rw [← W.len,← W'.len]
 by_cases h:ρ.length≤ρ'.length
 ·exact h
 ·exfalso
  have h':ρ'.length < ρ.length:=Nat.lt_of_not_le h
  have e:=x.pre ρ'.length ρ[ρ'.length] (List.getElem?_eq_getElem h')
  rw [List.getElem?_eq_none (Nat.le_refl _)] at e
  cases e
end
noncomputable abbrev Ev:=List (Option D)
noncomputable def post {α β:Type} (K:PySem.W.Frag) (Rl:List Addr→Hp→α→β→Prop) (r:R α) (ρ:List Addr) (H:Hp) (Q:β→Hp→Prop):Prop:=match r with
 | .ok a c=>∀ ρ' H' b,Wd K ρ' H' c→Ext ρ H ρ' H'→Rl ρ' H' a b→Q b H'
 | .bad=>False
structure REnv (K:PySem.W.Frag) (ρ:List Addr) (H:Hp) (e:Ev) (σ:St):Prop where
 get:∀ (i:Nat) (d:D),e[i]? = some (some d)→∃ v,σ[i]? = some (some v)∧Rel K ρ H d v
 len:e.length=σ.length
noncomputable def tD {α β:Type} (K:PySem.W.Frag) (Rl:List Addr→Hp→α→β→Prop) (d:Ev→List Cell→R α):St→Hp→(β→Hp→Prop)→Prop :=
 fun σ H Q=>∃ ρ e c,Wd K ρ H c∧REnv K ρ H e σ∧post K Rl (d e c) ρ H Q
section
variable {α β γ δ:Type} {K:PySem.W.Frag} {ρ ρ':List Addr} {H H':Hp} {c:List Cell} {e:Ev} {σ:St} {Rl:List Addr→Hp→α→β→Prop} {Rm:List Addr→Hp→γ→δ→Prop}
theorem REnv.mono (V:REnv K ρ H e σ) (W:Wd K ρ H c) (x:Ext ρ H ρ' H'):REnv K ρ' H' e σ :=
 ⟨fun i d h=>let ⟨v,h1,h2⟩:=V.get i d h; ⟨v,h1,Rel.mono W x d v h2⟩,V.len⟩
theorem REnv.set (V:REnv K ρ H e σ) {d:D} {v:L2.V} (r:Rel K ρ H d v) (i:Nat):REnv K ρ H (e.set i (some d)) (σ.set i (some v)):=by
 refine ⟨fun j b h=>?_,by simp [V.len]⟩
 by_cases hj:j=i
 ·subst hj
  have hl:j < e.length:=by
   have:=(List.getElem?_eq_some_iff.mp h).1
   simpa using this
  rw [List.getElem?_set_self hl] at h
  cases h
  exact ⟨v,by rw [List.getElem?_set_self (by rw [← V.len]; exact hl)],r⟩
 ·rw [List.getElem?_set_ne (Ne.symm hj)] at h ⊢
  exact V.get j b h
theorem post.ext {r:R α} {Q:β→Hp→Prop} (p:post K Rl r ρ H Q) (x:Ext ρ H ρ' H'):post K Rl r ρ' H' Q:=by
 cases r with
 | ok a c=>exact fun ρ2 H2 b W y r=>p ρ2 H2 b W (x.trans y) r
 | bad=>exact p
theorem post.mono {r:R α} {Q Q':β→Hp→Prop} (p:post K Rl r ρ H Q) (h:∀ b H,Q b H→Q' b H):post K Rl r ρ H Q':=by
 cases r with
 | ok a c=>exact fun ρ2 H2 b W y r=>h _ _ (p ρ2 H2 b W y r)
 | bad=>exact p
theorem post.bind {r:R α} {f:α→List Cell→R γ} {Q:δ→Hp→Prop} {S:β→Hp→Prop} (p:post K Rm (r.bind f) ρ H Q)
  (h:∀ a c1 ρ' H' b,r=.ok a c1→Wd K ρ' H' c1→Ext ρ H ρ' H'→Rl ρ' H' a b→post K Rm (f a c1) ρ' H' Q→S b H'):post K Rl r ρ H S:=by
 cases r with
 | ok a c1=>exact fun ρ' H' b W x r=>h a c1 ρ' H' b rfl W x r (post.ext (r:=f a c1) p x)
 | bad=>exact p
theorem post.here {a:α} {b:β} {Q:β→Hp→Prop} (p:post K Rl (.ok a c) ρ H Q) (W:Wd K ρ H c) (r:Rl ρ H a b):Q b H:=p ρ H b W Ext.refl r
end
noncomputable abbrev PEd (X:Cx) (e:Expr) (d:Ev→List Cell→R D):Prop:=PE X e (tD X.K (Rel X.K) d)
noncomputable abbrev PTd (X:Cx) (e:Expr) (d:Ev→List Cell→R Bool):Prop:=PT X e (tD X.K (fun _ _ a b=>a=b) d)
noncomputable abbrev PWd (X:Cx) (e:Expr) (d:Ev→List Cell→R Bool):Prop:=PW X e (tD X.K (fun _ _ a b=>a=b) d)
noncomputable abbrev PAd (X:Cx) (es:List Expr) (d:Ev→List Cell→R (List D)):Prop:=PA X es (tD X.K (Rels X.K) d)
section
variable {X:Cx} {e:Expr} {es:List Expr} {st:Stmt} {sts:List Stmt}
theorem PE.imp {t t':TE} (h:PE X e t) (i:∀ σ H Q,t' σ H Q→t σ H Q):PE X e t':=fun pins s σ H Q I q=>h pins s σ H Q I (i _ _ _ q)
theorem PT.imp {t t':TT} (h:PT X e t) (i:∀ σ H Q,t' σ H Q→t σ H Q):PT X e t':=fun pins s σ H Q I q=>h pins s σ H Q I (i _ _ _ q)
theorem PW.imp {t t':TT} (h:PW X e t) (i:∀ σ H Q,t' σ H Q→t σ H Q):PW X e t':=fun wh pins s σ H Q I q=>h wh pins s σ H Q I (i _ _ _ q)
theorem PA.imp {t t':TA} (h:PA X es t) (i:∀ σ H Q,t' σ H Q→t σ H Q):PA X es t':=fun pos pins s σ H Q I q=>h pos pins s σ H Q I (i _ _ _ q)
theorem PS.imp {t t':TS} (h:PS X st t) (i:∀ D σ H,t' D σ H→t D σ H):PS X st t':=fun pins s σ H D I q=>h pins s σ H D I (i _ _ _ q)
theorem PSs.imp {t t':TS} (h:PSs X sts t) (i:∀ D σ H,t' D σ H→t D σ H):PSs X sts t':=fun pins s σ H D I q=>h pins s σ H D I (i _ _ _ q)
end
noncomputable def dVar (i:Nat):Ev→List Cell→R D:=fun e c=>match e[i]? with
 | some (some d)=>.ok d c
 | _=>.bad
noncomputable def dC (d:D):Ev→List Cell→R D:=fun _ c=>.ok d c
section
variable {X:Cx}
theorem pd_var (i:Nat) {x:Str} {pos:Pos} (hN:X.N[i]? = some x:=by rfl) (hv:Vis X.env.scope x:=by first | exact Or.inl rfl | exact Or.inr (Or.inl rfl) | exact Or.inr (Or.inr rfl)) (hd:(x == ("__debug__":Str))=false:=by decide)
  (hcd:(x == ("__classdict__":Str))=false:=by decide):PEd X (.Name x pos) (dVar i):=(pe_var hN hv hd hcd).imp fun σ H Q h=>by
 obtain ⟨ρ,e,c,W,V,p⟩:=h
 unfold dVar at p
 cases q:e[i]? with
 | none=>rw [q] at p; exact p.elim
 | some o =>
  rw [q] at p
  cases o with
  | none=>exact p.elim
  | some d =>
   obtain ⟨v,hv,r⟩:=V.get i d q
   exact ⟨v,hv,p.here W r⟩
theorem pd_const {e:Expr} {v:V} {d:D} (h:PE X e (tC v)) (r:∀ ρ H,Rel X.K ρ H d v):PEd X e (dC d):=h.imp fun σ H Q h=>by
 obtain ⟨ρ,e,c,W,V,p⟩:=h
 exact post.here (r:=r ρ H) p W
theorem pd_int {i j pos}:PEd X (.Constant (.int i) j pos) (dC (.int i)):=pd_const pe_int fun _ _=>rfl
theorem pd_bl {b j pos}:PEd X (.Constant (.bool b) j pos) (dC (.bl b)):=pd_const pe_bl fun _ _=>rfl
theorem pd_non {j pos}:PEd X (.Constant .none j pos) (dC .non):=pd_const pe_non fun _ _=>rfl
theorem pd_str {x j pos}:PEd X (.Constant (.str x) j pos) (dC (.str x)):=pd_const pe_str fun _ _=>rfl
theorem pd_ty {x:Str} {n:String} {pos:Pos} (hg:Gl X x) (hm:X.mg x=none) (hv:bootBuiltins x=some (.type n)) (hn:x≠"__name__":=by decide) (hd:(x == ("__debug__":Str))=false:=by decide):PEd X (.Name x pos) (dC (.ty n)):=pd_const (pe_ty hg hm hv hn hd) fun _ _=>rfl
theorem pd_gint {x:Str} {i:Int} {t:Tok} {pos:Pos} (hg:Gl X x) (hm:X.mg x=some (.int i t)) (hd:(x == ("__debug__":Str))=false:=by decide):PEd X (.Name x pos) (dC (.int i)):=pd_const (pe_glob (v:=.int i) hg hm ⟨t,rfl⟩ hd) fun _ _=>rfl
end
end L2
namespace L2
open PySem PySem.Spec PyProof.Rows
noncomputable def dBin (f:D→D→List Cell→R D) (a b:Ev→List Cell→R D):Ev→List Cell→R D:=fun e c=>(a e c).bind fun x c=>(b e c).bind fun y c=>f x y c
noncomputable def dUn (f:D→List Cell→R D) (a:Ev→List Cell→R D):Ev→List Cell→R D:=fun e c=>(a e c).bind fun x c=>f x c
noncomputable def r2 (K:PySem.W.Frag) (f:D→D→List Cell→R D):R2:=fun v u H Q=>∃ ρ x y c,Wd K ρ H c∧Rel K ρ H x v∧Rel K ρ H y u∧post K (Rel K) (f x y c) ρ H Q
noncomputable def r1 (K:PySem.W.Frag) (f:D→List Cell→R D):V→Hp→VK→Prop:=fun v H Q=>∃ ρ x c,Wd K ρ H c∧Rel K ρ H x v∧post K (Rel K) (f x c) ρ H Q
noncomputable def rN (K:PySem.W.Frag) (f:List D→List Cell→R D):List V→Hp→VK→Prop:=fun vs H Q=>∃ ρ xs c,Wd K ρ H c∧Rels K ρ H xs vs∧post K (Rel K) (f xs c) ρ H Q
noncomputable def dCB (f:List D→List Cell→R D) (a:Ev→List Cell→R (List D)):Ev→List Cell→R D:=fun e c=>(a e c).bind fun xs c=>f xs c
section
variable {X:Cx} {a b:Expr} {da db dd:Ev→List Cell→R D} {pos:Pos} {K:PySem.W.Frag} {σ:St} {H:Hp} {Q:VK} {f:D→D→List Cell→R D}
theorem t_bin (h:tD K (Rel K) (dBin f da db) σ H Q):tD K (Rel K) da σ H fun v H1=>tD K (Rel K) db σ H1 fun u H2=>r2 K f v u H2 Q:=by
 obtain ⟨ρ,e,c,W,V,p⟩:=h
 refine ⟨ρ,e,c,W,V,post.bind p fun x c1 ρ1 H1 v _ W1 X1 r1 p1=>⟨ρ1,e,c1,W1,V.mono W X1,post.bind p1 fun y c2 ρ2 H2 u _ W2 X2 r2 p2=>⟨ρ2,x,y,c2,W2,Rel.mono W1 X2 _ _ r1,r2,p2⟩⟩⟩
theorem t_cb {g:List D→List Cell→R D} {ds:Ev→List Cell→R (List D)} (h:tD K (Rel K) (dCB g ds) σ H Q):tD K (Rels K) ds σ H fun vs H1=>rN K g vs H1 Q:=by
 obtain ⟨ρ,e,c,W,V,p⟩:=h
 exact ⟨ρ,e,c,W,V,post.bind p fun x c1 ρ1 H1 v _ W1 X1 r1 p1=>⟨ρ1,x,c1,W1,r1,p1⟩⟩
theorem pd_bin {op:Operator} (ho:OpR X (binaryOp op) (r2 X.K f)) (ha:PEd X a da) (hb:PEd X b db):PEd X (.BinOp a op b pos) (dBin f da db):=(pe_op ho ha hb).imp fun σ H Q h=>t_bin h
theorem pd_cmp {op:CmpOp} (ho:OpR X (compareOp op) (r2 X.K f)) (ha:PEd X a da) (hb:PEd X b db) (hm:behindInMarks op b=false:=by first | exact nomark _ | rfl):PEd X (.Compare a [op] [b] pos) (dBin f da db):=(pe_cmpR ho ha hb hm).imp fun σ H Q h=>t_bin h
theorem pd_ix (hr:IxR X (r2 X.K f)) (ha:PEd X a da) (hb:PEd X b db) (hs:PlainIx b:=by exact fun _ _=>rfl):PEd X (.Subscript a b pos) (dBin f da db):=(pe_ix hr ha hb hs).imp fun σ H Q h=>t_bin h
noncomputable def dChain (f g:D→D→List Cell→R D) (a b d:Ev→List Cell→R D):Ev→List Cell→R D:=fun e c=>(a e c).bind fun x c=>(b e c).bind fun y c=>(f x y c).bind fun z c=>match z with
 | .bl true=>(d e c).bind fun u c=>g y u c
 | .bl false=>.ok (.bl false) c
 | _=>.bad
end
noncomputable def dNil:Ev→List Cell→R (List D):=fun _ c=>.ok [] c
noncomputable def dCons (a:Ev→List Cell→R D) (r:Ev→List Cell→R (List D)):Ev→List Cell→R (List D):=fun e c=>(a e c).bind fun x c=>(r e c).bind fun xs c=>.ok (x :: xs) c
noncomputable def dTup (a:Ev→List Cell→R (List D)):Ev→List Cell→R D:=fun e c=>(a e c).bind fun xs c=>if xs.length≤sizeLine then .ok (.tup xs) c else .bad
noncomputable def dLst (a:Ev→List Cell→R (List D)):Ev→List Cell→R D:=fun e c=>(a e c).bind fun xs c=>if xs.length≤sizeLine then .ok (.lst xs) c else .bad
noncomputable def dLstM (a:Ev→List Cell→R (List D)):Ev→List Cell→R D:=fun e c=>(a e c).bind fun xs c=>if xs.length≤sizeLine∧noRefs xs=true then .ok (.ref c.length) (c ++ [.lst xs]) else .bad
section
variable {X:Cx} {a:Expr} {es:List Expr} {da:Ev→List Cell→R D} {ds:Ev→List Cell→R (List D)} {pos:Pos} {K:PySem.W.Frag} {ρ:List Addr} {H:Hp} {c:List Cell} {Q:VK} {xs:List D} {vs:List V}
theorem pd_nil:PAd X [] dNil:=pa_nil.imp fun σ H Q h=>by
 obtain ⟨ρ,e,c,W,V,p⟩:=h
 exact post.here (b:=[]) p W rfl
theorem pd_cons (ha:PEd X a da) (hr:PAd X es ds) (hs:starEach (a :: es) X.env=(false,eval a X.env) :: starEach es X.env:=by exact starE rfl):PAd X (a :: es) (dCons da ds):=(pa_cons ha hr hs).imp fun σ H Q h=>by
 obtain ⟨ρ,e,c,W,V,p⟩:=h
 refine ⟨ρ,e,c,W,V,post.bind p fun x c1 ρ1 H1 v _ W1 X1 r1 p1=>⟨ρ1,e,c1,W1,V.mono W X1,post.bind p1 fun y c2 ρ2 H2 u _ W2 X2 r2 p2=>?_⟩⟩
 exact p2.here W2 ⟨v,u,rfl,Rel.mono W1 X2 _ _ r1,r2⟩
theorem new_tup (W:Wd K ρ H c) (r:Rels K ρ H xs vs) (p:post K (Rel K) (.ok (.tup xs) c) ρ H Q):∀ q,H q=none→Q (.ref q) (upd H q (.tup vs)):=fun q hq =>
 p ρ _ _ (W.fresh hq) (Ext.fresh W hq) ⟨q,vs,rfl,upd_same,Rels.mono W (Ext.fresh W hq) _ _ r⟩
theorem new_lst (W:Wd K ρ H c) (r:Rels K ρ H xs vs) (p:post K (Rel K) (.ok (.lst xs) c) ρ H Q):∀ q,H q=none→Q (.ref q) (upd H q (.lst vs)):=fun q hq =>
 p ρ _ _ (W.fresh hq) (Ext.fresh W hq) ⟨q,vs,rfl,⟨upd_same,W.nil hq⟩,Rels.mono W (Ext.fresh W hq) _ _ r⟩
theorem new_cell (W:Wd K ρ H c) (nr:noRefs xs=true) (r:Rels K ρ H xs vs) (p:post K (Rel K) (.ok (.ref c.length) (c ++ [.lst xs])) ρ H Q):∀ q,H q=none→Q (.ref q) (upd H q (.lst vs)):=fun q hq =>
 p (ρ ++ [q]) _ _ (W.cell hq nr r) (Ext.cell W hq) ⟨q,rfl,by rw [List.getElem?_append_right (by rw [W.len]; exact Nat.le_refl _),W.len,Nat.sub_self]; rfl⟩
theorem pd_tup {x1} (h:PAd X es ds):PEd X (.Tuple es x1 pos) (dTup ds):=(pe_tup h).imp fun σ H Q h=>by
 obtain ⟨ρ,e,c,W,V,p⟩:=h
 refine ⟨ρ,e,c,W,V,post.bind p fun x c1 ρ1 H1 v _ W1 X1 r1 p1=>?_⟩
 split at p1
 ·rename_i hl
  exact ⟨by rw [r1.length]; exact hl,new_tup W1 r1 p1⟩
 ·exact p1.elim
theorem pd_lst (h:PAd X es ds):PEd X (.List es pos) (dLst ds):=(pe_lst h).imp fun σ H Q h=>by
 obtain ⟨ρ,e,c,W,V,p⟩:=h
 refine ⟨ρ,e,c,W,V,post.bind p fun x c1 ρ1 H1 v _ W1 X1 r1 p1=>?_⟩
 split at p1
 ·rename_i hl
  exact ⟨by rw [r1.length]; exact hl,new_lst W1 r1 p1⟩
 ·exact p1.elim
theorem pd_lstM (h:PAd X es ds):PEd X (.List es pos) (dLstM ds):=(pe_lst h).imp fun σ H Q h=>by
 obtain ⟨ρ,e,c,W,V,p⟩:=h
 refine ⟨ρ,e,c,W,V,post.bind p fun x c1 ρ1 H1 v _ W1 X1 r1 p1=>?_⟩
 split at p1
 ·rename_i hl
  exact ⟨by rw [r1.length]; exact hl.1,new_cell W1 hl.2 r1 p1⟩
 ·exact p1.elim
end
noncomputable def addD:D→D→List Cell→R D:=fun x y c=>match x,y with
 | .int i,.int j=>.ok (.int (i + j)) c
 | .str a,.str b=>if a.length + b.length≤sizeLine then .ok (.str (a ++ b)) c else .bad
 | .tup l,.tup m=>if l.length≠0∧l.length + m.length≤sizeLine then .ok (.tup (l ++ m)) c else .bad
 | _,_=>.bad
noncomputable def subD:D→D→List Cell→R D:=fun x y c=>match x,y with
 | .int i,.int j=>.ok (.int (i - j)) c
 | _,_=>.bad
noncomputable def mulD:D→D→List Cell→R D:=fun x y c=>match x,y with
 | .int i,.int j=>if (-(2 ^ 64) < i∧i < 2 ^ 64)∨(-(2 ^ 64) < j∧j < 2 ^ 64) then .ok (.int (i * j)) c else .bad
 | _,_=>.bad
noncomputable def divD:D→D→List Cell→R D:=fun x y c=>match x,y with
 | .int i,.int j=>if 0 < j∧j < 1073741824 then .ok (.int (i / j)) c else .bad
 | _,_=>.bad
noncomputable def modD:D→D→List Cell→R D:=fun x y c=>match x,y with
 | .int i,.int j=>if 0 < j then .ok (.int (i % j)) c else .bad
 | _,_=>.bad
noncomputable def powD:D→D→List Cell→R D:=fun x y c=>match x,y with
 | .int i,.int j=>if 0≤j∧j≤1000000∧i.natAbs < 2 ^ 64 then .ok (.int (i ^ j.toNat)) c else .bad
 | _,_=>.bad
noncomputable def negD:D→List Cell→R D:=fun x c=>match x with
 | .int i=>.ok (.int (-i)) c
 | _=>.bad
noncomputable def cmpD (p:Int→Int→Bool):D→D→List Cell→R D:=fun x y c=>match x,y with
 | .int i,.int j=>.ok (.bl (p i j)) c
 | _,_=>.bad
section
variable {X:Cx}
theorem od_add:OpR X (binaryOp .Add) (r2 X.K addD):=by
 intro pins s σ H v u vv uu Q I rv ru h
 obtain ⟨ρ,x,y,c,W,rx,ry,p⟩:=h
 unfold addD at p
 split at p
 ·cases rx; cases ry
  exact op_add pins s σ H _ _ vv uu Q I rv ru ⟨_,_,rfl,rfl,p.here W rfl⟩
 ·split at p
  ·rename_i hl
   cases rx; cases ry
   exact op_add_str pins s σ H _ _ vv uu Q I rv ru ⟨_,_,rfl,rfl,hl,p.here W rfl⟩
  ·exact p.elim
 ·split at p
  ·rename_i hl
   obtain ⟨a,xs,rfl,sa,ra⟩:=rx
   obtain ⟨b,ys,rfl,sb,rb⟩:=ry
   refine op_catT pins s σ H _ _ vv uu Q I rv ru ⟨a,b,xs,ys,rfl,rfl,SqT.of sa,SqT.of sb,fun z=>hl.1 ?_,by rw [ra.length,rb.length]; exact hl.2,fun z=>?_,fun _=>new_tup W (ra.append rb) p⟩
   ·rw [← ra.length,z]; rfl
   ·refine p.here W ⟨a,xs ++ ys,rfl,by rw [z,List.append_nil]; exact sa,ra.append rb⟩
  ·exact p.elim
 ·exact p.elim
theorem od_sub:OpR X (binaryOp .Sub) (r2 X.K subD):=by
 intro pins s σ H v u vv uu Q I rv ru h
 obtain ⟨ρ,x,y,c,W,rx,ry,p⟩:=h
 unfold subD at p
 split at p
 ·cases rx; cases ry
  exact op_sub pins s σ H _ _ vv uu Q I rv ru ⟨_,_,rfl,rfl,p.here W rfl⟩
 ·exact p.elim
theorem od_mul:OpR X (binaryOp .Mult) (r2 X.K mulD):=by
 intro pins s σ H v u vv uu Q I rv ru h
 obtain ⟨ρ,x,y,c,W,rx,ry,p⟩:=h
 unfold mulD at p
 split at p
 ·split at p
  ·rename_i hl
   cases rx; cases ry
   exact op_mul pins s σ H _ _ vv uu Q I rv ru ⟨_,_,rfl,rfl,hl,p.here W rfl⟩
  ·exact p.elim
 ·exact p.elim
theorem od_div:OpR X (binaryOp .FloorDiv) (r2 X.K divD):=by
 intro pins s σ H v u vv uu Q I rv ru h
 obtain ⟨ρ,x,y,c,W,rx,ry,p⟩:=h
 unfold divD at p
 split at p
 ·split at p
  ·rename_i hl
   cases rx; cases ry
   exact op_fdiv pins s σ H _ _ vv uu Q I rv ru ⟨_,_,rfl,rfl,hl,p.here W rfl⟩
  ·exact p.elim
 ·exact p.elim
theorem od_mod:OpR X (binaryOp .Mod) (r2 X.K modD):=by
 intro pins s σ H v u vv uu Q I rv ru h
 obtain ⟨ρ,x,y,c,W,rx,ry,p⟩:=h
 unfold modD at p
 split at p
 ·split at p
  ·rename_i hl
   cases rx; cases ry
   exact op_mod pins s σ H _ _ vv uu Q I rv ru ⟨_,_,rfl,rfl,hl,p.here W rfl⟩
  ·exact p.elim
 ·exact p.elim
theorem od_pow:OpR X (binaryOp .Pow) (r2 X.K powD):=by
 intro pins s σ H v u vv uu Q I rv ru h
 obtain ⟨ρ,x,y,c,W,rx,ry,p⟩:=h
 unfold powD at p
 split at p
 ·split at p
  ·rename_i hl
   cases rx; cases ry
   exact op_pow pins s σ H _ _ vv uu Q I rv ru ⟨_,_,rfl,rfl,hl,p.here W rfl⟩
  ·exact p.elim
 ·exact p.elim
theorem od_cmp {f:Value→Value→Sem Value} {q:Int→Int→Bool} (h:OpR X f (rI0 fun i j=>.bl (q i j))):OpR X f (r2 X.K (cmpD q)):=by
 intro pins s σ H v u vv uu Q I rv ru hh
 obtain ⟨ρ,x,y,c,W,rx,ry,p⟩:=hh
 unfold cmpD at p
 split at p
 ·cases rx; cases ry
  exact h pins s σ H _ _ vv uu Q I rv ru ⟨_,_,rfl,rfl,p.here W rfl⟩
 ·exact p.elim
noncomputable abbrev ltD:=cmpD fun i j=>decide (i < j)
noncomputable abbrev leD:=cmpD fun i j=>decide (i≤j)
noncomputable abbrev gtD:=cmpD fun i j=>decide (j < i)
noncomputable abbrev geD:=cmpD fun i j=>decide (j≤i)
theorem od_lt:OpR X (compareOp .Lt) (r2 X.K ltD):=od_cmp op_lt
theorem od_le:OpR X (compareOp .LtE) (r2 X.K leD):=od_cmp op_le
theorem od_gt:OpR X (compareOp .Gt) (r2 X.K gtD):=od_cmp op_gt
theorem od_ge:OpR X (compareOp .GtE) (r2 X.K geD):=od_cmp op_ge
end
noncomputable def eqS:D→D→Option Bool
 | .non,.non=>some true | .non,.int _=>some false | .int _,.non=>some false | .non,.bl _=>some false | .bl _,.non=>some false | .non,.str _=>some false | .str _,.non=>some false
 | .int i,.int j=>some (decide (i=j)) | .bl a,.bl b=>some (decide (a=b)) | .str x,.str y=>some (decide (x=y))
 | .int _,.str _=>some false | .str _,.int _=>some false | .bl _,.str _=>some false | .str _,.bl _=>some false
 | _,_=>none
noncomputable def eqD:D→D→List Cell→R D:=fun x y c=>match eqS x y with
 | some b=>.ok (.bl b) c
 | none=>.bad
noncomputable def neD:D→D→List Cell→R D:=fun x y c=>match eqS x y with
 | some b=>.ok (.bl (!b)) c
 | none=>.bad
noncomputable def isN:D→Bool
 | .non=>true
 | _=>false
noncomputable def isD:D→D→List Cell→R D:=fun x y c=>match y with
 | .non=>.ok (.bl (isN x)) c
 | _=>.bad
noncomputable def isNotD:D→D→List Cell→R D:=fun x y c=>match y with
 | .non=>.ok (.bl (!isN x)) c
 | _=>.bad
section
variable {X:Cx} {K:PySem.W.Frag} {ρ:List Addr} {H:Hp} {c:List Cell}
theorem eqS_ok {x y:D} {v u:V} {b:Bool} (rx:Rel K ρ H x v) (ry:Rel K ρ H y u) (h:eqS x y=some b):scal v u=true∧decide (v=u)=b:=by
 cases x <;> cases y <;> first
  | (cases rx; cases ry; cases h; refine ⟨rfl,?_⟩; simp; done)
  | (cases h; done)
theorem od_eq:OpR X (compareOp .Eq) (r2 X.K eqD):=by
 intro pins s σ H v u vv uu Q I rv ru h
 obtain ⟨ρ,x,y,c,W,rx,ry,p⟩:=h
 unfold eqD at p
 split at p
 ·rename_i b hb
  obtain ⟨h1,h2⟩:=eqS_ok rx ry hb
  exact op_eq pins s σ H _ _ vv uu Q I rv ru ⟨h1,by rw [h2]; exact p.here W rfl⟩
 ·exact p.elim
theorem od_ne:OpR X (compareOp .NotEq) (r2 X.K neD):=by
 intro pins s σ H v u vv uu Q I rv ru h
 obtain ⟨ρ,x,y,c,W,rx,ry,p⟩:=h
 unfold neD at p
 split at p
 ·rename_i b hb
  obtain ⟨h1,h2⟩:=eqS_ok rx ry hb
  exact op_ne pins s σ H _ _ vv uu Q I rv ru ⟨h1,by rw [h2]; exact p.here W rfl⟩
 ·exact p.elim
theorem isN_ok {x:D} {v:V} (rx:Rel K ρ H x v):decide (v=.non)=isN x:=by
 cases x <;> first
  | (cases rx; rfl; done)
  | (cases rx; simp [isN]; done)
  | (obtain ⟨a,xs,rfl,_⟩:=rx; simp [isN]; done)
  | (obtain ⟨a,rfl,_⟩:=rx; simp [isN]; done)
theorem od_isnot:OpR X (compareOp .IsNot) (r2 X.K isNotD):=by
 intro pins s σ H v u vv uu Q I rv ru h
 obtain ⟨ρ,x,y,c,W,rx,ry,p⟩:=h
 unfold isNotD at p
 split at p
 ·cases ry
  exact op_notN pins s σ H _ _ vv uu Q I rv ru ⟨rfl,by rw [isN_ok rx]; exact p.here W rfl⟩
 ·exact p.elim
theorem pd_chain {a b d:Expr} {da db dd:Ev→List Cell→R D} {pos:Pos} {op op':CmpOp} {f g:D→D→List Cell→R D} (ho:OpR X (compareOp op) (r2 X.K f)) (ho':OpR X (compareOp op') (r2 X.K g)) (ha:PEd X a da) (hb:PEd X b db) (hd:PEd X d dd)
  (h1:lastMarks [op,op'] [b,d]=false:=by with_unfolding_all rfl) :
  PEd X (.Compare a [op,op'] [b,d] pos) (dChain f g da db dd):=(pe_chain ho ho' ha hb hd h1).imp fun σ H Q h=>by
 obtain ⟨ρ,e,c,W,V,p⟩:=h
 refine ⟨ρ,e,c,W,V,post.bind p fun x c1 ρ1 H1 v _ W1 X1 r1 p1=>⟨ρ1,e,c1,W1,V.mono W X1,post.bind p1 fun y c2 ρ2 H2 u _ W2 X2 r2 p2=>⟨ρ2,x,y,c2,W2,Rel.mono W1 X2 _ _ r1,r2,post.bind p2 fun z c3 ρ3 H3 w _ W3 X3 r3 p3=>?_⟩⟩⟩
 have V3:=(V.mono W X1).mono W1 (X2.trans X3)
 cases z with
 | bl k =>
  cases r3
  refine ⟨k,rfl,?_⟩
  cases k with
  | true =>
   refine iteT ⟨ρ3,e,c3,W3,V3,post.bind p3 fun t c4 ρ4 H4 w4 _ W4 X4 r4 p4=>⟨ρ4,y,t,c4,W4,Rel.mono W2 (X3.trans X4) _ _ r2,r4,p4⟩⟩
  | false=>exact iteF (p3.here W3 rfl)
 | _=>exact p3.elim
end
noncomputable def seqD (c:List Cell):D→Option (List D)
 | .tup l=>some l
 | .lst l=>some l
 | .scr l=>some (l.map D.int)
 | .ref k=>match c[k]? with
  | some (.lst l)=>some l
  | none=>none
 | _=>none
noncomputable def ixD:D→D→List Cell→R D:=fun x y c=>match y with
 | .int i=>match seqD c x with
  | some l=>match atI l i with
   | some d=>.ok d c
   | none=>.bad
  | none=>.bad
 | _=>.bad
section
variable {X:Cx} {K:PySem.W.Frag} {ρ:List Addr} {H:Hp} {c:List Cell}
theorem seqD_ok {x:D} {v:V} {l:List D} (W:Wd K ρ H c) (rx:Rel K ρ H x v) (h:seqD c x=some l):∃ a xs,v=.ref a∧(SqL K H a xs∨SqT K H a xs)∧Rels K ρ H l xs:=by
 cases x with
 | tup m =>
  cases h
  obtain ⟨a,xs,e,s,r⟩:=rx
  exact ⟨a,xs,e,.inr (SqT.of s),r⟩
 | lst m =>
  cases h
  obtain ⟨a,xs,e,s,r⟩:=rx
  exact ⟨a,xs,e,.inl (SqL.of s.1),r⟩
 | scr m =>
  cases h
  obtain ⟨a,e,s⟩:=rx
  exact ⟨a,_,e,.inl s.sql,Rels.ints⟩
 | ref k =>
  obtain ⟨a,e,s⟩:=rx
  unfold seqD at h
  dsimp only at h
  cases hc:c[k]? with
  | none=>rw [hc] at h; cases h
  | some cl =>
   cases cl with
   | lst m =>
    rw [hc] at h; cases h
    obtain ⟨_,xs,hx,r⟩:=W.cel k a _ s hc
    exact ⟨a,xs,e,.inl (SqL.of hx),r⟩
 | _=>cases h
theorem atI_rel {l:List D} {xs:List V} {i:Int} {d:D} (r:Rels K ρ H l xs) (h:atI l i=some d):∃ v,atI xs i=some v∧Rel K ρ H d v:=by
 unfold atI at h ⊢
 rw [r.length]
 cases e:ixN l.length i with
 | none=>rw [e] at h; cases h
 | some j =>
  rw [e] at h
  exact r.get (i:=j) h
theorem id_seq:IxR X (r2 X.K ixD):=by
 intro value slice pins s σ H v u vv uu Q I rv ru h hs
 obtain ⟨ρ,x,y,c,W,rx,ry,p⟩:=h
 unfold ixD at p
 split at p
 ·split at p
  ·rename_i l hl
   split at p
   ·rename_i d hd
    cases ry
    obtain ⟨a,xs,rfl,sq,r⟩:=seqD_ok W rx hl
    obtain ⟨w,hw,rw'⟩:=atI_rel r hd
    rcases sq with sq | sq
    ·exact ix_list value slice pins s σ H _ _ vv uu Q I rv ru ⟨a,xs,_,w,rfl,rfl,sq,hw,p.here W rw'⟩ hs
    ·exact ix_tup value slice pins s σ H _ _ vv uu Q I rv ru ⟨a,xs,_,w,rfl,rfl,sq,hw,p.here W rw'⟩ hs
   ·exact p.elim
  ·exact p.elim
 ·exact p.elim
end
end L2
namespace L2
open PySem PySem.Spec PyProof.Rows
noncomputable def truD (c:List Cell):D→Option Bool
 | .non=>some false
 | .bl b=>some b
 | .int i=>some (i != 0)
 | .tup l=>some (!l.isEmpty)
 | .lst l=>some (!l.isEmpty)
 | .ref k=>match c[k]? with
  | some (.lst l)=>some (!l.isEmpty)
  | none=>none
 | _=>none
noncomputable def dTru (a:Ev→List Cell→R D):Ev→List Cell→R Bool:=fun e c=>(a e c).bind fun x c=>match truD c x with
 | some b=>.ok b c
 | none=>.bad
noncomputable def dBl (a:Ev→List Cell→R D):Ev→List Cell→R Bool:=fun e c=>(a e c).bind fun x c=>match x with
 | .bl b=>.ok b c
 | _=>.bad
noncomputable def dAndT (a b:Ev→List Cell→R Bool):Ev→List Cell→R Bool:=fun e c=>(a e c).bind fun x c=>if x=true then b e c else .ok false c
noncomputable def dOrT (a b:Ev→List Cell→R Bool):Ev→List Cell→R Bool:=fun e c=>(a e c).bind fun x c=>if x=true then .ok true c else b e c
noncomputable def dNotT (a:Ev→List Cell→R Bool):Ev→List Cell→R Bool:=fun e c=>(a e c).bind fun x c=>.ok (!x) c
noncomputable def dAndV (a b:Ev→List Cell→R D):Ev→List Cell→R D:=fun e c=>(a e c).bind fun x c=>match x with
 | .bl k=>if k=true then b e c else .ok (.bl false) c
 | _=>.bad
noncomputable def dOrV (a b:Ev→List Cell→R D):Ev→List Cell→R D:=fun e c=>(a e c).bind fun x c=>match x with
 | .bl k=>if k=true then .ok (.bl true) c else b e c
 | _=>.bad
noncomputable def dNotV (a:Ev→List Cell→R D):Ev→List Cell→R D:=fun e c=>(a e c).bind fun x c=>match x with
 | .bl k=>.ok (.bl (!k)) c
 | _=>.bad
noncomputable def dIfE (t:Ev→List Cell→R Bool) (a b:Ev→List Cell→R D):Ev→List Cell→R D:=fun e c=>(t e c).bind fun x c=>if x=true then a e c else b e c
section
variable {X:Cx} {a b c':Expr} {da db:Ev→List Cell→R D} {ta tb:Ev→List Cell→R Bool} {pos:Pos} {rest:List Expr}
theorem tru_rel {K:PySem.W.Frag} {ρ:List Addr} {H:Hp} {c:List Cell} {x:D} {v:V} {k:Bool} (W:Wd K ρ H c) (rx:Rel K ρ H x v) (h:truD c x=some k):TruV K v H k:=by
 have emp:∀ {l:List D} {xs:List V},Rels K ρ H l xs→l.isEmpty=xs.isEmpty:=fun {l xs} r=>by
  have:=r.length
  cases l <;> cases xs <;> simp_all
 cases x with
 | non=>cases rx; cases h; exact rfl
 | bl b=>cases rx; cases h; exact rfl
 | int i=>cases rx; cases h; exact rfl
 | tup l =>
  obtain ⟨a,xs,rfl,s,r⟩:=rx
  cases h
  exact .inr (.inl ⟨xs,SqT.of s,by rw [emp r]⟩)
 | lst l =>
  obtain ⟨a,xs,rfl,s,r⟩:=rx
  cases h
  exact .inl ⟨xs,SqL.of s.1,by rw [emp r]⟩
 | ref j =>
  obtain ⟨a,rfl,s⟩:=rx
  unfold truD at h
  dsimp only at h
  cases hc:c[j]? with
  | none=>rw [hc] at h; cases h
  | some cl =>
   cases cl with
   | lst m =>
    rw [hc] at h; cases h
    obtain ⟨_,xs,hx,r⟩:=W.cel j a _ s hc
    exact .inl ⟨xs,SqL.of hx,by rw [emp r]⟩
 | _=>cases h
theorem pd_tru (ha:PEd X a da) (he:∀ whole,isTrue a X.env whole=(do let v ← whole; standAt a.pos; holding [v] (truthy v)):=by intro _; rfl):PTd X a (dTru da):=(pt_truth ha he).imp fun σ H Q h=>by
 obtain ⟨ρ,e,c,W,V,p⟩:=h
 refine ⟨ρ,e,c,W,V,post.bind p fun x c1 ρ1 H1 v _ W1 X1 r1 p1=>?_⟩
 split at p1
 ·rename_i k hk
  exact ⟨k,tru_rel W1 r1 hk,p1.here W1 rfl⟩
 ·exact p1.elim
theorem blT (h:tD X.K (fun _ _ a b=>a=b) (dBl da) σ H Q):tD X.K (Rel X.K) da σ H fun x H'=>∃ k,x=.bl k∧Q k H':=by
 obtain ⟨ρ,e,c,W,V,p⟩:=h
 refine ⟨ρ,e,c,W,V,post.bind p fun x c1 ρ1 H1 v _ W1 X1 r1 p1=>?_⟩
 cases x with
 | bl k=>cases r1; exact ⟨k,rfl,p1.here W1 rfl⟩
 | _=>exact p1.elim
theorem pd_bool (ha:PEd X a da) (he:∀ whole,isTrue a X.env whole=(do let v ← whole; standAt a.pos; holding [v] (truthy v)):=by intro _; rfl):PTd X a (dBl da):=(pt_val ha he).imp fun σ H Q h=>blT h
theorem pd_cmpT {op:CmpOp} {f:D→D→List Cell→R D} (ho:OpR X (compareOp op) (r2 X.K f)) (ha:PEd X a da) (hb:PEd X b db) (hm:behindInMarks op b=false:=by first | exact nomark _ | rfl):PTd X (.Compare a [op] [b] pos) (dBl (dBin f da db)) :=
 (pt_cmpR ho ha hb hm).imp fun σ H Q h=>t_bin (Q:=fun x H'=>∃ k,x=.bl k∧Q k H') (blT h)
theorem pd_chainT {d:Expr} {dd:Ev→List Cell→R D} {op op':CmpOp} {f g:D→D→List Cell→R D} (ho:OpR X (compareOp op) (r2 X.K f)) (ho':OpR X (compareOp op') (r2 X.K g)) (ha:PEd X a da) (hb:PEd X b db) (hd:PEd X d dd)
  (h1:lastMarks [op,op'] [b,d]=false:=by with_unfolding_all rfl):PTd X (.Compare a [op,op'] [b,d] pos) (dBl (dChain f g da db dd)):=(pt_chain ho ho' ha hb hd h1).imp fun σ H Q h=>by
 obtain ⟨ρ,e,c,W,V,p⟩:=blT h
 refine ⟨ρ,e,c,W,V,post.bind p fun x c1 ρ1 H1 v _ W1 X1 r1 p1=>⟨ρ1,e,c1,W1,V.mono W X1,post.bind p1 fun y c2 ρ2 H2 u _ W2 X2 r2 p2=>⟨ρ2,x,y,c2,W2,Rel.mono W1 X2 _ _ r1,r2,post.bind p2 fun z c3 ρ3 H3 w _ W3 X3 r3 p3=>?_⟩⟩⟩
 have V3:=(V.mono W X1).mono W1 (X2.trans X3)
 cases z with
 | bl k =>
  cases r3
  refine ⟨k,rfl,?_⟩
  cases k with
  | true =>
   refine iteT ⟨ρ3,e,c3,W3,V3,post.bind p3 fun t c4 ρ4 H4 w4 _ W4 X4 r4 p4=>⟨ρ4,y,t,c4,W4,Rel.mono W2 (X3.trans X4) _ _ r2,r4,p4⟩⟩
  | false=>exact iteF (p3.here W3 rfl)
 | _=>exact p3.elim
theorem pd_and1 (ha:PTd X a ta):PWd X (.BoolOp .And [a] pos) ta:=pw_and1 ha
theorem pd_or1 (ha:PTd X a ta):PWd X (.BoolOp .Or [a] pos) ta:=pw_or1 ha
theorem pd_andT (ha:PTd X a ta) (hb:PWd X (.BoolOp .And (b :: rest) pos) tb):PWd X (.BoolOp .And (a :: b :: rest) pos) (dAndT ta tb):=(pw_and ha hb).imp fun σ H Q h=>by
 obtain ⟨ρ,e,c,W,V,p⟩:=h
 refine ⟨ρ,e,c,W,V,post.bind p fun x c1 ρ1 H1 v _ W1 X1 r1 p1=>?_⟩
 cases r1
 cases x with
 | true=>exact iteT ⟨ρ1,e,c1,W1,V.mono W X1,p1⟩
 | false=>exact iteF (post.here (a:=false) p1 W1 rfl)
theorem pd_orT (ha:PTd X a ta) (hb:PWd X (.BoolOp .Or (b :: rest) pos) tb):PWd X (.BoolOp .Or (a :: b :: rest) pos) (dOrT ta tb):=(pw_or ha hb).imp fun σ H Q h=>by
 obtain ⟨ρ,e,c,W,V,p⟩:=h
 refine ⟨ρ,e,c,W,V,post.bind p fun x c1 ρ1 H1 v _ W1 X1 r1 p1=>?_⟩
 cases r1
 cases x with
 | true=>exact iteT (post.here (a:=true) p1 W1 rfl)
 | false=>exact iteF ⟨ρ1,e,c1,W1,V.mono W X1,p1⟩
theorem pd_notT (ha:PTd X a ta):PTd X (.UnaryOp .Not a pos) (dNotT ta):=(pt_not ha).imp fun σ H Q h=>by
 obtain ⟨ρ,e,c,W,V,p⟩:=h
 refine ⟨ρ,e,c,W,V,post.bind p fun x c1 ρ1 H1 v _ W1 X1 r1 p1=>?_⟩
 cases r1
 exact p1.here W1 rfl
theorem pd_one {op} (h:PEd X a da):PEd X (.BoolOp op [a] pos) da:=pe_one h
theorem pd_and (ha:PEd X a da) (hb:PEd X (.BoolOp .And (b :: rest) pos) db):PEd X (.BoolOp .And (a :: b :: rest) pos) (dAndV da db):=(pe_and ha hb).imp fun σ H Q h=>by
 obtain ⟨ρ,e,c,W,V,p⟩:=h
 refine ⟨ρ,e,c,W,V,post.bind p fun x c1 ρ1 H1 v _ W1 X1 r1 p1=>?_⟩
 cases x with
 | bl k =>
  cases r1
  refine ⟨k,rfl,?_⟩
  cases k with
  | true=>exact iteT ⟨ρ1,e,c1,W1,V.mono W X1,p1⟩
  | false=>exact iteF (post.here (a:=D.bl false) p1 W1 rfl)
 | _=>exact p1.elim
theorem pd_not (ha:PEd X a da):PEd X (.UnaryOp .Not a pos) (dNotV da):=(pe_not ha).imp fun σ H Q h=>by
 obtain ⟨ρ,e,c,W,V,p⟩:=h
 refine ⟨ρ,e,c,W,V,post.bind p fun x c1 ρ1 H1 v _ W1 X1 r1 p1=>?_⟩
 cases x with
 | bl k=>cases r1; exact ⟨k,rfl,p1.here W1 rfl⟩
 | _=>exact p1.elim
theorem pd_ifE (ht:PTd X c' ta) (ha:PEd X a da) (hb:PEd X b db):PEd X (.IfExp c' a b pos) (dIfE ta da db):=(pe_ifExp ht ha hb).imp fun σ H Q h=>by
 obtain ⟨ρ,e,c,W,V,p⟩:=h
 refine ⟨ρ,e,c,W,V,post.bind p fun x c1 ρ1 H1 v _ W1 X1 r1 p1=>?_⟩
 cases r1
 cases x with
 | true=>exact iteT ⟨ρ1,e,c1,W1,V.mono W X1,p1⟩
 | false=>exact iteF ⟨ρ1,e,c1,W1,V.mono W X1,p1⟩
end
inductive Fl where
 | nx (e:Ev) | rt (d:D) | bk (e:Ev) | ct (e:Ev)
inductive FV where
 | nx (σ:St) | rt (v:V) | bk (σ:St) | ct (σ:St)
noncomputable def RelF (K:PySem.W.Frag) (ρ:List Addr) (H:Hp):Fl→FV→Prop
 | .nx e,f=>∃ σ,f=.nx σ∧REnv K ρ H e σ
 | .rt d,f=>∃ v,f=.rt v∧Rel K ρ H d v
 | .bk e,f=>∃ σ,f=.bk σ∧REnv K ρ H e σ
 | .ct e,f=>∃ σ,f=.ct σ∧REnv K ρ H e σ
noncomputable def En (Z:Ends):FV→Hp→Prop
 | .nx σ,H=>Z.nx σ H
 | .rt v,H=>Z.rt v H
 | .bk σ,H=>Z.bk σ H
 | .ct σ,H=>Z.ct σ H
noncomputable def tSD (K:PySem.W.Frag) (d:Ev→List Cell→R Fl):TS:=fun Z σ H=>tD K (RelF K) d σ H (En Z)
noncomputable abbrev PSd (X:Cx) (st:Stmt) (d:Ev→List Cell→R Fl):Prop:=PS X st (tSD X.K d)
noncomputable abbrev PSsd (X:Cx) (st:List Stmt) (d:Ev→List Cell→R Fl):Prop:=PSs X st (tSD X.K d)
noncomputable def sNext:Ev→List Cell→R Fl:=fun e c=>.ok (.nx e) c
noncomputable def sSeq (a b:Ev→List Cell→R Fl):Ev→List Cell→R Fl:=fun e c=>(a e c).bind fun f c=>match f with
 | .nx e=>b e c
 | f=>.ok f c
noncomputable def sRet (a:Ev→List Cell→R D):Ev→List Cell→R Fl:=fun e c=>(a e c).bind fun x c=>.ok (.rt x) c
noncomputable def sDrop (a:Ev→List Cell→R D):Ev→List Cell→R Fl:=fun e c=>(a e c).bind fun _ c=>.ok (.nx e) c
noncomputable def sIf (t:Ev→List Cell→R Bool) (a b:Ev→List Cell→R Fl):Ev→List Cell→R Fl:=fun e c=>(t e c).bind fun x c=>if x=true then a e c else b e c
noncomputable def sSet (i:Nat) (a:Ev→List Cell→R D):Ev→List Cell→R Fl:=fun e c=>(a e c).bind fun x c=>.ok (.nx (e.set i (some x))) c
noncomputable def sBad:Ev→List Cell→R Fl:=fun _ _=>.bad
noncomputable def sBreak:Ev→List Cell→R Fl:=fun e c=>.ok (.bk e) c
noncomputable def sCont:Ev→List Cell→R Fl:=fun e c=>.ok (.ct e) c
section
variable {X:Cx} {st:Stmt} {rest:List Stmt} {t u:Ev→List Cell→R Fl} {e:Expr} {da:Ev→List Cell→R D} {pos:Pos}
theorem sd_nil:PSsd X [] sNext:=pss_nil.imp fun Z σ H h=>by
 obtain ⟨ρ,e,c,W,V,p⟩:=h
 exact p.here W ⟨σ,rfl,V⟩
theorem sd_cons (h1:PSd X st t) (h2:PSsd X rest u):PSsd X (st :: rest) (sSeq t u):=(pss_cons h1 h2).imp fun Z σ H h=>by
 obtain ⟨ρ,e,c,W,V,p⟩:=h
 refine ⟨ρ,e,c,W,V,post.bind p fun f c1 ρ1 H1 b _ W1 X1 r1 p1=>?_⟩
 cases f with
 | nx e1=>obtain ⟨σ1,rfl,V1⟩:=r1; exact ⟨ρ1,e1,c1,W1,V1,p1⟩
 | rt d=>obtain ⟨v,rfl,V1⟩:=r1; exact post.here (Q:=En Z) (show post X.K (RelF X.K) (.ok (Fl.rt d) c1) ρ1 H1 (En Z) from p1) W1 ⟨_,rfl,V1⟩
 | bk e1=>obtain ⟨σ1,rfl,V1⟩:=r1; exact post.here (Q:=En Z) (show post X.K (RelF X.K) (.ok (Fl.bk e1) c1) ρ1 H1 (En Z) from p1) W1 ⟨_,rfl,V1⟩
 | ct e1=>obtain ⟨σ1,rfl,V1⟩:=r1; exact post.here (Q:=En Z) (show post X.K (RelF X.K) (.ok (Fl.ct e1) c1) ρ1 H1 (En Z) from p1) W1 ⟨_,rfl,V1⟩
theorem sd_one (h1:PSd X st t):PSsd X [st] t:=pss_one h1
theorem sd_never:PSd X st sBad:=fun _ _ _ _ _ _ h=>by
 obtain ⟨ρ,e,c,W,V,p⟩:=h
 exact p.elim
theorem sd_ret (he:PEd X e da):PSd X (.Return (some e) pos) (sRet da):=(ps_ret he).imp fun Z σ H h=>by
 obtain ⟨ρ,e,c,W,V,p⟩:=h
 refine ⟨ρ,e,c,W,V,post.bind p fun x c1 ρ1 H1 v _ W1 X1 r1 p1=>p1.here W1 ⟨v,rfl,r1⟩⟩
theorem sd_drop (he:PEd X e da) (hs:swapsWith e none pos.line X.env=pure false:=by rfl):PSd X (.Expr e pos) (sDrop da):=(ps_expr he hs).imp fun Z σ H h=>by
 obtain ⟨ρ,e,c,W,V,p⟩:=h
 refine ⟨ρ,e,c,W,V,post.bind p fun x c1 ρ1 H1 v _ W1 X1 r1 p1=>p1.here W1 ⟨σ,rfl,V.mono W X1⟩⟩
theorem sd_if {c':Expr} {a b:List Stmt} {tc:Ev→List Cell→R Bool} (hc:PTd X c' tc) (ha:PSsd X a t) (hb:PSsd X b u):PSd X (.If c' a b pos) (sIf tc t u):=(ps_if hc ha hb).imp fun Z σ H h=>by
 obtain ⟨ρ,e,c,W,V,p⟩:=h
 refine ⟨ρ,e,c,W,V,post.bind p fun x c1 ρ1 H1 v _ W1 X1 r1 p1=>?_⟩
 cases r1
 cases x with
 | true=>exact iteT ⟨ρ1,e,c1,W1,V.mono W X1,p1⟩
 | false=>exact iteF ⟨ρ1,e,c1,W1,V.mono W X1,p1⟩
theorem sd_set {i:Nat} {x:Str} {pos':Pos} (he:PEd X e da) (hN:X.N.Nodup:=by decide +kernel) (hi:X.N[i]? = some x:=by rfl) (hx:Loc X.env.scope x:=by first | exact Or.inl rfl | exact Or.inr rfl) (hs:swapsWith e (some (.Name x pos')) pos.line X.env=pure false:=by rfl)
  (hf:X.fn x=true∨X.env.scope.names.lookup x=some .local:=by first | exact .inl rfl | exact .inr rfl):PSd X (.Assign [.Name x pos'] e pos) (sSet i da):=(ps_set hN hi hx he hs).imp fun Z σ H h=>by
 obtain ⟨ρ,e,c,W,V,p⟩:=h
 refine ⟨ρ,e,c,W,V,post.bind p fun x c1 ρ1 H1 v _ W1 X1 r1 p1=>p1.here W1 ⟨_,rfl,(V.mono W X1).set r1 i⟩⟩
end
noncomputable abbrev Gd:=D→Ev→List Cell→R Ev
noncomputable def tGD (K:PySem.W.Frag) (g:Gd):TG:=fun v σ H Q=>∃ ρ x e c,Wd K ρ H c∧REnv K ρ H e σ∧Rel K ρ H x v∧post K (fun ρ H e σ=>REnv K ρ H e σ) (g x e c) ρ H Q
noncomputable def tGsD (K:PySem.W.Frag) (g:List D→Ev→List Cell→R Ev):TGs:=fun vs σ H Q=>∃ ρ xs e c,Wd K ρ H c∧REnv K ρ H e σ∧Rels K ρ H xs vs∧post K (fun ρ H e σ=>REnv K ρ H e σ) (g xs e c) ρ H Q
noncomputable abbrev PGd (X:Cx) (e:Expr) (g:Gd):Prop:=PG X e (tGD X.K g)
noncomputable abbrev PGsd (X:Cx) (es:List Expr) (g:List D→Ev→List Cell→R Ev):Prop:=PGs X es (tGsD X.K g)
noncomputable def gdName (i:Nat):Gd:=fun x e c=>.ok (e.set i (some x)) c
noncomputable def gdNil:List D→Ev→List Cell→R Ev:=fun xs e c=>match xs with
 | []=>.ok e c
 | _=>.bad
noncomputable def gdCons (g:Gd) (r:List D→Ev→List Cell→R Ev):List D→Ev→List Cell→R Ev:=fun xs e c=>match xs with
 | x :: xs=>(g x e c).bind fun e c=>r xs e c
 | _=>.bad
noncomputable def gdTup (n:Nat) (g:List D→Ev→List Cell→R Ev):Gd:=fun x e c=>match x with
 | .tup l=>if l.length=n then g l e c else .bad
 | _=>.bad
theorem PG.imp {X:Cx} {e:Expr} {t t':TG} (h:PG X e t) (i:∀ v σ H Q,t' v σ H Q→t v σ H Q):PG X e t':=fun pins s σ H x u Q I r q=>h pins s σ H x u Q I r (i _ _ _ _ q)
theorem PGs.imp {X:Cx} {es:List Expr} {t t':TGs} (h:PGs X es t) (i:∀ v σ H Q,t' v σ H Q→t v σ H Q):PGs X es t':=fun pins s σ H x u Q I r q=>h pins s σ H x u Q I r (i _ _ _ _ q)
section
variable {X:Cx} {pos:Pos}
theorem gd_name {i:Nat} {x:Str} (hN:X.N.Nodup:=by decide +kernel) (hi:X.N[i]? = some x:=by rfl) (hx:Loc X.env.scope x:=by first | exact Or.inl rfl | exact Or.inr rfl) (hf:X.fn x=true∨X.env.scope.names.lookup x=some .local:=by first | exact .inl rfl | exact .inr rfl):PGd X (.Name x pos) (gdName i) :=
 (pg_name hN hi hx hf).imp fun v σ H Q h=>by
  obtain ⟨ρ,x,e,c,W,V,r,p⟩:=h
  exact p.here W (V.set r i)
theorem gds_nil:PGsd X [] gdNil:=pgs_nil.imp fun v σ H Q h=>by
 obtain ⟨ρ,xs,e,c,W,V,r,p⟩:=h
 cases xs with
 | nil=>exact ⟨r,p.here W V⟩
 | cons x xs=>exact p.elim
theorem gds_cons {e:Expr} {es:List Expr} {g:Gd} {u:List D→Ev→List Cell→R Ev} (h1:PGd X e g) (h2:PGsd X es u) (hs:(assignEach (e :: es) X.env).map (·.2)=assign e X.env :: (assignEach es X.env).map (·.2):=by rfl):PGsd X (e :: es) (gdCons g u) :=
 (pgs_cons h1 h2 hs).imp fun v σ H Q h=>by
  obtain ⟨ρ,xs,e,c,W,V,r,p⟩:=h
  cases xs with
  | nil=>exact p.elim
  | cons x xs =>
   obtain ⟨y,ys,rfl,rx,rs⟩:=r
   exact ⟨y,ys,rfl,ρ,x,e,c,W,V,rx,post.bind p fun e1 c1 ρ1 H1 σ1 _ W1 X1 V1 p1=>⟨ρ1,xs,e1,c1,W1,V1,Rels.mono W X1 _ _ rs,p1⟩⟩
theorem gd_tup {es:List Expr} {k:Nat} {g:List D→Ev→List Cell→R Ev} {n:Nat} (h:PGsd X es g) (hc:X.calm=true:=by rfl) (hn:(assignEach es X.env).length=n:=by rfl) (hst:(assignEach es X.env).findIdx? (·.1)=none:=by rfl):PGd X (.Tuple es k pos) (gdTup n g) :=
 (pg_tup hc h hn hst).imp fun v σ H Q h=>by
  obtain ⟨ρ,x,e,c,W,V,r,p⟩:=h
  cases x with
  | tup l =>
   obtain ⟨a,xs,rfl,s,rs⟩:=r
   unfold gdTup at p
   dsimp only at p
   split at p
   ·rename_i hl
    exact ⟨a,xs,rfl,SqT.of s,rs.length.trans hl,ρ,l,e,c,W,V,rs,p⟩
   ·exact p.elim
  | _=>exact p.elim
noncomputable def sAsg (a:Ev→List Cell→R D) (g:Gd):Ev→List Cell→R Fl:=fun e c=>(a e c).bind fun x c=>(g x e c).bind fun e c=>.ok (.nx e) c
theorem sd_asg {tg e:Expr} {da:Ev→List Cell→R D} {g:Gd} (he:PEd X e da) (hg:PGd X tg g) (hs:swapsWithSole [tg] e pos.line X.env=pure false:=by rfl) (hw:swappedStores [tg] e X.env=pure none:=by rfl)
  (h1:(assignEach [tg] X.env).map (·.2)=[assign tg X.env]:=by rfl):PSd X (.Assign [tg] e pos) (sAsg da g):=(ps_asg he hg hs hw h1).imp fun Z σ H h=>by
 obtain ⟨ρ,e,c,W,V,p⟩:=h
 refine ⟨ρ,e,c,W,V,post.bind p fun x c1 ρ1 H1 v _ W1 X1 r1 p1=>⟨ρ1,x,e,c1,W1,V.mono W X1,r1,post.bind p1 fun e2 c2 ρ2 H2 σ2 _ W2 X2 V2 p2=>p2.here W2 ⟨σ2,rfl,V2⟩⟩⟩
noncomputable def setD:D→D→D→List Cell→R Unit:=fun o i v c=>match o,i with
 | .ref k,.int i=>match c[k]? with
  | some (.lst l)=>match ixN l.length i with
   | some j=>if noRef v=true then .ok () (c.set k (.lst (l.set j v))) else .bad
   | none=>.bad
  | none=>.bad
 | _,_=>.bad
noncomputable def gdSub (o i:Ev→List Cell→R D):Gd:=fun x e c=>(o e c).bind fun o c=>(i e c).bind fun i c=>(setD o i x c).bind fun _ c=>.ok e c
theorem gd_sub {o i:Expr} {dO di:Ev→List Cell→R D} (ho:PEd X o dO) (hi:PEd X i di)
  (ha:∀ v,assign (.Subscript o i pos) X.env v=(do
   let ov ← holding [v] (eval o X.env)
   let iv ← holding [v,ov] (eval i X.env)
   standAt pos
   holding [v,ov,iv] (setItem ov iv v)
   release [v,ov,iv] []):=by intro _; rfl):PGd X (.Subscript o i pos) (gdSub dO di):=(pg_sub ho hi set_list ha).imp fun v σ H Q h=>by
 obtain ⟨ρ,x,e,c,W,V,rx,p⟩:=h
 refine ⟨ρ,e,c,W,V,post.bind p fun o c1 ρ1 H1 ov _ W1 X1 r1 p1=>⟨ρ1,e,c1,W1,V.mono W X1,post.bind p1 fun i c2 ρ2 H2 iv _ W2 X2 r2 p2=>?_⟩⟩
 have V2:=(V.mono W X1).mono W1 X2
 have rx2:=Rel.mono W (X1.trans X2) _ _ rx
 have ro:=Rel.mono W1 X2 _ _ r1
 unfold setD at p2
 split at p2
 ·rename_i k i _ _
  split at p2
  ·rename_i l hl
   split at p2
   ·rename_i j hj
    split at p2
    ·rename_i hv
     obtain ⟨a,rfl,ha⟩:=ro
     cases r2
     obtain ⟨nr,ys,hy,rl⟩:=W2.cel k a _ ha hl
     refine ⟨a,ys,i,j,rfl,rfl,hy,by rw [rl.length]; exact hj,?_⟩
     exact p2 ρ2 _ σ (W2.write ha (noRefs_set nr hv) (rl.set j rx2)) (Ext.write ha) (V2.mono W2 (Ext.write ha))
    ·exact p2.elim
   ·exact p2.elim
  ·exact p2.elim
 ·exact p2.elim
end
end L2
namespace L2
open PySem PySem.Spec PyProof.Rows
structure Src where
 items:List D
 stays:List Cell→Prop
noncomputable def JS (K:PySem.W.Frag) (ρ:List Addr) (H:Hp) (s:Src) (J:It):Prop :=
 ∀ ρ' H' c',Wd K ρ' H' c'→Ext ρ H ρ' H'→s.stays c'→∀ i:Nat,
  (∀ d,s.items[i]? = some d→J.go i H'∧∀ x H2,J.yld i H' x H2→Wd K ρ' H2 c'∧Ext ρ' H' ρ' H2∧Rel K ρ' H2 d x)∧(i=s.items.length→J.stop i H')
noncomputable def tID (K:PySem.W.Frag) (d:Ev→List Cell→R Src):TI:=tD K (JS K) d
noncomputable abbrev PId (X:Cx) (tg iter:Expr) (d:Ev→List Cell→R Src):Prop:=PI X tg iter (tID X.K d)
theorem PI.imp {X:Cx} {tg iter:Expr} {t t':TI} (h:PI X tg iter t) (i:∀ σ H Q,t' σ H Q→t σ H Q):PI X tg iter t':=fun pins s σ H Q I q=>h pins s σ H Q I (i _ _ _ q)
noncomputable def dSeq (a:Ev→List Cell→R D):Ev→List Cell→R Src:=fun e c=>(a e c).bind fun x c=>match x with
 | .lst l=>.ok ⟨l,fun _=>True⟩ c
 | .scr l=>.ok ⟨l.map D.int,fun _=>True⟩ c
 | .ref k=>match c[k]? with
  | some (.lst l)=>.ok ⟨l,fun c=>c[k]? = some (.lst l)⟩ c
  | none=>.bad
 | _=>.bad
noncomputable def dSeqT (a:Ev→List Cell→R D):Ev→List Cell→R Src:=fun e c=>(a e c).bind fun x c=>match x with
 | .tup l=>.ok ⟨l,fun _=>True⟩ c
 | _=>.bad
noncomputable def rngD (lo hi:Int):List D:=(List.range (hi - lo).toNat).map fun (i:Nat)=>D.int (lo + (i:Int))
noncomputable def dRng1 (a:Ev→List Cell→R (List D)):Ev→List Cell→R Src:=fun e c=>(a e c).bind fun xs c=>match xs with
 | [.int j]=>if -(2 ^ 62)≤j∧j < 2 ^ 62 then .ok ⟨rngD 0 j,fun _=>True⟩ c else .bad
 | _=>.bad
noncomputable def dRng2 (a:Ev→List Cell→R (List D)):Ev→List Cell→R Src:=fun e c=>(a e c).bind fun xs c=>match xs with
 | [.int i,.int j]=>if -(2 ^ 62)≤i∧i < 2 ^ 62∧-(2 ^ 62)≤j∧j < 2 ^ 62 then .ok ⟨rngD i j,fun _=>True⟩ c else .bad
 | _=>.bad
noncomputable def dZip (a:Ev→List Cell→R (List D)):Ev→List Cell→R Src:=fun e c=>(a e c).bind fun xs c=>match xs with
 | [.tup l,.tup m]=>.ok ⟨List.zipWith (fun x y=>.tup [x,y]) l m,fun _=>True⟩ c
 | _=>.bad
noncomputable def dEnum (a:Ev→List Cell→R (List D)):Ev→List Cell→R Src:=fun e c=>(a e c).bind fun xs c=>match xs with
 | [.tup l]=>.ok ⟨l.mapIdx fun i x=>.tup [.int i,x],fun _=>True⟩ c
 | _=>.bad
section
variable {X:Cx} {tg:Expr} {K:PySem.W.Frag} {ρ:List Addr} {H:Hp}
theorem js_list {l:List D} {a:Addr} {st:List Cell→Prop} (h:∀ ρ' H' c',Wd K ρ' H' c'→Ext ρ H ρ' H'→st c'→∃ xs,SqL K H' a xs∧Rels K ρ' H' l xs):JS K ρ H ⟨l,st⟩ (Itl K a):=by
 intro ρ' H' c' W E s i
 obtain ⟨xs,q,r⟩:=h ρ' H' c' W E s
 refine ⟨fun d hd=>?_,fun e=>⟨xs,q,by rw [r.length]; exact Nat.le_of_eq e.symm⟩⟩
 obtain ⟨x,hx,rx⟩:=r.get hd
 refine ⟨⟨xs,x,q,hx⟩,fun y H2 hy=>?_⟩
 obtain ⟨rfl,hy⟩:=hy
 have:=hy xs q
 rw [hx] at this; cases this
 exact ⟨W,Ext.refl,rx⟩
theorem js_tup {l:List D} {a:Addr} {st:List Cell→Prop} (h:∀ ρ' H' c',Wd K ρ' H' c'→Ext ρ H ρ' H'→st c'→∃ xs,SqT K H' a xs∧Rels K ρ' H' l xs):JS K ρ H ⟨l,st⟩ (Itt K a):=by
 intro ρ' H' c' W E s i
 obtain ⟨xs,q,r⟩:=h ρ' H' c' W E s
 refine ⟨fun d hd=>?_,fun e=>⟨xs,q,by rw [r.length]; exact Nat.le_of_eq e.symm⟩⟩
 obtain ⟨x,hx,rx⟩:=r.get hd
 refine ⟨⟨xs,x,q,hx⟩,fun y H2 hy=>?_⟩
 obtain ⟨rfl,hy⟩:=hy
 have:=hy xs q
 rw [hx] at this; cases this
 exact ⟨W,Ext.refl,rx⟩
theorem rng_get {lo hi:Int} {i:Nat} {d:D} (h:(rngD lo hi)[i]? = some d):i < (hi - lo).toNat∧d=.int (lo + i):=by
 unfold rngD at h
 rw [List.getElem?_map] at h
 cases q:(List.range (hi - lo).toNat)[i]? with
 | none=>rw [q] at h; cases h
 | some j =>
  rw [q] at h
  have h1:=(List.getElem?_eq_some_iff.mp q)
  obtain ⟨h2,h3⟩:=h1
  rw [List.getElem_range] at h3
  subst h3
  cases h
  exact ⟨by simpa using h2,rfl⟩
theorem js_rng {lo hi:Int} {st:List Cell→Prop}:JS K ρ H ⟨rngD lo hi,st⟩ (Itr lo (hi - lo).toNat):=by
 intro ρ' H' c' W E s i
 refine ⟨fun d hd=>?_,fun e=>?_⟩
 ·obtain ⟨h1,rfl⟩:=rng_get hd
  refine ⟨h1,fun x H2 hy=>?_⟩
  obtain ⟨rfl,rfl⟩:=hy
  exact ⟨W,Ext.refl,rfl⟩
 ·have:(rngD lo hi).length=(hi - lo).toNat:=by simp [rngD]
  show (hi - lo).toNat≤i
  rw [e]
  exact Nat.le_of_eq this.symm
theorem id_list {l:Expr} {dl:Ev→List Cell→R D} (hl:PEd X l dl):PId X tg l (dSeq dl):=(pi_list hl).imp fun σ H Q h=>by
 obtain ⟨ρ,e,c,W,V,p⟩:=h
 refine ⟨ρ,e,c,W,V,post.bind p fun x c1 ρ1 H1 v _ W1 X1 r1 p1=>?_⟩
 cases x with
 | lst l =>
  obtain ⟨a,xs,rfl,s,rs⟩:=r1
  exact ⟨a,rfl,⟨xs,SqL.of s.1⟩,p1.here W1 (js_list fun ρ' H' c' W' E _=>⟨xs,SqL.of (lst_mono E s).1,Rels.mono W1 E _ _ rs⟩)⟩
 | scr l =>
  obtain ⟨a,rfl,s⟩:=r1
  exact ⟨a,rfl,⟨_,s.sql⟩,p1.here W1 (js_list fun ρ' H' c' W' E _=>⟨_,(sqP_mono E s).sql,Rels.ints⟩)⟩
 | ref k =>
  obtain ⟨a,rfl,ha⟩:=r1
  dsimp only at p1
  split at p1
  ·rename_i l hl
   obtain ⟨_,xs,hx,rs⟩:=W1.cel k a _ ha hl
   refine ⟨a,rfl,⟨xs,SqL.of hx⟩,p1.here W1 (js_list fun ρ' H' c' W' E st=>?_)⟩
   obtain ⟨_,ys,hy,rs'⟩:=W'.cel k a _ (E.pre k a ha) st
   exact ⟨ys,SqL.of hy,rs'⟩
  ·exact p1.elim
 | _=>exact p1.elim
theorem id_tup {l:Expr} {dl:Ev→List Cell→R D} (hl:PEd X l dl):PId X tg l (dSeqT dl):=(pi_tup hl).imp fun σ H Q h=>by
 obtain ⟨ρ,e,c,W,V,p⟩:=h
 refine ⟨ρ,e,c,W,V,post.bind p fun x c1 ρ1 H1 v _ W1 X1 r1 p1=>?_⟩
 cases x with
 | tup l =>
  obtain ⟨a,xs,rfl,s,rs⟩:=r1
  exact ⟨a,rfl,⟨xs,SqT.of s⟩,p1.here W1 (js_tup fun ρ' H' c' W' E _=>⟨xs,SqT.of (tup_mono W1 E s),Rels.mono W1 E _ _ rs⟩)⟩
 | _=>exact p1.elim
theorem id_rng1 {a:Expr} {da:Ev→List Cell→R (List D)} {p pos:Pos} (ha:PAd X [a] da) (hm:X.mg "range"=none) (hg:Gl X "range":=by rfl) (hs:starEach [a] X.env=[(false,eval a X.env)]:=by exact star1 rfl):PId X tg (.Call (.Name "range" p) [a] [] pos) (dRng1 da) :=
 (pi_range1 hg hm ha hs).imp fun σ H Q h=>by
  obtain ⟨ρ,e,c,W,V,p⟩:=h
  refine ⟨ρ,e,c,W,V,post.bind p fun x c1 ρ1 H1 v _ W1 X1 r1 p1=>?_⟩
  split at p1
  ·rename_i j _
   split at p1
   ·rename_i hj
    obtain ⟨y,ys,rfl,ry,rs⟩:=r1
    cases ry; cases rs
    refine ⟨j,rfl,hj.1,hj.2,p1.here W1 ?_⟩
    have:=js_rng (K:=X.K) (ρ:=ρ1) (H:=H1) (lo:=0) (hi:=j) (st:=fun _=>True)
    rw [Int.sub_zero] at this
    exact this
   ·exact p1.elim
  ·exact p1.elim
theorem js_zip {l m:List D} {a b:Addr} {st:List Cell→Prop} (h:∀ ρ' H' c',Wd K ρ' H' c'→Ext ρ H ρ' H'→st c'→∃ xs ys,SqT K H' a xs∧SqT K H' b ys∧Rels K ρ' H' l xs∧Rels K ρ' H' m ys):JS K ρ H ⟨List.zipWith (fun x y=>.tup [x,y]) l m,st⟩ (Itz (SqT K) a b):=by
 intro ρ' H' c' W E s i
 obtain ⟨xs,ys,q1,q2,r1,r2⟩:=h ρ' H' c' W E s
 refine ⟨fun d hd=>?_,fun e=>⟨xs,ys,q1,q2,?_⟩⟩
 ·have hd:(List.zipWith (fun x y=>D.tup [x,y]) l m)[i]? = some d:=hd
  rw [List.getElem?_zipWith] at hd
  cases e1:l[i]? with
  | none=>rw [e1] at hd; cases hd
  | some x =>
   cases e2:m[i]? with
   | none=>rw [e1,e2] at hd; cases hd
   | some y =>
    rw [e1,e2] at hd
    cases hd
    obtain ⟨v,hv,rv⟩:=r1.get e1
    obtain ⟨u,hu,ru⟩:=r2.get e2
    refine ⟨⟨xs,ys,v,u,q1,q2,hv,hu⟩,fun z H2 hz=>?_⟩
    obtain ⟨t,v',u',rfl,ht,rfl,hz⟩:=hz
    obtain ⟨z1,z2⟩:=hz xs ys q1 q2
    rw [hv] at z1; rw [hu] at z2
    cases z1; cases z2
    exact ⟨W.fresh ht,Ext.fresh W ht,t,[v,u],rfl,upd_same,v,[u],rfl,Rel.mono W (Ext.fresh W ht) _ _ rv,u,[],rfl,Rel.mono W (Ext.fresh W ht) _ _ ru,rfl⟩
 ·have e:i=(List.zipWith (fun x y=>D.tup [x,y]) l m).length:=e
  rw [List.length_zipWith] at e
  rw [r1.length,r2.length]
  omega
open Classical in
noncomputable def forD (st:List Cell→Prop) (g:Gd) (b:Ev→List Cell→R Fl):List D→Ev→List Cell→R Fl
 | [],e,c=>if st c then .ok (.nx e) c else .bad
 | x :: xs,e,c=>if st c then (g x e c).bind fun e c=>(b e c).bind fun f c=>match f with
   | .nx e=>forD st g b xs e c
   | .ct e=>forD st g b xs e c
   | .bk e=>.ok (.nx e) c
   | .rt d=>.ok (.rt d) c
  else .bad
noncomputable def sFor (s:Ev→List Cell→R Src) (g:Gd) (b:Ev→List Cell→R Fl):Ev→List Cell→R Fl:=fun e c=>(s e c).bind fun s c=>forD s.stays g b s.items e c
theorem sd_for {iter:Expr} {body:List Stmt} {ds:Ev→List Cell→R Src} {g:Gd} {db:Ev→List Cell→R Fl} {pos:Pos} (hi:PId X tg iter ds) (hg:PGd X tg g) (hb:PSsd X body db) (hp:PassesOwn (model X.prog X.w) X.A X.env X.xe:=by exact PassesOwn.never) (hc:X.calm=true:=by rfl)
  (hs:∀ x,foldedSetIterable iter X.env x=pure x:=by intro _; rfl):PSd X (.For tg iter body [] pos) (sFor ds g db):=(ps_for hp hc hi hg hb hs).imp fun Z σ H h=>by
 obtain ⟨ρ,e,c,W,V,p⟩:=h
 refine ⟨ρ,e,c,W,V,post.bind p fun s c1 ρ1 H1 J _ W1 X1 j1 p1=>?_⟩
 refine ⟨fun i m σ H=>∃ ρ e c,Wd X.K ρ H c∧Ext ρ1 H1 ρ H∧REnv X.K ρ H e σ∧i≤s.items.length∧m=s.items.length - i∧post X.K (RelF X.K) (forD s.stays g db (s.items.drop i) e c) ρ H (En Z),
  ⟨_,ρ1,e,c1,W1,Ext.refl,V.mono W X1,Nat.zero_le _,rfl,p1⟩,?_⟩
 rintro i m σ2 H2 ⟨ρ2,e2,c2,W2,X2,V2,hi2,rfl,p2⟩
 by_cases hl:i < s.items.length
 ·rw [List.drop_eq_getElem_cons hl] at p2
  unfold forD at p2
  split at p2
  ·rename_i hst
   obtain ⟨go,yl⟩:=(j1 ρ2 H2 c2 W2 X2 hst i).1 _ (List.getElem?_eq_getElem hl)
   refine .inr ⟨go,fun σ' H'=>∃ ρ e c,Wd X.K ρ H' c∧Ext ρ1 H1 ρ H'∧REnv X.K ρ H' e σ'∧i + 1≤s.items.length∧post X.K (RelF X.K) (forD s.stays g db (s.items.drop (i + 1)) e c) ρ H' (En Z),?_,fun x H3 hy=>?_⟩
   ·rintro σ' H' ⟨ρ,e,c,w,x,v,l,q⟩
    exact ⟨s.items.length - (i + 1),by omega,ρ,e,c,w,x,v,l,rfl,q⟩
   ·obtain ⟨W3,X3,r3⟩:=yl x H3 hy
    refine ⟨ρ2,_,e2,c2,W3,V2.mono W2 X3,r3,post.bind (post.ext p2 X3) fun e4 c4 ρ4 H4 σ4 _ W4 X4 V4 p4=>?_⟩
    refine ⟨ρ4,e4,c4,W4,V4,post.bind p4 fun f c5 ρ5 H5 b _ W5 X5 r5 p5=>?_⟩
    have X15:=((X2.trans X3).trans X4).trans X5
    cases f with
    | nx e1=>obtain ⟨σ1,rfl,V1⟩:=r5; exact ⟨ρ5,e1,c5,W5,X15,V1,hl,p5⟩
    | ct e1=>obtain ⟨σ1,rfl,V1⟩:=r5; exact ⟨ρ5,e1,c5,W5,X15,V1,hl,p5⟩
    | bk e1=>obtain ⟨σ1,rfl,V1⟩:=r5; exact post.here (Q:=En Z) (show post X.K (RelF X.K) (.ok (Fl.nx e1) c5) ρ5 H5 (En Z) from p5) W5 ⟨_,rfl,V1⟩
    | rt d=>obtain ⟨v,rfl,V1⟩:=r5; exact post.here (Q:=En Z) (show post X.K (RelF X.K) (.ok (Fl.rt d) c5) ρ5 H5 (En Z) from p5) W5 ⟨_,rfl,V1⟩
  ·exact p2.elim
 ·obtain rfl:i=s.items.length:=by omega
  rw [List.drop_eq_nil_of_le (Nat.le_refl _)] at p2
  unfold forD at p2
  split at p2
  ·rename_i hst
   exact .inl ⟨(j1 ρ2 H2 c2 W2 X2 hst _).2 rfl,post.here (Q:=En Z) p2 W2 ⟨σ2,rfl,V2⟩⟩
  ·exact p2.elim
noncomputable def whileD (t:Ev→List Cell→R Bool) (b:Ev→List Cell→R Fl):Nat→Ev→List Cell→R Fl
 | 0,_,_=>.bad
 | n + 1,e,c=>(t e c).bind fun k c=>if k=true then (b e c).bind fun f c=>match f with
   | .nx e=>whileD t b n e c
   | .ct e=>whileD t b n e c
   | .bk e=>.ok (.nx e) c
   | .rt d=>.ok (.rt d) c
  else .ok (.nx e) c
end
end L2
namespace L2
open PySem PySem.Spec PyProof.Rows
noncomputable def pickD (pick:List (Option Nat)) (e:Ev):Ev:=pick.map fun o=>o.bind fun j=>(e[j]?).bind id
open Classical in
noncomputable def compD (st:List Cell→Prop) (g:Gd) (t:Ev→List Cell→R Bool) (el:Ev→List Cell→R D):List D→Ev→List D→List Cell→R (List D)
 | [],e,acc,c=>if st c then .ok acc c else .bad
 | x :: xs,e,acc,c=>if st c then (g x e c).bind fun e c=>(t e c).bind fun k c=>if k=true then (el e c).bind fun y c=>compD st g t el xs e (acc ++ [y]) c else compD st g t el xs e acc c else .bad
noncomputable def dComp (s:Ev→List Cell→R Src) (pick:List (Option Nat)) (g:Gd) (t:Ev→List Cell→R Bool) (el:Ev→List Cell→R D):Ev→List Cell→R D:=fun e c=>(s e c).bind fun s c =>
 if s.items.length < sizeLine then (compD s.stays g t el s.items (pickD pick e) [] c).bind fun l c=>.ok (.lst l) c else .bad
noncomputable def dYes:Ev→List Cell→R Bool:=fun _ c=>.ok true c
noncomputable abbrev PIfd (X:Cx) (ifs:List Expr) (t:Ev→List Cell→R Bool):Prop:=PIfs X ifs (tD X.K (fun _ _ a b=>a=b) t)
section
variable {X:Cx} {N':List Str} {pick:List (Option Nat)} {scope:Scope} {tg elt iter:Expr} {ifs:List Expr} {pos:Pos} {ds:Ev→List Cell→R Src} {g:Gd} {dt:Ev→List Cell→R Bool} {de:Ev→List Cell→R D}
theorem pifd_nil:PIfd X [] dYes:=fun pins s σ H Q I h=>by
 obtain ⟨ρ,e,c,W,V,p⟩:=h
 exact pifs_nil pins s σ H Q I (post.here (b:=true) p W rfl)
theorem pifd_one {c':Expr} (h:PTd X c' dt):PIfd X [c'] dt:=pifs_one h
theorem REnv.picked {K:PySem.W.Frag} {ρ:List Addr} {H:Hp} {e:Ev} {σ:St} (V:REnv K ρ H e σ):REnv K ρ H (pickD pick e) (spick pick σ):=by
 refine ⟨fun i d h=>?_,by simp [pickD,spick]⟩
 unfold pickD at h
 unfold spick
 rw [List.getElem?_map] at h ⊢
 cases q:pick[i]? with
 | none=>rw [q] at h; cases h
 | some o =>
  rw [q] at h
  cases o with
  | none=>cases h
  | some j =>
   have h':(e[j]?).bind id=some d:=Option.some.inj h
   cases q2:e[j]? with
   | none=>rw [q2] at h'; cases h'
   | some z =>
    rw [q2] at h'
    have h'':z=some d:=h'
    subst h''
    obtain ⟨v,hv,r⟩:=V.get j d q2
    exact ⟨v,by simp [hv],r⟩
theorem compW_of {K:PySem.W.Frag} {ρ1:List Addr} {H1:Hp} {c1:List Cell} {e:Ev} {σ:St} {s:Src} {J:It} {Q:VK} (W1:Wd K ρ1 H1 c1) (V1:REnv K ρ1 H1 e σ) (j1:JS K ρ1 H1 s J) (hn:s.items.length < sizeLine)
  (p1:post K (Rel K) ((compD s.stays g dt de s.items e [] c1).bind fun l c=>.ok (.lst l) c) ρ1 H1 Q):CompW J (tGD K g) (tD K (fun _ _ a b=>a=b) dt) (tD K (Rel K) de) Q σ H1:=by
 refine ⟨fun i m σ ys H=>∃ ρ e acc c,Wd K ρ H c∧Ext ρ1 H1 ρ H∧REnv K ρ H e σ∧Rels K ρ H acc ys∧acc.length≤i∧i≤s.items.length∧m=s.items.length - i∧post K (Rel K) ((compD s.stays g dt de (s.items.drop i) e acc c).bind fun l c=>.ok (.lst l) c) ρ H Q,
  ⟨_,ρ1,e,[],c1,W1,Ext.refl,V1,rfl,Nat.le_refl _,Nat.zero_le _,rfl,p1⟩,?_⟩
 rintro i m σ2 ys H2 ⟨ρ2,e2,acc,c2,W2,X2,V2,r2,ha,hi2,rfl,p2⟩
 refine ⟨by rw [r2.length]; omega,?_⟩
 by_cases hl:i < s.items.length
 ·rw [List.drop_eq_getElem_cons hl] at p2
  unfold compD at p2
  split at p2
  ·rename_i hst
   obtain ⟨go,yl⟩:=(j1 ρ2 H2 c2 W2 X2 hst i).1 _ (List.getElem?_eq_getElem hl)
   refine .inr ⟨go,fun σ' ys' H'=>∃ ρ e acc c,Wd K ρ H' c∧Ext ρ1 H1 ρ H'∧REnv K ρ H' e σ'∧Rels K ρ H' acc ys'∧acc.length≤i + 1∧i + 1≤s.items.length∧post K (Rel K) ((compD s.stays g dt de (s.items.drop (i + 1)) e acc c).bind fun l c=>.ok (.lst l) c) ρ H' Q,?_,fun x H3 hy=>?_⟩
   ·rintro σ' ys' H' ⟨ρ,e,acc,c,w,x,v,r,a,l,q⟩
    exact ⟨s.items.length - (i + 1),by omega,ρ,e,acc,c,w,x,v,r,a,l,rfl,q⟩
   ·obtain ⟨W3,X3,r3⟩:=yl x H3 hy
    have assoc:∀ {α β γ:Type} (r:R α) (f:α→List Cell→R β) (g:β→List Cell→R γ),(r.bind f).bind g=r.bind fun a c=>(f a c).bind g:=fun r f g=>by cases r <;> rfl
    rw [assoc] at p2
    refine ⟨ρ2,_,e2,c2,W3,V2.mono W2 X3,r3,post.bind (post.ext p2 X3) fun e4 c4 ρ4 H4 σ4 _ W4 X4 V4 p4=>?_⟩
    rw [assoc] at p4
    refine ⟨ρ4,e4,c4,W4,V4,post.bind p4 fun k c5 ρ5 H5 b _ W5 X5 r5 p5=>?_⟩
    cases r5
    have X15:=((X2.trans X3).trans X4).trans X5
    have r25:=Rels.mono W2 ((X3.trans X4).trans X5) _ _ r2
    cases k with
    | true =>
     refine iteT ?_
     rw [if_pos rfl,assoc] at p5
     refine ⟨ρ5,e4,c5,W5,V4.mono W4 X5,post.bind p5 fun y c6 ρ6 H6 v _ W6 X6 r6 p6=>?_⟩
     refine ⟨ρ6,e4,acc ++ [y],c6,W6,X15.trans X6,(V4.mono W4 X5).mono W5 X6,(Rels.mono W5 X6 _ _ r25).append ⟨v,[],rfl,r6,rfl⟩,by simp; exact ha,hl,p6⟩
    | false =>
     refine iteF ?_
     rw [if_neg Bool.false_ne_true] at p5
     exact ⟨ρ5,e4,acc,c5,W5,X15,V4.mono W4 X5,r25,Nat.le_succ_of_le ha,hl,p5⟩
  ·exact p2.elim
 ·obtain rfl:i=s.items.length:=by omega
  rw [List.drop_eq_nil_of_le (Nat.le_refl _)] at p2
  unfold compD at p2
  split at p2
  ·rename_i hst
   exact .inl ⟨(j1 ρ2 H2 c2 W2 X2 hst _).2 rfl,new_lst W2 r2 p2⟩
  ·exact p2.elim
theorem comp_T {σ:St} {H:Hp} {Q:VK} {K:PySem.W.Frag} (h:tD K (Rel K) (dComp ds pick g dt de) σ H Q):tComp (tID K ds) pick (tGD K g) (tD K (fun _ _ a b=>a=b) dt) (tD K (Rel K) de) σ H Q:=by
 obtain ⟨ρ,e,c,W,V,p⟩:=h
 refine ⟨ρ,e,c,W,V,post.bind p fun s c1 ρ1 H1 J _ W1 X1 j1 p1=>?_⟩
 split at p1
 ·rename_i hn
  exact compW_of W1 (V.mono W X1).picked j1 hn p1
 ·exact p1.elim
theorem pd_comp (S:CompScope X N' pick scope) (hit:PId X tg iter ds)
  (hg:∀ cl C s₀ H₀ ex pn,PGd (compCx X N' scope cl C s₀ H₀ ex pn) tg g) (hi:∀ cl C s₀ H₀ ex pn,PIfd (compCx X N' scope cl C s₀ H₀ ex pn) ifs dt) (he:∀ cl C s₀ H₀ ex pn,PEd (compCx X N' scope cl C s₀ H₀ ex pn) elt de)
  (hc:X.calm=true:=by rfl) (hs:∀ x,foldedSetIterable iter X.env x=pure x:=by intro _; rfl) :
  PEd X (.ListComp elt [⟨tg,iter,ifs,0⟩] scope pos) (dComp ds pick g dt de):=(pe_comp S hc hit hg hi he hs).imp fun σ H Q h=>comp_T h
theorem sd_setComp {i:Nat} {y:Str} {py spos:Pos} (S:CompScope X N' pick scope) (hit:PId X tg iter ds)
  (hg:∀ cl C s₀ H₀ ex pn,PGd (compCx X N' scope cl C s₀ H₀ ex pn) tg g) (hi:∀ cl C s₀ H₀ ex pn,PIfd (compCx X N' scope cl C s₀ H₀ ex pn) ifs dt) (he:∀ cl C s₀ H₀ ex pn,PEd (compCx X N' scope cl C s₀ H₀ ex pn) elt de)
  (hsw:swapsWith (.ListComp elt [⟨tg,iter,ifs,0⟩] scope pos) (some (.Name y py)) spos.line X.env=pure true:=by rfl) (hN:X.N.Nodup:=by decide +kernel) (hy:X.N[i]? = some y:=by rfl) (hl:X.env.scope.names.lookup y=some .local:=by rfl)
  (hc:X.calm=true:=by rfl) (hs:∀ x,foldedSetIterable iter X.env x=pure x:=by intro _; rfl) :
  PSd X (.Assign [.Name y py] (.ListComp elt [⟨tg,iter,ifs,0⟩] scope pos) spos) (sSet i (dComp ds pick g dt de)):=(ps_setComp (g:=tGD X.K g) (tt:=tD X.K (fun _ _ a b=>a=b) dt) (te:=tD X.K (Rel X.K) de) hsw hN hy hl S hc hit hg hi he hs).imp fun Z σ H h=>by
 refine comp_T (g:=g) (dt:=dt) (de:=de) ?_
 obtain ⟨ρ,e,c,W,V,p⟩:=h
 refine ⟨ρ,e,c,W,V,post.bind p fun x c1 ρ1 H1 v _ W1 X1 r1 p1=>p1.here W1 ⟨_,rfl,(V.mono W X1).set r1 i⟩⟩
end
noncomputable def spD (K:PySem.W.Frag) (n:Nat) (m:List D→List Cell→R D):Sp:=fun vs H Q _=>∃ ρ xs c,Wd K ρ H c∧Rels K ρ H xs vs∧xs.length=n∧post K (Rel K) (m xs c) ρ H Q
noncomputable def dCall (n:Nat) (m:List D→List Cell→R D) (a:Ev→List Cell→R (List D)):Ev→List Cell→R D:=fun e c=>(a e c).bind fun xs c=>if xs.length=n then m xs c else .bad
noncomputable def startD (n:Nat) (xs:List D):Ev:=xs.map some ++ List.replicate (n - xs.length) none
noncomputable def exitD (own:Bool) (n:Nat) (v:D) (c:List Cell):R D:=match v with
 | .ref k=>match c[k]? with
  | some (.lst l)=>if n≤k then (if own=true then .ok (.ref n) (c.take n ++ [.lst l]) else .ok (.lst l) (c.take n)) else .bad
  | none=>.bad
 | v=>if noRef v=true then .ok v (c.take n) else .bad
noncomputable def fnD (n:Nat) (own:Bool) (d:Ev→List Cell→R Fl):List D→List Cell→R D:=fun xs c=>(d (startD n xs) c).bind fun f c'=>match f with
 | .rt v=>exitD own c.length v c'
 | .nx _=>exitD own c.length .non c'
 | _=>.bad
section
variable {P:Program} {w:World} {K:PySem.W.Frag} {mg:Str→Option Value} {base:Heap}
theorem exit_ok {own:Bool} {ρ ρ1:List Addr} {H H1:Hp} {c c1:List Cell} {v:D} {x:V} {Q:VK} (W:Wd K ρ H c) (W1:Wd K ρ1 H1 c1) (X1:Ext ρ H ρ1 H1) (r:Rel K ρ1 H1 v x) (p:post K (Rel K) (exitD own c.length v c1) ρ H Q):Q x H1:=by
 have hn:=Ext.len W W1 X1
 have Wc:=W1.cut hn
 have Xc:=X1.cut (n:=c.length) (Nat.le_of_eq W.len)
 unfold exitD at p
 split at p
 ·rename_i k
  split at p
  ·rename_i l hl
   split at p
   ·rename_i hk
    obtain ⟨a,rfl,ha⟩:=r
    obtain ⟨nr,xs,hx,rl⟩:=W1.cel k a _ ha hl
    have na:a∉ρ1.take c.length:=by
     intro h
     obtain ⟨j,hj,e⟩:=List.mem_iff_getElem.mp h
     have hj2:j < c.length:=by simp at hj; omega
     rw [List.getElem_take] at e
     have hk1:=List.getElem?_eq_some_iff.mp ha
     have hjl:j < ρ1.length:=by simp at hj; omega
     have:=(List.getElem_inj W1.nd (h₀:=hjl) (h₁:=hk1.1)).mp (e.trans hk1.2.symm)
     omega
    have sub:∀ b,b∈ρ1.take c.length→b∈ρ1:=fun b h=>List.mem_of_mem_take h
    split at p
    ·have lr:(ρ1.take c.length).length=c.length:=by simp [W1.len]; omega
     refine p (ρ1.take c.length ++ [a]) H1 (.ref a) ?_ ?_ ⟨a,rfl,?_⟩
     ·refine ⟨?_,by simp [W1.len],fun j b cl e1 e2=>?_⟩
      ·rw [List.nodup_append]
       refine ⟨Wc.nd,by simp,?_⟩
       intro y hy z hz
       rw [List.mem_singleton] at hz
       subst hz
       exact fun q=>na (q ▸ hy)
      ·by_cases hj:j < c.length
       ·rw [List.getElem?_append_left (by rw [lr]; exact hj)] at e1
        rw [List.getElem?_append_left (by simp; omega)] at e2
        have q:=Wc.cel j b cl e1 e2
        cases cl with
        | lst l' =>
         obtain ⟨nr',ys,hy,r'⟩:=q
         refine ⟨nr',ys,hy,Rels.low (ρ:=ρ1) (fun z hz=>?_) l' ys nr' ?_⟩
         ·rcases List.mem_append.mp hz with hz | hz
          ·exact sub z hz
          ·rw [List.mem_singleton] at hz; subst hz; exact List.mem_of_getElem? ha
         ·have e1':ρ1[j]? = some b:=by rw [List.getElem?_take,if_pos hj] at e1; exact e1
          have e2':c1[j]? = some (.lst l'):=by rw [List.getElem?_take,if_pos hj] at e2; exact e2
          obtain ⟨_,zs,hz,rz⟩:=W1.cel j b _ e1' e2'
          rw [hy] at hz; cases hz
          exact rz
       ·have hj':j=c.length:=by
         have:=(List.getElem?_eq_some_iff.mp e1).1
         rw [List.length_append,lr] at this
         simp at this
         omega
        subst hj'
        rw [List.getElem?_append_right (by rw [lr]; exact Nat.le_refl _),lr,Nat.sub_self] at e1
        rw [List.getElem?_append_right (by simp; omega),show c.length - (List.take c.length c1).length=0 by simp; omega] at e2
        cases e1; cases e2
        refine ⟨nr,xs,hx,Rels.low (ρ:=ρ1) (fun z hz=>?_) l xs nr rl⟩
        rcases List.mem_append.mp hz with hz | hz
        ·exact sub z hz
        ·rw [List.mem_singleton] at hz; subst hz; exact List.mem_of_getElem? ha
     ·refine ⟨fun j b e=>?_,fun b o e z=>?_⟩
      ·have q:=Xc.pre j b e
       rw [List.getElem?_append_left (List.getElem?_eq_some_iff.mp q).1]; exact q
      ·obtain ⟨h1,h2⟩:=X1.keep b o e z
       refine ⟨h1,fun q=>h2 ?_⟩
       rcases List.mem_append.mp q with q | q
       ·exact sub b q
       ·rw [List.mem_singleton] at q; subst q; exact List.mem_of_getElem? ha
     ·rw [List.getElem?_append_right (by rw [lr]; exact Nat.le_refl _),lr,Nat.sub_self]; rfl
    ·exact p (ρ1.take c.length) H1 (.ref a) Wc Xc ⟨a,xs,rfl,⟨hx,na⟩,Rels.low sub l xs nr rl⟩
   ·exact p.elim
  ·exact p.elim
 ·split at p
  ·rename_i hv
   exact p _ H1 x Wc Xc (Rel.low (fun b h=>List.mem_of_mem_take h) _ _ hv r)
  ·exact p.elim
theorem REnv.start {ρ:List Addr} {H:Hp} {xs:List D} {vs:List V} {N:List Str} (r:Rels K ρ H xs vs):REnv K ρ H (startD N.length xs) (start N vs):=by
 have hl:=r.length
 refine ⟨fun i d h=>?_,by simp [startD,L2.start,hl]⟩
 unfold startD at h
 unfold L2.start
 by_cases hi:i < xs.length
 ·rw [List.getElem?_append_left (by simpa using hi),List.getElem?_map] at h
  cases q:xs[i]? with
  | none=>rw [q] at h; cases h
  | some x =>
   rw [q] at h
   cases h
   obtain ⟨v,hv,rv⟩:=r.get q
   exact ⟨v,by rw [List.getElem?_append_left (by simp [hl]; exact hi),List.getElem?_map,hv]; rfl,rv⟩
 ·rw [List.getElem?_append_right (by simpa using Nat.le_of_not_lt hi)] at h
  have:=List.mem_of_getElem? h
  rw [List.mem_replicate] at this
  cases this.2
theorem fn_ok {x qual:Str} {st:Stmt} {f:Addr} {fd:FuncData} {N ps:List Str} {k n m:Nat} {own:Bool} {d:Ev→List Cell→R Fl} (F:Fun K x qual st f fd) (S:FnScope N ps (defScope st)) (hN:N.length=n) (hm:ps.length=m)
  (hb:∀ (cdv:Value) (A:Around) (outer:List Env) (s:Shared) (H:Hp) (E:XK),Room k (A.deeper (envOfC qual (defScope st) s.heap.objs.size f cdv))→PSsd (cxOf CX0 P w K mg base N qual (defScope st) f cdv A outer s H E).nox (defBody st) d) :
  FnOk P w K mg base CX0 (k + 1) f fd ps (spD K m (fnD n own d)):=by
 subst hN; subst hm
 refine F.ok S (fun vs H Q E h=>?_) (fun cdv A outer s H vs Q E hr h=>⟨_,hb cdv A outer s H E hr,?_⟩)
 ·obtain ⟨ρ,xs,c,W,r,hl,p⟩:=h
  exact r.length.trans hl
 ·obtain ⟨ρ,xs,c,W,r,hl,p⟩:=h
  refine ⟨ρ,startD N.length xs,c,W,REnv.start r,post.bind p fun fl c1 ρ1 H1 b _ W1 X1 r1 p1=>?_⟩
  cases fl with
  | nx e1 =>
   obtain ⟨σ1,rfl,V1⟩:=r1
   exact exit_ok (v:=.non) (x:=.non) (H1:=H1) W W1 X1 rfl (by
    unfold fnD at p; exact id (α:=post K (Rel K) (exitD own c.length .non c1) ρ H Q) (by
     rename_i he; rw [he] at p; exact p))
  | rt d =>
   obtain ⟨v,rfl,V1⟩:=r1
   exact exit_ok (v:=d) (x:=v) (H1:=H1) W W1 X1 V1 (by
    unfold fnD at p; rename_i he; rw [he] at p; exact p)
  | bk e1=>exact p1.elim
  | ct e1=>exact p1.elim
end
end L2
namespace L2
open PySem PySem.Spec PyProof.Rows
section
variable {X:Cx}
theorem pd_fn {x:Str} {st:Stmt} {ps:List Str} {f:Addr} {fd:FuncData} {k n:Nat} {m:List D→List Cell→R D} {e:Expr} {es:List Expr} {da:Ev→List Cell→R (List D)} {p pos:Pos} (D:Def X.K X.mg x st ps f fd) (G:FnOk X.prog X.w X.K X.mg X.base CX0 k f fd ps (spD X.K n m)) (hr:Room k X.A) (ha:PAd X (e :: es) da) (hg:Gl X x:=by rfl)
  (hdb:(x == ("__debug__":Str))=false:=by decide) (he:starEach (e :: es) X.env=(false,eval e X.env) :: starEach es X.env:=by exact starE rfl) (hpl:(backTo pos (starEach es X.env)).any (·.1)=false:=by exact starAny rfl) :
  PEd X (.Call (.Name x p) (e :: es) [] pos) (dCall n m da):=(pe_fn D G hr ha hg hdb he hpl).imp fun σ H Q h=>by
 obtain ⟨ρ,e,c,W,V,q⟩:=h
 refine ⟨ρ,e,c,W,V,post.bind q fun xs c1 ρ1 H1 vs _ W1 X1 r1 p1=>?_⟩
 split at p1
 ·rename_i hl
  exact ⟨ρ1,xs,c1,W1,by rw [List.append_nil]; exact r1,hl,p1⟩
 ·exact p1.elim
theorem pd_callB {id:String} {x:Str} {p pos:Pos} {e:Expr} {es:List Expr} {da:Ev→List Cell→R (List D)} {f:List D→List Cell→R D} (hc:CallR X (.builtin id) (rN X.K f)) (hm:X.mg x=none) (hv:bootBuiltins x=some (.builtin id)) (ha:PAd X (e :: es) da) (hg:Gl X x:=by rfl) (hn:x≠"__name__":=by decide) (hdb:(x == ("__debug__":Str))=false:=by decide)
  (he:starEach (e :: es) X.env=(false,eval e X.env) :: starEach es X.env:=by exact starE rfl) (hpl:(backTo pos (starEach es X.env)).any (·.1)=false:=by exact starAny rfl):PEd X (.Call (.Name x p) (e :: es) [] pos) (dCB f da):=(pe_callB hc hg hm hv ha hn hdb he hpl).imp fun σ H Q h=>t_cb h
theorem pd_callTy {T:String} {x:Str} {p pos:Pos} {e:Expr} {es:List Expr} {da:Ev→List Cell→R (List D)} {f:List D→List Cell→R D} (hc:CallR X (.type T) (rN X.K f)) (hm:X.mg x=none) (hv:bootBuiltins x=some (.type T)) (ha:PAd X (e :: es) da) (hg:Gl X x:=by rfl) (hn:x≠"__name__":=by decide) (hdb:(x == ("__debug__":Str))=false:=by decide)
  (he:starEach (e :: es) X.env=(false,eval e X.env) :: starEach es X.env:=by exact starE rfl) (hpl:(backTo pos (starEach es X.env)).any (·.1)=false:=by exact starAny rfl):PEd X (.Call (.Name x p) (e :: es) [] pos) (dCB f da):=(pe_callTy hc hg hm hv ha hn hdb he hpl).imp fun σ H Q h=>t_cb h
end
noncomputable def lenD:List D→List Cell→R D:=fun xs c=>match xs with
 | [x]=>match seqD c x with
  | some l=>.ok (.int l.length) c
  | none=>match x with
   | .str z=>if z.length≤sizeLine then .ok (.int z.length) c else .bad
   | _=>.bad
 | _=>.bad
noncomputable def tyD:D→Option String
 | .non=>some "NoneType"
 | .bl _=>some "bool"
 | .int _=>some "int"
 | .str _=>some "str"
 | .tup _=>some "tuple"
 | .lst _=>some "list"
 | .ref _=>some "list"
 | _=>none
noncomputable def isiD:List D→List Cell→R D:=fun xs c=>match xs with
 | [.dic,.ty T]=>if T∈["bool","int","str","list","tuple","dict"] then .ok (.bl (subT "dict" T)) c else .bad
 | [x,.ty T]=>match tyD x with
  | some n=>if T∈["bool","int","str","list","tuple","dict"] then .ok (.bl (subT n T)) c else .bad
  | none=>.bad
 | _=>.bad
noncomputable def blsD:List D→Option (List Bool)
 | []=>some []
 | .bl b :: l=>(blsD l).map (b :: ·)
 | _=>none
noncomputable def intsD:List D→Option (List Int)
 | []=>some []
 | .int i :: l=>(intsD l).map (i :: ·)
 | _=>none
theorem blsD_map (l:List Bool):blsD (l.map D.bl)=some l:=by
 induction l with
 | nil=>rfl
 | cons a l ih=>simp [blsD,ih]
theorem intsD_map (l:List Int):intsD (l.map D.int)=some l:=by
 induction l with
 | nil=>rfl
 | cons a l ih=>simp [intsD,ih]
theorem blsD_eq:∀ {l:List D} {bs:List Bool},blsD l=some bs→l=bs.map D.bl
 | [],bs,h=>by cases h; rfl
 | d :: l,bs,h=>by
  cases d with
  | bl b =>
   unfold blsD at h
   cases q:blsD l with
   | none=>rw [q] at h; cases h
   | some r=>rw [q] at h; cases h; rw [blsD_eq q]; rfl
  | _=>cases h
theorem intsD_eq:∀ {l:List D} {bs:List Int},intsD l=some bs→l=bs.map D.int
 | [],bs,h=>by cases h; rfl
 | d :: l,bs,h=>by
  cases d with
  | int b =>
   unfold intsD at h
   cases q:intsD l with
   | none=>rw [q] at h; cases h
   | some r=>rw [q] at h; cases h; rw [intsD_eq q]; rfl
  | _=>cases h
noncomputable def quantD (f:List Bool→Bool):List D→List Cell→R D:=fun xs c=>match xs with
 | [.lst l]=>match blsD l with
  | some bs=>.ok (.bl (f bs)) c
  | none=>.bad
 | _=>.bad
noncomputable def allD:=quantD fun bs=>bs.all id
noncomputable def anyD:=quantD fun bs=>bs.any id
noncomputable def max2D:List D→List Cell→R D:=fun xs c=>match xs with
 | [.int i,.int j]=>.ok (.int (if j > i then j else i)) c
 | _=>.bad
noncomputable def min2D:List D→List Cell→R D:=fun xs c=>match xs with
 | [.int i,.int j]=>.ok (.int (if j < i then j else i)) c
 | _=>.bad
noncomputable def absD:List D→List Cell→R D:=fun xs c=>match xs with
 | [.int i]=>.ok (.int (if i < 0 then -i else i)) c
 | _=>.bad
noncomputable def minL:Int→List Int→Int
 | a,[]=>a
 | a,b :: l=>minL (if b < a then b else a) l
noncomputable def min1D:List D→List Cell→R D:=fun xs c=>match xs with
 | [.tup l]=>match intsD l with
  | some (a :: r)=>.ok (.int (minL a r)) c
  | _=>.bad
 | _=>.bad
noncomputable def tupleD:List D→List Cell→R D:=fun xs c=>match xs with
 | [x]=>match seqD c x with
  | some l=>.ok (.tup l) c
  | none=>.bad
 | _=>.bad
noncomputable def listD:List D→List Cell→R D:=fun xs c=>match xs with
 | [x]=>match seqD c x with
  | some l=>.ok (.lst l) c
  | none=>.bad
 | _=>.bad
section
variable {X:Cx} {K:PySem.W.Frag} {ρ:List Addr} {H:Hp} {c:List Cell}
theorem cd_len:CallR X (.builtin "len") (rN X.K lenD):=by
 intro pins s σ H vs us Q I rv h
 obtain ⟨ρ,xs,c,W,rx,p⟩:=h
 unfold lenD at p
 split at p
 ·rename_i x
  obtain ⟨v,r,rfl,hx,hr⟩:=rx
  cases hr
  split at p
  ·rename_i l hl
   obtain ⟨a,ys,rfl,sq,r⟩:=seqD_ok W hx hl
   exact call_len_seq pins s σ H _ us Q I rv ⟨a,ys,rfl,sq,by rw [r.length]; exact p.here W rfl⟩
  ·split at p
   ·split at p
    ·rename_i hz
     cases hx
     exact call_len_str pins s σ H _ us Q I rv ⟨_,rfl,hz,p.here W rfl⟩
    ·exact p.elim
   ·exact p.elim
 ·exact p.elim
theorem tyD_ok {x:D} {v:V} {n:String} (W:Wd K ρ H c) (rx:Rel K ρ H x v) (h:tyD x=some n):tyName H v n:=by
 cases x with
 | non=>cases rx; cases h; exact rfl
 | bl b=>cases rx; cases h; exact rfl
 | int b=>cases rx; cases h; exact rfl
 | str b=>cases rx; cases h; exact rfl
 | tup l=>obtain ⟨a,xs,rfl,s,r⟩:=rx; cases h; exact .inr (.inl ⟨rfl,xs,s⟩)
 | lst l=>obtain ⟨a,xs,rfl,s,r⟩:=rx; cases h; exact .inl ⟨rfl,.inl ⟨xs,s.1⟩⟩
 | ref k =>
  obtain ⟨a,rfl,s⟩:=rx
  cases h
  obtain ⟨xs,e⟩:=W.at' (List.mem_of_getElem? s)
  exact .inl ⟨rfl,.inl ⟨xs,e⟩⟩
 | _=>cases h
theorem cd_isi:CallR X (.builtin "isinstance") (rN X.K isiD):=by
 intro pins s σ H vs us Q I rv h
 obtain ⟨ρ,xs,c,W,rx,p⟩:=h
 unfold isiD at p
 split at p
 ·split at p
  ·rename_i hT
   obtain ⟨v,r,rfl,⟨a,rfl,hH⟩,u,r',rfl,hu,hr⟩:=rx
   cases hr
   cases hu
   obtain ⟨u1,u2,rfl,r1,r2⟩:=Vals.two rv
   cases r1; cases r2
   obtain ⟨hp,_,_⟩:=I.hok a _ hH
   exact PySem.W.kia_one PySem.W.kitx_dict I.kIn hp (kit_sub (n:="dict") (by simp) hT) (fun z=>nomatch z) fun tk=>⟨.bl _,H,I.tok _,rfl,p.here W rfl⟩
  ·exact p.elim
 ·split at p
  ·rename_i n hn
   split at p
   ·rename_i hT
    obtain ⟨v,r,rfl,hx,u,r',rfl,hu,hr⟩:=rx
    cases hr
    cases hu
    exact call_isinst pins s σ H _ us Q I rv ⟨v,n,_,rfl,tyD_ok W hx hn,hT,p.here W rfl⟩
   ·exact p.elim
  ·exact p.elim
 ·exact p.elim
theorem cd_all (hc:X.calm=true:=by rfl):CallR X (.builtin "all") (rN X.K allD):=by
 intro pins s σ H vs us Q I rv h
 obtain ⟨ρ,xs,c,W,rx,p⟩:=h
 unfold allD quantD at p
 split at p
 ·split at p
  ·rename_i bs hb
   obtain ⟨v,r,rfl,⟨a,ys,rfl,s1,r1⟩,hr⟩:=rx
   cases hr
   rw [blsD_eq hb] at r1
   cases r1.bls_inv
   exact call_allB hc pins s σ H _ us Q I rv ⟨a,bs,rfl,SqL.of s1.1,p.here W rfl⟩
  ·exact p.elim
 ·exact p.elim
theorem cd_any (hc:X.calm=true:=by rfl):CallR X (.builtin "any") (rN X.K anyD):=by
 intro pins s σ H vs us Q I rv h
 obtain ⟨ρ,xs,c,W,rx,p⟩:=h
 unfold anyD quantD at p
 split at p
 ·split at p
  ·rename_i bs hb
   obtain ⟨v,r,rfl,⟨a,ys,rfl,s1,r1⟩,hr⟩:=rx
   cases hr
   rw [blsD_eq hb] at r1
   cases r1.bls_inv
   exact call_anyB hc pins s σ H _ us Q I rv ⟨a,bs,rfl,SqL.of s1.1,p.here W rfl⟩
  ·exact p.elim
 ·exact p.elim
theorem cd_max2 (hc:X.calm=true:=by rfl):CallR X (.builtin "max") (rN X.K max2D):=by
 intro pins s σ H vs us Q I rv h
 obtain ⟨ρ,xs,c,W,rx,p⟩:=h
 unfold max2D at p
 split at p
 ·obtain ⟨v,r,rfl,hx,u,r',rfl,hu,hr⟩:=rx
  cases hr; cases hx; cases hu
  exact call_max2 hc pins s σ H _ us Q I rv ⟨_,_,rfl,p.here W rfl⟩
 ·exact p.elim
theorem cd_tuple:CallR X (.type "tuple") (rN X.K tupleD):=by
 intro pins s σ H vs us Q I rv h
 obtain ⟨ρ,xs,c,W,rx,p⟩:=h
 unfold tupleD at p
 split at p
 ·rename_i x
  obtain ⟨v,r,rfl,hx,hr⟩:=rx
  cases hr
  split at p
  ·rename_i l hl
   obtain ⟨a,ys,rfl,sq,r⟩:=seqD_ok W hx hl
   refine call_tuple_of pins s σ H _ us Q I rv ⟨a,ys,rfl,?_⟩
   rcases sq with sq | sq
   ·exact .inl ⟨sq,new_tup W r p⟩
   ·refine .inr ⟨sq,?_⟩
    cases x with
    | tup m=>cases hl; exact p.here W hx
    | lst m =>
     obtain ⟨b,zs,e,s1,_⟩:=hx
     cases e
     exfalso
     rcases sq with sq | ⟨o,its,n,hk,hcl,_⟩
     ·rcases sq with sq | ⟨o,sq⟩ <;> (rw [s1.1] at sq; cases sq)
     ·have:=I.bs a o (I.ok.mod.kin a o hk)
      rw [s1.1] at this
      cases this.2
    | scr m =>
     exfalso
     obtain ⟨b,e,s1⟩:=hx
     cases e
     obtain ⟨i1,_,pl,_⟩:=I.list s1.sql
     obtain ⟨i2,_,pt,_⟩:=I.tuple sq
     obtain ⟨o1,e1,c1,_⟩:=pl.isList
     obtain ⟨o2,e2,c2,_⟩:=pt
     rw [e1] at e2; cases e2
     rw [c1] at c2
     exact absurd c2 (by decide)
    | ref k =>
     exfalso
     obtain ⟨b,e,s1⟩:=hx
     cases e
     obtain ⟨zs,hz⟩:=W.at' (List.mem_of_getElem? s1)
     rcases sq with sq | ⟨o,its,n,hk,hcl,_⟩
     ·rcases sq with sq | ⟨o,sq⟩ <;> (rw [hz] at sq; cases sq)
     ·have:=I.bs a o (I.ok.mod.kin a o hk)
      rw [hz] at this
      cases this.2
    | _=>cases hl
  ·exact p.elim
 ·exact p.elim
end
noncomputable def dAppend (o a:Ev→List Cell→R D):Ev→List Cell→R D:=fun e c=>(o e c).bind fun x c=>match x with
 | .ref k=>(a e c).bind fun y c=>match c[k]? with
  | some (.lst l)=>if l.length < sizeLine∧noRef y=true then .ok .non (c.set k (.lst (l ++ [y]))) else .bad
  | none=>.bad
 | _=>.bad
theorem pd_append {X:Cx} {o e:Expr} {dO da:Ev→List Cell→R D} {apos cpos:Pos} (ho:PEd X o dO) (ha:PEd X e da)
  (hbase:attributeBase o "append" X.env (eval o X.env)=eval o X.env:=by rfl)
  (hfew:((backTo cpos (starEach [e] X.env)).all (fun x=>!x.1) && (backToKw cpos (keywordEach [] X.env)).all (fun x=>x.1.isSome)
   && decide ([e].length + ([]:List Keyword).length + (if ([]:List Keyword).isEmpty then 0 else 1) < 30))=true:=by exact starFew rfl)
  (hline:(apos.endLine == cpos.line)=true:=by rfl) (hs:starEach [e] X.env=(false,eval e X.env) :: starEach [] X.env:=by exact starE rfl) (hplain:(backTo cpos (starEach [] X.env)).any (·.1)=false:=by exact starAny rfl) :
  PEd X (.Call (.Attribute o "append" apos) [e] [] cpos) (dAppend dO da) :=
 (pe_bm PySem.F.plainAttrs_list PySem.F.slot_list_append PySem.F.type_list_append mt_append ho (pa_cons ha pa_nil hs) hbase hfew hline hs hplain).imp fun σ H Q h=>by
  obtain ⟨ρ,e,c,W,V,p⟩:=h
  refine ⟨ρ,e,c,W,V,post.bind p fun x c1 ρ1 H1 v _ W1 X1 r1 p1=>?_⟩
  cases x with
  | ref k =>
   obtain ⟨a,rfl,ha⟩:=r1
   obtain ⟨xs,hx⟩:=W1.at' (List.mem_of_getElem? ha)
   refine ⟨.inl ⟨rfl,xs,SqL.of hx⟩,ρ1,e,c1,W1,V.mono W X1,post.bind p1 fun y c2 ρ2 H2 u _ W2 X2 r2 p2=>?_⟩
   split at p2
   ·rename_i l hl
    split at p2
    ·rename_i hh
     obtain ⟨nr,ys,hy,rl⟩:=W2.cel k a _ (X2.pre k a ha) hl
     refine ⟨a,ys,u,rfl,rfl,hy,by rw [rl.length]; exact hh.1,?_⟩
     refine p2 ρ2 _ .non (W2.write (X2.pre k a ha) (by rw [noRefs_append,nr]; simp [noRefs,hh.2]) (rl.append ⟨u,[],rfl,r2,rfl⟩)) (Ext.write (X2.pre k a ha)) rfl
    ·exact p2.elim
   ·exact p2.elim
  | _=>exact p1.elim
end L2
namespace L2
open PySem PySem.Spec PyProof.Rows
noncomputable def FnW (P:Program) (w:World) (K:PySem.W.Frag) (mg:Str→Option Value) (base:Heap) (A:Around) (n:Nat) (m:List D→List Cell→R D) (f:Addr):Prop :=
 ∃ k fd ps,FnOk P w K mg base CX0 k f fd ps (spD K n m)∧Room k A∧PySem.W.keepIn K (.ref f)=true∧Binds K fd ps []
noncomputable abbrev FnV (X:Cx) (n:Nat) (m:List D→List Cell→R D) (f:Addr):Prop:=FnW X.prog X.w X.K X.mg X.base X.A n m f
noncomputable def fnsD (xs:List Str):Ev→List Cell→R Src:=fun _ c=>.ok ⟨xs.mapIdx fun i x=>.fn x i,fun _=>True⟩ c
noncomputable def dCallV (i n:Nat) (tbl:List (Str×(List D→List Cell→R D))) (a:Ev→List Cell→R (List D)):Ev→List Cell→R D:=fun e c=>match e[i]? with
 | some (some (.fn x j))=>match tbl[j]? with
  | some (y,m)=>if x=y then (a e c).bind fun xs c=>if xs.length=n then m xs c else .bad else .bad
  | none=>.bad
 | _=>.bad
section
variable {X:Cx} {tg:Expr}
end
noncomputable def eqE:D→D→List Cell→R D:=fun x y c=>match x,y with
 | .lst l,.lst []=>.ok (.bl l.isEmpty) c
 | _,_=>.bad
theorem law_sp {K:PySem.W.Frag} {H:Hp} {a:Addr} {ns:List Int} {m:List D→List Cell→R D} (hO:Only H) (hS:SqL K H a (ns.map V.int)) (h:∃ c,m [.scr ns] []=.ok (.bl true) c):spD K 1 m [.ref a] H (fun v _=>v=.bl true) fun _ _ _=>False:=by
 obtain ⟨c,h⟩:=h
 refine ⟨[],[.scr ns],[],⟨.nil,rfl,fun k a cl e=>by cases e⟩,⟨.ref a,[],rfl,⟨a,rfl,?_⟩,rfl⟩,rfl,?_⟩
 ·rcases hS with hS | hS
  ·exact .inl ⟨hS,by simp⟩
  ·exact .inr (.inr hS)
 ·rw [h]
  exact fun ρ' H' b _ _ r=>r
end L2
namespace L2
open PySem
section
variable (e:Ev) (c:List Cell) (a b d:Ev→List Cell→R D) (ta tb:Ev→List Cell→R Bool) (s t:Ev→List Cell→R Fl) (l:Ev→List Cell→R (List D)) (g:Gd) (gs:List D→Ev→List Cell→R Ev)
@[simp] theorem x_var (i:Nat):dVar i e c=match e[i]? with | some (some d)=>.ok d c | _=>.bad:=rfl
@[simp] theorem x_c (d:D):dC d e c=.ok d c:=rfl
@[simp] theorem x_bin (f:D→D→List Cell→R D):dBin f a b e c=(a e c).bind fun x c=>(b e c).bind fun y c=>f x y c:=rfl
@[simp] theorem x_un (f:D→List Cell→R D):dUn f a e c=(a e c).bind fun x c=>f x c:=rfl
@[simp] theorem x_cb (f:List D→List Cell→R D):dCB f l e c=(l e c).bind fun xs c=>f xs c:=rfl
@[simp] theorem x_chain (f g:D→D→List Cell→R D):dChain f g a b d e c=(a e c).bind fun x c=>(b e c).bind fun y c=>(f x y c).bind fun z c=>match z with
 | .bl true=>(d e c).bind fun u c=>g y u c
 | .bl false=>.ok (.bl false) c
 | _=>.bad:=rfl
@[simp] theorem x_nil:dNil e c=.ok [] c:=rfl
@[simp] theorem x_cons:dCons a l e c=(a e c).bind fun x c=>(l e c).bind fun xs c=>.ok (x :: xs) c:=rfl
@[simp] theorem x_tup:dTup l e c=(l e c).bind fun xs c=>if xs.length≤sizeLine then .ok (.tup xs) c else .bad:=rfl
@[simp] theorem x_lst:dLst l e c=(l e c).bind fun xs c=>if xs.length≤sizeLine then .ok (.lst xs) c else .bad:=rfl
@[simp] theorem x_lstM:dLstM l e c=(l e c).bind fun xs c=>if xs.length≤sizeLine∧noRefs xs=true then .ok (.ref c.length) (c ++ [.lst xs]) else .bad:=rfl
@[simp] theorem x_bl:dBl a e c=(a e c).bind fun x c=>match x with | .bl b=>.ok b c | _=>.bad:=rfl
@[simp] theorem x_tru:dTru a e c=(a e c).bind fun x c=>match truD c x with | some b=>.ok b c | none=>.bad:=rfl
@[simp] theorem x_andT:dAndT ta tb e c=(ta e c).bind fun x c=>if x=true then tb e c else .ok false c:=rfl
@[simp] theorem x_orT:dOrT ta tb e c=(ta e c).bind fun x c=>if x=true then .ok true c else tb e c:=rfl
@[simp] theorem x_notT:dNotT ta e c=(ta e c).bind fun x c=>.ok (!x) c:=rfl
@[simp] theorem x_andV:dAndV a b e c=(a e c).bind fun x c=>match x with | .bl k=>if k=true then b e c else .ok (.bl false) c | _=>.bad:=rfl
@[simp] theorem x_orV:dOrV a b e c=(a e c).bind fun x c=>match x with | .bl k=>if k=true then .ok (.bl true) c else b e c | _=>.bad:=rfl
@[simp] theorem x_notV:dNotV a e c=(a e c).bind fun x c=>match x with | .bl k=>.ok (.bl (!k)) c | _=>.bad:=rfl
@[simp] theorem x_ifE:dIfE ta a b e c=(ta e c).bind fun x c=>if x=true then a e c else b e c:=rfl
@[simp] theorem x_call (n:Nat) (m:List D→List Cell→R D):dCall n m l e c=(l e c).bind fun xs c=>if xs.length=n then m xs c else .bad:=rfl
@[simp] theorem x_next:sNext e c=.ok (.nx e) c:=rfl
@[simp] theorem x_bad:sBad e c=.bad:=rfl
@[simp] theorem x_break:sBreak e c=.ok (.bk e) c:=rfl
@[simp] theorem x_cont:sCont e c=.ok (.ct e) c:=rfl
@[simp] theorem x_seq:sSeq s t e c=(s e c).bind fun f c=>match f with | .nx e=>t e c | f=>.ok f c:=rfl
@[simp] theorem x_ret:sRet a e c=(a e c).bind fun x c=>.ok (.rt x) c:=rfl
@[simp] theorem x_drop:sDrop a e c=(a e c).bind fun _ c=>.ok (.nx e) c:=rfl
@[simp] theorem x_if:sIf ta s t e c=(ta e c).bind fun x c=>if x=true then s e c else t e c:=rfl
@[simp] theorem x_set (i:Nat):sSet i a e c=(a e c).bind fun x c=>.ok (.nx (e.set i (some x))) c:=rfl
@[simp] theorem x_asg:sAsg a g e c=(a e c).bind fun x c=>(g x e c).bind fun e c=>.ok (.nx e) c:=rfl
@[simp] theorem x_gname (i:Nat) (x:D):gdName i x e c=.ok (e.set i (some x)) c:=rfl
@[simp] theorem x_gnil:gdNil [] e c=.ok e c:=rfl
@[simp] theorem x_gcons (x:D) (xs:List D):gdCons g gs (x :: xs) e c=(g x e c).bind fun e c=>gs xs e c:=rfl
@[simp] theorem x_gtup (n:Nat) (xs:List D):gdTup n gs (.tup xs) e c=if xs.length=n then gs xs e c else .bad:=rfl
@[simp] theorem x_gsub (x:D):gdSub a b x e c=(a e c).bind fun o c=>(b e c).bind fun i c=>(setD o i x c).bind fun _ c=>.ok e c:=rfl
@[simp] theorem x_for (sr:Ev→List Cell→R Src):sFor sr g s e c=(sr e c).bind fun q c=>forD q.stays g s q.items e c:=rfl
@[simp] theorem x_fn (n:Nat) (own:Bool) (xs:List D):fnD n own s xs c=(s (startD n xs) c).bind fun f c'=>match f with
 | .rt v=>exitD own c.length v c'
 | .nx _=>exitD own c.length .non c'
 | _=>.bad:=rfl
@[simp] theorem x_start (n:Nat) (xs:List D):startD n xs=xs.map some ++ List.replicate (n - xs.length) none:=rfl
@[simp] theorem x_comp (sr:Ev→List Cell→R Src) (pick:List (Option Nat)):dComp sr pick g ta a e c=(sr e c).bind fun q c =>
 if q.items.length < sizeLine then (compD q.stays g ta a q.items (pickD pick e) [] c).bind fun l c=>.ok (.lst l) c else .bad:=rfl
@[simp] theorem x_yes:dYes e c=.ok true c:=rfl
@[simp] theorem x_add (i j:Int):addD (.int i) (.int j) c=.ok (.int (i + j)) c:=rfl
@[simp] theorem x_addT (x y:List D):addD (.tup x) (.tup y) c=if x.length≠0∧x.length + y.length≤sizeLine then .ok (.tup (x ++ y)) c else .bad:=rfl
@[simp] theorem x_sub (i j:Int):subD (.int i) (.int j) c=.ok (.int (i - j)) c:=rfl
theorem x_mul (i j:Int):mulD (.int i) (.int j) c=if (-(2 ^ 64) < i∧i < 2 ^ 64)∨(-(2 ^ 64) < j∧j < 2 ^ 64) then .ok (.int (i * j)) c else .bad:=rfl
theorem x_div (i j:Int):divD (.int i) (.int j) c=if 0 < j∧j < 1073741824 then .ok (.int (i / j)) c else .bad:=rfl
theorem x_mod (i j:Int):modD (.int i) (.int j) c=if 0 < j then .ok (.int (i % j)) c else .bad:=rfl
theorem x_pow (i j:Int):powD (.int i) (.int j) c=if 0≤j∧j≤1000000∧i.natAbs < 2 ^ 64 then .ok (.int (i ^ j.toNat)) c else .bad:=rfl
@[simp] theorem x_neg (i:Int):negD (.int i) c=.ok (.int (-i)) c:=rfl
@[simp] theorem x_cmp (p:Int→Int→Bool) (i j:Int):cmpD p (.int i) (.int j) c=.ok (.bl (p i j)) c:=rfl
@[simp] theorem x_eqi (i j:Int):eqD (.int i) (.int j) c=.ok (.bl (decide (i=j))) c:=rfl
@[simp] theorem x_nei (i j:Int):neD (.int i) (.int j) c=.ok (.bl (!decide (i=j))) c:=rfl
@[simp] theorem x_eqb (i j:Bool):eqD (.bl i) (.bl j) c=.ok (.bl (decide (i=j))) c:=rfl
@[simp] theorem x_neb (i j:Bool):neD (.bl i) (.bl j) c=.ok (.bl (!decide (i=j))) c:=rfl
@[simp] theorem x_eqs (i j:Str):eqD (.str i) (.str j) c=.ok (.bl (decide (i=j))) c:=rfl
@[simp] theorem x_nes (i j:Str):neD (.str i) (.str j) c=.ok (.bl (!decide (i=j))) c:=rfl
@[simp] theorem x_is (x:D):isD x .non c=.ok (.bl (isN x)) c:=rfl
@[simp] theorem x_isnot (x:D):isNotD x .non c=.ok (.bl (!isN x)) c:=rfl
@[simp] theorem n_non:isN .non=true:=rfl
@[simp] theorem n_bl (b:Bool):isN (.bl b)=false:=rfl
@[simp] theorem n_int (b:Int):isN (.int b)=false:=rfl
@[simp] theorem n_str (b:Str):isN (.str b)=false:=rfl
@[simp] theorem n_tup (b:List D):isN (.tup b)=false:=rfl
@[simp] theorem n_lst (b:List D):isN (.lst b)=false:=rfl
@[simp] theorem x_ixT (xs:List D) (i:Int):ixD (.tup xs) (.int i) c=match atI xs i with | some d=>.ok d c | none=>.bad:=rfl
@[simp] theorem x_ixL (xs:List D) (i:Int):ixD (.lst xs) (.int i) c=match atI xs i with | some d=>.ok d c | none=>.bad:=rfl
@[simp] theorem x_lenT (xs:List D):lenD [.tup xs] c=.ok (.int xs.length) c:=rfl
@[simp] theorem x_lenL (xs:List D):lenD [.lst xs] c=.ok (.int xs.length) c:=rfl
@[simp] theorem x_lenS (xs:List Int):lenD [.scr xs] c=.ok (.int xs.length) c:=by
 show R.ok (D.int ((xs.map D.int).length:Nat)) c=_
 rw [List.length_map]
@[simp] theorem x_max2 (i j:Int):max2D [.int i,.int j] c=.ok (.int (if j > i then j else i)) c:=rfl
@[simp] theorem x_min2 (i j:Int):min2D [.int i,.int j] c=.ok (.int (if j < i then j else i)) c:=rfl
@[simp] theorem x_abs (i:Int):absD [.int i] c=.ok (.int (if i < 0 then -i else i)) c:=rfl
@[simp] theorem r_non:noRef .non=true:=rfl
@[simp] theorem r_bl (b:Bool):noRef (.bl b)=true:=rfl
@[simp] theorem r_int (b:Int):noRef (.int b)=true:=rfl
@[simp] theorem r_str (b:Str):noRef (.str b)=true:=rfl
@[simp] theorem r_tup (b:List D):noRef (.tup b)=noRefs b:=by simp [noRef]
@[simp] theorem r_lst (b:List D):noRef (.lst b)=noRefs b:=by simp [noRef]
@[simp] theorem r_nil:noRefs []=true:=by simp [noRefs]
@[simp] theorem r_cons (d:D) (b:List D):noRefs (d :: b)=(noRef d && noRefs b):=by simp [noRefs]
@[simp] theorem q_bl (own:Bool) (n:Nat) (b:Bool):exitD own n (.bl b) c=.ok (.bl b) (c.take n):=rfl
@[simp] theorem q_non (own:Bool) (n:Nat):exitD own n .non c=.ok .non (c.take n):=rfl
@[simp] theorem q_int (own:Bool) (n:Nat) (b:Int):exitD own n (.int b) c=.ok (.int b) (c.take n):=rfl
@[simp] theorem q_str (own:Bool) (n:Nat) (b:Str):exitD own n (.str b) c=.ok (.str b) (c.take n):=rfl
@[simp] theorem q_tup (own:Bool) (n:Nat) (b:List D):exitD own n (.tup b) c=if noRefs b=true then .ok (.tup b) (c.take n) else .bad:=by
 show (if noRef (.tup b)=true then R.ok (D.tup b) (c.take n) else R.bad)=_
 rw [r_tup]
@[simp] theorem q_lst (own:Bool) (n:Nat) (b:List D):exitD own n (.lst b) c=if noRefs b=true then .ok (.lst b) (c.take n) else .bad:=by
 show (if noRef (.lst b)=true then R.ok (D.lst b) (c.take n) else R.bad)=_
 rw [r_lst]
@[simp] theorem x_rng1:dRng1 l e c=(l e c).bind fun xs c=>match xs with
 | [.int j]=>if -(2 ^ 62)≤j∧j < 2 ^ 62 then .ok ⟨rngD 0 j,fun _=>True⟩ c else .bad
 | _=>.bad:=rfl
@[simp] theorem x_rng2:dRng2 l e c=(l e c).bind fun xs c=>match xs with
 | [.int i,.int j]=>if -(2 ^ 62)≤i∧i < 2 ^ 62∧-(2 ^ 62)≤j∧j < 2 ^ 62 then .ok ⟨rngD i j,fun _=>True⟩ c else .bad
 | _=>.bad:=rfl
@[simp] theorem x_seqS:dSeq a e c=(a e c).bind fun x c=>match x with
 | .lst l=>.ok ⟨l,fun _=>True⟩ c
 | .scr l=>.ok ⟨l.map D.int,fun _=>True⟩ c
 | .ref k=>match c[k]? with
  | some (.lst l)=>.ok ⟨l,fun c=>c[k]? = some (.lst l)⟩ c
  | none=>.bad
 | _=>.bad:=rfl
@[simp] theorem x_seqT:dSeqT a e c=(a e c).bind fun x c=>match x with
 | .tup l=>.ok ⟨l,fun _=>True⟩ c
 | _=>.bad:=rfl
@[simp] theorem x_zip:dZip l e c=(l e c).bind fun xs c=>match xs with
 | [.tup l,.tup m]=>.ok ⟨List.zipWith (fun x y=>.tup [x,y]) l m,fun _=>True⟩ c
 | _=>.bad:=rfl
@[simp] theorem x_callV (i n:Nat) (tbl:List (Str×(List D→List Cell→R D))):dCallV i n tbl l e c=match e[i]? with
 | some (some (.fn x j))=>match tbl[j]? with
  | some (y,m)=>if x=y then (l e c).bind fun xs c=>if xs.length=n then m xs c else .bad else .bad
  | none=>.bad
 | _=>.bad:=rfl
end
section
variable (g:Gd) (s:Ev→List Cell→R Fl) (t:Ev→List Cell→R Bool) (a:Ev→List Cell→R D) (e:Ev) (c:List Cell)
@[simp] theorem for_nil:forD (fun _=>True) g s [] e c=.ok (.nx e) c:=by simp [forD]
@[simp] theorem for_cons (x:D) (xs:List D):forD (fun _=>True) g s (x :: xs) e c=(g x e c).bind fun e c=>(s e c).bind fun f c=>match f with
   | .nx e=>forD (fun _=>True) g s xs e c
   | .ct e=>forD (fun _=>True) g s xs e c
   | .bk e=>.ok (.nx e) c
   | .rt d=>.ok (.rt d) c:=by
 conv=>lhs; unfold forD
 exact if_pos trivial
@[simp] theorem comp_nil (acc:List D):compD (fun _=>True) g t a [] e acc c=.ok acc c:=by simp [compD]
@[simp] theorem comp_cons (x:D) (xs acc:List D):compD (fun _=>True) g t a (x :: xs) e acc c=(g x e c).bind fun e c=>(t e c).bind fun k c=>if k=true then (a e c).bind fun y c=>compD (fun _=>True) g t a xs e (acc ++ [y]) c else compD (fun _=>True) g t a xs e acc c:=by
 conv=>lhs; unfold compD
 exact if_pos trivial
end
@[simp] theorem gz {α:Type} (a:α) (l:List α):(a :: l)[0]? = some a:=rfl
@[simp] theorem gs {α:Type} (a:α) (l:List α) (n:Nat):(a :: l)[n + 1]? = l[n]?:=rfl
@[simp] theorem at0 {α:Type} (a:α) (l:List α):atI (a :: l) 0=some a:=by simp [atI,ixN]
@[simp] theorem at1 {α:Type} (a b:α) (l:List α):atI (a :: b :: l) 1=some b:=by
 unfold atI ixN
 rw [if_pos (by decide),if_pos (by simp; omega)]
 rfl
@[simp] theorem at2 {α:Type} (a b d:α) (l:List α):atI (a :: b :: d :: l) 2=some d:=by
 unfold atI ixN
 rw [if_pos (by decide),if_pos (by simp; omega)]
 rfl
@[simp] theorem at3 {α:Type} (a b d f:α) (l:List α):atI (a :: b :: d :: f :: l) 3=some f:=by
 unfold atI ixN
 rw [if_pos (by decide),if_pos (by simp; omega)]
 rfl
@[simp] theorem at4 {α:Type} (a b d f h:α) (l:List α):atI (a :: b :: d :: f :: h :: l) 4=some h:=by
 unfold atI ixN
 rw [if_pos (by decide),if_pos (by simp; omega)]
 rfl
theorem small_line {n:Nat} (h:n≤1000):n≤sizeLine:=Nat.le_trans h (by decide)
@[simp] theorem sl0:(0:Nat)≤sizeLine:=Nat.zero_le _
@[simp] theorem sl1:(1:Nat)≤sizeLine:=by decide
@[simp] theorem sl2:(2:Nat)≤sizeLine:=by decide
@[simp] theorem sl3:(3:Nat)≤sizeLine:=by decide
@[simp] theorem sl4:(4:Nat)≤sizeLine:=by decide
@[simp] theorem sl5:(5:Nat)≤sizeLine:=by decide
@[simp] theorem sl6:(6:Nat)≤sizeLine:=by decide
@[simp] theorem st0:(0:Nat) < sizeLine:=by decide
@[simp] theorem st1:(1:Nat) < sizeLine:=by decide
@[simp] theorem st2:(2:Nat) < sizeLine:=by decide
@[simp] theorem st3:(3:Nat) < sizeLine:=by decide
@[simp] theorem st4:(4:Nat) < sizeLine:=by decide
@[simp] theorem st5:(5:Nat) < sizeLine:=by decide
@[simp] theorem i_int_int (i:Int) (c:List Cell):isiD [.int i,.ty "int"] c=.ok (.bl true) c:=rfl
@[simp] theorem i_int_bool (i:Int) (c:List Cell):isiD [.int i,.ty "bool"] c=.ok (.bl false) c:=rfl
@[simp] theorem i_int_str (i:Int) (c:List Cell):isiD [.int i,.ty "str"] c=.ok (.bl false) c:=rfl
@[simp] theorem i_int_tuple (i:Int) (c:List Cell):isiD [.int i,.ty "tuple"] c=.ok (.bl false) c:=rfl
@[simp] theorem i_int_list (i:Int) (c:List Cell):isiD [.int i,.ty "list"] c=.ok (.bl false) c:=rfl
@[simp] theorem i_bl_int (i:Bool) (c:List Cell):isiD [.bl i,.ty "int"] c=.ok (.bl true) c:=rfl
@[simp] theorem i_bl_bool (i:Bool) (c:List Cell):isiD [.bl i,.ty "bool"] c=.ok (.bl true) c:=rfl
@[simp] theorem i_bl_str (i:Bool) (c:List Cell):isiD [.bl i,.ty "str"] c=.ok (.bl false) c:=rfl
@[simp] theorem i_bl_tuple (i:Bool) (c:List Cell):isiD [.bl i,.ty "tuple"] c=.ok (.bl false) c:=rfl
@[simp] theorem i_bl_list (i:Bool) (c:List Cell):isiD [.bl i,.ty "list"] c=.ok (.bl false) c:=rfl
@[simp] theorem i_str_int (i:Str) (c:List Cell):isiD [.str i,.ty "int"] c=.ok (.bl false) c:=rfl
@[simp] theorem i_str_bool (i:Str) (c:List Cell):isiD [.str i,.ty "bool"] c=.ok (.bl false) c:=rfl
@[simp] theorem i_str_str (i:Str) (c:List Cell):isiD [.str i,.ty "str"] c=.ok (.bl true) c:=rfl
@[simp] theorem i_str_tuple (i:Str) (c:List Cell):isiD [.str i,.ty "tuple"] c=.ok (.bl false) c:=rfl
@[simp] theorem i_str_list (i:Str) (c:List Cell):isiD [.str i,.ty "list"] c=.ok (.bl false) c:=rfl
@[simp] theorem i_non_int (c:List Cell):isiD [.non,.ty "int"] c=.ok (.bl false) c:=rfl
@[simp] theorem i_non_bool (c:List Cell):isiD [.non,.ty "bool"] c=.ok (.bl false) c:=rfl
@[simp] theorem i_non_str (c:List Cell):isiD [.non,.ty "str"] c=.ok (.bl false) c:=rfl
@[simp] theorem i_non_tuple (c:List Cell):isiD [.non,.ty "tuple"] c=.ok (.bl false) c:=rfl
@[simp] theorem i_non_list (c:List Cell):isiD [.non,.ty "list"] c=.ok (.bl false) c:=rfl
@[simp] theorem i_tup_int (i:List D) (c:List Cell):isiD [.tup i,.ty "int"] c=.ok (.bl false) c:=rfl
@[simp] theorem i_tup_bool (i:List D) (c:List Cell):isiD [.tup i,.ty "bool"] c=.ok (.bl false) c:=rfl
@[simp] theorem i_tup_str (i:List D) (c:List Cell):isiD [.tup i,.ty "str"] c=.ok (.bl false) c:=rfl
@[simp] theorem i_tup_tuple (i:List D) (c:List Cell):isiD [.tup i,.ty "tuple"] c=.ok (.bl true) c:=rfl
@[simp] theorem i_tup_list (i:List D) (c:List Cell):isiD [.tup i,.ty "list"] c=.ok (.bl false) c:=rfl
@[simp] theorem i_lst_int (i:List D) (c:List Cell):isiD [.lst i,.ty "int"] c=.ok (.bl false) c:=rfl
@[simp] theorem i_lst_bool (i:List D) (c:List Cell):isiD [.lst i,.ty "bool"] c=.ok (.bl false) c:=rfl
@[simp] theorem i_lst_str (i:List D) (c:List Cell):isiD [.lst i,.ty "str"] c=.ok (.bl false) c:=rfl
@[simp] theorem i_lst_tuple (i:List D) (c:List Cell):isiD [.lst i,.ty "tuple"] c=.ok (.bl false) c:=rfl
@[simp] theorem i_lst_list (i:List D) (c:List Cell):isiD [.lst i,.ty "list"] c=.ok (.bl true) c:=rfl
section
variable (c:List Cell) {i j:Int}
theorem mul_l (h1:-18446744073709551616 < i) (h2:i < 18446744073709551616):mulD (.int i) (.int j) c=.ok (.int (i * j)) c:=by
 rw [x_mul,if_pos]; exact .inl ⟨by omega,by omega⟩
theorem mul_r (h1:-18446744073709551616 < j) (h2:j < 18446744073709551616):mulD (.int i) (.int j) c=.ok (.int (i * j)) c:=by
 rw [x_mul,if_pos]; exact .inr ⟨by omega,by omega⟩
theorem div_c (h1:0 < j) (h2:j < 1073741824):divD (.int i) (.int j) c=.ok (.int (i / j)) c:=by
 rw [x_div,if_pos ⟨h1,h2⟩]
theorem mod_c (h1:0 < j):modD (.int i) (.int j) c=.ok (.int (i % j)) c:=by
 rw [x_mod,if_pos h1]
theorem pow_c (h1:0≤j) (h2:j≤1000000) (h3:i.natAbs < 18446744073709551616):powD (.int i) (.int j) c=.ok (.int (i ^ j.toNat)) c:=by
 rw [x_pow,if_pos ⟨h1,h2,h3⟩]
end
section
variable {g:Gd} {s:Ev→List Cell→R Fl} {t:Ev→List Cell→R Bool} {a:Ev→List Cell→R D}
theorem comp_pure {c:List Cell} (inv:Ev→Prop) (F:D→Bool) (G:D→D):∀ (items:List D) (e:Ev) (acc:List D),inv e →
  (∀ x∈items,∀ e,inv e→∃ e',g x e c=.ok e' c∧inv e'∧t e' c=.ok (F x) c∧(F x=true→a e' c=.ok (G x) c)) →
  compD (fun _=>True) g t a items e acc c=.ok (acc ++ (items.filter F).map G) c
 | [],e,acc,_,_=>by simp
 | x :: xs,e,acc,hi,h=>by
  obtain ⟨e',h1,h2,h3,h4⟩:=h x List.mem_cons_self e hi
  rw [comp_cons,h1,R.bind_ok,h3,R.bind_ok]
  cases hF:F x with
  | true =>
   rw [if_pos rfl,h4 hF,R.bind_ok,comp_pure inv F G xs e' _ h2 fun y hy=>h y (List.mem_cons_of_mem _ hy)]
   simp [hF]
  | false =>
   rw [if_neg Bool.false_ne_true,comp_pure inv F G xs e' _ h2 fun y hy=>h y (List.mem_cons_of_mem _ hy)]
   simp [hF]
theorem for_find {c:List Cell} (inv:Ev→Prop) (P:D→Option D):∀ (items:List D) (e:Ev),inv e →
  (∀ x∈items,∀ e,inv e→∃ e' e'',g x e c=.ok e' c∧inv e''∧s e' c=match P x with | none=>.ok (.nx e'') c | some v=>.ok (.rt v) c) →
  match items.findSome? P with | none=>∃ e',inv e'∧forD (fun _=>True) g s items e c=.ok (.nx e') c | some v=>forD (fun _=>True) g s items e c=.ok (.rt v) c
 | [],e,hi,_=>⟨e,hi,by simp⟩
 | x :: xs,e,hi,h=>by
  obtain ⟨e',e'',h1,h2,h3⟩:=h x List.mem_cons_self e hi
  have ih:=for_find inv P xs e'' h2 fun y hy=>h y (List.mem_cons_of_mem _ hy)
  rw [List.findSome?_cons,for_cons,h1,R.bind_ok,h3]
  cases hP:P x with
  | some v=>simp
  | none=>simpa using ih
theorem for_any (inv:Ev→Prop):∀ (items:List D) (e:Ev) (c:List Cell),inv e →
  (∀ x∈items,∀ e c,inv e→∃ e' e'' c' c'',g x e c=.ok e' c'∧s e' c'=.ok (.nx e'') c''∧inv e'') →
  ∃ e' c',inv e'∧forD (fun _=>True) g s items e c=.ok (.nx e') c'
 | [],e,c,hi,_=>⟨e,c,hi,by simp⟩
 | x :: xs,e,c,hi,h=>by
  obtain ⟨e',e'',c',c'',h1,h2,h3⟩:=h x List.mem_cons_self e c hi
  obtain ⟨e3,c3,i3,h4⟩:=for_any inv xs e'' c'' h3 fun y hy=>h y (List.mem_cons_of_mem _ hy)
  exact ⟨e3,c3,i3,by rw [for_cons,h1,R.bind_ok,h2]; exact h4⟩
theorem for_inv (inv:Ev→List Cell→Prop):∀ (items:List D) (e:Ev) (c:List Cell),inv e c →
  (∀ x∈items,∀ e c,inv e c→∃ e' e'' c' c'',g x e c=.ok e' c'∧s e' c'=.ok (.nx e'') c''∧inv e'' c'') →
  ∃ e' c',inv e' c'∧forD (fun _=>True) g s items e c=.ok (.nx e') c'
 | [],e,c,hi,_=>⟨e,c,hi,by simp⟩
 | x :: xs,e,c,hi,h=>by
  obtain ⟨e',e'',c',c'',h1,h2,h3⟩:=h x List.mem_cons_self e c hi
  obtain ⟨e3,c3,i3,h4⟩:=for_inv inv xs e'' c'' h3 fun y hy=>h y (List.mem_cons_of_mem _ hy)
  exact ⟨e3,c3,i3,by rw [for_cons,h1,R.bind_ok,h2]; exact h4⟩
end
theorem mem_rng {lo hi:Int} {d:D} (h:d∈rngD lo hi):∃ i:Int,d=.int i∧lo≤i∧i < hi:=by
 unfold rngD at h
 obtain ⟨k,hk,rfl⟩:=List.mem_map.mp h
 have:=List.mem_range.mp hk
 exact ⟨lo + k,rfl,by omega,by omega⟩
theorem rng_mem {lo hi i:Int} (h1:lo≤i) (h2:i < hi):D.int i∈rngD lo hi:=by
 unfold rngD
 refine List.mem_map.mpr ⟨(i - lo).toNat,List.mem_range.mpr (by omega),?_⟩
 congr 1
 omega
theorem rng_len {lo hi:Int}:(rngD lo hi).length=(hi - lo).toNat:=by simp [rngD]
end L2
namespace L2
open PySem PySem.Spec PyProof.Rows
noncomputable def lstD (c:List Cell):D→Option (List D)
 | .lst l=>some l
 | .ref k=>match c[k]? with
  | some (.lst l)=>some l
  | none=>none
 | _=>none
noncomputable def stayD (c:List Cell):D→List Cell→Prop
 | .ref k=>fun c'=>c'[k]? = c[k]?
 | _=>fun _=>True
noncomputable def catD:D→D→List Cell→R D:=fun x y c=>match lstD c x,lstD c y with
 | some l,some m=>if l.length + m.length≤sizeLine then .ok (.lst (l ++ m)) c else .bad
 | _,_=>.bad
noncomputable def cutD (xs:List D) (lo hi:Option Int):List D:=(xs.drop (HT.sIx xs.length 0 lo)).take (HT.sIx xs.length xs.length hi - HT.sIx xs.length 0 lo)
noncomputable def dSl (a:Ev→List Cell→R D) (lo hi:Ev→List Cell→R (Option Int)):Ev→List Cell→R D:=fun e c=>(a e c).bind fun x c=>(lo e c).bind fun l c=>(hi e c).bind fun u c=>match lstD c x with
 | some xs=>.ok (.lst (cutD xs l u)) c
 | none=>.bad
noncomputable def dNoP:Ev→List Cell→R (Option Int):=fun _ c=>.ok none c
noncomputable def dPart (a:Ev→List Cell→R D):Ev→List Cell→R (Option Int):=fun e c=>(a e c).bind fun x c=>match x with
 | .int i=>.ok (some i) c
 | _=>.bad
noncomputable def dZip2 (a:Ev→List Cell→R (List D)):Ev→List Cell→R Src:=fun e c=>(a e c).bind fun xs c=>match xs with
 | [.tup l,.tup m]=>.ok ⟨List.zipWith (fun x y=>.tup [x,y]) l m,fun _=>True⟩ c
 | [x,y]=>match lstD c x,lstD c y with
  | some l,some m=>.ok ⟨List.zipWith (fun x y=>.tup [x,y]) l m,fun c'=>stayD c x c'∧stayD c y c'⟩ c
  | _,_=>.bad
 | _=>.bad
section
variable {X:Cx} {K:PySem.W.Frag} {ρ ρ':List Addr} {H H':Hp} {c c':List Cell}
theorem lstD_ok {x:D} {v:V} {l:List D} (W:Wd K ρ H c) (rx:Rel K ρ H x v) (h:lstD c x=some l):∃ a xs,v=.ref a∧H a=some (.lst xs)∧Rels K ρ H l xs:=by
 cases x with
 | lst m =>
  cases h
  obtain ⟨a,xs,e,s,r⟩:=rx
  exact ⟨a,xs,e,s.1,r⟩
 | ref k =>
  obtain ⟨a,e,s⟩:=rx
  unfold lstD at h
  dsimp only at h
  cases hc:c[k]? with
  | none=>rw [hc] at h; cases h
  | some cl =>
   cases cl with
   | lst m =>
    rw [hc] at h; cases h
    obtain ⟨_,xs,hx,r⟩:=W.cel k a _ s hc
    exact ⟨a,xs,e,hx,r⟩
 | _=>cases h
theorem lstD_later {x:D} {v:V} {l:List D} (W:Wd K ρ H c) (W':Wd K ρ' H' c') (E:Ext ρ H ρ' H') (rx:Rel K ρ H x v) (h:lstD c x=some l) (st:stayD c x c') {a:Addr} (e:v=.ref a):∃ xs,SqL K H' a xs∧Rels K ρ' H' l xs:=by
 have rx':=Rel.mono W E x v rx
 have h':lstD c' x=some l:=by
  cases x with
  | lst m=>exact h
  | ref k =>
   have st:c'[k]? = c[k]?:=st
   unfold lstD at h ⊢
   dsimp only at h ⊢
   rw [st]; exact h
  | _=>cases h
 obtain ⟨b,xs,e2,hx,r⟩:=lstD_ok W' rx' h'
 rw [e] at e2; cases e2
 exact ⟨xs,SqL.of hx,r⟩
theorem od_cat:OpR X (binaryOp .Add) (r2 X.K catD):=by
 intro pins s σ H v u vv uu Q I rv ru h
 obtain ⟨ρ,x,y,c,W,rx,ry,p⟩:=h
 unfold catD at p
 split at p
 ·rename_i l m hl hm
  split at p
  ·rename_i hz
   obtain ⟨a,xs,rfl,ha,ra⟩:=lstD_ok W rx hl
   obtain ⟨b,ys,rfl,hb,rb⟩:=lstD_ok W ry hm
   exact op_cat pins s σ H _ _ vv uu Q I rv ru ⟨a,b,xs,ys,rfl,rfl,ha,hb,by rw [ra.length,rb.length]; exact hz,new_lst W (ra.append rb) p⟩
  ·exact p.elim
 ·exact p.elim
noncomputable abbrev POd (X:Cx) (e:Option Expr) (d:Ev→List Cell→R (Option Int)):Prop:=PO X e (tD X.K (fun _ _ a b=>a=b) d)
theorem PI.or {tg iter:Expr} {t t':TI} (h:PI X tg iter t) (h':PI X tg iter t'):PI X tg iter (fun σ H R=>t σ H R∨t' σ H R):=fun pins s σ H R I q=>q.elim (h pins s σ H R I) (h' pins s σ H R I)
theorem js_zipL {l m:List D} {a b:Addr} {st:List Cell→Prop} (h:∀ ρ' H' c',Wd K ρ' H' c'→Ext ρ H ρ' H'→st c'→∃ xs ys,SqL K H' a xs∧SqL K H' b ys∧Rels K ρ' H' l xs∧Rels K ρ' H' m ys):JS K ρ H ⟨List.zipWith (fun x y=>.tup [x,y]) l m,st⟩ (Itz (SqL K) a b):=by
 intro ρ' H' c' W E s i
 obtain ⟨xs,ys,q1,q2,r1,r2⟩:=h ρ' H' c' W E s
 refine ⟨fun d hd=>?_,fun e=>⟨xs,ys,q1,q2,?_⟩⟩
 ·have hd:(List.zipWith (fun x y=>D.tup [x,y]) l m)[i]? = some d:=hd
  rw [List.getElem?_zipWith] at hd
  cases e1:l[i]? with
  | none=>rw [e1] at hd; cases hd
  | some x =>
   cases e2:m[i]? with
   | none=>rw [e1,e2] at hd; cases hd
   | some y =>
    rw [e1,e2] at hd
    cases hd
    obtain ⟨v,hv,rv⟩:=r1.get e1
    obtain ⟨u,hu,ru⟩:=r2.get e2
    refine ⟨⟨xs,ys,v,u,q1,q2,hv,hu⟩,fun z H2 hz=>?_⟩
    obtain ⟨t,v',u',rfl,ht,rfl,hz⟩:=hz
    obtain ⟨z1,z2⟩:=hz xs ys q1 q2
    rw [hv] at z1; rw [hu] at z2
    cases z1; cases z2
    exact ⟨W.fresh ht,Ext.fresh W ht,t,[v,u],rfl,upd_same,v,[u],rfl,Rel.mono W (Ext.fresh W ht) _ _ rv,u,[],rfl,Rel.mono W (Ext.fresh W ht) _ _ ru,rfl⟩
 ·have e:i=(List.zipWith (fun x y=>D.tup [x,y]) l m).length:=e
  rw [List.length_zipWith] at e
  rw [r1.length,r2.length]
  omega
theorem id_zip2 {es:List Expr} {k:Nat} {pt:Pos} {a b:Expr} {da:Ev→List Cell→R (List D)} {p pos:Pos} (ha:PAd X [a,b] da) (hm:X.mg "zip"=none) (hg:Gl X "zip":=by rfl) (hs:starEach [a,b] X.env=[(false,eval a X.env),(false,eval b X.env)]:=by exact star2 rfl rfl) (hs2:starEach [b] X.env=[(false,eval b X.env)]:=by exact star1 rfl) :
  PId X (.Tuple es k pt) (.Call (.Name "zip" p) [a,b] [] pos) (dZip2 da):=((pi_zipT hg hm ha hs hs2).or (pi_zipL hg hm ha hs hs2)).imp fun σ H Q h=>by
 obtain ⟨ρ,e,c,W,Vv,p⟩:=h
 cases hd:da e c with
 | bad=>unfold dZip2 at p; rw [hd] at p; exact p.elim
 | ok xs c1 =>
  have p0:=p
  unfold dZip2 at p0
  rw [hd,R.bind_ok] at p0
  split at p0
  ·left
   refine ⟨ρ,e,c,W,Vv,?_⟩
   rw [hd]
   intro ρ1 H1 vs W1 X1 r1
   obtain ⟨y,ys,rfl,ry,z,zs,rfl,rz,rs⟩:=r1
   cases rs
   obtain ⟨a1,xs,rfl,s1,t1⟩:=ry
   obtain ⟨a2,ys,rfl,s2,t2⟩:=rz
   exact ⟨a1,a2,rfl,⟨xs,ys,SqT.of s1,SqT.of s2⟩,post.here (post.ext p0 X1) W1 (js_zip fun ρ' H' c' W' E _=>⟨xs,ys,SqT.of (tup_mono W1 E s1),SqT.of (tup_mono W1 E s2),Rels.mono W1 E _ _ t1,Rels.mono W1 E _ _ t2⟩)⟩
  ·rename_i x y _
   split at p0
   ·rename_i l m hl hm'
    right
    refine ⟨ρ,e,c,W,Vv,?_⟩
    rw [hd]
    intro ρ1 H1 vs W1 X1 r1
    obtain ⟨v,ys,rfl,ry,u,zs,rfl,rz,rs⟩:=r1
    cases rs
    obtain ⟨a1,xs,rfl,s1,t1⟩:=lstD_ok W1 ry hl
    obtain ⟨a2,ys,rfl,s2,t2⟩:=lstD_ok W1 rz hm'
    refine ⟨a1,a2,rfl,⟨xs,ys,SqL.of s1,SqL.of s2⟩,post.here (post.ext p0 X1) W1 (js_zipL fun ρ' H' c' W' E st=>?_)⟩
    obtain ⟨xs',q1,q2⟩:=lstD_later W1 W' E ry hl st.1 rfl
    obtain ⟨ys',q3,q4⟩:=lstD_later W1 W' E rz hm' st.2 rfl
    exact ⟨xs',ys',q1,q3,q2,q4⟩
   ·exact p0.elim
  ·exact p0.elim
end
section
variable (e:Ev) (c:List Cell) (a:Ev→List Cell→R D) (lo hi:Ev→List Cell→R (Option Int)) (l:Ev→List Cell→R (List D))
@[simp] theorem x_sl:dSl a lo hi e c=(a e c).bind fun x c=>(lo e c).bind fun l c=>(hi e c).bind fun u c=>match lstD c x with
 | some xs=>.ok (.lst (cutD xs l u)) c
 | none=>.bad:=rfl
@[simp] theorem x_nop:dNoP e c=.ok none c:=rfl
@[simp] theorem x_part:dPart a e c=(a e c).bind fun x c=>match x with
 | .int i=>.ok (some i) c
 | _=>.bad:=rfl
@[simp] theorem x_zip2:dZip2 l e c=(l e c).bind fun xs c=>match xs with
 | [.tup l,.tup m]=>.ok ⟨List.zipWith (fun x y=>.tup [x,y]) l m,fun _=>True⟩ c
 | [x,y]=>match lstD c x,lstD c y with
  | some l,some m=>.ok ⟨List.zipWith (fun x y=>.tup [x,y]) l m,fun c'=>stayD c x c'∧stayD c y c'⟩ c
  | _,_=>.bad
 | _=>.bad:=rfl
@[simp] theorem l_lst (x:List D):lstD c (.lst x)=some x:=rfl
end
section
variable {g:Gd} {s:Ev→List Cell→R Fl} {t:Ev→List Cell→R Bool} {a:Ev→List Cell→R D}
theorem append_here {dO da:Ev→List Cell→R D} {e:Ev} {c:List Cell} {acc:List D} {y:D} (ho:dO e (c ++ [.lst acc])=.ok (.ref c.length) (c ++ [.lst acc])) (ha:da e (c ++ [.lst acc])=.ok y (c ++ [.lst acc])) (hy:noRef y=true) (hl:acc.length + 1≤1000000) :
  dAppend dO da e (c ++ [.lst acc])=.ok .non (c ++ [.lst (acc ++ [y])]):=by
 have h1:acc.length < sizeLine:=Nat.lt_of_lt_of_le (by omega:acc.length < 1000000) (by decide)
 unfold dAppend
 rw [ho,R.bind_ok]
 dsimp only
 rw [ha,R.bind_ok]
 have e1:(c ++ [Cell.lst acc])[c.length]? = some (.lst acc):=by simp
 have e2:(c ++ [Cell.lst acc]).set c.length (.lst (acc ++ [y]))=c ++ [.lst (acc ++ [y])]:=by simp
 rw [e1]
 dsimp only
 rw [if_pos ⟨h1,hy⟩,e2]
end
end L2
namespace L2
open PySem PySem.Spec PyProof.Rows
mutual
noncomputable def datD:D→Option PyData
 | .non=>some .none
 | .bl b=>some (.bool b)
 | .int i=>some (.int i)
 | .str x=>if PyData.strOk x=true then some (.str x) else none
 | .tup l=>match datDs l with
  | some r=>some (.tuple r)
  | none=>none
 | .lst l=>match datDs l with
  | some r=>some (.list r)
  | none=>none
 | .ty _=>none
 | .ref _=>none
 | .scr _=>none
 | .fn _ _=>none
 | .exc _=>none
 | .dic=>none
noncomputable def datDs:List D→Option (List PyData)
 | []=>some []
 | d :: l=>match datD d,datDs l with
  | some a,some r=>some (a :: r)
  | _,_=>none
end
noncomputable def datC (c:List Cell):D→Option PyData
 | .ref k=>match c[k]? with
  | some (.lst l)=>match datDs l with
   | some r=>some (.list r)
   | none=>none
  | none=>none
 | d=>datD d
noncomputable def eqvD:D→D→List Cell→R D:=fun x y c=>match datC c x,datC c y with
 | some p,some q=>if p.depth≤64∧q.depth≤64 then .ok (.bl (p.eqv q)) c else .bad
 | _,_=>.bad
noncomputable def nevD:D→D→List Cell→R D:=fun x y c=>match datC c x,datC c y with
 | some p,some q=>if p.depth≤64∧q.depth≤64 then .ok (.bl (!p.eqv q)) c else .bad
 | _,_=>.bad
noncomputable def inD:D→D→List Cell→R D:=fun x y c=>match datC c x,datC c y with
 | some p,some (.list ys)=>if p.depth≤62 then .ok (.bl (ys.any fun z=>z.eqv p)) c else .bad
 | some p,some (.tuple ys)=>if p.depth≤62 then .ok (.bl (ys.any fun z=>z.eqv p)) c else .bad
 | _,_=>.bad
noncomputable def notInD:D→D→List Cell→R D:=fun x y c=>match datC c x,datC c y with
 | some p,some (.list ys)=>if p.depth≤62 then .ok (.bl (!ys.any fun z=>z.eqv p)) c else .bad
 | some p,some (.tuple ys)=>if p.depth≤62 then .ok (.bl (!ys.any fun z=>z.eqv p)) c else .bad
 | _,_=>.bad
section
variable {X:Cx} {pins:List (Addr×Obj)} {σ:St} {ρ:List Addr} {H:Hp} {s:Shared} {c:List Cell}
mutual
theorem rel_reads (I:Inv X pins σ H s):∀ (d:D) (v:V) (u:Value) (p:PyData),Rel X.K ρ H d v→RelV v u→datD d=some p→(∃ as,Reads s.heap u p as)∧p.canLay0=true
 | .non,v,u,p,r,ru,e=>by
  cases r; cases ru; cases e
  exact ⟨⟨_,.none⟩,by simp [PyData.canLay0]⟩
 | .bl b,v,u,p,r,ru,e=>by
  cases r; cases ru; cases e
  exact ⟨⟨_,.bool b⟩,by simp [PyData.canLay0]⟩
 | .int i,v,u,p,r,ru,e=>by
  cases r; obtain ⟨t,rfl⟩:=ru; cases e
  exact ⟨⟨_,.int i t⟩,by simp [PyData.canLay0]⟩
 | .str x,v,u,p,r,ru,e=>by
  cases r; obtain ⟨t,rfl⟩:=ru
  unfold datD at e
  split at e
  ·rename_i hx
   cases e
   exact ⟨⟨_,.str x t⟩,by simpa [PyData.canLay0] using hx⟩
  ·cases e
 | .tup l,v,u,p,r,ru,e=>by
  obtain ⟨a,xs,rfl,ha,rs⟩:=r
  cases ru
  unfold datD at e
  split at e
  ·rename_i q hq
   cases e
   obtain ⟨its,vs,⟨o,h1,h2,n,h3⟩,_⟩:=I.tuple (SqT.of ha)
   obtain ⟨⟨as,ra⟩,hc⟩:=rels_reads I l xs its q rs vs hq
   exact ⟨⟨_,.tuple h1 h2 h3 (by simpa using ra)⟩,by simpa [PyData.canLay0] using hc⟩
  ·cases e
 | .lst l,v,u,p,r,ru,e=>by
  obtain ⟨a,xs,rfl,ha,rs⟩:=r
  cases ru
  unfold datD at e
  split at e
  ·rename_i q hq
   cases e
   obtain ⟨its,vs,pl,_⟩:=I.list (SqL.of ha.1)
   obtain ⟨o,h1,h2,n,h3⟩:=pl.isList
   obtain ⟨⟨as,ra⟩,hc⟩:=rels_reads I l xs its q rs vs hq
   exact ⟨⟨_,.list h1 h2 h3 (by simpa using ra)⟩,by simpa [PyData.canLay0] using hc⟩
  ·cases e
 | .ty _,v,u,p,r,ru,e=>by simp [datD] at e
 | .ref _,v,u,p,r,ru,e=>by simp [datD] at e
 | .scr _,v,u,p,r,ru,e=>by simp [datD] at e
 | .fn _ _,v,u,p,r,ru,e=>by simp [datD] at e
 | .exc _,v,u,p,r,ru,e=>by simp [datD] at e
 | .dic,v,u,p,r,ru,e=>by simp [datD] at e
theorem rels_reads (I:Inv X pins σ H s):∀ (l:List D) (vs:List V) (us:List Value) (ps:List PyData),Rels X.K ρ H l vs→Vals vs us→datDs l=some ps→(∃ as,ReadsAll s.heap us ps as)∧PyData.canLayAll0 ps=true
 | [],vs,us,ps,r,ru,e=>by
  cases r; cases ru; cases e
  exact ⟨⟨_,.nil⟩,by simp [PyData.canLayAll0]⟩
 | d :: l,vs,us,ps,r,ru,e=>by
  obtain ⟨x,xs,rfl,r1,r2⟩:=r
  cases ru with
  | cons q1 q2 =>
   unfold datDs at e
   split at e
   ·rename_i a r e1 e2
    cases e
    obtain ⟨⟨as,ra⟩,ca⟩:=rel_reads I d x _ a r1 q1 e1
    obtain ⟨⟨bs,rb⟩,cb⟩:=rels_reads I l xs _ r r2 q2 e2
    exact ⟨⟨_,.cons ra rb⟩,by simp [PyData.canLayAll0,ca,cb]⟩
   ·cases e
end
theorem relC_reads (I:Inv X pins σ H s) (W:Wd X.K ρ H c) {d:D} {v:V} {u:Value} {p:PyData} (r:Rel X.K ρ H d v) (ru:RelV v u) (e:datC c d=some p):(∃ as,Reads s.heap u p as)∧p.canLay0=true:=by
 cases d with
 | ref k =>
  unfold datC at e
  dsimp only at e
  cases hc:c[k]? with
  | none=>rw [hc] at e; cases e
  | some cl =>
   cases cl with
   | lst l =>
    rw [hc] at e
    dsimp only at e
    split at e
    ·rename_i q hq
     cases e
     obtain ⟨a,rfl,s1⟩:=r
     cases ru
     obtain ⟨_,xs,hx,rs⟩:=W.cel k a _ s1 hc
     obtain ⟨its,vs,pl,_⟩:=I.list (SqL.of hx)
     obtain ⟨o,h1,h2,n,h3⟩:=pl.isList
     obtain ⟨⟨as,ra⟩,hc⟩:=rels_reads I l xs its q rs vs hq
     exact ⟨⟨_,.list h1 h2 h3 (by simpa using ra)⟩,by simpa [PyData.canLay0] using hc⟩
    ·cases e
 | non=>exact rel_reads I _ v u p r ru e
 | bl b=>exact rel_reads I _ v u p r ru e
 | int b=>exact rel_reads I _ v u p r ru e
 | str b=>exact rel_reads I _ v u p r ru e
 | tup b=>exact rel_reads I _ v u p r ru e
 | lst b=>exact rel_reads I _ v u p r ru e
 | ty b=>exact rel_reads I _ v u p r ru e
 | scr b=>exact rel_reads I _ v u p r ru e
 | fn b n=>exact rel_reads I _ v u p r ru e
 | exc b=>exact rel_reads I _ v u p r ru e
 | dic=>exact rel_reads I _ v u p r ru e
theorem od_nev (hu:X.A.units + 64 < cLine):OpR X (compareOp .NotEq) (r2 X.K nevD):=by
 intro pins s σ H v u vv uu Q I rv ru h
 obtain ⟨ρ,x,y,c,W,rx,ry,p⟩:=h
 unfold nevD at p
 split at p
 ·rename_i a b ha hb
  split at p
  ·rename_i hd
   obtain ⟨⟨as,ra⟩,ca⟩:=relC_reads I W rx rv ha
   obtain ⟨⟨bs,rb⟩,cb⟩:=relC_reads I W ry ru hb
   exact PySem.SeqAt.compareNe_shaped ra rb (by simp [PySem.SeqAt.shaped,ca,hd.1]) (by simp [PySem.SeqAt.shaped,cb,hd.2]) hu ⟨.bl _,H,I,rfl,p.here W rfl⟩
  ·exact p.elim
 ·exact p.elim
theorem in_room {A:Around} {p:PyData} {ys:List PyData} (hu:A.units + 64 < cLine) (hd:p.depth≤62):A.units + 1 + min (PyData.depthAll ys) p.depth < cLine:=by
 have:=Nat.min_le_right (PyData.depthAll ys) p.depth
 omega
theorem od_in (hu:X.A.units + 64 < cLine):OpR X (compareOp .In) (r2 X.K inD):=by
 intro pins s σ H v u vv uu Q I rv ru h
 obtain ⟨ρ,x,y,c,W,rx,ry,p⟩:=h
 unfold inD at p
 split at p
 ·rename_i a ys ha hb
  split at p
  ·rename_i hd
   obtain ⟨⟨as,ra⟩,ca⟩:=relC_reads I W rx rv ha
   obtain ⟨⟨bs,rb⟩,cb⟩:=relC_reads I W ry ru hb
   exact PySem.SeqAt.in_list_reads rb ra (by simpa [PyData.canLay0] using cb) ca (in_room hu hd) ⟨.bl _,H,I,rfl,p.here W rfl⟩
  ·exact p.elim
 ·rename_i a ys ha hb
  split at p
  ·rename_i hd
   obtain ⟨⟨as,ra⟩,ca⟩:=relC_reads I W rx rv ha
   obtain ⟨⟨bs,rb⟩,cb⟩:=relC_reads I W ry ru hb
   exact PySem.SeqAt.in_tuple_reads rb ra (by simpa [PyData.canLay0] using cb) ca (in_room hu hd) ⟨.bl _,H,I,rfl,p.here W rfl⟩
  ·exact p.elim
 ·exact p.elim
theorem od_notin (hu:X.A.units + 64 < cLine):OpR X (compareOp .NotIn) (r2 X.K notInD):=by
 intro pins s σ H v u vv uu Q I rv ru h
 obtain ⟨ρ,x,y,c,W,rx,ry,p⟩:=h
 unfold notInD at p
 split at p
 ·rename_i a ys ha hb
  split at p
  ·rename_i hd
   obtain ⟨⟨as,ra⟩,ca⟩:=relC_reads I W rx rv ha
   obtain ⟨⟨bs,rb⟩,cb⟩:=relC_reads I W ry ru hb
   exact PySem.SeqAt.notIn_list_reads rb ra (by simpa [PyData.canLay0] using cb) ca (in_room hu hd) ⟨.bl _,H,I,rfl,p.here W rfl⟩
  ·exact p.elim
 ·rename_i a ys ha hb
  split at p
  ·rename_i hd
   obtain ⟨⟨as,ra⟩,ca⟩:=relC_reads I W rx rv ha
   obtain ⟨⟨bs,rb⟩,cb⟩:=relC_reads I W ry ru hb
   exact PySem.SeqAt.notIn_tuple_reads rb ra (by simpa [PyData.canLay0] using cb) ca (in_room hu hd) ⟨.bl _,H,I,rfl,p.here W rfl⟩
  ·exact p.elim
 ·exact p.elim
end
theorem hu64 {A:Around} {k:Nat} (hr:Room k A):A.units + 64 < cLine:=by have:=hr.un; omega
section
variable (c:List Cell)
@[simp] theorem dat_non:datD .non=some .none:=by simp only [datD]
@[simp] theorem dat_bl (b:Bool):datD (.bl b)=some (.bool b):=by simp only [datD]
@[simp] theorem dat_int (i:Int):datD (.int i)=some (.int i):=by simp only [datD]
@[simp] theorem dats_nil:datDs []=some []:=by simp only [datDs]
end
end L2
namespace L2
open PySem PySem.Spec PyProof.Rows
noncomputable def Flies (K:PySem.W.Frag) (H:Hp) (l:List Env) (x:Str) (h₀:Heap) (H₀:Hp) (e:Value) (h:Heap):Prop :=
 ∃ ea C t B,e=.ref ea∧PySem.W.nsIn K mainGlobals x=some (some (.ref C))∧Heap.FlyingW B l ea (.ref C) (.ref t) h∧(∀ b u,H b=some u→∃ o,B.get? b=some o) ∧
  (∀ b o,h₀.get? b=some o→b∉frs l→∃ o',B.get? b=some o')∧∀ b o,h₀.get? b=some o→H₀ b=none→b∉frs l→B.get? b=some o
noncomputable def CXE (P:Program) (w:World) (K:PySem.W.Frag):CXT:=fun outer H s E e s'=>∃ x H',s'.os=s.os∧AllBare s'.gens∧Un (frs outer) [] H H' s.heap s'.heap∧HOk P w H' s'.heap∧Flies K H' outer x s.heap H e s'.heap∧E (.str x 0) none H'
noncomputable def AccA (X:Cx) (x:Str) (H2:Hp):Prop :=
 ∀ pins σ H1 s1 e s2,Inv X pins σ H1 s1→s2.os=s1.os→AllBare s2.gens→Un (frs X.stack) [] H1 H2 s1.heap s2.heap→HOk X.prog X.w H2 s2.heap→Flies X.K H2 X.stack x s1.heap H1 e s2.heap→X.xe e s2
noncomputable def AccX (X:Cx) (x:Str) (H2:Hp):Prop:=AccA X x H2 ∧
 (∀ pins σ s ea C args h',Inv X pins σ H2 s→PySem.W.nsIn X.K mainGlobals x=some (some (.ref C))→Heap.MadeExcOf s.heap h' ea (.ref C) args→X.xe (.ref ea) { s with heap:=h' })
theorem pass_accA {X:Cx}:Passes (CXE X.prog X.w X.K) X fun v _ H'=>∀ x,v=.str x 0→AccA X x H':=by
 intro pins σ H s e s' I h
 obtain ⟨x,H',h1,h2,h3,h4,h5,h6⟩:=h
 exact h6 x rfl pins σ H s e s' I h1 h2 h3 h4 h5
theorem objOk_get {P:Program} {w:World} {H:Hp} {h:Heap} {a:Addr} {o:HO} (x:ObjOk P w H h a o):∃ u,h.get? a=some u:=by
 cases o with
 | lst xs=>obtain ⟨_,_,_,_,e⟩:=x; exact ⟨_,e⟩
 | tup xs=>obtain ⟨_,_,_,_,e,_⟩:=x; exact ⟨_,e⟩
 | dK kvs=>obtain ⟨_,_,_,_,o,_,_,e,_⟩:=x; exact ⟨_,e⟩
 | dT kvs=>obtain ⟨_,_,_,_,o,_,_,e,_⟩:=x; exact ⟨_,e⟩
 | set S n=>obtain ⟨o,_,_,_,e,_⟩:=x; exact ⟨_,e⟩
 | ins C dx fs=>obtain ⟨_,_,_,e,_⟩:=x; exact ⟨_,e⟩
 | own y=>obtain ⟨_,e⟩:=x; exact ⟨_,e⟩
 | xd fs=>obtain ⟨_,⟨_,_,_,e,_⟩,_⟩:=x; exact ⟨_,e⟩
 | rng lo hi=>obtain ⟨_,_,_,e⟩:=x; exact ⟨_,e⟩
 | frz ob u=>obtain ⟨e,_⟩:=x; exact ⟨_,e⟩
 | tbl ps=>exact ⟨_,(show h.get? a=some _ from x)⟩
 | met f y=>exact ⟨_,(show h.get? a=some _ from x)⟩
 | ext φ=>obtain ⟨_,⟨_,e⟩,_⟩:=x; exact ⟨_,e⟩
section
variable {P:Program} {w:World} {K:PySem.W.Frag} {mg:Str→Option Value} {base:Heap} {N:List Str} {qual:Str} {scope:Scope} {f:Addr} {cd:Value} {A:Around} {outer:List Env} {s:Shared} {H:Hp} {E:XK}
theorem hok_kept {H:Hp} {h h' B:Heap} (x:HOk P w H h) (st:B.StaysIn h') (sh:∀ b o,B.get? b=some o→h.get? b=some o) (trk:∀ b u,H b=some u→∃ o,B.get? b=some o):HOk P w H h':=fun a o e=>by
 refine (x a o e).stay (fun b u hb q=>?_) (fun _ q=>q) fun _ _ q=>q
 have hb':∃ u',H b=some u':=by
  rcases hb with rfl | hb
  ·exact ⟨_,e⟩
  ·exact ⟨_,hb⟩
 obtain ⟨u',hu⟩:=hb'
 obtain ⟨o',ho⟩:=trk b u' hu
 have:=sh b o' ho
 rw [q] at this
 cases this
 exact st b _ ho
theorem leave_made {pins:List (Addr×Obj)} {σ:St} {H1:Hp} {s1:Shared} {x:Str} {C ea:Addr} {args:List Value} {h':Heap} (I:Inv (cxOf (CXE P w K) P w K mg base N qual scope f cd A outer s H E) pins σ H1 s1) (hn:PySem.W.nsIn K mainGlobals x=some (some (.ref C)))
  (hx:Heap.MadeExcOf s1.heap h' ea (.ref C) args) (hE:E (.str x 0) none H1):(cxOf (CXE P w K) P w K mg base N qual scope f cd A outer s H E).xe (.ref ea) { s1 with heap:=h' }:=by
 have hfr:(A.deeper (envOfC qual scope s.heap.objs.size f cd)).frames=some (envOfC qual scope s.heap.objs.size f cd :: outer):=I.ok.frames
 have hst:=I.stack
 have hsF:=I.stkFree
 have hb:=I.base
 have hfs:frs (envOfC qual scope s.heap.objs.size f cd :: outer)=s.heap.objs.size :: frs outer:=rfl
 have nex:∀ b:Addr,b∉(cxOf (CXE P w K) P w K mg base N qual scope f cd A outer s H E).ex:=fun b z=>absurd (show b∈([]:List Addr) from z) (by simp)
 let as:=frs (envOfC qual scope s.heap.objs.size f cd :: outer)
 have hin:∀ env∈(envOfC qual scope s.heap.objs.size f cd :: outer),∀ a,env.frame=some a→a∈as:=fun env he b hb=>List.mem_filterMap.mpr ⟨env,he,hb⟩
 have hF:s1.heap.FunFrames (PySem.W.hideAll s1.heap as) (envOfC qual scope s.heap.objs.size f cd :: outer):=PySem.W.funFrames_hide hst hin
 show wpAny (model P w) (A.deeper (envOfC qual scope s.heap.objs.size f cd)) (leaving (envOfC qual scope s.heap.objs.size f cd) (.ref ea)) _ _ _
 refine wpAny_leaves_madeW (base:=PySem.W.hideAll s1.heap as) hfr rfl (fun b o q=>PySem.W.of_hideAll _ q) hF hx fun h'' t fl _ _ up=>?_
 have inB:∀ b o,s1.heap.get? b=some o→b∉as→(PySem.W.hideAll s1.heap as).get? b=some o:=fun b o q n=>PySem.W.hideAll_get _ q n
 have st:(PySem.W.hideAll s1.heap as).StaysIn h'':=fl.1
 have old:∀ b o,s.heap.get? b=some o→b∉frs outer→b∉as:=fun b o q n m=>by
  have m:b∈s.heap.objs.size :: frs outer:=m
  rcases List.mem_cons.mp m with e | m
  ·exact absurd (Heap.lt_size q) (by rw [e]; exact Nat.lt_irrefl _)
  ·exact n m
 have trk:∀ b u,H1 b=some u→∃ o,(PySem.W.hideAll s1.heap as).get? b=some o:=fun b u e=>by
  have hna:b∉as:=fun m=>by rw [hsF b m] at e; cases e
  have hlt:=(I.hok b u e).lt
  obtain ⟨o,ho⟩:∃ o,s1.heap.get? b=some o:=by
   have:=(I.hok b u e)
   exact objOk_get this
  exact ⟨o,inB b o ho hna⟩
 refine ⟨x,H1,I.os,I.bare,⟨fun b o q n nf _=>?_,fun b o q n hf _=>?_,fun b o q n hx'=>hb.free b o q n hx',fun b o q hx'=>?_,hb.tups,hb.frzs,hb.tbls⟩,hok_kept I.hok st (fun b o q=>PySem.W.of_hideAll _ q) trk,⟨ea,C,t,_,rfl,hn,fl,trk,fun b o q n=>?_,fun b o q n nf=>?_⟩,hE⟩
 ·exact st b o (inB b o (hb.keep b o q n nf (nex b)) (old b o q nf))
 ·obtain ⟨sl,e1⟩:=hb.slot b o q n hf (nex b)
  have hm:b∈as:=List.mem_cons_of_mem _ hf
  obtain ⟨_,o2,ho2,hd2⟩:=hst.mem hm
  rw [e1] at ho2; cases ho2
  obtain ⟨sl2,e2⟩:=up b _ (hx.keeps _ _ e1) hd2
  exact ⟨sl2,e2⟩
 ·obtain ⟨o1,e1⟩:=hb.there b o q (nex b)
  by_cases hm:b∈as
  ·obtain ⟨_,o2,ho2,hd2⟩:=hst.mem hm
   obtain ⟨sl2,e2⟩:=up b _ (hx.keeps _ _ ho2) hd2
   exact ⟨_,e2⟩
  ·exact ⟨_,st b _ (inB b _ e1 hm)⟩
 ·obtain ⟨o1,e1⟩:=hb.there b o q (nex b)
  exact ⟨o1,inB b o1 e1 (old b o q n)⟩
 ·exact inB b o (hb.keep b o q n nf (nex b)) (old b o q nf)
theorem leave_on {pins:List (Addr×Obj)} {σ:St} {H1 H2:Hp} {s1 s2:Shared} {x:Str} {e:Value} (I:Inv (cxOf (CXE P w K) P w K mg base N qual scope f cd A outer s H E) pins σ H1 s1) (hos:s2.os=s1.os) (hba:AllBare s2.gens)
  (un:Un (frs (envOfC qual scope s.heap.objs.size f cd :: outer)) [] H1 H2 s1.heap s2.heap) (hok:HOk P w H2 s2.heap) (fly:Flies K H2 (envOfC qual scope s.heap.objs.size f cd :: outer) x s1.heap H1 e s2.heap) (hE:E (.str x 0) none H2) :
  (cxOf (CXE P w K) P w K mg base N qual scope f cd A outer s H E).xe e s2:=by
 obtain ⟨ea,C,t,B,rfl,hn,fl,trk,old,eq⟩:=fly
 have hfr:(A.deeper (envOfC qual scope s.heap.objs.size f cd)).frames=some (envOfC qual scope s.heap.objs.size f cd :: outer):=I.ok.frames
 have hst:=I.stack
 have hb:=I.base
 have nex:∀ b:Addr,b∉(cxOf (CXE P w K) P w K mg base N qual scope f cd A outer s H E).ex:=fun b z=>absurd (show b∈([]:List Addr) from z) (by simp)
 let as:=frs (envOfC qual scope s.heap.objs.size f cd :: outer)
 have olds:∀ b o,s.heap.get? b=some o→b∉frs outer→b∉as:=fun b o q n m=>by
  have m:b∈s.heap.objs.size :: frs outer:=m
  rcases List.mem_cons.mp m with e | m
  ·exact absurd (Heap.lt_size q) (by rw [e]; exact Nat.lt_irrefl _)
  ·exact n m
 have sh:∀ b o,B.get? b=some o→s2.heap.get? b=some o:=fl.1
 have fr2:=fl.2.2.1
 show wpAny (model P w) (A.deeper (envOfC qual scope s.heap.objs.size f cd)) (leaving (envOfC qual scope s.heap.objs.size f cd) (.ref ea)) _ _ _
 refine wpAny_leaves_onW hfr rfl fl fun h'' fl2 up=>?_
 have st:B.StaysIn h'':=fl2.1
 have I':s2.os=s.os:=hos.trans I.os
 have frame:∀ b,b∈as→∃ o,s2.heap.get? b=some o∧∀ vs,o.data≠.fields vs:=fun b hm=>(fr2.mem hm).2
 refine ⟨x,H2,I',hba,⟨fun b o q n nf _=>?_,fun b o q n hf _=>?_,fun b o q n _=>?_,fun b o q _=>?_,fun b xs q=>un.tups b xs (hb.tups b xs q),fun b o u q=>un.frzs b o u (hb.frzs b o u q),fun b ps q=>?_⟩,hok_kept hok st sh trk,⟨ea,C,t,B,rfl,hn,fl2,trk,fun b o q n=>?_,fun b o q n nf=>?_⟩,hE⟩
 ·exact st b o (eq b o (hb.keep b o q n nf (nex b)) (hb.free b o q n (nex b)) (olds b o q nf))
 ·obtain ⟨sl,e1⟩:=hb.slot b o q n hf (nex b)
  have hm:b∈as:=List.mem_cons_of_mem _ hf
  obtain ⟨sl2,e2⟩:=un.slot b _ e1 (hb.free b o q n (nex b)) hm (by simp)
  obtain ⟨o3,ho3,hd3⟩:=frame b hm
  rw [e2] at ho3; cases ho3
  obtain ⟨sl4,e4⟩:=up b _ e2 hd3
  exact ⟨sl4,e4⟩
 ·obtain ⟨o1,e1⟩:=hb.there b o q (nex b)
  exact un.free b o1 e1 (hb.free b o q n (nex b)) (by simp)
 ·obtain ⟨o1,e1⟩:=hb.there b o q (nex b)
  by_cases hm:b∈as
  ·obtain ⟨o3,ho3,hd3⟩:=frame b hm
   obtain ⟨sl4,e4⟩:=up b _ ho3 hd3
   exact ⟨_,e4⟩
  ·obtain ⟨o2,e2⟩:=old b o1 e1 hm
   exact ⟨_,st b _ e2⟩
 ·obtain ⟨m1,q1⟩:=hb.tbls b ps q
  obtain ⟨m2,q2⟩:=un.tbls b _ q1
  exact ⟨m1 ++ m2,by rw [q2,Array.append_assoc]⟩
 ·obtain ⟨o1,e1⟩:=hb.there b o q (nex b)
  exact old b o1 e1 (olds b o q n)
 ·exact eq b o (hb.keep b o q n nf (nex b)) (hb.free b o q n (nex b)) (olds b o q nf)
theorem acc_def {x:Str} {H2:Hp} (hE:E (.str x 0) none H2):AccX (cxOf (CXE P w K) P w K mg base N qual scope f cd A outer s H E) x H2 :=
 ⟨fun pins σ H1 s1 e s2 I h1 h2 h3 h4 h5=>leave_on I h1 h2 h3 h4 h5 hE,fun pins σ s1 ea C args h' I hn hx=>leave_made I hn hx hE⟩
end
section
variable {X:Cx}
theorem ps_raise {x:Str} {C:Addr} {B newId initId:String} {bm:List Value} {txt:Str} {j:Nat} {np cpos pos tpos:Pos} {t:TS} (hn:PySem.W.nsIn X.K mainGlobals x=some (some (.ref C))) (hm:X.mg x=some (.ref C)) (hO:∀ h,X.K.In h→OwnCls x C bm newId X.mg h) (FB:ExcBaseFacts B newId initId bm) (hc:X.calm=true)
  (ht:∀ D σ H,t D σ H→AccX X x H) (hg:Gl X x:=by rfl) (hd:(x == ("__debug__":Str))=false:=by decide):PS X (.Raise (some (.Call (.Name x np) [.Constant (.str txt) j tpos] [] cpos)) none pos) t:=by
 intro pins s σ H D I h
 have acc:=ht D σ H h
 obtain ⟨tl,N,nm,q,bs,hdct,sn,sub,ab,col,dd,k0,k1,k2,k3,k5,mN,hC,hN,hni,T⟩:=(hO s.heap I.kIn).obj
 refine wpAny_Raise_call_subT (C:=C) (nm:=nm) (q:=q) (N:=N) (bs:=bs) (bm:=tl) (hdct:=hdct) (sn:=sn) (sub:=sub) (ab:=ab) (col:=col) (dd:=dd) (k0:=k0) (k1:=k1) (k2:=k2) (k3:=k3) (k5:=k5)
  FB (mN:=mN) (T.hasType FB.hasBase) (I.ok.hd hc) (by rfl) hni (ld_glob I hg hm ⟨rfl,?_⟩ hd)
 have hs:starEach [Expr.Constant (.str txt) j tpos] X.env=[(false,eval (.Constant (.str txt) j tpos) X.env)]:=by simp only [starEach]
 rw [hs]
 refine Calls.evalArgs_plain ?_
 show wpAny _ _ (spliced ((false,eval (Expr.Constant (.str txt) j tpos) X.env) :: [])) _ _ _
 refine Calls.spliced_cons (Calls.Constant_str ?_)
 refine Calls.spliced_nil ?_
 refine ⟨rfl,by show 1≤sizeLine; decide,hC,hN,T,fun h' e hx=>?_⟩
 exact acc.2 pins σ _ e C _ h' (I.tok _) hn hx
end
end L2
namespace L2
open PySem PySem.Spec PyProof.Rows
noncomputable abbrev Xd:=Ev→List Cell→R Str
noncomputable def tXD (X:Cx) (P:Str→Hp→Prop) (d:Xd):St→Hp→Prop:=fun σ H=>tD X.K (fun _ _ a b=>a=b) d σ H P
noncomputable abbrev PSx (X:Cx) (P:Str→Hp→Prop) (st:Stmt) (d:Xd):Prop:=PS X st fun _ σ H=>tXD X P d σ H
noncomputable abbrev PSsx (X:Cx) (P:Str→Hp→Prop) (st:List Stmt) (d:Xd):Prop:=PSs X st fun _ σ H=>tXD X P d σ H
noncomputable abbrev PEx (X:Cx) (P:Str→Hp→Prop) (e:Expr) (d:Xd):Prop:=PE X e fun σ H _=>tXD X P d σ H
noncomputable def spX (K:PySem.W.Frag) (n:Nat) (m:List D→List Cell→R Str):Sp:=fun vs H _ E=>∃ ρ xs c,Wd K ρ H c∧Rels K ρ H xs vs∧xs.length=n∧post K (fun _ _ a b=>a=b) (m xs c) ρ H fun x H'=>E (.str x 0) none H'
noncomputable def fnX (n:Nat) (d:Xd):List D→List Cell→R Str:=fun xs c=>(d (startD n xs) c).bind fun x c'=>.ok x (c'.take c.length)
noncomputable def xOr (a b:Xd):Xd:=fun e c=>match a e c with
 | .ok x c'=>.ok x c'
 | .bad=>b e c
noncomputable def xSeq (t:Ev→List Cell→R Fl) (u:Xd):Xd:=fun e c=>(t e c).bind fun f c=>match f with
 | .nx e=>u e c
 | _=>.bad
noncomputable def xIf (t:Ev→List Cell→R Bool) (a b:Xd):Xd:=fun e c=>(t e c).bind fun k c=>if k=true then a e c else b e c
noncomputable def xCls (x:Str):Xd:=fun _ c=>.ok x c
noncomputable def xBad:Xd:=fun _ _=>.bad
noncomputable def xCall (n:Nat) (m:List D→List Cell→R Str) (a:Ev→List Cell→R (List D)):Xd:=fun e c=>(a e c).bind fun xs c=>if xs.length=n then m xs c else .bad
section
variable {X:Cx} {P:Str→Hp→Prop} {st:Stmt} {sts rest:List Stmt} {e:Expr} {a b d u:Xd} {t:Ev→List Cell→R Fl} {pos:Pos}
theorem PS.nox {st:Stmt} {t:TS} (h:PS X.nox st t):PS X st t:=fun pins s σ H D I hw =>
 wpAny_mono (h pins s σ H D (I.wish _) hw) (fun _ _ q=>q.unwish) fun _ _ z=>False.elim z
theorem PA.nox {es:List Expr} {t:TA} (h:PA X.nox es t):PA X es t:=fun pos pins s σ H Q I hw =>
 wpAny_mono (h pos pins s σ H Q (I.wish _) hw) (fun _ _ ⟨v,H',I',r,q⟩=>⟨v,H',I'.unwish,r,q⟩) fun _ _ z=>False.elim z
theorem xd_or (ha:PSsx X P sts a) (hb:PSsx X P sts b):PSsx X P sts (xOr a b):=fun pins s σ H D I h=>by
 obtain ⟨ρ,e,c,W,V,p⟩:=h
 unfold xOr at p
 cases q:a e c with
 | ok x c' =>
  rw [q] at p
  exact ha pins s σ H D I ⟨ρ,e,c,W,V,by rw [q]; exact p⟩
 | bad =>
  rw [q] at p
  exact hb pins s σ H D I ⟨ρ,e,c,W,V,p⟩
theorem xd_none:PSsx X P sts xBad:=fun pins s σ H D I h=>by
 obtain ⟨ρ,e,c,W,V,p⟩:=h
 exact p.elim
theorem pss_false:PSs X sts fun _ _ _=>False:=fun _ _ _ _ _ _ h=>h.elim
theorem xd_here (h:PSx X P st d):PSsx X P (st :: rest) d:=(pss_cons h (pss_false (sts:=rest))).imp fun Z σ H q=>q
theorem xd_cons (h1:PSd X.nox st t) (h2:PSsx X P rest u):PSsx X P (st :: rest) (xSeq t u):=(pss_cons (PS.nox h1) h2).imp fun Z σ H h=>by
 obtain ⟨ρ,e,c,W,V,p⟩:=h
 refine ⟨ρ,e,c,W,V,post.bind p fun f c1 ρ1 H1 b _ W1 X1 r1 p1=>?_⟩
 cases f with
 | nx e1=>obtain ⟨σ1,rfl,V1⟩:=r1; exact ⟨ρ1,e1,c1,W1,V1,p1⟩
 | rt d=>exact p1.elim
 | bk e1=>exact p1.elim
 | ct e1=>exact p1.elim
theorem xd_if {c':Expr} {A B:List Stmt} {tc:Ev→List Cell→R Bool} (hc:PTd X.nox c' tc) (ha:PSsx X P A a) (hb:PSsx X P B b):PSx X P (.If c' A B pos) (xIf tc a b):=(ps_if (PT.nox hc) ha hb).imp fun Z σ H h=>by
 obtain ⟨ρ,e,c,W,V,p⟩:=h
 refine ⟨ρ,e,c,W,V,post.bind p fun x c1 ρ1 H1 v _ W1 X1 r1 p1=>?_⟩
 cases r1
 cases x with
 | true=>exact iteT ⟨ρ1,e,c1,W1,V.mono W X1,p1⟩
 | false=>exact iteF ⟨ρ1,e,c1,W1,V.mono W X1,p1⟩
theorem xd_expr (he:PEx X P e d) (hs:swapsWith e none pos.line X.env=pure false:=by rfl):PSx X P (.Expr e pos) d:=(ps_expr he hs).imp fun Z σ H h=>h
theorem xd_ret (he:PEx X P e d):PSx X P (.Return (some e) pos) d:=(ps_ret he).imp fun Z σ H h=>h
structure XCls (K:PySem.W.Frag) (mg:Str→Option Value) (x:Str) (bm:List Value) (newId:String):Prop where
 ex:∃ C,PySem.W.nsIn K mainGlobals x=some (some (.ref C))∧mg x=some (.ref C)∧∀ h,K.In h→OwnCls x C bm newId mg h
theorem xd_raise {x:Str} {B newId initId:String} {bm:List Value} {txt:Str} {j:Nat} {np cpos tpos:Pos} (hC:XCls X.K X.mg x bm newId) (FB:ExcBaseFacts B newId initId bm) (hc:X.calm=true:=by rfl) (hg:Gl X x:=by rfl) (hd:(x == ("__debug__":Str))=false:=by decide) :
  PSx X (AccX X) (.Raise (some (.Call (.Name x np) [.Constant (.str txt) j tpos] [] cpos)) none pos) (xCls x):=by
 obtain ⟨C,hn,hm,hO⟩:=hC.ex
 refine ps_raise hn hm hO FB hc (fun Z σ H h=>?_) hg hd
 obtain ⟨ρ,e,c,W,V,p⟩:=h
 exact p.here W rfl
theorem xd_call {x:Str} {st:Stmt} {ps:List Str} {f:Addr} {fd:FuncData} {k n:Nat} {m:List D→List Cell→R Str} {e:Expr} {es:List Expr} {da:Ev→List Cell→R (List D)} {p:Pos} (D:Def X.K X.mg x st ps f fd) (G:FnOk X.prog X.w X.K X.mg X.base (CXE X.prog X.w X.K) k f fd ps (spX X.K n m)) (hr:Room k X.A) (ha:PAd X.nox (e :: es) da) (hx:∀ x H',P x H'→AccA X x H':=by first | exact fun _ _ h=>h.1 | exact fun _ _ h=>h) (hg:Gl X x:=by rfl)
  (hdb:(x == ("__debug__":Str))=false:=by decide) (he:starEach (e :: es) X.env=(false,eval e X.env) :: starEach es X.env:=by exact starE rfl) (hpl:(backTo pos (starEach es X.env)).any (·.1)=false:=by exact starAny rfl) :
  PEx X P (.Call (.Name x p) (e :: es) [] pos) (xCall n m da) :=
 (pe_call G hr hg D.at' D.fn.kp D.bd .nil (pass_accA (X:=X)) (PA.nox ha) hdb he hpl).imp fun σ H Q h=>by
  obtain ⟨ρ,e,c,W,V,q⟩:=h
  refine ⟨ρ,e,c,W,V,post.bind q fun xs c1 ρ1 H1 vs _ W1 X1 r1 p1=>?_⟩
  split at p1
  ·rename_i hl
   refine ⟨ρ1,xs,c1,W1,by rw [List.append_nil]; exact r1,hl,post.mono p1 fun x H' acc y hy=>?_⟩
   cases hy
   exact hx _ _ acc
  ·exact p1.elim
end
section
variable {P:Program} {w:World} {K:PySem.W.Frag} {mg:Str→Option Value} {base:Heap}
theorem fn_raises {x qual:Str} {st:Stmt} {f:Addr} {fd:FuncData} {N ps:List Str} {k n m:Nat} {d:Xd} (F:Fun K x qual st f fd) (S:FnScope N ps (defScope st)) (hN:N.length=n) (hm:ps.length=m)
  (hb:∀ (cdv:Value) (A:Around) (outer:List Env) (s:Shared) (H:Hp) (E:XK),Room k (A.deeper (envOfC qual (defScope st) s.heap.objs.size f cdv))→PSsx (cxOf (CXE P w K) P w K mg base N qual (defScope st) f cdv A outer s H E) (AccX (cxOf (CXE P w K) P w K mg base N qual (defScope st) f cdv A outer s H E)) (defBody st) d) :
  FnOk P w K mg base (CXE P w K) (k + 1) f fd ps (spX K m (fnX n d)):=by
 subst hN; subst hm
 obtain ⟨oc,od,kV,doc,pm,an,cdv,ct,osl,rfl,lk,hcd⟩:=F.ex
 refine fn_of lk hcd S (fun vs H Q E h=>?_) fun A outer s H vs Q E hr h=>⟨_,hb cdv A outer s H E hr,?_⟩
 ·obtain ⟨ρ,xs,c,W,r,hl,p⟩:=h
  exact r.length.trans hl
 ·obtain ⟨ρ,xs,c,W,r,hl,p⟩:=h
  refine ⟨ρ,startD N.length xs,c,W,REnv.start r,post.bind p fun y c1 ρ1 H1 b _ W1 X1 r1 p1=>?_⟩
  cases r1
  refine acc_def ?_
  have hn:=Ext.len W W1 X1
  have p0:=p
  unfold fnX at p0
  rename_i he
  rw [he,R.bind_ok] at p0
  exact p0 (ρ1.take c.length) H1 _ (W1.cut hn) (X1.cut (Nat.le_of_eq W.len)) rfl
end
end L2
namespace L2
open PySem PySem.Spec PyProof.Rows
noncomputable abbrev Cx.held (X:Cx) (e:Value):Cx:={ X with A:=X.A.mark (some e),calm:=false,xe:=fun _ _=>False }
noncomputable abbrev Cx.tried (X:Cx) (W:Value→Shared→Prop) (pn:List (Addr×Obj)):Cx:={ X with xe:=W,pn:=pn }
section
variable {X:Cx} {pins pins':List (Addr×Obj)} {σ:St} {H H1 H2:Hp} {s s1 s2:Shared}
theorem Cx.Ok.held (ok:X.Ok) (e:Value):(X.held e).Ok :=
 ⟨ok.mod,ok.kind,ok.glob,ok.blt,ok.above,ok.inj,ok.has,ok.cab,(fun z=>by cases z),ok.frames,ok.stk,ok.exf,ok.bs,ok.bsz,ok.noex,ok.exfs,ok.funs,ok.frf⟩
theorem Cx.Ok.tried (ok:X.Ok) (W:Value→Shared→Prop) (pn:List (Addr×Obj)):(X.tried W pn).Ok :=
 ⟨ok.mod,ok.kind,ok.glob,ok.blt,ok.above,ok.inj,ok.has,ok.cab,ok.hd,ok.frames,ok.stk,ok.exf,ok.bs,ok.bsz,ok.noex,ok.exfs,ok.funs,ok.frf⟩
theorem Cx.Ok.untried {W:Value→Shared→Prop} {pn:List (Addr×Obj)} (ok:(X.tried W pn).Ok):X.Ok :=
 ⟨ok.mod,ok.kind,ok.glob,ok.blt,ok.above,ok.inj,ok.has,ok.cab,ok.hd,ok.frames,ok.stk,ok.exf,ok.bs,ok.bsz,ok.noex,ok.exfs,ok.funs,ok.frf⟩
theorem Inv.held (I:Inv X pins σ H s) (e:Value):Inv (X.held e) pins σ H s:=⟨I.ok.held e,I.os,I.bare,I.base,I.loc,I.cell,I.free,I.freeC,I.pin,I.hok,I.len⟩
theorem Inv.unheld {e:Value} (I:Inv (X.held e) pins σ H s) (ok:X.Ok):Inv X pins σ H s:=⟨ok,I.os,I.bare,I.base,I.loc,I.cell,I.free,I.freeC,I.pin,I.hok,I.len⟩
theorem Inv.tried (I:Inv X pins σ H s) (W:Value→Shared→Prop):Inv (X.tried W (X.pn ++ pins)) [] σ H s:=⟨I.ok.tried W _,I.os,I.bare,I.base,I.loc,I.cell,I.free,I.freeC,fun p hp=>I.pin p (by simpa using hp),I.hok,I.len⟩
theorem Inv.untried {W:Value→Shared→Prop} (I:Inv (X.tried W (X.pn ++ pins)) pins' σ H s):Inv X pins σ H s:=⟨I.ok.untried,I.os,I.bare,I.base,I.loc,I.cell,I.free,I.freeC,fun p hp=>I.pin p (List.mem_append_left _ hp),I.hok,I.len⟩
theorem fs_stack (ok:X.Ok) {b:Addr} (h:b∈X.fs):b∈frs X.stack:=by
 rcases ok.stk with e | ⟨e,hf⟩
 ·rw [e]; exact h
 ·rw [e]
  unfold frs
  rw [List.filterMap_cons,hf]
  exact List.mem_cons_of_mem _ h
theorem land {ea C:Addr} {t:Addr} {B h':Heap} (I:Inv X pins σ H1 s1) (hos:s2.os=s1.os) (hba:AllBare s2.gens) (un:Un (frs X.stack) [] H1 H2 s1.heap s2.heap) (hok:HOk X.prog X.w H2 s2.heap)
  (fl0:Heap.FlyingW B X.stack ea (.ref C) (.ref t) s2.heap) (fl:Heap.FlyingW B X.stack ea (.ref C) (.ref t) h') (up:s2.heap.UpToSlots h') (trk:∀ b u,H2 b=some u→∃ o,B.get? b=some o)
  (old:∀ b o,s1.heap.get? b=some o→b∉frs X.stack→∃ o',B.get? b=some o') (eq:∀ b o,s1.heap.get? b=some o→H1 b=none→b∉frs X.stack→B.get? b=some o) :
  H2 ea=none∧Inv X pins σ (upd H2 ea (.ext (excP ea C))) { s2 with heap:=h' }:=by
 have st:B.StaysIn h':=fl.1
 have hne:B.get? ea=none:=fl.2.1
 have hfree:H2 ea=none:=by
  cases q:H2 ea with
  | none=>rfl
  | some u=>obtain ⟨o,ho⟩:=trk ea u q; rw [hne] at ho; cases ho
 obtain ⟨oe,he,hc⟩:=fl.there
 have hfld:∃ vs,oe.data=.fields vs:=by
  obtain ⟨ob,ws,h1,h2,h3,_⟩:=fl.first
  rw [he] at h1; cases h1
  exact ⟨_,h3⟩
 have hstk:∀ b∈frs X.stack,b≠ea:=fun b hb e=>by
  subst e
  obtain ⟨_,o,ho,hd⟩:=fl.2.2.1.mem hb
  rw [he] at ho; cases ho
  obtain ⟨vs,q⟩:=hfld
  exact hd vs q
 have hs1:s1.heap.get? ea=none:=by
  cases q:s1.heap.get? ea with
  | none=>rfl
  | some o =>
   obtain ⟨o',ho'⟩:=old ea o q fun m=>hstk ea m rfl
   rw [hne] at ho'; cases ho'
 have ne1:∀ b o,s1.heap.get? b=some o→b≠ea:=fun b o q e=>by subst e; rw [hs1] at q; cases q
 have neT:∀ b u,H1 b=some u→b≠ea:=fun b u q=>by
  obtain ⟨o,ho⟩:=objOk_get (I.hok b u q)
  exact ne1 b o ho
 have hok':HOk X.prog X.w H2 h':=hok_kept hok st fl0.1 trk
 have hokN:HOk X.prog X.w (upd H2 ea (.ext (excP ea C))) h':=fun a o e=>by
  by_cases ha:a=ea
  ·subst ha
   rw [upd_same] at e; cases e
   exact ⟨⟨oe,he,hc⟩,⟨oe,he⟩,fun h1 h2 ⟨o,ho,hoc⟩ k=>⟨o,k o ho,hoc⟩⟩
  ·rw [upd_ne ha] at e
   refine (hok' a o e).stay (fun b u _ q=>q) (fun b q=>?_) fun b xs q=>?_
   ·rw [upd_ne (ne_of_none q hfree)]; exact q
   ·rw [upd_ne (ne_of_none q hfree)]; exact q
 refine ⟨hfree,?_⟩
 have key:=I.step (h':=h') (H':=upd H2 ea (.ext (excP ea C))) (g':=s2.gens) (t':=s2.toks) (d':=s2.drawn) (ch:=[]) (fun _ z=>nomatch z)
  (fun b o hb hf _ q n=>st b o (eq b o q n fun m=>by
   rcases List.mem_cons.mp (I.stkSub b m) with z | z
   ·exact hb z
   ·exact hf z))
  (fun b o hb hf _ q n=>by
   have hm:=fs_stack I.ok hf
   obtain ⟨sl,e1⟩:=un.slot b o q n hm (by simp)
   obtain ⟨_,o2,ho2,hd2⟩:=fl0.2.2.1.mem hm
   rw [e1] at ho2; cases ho2
   obtain ⟨sl2,e2⟩:=up b _ e1 hd2
   exact ⟨sl2,e2⟩)
  (fun b o _ q n=>by rw [upd_ne (ne1 b o q)]; exact un.free b o q n (by simp))
  (fun b o _ q=>by
   by_cases hm:b∈frs X.stack
   ·obtain ⟨_,o2,ho2,hd2⟩:=fl0.2.2.1.mem hm
    obtain ⟨sl2,e2⟩:=up b _ ho2 hd2
    exact ⟨_,e2⟩
   ·obtain ⟨o',ho'⟩:=old b o q hm
    exact ⟨o',st b o' ho'⟩)
  (fun b xs q=>by rw [upd_ne (neT b _ q)]; exact un.tups b xs q) (fun b o u q=>by rw [upd_ne (neT b _ q)]; exact un.frzs b o u q) (fun b ps q=>by
   obtain ⟨m,e⟩:=un.tbls b ps q
   exact ⟨m,by rw [upd_ne (neT b _ q)]; exact e⟩)
  (fun m hn=>by
   by_cases hm:X.env.locals∈frs X.stack
   ·obtain ⟨o,es,ep,ho,hd,r⟩:=hn
    obtain ⟨sl,e1⟩:=un.slot _ o ho I.free hm (by simp)
    exact up.ns ⟨_,es,ep,e1,hd,r⟩
   ·obtain ⟨o,es,ep,ho,hd,r⟩:=hn
    exact ⟨o,es,ep,st _ _ (eq _ o ho I.free hm),hd,r⟩) hokN hba
 obtain ⟨h2,g2,d2,t2,o2⟩:=s2
 have e:o2=s1.os:=hos
 subst e
 exact key
theorem name_gone {n:Str} {hpos:Pos} {E:Value→Shared→Prop} {Q:Unit→Shared→Prop} (I:Inv X pins σ H s) (hl:X.env.kindOf n=some .local) (h:∀ s',Inv X pins (List.replicate X.N.length none) H s'→Q () s') :
  wpAny (model X.prog X.w) X.A (do bindName X.env n .none; unbindBehindTheSuite X.env n hpos) Q E s:=by
 obtain ⟨m,hn,_⟩:=I.loc
 refine wpAny_nameGoes hl hn (by rw [I.ok.kind]; rfl) fun h' m' hn' sb=>?_
 have oth:∀ b o,b≠X.env.locals→s.heap.get? b=some o→h'.get? b=some o:=fun b o hb e=>(sb.2 b hb).trans e
 have neL:∀ b o,X.s₀.heap.get? b=some o→b≠X.env.locals:=fun b o e=>Nat.ne_of_lt (Nat.lt_of_lt_of_le (Heap.lt_size e) I.ok.above)
 have B:=I.base
 refine h _ ⟨I.ok,I.os,I.bare,⟨fun b o q n f x=>oth b o (neL b o q) (B.keep b o q n f x),fun b o q n f x=>?_,B.free,fun b o q x=>?_,B.tups,B.frzs,B.tbls⟩,⟨m',hn',fun i x v _ h _=>?_⟩,fun x c e=>?_,I.free,I.freeC,fun p hp=>?_,fun a o e=>?_,by simp⟩
 ·obtain ⟨sl,e⟩:=B.slot b o q n f x
  exact ⟨sl,oth b _ (neL b o q) e⟩
 ·obtain ⟨o',e⟩:=B.there b o q x
  exact ⟨o',oth b _ (neL b o q) e⟩
 ·rw [List.getElem?_replicate] at h
  split at h <;> cases h
 ·obtain ⟨v,o,ho,hd⟩:=I.cell x c e
  refine ⟨v,o,oth c o (fun z=>?_) ho,hd⟩
  obtain ⟨o',es,ep,ho',hd',_⟩:=hn
  rw [z,ho'] at ho; cases ho
  rw [hd'] at hd; cases hd
 ·obtain ⟨p1,p2,p3,p4,p5⟩:=I.pin p hp
  exact ⟨oth _ _ p3 p1,p2,p3,p4,p5⟩
 ·refine (I.hok a o e).stay (fun b u hb q=>oth b u (fun z=>?_) q) (fun _ q=>q) fun _ _ q=>q
  subst z
  rcases hb with rfl | hb
  ·rw [I.free] at e; cases e
  ·rw [I.free] at hb; cases hb
theorem ps_try {i:Nat} {n cn:Str} {Cn:Addr} {body:List Stmt} {b₀:Stmt} {suite:List Stmt} {np hpos pos:Pos} {tb:(Str→Hp→Prop)→St→Hp→Prop} {th:Addr→TS}
  (hB:∀ W pn,PSs (X.tried W pn) body fun _ σ H=>tb (AccA (X.tried W pn)) σ H) (mono:∀ (A A':Str→Hp→Prop) σ H,(∀ x H',A x H'→A' x H')→tb A σ H→tb A' σ H) (hS:∀ ea,PSs (X.held (.ref ea)) (b₀ :: suite) (th ea))
  (hN:X.N.Nodup) (hi:X.N[i]? = some n) (hl:X.env.scope.names.lookup n=some .local) (hg:Gl X cn) (hm:X.mg cn=some (.ref Cn)) (hstk:X.stack=X.env :: X.outer∧X.env.frame=some X.env.locals) (hd:(cn == ("__debug__":Str))=false:=by decide) :
  PS X (.Try body [.ExceptHandler (some (.Name cn np)) (some n) (b₀ :: suite) hpos] [] [] pos) fun D σ H=>tb (fun x H2=>∃ C,PySem.W.nsIn X.K mainGlobals x=some (some (.ref C))∧PySem.W.exmOne X.K (.ref C) (.ref Cn)=some true ∧
   ∀ (ea:Addr) (σ':St),σ'.length=X.N.length→H2 ea=none→th ea { nx:=fun _ _=>False,rt:=D.rt } (σ'.set i (some (.ref ea))) (upd H2 ea (.ext (excP ea C)))) σ H:=by
 intro pins s σ H D I h
 refine wpAny_Try_except ?_
 refine wpAny_mono (hB (fun e s₁=>wpAny (model X.prog X.w) X.A (noteFrame e X.env) (fun _ s₂=>wpAny (model X.prog X.w) X.A (setFlight e none) (fun _ s₃=>wpAny (model X.prog X.w) X.A (handleBy e X.env [.ExceptHandler (some (.Name cn np)) (some n) (b₀ :: suite) hpos]) (SP X pins D) X.xe s₃) X.xe s₂) X.xe s₁) (X.pn ++ pins)
  [] s σ H { nx:=fun _ _=>False,rt:=fun _ _=>False } (I.tried _) (mono _ _ σ H (fun x H2 acc=>?_) h)) (fun f s' q=>?_) fun _ _ z=>z
 ·obtain ⟨C,hn,hx,hth⟩:=acc
  intro pins' σ' H1 s1 e s2 I1 hos hba un hok fly
  obtain ⟨ea,C',t,B,rfl,hn',fl,trk,old,eq⟩:=fly
  have hn'':PySem.W.nsIn X.K mainGlobals x=some (some (.ref C')):=hn'
  rw [hn] at hn''
  cases hn''
  have ok:X.Ok:=I.ok
  have hfr:X.A.frames=some (X.env :: X.outer):=by rw [ok.frames,hstk.1]
  have fl:Heap.FlyingW B (X.env :: X.outer) ea (.ref C) (.ref t) s2.heap:=by
   have z:Heap.FlyingW B X.stack ea (.ref C) (.ref t) s2.heap:=fl
   rw [hstk.1] at z; exact z
  show wpAny (model X.prog X.w) X.A (noteFrame (.ref ea) X.env) _ _ s2
  refine wpAny_looks_onW hfr hstk.2 fl fun h3 held up3=>?_
  refine wpAny_landsW held fun h4 fl4 up4=>?_
  have up24:s2.heap.UpToSlots h4:=up3.trans up4
  have L4:=land (X:=X.tried _ _) I1 hos hba un hok (by show Heap.FlyingW B X.stack _ _ _ _; rw [hstk.1]; exact fl) (by show Heap.FlyingW B X.stack _ _ _ _; rw [hstk.1]; exact fl4) up24 trk old eq
  have I4:Inv X pins σ' (upd H2 ea (.ext (excP ea C))) { s2 with heap:=h4 }:=L4.2.untried
  refine wpAny_handleBy_cons (codeAny_handlers_test ?_) (by intro q; cases q)
  refine ld_glob (X:=X.held (.ref ea)) (I4.held _) hg hm ?_ hd
  have LT:PySem.W.Looks (model X.prog X.w) h4 (typeOf (.ref ea)) (.ref C):=by
   obtain ⟨ob,hob,hc⟩:=fl4.there
   rw [← hc]
   exact (PySem.W.Looks.ld hob).andThen .now
  refine (PySem.W.exm_one I4.kIn LT hx).here ?_
  dsimp only
  refine codeAny_handlers_suite_as ?_
  refine lands_againW fl4 fun h5 fl5 up5=>?_
  have L5:=land (X:=X.tried _ _) I1 hos hba un hok (by show Heap.FlyingW B X.stack _ _ _ _; rw [hstk.1]; exact fl) (by show Heap.FlyingW B X.stack _ _ _ _; rw [hstk.1]; exact fl5) (up24.trans up5) trk old eq
  have I5:Inv X pins σ' (upd H2 ea (.ext (excP ea C))) { s2 with heap:=h5 }:=L5.2.untried
  refine store_ok (X:=X.held (.ref ea)) (v:=.ref ea) (I5.held _) hN hi (.inl hl) rfl (fun s6 I6=>?_) (.inr hl)
  refine wpAny_mono (hS ea pins s6 _ _ { nx:=fun _ _=>False,rt:=D.rt } I6 (hth ea σ' (by rw [I5.len]) L5.1)) (fun f s7 q=>?_) fun _ _ z=>z.elim
  cases f with
  | next=>obtain ⟨_,_,_,z⟩:=q; exact z.elim
  | brk=>obtain ⟨_,_,_,z⟩:=q; exact z.elim
  | cont=>obtain ⟨_,_,_,z⟩:=q; exact z.elim
  | ret u =>
   obtain ⟨v,σ7,H7,I7,rv,q7⟩:=q
   exact name_gone (X:=X) (I7.unheld ok) hl fun s8 I8=>⟨v,_,H7,I8,rv,q7⟩
 ·cases f with
  | next=>obtain ⟨_,_,_,z⟩:=q; exact z.elim
  | brk=>obtain ⟨_,_,_,z⟩:=q; exact z.elim
  | cont=>obtain ⟨_,_,_,z⟩:=q; exact z.elim
  | ret u=>obtain ⟨_,_,_,_,_,z⟩:=q; exact z.elim
end
end L2
namespace PySem.W
open PySem PySem.Spec PySem.Calls PyProof.Rows Builtin Builtin.ObjectAttr Builtin.Getset_descriptor
structure ExcIn (K:Frag) (C:Addr):Prop where
 ga:findIn K (.ref C) "__getattribute__"=some (some (.builtin "BaseException.__getattribute__"))
 gn:findIn K (.ref C) "__getattr__"=some none
 cl:findIn K (.ref C) "__class__"=some (some (.builtin "object.__class__"))
 ob:mroIn K C (.type "object")=some true
 be:subIn K (.ref C) (.type "BaseException")=some true
 cc:(clsIn K C).isSome=true
noncomputable def excIn' (K:Frag) (C:Addr):Bool:=findIn K (.ref C) "__getattribute__" == some (some (.builtin "BaseException.__getattribute__")) && findIn K (.ref C) "__getattr__" == some none && findIn K (.ref C) "__class__" == some (some (.builtin "object.__class__")) &&
 mroIn K C (.type "object") == some true && subIn K (.ref C) (.type "BaseException") == some true && (clsIn K C).isSome
theorem ExcIn.of {K:Frag} {C:Addr} (h:excIn' K C=true):ExcIn K C:=by
 unfold excIn' at h
 simp only [Bool.and_eq_true,beq_iff_eq] at h
 exact ⟨h.1.1.1.1.1,h.1.1.1.1.2,h.1.1.1.2,h.1.1.2,h.1.2,h.2⟩
section
variable {prog:Program} {w:World} {A:Around} {E:Value→Shared→Prop} {K:Frag} {h:Heap} {g:Array GenState} {d:Drawn} {t:Nat} {os:OsState} {a C:Addr} {o:Obj}
theorem exc_class_get {R:Result→Shared→Prop} {tp:Value} (Z:ExcIn K C) (X:K.In h) (hx:h.get? a=some o) (hc:o.cls=.ref C) (hq:R (.ok (.ret (.ref C))) ⟨h,g,d,t,os⟩) :
  codeAny (model prog w) A (.call (.builtin "getset_descriptor.__get__") ⟨[.builtin "object.__class__",.ref a,tp],[]⟩) R ⟨h,g,d,t,os⟩:=by
 have L0:Looks (model prog w) h (typeOf (.ref a)) (.ref C):=hc ▸ (Looks.ld hx).andThen .now
 have L1:=looks_mroIn (M:=model prog w) X Z.ob
 refine codeAny_call_builtin KF.slot_gs.plain KF.entry_gs (KF.slot_gs.check _ _ _ _ _ _ _ _ KF.type_class (KF.args_gs _ _ _) ?_)
 unfold Builtin.«getset_descriptor.__get__» descrGet
 rw [dga_obj]
 refine wpAny_bind (wpAny_pure ?_)
 unfold descrGetter descrCheckInstance descrNameAndClass isInstance
 simp only [KF.owner_class]
 repeat lk
 refine ⟨Code.quiet_builtin _ (by decide +kernel),codeAny_builtin KF.entry_class ?_⟩
 unfold Builtin.«object.__class__» shownTypeOf
 repeat lk
 exact hq
theorem exc_class_entry {tk:Tok} {Q:Fin→Shared→Prop} (Z:ExcIn K C) (X:K.In h) (hx:h.get? a=some o) (hc:o.cls=.ref C) (hq:Q (.done (.ret (.ref C))) ⟨h,g,d,t,os⟩) :
  wpAny (model prog w) A (Builtin.«object.__getattribute__» ⟨[.ref a,.str "__class__" tk],[]⟩) Q E ⟨h,g,d,t,os⟩:=by
 have hT5:(⟨h,g,d,t,os⟩:Shared).TypeIs (.builtin "object.__class__") "getset_descriptor":=F.typeOf_object_class
 have f5:=F.typeOf_object_class
 have f6:=F.slot_gs_get.lookup
 have f7:=F.slot_gs_set.lookup
 have L1:=looks_findIn (M:=model prog w) X Z.cl
 repeat (any_goals (first | assumption | (with_reducible refine wpAny_loadPart_at hx ?_; rw [hc]) | with_reducible refine L1.at ?_ | wp_step))
 refine exc_class_get Z X hx hc ?_
 repeat (any_goals (first | assumption | wp_step))
theorem exc_check {nameV:Value} {Q:Unit→Shared→Prop} (Z:ExcIn K C) (X:K.In h) (hx:h.get? a=some o) (hc:o.cls=.ref C) (hq:Q () ⟨h,g,d,t,os⟩) :
  wpAny (model prog w) A (checkBuiltinCall "BaseException.__getattribute__" ⟨[.ref a,nameV],[]⟩) Q E ⟨h,g,d,t,os⟩:=by
 have hk:builtinKind "BaseException.__getattribute__"=some .slot:=by decide +kernel
 have hsplit:splitId "BaseException.__getattribute__"=some ("BaseException","__getattribute__"):=by decide +kernel
 have ha:=F.args_bexc_ga (.ref a) nameV
 have L1:=looks_subIn (M:=model prog w) X Z.be
 simp only [checkBuiltinCall,hk,hsplit]
 refine wpAny_bind ?_
 ·unfold isInstance
  repeat (first | (with_reducible refine wpAny_loadPart_at hx ?_; rw [hc]) | with_reducible refine L1.at ?_ | wp_step)
  exact hq
theorem exc_class_call {tk:Tok} {R:Result→Shared→Prop} (Z:ExcIn K C) (X:K.In h) (hx:h.get? a=some o) (hc:o.cls=.ref C) (hq:R (.ok (.ret (.ref C))) ⟨h,g,d,t,os⟩) :
  codeAny (model prog w) A (.call (.builtin "BaseException.__getattribute__") ⟨[.ref a,.str "__class__" tk],[]⟩) R ⟨h,g,d,t,os⟩ :=
 codeAny_call_builtin F.excAttr_ValueError.ga.plain F.entry_bexc_ga (exc_check Z X hx hc (exc_class_entry Z X hx hc hq))
theorem exc_class_by {tk:Tok} {Q:Value→Shared→Prop} (Z:ExcIn K C) (X:K.In h) (hx:h.get? a=some o) (hc:o.cls=.ref C) (hq:Q (.ref C) ⟨h,g,d,t,os⟩):wpAny (model prog w) A (getAttrBy (.ref a) (.str "__class__" tk) false) Q E ⟨h,g,d,t,os⟩:=by
 have f3:=F.excAttr_ValueError.ga.bind (.ref a)
 have hx2:(Value.builtin "BaseException.__getattribute__" == Value.builtin "object.__getattribute__")=false:=by decide +kernel
 have hx1:(onTheHeap (Value.ref C) && Value.builtin "BaseException.__getattribute__" == Value.builtin "object.__getattribute__")=false:=by rw [hx2]; rfl
 have L1:=looks_findIn (M:=model prog w) X Z.ga
 have L2:=looks_findIn (M:=model prog w) X Z.gn
 repeat (any_goals (first | assumption | (with_reducible refine wpAny_loadPart_at hx ?_; rw [hc]) | with_reducible refine L1.at ?_ | with_reducible refine L2.at ?_ | wp_step))
 refine exc_class_call Z X hx hc ?_
 repeat (any_goals (first | assumption | wp_step))
theorem exc_class {Q:Option Value→Shared→Prop} (Z:ExcIn K C) (X:K.In h) (hx:h.get? a=some o) (hc:o.cls=.ref C) (hq:Q (some (.ref C)) ⟨h,g,d,t + 1,os⟩):wpAny (model prog w) A (getAttr? (.ref a) "__class__") Q E ⟨h,g,d,t,os⟩:=by
 unfold getAttr? getAttrBy?
 repeat (any_goals (first | assumption | with_reducible apply exc_class_by Z X hx hc | wp_step))
theorem kitx_exc (Z:ExcIn K C):KitX K (.ref a) (.ref C) (L2.excP a C) where
 ty:=fun M h _ ⟨o,hx,hc⟩=>hc ▸ (Looks.ld hx).andThen .now
 it:=fun _ _ X _=>by
  have hcD:=Z.cc
  unfold clsIn at hcD
  split at hcD
  ·rename_i c' d' cd' sl' ho
   intro A' Q' E' s' k q
   unfold isType loadHead
   exact wpAny_bind (wpAny_loadPart (k _ _ (X _ _ ho)) (wpAny_pure q))
  ·cases hcD
 ne:=fun h tp dd its n sl X htp=>by
  have hcD:=Z.cc
  refine Bool.eq_false_iff.mpr fun q=>?_
  have e:C=tp:=Value.ref.inj (beq_iff_eq.mp q)
  subst e
  unfold clsIn at hcD
  split at hcD
  ·rename_i c' d' cd' sl' ho
   have z:=(X _ _ ho).symm.trans htp
   cases z
  ·cases hcD
 ca:=fun {_ _ _ _ _ s} X ⟨o,hx,hc⟩ k=>by obtain ⟨h,g,d,t,os⟩:=s; exact exc_class Z X hx hc k
end
end PySem.W
namespace L2
open PySem PySem.Spec PyProof.Rows
structure RoomH (k:Nat) (A:Around):Prop where
 dp:A.depth + 3 * k + 5 < recursionLimit
 un:A.units + 16 * k + 200 < cLine
theorem RoomH.deeper {k:Nat} {A:Around} (r:RoomH (k + 1) A) (env:Env):RoomH k (A.deeper env) :=
 ⟨by have:=r.dp; show A.depth + 1 + 3 * k + 5 < _; omega,by have:=r.un; show A.units + 3 + 16 * k + 200 < _; omega⟩
theorem RoomH.depth {k:Nat} {A:Around} (r:RoomH k A):A.depth < recursionLimit:=by have:=r.dp; omega
structure FnOkH (P:Program) (w:World) (K:PySem.W.Frag) (mg:Str→Option Value) (base:Heap) (k:Nat) (f:Addr) (fd:FuncData) (ps:List Str) (sp:Sp):Prop where
 len:∀ vs H Q E,sp vs H Q E→vs.length=ps.length
 run:∀ (A:Around) (outer:List Env) (s:Shared) (H:Hp) (args:Args) (us:List Value) (vs:List V) (Q:VK) (E:XK),RoomH k A→Env0 P w K mg base A outer s H→BindsTo s fd args (ps.zip us)→Vals vs us→sp vs H Q E →
  codeAny (model P w) A (.call (.ref f) args) (CR CX0 outer P w H s Q E) s
noncomputable abbrev cxH (P:Program) (w:World) (K:PySem.W.Frag) (mg:Str→Option Value) (base:Heap) (N:List Str) (qual:Str) (scope:Scope) (f:Addr) (cd:Value) (A:Around) (outer:List Env) (s:Shared) (H:Hp) (E:XK):Cx :=
 { cxOf CX0 P w K mg base N qual scope f cd A outer s H E with calm:=false }
section
variable {P:Program} {w:World} {K:PySem.W.Frag} {mg:Str→Option Value} {base:Heap}
theorem inv_startH {N ps:List Str} {qual:Str} {scope:Scope} {f:Addr} {cd:Value} {A:Around} {outer:List Env} {s s1:Shared} {H:Hp} {E:XK} {us:List Value} {vs:List V}
  (S:FnScope N ps scope) (e0:Env0 P w K mg base A outer s H) (hl:vs.length=ps.length) (r:Vals vs us)
  (x:InCallC s s.heap.objs.size (bindL (envOfC qual scope s.heap.objs.size f cd).kindOf (ps.zip us) fun _=>none) (cellsFrom (s.heap.objs.size + 1) scope.names []) (bindC (envOfC qual scope s.heap.objs.size f cd).kindOf (ps.zip us) fun _=>none) s1) :
  Inv (cxH P w K mg base N qual scope f cd A outer s H E) [] (start N vs) H s1:=by
 have I:Inv (cxOf CX0 P w K mg base N qual scope f cd { A with handled:=none } outer s H E) [] (start N vs) H s1:=inv_start S rfl ⟨e0.frames,e0.mod,e0.bs,e0.bsz,e0.funs,e0.frf,e0.hok,e0.bare⟩ hl r x
 have ok:=I.ok
 exact ⟨⟨ok.mod,ok.kind,ok.glob,ok.blt,ok.above,ok.inj,ok.has,ok.cab,(fun z=>by cases z),Around.frames_deeper e0.frames,ok.stk,ok.exf,ok.bs,ok.bsz,ok.noex,ok.exfs,ok.funs,ok.frf⟩,I.os,I.bare,I.base,I.loc,I.cell,I.free,I.freeC,I.pin,I.hok,I.len⟩
theorem fn_ofH {k:Nat} {f:Addr} {name qual:Str} {params:Arguments} {body:List Stmt} {scope:Scope} {dV kV doc pm cdv ct oc:Value} {an od:Option Addr}
  {osl:Array (Option Value)} {N ps:List Str} {sp:Sp} (lk:K.lookup f=some ⟨oc,od,.func (PySem.W.fnOf name qual params body scope dV kV doc pm an cdv ct),osl⟩) (hcd:PySem.W.codeIn K cdv qual=true) (S:FnScope N ps scope)
  (len:∀ vs H Q E,sp vs H Q E→vs.length=ps.length)
  (hbody:∀ (A:Around) (outer:List Env) (s:Shared) (H:Hp) (vs:List V) (Q:VK) (E:XK),RoomH k (A.deeper (envOfC qual scope s.heap.objs.size f cdv))→sp vs H Q E →
   ∃ t,PSs (cxH P w K mg base N qual scope f cdv A outer s H E) body t∧t { nx:=fun _ H'=>Q .non H',rt:=Q } (start N vs) H) :
  FnOkH P w K mg base (k + 1) f (PySem.W.fnOf name qual params body scope dV kV doc pm an cdv ct) ps sp:=by
 refine ⟨len,fun A outer s H args us vs Q E hr e0 hb r hsp=>?_⟩
 have hl:=len _ _ _ _ hsp
 have KX:K.In s.heap:=e0.mod.kin.keeps fun b o e=>(e0.bs b o e).1
 have lim:s.heap.NoLimit:=e0.mod.nolimit.keeps fun b o e=>(e0.bs b o e).1
 have hkind:∀ y∈ps.zip us,scope.names.lookup y.1=some .local∨(scope.names.lookup y.1=some .cell∧((cellsFrom (s.heap.objs.size + 1) scope.names []).lookup y.1).isSome=true):=fun ⟨n,v⟩ hy=>by
  rcases S.par n (List.of_mem_zip hy).1 with q | q
  ·exact .inl q
  ·exact .inr ⟨q,PySem.W.cellsFrom_some _ _ _ (.inl q)⟩
 refine codeAny_call_function hr.depth (KX _ _ lk) rfl S.co S.gen rfl (PySem.W.codeRec_of KX hcd) (hb _ _ _ _ ?_)
 refine wpAny_newFunctionEnv_cells S.kind hkind fun env he s1 x=>?_
 subst he
 refine ⟨lim.keeps x.toInCall.keep,codeAny_func ?_⟩
 obtain ⟨t,ht,hq⟩:=hbody A outer s H vs Q E (hr.deeper _) hsp
 have I:Inv (cxH P w K mg base N qual scope f cdv A outer s H E) [] (start N vs) H s1:=inv_startH S e0 hl r x
 refine wpAny_mono (ht [] s1 (start N vs) H _ I hq) (fun fl s' hs=>?_) fun e s' hs=>hs
 have fin:∀ {σ':St} {H':Hp} {v:V} {u:Value},Inv (cxH P w K mg base N qual scope f cdv A outer s H E) [] σ' H' s'→RelV v u→Q v H'→CE outer P w H s Q u s' :=
  fun {σ' H' v u} J rv q=>⟨v,H',J.os,J.bare,J.base,J.hok,rv,q⟩
 cases fl with
 | ret u =>
  obtain ⟨v,σ',H',J,rv,q⟩:=hs
  exact fin J rv q
 | next =>
  obtain ⟨σ',H',J,q⟩:=hs
  exact fin (v:=V.non) (u:=Value.none) J rfl q
 | brk =>
  obtain ⟨_,_,_,q⟩:=hs
  exact False.elim q
 | cont =>
  obtain ⟨_,_,_,q⟩:=hs
  exact False.elim q
theorem fn_okH {x qual:Str} {st:Stmt} {f:Addr} {fd:FuncData} {N ps:List Str} {k n m:Nat} {own:Bool} {d:Ev→List Cell→R Fl} (F:Fun K x qual st f fd) (S:FnScope N ps (defScope st)) (hN:N.length=n) (hm:ps.length=m)
  (hb:∀ (cdv:Value) (A:Around) (outer:List Env) (s:Shared) (H:Hp) (E:XK),RoomH k (A.deeper (envOfC qual (defScope st) s.heap.objs.size f cdv))→PSsd (cxH P w K mg base N qual (defScope st) f cdv A outer s H E).nox (defBody st) d) :
  FnOkH P w K mg base (k + 1) f fd ps (spD K m (fnD n own d)):=by
 subst hN; subst hm
 obtain ⟨oc,od,kV,doc,pm,an,cdv,ct,osl,rfl,lk,hcd⟩:=F.ex
 refine fn_ofH lk hcd S (fun vs H Q E h=>?_) fun A outer s H vs Q E hr h=>⟨_,(hb cdv A outer s H E hr).nox,?_⟩
 ·obtain ⟨ρ,xs,c,W,r,hl,p⟩:=h
  exact r.length.trans hl
 ·obtain ⟨ρ,xs,c,W,r,hl,p⟩:=h
  refine ⟨ρ,startD N.length xs,c,W,REnv.start r,post.bind p fun fl c1 ρ1 H1 b _ W1 X1 r1 p1=>?_⟩
  cases fl with
  | nx e1 =>
   obtain ⟨σ1,rfl,V1⟩:=r1
   exact exit_ok (v:=.non) (x:=.non) (H1:=H1) W W1 X1 rfl (by
    unfold fnD at p; exact id (α:=post K (Rel K) (exitD own c.length .non c1) ρ H Q) (by
     rename_i he; rw [he] at p; exact p))
  | rt d =>
   obtain ⟨v,rfl,V1⟩:=r1
   exact exit_ok (v:=d) (x:=v) (H1:=H1) W W1 X1 V1 (by
    unfold fnD at p; rename_i he; rw [he] at p; exact p)
  | bk e1=>exact p1.elim
  | ct e1=>exact p1.elim
end
section
variable {X:Cx}
theorem pd_fnH {x:Str} {st:Stmt} {ps:List Str} {f:Addr} {fd:FuncData} {k n:Nat} {m:List D→List Cell→R D} {e:Expr} {es:List Expr} {da:Ev→List Cell→R (List D)} {p pos:Pos} (D:Def X.K X.mg x st ps f fd) (G:FnOkH X.prog X.w X.K X.mg X.base k f fd ps (spD X.K n m)) (hr:RoomH k X.A) (ha:PAd X (e :: es) da) (hg:Gl X x:=by rfl)
  (hdb:(x == ("__debug__":Str))=false:=by decide) (he:starEach (e :: es) X.env=(false,eval e X.env) :: starEach es X.env:=by exact starE rfl) (hpl:(backTo pos (starEach es X.env)).any (·.1)=false:=by exact starAny rfl) :
  PEd X (.Call (.Name x p) (e :: es) [] pos) (dCall n m da):=by
 intro pins s σ H Q I h
 obtain ⟨ρ,e',c,W,V,q⟩:=h
 refine wpAny_Call_Name_kw (ld_glob I hg D.at' ?_ hdb)
 refine PySem.W.callWith_K (h₀:=X.base) I.ok.mod.kin D.fn.kp (thn (ha pos pins s σ H (fun vs H1=>spD X.K n m vs H1 Q E0) I ⟨ρ,e',c,W,V,post.bind q fun xs c1 ρ1 H1 vs _ W1 X1 r1 p1=>?_⟩) fun us s1 ⟨vs,H1,I1,r,q⟩=>⟨I1.kIn,?_⟩) he hpl
 ·split at p1
  ·rename_i hl
   exact ⟨ρ1,xs,c1,W1,r1,hl,p1⟩
  ·exact p1.elim
 ·have hl:us.length=ps.length:=by rw [← r.length]; exact G.len _ _ _ E0 q
  have hb:=D.bd s1 us I1.kIn (by simpa using hl)
  rw [List.append_nil] at hb
  refine wpAny_call (codeAny_mono (G.run X.A X.stack s1 H1 ⟨us,[]⟩ us vs Q E0 hr I1.env0 hb r q) fun r s' hq=>?_)
  cases r with
  | error e=>exact False.elim hq
  | ok fl =>
   cases fl with
   | ret u=>exact I1.after hq
   | next=>exact False.elim hq
   | brk=>exact False.elim hq
   | cont=>exact False.elim hq
end
structure XTab (K:PySem.W.Frag) (T:List Str):Prop where
 cls:∀ x∈T,∀ C,PySem.W.nsIn K mainGlobals x=some (some (.ref C))→PySem.W.ExcIn K C∧PySem.W.kitOne K (.ref C) (.type "ValueError")=some true
 two:∀ x∈T,∀ y∈T,∀ C C',PySem.W.nsIn K mainGlobals x=some (some (.ref C))→PySem.W.nsIn K mainGlobals y=some (some (.ref C'))→PySem.W.kitOne K (.ref C) (.ref C')=some (x == y)
noncomputable def xcIn (K:PySem.W.Frag) (x:Str):Bool:=match PySem.W.nsIn K mainGlobals x with
 | some (some (.ref C))=>PySem.W.excIn' K C && PySem.W.kitOne K (.ref C) (.type "ValueError") == some true
 | _=>true
noncomputable def x2In (K:PySem.W.Frag) (x y:Str):Bool:=match PySem.W.nsIn K mainGlobals x,PySem.W.nsIn K mainGlobals y with
 | some (some (.ref C)),some (some (.ref C'))=>PySem.W.kitOne K (.ref C) (.ref C') == some (x == y)
 | _,_=>true
noncomputable def xtabIn (K:PySem.W.Frag) (T:List Str):Bool:=T.all fun x=>xcIn K x && T.all fun y=>x2In K x y
theorem XTab.of {K:PySem.W.Frag} {T:List Str} (h:xtabIn K T=true):XTab K T:=by
 unfold xtabIn at h
 rw [List.all_eq_true] at h
 refine ⟨fun x hx C e=>?_,fun x hx y hy C C' e e'=>?_⟩
 ·have q:=h x hx
  rw [Bool.and_eq_true] at q
  have q:=q.1
  unfold xcIn at q
  rw [e] at q
  simp only [Bool.and_eq_true,beq_iff_eq] at q
  exact ⟨.of q.1,q.2⟩
 ·have q:=h x hx
  rw [Bool.and_eq_true,List.all_eq_true] at q
  have q:=q.2 y hy
  unfold x2In at q
  rw [e,e'] at q
  simpa using q
noncomputable def isxD (T:List Str):List D→List Cell→R D:=fun xs c=>match xs with
 | [.exc x,.fn y _]=>if x∈T∧y∈T then .ok (.bl (x == y)) c else .bad
 | [.exc x,.ty n]=>if x∈T∧n="ValueError" then .ok (.bl true) c else .bad
 | _=>.bad
section
variable {X:Cx} {T:List Str}
theorem cd_isx (Z:XTab X.K T):CallR X (.builtin "isinstance") (rN X.K (isxD T)):=by
 intro pins s σ H vs us Q I rv h
 obtain ⟨ρ,xs,c,W,rx,p⟩:=h
 unfold isxD at p
 split at p
 ·split at p
  ·rename_i hT
   obtain ⟨v,r,rfl,⟨a,C,rfl,hC,hH⟩,u,r',rfl,⟨a',rfl,hC'⟩,hr⟩:=rx
   cases hr
   obtain ⟨u1,u2,rfl,r1,r2⟩:=rv.two
   cases r1; cases r2
   obtain ⟨hp,_,_⟩:=I.hok a _ hH
   exact PySem.W.kia_one (PySem.W.kitx_exc (Z.cls _ hT.1 C hC).1) I.kIn hp (Z.two _ hT.1 _ hT.2 C a' hC hC') (fun z=>nomatch z) fun tk=>⟨.bl _,H,I.tok _,rfl,p.here W rfl⟩
  ·exact p.elim
 ·split at p
  ·rename_i hT
   obtain ⟨v,r,rfl,⟨a,C,rfl,hC,hH⟩,u,r',rfl,hu,hr⟩:=rx
   cases hr
   cases hu
   obtain ⟨u1,u2,rfl,r1,r2⟩:=rv.two
   cases r1; cases r2
   obtain ⟨hp,_,_⟩:=I.hok a _ hH
   obtain ⟨_,rfl⟩:=hT
   rename_i hx
   exact PySem.W.kia_one (PySem.W.kitx_exc (Z.cls _ hx C hC).1) I.kIn hp (Z.cls _ hx C hC).2 (fun z=>nomatch z) fun tk=>⟨.bl true,H,I.tok _,rfl,p.here W rfl⟩
  ·exact p.elim
 ·exact p.elim
theorem pd_cls {x:Str} {C:Addr} {pos:Pos} (hm:X.mg x=some (.ref C)) (hn:PySem.W.nsIn X.K mainGlobals x=some (some (.ref C))) (hg:Gl X x:=by rfl) (hd:(x == ("__debug__":Str))=false:=by decide):PEd X (.Name x pos) (dC (.fn x 0)) :=
 pd_const (pe_glob (v:=.ref C) hg hm rfl hd) fun _ _=>⟨C,rfl,hn⟩
end
open PySem.SeqAt
section
variable {X:Cx}
noncomputable def rCount:V→List V→Hp→VK→Prop:=fun x vs H Q=>∃ l,∃ bs:List Bool,x=.ref l∧vs=[.bl true]∧H l=some (.lst (bs.map V.bl))∧Q (.int (bs.countP id:Nat)) H
noncomputable def rIndex:V→List V→Hp→VK→Prop:=fun x vs H Q=>∃ l,∃ bs:List Bool,∃ j,x=.ref l∧vs=[.bl true]∧H l=some (.lst (bs.map V.bl))∧bs.findIdx? id=some j∧Q (.int (j:Nat)) H
theorem Vals.bls:∀ {bs:List Bool} {us:List Value},Vals (bs.map V.bl) us→us=bs.map Value.bool
 | [],_,.nil=>rfl
 | b :: bs,_,.cons r t=>by cases r; rw [Vals.bls t]; rfl
noncomputable def eqT:Value→Bool
 | .bool b=>b
 | _=>false
theorem eqT_bls (bs:List Bool):(bs.map Value.bool).countP eqT=bs.countP id:=by
 induction bs with
 | nil=>rfl
 | cons b bs ih=>rw [List.map_cons,List.countP_cons,List.countP_cons,ih]; rfl
theorem eqT_at {A:Around} {s:Shared} (bs:List Bool):∀ y,y∈(bs.map Value.bool).toArray→EqAt A s y (.bool true) (eqT y):=fun y hy=>by
 rw [List.mem_toArray,List.mem_map] at hy
 obtain ⟨b,_,rfl⟩:=hy
 have:=EqAt.bool_bool (A:=A) (s:=s) b true
 cases b <;> exact this
theorem mt_count:MtM X "list.count" rCount:=by
 intro pins s σ H x vs v us Q I rx rv h
 obtain ⟨l,bs,rfl,rfl,hH,q⟩:=h
 cases rx
 obtain ⟨u,rfl,ru⟩:=rv.one
 cases ru
 obtain ⟨z,its,n,r,hl,e⟩:=I.lstM hH
 cases r.bls
 refine call_meets F.slot_list_count ⟨_,e,rfl⟩ F.entry_list_count (F.args_list_count_2 _ _) (list_countAt l (bs.map Value.bool).toArray n none #[] (.bool true) eqT) ⟨e,eqT_at bs,?_⟩
 refine ⟨.int (bs.countP id:Nat),H,I.tok _,⟨s.toks,?_⟩,q⟩
 rw [List.toList_toArray,eqT_bls]
theorem mt_index:MtM X "list.index" rIndex:=by
 intro pins s σ H x vs v us Q I rx rv h
 obtain ⟨l,bs,j,rfl,rfl,hH,hj,q⟩:=h
 cases rx
 obtain ⟨u,rfl,ru⟩:=rv.one
 cases ru
 obtain ⟨z,its,n,r,hl,e⟩:=I.lstM hH
 cases r.bls
 rw [List.findIdx?_eq_some_iff_getElem] at hj
 obtain ⟨h1,h2,h3⟩:=hj
 have hz:bs.length≤sizeLine:=by simpa using z
 have hs:(j:Int) < 2 ^ 63 - 1:=by
  have:sizeLine < 2 ^ 62:=by decide
  omega
 refine call_meets F.slot_list_index ⟨_,e,rfl⟩ F.entry_list_index (F.args_list_index_2 _ _) (list_indexAt l (bs.map Value.bool).toArray n none #[] (.bool true) eqT j (by simpa using h1) hs (by simpa [eqT] using h2) (fun m hm hlt=>by have:=h3 m hlt; simpa [eqT] using this)) ⟨e,eqT_at bs,?_⟩
 exact ⟨.int (j:Nat),H,I.tok _,⟨s.toks,rfl⟩,q⟩
end
end L2
namespace L2
open PySem PySem.Spec PyProof.Rows
noncomputable def dCount (o a:Ev→List Cell→R D):Ev→List Cell→R D:=fun e c=>(o e c).bind fun x c=>match x with
 | .lst l=>(a e c).bind fun y c=>match y,blsD l with
  | .bl true,some bs=>.ok (.int (bs.countP id:Nat)) c
  | _,_=>.bad
 | _=>.bad
noncomputable def dIndex (o a:Ev→List Cell→R D):Ev→List Cell→R D:=fun e c=>(o e c).bind fun x c=>match x with
 | .lst l=>(a e c).bind fun y c=>match y,blsD l with
  | .bl true,some bs=>match bs.findIdx? id with
   | some j=>.ok (.int (j:Nat)) c
   | none=>.bad
  | _,_=>.bad
 | _=>.bad
theorem Rels.bls_eq {K:PySem.W.Frag} {ρ:List Addr} {H:Hp}:∀ {bs:List Bool} {xs:List V},Rels K ρ H (bs.map D.bl) xs→xs=bs.map V.bl
 | [],_,h=>h
 | b :: bs,_,h=>by
  obtain ⟨x,r,rfl,h1,h2⟩:=h
  cases h1
  rw [Rels.bls_eq h2]; rfl
section
variable {X:Cx}
theorem pd_count {o e:Expr} {dO da:Ev→List Cell→R D} {apos cpos:Pos} (ho:PEd X o dO) (ha:PEd X e da)
  (hbase:attributeBase o "count" X.env (eval o X.env)=eval o X.env:=by rfl)
  (hfew:((backTo cpos (starEach [e] X.env)).all (fun x=>!x.1) && (backToKw cpos (keywordEach [] X.env)).all (fun x=>x.1.isSome)
   && decide ([e].length + ([]:List Keyword).length + (if ([]:List Keyword).isEmpty then 0 else 1) < 30))=true:=by exact starFew rfl)
  (hline:(apos.endLine == cpos.line)=true:=by rfl) (hs:starEach [e] X.env=(false,eval e X.env) :: starEach [] X.env:=by exact starE rfl) (hplain:(backTo cpos (starEach [] X.env)).any (·.1)=false:=by exact starAny rfl) :
  PEd X (.Call (.Attribute o "count" apos) [e] [] cpos) (dCount dO da) :=
 (pe_bm PySem.F.plainAttrs_list PySem.F.slot_list_count PySem.F.type_list_count mt_count ho (pa_cons ha pa_nil hs) hbase hfew hline hs hplain).imp fun σ H Q h=>by
  obtain ⟨ρ,e,c,W,V,p⟩:=h
  refine ⟨ρ,e,c,W,V,post.bind p fun x c1 ρ1 H1 v _ W1 X1 r1 p1=>?_⟩
  cases x with
  | lst l =>
   obtain ⟨a,xs,rfl,hx,rl⟩:=r1
   refine ⟨.inl ⟨rfl,xs,SqL.of hx.1⟩,ρ1,e,c1,W1,V.mono W X1,post.bind p1 fun y c2 ρ2 H2 u _ W2 X2 r2 p2=>?_⟩
   split at p2
   ·rename_i bs hb _
    cases r2
    rw [blsD_eq hb] at rl
    cases rl.bls_eq
    exact ⟨a,bs,rfl,rfl,(X2.keep a _ hx.1 hx.2).1,p2.here W2 rfl⟩
   ·exact p2.elim
  | _=>exact p1.elim
theorem pd_index {o e:Expr} {dO da:Ev→List Cell→R D} {apos cpos:Pos} (ho:PEd X o dO) (ha:PEd X e da)
  (hbase:attributeBase o "index" X.env (eval o X.env)=eval o X.env:=by rfl)
  (hfew:((backTo cpos (starEach [e] X.env)).all (fun x=>!x.1) && (backToKw cpos (keywordEach [] X.env)).all (fun x=>x.1.isSome)
   && decide ([e].length + ([]:List Keyword).length + (if ([]:List Keyword).isEmpty then 0 else 1) < 30))=true:=by exact starFew rfl)
  (hline:(apos.endLine == cpos.line)=true:=by rfl) (hs:starEach [e] X.env=(false,eval e X.env) :: starEach [] X.env:=by exact starE rfl) (hplain:(backTo cpos (starEach [] X.env)).any (·.1)=false:=by exact starAny rfl) :
  PEd X (.Call (.Attribute o "index" apos) [e] [] cpos) (dIndex dO da) :=
 (pe_bm PySem.F.plainAttrs_list PySem.F.slot_list_index PySem.F.type_list_index mt_index ho (pa_cons ha pa_nil hs) hbase hfew hline hs hplain).imp fun σ H Q h=>by
  obtain ⟨ρ,e,c,W,V,p⟩:=h
  refine ⟨ρ,e,c,W,V,post.bind p fun x c1 ρ1 H1 v _ W1 X1 r1 p1=>?_⟩
  cases x with
  | lst l =>
   obtain ⟨a,xs,rfl,hx,rl⟩:=r1
   refine ⟨.inl ⟨rfl,xs,SqL.of hx.1⟩,ρ1,e,c1,W1,V.mono W X1,post.bind p1 fun y c2 ρ2 H2 u _ W2 X2 r2 p2=>?_⟩
   split at p2
   ·rename_i bs hb _
    cases r2
    rw [blsD_eq hb] at rl
    cases rl.bls_eq
    split at p2
    ·rename_i j hj
     exact ⟨a,bs,j,rfl,rfl,(X2.keep a _ hx.1 hx.2).1,hj,p2.here W2 rfl⟩
    ·exact p2.elim
   ·exact p2.elim
  | _=>exact p1.elim
noncomputable def sTry (T:List Str) (i n:Nat) (b:Ev→List Cell→R Fl) (x:Xd) (h:Ev→List Cell→R D):Ev→List Cell→R Fl:=fun e c=>match b e c with
 | .ok f c=>.ok f c
 | .bad=>(x e c).bind fun y c=>if y∈T then (h ((List.replicate n none).set i (some (.exc y))) c).bind fun v c=>.ok (.rt v) c else .bad
theorem ps_try0 {body:List Stmt} {h₀:ExceptHandler} {pos:Pos} {t:TS} (hb:PSs X.nox body t):PS X (.Try body [h₀] [] [] pos) t:=fun pins s σ H D I h=>by
 refine wpAny_Try_except (wpAny_mono (hb pins s σ H D (I.wish _) h) (fun f s' q=>?_) fun _ _ z=>z.elim)
 have q:=q.unwish
 cases f with
 | next=>exact wpAny_execs_nil q
 | brk=>exact q
 | cont=>exact q
 | ret u=>exact q
theorem sd_try {T:List Str} {i m:Nat} {n cn:Str} {Cn:Addr} {body:List Stmt} {he:Expr} {rpos np hpos pos:Pos} {b:Ev→List Cell→R Fl} {x:Xd} {h:Ev→List Cell→R D}
  (hb:PSsd X.nox body b) (hx:∀ W pn,PSsx (X.tried W pn) (AccA (X.tried W pn)) body x) (hS:∀ ea,PEd (X.held (.ref ea)) he h)
  (hm:X.mg cn=some (.ref Cn)) (hT:∀ y∈T,∃ C,PySem.W.nsIn X.K mainGlobals y=some (some (.ref C))∧PySem.W.exmOne X.K (.ref C) (.ref Cn)=some true)
  (hN:X.N.Nodup:=by decide +kernel) (hi:X.N[i]? = some n:=by rfl) (hlen:X.N.length=m:=by rfl) (hl:X.env.scope.names.lookup n=some .local:=by rfl) (hg:Gl X cn:=by rfl) (hstk:X.stack=X.env :: X.outer∧X.env.frame=some X.env.locals:=by exact ⟨rfl,rfl⟩) (hd:(cn == ("__debug__":Str))=false:=by decide) :
  PSd X (.Try body [.ExceptHandler (some (.Name cn np)) (some n) [.Return (some he) rpos] hpos] [] [] pos) (sTry T i m b x h):=by
 intro pins s σ H D I hh
 obtain ⟨ρ,e,c,W,V,p⟩:=hh
 unfold sTry at p
 cases q:b e c with
 | ok f c1 =>
  rw [q] at p
  exact ps_try0 hb pins s σ H D I ⟨ρ,e,c,W,V,by rw [q]; exact p⟩
 | bad =>
  rw [q] at p
  dsimp only at p
  refine ps_try (X:=X) (th:=fun ea=>tSD X.K (sRet h)) (tb:=fun A σ H=>tD X.K (fun _ _ a b=>a=b) x σ H A) hx (fun A A' σ H hA ⟨ρ,e,c,W,V,p⟩=>⟨ρ,e,c,W,V,p.mono hA⟩)
   (fun ea=>sd_one (sd_ret (hS ea))) hN hi hl hg hm hstk hd pins s σ H D I ⟨ρ,e,c,W,V,post.bind p fun y c1 ρ1 H1 b _ W1 X1 r1 p1=>?_⟩
  cases r1
  split at p1
  ·rename_i hy
   obtain ⟨C,hC,hC2⟩:=hT y hy
   refine ⟨C,hC,hC2,fun ea σ' hl' hf=>?_⟩
   refine ⟨ρ1,(List.replicate m none).set i (some (.exc y)),c1,W1.fresh hf,⟨fun j d hj=>?_,by simp [hl',hlen]⟩,?_⟩
   ·by_cases e1:j=i
    ·subst e1
     have hlt:j < m:=by
      have:=(List.getElem?_eq_some_iff.mp hj).1
      simpa using this
     rw [List.getElem?_set_self (by simpa using hlt)] at hj
     cases hj
     refine ⟨.ref ea,by rw [List.getElem?_set_self (by rw [hl',hlen]; exact hlt)],ea,C,rfl,hC,upd_same⟩
    ·rw [List.getElem?_set_ne (Ne.symm e1),List.getElem?_replicate] at hj
     split at hj <;> cases hj
   ·have p2:=p1.ext (Ext.fresh (p:=ea) (o:=.ext (excP ea C)) W1 hf)
    unfold sRet
    cases qh:h ((List.replicate m none).set i (some (.exc y))) c1 with
    | bad=>rw [qh] at p2; exact p2.elim
    | ok v c2 =>
     rw [qh] at p2
     exact fun ρ2 H2 f W2 X2 r2=>by
      have z:=p2 ρ2 H2 f W2 X2 r2
      obtain ⟨v',rfl,_⟩:=r2
      exact z
  ·exact p1.elim
end
theorem RoomH.held {k:Nat} {A:Around} {h:Option Value} (r:Room k A):RoomH k (A.mark h):=⟨r.dp,r.un⟩
theorem bootVE:bootBuiltins "ValueError"=some (.type "ValueError"):=by decide +kernel
abbrev veMro:List Value:=[.type "ValueError",.type "Exception",.type "BaseException",.type "object"]
theorem own_of {K:PySem.W.Frag} {h:Heap} {mg:Str→Option Value} {x:Str} {C:Addr} {bmB:List Value} {newId:String} (X:K.In h) (e:mg x=some (.ref C)) (q:PySem.W.excIn K C bmB newId=true):OwnCls x C bmB newId mg h:=by
 refine ⟨e,?_⟩
 unfold PySem.W.excIn at q
 split at q
 ·rename_i dd cd sl ho
  split at q
  ·rename_i C' bm k0 k1 k2 k3 n k5 hm hs
   simp only [Bool.and_eq_true,beq_iff_eq,Bool.not_eq_true'] at q
   obtain ⟨⟨⟨⟨⟨rfl,rfl⟩,hdel⟩,ht⟩,hok⟩,hni⟩:=q
   obtain ⟨nm,bs,mro,ns,qn,hd,sn,sub,ab,col,del⟩:=cd
   dsimp only at hm hdel hok hni
   subst hm hdel
   have hsl:sl=#[k0,k1,k2,k3,some (.builtin n),k5]:=by
    obtain ⟨l⟩:=sl
    simp only at hs
    rw [hs]
   subst hsl
   exact ⟨bm,ns,nm,qn,bs,hd,sn,sub,ab,col,dd,k0,k1,k2,k3,k5,_,X _ _ ho,.of_isNs (PySem.W.isNs_of_in X hok),PySem.W.nsMap_none_of_in X hok hni,PySem.W.tail_of_in X ht⟩
  ·cases q
 ·cases q
theorem XCls.of {K:PySem.W.Frag} {mg:Str→Option Value} {x:Str} {C:Addr} (n:PySem.W.nsIn K mainGlobals x=some (some (.ref C))) (m:mg x=some (.ref C)) (q:PySem.W.excIn K C veMro "ValueError.__new__"=true):XCls K mg x veMro "ValueError.__new__" :=
 ⟨C,n,m,fun _ X=>own_of X m q⟩
noncomputable def xwIn (K:PySem.W.Frag) (T:List Str) (Cn:Addr):Bool:=T.all fun y=>match PySem.W.nsIn K mainGlobals y with
 | some (some (.ref C))=>PySem.W.exmOne K (.ref C) (.ref Cn) == some true
 | _=>false
theorem xw_of {K:PySem.W.Frag} {T:List Str} {Cn:Addr} (h:xwIn K T Cn=true):∀ y∈T,∃ C,PySem.W.nsIn K mainGlobals y=some (some (.ref C))∧PySem.W.exmOne K (.ref C) (.ref Cn)=some true:=fun y hy=>by
 have q:=List.all_eq_true.mp h y hy
 split at q
 ·rename_i C e
  exact ⟨C,e,by simpa using q⟩
 ·cases q
end L2
namespace L2
open PySem PySem.Spec PyProof.Rows
noncomputable def dDic:Ev→List Cell→R D:=fun _ c=>.ok .dic c
noncomputable def dSlT (a:Ev→List Cell→R D) (lo hi:Ev→List Cell→R (Option Int)):Ev→List Cell→R D:=fun e c=>(a e c).bind fun x c=>(lo e c).bind fun l c=>(hi e c).bind fun u c=>match x with
 | .tup xs=>if HT.sIx xs.length 0 l=0∧HT.sIx xs.length xs.length u=xs.length then .bad else .ok (.tup (cutD xs l u)) c
 | _=>.bad
noncomputable def catT:D→D→List Cell→R D:=fun x y c=>match x,y with
 | .tup l,.tup m=>if l.length + m.length≤sizeLine then .ok (.tup (l ++ m)) c else .bad
 | _,_=>.bad
section
variable {X:Cx}
theorem op_catE:OpR X (binaryOp .Add) (fun x y H Q=>∃ a b ys,x=.ref a∧y=.ref b∧SqT X.K H a []∧SqT X.K H b ys∧Q (.ref b) H):=by
 intro pins s σ H x y v u Q I rx ry h
 obtain ⟨a,b,ys,rfl,rfl,ha,hb,q⟩:=h
 cases rx
 cases ry
 obtain ⟨its,r1,p1,_⟩:=I.tuple ha
 obtain ⟨its2,r2,p2,_⟩:=I.tuple hb
 cases r1
 obtain ⟨⟨cls,dd,data,sl⟩,ho,hc,n,hd⟩:=id p1
 obtain ⟨⟨cls2,dd2,data2,sl2⟩,ho2,hc2,n2,hd2⟩:=id p2
 simp only at hc hd hc2 hd2
 subst hc hd hc2 hd2
 exact concat_meets ⟨_,ho,rfl⟩ ⟨_,ho2,rfl⟩ noFill_tuple_add seq_tuple_add PySem.F.slot_tuple_add PySem.F.entry_tuple_add (PySem.F.args_tuple_add_2 _ _)
   (tuple_addW0 a b [].toArray its2.toArray n n2 dd dd2 sl sl2 rfl) ⟨ho,ho2,⟨.ref b,H,I,rfl,q⟩⟩
theorem od_catT:OpR X (binaryOp .Add) (r2 X.K catT):=by
 intro pins s σ H v u vv uu Q I rv ru h
 obtain ⟨ρ,x,y,c,W,rx,ry,p⟩:=h
 unfold catT at p
 split at p
 ·rename_i l m
  split at p
  ·rename_i hl
   obtain ⟨a,xs,rfl,sa,ra⟩:=rx
   obtain ⟨b,ys,rfl,sb,rb⟩:=ry
   by_cases hz:xs=[]
   ·subst hz
    have:l=[]:=by have:=ra.length; exact List.length_eq_zero_iff.mp (by simpa using this.symm)
    subst this
    exact op_catE pins s σ H _ _ vv uu Q I rv ru ⟨a,b,ys,rfl,rfl,SqT.of sa,SqT.of sb,p.here W ⟨b,ys,rfl,sb,rb⟩⟩
   ·refine op_catT pins s σ H _ _ vv uu Q I rv ru ⟨a,b,xs,ys,rfl,rfl,SqT.of sa,SqT.of sb,hz,by rw [ra.length,rb.length]; exact hl,fun z=>?_,fun _=>new_tup W (ra.append rb) p⟩
    refine p.here W ⟨a,xs ++ ys,rfl,by rw [z,List.append_nil]; exact sa,ra.append rb⟩
  ·exact p.elim
 ·exact p.elim
end
end L2
namespace L2
open PySem PySem.Spec PyProof.Rows
noncomputable def repM:D→D→List Cell→R D:=fun x y c=>match x,y with
 | .lst l,.int k=>if -(2 ^ 63)≤k∧k < 2 ^ 63∧l.length * k.toNat≤sizeLine∧noRefs l=true then .ok (.ref c.length) (c ++ [.lst (List.replicate k.toNat l).flatten]) else .bad
 | _,_=>.bad
noncomputable def dExtend (o a:Ev→List Cell→R D):Ev→List Cell→R D:=fun e c=>(o e c).bind fun x c=>match x with
 | .ref k=>(a e c).bind fun y c=>match y with
  | .lst m=>match c[k]? with
   | some (.lst l)=>if l.length + m.length≤sizeLine∧noRefs m=true then .ok .non (c.set k (.lst (l ++ m))) else .bad
   | none=>.bad
  | _=>.bad
 | _=>.bad
theorem pd_extend {X:Cx} {o e:Expr} {dO da:Ev→List Cell→R D} {apos cpos:Pos} (ho:PEd X o dO) (ha:PEd X e da)
  (hbase:attributeBase o "extend" X.env (eval o X.env)=eval o X.env:=by rfl)
  (hfew:((backTo cpos (starEach [e] X.env)).all (fun x=>!x.1) && (backToKw cpos (keywordEach [] X.env)).all (fun x=>x.1.isSome)
   && decide ([e].length + ([]:List Keyword).length + (if ([]:List Keyword).isEmpty then 0 else 1) < 30))=true:=by exact starFew rfl)
  (hline:(apos.endLine == cpos.line)=true:=by rfl) (hs:starEach [e] X.env=(false,eval e X.env) :: starEach [] X.env:=by exact starE rfl) (hplain:(backTo cpos (starEach [] X.env)).any (·.1)=false:=by exact starAny rfl) :
  PEd X (.Call (.Attribute o "extend" apos) [e] [] cpos) (dExtend dO da) :=
 (pe_bm PySem.F.plainAttrs_list PySem.F.slot_list_extend PySem.F.type_list_extend mt_extend ho (pa_cons ha pa_nil hs) hbase hfew hline hs hplain).imp fun σ H Q h=>by
  obtain ⟨ρ,e,c,W,V,p⟩:=h
  refine ⟨ρ,e,c,W,V,post.bind p fun x c1 ρ1 H1 v _ W1 X1 r1 p1=>?_⟩
  cases x with
  | ref k =>
   obtain ⟨a,rfl,ha⟩:=r1
   obtain ⟨xs,hx⟩:=W1.at' (List.mem_of_getElem? ha)
   refine ⟨.inl ⟨rfl,xs,SqL.of hx⟩,ρ1,e,c1,W1,V.mono W X1,post.bind p1 fun y c2 ρ2 H2 u _ W2 X2 r2 p2=>?_⟩
   cases y with
   | lst m =>
    obtain ⟨b,zs,rfl,sb,rb⟩:=r2
    dsimp only at p2
    split at p2
    ·rename_i l hl
     split at p2
     ·rename_i hh
      obtain ⟨nr,ys,hy,rl⟩:=W2.cel k a _ (X2.pre k a ha) hl
      refine ⟨a,b,ys,zs,rfl,rfl,hy,sb.1,by rw [rl.length,rb.length]; exact hh.1,?_⟩
      refine p2 ρ2 _ .non (W2.write (X2.pre k a ha) (by rw [noRefs_append,nr,hh.2]; rfl) (rl.append rb)) (Ext.write (X2.pre k a ha)) rfl
     ·exact p2.elim
    ·exact p2.elim
   | _=>exact p2.elim
  | _=>exact p1.elim
section
variable (e:Ev) (c:List Cell) (o a:Ev→List Cell→R D)
@[simp] theorem x_repM (m:List D) (k:Int):repM (.lst m) (.int k) c=if -(2 ^ 63)≤k∧k < 2 ^ 63∧m.length * k.toNat≤sizeLine∧noRefs m=true then .ok (.ref c.length) (c ++ [.lst (List.replicate k.toNat m).flatten]) else .bad:=rfl
end
noncomputable def allInts:List Expr→Option (List Int)
 | []=>some []
 | e :: r=>match e with
  | .Constant (.int i) _ _=>(allInts r).map (i :: ·)
  | _=>none
noncomputable def dInts (l:List Int):Ev→List Cell→R (List D):=fun _ c=>.ok (l.map D.int) c
theorem pd_ints {X:Cx}:∀ {es:List Expr} {l:List Int},allInts es=some l→PAd X es (dInts l)
 | [],l,h=>by cases h; exact pd_nil
 | e :: es,l,h=>by
  unfold allInts at h
  split at h
  ·rename_i i j pos
   cases q:allInts es with
   | none=>rw [q] at h; cases h
   | some r =>
    rw [q] at h
    cases h
    exact pd_cons pd_int (pd_ints q) (starE rfl)
  ·cases h
@[simp] theorem x_ints (l:List Int) (e:Ev) (c:List Cell):dInts l e c=.ok (l.map D.int) c:=rfl
end L2
namespace L2
open PySem
noncomputable abbrev Up (l:List Nat):Prop:=l.Pairwise (· < ·)
theorem getD_list (xs:Array Nat) (i d:Nat):xs.getD i d=xs.toList.getD i d:=by
 simp [Array.getD_eq_getD_getElem?,List.getD_eq_getElem?_getD]
theorem up_lt {l:List Nat} (h:Up l) {i k:Nat} (hik:i < k) (hk:k < l.length):l.getD i 0 < l.getD k 0:=by
 have:=List.pairwise_iff_getElem.mp h i k (by omega) hk hik
 simpa [List.getD_eq_getElem?_getD,List.getElem?_eq_getElem hk,List.getElem?_eq_getElem (show i < l.length by omega)] using this
noncomputable def Parts (l:List Nat) (j p:Nat):Prop:=p≤l.length∧(∀ i,i < p→l.getD i 0 < j)∧∀ i,p≤i→i < l.length→j≤l.getD i 0
theorem below_go {xs:Array Nat} {j:Nat} (h:Up xs.toList):∀ fuel lo hi,lo≤hi→hi≤xs.toList.length→hi - lo≤fuel→(∀ i,i < lo→xs.toList.getD i 0 < j)→(∀ i,hi≤i→i < xs.toList.length→j≤xs.toList.getD i 0) →
  Parts xs.toList j (SetTable.below.go xs j fuel lo hi)
 | 0,lo,hi,h1,h2,h3,h4,h5=>⟨by unfold SetTable.below.go; omega,fun i hi'=>h4 i (by unfold SetTable.below.go at hi'; exact hi'),fun i hi'=>h5 i (by unfold SetTable.below.go at hi'; omega)⟩
 | fuel + 1,lo,hi,h1,h2,h3,h4,h5=>by
  unfold SetTable.below.go
  by_cases hl:lo < hi
  ·rw [if_pos hl]
   dsimp only
   have hm:(lo + hi) / 2 < xs.toList.length:=by omega
   have he:xs.getD ((lo + hi) / 2) j=xs.toList.getD ((lo + hi) / 2) 0:=by
    rw [getD_list]; simp [List.getD_eq_getElem?_getD,List.getElem?_eq_getElem hm]
   rw [he]
   by_cases hc:xs.toList.getD ((lo + hi) / 2) 0 < j
   ·rw [if_pos hc]
    refine below_go h fuel _ _ (by omega) h2 (by omega) (fun i hi'=>?_) h5
    by_cases hq:i=(lo + hi) / 2
    ·rw [hq]; exact hc
    ·exact Nat.lt_trans (up_lt h (show i < (lo + hi) / 2 by omega) hm) hc
   ·rw [if_neg hc]
    refine below_go h fuel _ _ (by omega) (by omega) (by omega) h4 (fun i hi' hl'=>?_)
    by_cases hq:i=(lo + hi) / 2
    ·rw [hq]; omega
    ·exact Nat.le_trans (by omega) (Nat.le_of_lt (up_lt h (show (lo + hi) / 2 < i by omega) hl'))
  ·rw [if_neg hl]
   exact ⟨by omega,h4,fun i hi'=>h5 i (by omega)⟩
theorem below_parts {xs:Array Nat} (h:Up xs.toList) (j:Nat):Parts xs.toList j (SetTable.below xs j):=by
 unfold SetTable.below
 exact below_go h _ _ _ (Nat.zero_le _) (by simp) (by simp) (fun i hi=>absurd hi (Nat.not_lt_zero _)) (fun i h1 h2=>by simp at h2; omega)
theorem below_zero {xs:Array Nat} (h:Up xs.toList):SetTable.below xs 0=0:=by
 obtain ⟨_,h2,_⟩:=below_parts h 0
 rcases Nat.eq_zero_or_pos (SetTable.below xs 0) with e | e
 ·exact e
 ·exact absurd (h2 0 e) (Nat.not_lt_zero _)
theorem below_next {xs:Array Nat} (h:Up xs.toList) {i:Nat} (hi:i < xs.toList.length):SetTable.below xs (xs.toList.getD i 0 + 1)=i + 1:=by
 obtain ⟨h1,h2,h3⟩:=below_parts h (xs.toList.getD i 0 + 1)
 rcases Nat.lt_trichotomy (SetTable.below xs (xs.toList.getD i 0 + 1)) (i + 1) with e | e | e
 ·have:=h3 i (by omega) hi; omega
 ·exact e
 ·have a:=h2 (i + 1) e
  have b:=up_lt h (show i < i + 1 by omega) (show i + 1 < xs.toList.length by omega)
  omega
theorem below_mem {xs:Array Nat} (h:Up xs.toList) {j:Nat} (hj:j∈xs.toList):xs[SetTable.below xs j]? = some j:=by
 obtain ⟨i,hi,e⟩:=List.getElem_of_mem hj
 obtain ⟨h1,h2,h3⟩:=below_parts h j
 have e':xs.toList.getD i 0=j:=by rw [List.getD_eq_getElem?_getD,List.getElem?_eq_getElem hi]; exact e
 have hp:SetTable.below xs j=i:=by
  rcases Nat.lt_trichotomy (SetTable.below xs j) i with q | q | q
  ·have a:=h3 (SetTable.below xs j) (Nat.le_refl _) (by omega)
   have b:=up_lt h q hi
   omega
  ·exact q
  ·have a:=h2 i q; omega
 rw [hp,← Array.getElem?_toList,List.getElem?_eq_getElem hi,e]
theorem up_put {xs:Array Nat} (h:Up xs.toList) {j:Nat} (hj:j∉xs.toList):Up (SetTable.insertAt xs (SetTable.below xs j) j).toList:=by
 rw [SetTable.toList_insertAt]
 obtain ⟨h1,h2,h3⟩:=below_parts h j
 generalize SetTable.below xs j=p at h1 h2 h3
 have ht:∀ a∈xs.toList.take p,a < j:=by
  intro a ha
  obtain ⟨i,hi,e⟩:=List.getElem_of_mem ha
  have hi':i < p∧i < xs.toList.length:=by simp at hi ⊢; omega
  have:=h2 i hi'.1
  rw [List.getElem_take] at e
  rw [List.getD_eq_getElem?_getD,List.getElem?_eq_getElem hi'.2] at this
  simpa [← e] using this
 have hd:∀ a∈xs.toList.drop p,j < a:=by
  intro a ha
  have hm:a∈xs.toList:=List.mem_of_mem_drop ha
  obtain ⟨i,hi,e⟩:=List.getElem_of_mem ha
  have hi':p + i < xs.toList.length:=by simp at hi ⊢; omega
  have:=h3 (p + i) (by omega) hi'
  rw [List.getElem_drop] at e
  rw [List.getD_eq_getElem?_getD,List.getElem?_eq_getElem hi'] at this
  have hle:j≤a:=by simpa [← e] using this
  exact Nat.lt_of_le_of_ne hle fun q=>hj (q ▸ hm)
 refine List.pairwise_append.mpr ⟨h.sublist (List.take_sublist _ _),List.pairwise_cons.mpr ⟨hd,h.sublist (List.drop_sublist _ _)⟩,fun a ha b hb=>?_⟩
 rcases List.mem_cons.mp hb with rfl | hb
 ·exact ht a ha
 ·exact Nat.lt_trans (ht a ha) (hd b hb)
theorem pigeon:∀ (n:Nat) (l:List Nat),(∀ j,j < n→j∈l)→n≤l.length
 | 0,_,_=>Nat.zero_le _
 | n + 1,l,h=>by
  have hn:=h n (Nat.lt_succ_self _)
  have:=pigeon n (l.erase n) fun j hj=>(List.mem_erase_of_ne (by omega)).mpr (h j (by omega))
  rw [List.length_erase_of_mem hn] at this
  have:=List.length_pos_of_mem hn
  omega
noncomputable def cov (mask:Nat):Nat→Nat→Nat→Nat→Nat→Nat→Bool
 | 0,_,_,_,_,_=>false
 | n + 1,j,more,i,q,acc =>
  if acc ||| (1 <<< j)=2 ^ (mask + 1) - 1 then true
  else if more > 0 then cov mask n (j + 1) (more - 1) i q (acc ||| (1 <<< j))
  else cov mask n ((i * 5 + 1 + q / 32) % (mask + 1)) (SetTable.runEnd mask ((i * 5 + 1 + q / 32) % (mask + 1)) - (i * 5 + 1 + q / 32) % (mask + 1)) ((i * 5 + 1 + q / 32) % (mask + 1)) (q / 32) (acc ||| (1 <<< j))
noncomputable def covAll (mask:Nat):Bool:=(List.range 128).all fun h=>cov mask (10 * (mask + 15)) (h % (mask + 1)) (SetTable.runEnd mask (h % (mask + 1)) - h % (mask + 1)) (h % (mask + 1)) h 0
noncomputable def covR (mask:Nat):Nat→Nat→Nat→Nat→Bool
 | 0,_,_,_=>false
 | n + 1,i,q,acc =>
  if acc ||| ((2 ^ (SetTable.runEnd mask i + 1 - i) - 1) <<< i)=2 ^ (mask + 1) - 1 then true
  else covR mask n ((i * 5 + 1 + q / 32) % (mask + 1)) (q / 32) (acc ||| ((2 ^ (SetTable.runEnd mask i + 1 - i) - 1) <<< i))
noncomputable def covRAll (mask:Nat):Bool:=(List.range 128).all fun h=>covR mask (mask + 15) (h % (mask + 1)) h 0
theorem cov7:covAll 7=true:=by decide +kernel
theorem cov31:covAll 31=true:=by decide +kernel
theorem cov127:covAll 127=true:=by decide +kernel
theorem covR31:covRAll 31=true:=by decide +kernel
theorem covR127:covRAll 127=true:=by decide +kernel
end L2
namespace L2
open PySem
theorem bit_step (acc j k:Nat):(acc ||| (1 <<< j)).testBit k=(acc.testBit k || decide (k=j)):=by
 rw [Nat.testBit_or,Nat.one_shiftLeft,Nat.testBit_two_pow]
 by_cases h:j=k
 ·subst h; simp
 ·simp [h,Ne.symm h]
theorem cov_le {mask:Nat}:∀ n j more i q acc,cov mask n j more i q acc=true→∀ k,acc.testBit k=true→k≤mask
 | 0,_,_,_,_,_,h,_,_=>by cases h
 | n + 1,j,more,i,q,acc,h,k,hk=>by
  have hk':(acc ||| (1 <<< j)).testBit k=true:=by rw [bit_step,hk]; rfl
  unfold cov at h
  split at h
  ·rename_i e
   rw [e,Nat.testBit_two_pow_sub_one] at hk'
   have:=of_decide_eq_true hk'; omega
  ·split at h
   ·exact cov_le _ _ _ _ _ _ h k hk'
   ·exact cov_le _ _ _ _ _ _ h k hk'
theorem slot_two {t:SetTable} (hd:t.dummies=#[]) (j:Nat):t.slot j=.empty∨∃ i,t.slot j=.live i:=by
 unfold SetTable.slot
 dsimp only
 split
 ·exact .inr ⟨_,rfl⟩
 ·rw [hd]
  exact .inl rfl
theorem go_finds {t:SetTable} {h:Int} (hd:t.dummies=#[]):∀ n (p:SetTable.Probe) acc fuel,cov t.mask n p.j p.more p.i p.perturb acc=true→p.dummy=none→n≤fuel →
  (∀ k,acc.testBit k=true→t.slot k≠.empty)→(∃ j,j≤t.mask∧t.slot j=.empty) →
  ∃ j,SetTable.probe.go t (fun _=>h + 1) h fuel p=some (.empty j none)∧t.slot j=.empty∧j≤t.mask
 | 0,_,_,_,h,_,_,_,_=>by simp [cov] at h
 | n + 1,p,acc,0,_,_,h,_,_=>by omega
 | n + 1,p,acc,fuel + 1,hc,hn,hf,ha,hj=>by
  have hle:p.j≤t.mask:=by
   have hk':(acc ||| (1 <<< p.j)).testBit p.j=true:=by rw [bit_step]; simp
   unfold cov at hc
   split at hc
   ·rename_i e
    rw [e,Nat.testBit_two_pow_sub_one] at hk'
    have:=of_decide_eq_true hk'; omega
   ·split at hc
    ·exact cov_le _ _ _ _ _ _ hc _ hk'
    ·exact cov_le _ _ _ _ _ _ hc _ hk'
  unfold SetTable.probe.go
  rcases slot_two hd p.j with e | ⟨i,e⟩
  ·rw [e]
   dsimp only
   exact ⟨p.j,by rw [hn],e,hle⟩
  ·rw [e]
   dsimp only
   have hne:(h + 1 == h)=false:=by simp; omega
   rw [hne]
   simp only [Bool.false_eq_true,if_false]
   have ha':∀ k,(acc ||| (1 <<< p.j)).testBit k=true→t.slot k≠.empty:=by
    intro k hk
    rw [bit_step,Bool.or_eq_true,decide_eq_true_eq] at hk
    rcases hk with hk | rfl
    ·exact ha k hk
    ·rw [e]; intro q; cases q
   unfold cov at hc
   split at hc
   ·rename_i ef
    obtain ⟨j0,h0,e0⟩:=hj
    exact absurd e0 (ha' j0 (by rw [ef,Nat.testBit_two_pow_sub_one]; exact decide_eq_true (by omega)))
   ·split at hc
    ·rename_i hm
     have hadv:t.advance p={ p with j:=p.j + 1,more:=p.more - 1 }:=by unfold SetTable.advance; rw [if_pos hm]
     rw [hadv]
     exact go_finds hd n _ _ fuel hc hn (by omega) ha' hj
    ·rename_i hm
     have hadv:t.advance p={ p with j:=(p.i * 5 + 1 + p.perturb / 32) % (t.mask + 1),more:=SetTable.runEnd t.mask ((p.i * 5 + 1 + p.perturb / 32) % (t.mask + 1)) - (p.i * 5 + 1 + p.perturb / 32) % (t.mask + 1),i:=(p.i * 5 + 1 + p.perturb / 32) % (t.mask + 1),perturb:=p.perturb / 32 }:=by
      unfold SetTable.advance; rw [if_neg hm]; rfl
     rw [hadv]
     exact go_finds hd n _ _ fuel hc hn (by omega) ha' hj
theorem bits_small {n:Nat} (h:n < 128):SetTable.bits (n:Int)=n:=by
 unfold SetTable.bits
 have:((n:Int) % (2 ^ 64:Int))=n:=Int.emod_eq_of_lt (by omega) (by omega)
 rw [this]; rfl
noncomputable def okMask (m:Nat):Prop:=m=7∨m=31∨m=127
theorem cov_of {m:Nat} (h:okMask m) {n:Nat} (hn:n < 128):cov m (10 * (m + 15)) (n % (m + 1)) (SetTable.runEnd m (n % (m + 1)) - n % (m + 1)) (n % (m + 1)) n 0=true:=by
 have:covAll m=true:=h.elim (fun e=>e ▸ cov7) fun h=>h.elim (fun e=>e ▸ cov31) fun e=>e ▸ cov127
 exact List.all_eq_true.mp this n (List.mem_range.mpr hn)
theorem free_slot {t:SetTable} {n:Nat} (hd:t.dummies=#[]) (hm:okMask t.mask) (hn:n < 128) (hs:t.place.toList.length≤t.mask) (hu:Up t.place.toList) :
  ∃ j,t.freeSlot (n:Int)=some (j,false)∧j∉t.place.toList∧j≤t.mask:=by
 have hmem:∀ j,t.slot j=.empty→j∉t.place.toList:=by
  intro j e hj
  unfold SetTable.slot at e
  dsimp only at e
  rw [below_mem hu hj] at e
  simp at e
 have hemp:∀ j,j∉t.place.toList→t.slot j=.empty:=by
  intro j hj
  rcases slot_two hd j with e | ⟨i,e⟩
  ·exact e
  ·unfold SetTable.slot at e
   dsimp only at e
   split at e
   ·rename_i q
    have:=eq_of_beq q
    rw [← Array.getElem?_toList] at this
    exact absurd (List.mem_of_getElem? this) hj
   ·split at e <;> cases e
 have hex:∃ j,j≤t.mask∧t.slot j=.empty:=by
  by_cases q:∃ j,j≤t.mask∧j∉t.place.toList
  ·obtain ⟨j,a,b⟩:=q; exact ⟨j,a,hemp j b⟩
  ·have:=pigeon (t.mask + 1) t.place.toList fun j hj=>Classical.byContradiction fun x=>q ⟨j,by omega,x⟩
   omega
 have hb:=bits_small hn
 obtain ⟨j,e,e1,e2⟩:=go_finds (t:=t) (h:=(n:Int)) hd (10 * (t.mask + 15)) (t.probeStart n) 0 (10 * SetTable.turns t.mask)
  (by show cov _ _ (SetTable.bits n % _) (SetTable.runEnd t.mask (SetTable.bits n % (t.mask + 1)) - SetTable.bits n % (t.mask + 1)) (SetTable.bits n % _) (SetTable.bits n) _=true; rw [hb]; exact cov_of hm hn) rfl (Nat.le_refl _) (fun k hk=>by simp at hk) hex
 refine ⟨j,?_,hmem j e1,e2⟩
 unfold SetTable.freeSlot SetTable.probe
 rw [e]
 rfl
theorem run_bit (c i k:Nat):((2 ^ c - 1) <<< i).testBit k=decide (i≤k∧k < i + c):=by
 rw [Nat.testBit_shiftLeft,Nat.testBit_two_pow_sub_one]
 by_cases h:i≤k
 ·simp only [ge_iff_le,h,decide_true,Bool.true_and,true_and]
  exact decide_eq_decide.mpr (by omega)
 ·simp [h]
theorem lay_free {mask:Nat} {owner:Array (Option Nat)}:∀ n i q acc fuel,covR mask n i q acc=true→n≤fuel→(∀ k,k≤mask→acc.testBit k=true→owner.getD k (some 0)≠none) →
  (∃ j,j≤mask∧owner.getD j (some 0)=none)→∃ j,SetTable.layClean.free mask owner fuel i q=some j∧owner.getD j (some 0)=none
 | 0,_,_,_,_,h,_,_,_=>by simp [covR] at h
 | n + 1,i,q,acc,0,_,h,_,_=>by omega
 | n + 1,i,q,acc,fuel + 1,hc,hf,ha,hj=>by
  unfold SetTable.layClean.free
  cases hr:(List.range (SetTable.runEnd mask i + 1 - i)).find? (fun k=>(owner.getD (i + k) (some 0)).isNone) with
  | some k =>
   dsimp only
   have:=List.find?_some hr
   exact ⟨i + k,rfl,by simpa using this⟩
  | none =>
   dsimp only
   have hno:=List.find?_eq_none.mp hr
   have ha':∀ k,k≤mask→(acc ||| ((2 ^ (SetTable.runEnd mask i + 1 - i) - 1) <<< i)).testBit k=true→owner.getD k (some 0)≠none:=by
    intro k hk hb
    rw [Nat.testBit_or,run_bit,Bool.or_eq_true,decide_eq_true_eq] at hb
    rcases hb with hb | hb
    ·exact ha k hk hb
    ·intro e
     have:=hno (k - i) (List.mem_range.mpr (by omega))
     rw [show i + (k - i)=k by omega,e] at this
     exact this rfl
   unfold covR at hc
   split at hc
   ·rename_i ef
    obtain ⟨j0,h0,e0⟩:=hj
    exact absurd e0 (ha' j0 h0 (by rw [ef,Nat.testBit_two_pow_sub_one]; exact decide_eq_true (by omega)))
   ·exact lay_free n _ _ _ fuel hc (by omega) ha' hj
noncomputable def okMask2 (m:Nat):Prop:=m=31∨m=127
theorem covR_of {m:Nat} (h:okMask2 m) {n:Nat} (hn:n < 128):covR m (m + 15) (n % (m + 1)) n 0=true:=by
 have:covRAll m=true:=h.elim (fun e=>e ▸ covR31) fun e=>e ▸ covR127
 exact List.all_eq_true.mp this n (List.mem_range.mpr hn)
theorem filt_set:∀ (l:List (Option Nat)) (j k:Nat),j < l.length→l.getD j (some 0)=none→((l.set j (some k)).filterMap id).Perm (k :: l.filterMap id)
 | [],_,_,h,_=>absurd h (Nat.not_lt_zero _)
 | x :: l,0,k,_,e=>by
  have:x=none:=by simpa using e
  subst this
  simp
 | x :: l,j + 1,k,h,e=>by
  have ih:=filt_set l j k (by simpa using h) (by simpa using e)
  rw [List.set_cons_succ]
  cases x with
  | none=>simpa using ih
  | some a =>
   simp only [List.filterMap_cons,id]
   exact (ih.cons a).trans (List.Perm.swap _ _ _)
theorem filt_full:∀ (l:List (Option Nat)),(∀ j,j < l.length→l.getD j (some 0)≠none)→(l.filterMap id).length=l.length
 | [],_=>rfl
 | x :: l,h=>by
  cases x with
  | none=>exact absurd rfl (h 0 (by simp))
  | some a =>
   have:=filt_full l fun j hj=>by simpa using h (j + 1) (by simpa using hj)
   simp [this]
noncomputable def LayI (mask:Nat) (owner:Array (Option Nat)) (k:Nat):Prop:=owner.toList.length=mask + 1∧(owner.toList.filterMap id).Perm (List.range k)
theorem getD_opt (xs:Array (Option Nat)) (i:Nat) (d:Option Nat):xs.getD i d=xs.toList.getD i d:=by
 simp [Array.getD_eq_getD_getElem?,List.getD_eq_getElem?_getD]
theorem lay_step {mask:Nat} {owner:Array (Option Nat)} {k n:Nat} (hm:okMask2 mask) (hn:n < 128) (I:LayI mask owner k) (hk:k≤mask) :
  ∃ j,SetTable.layClean.free mask owner (SetTable.turns mask) (SetTable.bits n % (mask + 1)) (SetTable.bits n)=some j∧LayI mask (owner.setIfInBounds j (some k)) (k + 1):=by
 obtain ⟨h1,h2⟩:=I
 have hex:∃ j,j≤mask∧owner.getD j (some 0)=none:=by
  by_cases q:∃ j,j≤mask∧owner.getD j (some 0)=none
  ·exact q
  ·have:=filt_full owner.toList fun j hj e=>q ⟨j,by omega,by rw [getD_opt]; exact e⟩
   have h3:=h2.length_eq
   rw [List.length_range] at h3
   omega
 obtain ⟨j,e,e1⟩:=lay_free (mask + 15) _ _ 0 (SetTable.turns mask) (covR_of hm hn) (Nat.le_refl _) (fun k _ hb=>by simp at hb) hex
 refine ⟨j,by rw [bits_small hn]; exact e,by simpa using h1,?_⟩
 rw [getD_opt] at e1
 have hj:j < owner.toList.length:=by
  rcases Nat.lt_or_ge j owner.toList.length with q | q
  ·exact q
  ·rw [List.getD_eq_getElem?_getD,List.getElem?_eq_none q] at e1; cases e1
 rw [Array.toList_setIfInBounds]
 refine (filt_set _ j k hj e1).trans ?_
 rw [List.range_succ]
 exact (h2.cons k).trans (List.perm_append_singleton k _).symm
theorem lay_all {mask:Nat} (hm:okMask2 mask):∀ (hs:List Int) (owner:Array (Option Nat)) (k:Nat),(∀ h∈hs,∃ n:Nat,h=n∧n < 128)→LayI mask owner k→k + hs.length≤mask →
  ∃ ow,hs.foldl (fun acc h=>(do
   let (owner,k) ← acc
   let j ← SetTable.layClean.free mask owner (SetTable.turns mask) (SetTable.bits h % (mask + 1)) (SetTable.bits h)
   pure (owner.setIfInBounds j (some k),k + 1):Option (Array (Option Nat)×Nat))) (some (owner,k))=some (ow,k + hs.length)∧LayI mask ow (k + hs.length)
 | [],owner,k,_,I,_=>⟨owner,rfl,I⟩
 | h :: hs,owner,k,hh,I,hl=>by
  obtain ⟨n,e,hn⟩:=hh h (.head _)
  subst e
  simp only [List.length_cons] at hl
  obtain ⟨j,e,I'⟩:=lay_step hm hn I (by omega)
  obtain ⟨ow,e',I''⟩:=lay_all hm hs _ (k + 1) (fun h x=>hh h (.tail _ x)) I' (by omega)
  refine ⟨ow,?_,by rw [List.length_cons,show k + (hs.length + 1)=k + 1 + hs.length by omega]; exact I''⟩
  rw [List.foldl_cons,List.length_cons,show k + (hs.length + 1)=k + 1 + hs.length by omega,← e']
  congr 1
  show (do let j ← SetTable.layClean.free mask owner (SetTable.turns mask) (SetTable.bits n % (mask + 1)) (SetTable.bits n); pure (owner.setIfInBounds j (some k),k + 1):Option (Array (Option Nat)×Nat))=_
  rw [e]
  rfl
theorem lay_clean {mask:Nat} (hm:okMask2 mask) (hs:Array Int) (hh:∀ h∈hs.toList,∃ n:Nat,h=n∧n < 128) (hl:hs.toList.length≤mask) :
  ∃ ow,SetTable.layClean mask hs=some ow∧LayI mask ow hs.toList.length:=by
 obtain ⟨ow,e,I⟩:=lay_all hm hs.toList (Array.replicate (mask + 1) none) 0 hh ⟨by simp,by simp⟩ (by omega)
 rw [Nat.zero_add] at e I
 refine ⟨ow,?_,I⟩
 unfold SetTable.layClean
 rw [← Array.foldl_toList]
 exact congrArg (Option.map (fun x:Array (Option Nat)×Nat=>x.1)) e
theorem range_filt (l:List (Option Nat)):(List.range l.length).filterMap (fun j=>l.getD j none)=l.filterMap id:=by
 have:l=(List.range l.length).map (fun j=>l.getD j none):=by
  apply List.ext_getElem
  ·simp
  ·intro i h1 h2
   simp [List.getD_eq_getElem?_getD,List.getElem?_eq_getElem h1]
 conv=>rhs; rw [this]
 rw [List.filterMap_map]
 rfl
theorem laid_ok {mask:Nat} (hm:okMask2 mask) (f mv:Nat) (led plain:Bool) (hs:Array Int) (hh:∀ h∈hs.toList,∃ n:Nat,h=n∧n < 128) (hl:hs.toList.length≤mask) :
  ∃ place order,SetTable.laid mask f mv led plain hs=some ({ mask:=mask,place:=place,dummies:=#[],finger:=f,led:=led,moves:=mv,plain:=plain },order)∧Up place.toList∧(∀ j∈place.toList,j≤mask)∧place.size=hs.size∧order.toList.Perm (List.range hs.size):=by
 obtain ⟨ow,e,h1,h2⟩:=lay_clean hm hs hh hl
 refine ⟨(((List.range (mask + 1)).filterMap fun j=>(ow.getD j none).map (j,·)).map (·.1)).toArray,(((List.range (mask + 1)).filterMap fun j=>(ow.getD j none).map (j,·)).map (·.2)).toArray,?_,?_,?_,?_,?_⟩
 ·unfold SetTable.laid
  rw [e]
  rfl
 ·show Up ((((List.range (mask + 1)).filterMap fun j=>(ow.getD j none).map (j,·)).map (·.1)).toArray).toList
  show List.Pairwise _ _
  rw [List.pairwise_map]
  refine List.Pairwise.filterMap _ (fun a a' hlt b hb b' hb'=>?_) List.pairwise_lt_range
  cases ha:ow.getD a none <;> rw [ha] at hb <;> simp at hb
  cases ha':ow.getD a' none <;> rw [ha'] at hb' <;> simp at hb'
  rw [← hb,← hb']
  exact hlt
 ·intro j hj
  simp only [List.mem_map,List.mem_filterMap,List.mem_range] at hj
  obtain ⟨⟨a,b⟩,⟨c,hc,hq⟩,rfl⟩:=hj
  cases ha:ow.getD c none <;> rw [ha] at hq <;> simp at hq
  obtain ⟨rfl,_⟩:=hq
  omega
 ·have:((List.range (mask + 1)).filterMap fun j=>(ow.getD j none).map (j,·)).length=(ow.toList.filterMap id).length:=by
   rw [← range_filt,h1,← List.length_map (f:=Prod.snd),List.map_filterMap]
   congr 1
   congr 1
   funext j
   rw [getD_opt]
   cases ow.toList.getD j none <;> rfl
  rw [List.size_toArray,List.length_map,this,h2.length_eq,List.length_range]
  simp
 ·show (((List.range (mask + 1)).filterMap fun j=>(ow.getD j none).map (j,·)).map (·.2)).Perm _
  have:(((List.range (mask + 1)).filterMap fun j=>(ow.getD j none).map (j,·)).map (·.2))=ow.toList.filterMap id:=by
   rw [← range_filt,h1,List.map_filterMap]
   congr 1
   funext j
   rw [getD_opt]
   cases ow.toList.getD j none <;> rfl
  rw [this]
  simpa using h2
end L2
namespace L2
open PySem
structure TblI (t:SetTable) (n:Nat):Prop where
 size:t.place.size=n
 up:Up t.place.toList
 le:∀ j∈t.place.toList,j≤t.mask
 dm:t.dummies=#[]
 mask:(t.mask=7∧n≤4)∨(t.mask=31∧n≤18)∨(t.mask=127∧n≤76)
 plain:t.plain=true
theorem TblI.fits {t:SetTable} {n:Nat} (h:TblI t n):t.fits n=true:=by
 have:=h.mask
 simp only [SetTable.fits,SetTable.fill,h.size,h.dm,Bool.and_eq_true,beq_self_eq_true,true_and,decide_eq_true_eq]
 simp only [List.size_toArray,List.length_nil]
 omega
theorem ti_fresh (led:Bool):TblI (.fresh 0 0 led) 0:=⟨rfl,.nil,fun j h=>by simp [SetTable.fresh] at h,rfl,.inl ⟨rfl,by omega⟩,rfl⟩
noncomputable def HS (es:List (Int×Value)):Prop:=∀ e∈es,∃ n:Nat,e.1=n∧n < 128
theorem lay_new {t:SetTable} {es:Array (Int×Value)} {x:Value} {m:Nat} (I:TblI t es.size) (hm:m < 128) (hn:es.size < 64) :
  ∃ es1 t1,layNew t es (m:Int) x=(es1,t1,false,false)∧es1.size=es.size + 1∧t1.led=t.led∧t1.plain=true∧t1.place.size=es1.size∧Up t1.place.toList∧(∀ j∈t1.place.toList,j≤t1.mask)∧t1.dummies=#[]∧t1.mask=t.mask∧t1.fits es1.size=true:=by
 have hk:=I.mask
 have hok:okMask t.mask:=by unfold okMask; omega
 have hsz:=I.size
 obtain ⟨j,e,h1,h2⟩:=free_slot (t:=t) I.dm hok hm (by simp [hsz]; omega) I.up
 have hnd:(if SetTable.has t.dummies j then SetTable.eraseAt t.dummies (SetTable.below t.dummies j) else t.dummies)=#[]:=by
  rw [I.dm]; rfl
 have hs1:(SetTable.insertAt es (SetTable.below t.place j) ((m:Int),x)).size=es.size + 1:=by
  rw [← Array.length_toList,(SetTable.insertAt_perm ..).length_eq]; simp
 have hs2:(SetTable.insertAt t.place (SetTable.below t.place j) j).size=es.size + 1:=by
  rw [← Array.length_toList,(SetTable.insertAt_perm ..).length_eq]; simp [hsz]
 have hfit:(t.put j).1.fits (es.size + 1)=true:=by
  simp only [SetTable.put,SetTable.fits,SetTable.fill,hnd,hs2,Bool.and_eq_true,beq_self_eq_true,true_and,decide_eq_true_eq]
  simp only [List.size_toArray,List.length_nil]
  omega
 refine ⟨SetTable.insertAt es (SetTable.below t.place j) ((m:Int),x),(t.put j).1,?_,hs1,rfl,I.plain,?_,?_,?_,hnd,rfl,?_⟩
 ·unfold layNew
  rw [e]
  dsimp only
  have hp:(t.put j).2=SetTable.below t.place j:=rfl
  rw [hp,hs1]
  unfold SetTable.orStandIn
  rw [hfit]
  rfl
 ·rw [hs1]; exact hs2
 ·exact up_put I.up h1
 ·intro k hk'
  have:k∈(t.place.push j).toList:=(SetTable.insertAt_perm t.place (SetTable.below t.place j) j).mem_iff.mp hk'
  rw [Array.toList_push,List.mem_append,List.mem_singleton] at this
  rcases this with q | rfl
  ·exact I.le k q
  ·exact h2
 ·rw [hs1]; exact hfit
theorem relay_ok {t:SetTable} {es:Array (Int×Value)} (hp:t.plain=true) (hh:HS es.toList) (hm:(t.mask=7∧es.size=5)∨(t.mask=31∧es.size=19)) :
  ∃ es2 t2,relayAll t es (SetTable.grown es.size)=(es2,t2,false)∧es2.size=es.size∧TblI t2 es2.size∧t2.led=t.led:=by
 have hw:∃ m,SetTable.sizeAbove (SetTable.grown es.size) - 1=m∧((m=31∧es.size=5)∨(m=127∧es.size=19)):=by
  rcases hm with ⟨_,e⟩ | ⟨_,e⟩
  ·rw [e]; exact ⟨31,by decide,.inl ⟨rfl,rfl⟩⟩
  ·rw [e]; exact ⟨127,by decide,.inr ⟨rfl,rfl⟩⟩
 obtain ⟨m,ew,hq⟩:=hw
 have hs:(es.map (·.1)).toList=es.toList.map (·.1):=by simp
 obtain ⟨place,order,e,u1,u2,u3,u4⟩:=laid_ok (mask:=m) (by unfold okMask2; omega) t.finger (t.movedTo m) t.led t.plain (es.map (·.1)) (fun h hx=>by
  rw [hs,List.mem_map] at hx
  obtain ⟨y,hy,rfl⟩:=hx
  exact hh y hy) (by rw [hs,List.length_map,Array.length_toList]; omega)
 rw [Array.size_map] at u3 u4
 have hes:(order.filterMap (es[·]?)).size=es.size:=by
  rw [← Array.length_toList,Array.toList_filterMap]
  exact ((u4.filterMap _).trans (by rw [filterMap_getElem?_range])).length_eq
 have hfit:SetTable.fits { mask:=m,place:=place,dummies:=#[],finger:=t.finger,led:=t.led,moves:=t.movedTo m,plain:=t.plain } es.size=true:=by
  simp only [SetTable.fits,SetTable.fill,u3,Bool.and_eq_true,beq_self_eq_true,true_and,decide_eq_true_eq]
  simp only [List.size_toArray,List.length_nil]
  omega
 refine ⟨order.filterMap (es[·]?),{ mask:=m,place:=place,dummies:=#[],finger:=t.finger,led:=t.led,moves:=t.movedTo m,plain:=t.plain },?_,hes,?_,?_⟩
 rotate_left
 ·rw [hes]
  exact ⟨u3,u1,u2,rfl,.inr (by show (m=31∧_)∨(m=127∧_); omega),hp⟩
 ·rfl
 ·unfold relayAll SetTable.relaid
  rw [ew,e]
  dsimp only
  rw [hes,hfit]
  have hc:coversAll order es.size=true:=by unfold coversAll; exact List.isPerm_iff.mpr u4
  rw [hc]
  rfl
theorem full_cases {t t1:SetTable} {n:Nat} (I:TblI t n) (hm:t1.mask=t.mask) (hs:t1.place.size=n + 1) (hd:t1.dummies=#[]) (hn:n < 64) :
  (t1.tooFull=true→(t1.mask=7∧n + 1=5)∨(t1.mask=31∧n + 1=19))∧(t1.tooFull=false→((t1.mask=7∧n + 1≤4)∨(t1.mask=31∧n + 1≤18)∨(t1.mask=127∧n + 1≤76))):=by
 have hk:=I.mask
 have hz:(#[]:Array Nat).size=0:=rfl
 simp only [SetTable.tooFull,SetTable.fill,hs,hd,hm,hz,decide_eq_true_eq,decide_eq_false_iff_not]
 omega
end L2
namespace L2
open PySem
theorem hash_small {n:Nat} (h:n < 128):hashInt (n:Int)=n:=by
 have:((List.range 128).all fun n=>hashInt (n:Int) == (n:Int))=true:=by decide +kernel
 exact eq_of_beq (List.all_eq_true.mp this n (List.mem_range.mpr h))
noncomputable def byTx (w:World):Bool:=w.params.followText "set-order"
noncomputable def stepS (ns:List Nat) (x:Nat):List Nat:=if x∈ns then ns else ns ++ [x]
noncomputable def Smalls (l:List (Int×Value)) (ns:List Nat):Prop:=(l.map (·.1)).Perm (ns.map fun n:Nat=>(n:Int))∧∀ e∈l,∃ (n:Nat) (tk:Tok),e=((n:Int),.int n tk)∧n < 128
noncomputable def SetI (w:World) (h:Heap) (a:Addr) (ns:List Nat):Prop:=∃ o es ep t,h.get? a=some o∧o.ExactSet∧o.data=.set es ep t∧TblI t es.size∧t.led = !byTx w∧Smalls es.toList ns
theorem Smalls.hs {l:List (Int×Value)} {ns:List Nat} (h:Smalls l ns):HS l:=fun e he=>by
 obtain ⟨n,tk,rfl,hn⟩:=h.2 e he
 exact ⟨n,rfl,hn⟩
theorem Smalls.len {l:List (Int×Value)} {ns:List Nat} (h:Smalls l ns):l.length=ns.length:=by
 have:=h.1.length_eq; simpa using this
theorem Smalls.mem {l:List (Int×Value)} {ns:List Nat} (h:Smalls l ns) (n:Nat):n∈ns↔∃ e∈l,e.1=(n:Int):=by
 constructor
 ·intro hn
  have:(n:Int)∈l.map (·.1):=h.1.mem_iff.mpr (List.mem_map.mpr ⟨n,hn,rfl⟩)
  obtain ⟨e,he,q⟩:=List.mem_map.mp this
  exact ⟨e,he,q⟩
 ·rintro ⟨e,he,q⟩
  have:(n:Int)∈ns.map (fun n:Nat=>(n:Int)):=h.1.mem_iff.mp (List.mem_map.mpr ⟨e,he,q⟩)
  obtain ⟨m,hm,r⟩:=List.mem_map.mp this
  have:m=n:=by omega
  exact this ▸ hm
theorem Smalls.perm {l l':List (Int×Value)} {ns:List Nat} (h:Smalls l ns) (p:l'.Perm l):Smalls l' ns:=⟨(p.map _).trans h.1,fun e he=>h.2 e (p.mem_iff.mp he)⟩
theorem Smalls.push {l:List (Int×Value)} {ns:List Nat} (h:Smalls l ns) {m:Nat} (hm:m < 128) (tk:Tok):Smalls (l ++ [((m:Int),.int m tk)]) (ns ++ [m]):=by
 refine ⟨?_,fun e he=>?_⟩
 ·rw [List.map_append,List.map_append]
  exact h.1.append_right _
 ·rcases List.mem_append.mp he with he | he
  ·exact h.2 e he
  ·rw [List.mem_singleton] at he
   exact ⟨m,tk,he,hm⟩
section
variable {prog:Program} {w:World} {A:Around} {E:Value→Shared→Prop} {s:Shared}
theorem Smalls.els {l:List (Int×Value)} {ns:List Nat} (h:Smalls l ns):ElemsOf (intKind prog w) l:=fun e he=>by
 obtain ⟨n,tk,rfl,hn⟩:=h.2 e he
 exact ⟨⟨n,by simp [intKind,Value.isInt],(hash_small hn).symm⟩,rfl⟩
theorem put_at {h:Heap} {a:Addr} {o:Obj} {es es':Array (Int×Value)} {ep:Nat} {t t':SetTable} (ho:h.get? a=some o) (hd:o.data=.set es ep t) :
  (h.update a (Obj.putSet es' t')).get? a=some { o with data:=.set es' (ep + 1) t' }:=by
 have:=Heap.get?_update_self (Obj.putSet es' t') ho (by rw [putSet_of es' t' hd]; rfl)
 rwa [putSet_of es' t' hd] at this
theorem set_add {a:Addr} {ns:List Nat} {m:Nat} {tk:Tok} {Q:Bool→Shared→Prop} (hm:m < 128) (hS:SetI w s.heap a ns) (hn:ns.length < 64)
  (h:∀ b h',Heap.SameBut a s.heap h'→SetI w h' a (stepS ns m)→Q b { s with heap:=h' }):wpAny (model prog w) A (setAddHashed a (.int m tk) (hashInt m)) Q E s:=by
 obtain ⟨o,es,ep,t,ho,hex,hd,hI,hl,hs⟩:=hS
 have hsz:es.size=ns.length:=by rw [← Array.length_toList]; exact hs.len
 have hel:ElemsOf (intKind prog w) es.toList:=hs.els
 have hkey:(intKind prog w).is (m:Int) (.int m tk)=true:=by simp [intKind,Value.isInt]
 unfold setAddHashed setAddHashedIn
 refine wpAny_holding (wpAny_bind (wpAny_setState_of ho hd hI.fits ?_))
 dsimp only
 rw [byScan_of (knd:=intKind prog w) rfl (by unfold scanBound; omega) hel]
 simp only [↓reduceIte]
 unfold setAddByScan
 refine wpAny_bind (wpAny_bind (wpAny_rule (wpAny_bind (wpAny_setScan_of (knd:=intKind prog w) hkey ho hd hI.fits hel ?_))))
 have hfind:∀ e∈es.toList,(intKind prog w).is (m:Int) e.2=true→e.1=(m:Int):=fun e he q=>by
  obtain ⟨n,tk',rfl,_⟩:=hs.2 e he
  obtain ⟨t',q⟩:=Value.isInt_shape (show Value.isInt (m:Int) (.int (n:Int) tk')=true from q)
  injection q
 cases hr:es.toList.findIdx? (fun e=>(intKind prog w).is (m:Int) e.2) with
 | some j =>
  dsimp only
  obtain ⟨hj,hpj,_⟩:=List.findIdx?_eq_some_iff_getElem.mp hr
  have hmem:m∈ns:=(hs.mem m).mpr ⟨_,List.getElem_mem hj,hfind _ (List.getElem_mem hj) hpj⟩
  refine wpAny_pure (wpAny_pure ?_)
  exact h false s.heap (Heap.SameBut.refl a s.heap) (by unfold stepS; rw [if_pos hmem]; exact ⟨o,es,ep,t,ho,hex,hd,hI,hl,hs⟩)
 | none =>
  dsimp only
  have hmem:m∉ns:=fun hq=>by
   obtain ⟨e,he,q⟩:=(hs.mem m).mp hq
   have:=List.findIdx?_eq_none_iff.mp hr e he
   obtain ⟨n,tk',rfl,_⟩:=hs.2 e he
   have e:n=m:=by dsimp only at q; omega
   subst e
   simp [intKind,Value.isInt] at this
  have hst:stepS ns m=ns ++ [m]:=by unfold stepS; rw [if_neg hmem]
  rw [hst] at h
  rw [hash_small hm]
  have hperm:=layNew_perm t es (m:Int) (.int m tk)
  obtain ⟨es1,t1,e1,q1,q2,q3,q4,q5,q6,q7,q8,q9⟩:=lay_new (x:=.int m tk) hI hm (by omega)
  rw [e1] at hperm ⊢
  dsimp only at hperm ⊢
  rw [Array.toList_push] at hperm
  have hs1:Smalls es1.toList (ns ++ [m]):=(hs.push hm tk).perm hperm
  refine wpAny_bind (wpAny_pure ?_)
  rw [q3]
  simp only [↓reduceIte]
  refine wpAny_bind ?_
  rw [hashByValue_scannable 8 (x:=.int m tk) rfl]
  refine wpAny_pure ?_
  dsimp only [plainKind]
  simp only [↓reduceIte]
  refine wpAny_bind (wpAny_storeSet_of ho hd ?_ (fits_of_scanBound (by unfold scanBound; omega)))
  have ho1:=put_at (es':=es1) (t':=t1) ho hd
  have hsb:=Heap.SameBut.update s.heap a (Obj.putSet es1 t1)
  have hcs:=full_cases hI q8 (q4.trans q1) q7 (by omega)
  cases hf:t1.tooFull with
  | false =>
   simp only [Bool.not_false,Bool.and_false,Bool.false_eq_true,↓reduceIte]
   refine wpAny_pure (wpAny_pure (h true _ hsb ⟨_,es1,ep + 1,t1,ho1,hex,rfl,⟨q4,q5,q6,q7,?_,q3⟩,q2.trans hl,hs1⟩))
   rw [q1]; exact hcs.2 hf
  | true =>
   simp only [Bool.not_false,Bool.and_self,↓reduceIte]
   have hp2:=relayAll_perm t1 es1 (SetTable.grown es1.size)
   obtain ⟨es2,t2,e2,r1,r2,r3⟩:=relay_ok q3 hs1.hs (by rw [q1]; exact hcs.1 hf)
   rw [e2] at hp2 ⊢
   dsimp only at hp2 ⊢
   refine wpAny_bind (wpAny_pure ?_)
   refine wpAny_bind (wpAny_storeSet_of ho1 rfl ?_ (fits_of_scanBound (by unfold scanBound; omega)))
   exact wpAny_pure (wpAny_pure (h true _ (hsb.trans (Heap.SameBut.update _ a _)) ⟨_,es2,ep + 1 + 1,t2,put_at ho1 rfl,hex,rfl,r2,r3.trans (q2.trans hl),hs1.perm hp2⟩))
end
end L2
namespace L2
open PySem PySem.Spec PyProof.Rows
noncomputable def foldS (xs:List Nat):List Nat:=xs.foldl stepS []
theorem foldS_len:∀ (xs ns:List Nat),(xs.foldl stepS ns).length≤ns.length + xs.length
 | [],ns=>by simp
 | x :: xs,ns=>by
  have:=foldS_len xs (stepS ns x)
  have h:(stepS ns x).length≤ns.length + 1:=by unfold stepS; split <;> simp
  rw [List.foldl_cons,List.length_cons]; omega
theorem foldS_take {xs:List Nat} {i:Nat} (h:i < xs.length):foldS (xs.take (i + 1))=stepS (foldS (xs.take i)) xs[i]:=by
 unfold foldS
 rw [List.take_succ_eq_append_getElem h,List.foldl_append]
 rfl
theorem foldS_mono:∀ (xs ns:List Nat),ns.length≤(xs.foldl stepS ns).length
 | [],ns=>Nat.le_refl _
 | x :: xs,ns=>by
  have:=foldS_mono xs (stepS ns x)
  have h:ns.length≤(stepS ns x).length:=by unfold stepS; split <;> simp
  rw [List.foldl_cons]; omega
theorem foldS_part (xs:List Nat) (i:Nat):(foldS (xs.take i)).length≤(foldS xs).length:=by
 have:foldS xs=(xs.drop i).foldl stepS (foldS (xs.take i)):=by
  unfold foldS
  rw [← List.foldl_append,List.take_append_drop]
 rw [this]
 exact foldS_mono _ _
theorem SetI.at {w:World} {h h':Heap} {a:Addr} {ns:List Nat} (x:SetI w h a ns) (k:∀ o,h.get? a=some o→h'.get? a=some o):SetI w h' a ns :=
 let ⟨o,es,ep,t,ho,r⟩:=x; ⟨o,es,ep,t,k o ho,r⟩
section
variable {prog:Program} {w:World} {A:Around} {s:Shared} {E:Value→Shared→Prop}
theorem set_loop {R:Result→Shared→Prop} {I:Addr} {fp wr:List Addr} {G:Array GenState→Array GenState→Prop} {P:Nat→Value→Prop} {St:Nat→Shared→Prop} {xs:List Nat}
  (W:WalksS prog w A.in1 I fp wr G xs.length P St) (S:Addr) (hSf:S∉fp) (hval:∀ (i:Nat) v,(hi:i < xs.length)→P i v→∃ t,v=Value.int (xs[i]:Nat) t) (hx:∀ x∈xs,x < 128) (h64:(foldS xs).length < 64) :
  ∀ (k i:Nat) (s:Shared),xs.length - i=k→i≤xs.length→St i s→SetI w s.heap S (foldS (xs.take i)) →
   (∀ s',Moved (S :: wr) G s s'→SetI w s'.heap S (foldS xs)→R (.ok (.ret .none)) s') →
   codeAny (model prog w) A (.builtin "set.update.loop" ⟨[.ref S,.ref I],[]⟩) R s:=by
 have hSw:S∉wr:=fun h=>hSf (W.sub _ h)
 have hup:∀ b∈wr,b∈S :: wr:=fun b hb=>.tail _ hb
 intro k
 induction k with
 | zero =>
  intro i s hk hi st hS hR
  cases (show i=xs.length by omega)
  refine codeAny_builtin F.entry_set_update_loop ?_
  rw [Around.under_plainId F.plain_set_update_loop _]
  show wpAny _ A.in1 (pyNext (.ref I) >>= _) _ _ s
  refine wpAny_bind (W.done s _ _ st fun s' hm=>?_)
  rw [List.take_length] at hS
  exact wpAny_pure (hR s' (hm.mono hup) (hS.at fun o e=>hm.heap S _ hSw e))
 | succ k ih =>
  intro i s hk hi st hS hR
  have hlt:i < xs.length:=by omega
  refine codeAny_builtin F.entry_set_update_loop ?_
  rw [Around.under_plainId F.plain_set_update_loop _]
  show wpAny _ A.in1 (pyNext (.ref I) >>= _) _ _ s
  refine wpAny_bind (W.item i s _ _ hlt st fun v s' hP st' hm=>?_)
  obtain ⟨t,rfl⟩:=hval i v hlt hP
  have hS':SetI w s'.heap S (foldS (xs.take i)):=hS.at fun o e=>hm.heap S _ hSw e
  show wpAny _ A.in1 (holding [Value.int (xs[i]:Nat) t] (setAdd S (.int (xs[i]:Nat) t)) >>= _) _ _ s'
  refine wpAny_bind (wpAny_holding ?_)
  unfold setAdd
  refine wpAny_holding (wpAny_bind ((intKind prog w).pyHash (k:=(xs[i]:Nat)) (by simp [intKind,Value.isInt]) ?_))
  have hl:(foldS (xs.take i)).length < 64:=Nat.lt_of_le_of_lt (foldS_part xs i) h64
  refine set_add (s:={ s' with toks:=s'.toks + 1 }) (hx _ (List.getElem_mem hlt)) hS' hl fun b h' hsb hS2=>?_
  rw [← foldS_take hlt] at hS2
  refine wpAny_pure ⟨plainId_quiet F.plain_set_update_loop _,ih (i + 1) _ (by omega) hlt (W.frame _ s' _ _ st' (Nat.le_succ _) fun b hb o e=>?_) hS2 fun s'' hm'' hS''=>?_⟩
  ·rw [hsb.2 b (fun q:b=S=>hSf (q ▸ hb))]; exact e
  ·refine hR s'' (Moved.trans W.gtrans ((hm.mono hup).then_heap (Nat.le_succ _) fun b o hb e=>?_) hm'') hS''
   rw [hsb.2 b (fun q:b=S=>hb (q ▸ .head _))]; exact e
noncomputable def emptyS (w:World):Obj:={ cls:=.type "set",dict:=none,data:=.set #[] 0 (.fresh 0 0 (!byTx w)) }
theorem empty_ok (w:World) {h:Heap} {a:Addr} (e:h.get? a=some (emptyS w)):SetI w h a [] :=
 ⟨_,#[],0,_,e,⟨rfl,rfl,rfl⟩,rfl,ti_fresh _,rfl,.refl _,fun e he=>by cases he⟩
theorem set_new1 (a:Value) {Q₁:Value→Shared→Prop} (h:Q₁ (.ref s.heap.objs.size) { s with heap:=s.heap.push (emptyS w) }) :
  codeAny (model prog w) A (.call (.builtin "set.__new__") ⟨[.type "set",a],[]⟩) (wants Q₁ E) s:=by
 refine codeAny_of_tree (show wpAny _ A.in1 (do checkBuiltinCall "set.__new__" ⟨[.type "set",a],[]⟩; again (.builtin "set.__new__" ⟨[.type "set",a],[]⟩)) _ _ s from ?_)
 refine wpAny_bind (wpAny_of_eq (PySem.F.newCall_set_1 a) (wpAny_pure ⟨plainId_quiet PySem.F.plain_set_new _,codeAny_builtin PySem.F.entry_set_new ?_⟩))
 rw [Around.under_plainId PySem.F.plain_set_new _]
 unfold Builtin.«set.__new__» Builtin.Frozenset.newClass
 have hsub:=sub_set_self
 obtain ⟨hp,g,d,tk,os⟩:=s
 dsimp only; wp_walk
 refine wpAny_askSetting (wpAny_pure ?_)
 dsimp only; simp only [newObj]
 exact wpAny_bind (wpAny_alloc (wpAny_pure (wpAny_pure h)))
set_option maxHeartbeats 3200000 in
theorem set_of {l:Addr} {items:Array Value} {xs:List Nat} {Q:Value→Shared→Prop} (hh:A.handled=none) (hl:s.heap.IsList l items) (hi:IntsAre items.toList (xs.map fun n:Nat=>(n:Int))) (hx:∀ x∈xs,x < 128) (h64:(foldS xs).length < 64)
  (h:∀ (h':Heap) (tk:Nat),SetI w h' s.heap.objs.size (foldS xs)→(∀ b o,b < s.heap.objs.size→s.heap.get? b=some o→h'.get? b=some o)→Q (.ref s.heap.objs.size) { s with heap:=h',toks:=tk }) :
  wpAny (model prog w) A (call (.type "set") [.ref l]) Q E s:=by
 obtain ⟨c,tl,hmro⟩:=PySem.F.called_set.mro
 have hmade:=PySem.F.called_set.made
 have hsub:=PySem.F.called_set.sub
 refine wpAny_call (codeAny_of_tree (show wpAny _ _ (callAny (.type "set") _) _ _ _ from ?_))
 refine wpAny_pure ⟨Code.quiet_builtin _ (by decide +kernel),codeAny_builtin PySem.F.entry_type_call ?_⟩
 rw [Around.under_plain (weight_type_call_type "set" [.ref l] []) rfl]
 have h1:=PySem.F.called_set.notType
 have h2:=PySem.F.called_set.canCreate
 have hct:=PySem.F.typeCall_set_1 (.ref l)
 repeat any_goals (first | assumption | wp_step)
 refine codeAny_mono (set_new1 (.ref l) (E:=E) (Q₁:=fun obj s₁=>obj=.ref s.heap.objs.size∧s₁={ s with heap:=s.heap.push (emptyS w) }) ⟨rfl,rfl⟩) fun r s₁ hr=>?_
 cases r with
 | error e=>exact hr
 | ok fl =>
  cases fl with
  | ret obj =>
   obtain ⟨rfl,rfl⟩:=hr
   have hS:(s.heap.push (emptyS w)).get? s.heap.objs.size=some (emptyS w):=Heap.get?_push_size _ rfl
   have hT:Shared.TypeIs { s with heap:=s.heap.push (emptyS w) } (.ref s.heap.objs.size) "set":=⟨_,hS,rfl⟩
   have hli:=PySem.F.called_set.init.lookup
   have hbi:=PySem.F.called_set.init.bind (.ref s.heap.objs.size)
   repeat any_goals (first | assumption | wp_step)
   refine codeAny_mono (codeAny_call_builtin (R:=wants (fun r s₂=>r=.none∧∃ h' tk,s₂={ s with heap:=h',toks:=tk }∧SetI w h' s.heap.objs.size (foldS xs) ∧
     (∀ b o,b < s.heap.objs.size→s.heap.get? b=some o→h'.get? b=some o)) E) PySem.F.called_set.init.plain PySem.F.entry_set_init (check_set_init_1 hT ?_)) fun r₂ s₂ hr₂=>?_
   ·obtain ⟨ol,hol,hcl,nl,hdl⟩:=hl
    obtain ⟨ocls,odict,odata,oslots⟩:=ol
    simp only at hcl hdl
    subst hcl; subst hdl
    have hol':(s.heap.push (emptyS w)).get? l=some { cls:=.type "list",dict:=odict,data:=.seq items nl,slots:=oslots }:=Heap.get?_push_of_some _ hol
    have hsls:=PySem.F.sub_list_set
    have hslf:=PySem.F.sub_list_frozenset
    have hne:(Value.type "list" == Value.type "dict")=false:=by decide
    have hl1:(s.heap.push (emptyS w)).IsList l items:=⟨_,hol',rfl,nl,rfl⟩
    unfold emptyS at hS hT hol' ⊢
    unfold Builtin.«set.__init__» noKeywords Builtin.Frozenset.updateFrom
    generalize hPI:pyIter=PI
    wp_walk
    subst hPI
    refine wpAny_pyIter_list hl1 (wpAny_bind (wpAny_runValue ?_))
    have hlS:l < s.heap.objs.size:=Heap.lt_size hol
    have hlen:items.size=xs.length:=by have:=hi.length; simpa using this
    have hneI:l≠(s.heap.push (emptyS w)).objs.size:=by rw [Heap.size_push]; exact Nat.ne_of_lt (Nat.lt_succ_of_lt hlS)
    have hSf:s.heap.objs.size∉[(s.heap.push (emptyS w)).objs.size,l]:=by
     rw [Heap.size_push]; simp only [List.mem_cons,List.not_mem_nil,or_false,not_or]; exact ⟨Nat.ne_of_lt (Nat.lt_succ_self _),Nat.ne_of_gt hlS⟩
    have W:=(Walks.list (prog:=prog) (w:=w) (A:=A.in1.in1.in1) (by simp [hh]) (s.heap.push (emptyS w)).objs.size l hneI items).toS
    rw [hlen] at W
    refine set_loop (xs:=xs) W s.heap.objs.size hSf (fun i v hi' hv=>?_) hx h64 xs.length 0 _ (by omega) (Nat.zero_le _) ⟨⟨_,Heap.get?_push_size _ rfl,rfl,rfl⟩,hl1.push _⟩ (empty_ok w (Heap.get?_push_of_some _ hS)) fun s' hm hS'=>?_
    ·obtain ⟨t,e⟩:=IntsAre.int_at hi i v (by rw [Array.getElem?_toList]; exact hv)
     exact ⟨t,by rw [e]; simp [List.getD_eq_getElem?_getD,List.getElem?_eq_getElem hi']⟩
    ·obtain ⟨h',g',d',tk',os'⟩:=s'
     cases (show g'=s.gens from hm.gens)
     cases (show d'=s.drawn from hm.drawn)
     cases (show os'=s.os from hm.os)
     refine wpAny_pure (wpAny_pure ⟨rfl,h',tk',rfl,hS',fun b o hb e=>?_⟩)
     exact hm.heap b o (by rw [Heap.size_push]; simp only [List.mem_cons,List.not_mem_nil,or_false,not_or]; exact ⟨Nat.ne_of_lt hb,Nat.ne_of_lt (Nat.lt_succ_of_lt hb)⟩) (Heap.get?_push_of_some _ (Heap.get?_push_of_some _ e))
   ·cases r₂ with
    | error e=>exact hr₂
    | ok fl₂ =>
     cases fl₂ with
     | ret r =>
      obtain ⟨rfl,h',tk,rfl,hS',hk'⟩:=hr₂
      repeat any_goals (first | assumption | wp_step)
      exact h _ _ hS' hk'
     | _=>exact hr₂.elim
  | _=>exact hr.elim
end
end L2
namespace L2
open PySem
theorem sw_slot_next:Slot "set_iterator" "__next__" "set_iterator.__next__" :=
 .of (owner:="set_iterator") (n:="__next__") (by rw [typeLookup_type,builtinLookup_eq_fast]; kernel_rfl) (by decide +kernel) (by decide +kernel)
  (by decide +kernel) (by first | exact .inl (by decide +kernel) | exact .inr (by decide +kernel)) (by rw [isSubtype_type]; kernel_rfl)
theorem sw_slot_iter:Slot "set_iterator" "__iter__" "set_iterator.__iter__" :=
 .of (owner:="set_iterator") (n:="__iter__") (by rw [typeLookup_type,builtinLookup_eq_fast]; kernel_rfl) (by decide +kernel) (by decide +kernel)
  (by decide +kernel) (by first | exact .inl (by decide +kernel) | exact .inr (by decide +kernel)) (by rw [isSubtype_type]; kernel_rfl)
theorem sw_entry_next:entryFor table "set_iterator.__next__"=some Builtin.«set_iterator.__next__»:=entryFor_of_tree (by kernel_rfl)
theorem sw_entry_iter:entryFor table "set_iterator.__iter__"=some Builtin.«dict_keyiterator.__iter__» :=
 entryFor_alias (id':="dict_keyiterator.__iter__") (by kernel_rfl) rfl (by decide +kernel) (by kernel_rfl)
theorem sw_entry_set_iter:entryFor table "set.__iter__"=some Builtin.«frozenset.__iter__» :=
 entryFor_alias (id':="frozenset.__iter__") (by kernel_rfl) rfl (by decide +kernel) (by kernel_rfl)
theorem sw_owner:Manifest.owners.lookup (String.ofList ['r','o','t','a','r','e','t','i','_','t','e','s'].reverse)=some Manifest.sig_set_iterator:=by kernel_rfl
theorem sw_args_next (a:Value):argsOk "set_iterator.__next__" ⟨[a],[]⟩:=by
 unfold argsOk
 rw [signature?_of (id:="set_iterator.__next__") (n:=['_','_','t','x','e','n','_','_']) (o:=['r','o','t','a','r','e','t','i','_','t','e','s']) (by kernel_rfl) sw_owner]; kernel_rfl
theorem sw_args_iter (a:Value):argsOk "set_iterator.__iter__" ⟨[a],[]⟩:=by
 unfold argsOk
 rw [signature?_of (id:="set_iterator.__iter__") (n:=['_','_','r','e','t','i','_','_']) (o:=['r','o','t','a','r','e','t','i','_','t','e','s']) (by kernel_rfl) sw_owner]; kernel_rfl
theorem erase_perm {α:Type} {l:List α} {i:Nat} (h:i < l.length):([l[i]] ++ l.eraseIdx i).Perm l:=by
 rw [List.eraseIdx_eq_take_drop_succ]
 have e:l=l.take i ++ l[i] :: l.drop (i + 1):=by rw [← List.drop_eq_getElem_cons h,List.take_append_drop]
 conv=>rhs; rw [e]
 exact (List.perm_middle (a:=l[i]) (l₁:=l.take i) (l₂:=l.drop (i + 1))).symm
theorem pick_perm {α:Type} (next:Nat→Nat):∀ (fuel k:Nat) (left:List α) (out:Array α),fuel=left.length→(pickOrder.go next fuel k left out).toList.Perm (out.toList ++ left)
 | 0,k,left,out,h=>by
  have:left=[]:=List.length_eq_zero_iff.mp h.symm
  subst this
  unfold pickOrder.go; simp
 | fuel + 1,k,left,out,h=>by
  unfold pickOrder.go
  have hlt:next k % left.length < left.length:=Nat.mod_lt _ (by omega)
  rw [List.getElem?_eq_getElem hlt]
  dsimp only
  refine (pick_perm next fuel _ _ _ (by rw [List.length_eraseIdx_of_lt hlt]; omega)).trans ?_
  rw [Array.toList_push,List.append_assoc]
  exact (erase_perm hlt).append_left _
noncomputable def ordS (w:World) (a:Addr) (ep:Nat) (es:Array (Int×Value)):Array (Int×Value):=if byTx w then pickOrder (w.params.setOrder a ep) es else es
theorem ord_perm (w:World) (a:Addr) (ep:Nat) (es:Array (Int×Value)):(ordS w a ep es).toList.Perm es.toList:=by
 unfold ordS
 split
 ·unfold pickOrder
  simpa using pick_perm (w.params.setOrder a ep) es.size 0 es.toList #[] (by simp)
 ·exact .rfl
noncomputable def slotI (b:Bool) (place:Array Nat):Nat→Nat
 | 0=>0
 | i + 1=>if b then 0 else place.toList.getD i 0 + 1
noncomputable def ItS (h:Heap) (it a:Addr) (sl i n ep:Nat):Prop:=∃ o,h.get? it=some o∧o.cls=.type "set_iterator"∧o.data=.fields #[.int sl 0,.int i 0,.ref a,.int n 0,.int ep 0]
theorem ItS.typeIs {s:Shared} {it a:Addr} {sl i n ep:Nat} (h:ItS s.heap it a sl i n ep):s.TypeIs (.ref it) "set_iterator":=let ⟨o,ho,hc,_⟩:=h; ⟨o,ho,hc⟩
theorem ItS.at {h h':Heap} {it a:Addr} {sl i n ep:Nat} (x:ItS h it a sl i n ep) (k:∀ o,h.get? it=some o→h'.get? it=some o):ItS h' it a sl i n ep:=let ⟨o,ho,r⟩:=x; ⟨o,k o ho,r⟩
noncomputable def SetAt (w:World) (h:Heap) (a:Addr) (es:Array (Int×Value)) (ep:Nat) (t:SetTable):Prop:=∃ o,h.get? a=some o∧o.ExactSet∧o.data=.set es ep t∧TblI t es.size∧t.led = !byTx w
theorem SetAt.at {w:World} {h h':Heap} {a:Addr} {es:Array (Int×Value)} {ep:Nat} {t:SetTable} (x:SetAt w h a es ep t) (k:∀ o,h.get? a=some o→h'.get? a=some o):SetAt w h' a es ep t:=let ⟨o,ho,r⟩:=x; ⟨o,k o ho,r⟩
section
variable {prog:Program} {w:World} {A:Around} {E:Value→Shared→Prop} {s:Shared}
theorem set_next {a:Addr} {es:Array (Int×Value)} {ep i:Nat} {t:SetTable} {Q:Option (Value×Nat)→Shared→Prop} (hS:SetAt w s.heap a es ep t) (hi:i≤es.size)
  (h:Q ((ordS w a ep es)[i]?.map fun e=>(e.2,slotI (byTx w) t.place (i + 1))) s):wpAny (model prog w) A (setNext a (slotI (byTx w) t.place i) i ep) Q E s:=by
 obtain ⟨o,ho,hex,hd,hI,hl⟩:=hS
 unfold setNext
 refine wpAny_bind (wpAny_setState_of ho hd hI.fits ?_)
 dsimp only
 refine wpAny_bind ?_
 unfold setsByText
 refine wpAny_bind (wpAny_askSetting (wpAny_pure ?_))
 show wpAny _ _ (if byTx w=true then _ else _) _ _ _
 unfold ordS at h
 cases hb:byTx w with
 | true =>
  rw [hb] at h
  simp only [if_true,bne_self_eq_false,Bool.false_eq_true,if_false] at h ⊢
  refine wpAny_bind ?_
  unfold setWalk
  refine wpAny_bind (wpAny_setState_of ho hd hI.fits ?_)
  dsimp only
  refine wpAny_bind ?_
  unfold setsByText
  refine wpAny_bind (wpAny_askSetting (wpAny_pure ?_))
  show wpAny _ _ (if byTx w=true then _ else _) _ _ _
  rw [hb]
  simp only [if_true]
  refine wpAny_bind (wpAny_askSetting (wpAny_pure (wpAny_pure ?_)))
  have e:slotI true t.place (i + 1)=slotI true t.place i:=by cases i <;> rfl
  rw [e] at h
  exact h
 | false =>
  rw [hb] at h hl
  simp only [Bool.false_eq_true,if_false] at h ⊢
  show wpAny _ _ (if (!t.plain && decide (es.size > 1))=true then _ else _) _ _ _
  rw [hI.plain]
  simp only [Bool.not_true,Bool.false_and,Bool.false_eq_true,if_false]
  refine wpAny_bind (wpAny_of_eq (a:=()) ?_ ?_)
  ·show (if (!t.led && !es.isEmpty)=true then _ else _)=_
   rw [hl]; rfl
  have hbl:SetTable.below t.place (slotI false t.place i)=i:=by
   cases i with
   | zero=>exact below_zero hI.up
   | succ i=>exact below_next hI.up (by rw [Array.length_toList,hI.size]; omega)
  rw [hbl]
  refine wpAny_pure ?_
  rcases Nat.lt_or_ge i es.size with hlt | hge
  ·have hp:i < t.place.size:=by rw [hI.size]; exact hlt
   rw [Array.getElem?_eq_getElem hlt] at h ⊢
   rw [Array.getElem?_eq_getElem hp]
   have e:slotI false t.place (i + 1)=t.place[i] + 1:=by
    simp [slotI,List.getD_eq_getElem?_getD,List.getElem?_eq_getElem (show i < t.place.toList.length by simpa using hp)]
   rw [e] at h
   exact h
  ·rw [Array.getElem?_eq_none hge] at h ⊢
   exact h
end
end L2
namespace L2
open PySem
section
variable {prog:Program} {w:World} {A:Around} {E:Value→Shared→Prop} {s:Shared}
theorem it_item {it a:Addr} {es:Array (Int×Value)} {ep i:Nat} {t:SetTable} {v:Int×Value} {Q:Option Value→Shared→Prop} (hit:ItS s.heap it a (slotI (byTx w) t.place i) i es.size ep) (hS:SetAt w s.heap a es ep t) (hi:i < es.size)
  (hv:(ordS w a ep es)[i]? = some v) (hQ:∀ h',ItS h' it a (slotI (byTx w) t.place (i + 1)) (i + 1) es.size ep→Heap.SameBut it s.heap h'→Q (some v.2) { s with heap:=h' }) :
  wpAny (model prog w) A (pyNext (.ref it)) Q E s:=by
 obtain ⟨o,ho,hc,hd⟩:=id hit
 obtain ⟨oS,hoS,hexS,hdS,hI,hl⟩:=id hS
 unfold pyNext
 refine wpAny_bind (wpAny_attempt (wpAny_callSpecial?_slot (name:=Str.ofString "__next__") hit.typeIs sw_slot_next (wpAny_call_entry sw_slot_next hit.typeIs sw_entry_next ?_ (sw_args_next _))))
 unfold Builtin.«set_iterator.__next__»
 refine wpAny_bind (wpAny_pure ?_)
 refine wpAny_bind (wpAny_fieldsOf ho hd ?_)
 dsimp only
 refine wpAny_bind (wpAny_setEntries_of hoS hdS hI.fits ?_)
 rw [if_neg (by simp)]
 refine wpAny_bind (set_next (ep:=ep) (i:=i) hS (Nat.le_of_lt hi) ?_)
 rw [hv]
 dsimp only [Option.map]
 refine wpAny_bind (wpAny_setField ho hd (by simp) ?_)
 have g1:=Heap.get?_update_self (Obj.mapFields (·.setIfInBounds 0 (rawInt ((slotI (byTx w) t.place (i + 1):Nat):Int)))) ho (Obj.isFreed_of_fields (Obj.data_mapFields hd _))
 have d1:=Obj.data_mapFields hd (·.setIfInBounds 0 (rawInt ((slotI (byTx w) t.place (i + 1):Nat):Int)))
 refine wpAny_bind (wpAny_setField g1 d1 (by simp) ?_)
 have g2:=Heap.get?_update_self (Obj.mapFields (·.setIfInBounds 1 (rawInt ((i:Int) + 1)))) g1 (Obj.isFreed_of_fields (Obj.data_mapFields d1 _))
 have d2:=Obj.data_mapFields d1 (·.setIfInBounds 1 (rawInt ((i:Int) + 1)))
 refine wpAny_pure ⟨_,rfl,wpAny_pure (hQ _ ⟨_,g2,?_,?_⟩ ((Heap.SameBut.update ..).trans (Heap.SameBut.update ..)))⟩
 ·exact (Obj.cls_mapFields ..).trans ((Obj.cls_mapFields ..).trans hc)
 ·rw [d2]; simp [rawInt]
theorem it_end {it a:Addr} {es:Array (Int×Value)} {ep:Nat} {t:SetTable} {Q:Option Value→Shared→Prop} (hh:A.handled=none) (hit:ItS s.heap it a (slotI (byTx w) t.place es.size) es.size es.size ep) (hS:SetAt w s.heap a es ep t)
  (hQ:∀ h',Heap.ExtBut it s.heap h'→Q none { s with heap:=h' }):wpAny (model prog w) A (pyNext (.ref it)) Q E s:=by
 obtain ⟨o,ho,hc,hd⟩:=id hit
 obtain ⟨oS,hoS,hexS,hdS,hI,hl⟩:=id hS
 unfold pyNext
 refine wpAny_bind (wpAny_attempt (wpAny_callSpecial?_slot (name:=Str.ofString "__next__") hit.typeIs sw_slot_next (wpAny_call_entry sw_slot_next hit.typeIs sw_entry_next ?_ (sw_args_next _))))
 unfold Builtin.«set_iterator.__next__»
 refine wpAny_bind (wpAny_pure ?_)
 refine wpAny_bind (wpAny_fieldsOf ho hd ?_)
 dsimp only
 refine wpAny_bind (wpAny_setEntries_of hoS hdS hI.fits ?_)
 rw [if_neg (by simp)]
 refine wpAny_bind (set_next (ep:=ep) (i:=es.size) hS (Nat.le_refl _) ?_)
 have hv:(ordS w a ep es)[es.size]? = none:=by
  have:=(ord_perm w a ep es).length_eq
  rw [Array.length_toList,Array.length_toList] at this
  exact Array.getElem?_eq_none (by omega)
 rw [hv]
 dsimp only [Option.map]
 refine wpAny_bind (wpAny_setField ho hd (by simp) ?_)
 show wpAny _ _ (newExc (.type "StopIteration") [] >>= _) _ _ _
 refine wpAny_bind ?_
 simp only [newExc,newTuple]
 refine wpAny_bind (wpAny_newObj_type ?_ (by size_fits))
 refine wpAny_bind (m:=firstArgMember _ _) (wpAny_of_eq (a:=Value.none) (by first | rfl | (simp only [firstArgMember]; rfl)) (wpAny_newObj_type ?_ (by size_fits)))
 simp only [raiseNew]
 refine wpAny_bind (wpAny_handled ?_)
 rw [show A.in1.handled=none from hh]
 refine wpAny_bind (wpAny_pure (wpAny_throw ?_))
 refine wpAny_bind (wpAny_isInstance (b:=true) (T:="StopIteration") ⟨_,Heap.get?_push_size _ rfl,rfl⟩ isSubtype_stop ?_)
 exact wpAny_pure (hQ _ (((Heap.SameBut.update ..).extBut.push _).push _))
theorem it_self {it a:Addr} {sl i n ep:Nat} {Q:Value→Shared→Prop} (hit:ItS s.heap it a sl i n ep) (h:Q (.ref it) s):wpAny (model prog w) A (pyIter (.ref it)) Q E s:=by
 refine wpAny_pyIter_slot hit.typeIs sw_slot_iter (wpAny_call_entry sw_slot_iter hit.typeIs sw_entry_iter (show wpAny _ _ (ret (.ref it)) _ _ s from ?_) (sw_args_iter _))
 exact wpAny_pure ⟨_,rfl,"set_iterator",_,hit.typeIs,sw_slot_next.lookup,h⟩
theorem set_walks (hh:A.handled=none) (I a:Addr) (hne:a≠I) (es:Array (Int×Value)) (ep:Nat) (t:SetTable) :
  Walks prog w A I [I,a] [I] es.size (fun i v=>(ordS w a ep es)[i]?.map (·.2)=some v) (fun i h=>ItS h I a (slotI (byTx w) t.place i) i es.size ep∧SetAt w h a es ep t) where
 sub:=fun b hb=>by simp at hb; simp [hb]
 frame:=fun _ _ _ st hk=>⟨st.1.at fun o e=>hk I (by simp) o e,st.2.at fun o e=>hk a (by simp) o e⟩
 item:=fun i s Q E hi st hQ=>by
  have hl:=(ord_perm w a ep es).length_eq
  rw [Array.length_toList,Array.length_toList] at hl
  have hv:(ordS w a ep es)[i]? = some (ordS w a ep es)[i]:=Array.getElem?_eq_getElem (by omega)
  refine it_item st.1 st.2 hi hv fun h' hit' hs'=>hQ _ h' s.toks (by rw [hv]; rfl) ⟨hit',st.2.at fun o e=>?_⟩ fun b o hb e=>hs'.extBut b o (fun h=>hb (by simp [h])) e
  exact hs'.extBut a o hne e
 done:=fun s Q E st hQ=>it_end hh st.1 st.2 fun h' he'=>hQ h' s.toks fun b o hb e=>he' b o (fun h=>hb (by simp [h])) e
 self:=fun _ _ _ _ st hQ=>it_self st.1 hQ
theorem SetAt.typeIs {a:Addr} {es:Array (Int×Value)} {ep:Nat} {t:SetTable} (h:SetAt w s.heap a es ep t):s.TypeIs (.ref a) "set":=let ⟨o,ho,hx,_⟩:=h; ⟨o,ho,hx.1⟩
theorem set_iter {a:Addr} {es:Array (Int×Value)} {ep:Nat} {t:SetTable} {Q:Value→Shared→Prop} (hS:SetAt w s.heap a es ep t)
  (hQ:Q (.ref s.heap.objs.size) { s with heap:=s.heap.push { cls:=.type "set_iterator",data:=.fields #[.int 0 0,.int 0 0,.ref a,.int es.size 0,.int ep 0] } }):wpAny (model prog w) A (pyIter (.ref a)) Q E s:=by
 obtain ⟨oS,hoS,hexS,hdS,hI,hl⟩:=id hS
 refine wpAny_pyIter_slot hS.typeIs PySem.F.slot_set_iter (wpAny_call_entry PySem.F.slot_set_iter hS.typeIs sw_entry_set_iter ?_ (PySem.F.args_set_iter_1 _))
 unfold Builtin.«frozenset.__iter__» Builtin.Frozenset.slot0
 refine wpAny_bind (wpAny_bind (wpAny_pure (wpAny_pure ?_)))
 unfold Builtin.Frozenset.sizeOf
 refine wpAny_bind (wpAny_bind (wpAny_setEntries_of hoS hdS hI.fits (wpAny_pure ?_)))
 refine wpAny_bind ?_
 unfold setDrawn
 refine wpAny_bind (wpAny_setState_of hoS hdS hI.fits ?_)
 dsimp only
 refine wpAny_bind ?_
 unfold setsByText
 refine wpAny_bind (wpAny_askSetting (wpAny_pure (wpAny_pure ?_)))
 have e:(!byTx w && (!t.plain && decide (es.size > 1)))=false:=by rw [hI.plain]; simp
 show wpAny _ _ (if (!byTx w && (!t.plain && decide (es.size > 1)))=true then _ else _) _ _ _
 rw [e]
 simp only [Bool.false_eq_true,if_false]
 refine wpAny_bind (wpAny_pure ?_)
 refine wpAny_bind (wpAny_setEpoch_of hoS hdS hI.fits ?_)
 refine wpAny_bind ?_
 refine wpAny_newObj_type (wpAny_pure ⟨_,rfl,"set_iterator",_,⟨_,Heap.get?_push_size _ rfl,rfl⟩,sw_slot_next.lookup,?_⟩)
 exact hQ
end
end L2
namespace L2
open PySem PySem.Spec PyProof.Rows PySem.W
noncomputable def insS (x:Nat):List Nat→List Nat
 | []=>[x]
 | y :: l=>if x < y then x :: y :: l else if x=y then y :: l else y :: insS x l
noncomputable def ssort:List Nat→List Nat
 | []=>[]
 | x :: l=>insS x (ssort l)
theorem mem_insS {x y:Nat}:∀ {l:List Nat},y∈insS x l↔y=x∨y∈l
 | []=>by simp [insS]
 | z :: l=>by
  unfold insS
  split
  ·simp
  ·split
   ·rename_i h; subst h; simp
   ·simp only [List.mem_cons,mem_insS (l:=l)]
    constructor
    ·rintro (h | h | h) <;> simp [h]
    ·rintro (h | h | h) <;> simp [h]
theorem up_insS {x:Nat}:∀ {l:List Nat},Up l→Up (insS x l)
 | [],_=>by simp [insS]
 | z :: l,h=>by
  obtain ⟨h1,h2⟩:=List.pairwise_cons.mp h
  unfold insS
  split
  ·rename_i hx
   exact List.pairwise_cons.mpr ⟨fun b hb=>by
    rcases List.mem_cons.mp hb with rfl | hb
    ·exact hx
    ·exact Nat.lt_trans hx (h1 b hb),h⟩
  ·split
   ·exact h
   ·refine List.pairwise_cons.mpr ⟨fun b hb=>?_,up_insS h2⟩
    rcases mem_insS.mp hb with rfl | hb
    ·omega
    ·exact h1 b hb
theorem up_ssort:∀ l:List Nat,Up (ssort l)
 | []=>.nil
 | x :: l=>up_insS (up_ssort l)
theorem mem_ssort {y:Nat}:∀ {l:List Nat},y∈ssort l↔y∈l
 | []=>by simp [ssort]
 | x :: l=>by simp [ssort,mem_insS,mem_ssort (l:=l)]
theorem up_eq:∀ {l m:List Nat},Up l→Up m→(∀ x,x∈l↔x∈m)→l=m
 | [],[],_,_,_=>rfl
 | [],y :: m,_,_,h=>absurd ((h y).mpr (.head _)) (by simp)
 | x :: l,[],_,_,h=>absurd ((h x).mp (.head _)) (by simp)
 | x :: l,y :: m,h1,h2,h=>by
  obtain ⟨a1,a2⟩:=List.pairwise_cons.mp h1
  obtain ⟨b1,b2⟩:=List.pairwise_cons.mp h2
  have e:x=y:=by
   rcases List.mem_cons.mp ((h x).mp (.head _)) with e | hx
   ·exact e
   ·rcases List.mem_cons.mp ((h y).mpr (.head _)) with e | hy
    ·exact e.symm
    ·have:=a1 y hy; have:=b1 x hx; omega
  subst e
  rw [up_eq a2 b2 fun z=>?_]
  constructor
  ·intro hz
   rcases List.mem_cons.mp ((h z).mp (.tail _ hz)) with e | q
   ·subst e; exact absurd (a1 z hz) (Nat.lt_irrefl _)
   ·exact q
  ·intro hz
   rcases List.mem_cons.mp ((h z).mpr (.tail _ hz)) with e | q
   ·subst e; exact absurd (b1 z hz) (Nat.lt_irrefl _)
   ·exact q
theorem mem_stepS {ns:List Nat} {x y:Nat}:y∈stepS ns x↔y∈ns∨y=x:=by
 unfold stepS
 split
 ·rename_i h
  exact ⟨.inl,fun q=>q.elim id fun e=>e ▸ h⟩
 ·simp
theorem nd_stepS {ns:List Nat} {x:Nat} (h:ns.Nodup):(stepS ns x).Nodup:=by
 unfold stepS
 split
 ·exact h
 ·rename_i hx
  refine List.nodup_append.mpr ⟨h,by simp,fun a ha b hb=>?_⟩
  rw [List.mem_singleton] at hb
  subst hb
  exact fun e=>hx (e ▸ ha)
theorem mem_fold:∀ {xs ns:List Nat} {y:Nat},y∈xs.foldl stepS ns↔y∈ns∨y∈xs
 | [],ns,y=>by simp
 | x :: xs,ns,y=>by
  rw [List.foldl_cons,mem_fold,mem_stepS,List.mem_cons,or_assoc]
theorem nd_fold:∀ {xs ns:List Nat},ns.Nodup→(xs.foldl stepS ns).Nodup
 | [],_,h=>h
 | x :: xs,_,h=>nd_fold (xs:=xs) (nd_stepS h)
theorem sort_eq {xs:List Nat} {zs:List Int} (h1:zs.Perm ((foldS xs).map fun n:Nat=>(n:Int))) (h2:zs.Pairwise (·≤·)):zs=(ssort xs).map fun n:Nat=>(n:Int):=by
 have hz:∀ z∈zs,∃ n:Nat,z=n:=fun z hz=>by
  obtain ⟨n,_,e⟩:=List.mem_map.mp (h1.mem_iff.mp hz)
  exact ⟨n,e.symm⟩
 have e:zs=(zs.map Int.toNat).map fun n:Nat=>(n:Int):=by
  rw [List.map_map]
  conv=>lhs; rw [← List.map_id zs]
  refine List.map_congr_left fun z hq=>?_
  obtain ⟨n,rfl⟩:=hz z hq
  simp
 have hp:(zs.map Int.toNat).Perm (foldS xs):=by
  have:=h1.map Int.toNat
  rw [List.map_map] at this
  refine this.trans (List.Perm.of_eq ?_)
  conv=>rhs; rw [← List.map_id (foldS xs)]
  exact List.map_congr_left fun n _=>by simp
 have hnd:(zs.map Int.toNat).Nodup:=hp.nodup_iff.mpr (nd_fold .nil)
 have hup:Up (zs.map Int.toNat):=by
  have hle:(zs.map Int.toNat).Pairwise (·≤·):=by
   rw [List.pairwise_map]
   exact h2.imp fun {a b} h=>by omega
  refine (hle.and hnd).imp fun {a b} h=>?_
  have h2:a≠b:=h.2
  omega
 rw [e,up_eq hup (up_ssort xs) fun x=>by
  rw [hp.mem_iff,mem_ssort]
  unfold foldS
  rw [mem_fold]
  simp]
theorem nd_up:∀ {l:List Nat},Up l→l.Nodup:=fun {l} h=>h.imp fun {a b} h=>Nat.ne_of_lt h
theorem ssort_fold (xs:List Nat):(ssort xs).length=(foldS xs).length:=by
 have hp:(ssort xs).Perm (foldS xs):=by
  refine (List.perm_ext_iff_of_nodup (nd_up (up_ssort xs)) (nd_fold .nil)).mpr fun x=>?_
  rw [mem_ssort,mem_fold]
  simp
 exact hp.length_eq
theorem ints_pairs:∀ {l:List (Int×Value)},(∀ e∈l,∃ (n:Nat) (tk:Tok),e=((n:Int),.int n tk)∧n < 128)→IntsAre (l.map (·.2)) (l.map (·.1))
 | [],_=>.nil
 | e :: l,h=>by
  obtain ⟨n,tk,rfl,_⟩:=h e (.head _)
  exact .cons _ _ (ints_pairs fun e he=>h e (.tail _ he))
section
variable {prog:Program} {w:World} {A:Around} {E:Value→Shared→Prop} {s:Shared}
theorem hint_set {r:Addr} {Q:Bool→Shared→Prop} (hT:s.TypeIs (.ref r) "set") (h:Q false s):wpAny (model prog w) A (Builtin.List.listLengthHint (.ref r)) Q E s:=by
 unfold Builtin.List.listLengthHint
 refine wpAny_bind (wpAny_specialOf hT PySem.F.slot_set_len.lookup ?_)
 generalize hid:("set.__len__":String)=id0
 wp_delta
 rw [show splitId id0=some ("set","__len__") from by subst hid; decide +kernel]
 subst hid
 refine wpAny_bind (wpAny_isInstance (T:="set") (b:=true) hT sub_set_self ?_)
 refine wpAny_ite_split (fun q=>absurd q (by decide)) fun _=>wpAny_ite_split (fun _=>?_) fun q=>absurd (by decide +kernel) q
 exact wpAny_bind (wpAny_typeOf hT (wpAny_pure h))
theorem SetAt.lt {h:Heap} {a:Addr} {es:Array (Int×Value)} {ep:Nat} {t:SetTable} (x:SetAt w h a es ep t):a < h.objs.size:=let ⟨_,ho,_⟩:=x; Heap.lt_size ho
theorem src_set {a:Addr} {es:Array (Int×Value)} {ep:Nat} {t:SetTable}:KdlSrc prog w "set" a a es.size (fun i v=>(ordS w a ep es)[i]?.map (·.2)=some v) (fun h=>SetAt w h a es ep t) where
 type:=fun _ h=>h.typeIs
 there:=fun _ h=>⟨h.lt,h.lt⟩
 keep:=fun _ _ h k=>h.at fun o e=>k a (.inl rfl) o e
 notList:=by decide
 notTuple:=by decide
 hint:=fun _ _ _ _ h q=>hint_set h.typeIs q
 iter:=fun _ s hh h=>⟨_,_,(fun _ _ q=>set_iter h q),set_walks hh _ a (Nat.ne_of_lt h.lt) es ep t,⟨⟨_,Heap.get?_push_size _ rfl,rfl,rfl⟩,h.at fun o e=>Heap.get?_push_of_some _ e⟩⟩
theorem sorted_set {a:Addr} {xs:List Nat} {Q:Value→Shared→Prop} (hh:A.handled=none) (hS:SetI w s.heap a (foldS xs)) (hn:(foldS xs).length < 64)
  (h:∀ (h1 h':Heap) (tk c:Nat) (out:Array Value),(∀ b o,s.heap.get? b=some o→h1.get? b=some o)→(∀ b o,h1.get? b=some o→h'.get? b=some o)→h'.get? h1.objs.size=some (seqObj "list" out c) →
   IntsAre out.toList ((ssort xs).map fun n:Nat=>(n:Int))→Q (.ref h1.objs.size) { s with heap:=h',toks:=tk }) :
  wpAny (model prog w) A (call (.builtin "sorted") [.ref a]) Q E s:=by
 obtain ⟨o,es,ep,t,ho,hex,hd,hI,hl,hs⟩:=hS
 have hlen:es.size < 64:=by
  have h1:=hs.len
  rw [Array.length_toList] at h1
  omega
 have hok:SetAt w s.heap a es ep t:=⟨o,ho,hex,hd,hI,hl⟩
 refine Calls.call_function_entry kind_sorted plain_sorted entry_sorted (args_sorted1 _) ?_
 unfold Builtin.«sorted»
 refine wpAny_bind (m:=checkCount "sorted" 1 1 _) (wpAny_pure ?_)
 refine wpAny_bind (kdu_collect (A:=A.in1) (src_set (prog:=prog)) hh hok (by rw [sizeLine_eq]; omega) fun h1 tk acc hk hacc=>?_)
 have eacc:acc.toList=(ordS w a ep es).toList.map (·.2):=by
  have hlo:=(ord_perm w a ep es).length_eq
  rw [Array.length_toList,Array.length_toList] at hlo
  apply List.ext_getElem?
  intro i
  rcases Nat.lt_or_ge i acc.size with q | q
  ·have h3:=hacc.2 i acc[i] (Array.getElem?_eq_getElem q)
   rw [List.getElem?_map,Array.getElem?_toList,Array.getElem?_toList,h3,Array.getElem?_eq_getElem q]
  ·have h4:=hacc.1
   rw [List.getElem?_eq_none (by simpa using q),List.getElem?_eq_none (by simp; omega)]
 have hp:=ord_perm w a ep es
 have hI2:IntsAre acc.toList ((ordS w a ep es).toList.map (·.1)):=by
  rw [eacc]
  exact ints_pairs fun e he=>hs.2 e (hp.mem_iff.mp he)
 have hal:acc.toList.length < 64:=by rw [Array.length_toList,hacc.1]; exact hlen
 refine wpAny_bind (wpAny_newList ?_ (by rw [sizeLine_eq]; omega))
 have hoL:(h1.push (seqObj "list" acc.toList.toArray 0)).get? h1.objs.size=some (seqObj "list" acc.toList.toArray 0):=Heap.get?_push_size _ rfl
 refine wpAny_bind (wpAny_holding (wpAny_call_entry slot_list_sort ⟨_,hoL,rfl⟩ entry_list_sort (list_sort_tree (s:={ s with heap:=h1.push (seqObj "list" acc.toList.toArray 0),toks:=tk }) hoL hI2 hal fun out zs a1 a2 a3=>⟨_,rfl,?_⟩) (args_list_sort _)))
 refine wpAny_pure ⟨_,rfl,?_⟩
 have hz:=sort_eq (a2.trans ((hp.map _).trans hs.1)) a3
 rw [hz] at a1
 have hne:∀ b o,h1.get? b=some o→b≠h1.objs.size:=fun b o e=>Nat.ne_of_lt (Heap.lt_size e)
 have g1:=get?_update_seq hoL (fun _=>#[])
 have g2:=get?_update_seq (Heap.get?_push_of_some (seqObj "list" #[] 0) (Heap.get?_push_of_some (seqObj "tuple" acc.toList.toArray 0) g1)) fun _=>out
 refine h h1 _ tk _ out hk (fun b o e=>?_) g2 a1
 have q:=Ne.symm (hne b o e)
 exact (Heap.get?_update_other _ _ q).trans (Heap.get?_push_of_some _ (Heap.get?_push_of_some _ ((Heap.get?_update_other _ _ q).trans (Heap.get?_push_of_some _ e))))
end
end L2
namespace L2
open PySem PySem.Spec PyProof.Rows
noncomputable abbrev nV (ns:List Nat):List V:=ns.map fun n:Nat=>V.int n
noncomputable abbrev nD (ns:List Nat):List D:=ns.map fun n:Nat=>D.int n
noncomputable def setQ (w:World) (a:Addr) (ns:List Nat):Heap→Prop:=fun h=>SetI w h a (foldS ns)
theorem vals_IA:∀ {ns:List Nat} {us:List Value},Vals (nV ns) us→IntsAre us (ns.map fun n:Nat=>(n:Int))
 | [],_,.nil=>.nil
 | n :: ns,_,.cons ⟨t,e⟩ r=>by subst e; exact .cons _ _ (vals_IA r)
theorem IA_vals:∀ {ns:List Nat} {us:List Value},IntsAre us (ns.map fun n:Nat=>(n:Int))→Vals (nV ns) us
 | [],_,.nil=>.nil
 | n :: ns,_,.cons _ t r=>.cons ⟨t,rfl⟩ (IA_vals r)
section
variable {X:Cx}
noncomputable def rSetS (X:Cx):List V→Hp→VK→Prop:=fun xs H Q=>∃ a ns,xs=[.ref a]∧SqL X.K H a (nV ns)∧(ssort ns).length < 64∧(∀ x∈ns,x < 128)∧∀ p,H p=none→Q (.ref p) (upd H p (.ext (setQ X.w p ns)))
theorem cr_setS (hc:X.calm=true:=by rfl):CallR X (.type "set") (rSetS X):=by
 intro pins s σ H xs us Q I rv h
 obtain ⟨a,ns,rfl,sq,hb,hx,q⟩:=h
 obtain ⟨u,rfl,ru⟩:=vals1 rv
 cases ru
 obtain ⟨its,ri,pl,hz⟩:=I.list sq
 refine set_of (xs:=ns) (I.ok.hd hc) pl.isList (by simpa using vals_IA ri) hx (by rw [← ssort_fold]; exact hb) fun h' tk hS kp=>?_
 have hf:H s.heap.objs.size=none:=I.hok.fresh (Nat.le_refl _)
 have hS2:=hS
 obtain ⟨o,es,ep,t,ho,_⟩:=hS2
 refine ⟨.ref s.heap.objs.size,upd H s.heap.objs.size (.ext (setQ X.w s.heap.objs.size ns)),I.laid (t':=tk) (fun b u e=>kp b u (Heap.lt_size e) e) (Nat.le_refl _) ?_,rfl,q _ hf⟩
 exact ⟨hS,⟨o,ho⟩,fun h1 h2 x k=>x.at k⟩
noncomputable def rSortS (X:Cx):List V→Hp→VK→Prop:=fun xs H Q=>∃ a ns,xs=[.ref a]∧H a=some (.ext (setQ X.w a ns))∧(ssort ns).length < 64∧∀ p,H p=none→Q (.ref p) (upd H p (.lst (nV (ssort ns))))
theorem cr_sortS (hc:X.calm=true:=by rfl):CallR X (.builtin "sorted") (rSortS X):=by
 intro pins s σ H xs us Q I rv h
 obtain ⟨a,ns,rfl,hH,hn,q⟩:=h
 obtain ⟨u,rfl,ru⟩:=vals1 rv
 cases ru
 obtain ⟨hS,_,_⟩:=I.hok a _ hH
 refine sorted_set (I.ok.hd hc) hS (by rw [← ssort_fold]; exact hn) fun h1 h' tk c out k1 k2 hp hI=>?_
 have I1:Inv X pins σ H { s with heap:=h1,toks:=tk }:=I.kept k1
 have hf:H h1.objs.size=none:=I1.hok.fresh (Nat.le_refl _)
 refine ⟨.ref h1.objs.size,upd H h1.objs.size (.lst (nV (ssort ns))),I1.laid (t':=tk) k2 (Nat.le_refl _) ⟨?_,out.toList,c,IA_vals hI,by simpa using hp⟩,rfl,q _ hf⟩
 simp only [List.length_map]
 rw [sizeLine_eq]; omega
noncomputable def natsD (l:List D):Option (List Nat):=match intsD l with
 | some ns=>if ns.all (fun n=>decide (0≤n∧n < 128))=true∧(ssort (ns.map Int.toNat)).length < 64 then some (ns.map Int.toNat) else none
 | none=>none
theorem natsD_ok {l:List D} {ns:List Nat} (h:natsD l=some ns):l=nD ns∧(ssort ns).length < 64∧∀ x∈ns,x < 128:=by
 unfold natsD at h
 split at h
 ·rename_i zs hz
  split at h
  ·rename_i hc
   cases h
   refine ⟨?_,hc.2,fun x hx=>?_⟩
   ·rw [intsD_eq hz]
    unfold nD
    rw [List.map_map]
    refine List.map_congr_left fun z hq=>?_
    have:=of_decide_eq_true (List.all_eq_true.mp hc.1 z hq)
    show D.int z=D.int (z.toNat:Int)
    congr 1; omega
   ·obtain ⟨z,hq,rfl⟩:=List.mem_map.mp hx
    have:=of_decide_eq_true (List.all_eq_true.mp hc.1 z hq)
    omega
  ·cases h
 ·cases h
theorem natsD_nD {ns:List Nat} (h:(ssort ns).length < 64) (hx:∀ x∈ns,x < 128):natsD (nD ns)=some ns:=by
 unfold natsD
 have e:nD ns=(ns.map fun n:Nat=>(n:Int)).map D.int:=by simp [nD]
 rw [e,intsD_map]
 dsimp only
 have e:(ns.map fun n:Nat=>(n:Int)).map Int.toNat=ns:=by
  rw [List.map_map]
  have:(Int.toNat ∘ fun n:Nat=>(n:Int))=id:=by funext n; simp
  rw [this,List.map_id]
 rw [e,if_pos ⟨List.all_eq_true.mpr fun z hz=>by
  obtain ⟨n,hn,rfl⟩:=List.mem_map.mp hz
  have:=hx n hn
  exact decide_eq_true (by omega),h⟩]
theorem rels_nD {K:PySem.W.Frag} {ρ:List Addr} {H:Hp} {ns:List Nat} {xs:List V} (h:Rels K ρ H (nD ns) xs):xs=nV ns:=by
 have e:nD ns=(ns.map fun n:Nat=>(n:Int)).map D.int:=by simp [nD]
 rw [e] at h
 rw [Rels.ints_inv h]
 simp [nV]
theorem rels_new {K:PySem.W.Frag} {ρ:List Addr} {H:Hp} (ns:List Nat):Rels K ρ H (nD ns) (nV ns):=by
 have e:nD ns=(ns.map fun n:Nat=>(n:Int)).map D.int:=by simp [nD]
 have e':nV ns=(ns.map fun n:Nat=>(n:Int)).map V.int:=by simp [nV]
 rw [e,e']
 exact Rels.ints
theorem noRefs_nD (ns:List Nat):noRefs (nD ns)=true:=by
 have e:nD ns=(ns.map fun n:Nat=>(n:Int)).map D.int:=by simp [nD]
 rw [e]; exact noRefs_ints
noncomputable def dSortSet (a:Ev→List Cell→R (List D)):Ev→List Cell→R D:=fun e c=>(a e c).bind fun xs c=>match xs with
 | [x]=>match lstD c x with
  | some l=>match natsD l with
   | some ns=>.ok (.lst (nD (ssort ns))) c
   | none=>.bad
  | none=>.bad
 | _=>.bad
noncomputable def dSortSetM (a:Ev→List Cell→R (List D)):Ev→List Cell→R D:=fun e c=>(a e c).bind fun xs c=>match xs with
 | [x]=>match lstD c x with
  | some l=>match natsD l with
   | some ns=>.ok (.ref c.length) (c ++ [.lst (nD (ssort ns))])
   | none=>.bad
  | none=>.bad
 | _=>.bad
theorem pe_sortset {e:Expr} {da:Ev→List Cell→R (List D)} {p1 p2 q1 q2:Pos} {f:List D→List Cell→R D} (ha:PAd X [e] da) (hm:X.mg "sorted"=none) (hm2:X.mg "set"=none) (hg:Gl X "sorted") (hg2:Gl X "set") (hc:X.calm=true)
  (he:starEach [e] X.env=(false,eval e X.env) :: starEach [] X.env)
  (hf:∀ xs c ρ H (Q:VK) vs,Wd X.K ρ H c→Rels X.K ρ H xs vs→post X.K (Rel X.K) (f xs c) ρ H Q→∃ a ns,vs=[.ref a]∧SqL X.K H a (nV ns)∧(ssort ns).length < 64∧(∀ x∈ns,x < 128) ∧
   ∀ p,H p=none→∀ q,upd H p (.ext (setQ X.w p ns)) q=none→Q (.ref q) (upd (upd H p (.ext (setQ X.w p ns))) q (.lst (nV (ssort ns))))) :
  PEd X (.Call (.Name "sorted" p1) [.Call (.Name "set" p2) [e] [] q2] [] q1) (dCB f da):=by
 have hset:PE X (.Call (.Name "set" p2) [e] [] q2) _:=pe_callTy (cr_setS hc) hg2 hm2 (by decide +kernel) ha (by decide) (by decide) he (by exact starAny rfl)
 refine (pe_callB (cr_sortS hc) hg hm (by decide +kernel) (pa_cons hset pa_nil (starE rfl)) (by decide) (by decide) (by exact starE rfl) (by exact starAny rfl)).imp fun σ H Q h=>?_
 obtain ⟨ρ,e,c,W,V,p⟩:=h
 refine ⟨ρ,e,c,W,V,post.bind p fun xs c1 ρ1 H1 vs ex W1 X1 r1 p1=>?_⟩
 obtain ⟨a,ns,rfl,sq,h64,hx,q⟩:=hf xs c1 ρ1 H1 Q vs W1 r1 p1
 exact ⟨a,ns,rfl,sq,h64,hx,fun p hp=>⟨p,ns,rfl,upd_same,h64,fun q' hq=>q p hp q' hq⟩⟩
noncomputable def sortF:List D→List Cell→R D:=fun xs c=>match xs with
 | [x]=>match lstD c x with
  | some l=>match natsD l with
   | some ns=>.ok (.lst (nD (ssort ns))) c
   | none=>.bad
  | none=>.bad
 | _=>.bad
noncomputable def sortFM:List D→List Cell→R D:=fun xs c=>match xs with
 | [x]=>match lstD c x with
  | some l=>match natsD l with
   | some ns=>.ok (.ref c.length) (c ++ [.lst (nD (ssort ns))])
   | none=>.bad
  | none=>.bad
 | _=>.bad
theorem pd_sortset {e:Expr} {da:Ev→List Cell→R (List D)} {p1 p2 q1 q2:Pos} (ha:PAd X [e] da) (hm:X.mg "sorted"=none) (hm2:X.mg "set"=none) (hg:Gl X "sorted":=by rfl) (hg2:Gl X "set":=by rfl) (hc:X.calm=true:=by rfl)
  (he:starEach [e] X.env=(false,eval e X.env) :: starEach [] X.env:=by exact starE rfl):PEd X (.Call (.Name "sorted" p1) [.Call (.Name "set" p2) [e] [] q2] [] q1) (dSortSet da) :=
 pe_sortset (f:=sortF) ha hm hm2 hg hg2 hc he fun xs c ρ H Q vs W r p=>by
  unfold sortF at p
  split at p
  ·rename_i x
   obtain ⟨v,rr,rfl,hx,hr⟩:=r
   cases hr
   split at p
   ·rename_i l hl
    split at p
    ·rename_i ns hn
     obtain ⟨rfl,h64,hx'⟩:=natsD_ok hn
     obtain ⟨a,ys,rfl,ha',rl⟩:=lstD_ok W hx hl
     cases rels_nD rl
     refine ⟨a,ns,rfl,SqL.of ha',h64,hx',fun q hq q' hq'=>?_⟩
     exact new_lst (W.fresh hq) (rels_new _) (post.ext p (Ext.fresh W hq)) q' hq'
    ·exact p.elim
   ·exact p.elim
  ·exact p.elim
end
section
variable (a:Ev→List Cell→R (List D)) (e:Ev) (c:List Cell)
@[simp] theorem x_sortset:dSortSet a e c=(a e c).bind fun xs c=>match xs with
 | [x]=>match lstD c x with
  | some l=>match natsD l with
   | some ns=>.ok (.lst (nD (ssort ns))) c
   | none=>.bad
  | none=>.bad
 | _=>.bad:=rfl
@[simp] theorem x_sortsetM:dSortSetM a e c=(a e c).bind fun xs c=>match xs with
 | [x]=>match lstD c x with
  | some l=>match natsD l with
   | some ns=>.ok (.ref c.length) (c ++ [.lst (nD (ssort ns))])
   | none=>.bad
  | none=>.bad
 | _=>.bad:=rfl
end
end L2
namespace L2
open PySem PySem.Spec PyProof.Rows
section
variable {prog:Program} {w:World} {A:Around} {E:Value→Shared→Prop} {s:Shared}
theorem nd_len:∀ {l m:List Nat},l.Nodup→(∀ x∈l,x∈m)→l.length≤m.length
 | [],m,_,_=>Nat.zero_le _
 | x :: l,m,h,hs=>by
  obtain ⟨h1,h2⟩:=List.nodup_cons.mp h
  have hx:=hs x (.head _)
  have:=nd_len (m:=m.erase x) h2 fun y hy=>(List.mem_erase_of_ne (fun e:y=x=>h1 (by rw [← e]; exact hy))).mpr (hs y (.tail _ hy))
  rw [List.length_erase_of_mem hx] at this
  have:=List.length_pos_of_mem hx
  rw [List.length_cons]; omega
noncomputable def bothS (ns ms:List Nat):List Nat:=ns.filter fun x=>decide (x∈ms)
end
end L2
namespace L2
open PySem PySem.Spec PyProof.Rows
theorem sub_tuple_set:isSubtype (.type "tuple") (.type "set")=pure false:=by rw [isSubtype_type]; kernel_rfl
theorem sub_tuple_frozenset:isSubtype (.type "tuple") (.type "frozenset")=pure false:=by rw [isSubtype_type]; kernel_rfl
section
variable {prog:Program} {w:World} {A:Around} {s:Shared} {E:Value→Shared→Prop}
set_option maxHeartbeats 3200000 in
theorem set_ofT {l:Addr} {items:Array Value} {xs:List Nat} {Q:Value→Shared→Prop} (hh:A.handled=none) (hl:s.heap.IsTuple l items) (hi:IntsAre items.toList (xs.map fun n:Nat=>(n:Int))) (hx:∀ x∈xs,x < 128) (h64:(foldS xs).length < 64)
  (h:∀ (h':Heap) (tk:Nat),SetI w h' s.heap.objs.size (foldS xs)→(∀ b o,b < s.heap.objs.size→s.heap.get? b=some o→h'.get? b=some o)→Q (.ref s.heap.objs.size) { s with heap:=h',toks:=tk }) :
  wpAny (model prog w) A (call (.type "set") [.ref l]) Q E s:=by
 obtain ⟨c,tl,hmro⟩:=PySem.F.called_set.mro
 have hmade:=PySem.F.called_set.made
 have hsub:=PySem.F.called_set.sub
 refine wpAny_call (codeAny_of_tree (show wpAny _ _ (callAny (.type "set") _) _ _ _ from ?_))
 refine wpAny_pure ⟨Code.quiet_builtin _ (by decide +kernel),codeAny_builtin PySem.F.entry_type_call ?_⟩
 rw [Around.under_plain (weight_type_call_type "set" [.ref l] []) rfl]
 have h1:=PySem.F.called_set.notType
 have h2:=PySem.F.called_set.canCreate
 have hct:=PySem.F.typeCall_set_1 (.ref l)
 repeat any_goals (first | assumption | wp_step)
 refine codeAny_mono (set_new1 (.ref l) (E:=E) (Q₁:=fun obj s₁=>obj=.ref s.heap.objs.size∧s₁={ s with heap:=s.heap.push (emptyS w) }) ⟨rfl,rfl⟩) fun r s₁ hr=>?_
 cases r with
 | error e=>exact hr
 | ok fl =>
  cases fl with
  | ret obj =>
   obtain ⟨rfl,rfl⟩:=hr
   have hS:(s.heap.push (emptyS w)).get? s.heap.objs.size=some (emptyS w):=Heap.get?_push_size _ rfl
   have hT:Shared.TypeIs { s with heap:=s.heap.push (emptyS w) } (.ref s.heap.objs.size) "set":=⟨_,hS,rfl⟩
   have hli:=PySem.F.called_set.init.lookup
   have hbi:=PySem.F.called_set.init.bind (.ref s.heap.objs.size)
   repeat any_goals (first | assumption | wp_step)
   refine codeAny_mono (codeAny_call_builtin (R:=wants (fun r s₂=>r=.none∧∃ h' tk,s₂={ s with heap:=h',toks:=tk }∧SetI w h' s.heap.objs.size (foldS xs) ∧
     (∀ b o,b < s.heap.objs.size→s.heap.get? b=some o→h'.get? b=some o)) E) PySem.F.called_set.init.plain PySem.F.entry_set_init (check_set_init_1 hT ?_)) fun r₂ s₂ hr₂=>?_
   ·obtain ⟨ol,hol,hcl,nl,hdl⟩:=hl
    obtain ⟨ocls,odict,odata,oslots⟩:=ol
    simp only at hcl hdl
    subst hcl; subst hdl
    have hol':(s.heap.push (emptyS w)).get? l=some { cls:=.type "tuple",dict:=odict,data:=.seq items nl,slots:=oslots }:=Heap.get?_push_of_some _ hol
    have hsls:=sub_tuple_set
    have hslf:=sub_tuple_frozenset
    have hne:(Value.type "tuple" == Value.type "dict")=false:=by decide
    have hl1:(s.heap.push (emptyS w)).IsTuple l items:=⟨_,hol',rfl,nl,rfl⟩
    unfold emptyS at hS hT hol' ⊢
    unfold Builtin.«set.__init__» noKeywords Builtin.Frozenset.updateFrom
    generalize hPI:pyIter=PI
    wp_walk
    subst hPI
    refine wpAny_pyIter_tuple hl1 (wpAny_bind (wpAny_runValue ?_))
    have hlS:l < s.heap.objs.size:=Heap.lt_size hol
    have hlen:items.size=xs.length:=by have:=hi.length; simpa using this
    have hneI:l≠(s.heap.push (emptyS w)).objs.size:=by rw [Heap.size_push]; exact Nat.ne_of_lt (Nat.lt_succ_of_lt hlS)
    have hSf:s.heap.objs.size∉[(s.heap.push (emptyS w)).objs.size,l]:=by
     rw [Heap.size_push]; simp only [List.mem_cons,List.not_mem_nil,or_false,not_or]; exact ⟨Nat.ne_of_lt (Nat.lt_succ_self _),Nat.ne_of_gt hlS⟩
    have W:=(Walks.tuple (prog:=prog) (w:=w) (A:=A.in1.in1.in1) (by simp [hh]) (s.heap.push (emptyS w)).objs.size l hneI items).toS
    rw [hlen] at W
    refine set_loop (xs:=xs) W s.heap.objs.size hSf (fun i v hi' hv=>?_) hx h64 xs.length 0 _ (by omega) (Nat.zero_le _) ⟨⟨_,Heap.get?_push_size _ rfl,rfl,rfl⟩,hl1.at fun o e=>Heap.get?_push_of_some _ e⟩ (empty_ok w (Heap.get?_push_of_some _ hS)) fun s' hm hS'=>?_
    ·obtain ⟨t,e⟩:=IntsAre.int_at hi i v (by rw [Array.getElem?_toList]; exact hv)
     exact ⟨t,by rw [e]; simp [List.getD_eq_getElem?_getD,List.getElem?_eq_getElem hi']⟩
    ·obtain ⟨h',g',d',tk',os'⟩:=s'
     cases (show g'=s.gens from hm.gens)
     cases (show d'=s.drawn from hm.drawn)
     cases (show os'=s.os from hm.os)
     refine wpAny_pure (wpAny_pure ⟨rfl,h',tk',rfl,hS',fun b o hb e=>?_⟩)
     exact hm.heap b o (by rw [Heap.size_push]; simp only [List.mem_cons,List.not_mem_nil,or_false,not_or]; exact ⟨Nat.ne_of_lt hb,Nat.ne_of_lt (Nat.lt_succ_of_lt hb)⟩) (Heap.get?_push_of_some _ (Heap.get?_push_of_some _ e))
   ·cases r₂ with
    | error e=>exact hr₂
    | ok fl₂ =>
     cases fl₂ with
     | ret r =>
      obtain ⟨rfl,h',tk,rfl,hS',hk'⟩:=hr₂
      repeat any_goals (first | assumption | wp_step)
      exact h _ _ hS' hk'
     | _=>exact hr₂.elim
  | _=>exact hr.elim
end
end L2
namespace L2
open PySem PySem.Spec PyProof.Rows
noncomputable def setR (w:World) (a:Addr) (rs:List Nat):Heap→Prop:=fun h=>SetI w h a rs
noncomputable def bothN (ns ms:List Nat):Nat:=((ssort ns).filter fun x=>decide (x∈ms)).length
section
variable {X:Cx}
noncomputable def rSetB (X:Cx):List V→Hp→VK→Prop:=fun xs H Q=>∃ a ns,xs=[.ref a]∧(SqL X.K H a (nV ns)∨SqT X.K H a (nV ns))∧(ssort ns).length < 64∧(∀ x∈ns,x < 128)∧∀ p,H p=none→Q (.ref p) (upd H p (.ext (setQ X.w p ns)))
theorem cr_setB (hc:X.calm=true:=by rfl):CallR X (.type "set") (rSetB X):=by
 intro pins s σ H xs us Q I rv h
 obtain ⟨a,ns,rfl,sq,hb,hx,q⟩:=h
 rcases sq with sq | sq
 ·exact cr_setS hc pins s σ H _ us Q I rv ⟨a,ns,rfl,sq,hb,hx,q⟩
 ·obtain ⟨u,rfl,ru⟩:=vals1 rv
  cases ru
  obtain ⟨its,ri,pl,hz⟩:=I.tuple sq
  refine set_ofT (xs:=ns) (I.ok.hd hc) (show s.heap.IsTuple a its.toArray from pl) (by simpa using vals_IA ri) hx (by rw [← ssort_fold]; exact hb) fun h' tk hS kp=>?_
  have hf:H s.heap.objs.size=none:=I.hok.fresh (Nat.le_refl _)
  have hS2:=hS
  obtain ⟨o,es,ep,t,ho,_⟩:=hS2
  refine ⟨.ref s.heap.objs.size,upd H s.heap.objs.size (.ext (setQ X.w s.heap.objs.size ns)),I.laid (t':=tk) (fun b u e=>kp b u (Heap.lt_size e) e) (Nat.le_refl _) ?_,rfl,q _ hf⟩
  exact ⟨hS,⟨o,ho⟩,fun h1 h2 x k=>x.at k⟩
noncomputable def rAndS (X:Cx):R2:=fun x y H Q=>∃ a b ns ms,x=.ref a∧y=.ref b∧a≠b∧H a=some (.ext (setQ X.w a ns))∧H b=some (.ext (setQ X.w b ms))∧(ssort ns).length < 64∧(ssort ms).length < 64 ∧
 ∀ p rs,H p=none→rs.length=bothN ns ms→rs.length < 64→Q (.ref p) (upd H p (.ext (setR X.w p rs)))
noncomputable def rLenR (X:Cx):List V→Hp→VK→Prop:=fun xs H Q=>∃ a rs,xs=[.ref a]∧H a=some (.ext (setR X.w a rs))∧rs.length < 64∧Q (.int (rs.length:Nat)) H
noncomputable def natsC (c:List Cell):D→Option (List Nat)
 | .tup l=>natsD l
 | x=>match lstD c x with
  | some l=>natsD l
  | none=>none
theorem natsC_ok {K:PySem.W.Frag} {ρ:List Addr} {H:Hp} {c:List Cell} {x:D} {v:V} {ns:List Nat} (W:Wd K ρ H c) (r:Rel K ρ H x v) (h:natsC c x=some ns):∃ a,v=.ref a∧(SqL K H a (nV ns)∨SqT K H a (nV ns))∧(ssort ns).length < 64∧∀ x∈ns,x < 128:=by
 unfold natsC at h
 split at h
 ·obtain ⟨rfl,h64,hx⟩:=natsD_ok h
  obtain ⟨a,xs,rfl,ha,rl⟩:=r
  cases rels_nD rl
  exact ⟨a,rfl,.inr (SqT.of ha),h64,hx⟩
 ·split at h
  ·rename_i l hl
   obtain ⟨rfl,h64,hx⟩:=natsD_ok h
   obtain ⟨a,ys,rfl,ha,rl⟩:=lstD_ok W r hl
   cases rels_nD rl
   exact ⟨a,rfl,.inl (SqL.of ha),h64,hx⟩
  ·cases h
noncomputable def dLenAnd (a b:Ev→List Cell→R (List D)):Ev→List Cell→R D:=fun e c=>(a e c).bind fun xs c=>match xs with
 | [x]=>match natsC c x with
  | some ns=>(b e c).bind fun ys c=>match ys with
   | [y]=>match natsC c y with
    | some ms=>.ok (.int (bothN ns ms:Nat)) c
    | none=>.bad
   | _=>.bad
  | none=>.bad
 | _=>.bad
end
@[simp] theorem x_lenand (a b:Ev→List Cell→R (List D)) (e:Ev) (c:List Cell):dLenAnd a b e c=(a e c).bind fun xs c=>match xs with
 | [x]=>match natsC c x with
  | some ns=>(b e c).bind fun ys c=>match ys with
   | [y]=>match natsC c y with
    | some ms=>.ok (.int (bothN ns ms:Nat)) c
    | none=>.bad
   | _=>.bad
  | none=>.bad
 | _=>.bad:=rfl
end L2
namespace L2
open PySem PySem.Spec PyProof.Rows
section
variable {X:Cx}
noncomputable def rInsertI:V→List V→Hp→VK→Prop:=fun x vs H Q=>∃ l xs y,∃ i:Int,x=.ref l∧vs=[.int i,y]∧H l=some (.lst xs)∧(0≤i∧i≤xs.length)∧xs.length < sizeLine∧Q .non (upd H l (.lst (xs.take i.toNat ++ y :: xs.drop i.toNat)))
noncomputable def dInsert (o a b:Ev→List Cell→R D):Ev→List Cell→R D:=fun e c=>(o e c).bind fun x c=>match x with
 | .ref k=>(a e c).bind fun i c=>(b e c).bind fun y c=>match i,c[k]? with
  | .int i,some (.lst l)=>if (0≤i∧i≤l.length)∧l.length < sizeLine∧noRef y=true then .ok .non (c.set k (.lst (l.take i.toNat ++ y :: l.drop i.toNat))) else .bad
  | _,_=>.bad
 | _=>.bad
theorem noRefs_take {l:List D} (h:noRefs l=true) (n:Nat):noRefs (l.take n)=true:=noRefs_iff.mpr fun d hd=>noRefs_iff.mp h d (List.mem_of_mem_take hd)
theorem noRefs_drop {l:List D} (h:noRefs l=true) (n:Nat):noRefs (l.drop n)=true:=noRefs_iff.mpr fun d hd=>noRefs_iff.mp h d (List.mem_of_mem_drop hd)
noncomputable def listM:List D→List Cell→R D:=fun xs c=>match xs with
 | [x]=>match seqD c x with
  | some l=>if noRefs l=true then .ok (.ref c.length) (c ++ [.lst l]) else .bad
  | none=>.bad
 | _=>.bad
end
@[simp] theorem x_insert (o a b:Ev→List Cell→R D) (e:Ev) (c:List Cell):dInsert o a b e c=(o e c).bind fun x c=>match x with
 | .ref k=>(a e c).bind fun i c=>(b e c).bind fun y c=>match i,c[k]? with
  | .int i,some (.lst l)=>if (0≤i∧i≤l.length)∧l.length < sizeLine∧noRef y=true then .ok .non (c.set k (.lst (l.take i.toNat ++ y :: l.drop i.toNat))) else .bad
  | _,_=>.bad
 | _=>.bad:=rfl
end L2
namespace L2
open PySem PySem.Spec PyProof.Rows PySem.SeqAt
section
variable {X:Cx}
noncomputable def rIndexI:V→List V→Hp→VK→Prop:=fun x vs H Q=>∃ l,∃ ns:List Int,∃ k:Int,∃ j,x=.ref l∧vs=[.int k]∧H l=some (.lst (ns.map V.int))∧ns.findIdx? (fun i=>i == k)=some j∧Q (.int (j:Nat)) H
noncomputable def eqK (k:Int):Value→Bool
 | .int i _=>i == k
 | _=>false
theorem vals_at:∀ {ns:List Int} {us:List Value},Vals (ns.map V.int) us→us.length=ns.length∧∀ (i:Nat) (u:Value),us[i]? = some u→∃ t,u=.int (ns.getD i 0) t
 | [],_,.nil=>⟨rfl,fun i u h=>by simp at h⟩
 | n :: ns,_,.cons ⟨t,e⟩ r=>by
  subst e
  obtain ⟨h1,h2⟩:=vals_at r
  refine ⟨by simp [h1],fun i u h=>?_⟩
  cases i with
  | zero=>simp at h; exact ⟨t,by rw [← h]; rfl⟩
  | succ i=>simpa using h2 i u (by simpa using h)
noncomputable def dIndexI (o a:Ev→List Cell→R D):Ev→List Cell→R D:=fun e c=>(o e c).bind fun x c=>match x with
 | .lst l=>(a e c).bind fun y c=>match y,intsD l with
  | .int k,some ns=>match ns.findIdx? (fun i=>i == k) with
   | some j=>.ok (.int (j:Nat)) c
   | none=>.bad
  | _,_=>.bad
 | _=>.bad
end
@[simp] theorem x_indexI (o a:Ev→List Cell→R D) (e:Ev) (c:List Cell):dIndexI o a e c=(o e c).bind fun x c=>match x with
 | .lst l=>(a e c).bind fun y c=>match y,intsD l with
  | .int k,some ns=>match ns.findIdx? (fun i=>i == k) with
   | some j=>.ok (.int (j:Nat)) c
   | none=>.bad
  | _,_=>.bad
 | _=>.bad:=rfl
end L2
namespace L2
open PySem PySem.Spec PyProof.Rows
noncomputable def pickG {α:Type} (xs:List α) (lo hi st:Option Int):List α:=(sliceRange (sliceBounds lo hi st xs.length).1 (sliceBounds lo hi st xs.length).2.1 (sliceBounds lo hi st xs.length).2.2).filterMap fun i=>xs[i]?
section
variable {X:Cx} {e sx:Expr} {te:TE} {lo hi:Option Expr} {tl th ts:TO} {pos p2:Pos}
noncomputable def rSl3 (K:PySem.W.Frag):V→Option Int→Option Int→Option Int→Hp→VK→Prop:=fun x lo hi st H Q=>∃ a xs,x=.ref a∧SqL K H a xs∧st≠some 0∧∀ p,H p=none→Q (.ref p) (upd H p (.lst (pickG xs lo hi st)))
noncomputable def tSl3 (K:PySem.W.Frag) (te:TE) (tl th ts:TO):TE:=fun σ H Q=>te σ H fun x H1=>tl σ H1 fun l H2=>th σ H2 fun u H3=>ts σ H3 fun k H4=>rSl3 K x l u k H4 Q
noncomputable def dSl3 (a:Ev→List Cell→R D) (l h k:Ev→List Cell→R (Option Int)):Ev→List Cell→R D:=fun e c=>(a e c).bind fun x c=>(l e c).bind fun l c=>(h e c).bind fun u c=>(k e c).bind fun k c=>match lstD c x with
 | some xs=>if k≠some 0 then .ok (.lst (pickG xs l u k)) c else .bad
 | none=>.bad
noncomputable def insI (x:Int):List Int→List Int
 | []=>[x]
 | y :: l=>if x≤y then x :: y :: l else y :: insI x l
noncomputable def isort:List Int→List Int
 | []=>[]
 | x :: l=>insI x (isort l)
theorem ins_perm (x:Int):∀ l,(insI x l).Perm (x :: l)
 | []=>.refl _
 | y :: l=>by
  unfold insI
  split
  ·exact .refl _
  ·exact ((ins_perm x l).cons y).trans (List.Perm.swap _ _ _)
theorem isort_perm:∀ l,(isort l).Perm l
 | []=>.refl _
 | x :: l=>(ins_perm x _).trans ((isort_perm l).cons x)
theorem ins_up (x:Int):∀ {l:List Int},l.Pairwise (·≤·)→(insI x l).Pairwise (·≤·)
 | [],_=>by simp [insI]
 | y :: l,h=>by
  obtain ⟨h1,h2⟩:=List.pairwise_cons.mp h
  unfold insI
  split
  ·rename_i hx
   exact List.pairwise_cons.mpr ⟨fun b hb=>by
    rcases List.mem_cons.mp hb with rfl | hb
    ·exact hx
    ·exact Int.le_trans hx (h1 b hb),h⟩
  ·refine List.pairwise_cons.mpr ⟨fun b hb=>?_,ins_up x h2⟩
   rcases List.mem_cons.mp ((ins_perm x l).mem_iff.mp hb) with rfl | hb
   ·omega
   ·exact h1 b hb
theorem isort_up:∀ l:List Int,(isort l).Pairwise (·≤·)
 | []=>.nil
 | x :: l=>ins_up x (isort_up l)
theorem sort_uniq:∀ {l m:List Int},l.Perm m→l.Pairwise (·≤·)→m.Pairwise (·≤·)→l=m
 | [],m,p,_,_=>by have:=p.length_eq; cases m with | nil=>rfl | cons a m=>simp at this
 | x :: l,[],p,_,_=>by have:=p.length_eq; simp at this
 | x :: l,y :: m,p,h1,h2=>by
  obtain ⟨a1,a2⟩:=List.pairwise_cons.mp h1
  obtain ⟨b1,b2⟩:=List.pairwise_cons.mp h2
  have e:x=y:=by
   have u:x≤y:=by
    rcases List.mem_cons.mp (p.mem_iff.mpr (List.mem_cons_self (a:=y) (l:=m))) with e | q
    ·omega
    ·exact a1 y q
   have v:y≤x:=by
    rcases List.mem_cons.mp (p.mem_iff.mp (List.mem_cons_self (a:=x) (l:=l))) with e | q
    ·omega
    ·exact b1 x q
   omega
  subst e
  rw [sort_uniq ((List.perm_cons _).mp p) a2 b2]
noncomputable def rSortL (X:Cx):List V→Hp→VK→Prop:=fun xs H Q=>∃ a ns,xs=[.ref a]∧SqL X.K H a (ns.map V.int)∧ns.length < 64∧∀ p,H p=none→Q (.ref p) (upd H p (.lst ((isort ns).map V.int)))
theorem IA_valsI:∀ {ns:List Int} {us:List Value},IntsAre us ns→Vals (ns.map V.int) us
 | [],_,.nil=>.nil
 | n :: ns,_,.cons _ t r=>.cons ⟨t,rfl⟩ (IA_valsI r)
theorem cr_sortL:CallR X (.builtin "sorted") (rSortL X):=by
 intro pins s σ H xs us Q I rv h
 obtain ⟨a,ns,rfl,sq,hn,q⟩:=h
 obtain ⟨u,rfl,ru⟩:=vals1 rv
 cases ru
 obtain ⟨its,ri,pl,hz⟩:=I.list sq
 have hl:=ri.length
 have hIA:IntsAre its ns:=intsAre_of ri
 refine sorted_ints pl.isList hIA (by rw [← hl]; simpa using hn) fun out zs i1 i2 i3=>?_
 have hzs:zs=isort ns:=sort_uniq (i2.trans (isort_perm ns).symm) i3 (isort_up ns)
 subst hzs
 have hf:H (s.heap.objs.size + 1)=none:=I.hok.fresh (Nat.le_succ _)
 have hne:∀ b o,s.heap.get? b=some o→s.heap.objs.size≠b∧s.heap.objs.size + 1≠b:=fun b o e=>⟨Nat.ne_of_gt (Heap.lt_size e),Nat.ne_of_gt (Nat.lt_succ_of_lt (Heap.lt_size e))⟩
 have hsz:((s.heap.push (seqObj "list" #[] 0)).update s.heap.objs.size (Obj.mapSeq (· ++ its.toArray))).objs.size=s.heap.objs.size + 1:=by rw [Heap.size_update,Heap.size_push]
 have hoL:(((s.heap.push (seqObj "list" #[] 0)).update s.heap.objs.size (Obj.mapSeq (· ++ its.toArray))).push (seqObj "list" its.toArray 0)).get? (s.heap.objs.size + 1)=some (seqObj "list" its.toArray 0):=by
  rw [← hsz]; exact Heap.get?_push_size _ rfl
 have g1:=get?_update_seq hoL (fun _=>#[])
 have g2:=get?_update_seq (Heap.get?_push_of_some (seqObj "list" #[] 0) (Heap.get?_push_of_some (seqObj "tuple" its.toArray 0) g1)) fun _=>out
 refine ⟨.ref (s.heap.objs.size + 1),upd H (s.heap.objs.size + 1) (.lst ((isort ns).map V.int)),I.laid (t':=s.toks) (fun b o e=>?_) (Nat.le_succ _) ⟨?_,out.toList,_,IA_valsI i1,by rw [Array.toArray_toList]; exact g2⟩,rfl,q _ hf⟩
 ·obtain ⟨n1,n2⟩:=hne b o e
  exact (Heap.get?_update_other _ _ n2).trans (Heap.get?_push_of_some _ (Heap.get?_push_of_some _ ((Heap.get?_update_other _ _ n2).trans (Heap.get?_push_of_some _ ((Heap.get?_update_other _ _ n1).trans (Heap.get?_push_of_some _ e))))))
 ·have:=(isort_perm ns).length_eq
  rw [List.length_map,this,sizeLine_eq]; omega
noncomputable def sortLD:List D→List Cell→R D:=fun xs c=>match xs with
 | [x]=>match lstD c x with
  | some l=>match intsD l with
   | some ns=>if ns.length < 64 then .ok (.lst ((isort ns).map D.int)) c else .bad
   | none=>.bad
  | none=>.bad
 | _=>.bad
theorem cd_sortL:CallR X (.builtin "sorted") (rN X.K sortLD):=by
 intro pins s σ H vs us Q I rv h
 obtain ⟨ρ,xs,c,W,rx,p⟩:=h
 unfold sortLD at p
 split at p
 ·obtain ⟨v,r',rfl,hx,hr⟩:=rx
  cases hr
  split at p
  ·rename_i l hl
   split at p
   ·rename_i ns hn
    split at p
    ·rename_i hb
     obtain ⟨a,ys,rfl,ha',rl⟩:=lstD_ok W hx hl
     rw [intsD_eq hn] at rl
     cases rl.ints_inv
     exact cr_sortL pins s σ H _ us Q I rv ⟨a,ns,rfl,SqL.of ha',hb,new_lst W Rels.ints p⟩
    ·exact p.elim
   ·exact p.elim
  ·exact p.elim
 ·exact p.elim
noncomputable def rRng2:List V→Hp→VK→Prop:=fun xs H Q=>∃ i j,xs=[.int i,.int j]∧∀ p,H p=none→Q (.ref p) (upd H p (.rng i j))
noncomputable def rngI (i j:Int):List Int:=(List.range (j - i).toNat).map fun k:Nat=>i + (k:Int)
theorem vals_items {f:Nat→Int} {acc:Array Value} {n:Nat} (h:ItemsOf (fun k v=>∃ t,v=.int (f k) t) acc n):Vals (((List.range n).map f).map V.int) acc.toList:=by
 have hl:acc.toList.length=n:=by rw [Array.length_toList]; exact h.1
 have key:∀ (us:List Value) (o:Nat),(∀ (k:Nat) (u:Value),us[k]? = some u→∃ t,u=.int (f (o + k)) t)→Vals (((List.range' o us.length).map f).map V.int) us:=by
  intro us
  induction us with
  | nil=>intro o _; exact .nil
  | cons u us ih =>
   intro o hu
   rw [List.length_cons,List.range'_succ]
   obtain ⟨t,e⟩:=hu 0 u rfl
   refine .cons ⟨t,e⟩ (ih (o + 1) fun k v hv=>?_)
   have:=hu (k + 1) v (by simpa using hv)
   rwa [show o + (k + 1)=o + 1 + k by omega] at this
 have:=key acc.toList 0 fun k u hu=>by
  have:=h.2 k u (by rw [← Array.getElem?_toList]; exact hu)
  rwa [Nat.zero_add]
 rwa [hl,← List.range_eq_range'] at this
noncomputable def rLRng (X:Cx):List V→Hp→VK→Prop:=fun xs H Q=>∃ p i j,xs=[.ref p]∧H p=some (.rng i j)∧(0≤i∧i < j∧j < 1000)∧∀ l,H l=none→Q (.ref l) (upd H l (.lst ((rngI i j).map V.int)))
theorem cr_lrng (hc:X.calm=true:=by rfl):CallR X (.type "list") (rLRng X):=by
 intro pins s σ H xs us Q I rv h
 obtain ⟨p,i,j,rfl,hH,hb,q⟩:=h
 obtain ⟨u,rfl,ru⟩:=vals1 rv
 cases ru
 obtain ⟨t,u,v,hr⟩:=I.hok p _ hH
 have hn:Builtin.Range.rangeSize i j 1=((j - i).toNat:Nat):=by
  unfold Builtin.Range.rangeSize
  rw [if_pos (by decide),if_pos hb.2.1,Int.ediv_one]
  omega
 have hsm:Builtin.Range.small i j 1=true:=small_one (by omega) (by omega) (by omega) (by omega)
 refine call_list_range (I.ok.hd hc) hr hsm hn (by omega) fun h' tk acc c' kp hg hit=>?_
 have hit':ItemsOf (fun k v=>∃ t,v=Value.int ((fun k:Nat=>i + (k:Int)) k) t) acc (j - i).toNat:=⟨hit.1,fun k v hv=>by
  have:=hit.2 k v hv
  simpa using this⟩
 refine ⟨.ref s.heap.objs.size,upd H s.heap.objs.size (.lst ((rngI i j).map V.int)),I.laid (t':=tk) kp (Nat.le_refl _) ⟨?_,acc.toList,c',vals_items hit',by rw [Array.toArray_toList]; exact hg⟩,rfl,q _ (I.hok.fresh (Nat.le_refl _))⟩
 simp only [rngI,List.length_map,List.length_range]
 rw [sizeLine_eq]; omega
noncomputable def dLRng (a:Ev→List Cell→R (List D)):Ev→List Cell→R D:=fun e c=>(a e c).bind fun xs c=>match xs with
 | [.int i,.int j]=>if 0≤i∧i < j∧j < 1000 then .ok (.lst ((rngI i j).map D.int)) c else .bad
 | _=>.bad
end
section
variable (a:Ev→List Cell→R D) (b:Ev→List Cell→R (List D)) (l h k:Ev→List Cell→R (Option Int)) (e:Ev) (c:List Cell)
@[simp] theorem x_sl3:dSl3 a l h k e c=(a e c).bind fun x c=>(l e c).bind fun l c=>(h e c).bind fun u c=>(k e c).bind fun k c=>match lstD c x with
 | some xs=>if k≠some 0 then .ok (.lst (pickG xs l u k)) c else .bad
 | none=>.bad:=rfl
@[simp] theorem x_lrng:dLRng b e c=(b e c).bind fun xs c=>match xs with
 | [.int i,.int j]=>if 0≤i∧i < j∧j < 1000 then .ok (.lst ((rngI i j).map D.int)) c else .bad
 | _=>.bad:=rfl
end
end L2
namespace L2
open PySem PySem.Spec PyProof.Rows PySem.SeqAt
open AutoSeq1 (wpAny_loadPart')
theorem forIn_rng_ {M:Model} {A:Around} {E:Value→Shared→Prop} {s:Shared} {β:Type} (f:Nat→β→Sem (ForInStep β)) (I:List Nat→β→Shared→Prop) (Q:β→Shared→Prop)
  (turn:∀ x rest b s,I (x :: rest) b s→wpAny M A (f x b) (fun r s'=>match r with | .yield b'=>I rest b' s' | .done b'=>Q b' s') E s)
  (fin:∀ b s,I [] b s→Q b s) (r:Std.Legacy.Range) (b:β) (h:I (List.range' r.start r.size r.step) b s):wpAny M A (forIn r b f) Q E s:=by
 rw [Std.Legacy.Range.forIn_eq_forIn_range']
 exact wpAny_forIn_list f I Q turn fin _ b h
theorem tuple_indexAt (l:Addr) (items:Array Value) (n:Nat) (dd:Option Addr) (sl:Array (Option Value)) (x:Value) (e:Value→Bool) (j:Nat) (hj:j < items.size)
  (hit:e items[j]=true) (hno:∀ m (hm:m < items.size),m < j→e items[m]=false) :
  Meets (Builtin.«tuple.index» ⟨[.ref l,x],[]⟩)
   (fun A R s=>s.heap.get? l=some { cls:=.type "tuple",dict:=dd,data:=.seq items n,slots:=sl }∧(∀ y,y∈items→EqAt A.in1 s y x (e y))∧R (.ok (.ret (.int j s.toks))) { s with toks:=s.toks + 1 }) :=
 .of_wp fun prog w A R s h=>by
  obtain ⟨hp,g,d,tk,os⟩:=s; obtain ⟨hl,he,h⟩:=h
  wp_walk using wpAny_loadPart' hl,forIn_rng_ _ (fun rest b s'=>b.1=none∧s'=⟨hp,g,d,tk,os⟩∧∃ k,k≤j∧rest=List.range' k (items.size - k)) _
  case turn =>
   rintro y rest b s' ⟨hb,rfl,k,hk,hr⟩
   have hk':k < items.size:=by omega
   rw [show items.size - k=(items.size - (k + 1)) + 1 by omega,List.range'_succ] at hr
   obtain ⟨rfl,rfl⟩:=List.cons.inj hr
   rw [Array.getElem?_eq_getElem hk']
   refine wpAny_bind (he _ (Array.getElem_mem hk') prog w _ _ ?_)
   rcases Nat.lt_or_ge y j with q | q
   ·rw [hno y hk' q]
    exact wpAny_pure ⟨rfl,rfl,y + 1,q,rfl⟩
   ·have e1:y=j:=by omega
    subst e1
    rw [hit]
    wp_walk
    exact ⟨_,rfl,h⟩
  case fin =>
   rintro ⟨b1,b2⟩ s' ⟨hb,rfl,k,hk,hr⟩
   have:=congrArg List.length hr
   rw [List.length_range',List.length_nil] at this
   omega
  case h =>
   refine ⟨rfl,rfl,0,Nat.zero_le _,?_⟩
   simp [Std.Legacy.Range.size]
section
variable {X:Cx}
noncomputable def rIndexT (K:PySem.W.Frag):V→List V→Hp→VK→Prop:=fun x vs H Q=>∃ l,∃ ns:List Int,∃ k:Int,∃ j,x=.ref l∧vs=[.int k]∧SqT K H l (ns.map V.int)∧ns.findIdx? (fun i=>i == k)=some j∧Q (.int (j:Nat)) H
theorem mt_indexT:MtM X "tuple.index" (rIndexT X.K):=by
 intro pins s σ H x vs v us Q I rx rv h
 obtain ⟨l,ns,k,j,rfl,rfl,hH,hj,q⟩:=h
 cases rx
 obtain ⟨u,rfl,ru⟩:=rv.one
 obtain ⟨tk,rfl⟩:=ru
 obtain ⟨its,r,pt,z⟩:=I.tuple hH
 obtain ⟨⟨cls,dd,data,sl⟩,ho,hc,n,hd⟩:=id pt
 simp only at hc hd
 subst hc hd
 obtain ⟨hlen,hat⟩:=vals_at r
 rw [List.findIdx?_eq_some_iff_getElem] at hj
 obtain ⟨h1,h2,h3⟩:=hj
 have ek:∀ (m:Nat) (hm:m < its.toArray.size) (hn:m < ns.length),eqK k its.toArray[m]=(ns[m] == k):=fun m hm hn=>by
  obtain ⟨t,et⟩:=hat m its.toArray[m] (by simp)
  rw [et]
  simp [eqK,List.getD_eq_getElem?_getD,List.getElem?_eq_getElem hn]
 refine call_meets F.slot_tuple_index ⟨_,ho,rfl⟩ F.entry_tuple_index (F.args_tuple_index_2 _ _) (tuple_indexAt l its.toArray n dd sl (.int k tk) (eqK k) j (by simpa [hlen] using h1) (by rw [ek j _ h1]; exact h2)
  (fun m hm hlt=>by rw [ek m hm (by omega)]; have:=h3 m hlt; simpa using this)) ⟨ho,fun y hy=>?_,?_⟩
 ·rw [List.mem_toArray] at hy
  obtain ⟨i,hi,ei⟩:=List.getElem_of_mem hy
  obtain ⟨t,et⟩:=hat i y (by rw [List.getElem?_eq_getElem hi,ei])
  rw [et]
  exact EqAt.int_int _ _ _ _
 ·exact ⟨.int (j:Nat),H,I.tok _,⟨s.toks,rfl⟩,q⟩
noncomputable def dIndexT (o a:Ev→List Cell→R D):Ev→List Cell→R D:=fun e c=>(o e c).bind fun x c=>match x with
 | .tup l=>(a e c).bind fun y c=>match y,intsD l with
  | .int k,some ns=>match ns.findIdx? (fun i=>i == k) with
   | some j=>.ok (.int (j:Nat)) c
   | none=>.bad
  | _,_=>.bad
 | _=>.bad
theorem pd_indexT {o e:Expr} {dO da:Ev→List Cell→R D} {apos cpos:Pos} (ho:PEd X o dO) (ha:PEd X e da)
  (hbase:attributeBase o "index" X.env (eval o X.env)=eval o X.env:=by rfl)
  (hfew:((backTo cpos (starEach [e] X.env)).all (fun x=>!x.1) && (backToKw cpos (keywordEach [] X.env)).all (fun x=>x.1.isSome)
   && decide ([e].length + ([]:List Keyword).length + (if ([]:List Keyword).isEmpty then 0 else 1) < 30))=true:=by exact starFew rfl)
  (hline:(apos.endLine == cpos.line)=true:=by rfl) (hs:starEach [e] X.env=(false,eval e X.env) :: starEach [] X.env:=by exact starE rfl) (hplain:(backTo cpos (starEach [] X.env)).any (·.1)=false:=by exact starAny rfl) :
  PEd X (.Call (.Attribute o "index" apos) [e] [] cpos) (dIndexT dO da) :=
 (pe_bm PySem.F.plainAttrs_tuple PySem.F.slot_tuple_index PySem.F.type_tuple_index mt_indexT ho (pa_cons ha pa_nil hs) hbase hfew hline hs hplain).imp fun σ H Q h=>by
  obtain ⟨ρ,e,c,W,V,p⟩:=h
  refine ⟨ρ,e,c,W,V,post.bind p fun x c1 ρ1 H1 v _ W1 X1 r1 p1=>?_⟩
  cases x with
  | tup l =>
   obtain ⟨a,xs,rfl,hx,rl⟩:=r1
   refine ⟨.inr (.inl ⟨rfl,.inl ⟨xs,hx⟩⟩),ρ1,e,c1,W1,V.mono W X1,post.bind p1 fun y c2 ρ2 H2 u _ W2 X2 r2 p2=>?_⟩
   split at p2
   ·rename_i k ns hb _
    cases r2
    rw [intsD_eq hb] at rl
    cases rl.ints_inv
    split at p2
    ·rename_i j hj
     exact ⟨a,ns,k,j,rfl,rfl,SqT.of (tup_mono W1 X2 hx),hj,p2.here W2 rfl⟩
    ·exact p2.elim
   ·exact p2.elim
  | _=>exact p1.elim
theorem gather_tup {prog:Program} {w:World} {A:Around} {E:Value→Shared→Prop} {s:Shared} {t:Addr} {us:List Value} {Q:List Value→Shared→Prop} (ht:IsTup s.heap t us.toArray) (hz:us.length≤sizeLine)
  (q:Q us { s with heap:=(s.heap.push (seqObj "list" #[] 0)).update s.heap.objs.size (Obj.mapSeq (· ++ us.toArray)) }):wpAny (model prog w) A (collect (.ref t)) Q E s:=by
 obtain ⟨o,h1,h2,n,h3⟩:=ht
 have k1:(s.heap.push (seqObj "list" #[] 0)).get? t=some o:=Heap.get?_push_of_some _ h1
 have new0:(s.heap.push (seqObj "list" #[] 0)).get? s.heap.objs.size=some (seqObj "list" #[] 0):=Heap.get?_push_size _ rfl
 unfold collect
 refine wpAny_bind (wpAny_runValue (codeAny_builtin entry_proto_collect' ?_))
 show wpAny _ _ (do again (.builtin "list.__iadd__" ⟨[← newList [],.ref t],[]⟩)) _ _ s
 refine wpAny_bind (wpAny_newList (wpAny_pure ⟨Code.quiet_builtin _ (by decide +kernel),codeAny_builtin entry_list_iadd' ?_⟩))
 show wpAny _ _ (Builtin.List.listExtendWith (.ref s.heap.objs.size) (.ref t) (.ref s.heap.objs.size)) _ _ { s with heap:=s.heap.push (seqObj "list" #[] 0) }
 unfold Builtin.List.listExtendWith
 refine wpAny_bind (wpAny_typeOf (T:="tuple") ⟨o,k1,h2⟩ ?_)
 have tt:(Value.type "tuple" == Value.type "tuple")=true:=rfl
 rw [if_pos (by rw [tt]; simp)]
 refine wpAny_bind (listItems_at k1 h3 (wpAny_bind (listItems_at new0 rfl ?_)))
 rw [if_neg (by simp)]
 refine wpAny_bind (listUpdate_at new0 rfl ?_ (Nat.zero_le _) (by show (#[] ++ us.toArray).size≤sizeLine + 1; rw [Array.size_append,List.size_toArray]; simp only [List.size_toArray,List.length_nil]; omega))
 refine wpAny_pure ?_
 show wpAny (model prog w) A (load s.heap.objs.size >>= _) Q E _
 refine wpAny_bind (wpAny_load (get?_update_seq new0 _) ?_)
 show wpAny _ _ (pure ((#[]:Array Value) ++ us.toArray).toList) Q E _
 have eu:((#[]:Array Value) ++ us.toArray).toList=us:=by simp
 rw [eu]
 exact wpAny_pure q
theorem sorted_intsT {prog:Program} {w:World} {A:Around} {E:Value→Shared→Prop} {s:Shared} {l:Addr} {vs:List Value} {ns:List Int} {Q:Value→Shared→Prop} (hl:IsTup s.heap l vs.toArray) (hI:IntsAre vs ns) (h64:vs.length < 64)
  (h:∀ (out:Array Value) (ns':List Int),IntsAre out.toList ns'→ns'.Perm ns→ns'.Pairwise (·≤·)→Q (.ref (s.heap.objs.size + 1)) { s with heap:=sortedAll s.heap vs out }) :
  wpAny (model prog w) A (call (.builtin "sorted") [.ref l]) Q E s:=by
 have hz:vs.length≤sizeLine:=by rw [sizeLine_eq]; omega
 have e1:((s.heap.push (seqObj "list" #[] 0)).update s.heap.objs.size (Obj.mapSeq (· ++ vs.toArray))).objs.size=s.heap.objs.size + 1:=by
  rw [Heap.size_update,size_push']
 have e2:(((s.heap.push (seqObj "list" #[] 0)).update s.heap.objs.size (Obj.mapSeq (· ++ vs.toArray))).push (seqObj "list" vs.toArray 0)).get? (s.heap.objs.size + 1)=some (seqObj "list" vs.toArray 0):=by
  rw [← e1]; exact Heap.get?_push_size _ rfl
 refine Calls.call_function_entry kind_sorted plain_sorted entry_sorted (args_sorted1 _) ?_
 unfold Builtin.«sorted»
 refine wpAny_bind (m:=checkCount "sorted" 1 1 _) (wpAny_pure (wpAny_bind (gather_tup hl hz (wpAny_bind (wpAny_newList ?_)))))
 show wpAny _ _ _ _ _ { s with heap:=((s.heap.push (seqObj "list" #[] 0)).update s.heap.objs.size (Obj.mapSeq (· ++ vs.toArray))).push (seqObj "list" vs.toArray 0) }
 rw [e1]
 refine wpAny_bind (wpAny_holding (wpAny_call_entry slot_list_sort ⟨_,e2,rfl⟩ entry_list_sort (list_sort_tree e2 hI h64 fun out ns' a1 a2 a3=>⟨_,rfl,wpAny_pure ⟨_,rfl,h out ns' a1 a2 a3⟩⟩) (args_list_sort _)))
noncomputable def rSortT (X:Cx):List V→Hp→VK→Prop:=fun xs H Q=>∃ a ns,xs=[.ref a]∧SqT X.K H a (ns.map V.int)∧ns.length < 64∧∀ p,H p=none→Q (.ref p) (upd H p (.lst ((isort ns).map V.int)))
theorem cr_sortT:CallR X (.builtin "sorted") (rSortT X):=by
 intro pins s σ H xs us Q I rv h
 obtain ⟨a,ns,rfl,sq,hn,q⟩:=h
 obtain ⟨u,rfl,ru⟩:=vals1 rv
 cases ru
 obtain ⟨its,ri,pl,hz⟩:=I.tuple sq
 have hl:=ri.length
 have hIA:IntsAre its ns:=intsAre_of ri
 refine sorted_intsT pl hIA (by rw [← hl]; simpa using hn) fun out zs i1 i2 i3=>?_
 have hzs:zs=isort ns:=sort_uniq (i2.trans (isort_perm ns).symm) i3 (isort_up ns)
 subst hzs
 have hf:H (s.heap.objs.size + 1)=none:=I.hok.fresh (Nat.le_succ _)
 have hsz:((s.heap.push (seqObj "list" #[] 0)).update s.heap.objs.size (Obj.mapSeq (· ++ its.toArray))).objs.size=s.heap.objs.size + 1:=by rw [Heap.size_update,Heap.size_push]
 have hoL:(((s.heap.push (seqObj "list" #[] 0)).update s.heap.objs.size (Obj.mapSeq (· ++ its.toArray))).push (seqObj "list" its.toArray 0)).get? (s.heap.objs.size + 1)=some (seqObj "list" its.toArray 0):=by
  rw [← hsz]; exact Heap.get?_push_size _ rfl
 have g1:=get?_update_seq hoL (fun _=>#[])
 have g2:=get?_update_seq (Heap.get?_push_of_some (seqObj "list" #[] 0) (Heap.get?_push_of_some (seqObj "tuple" its.toArray 0) g1)) fun _=>out
 refine ⟨.ref (s.heap.objs.size + 1),upd H (s.heap.objs.size + 1) (.lst ((isort ns).map V.int)),I.laid (t':=s.toks) (fun b o e=>?_) (Nat.le_succ _) ⟨?_,out.toList,_,IA_valsI i1,by rw [Array.toArray_toList]; exact g2⟩,rfl,q _ hf⟩
 ·have n1:s.heap.objs.size≠b:=Nat.ne_of_gt (Heap.lt_size e)
  have n2:s.heap.objs.size + 1≠b:=Nat.ne_of_gt (Nat.lt_succ_of_lt (Heap.lt_size e))
  exact (Heap.get?_update_other _ _ n2).trans (Heap.get?_push_of_some _ (Heap.get?_push_of_some _ ((Heap.get?_update_other _ _ n2).trans (Heap.get?_push_of_some _ ((Heap.get?_update_other _ _ n1).trans (Heap.get?_push_of_some _ e))))))
 ·have:=(isort_perm ns).length_eq
  rw [List.length_map,this,sizeLine_eq]; omega
noncomputable def sortTD:List D→List Cell→R D:=fun xs c=>match xs with
 | [.tup l]=>match intsD l with
  | some ns=>if ns.length < 64 then .ok (.lst ((isort ns).map D.int)) c else .bad
  | none=>.bad
 | _=>.bad
theorem cd_sortT:CallR X (.builtin "sorted") (rN X.K sortTD):=by
 intro pins s σ H vs us Q I rv h
 obtain ⟨ρ,xs,c,W,rx,p⟩:=h
 unfold sortTD at p
 split at p
 ·obtain ⟨v,r',rfl,hx,hr⟩:=rx
  cases hr
  split at p
  ·rename_i ns hn
   split at p
   ·rename_i hb
    obtain ⟨a,ys,rfl,ha',rl⟩:=hx
    rw [intsD_eq hn] at rl
    cases rl.ints_inv
    exact cr_sortT pins s σ H _ us Q I rv ⟨a,ns,rfl,SqT.of ha',hb,new_lst W Rels.ints p⟩
   ·exact p.elim
  ·exact p.elim
 ·exact p.elim
noncomputable def rRng1:List V→Hp→VK→Prop:=fun xs H Q=>∃ j,xs=[.int j]∧∀ p,H p=none→Q (.ref p) (upd H p (.rng 0 j))
theorem cr_rng1:CallR X (.type "range") rRng1:=by
 intro pins s σ H xs us Q I rv h
 obtain ⟨j,rfl,q⟩:=h
 obtain ⟨u,rfl,ru⟩:=vals1 rv
 obtain ⟨t,rfl⟩:=ru
 refine call_range_1 ⟨.ref s.heap.objs.size,upd H s.heap.objs.size (.rng 0 j),I.laid (t':=s.toks + 1 + 1) (fun b o e=>Heap.get?_push_of_some _ e) (Nat.le_refl _) ?_,rfl,q _ (I.hok.fresh (Nat.le_refl _))⟩
 exact ⟨_,_,_,Heap.get?_push_size _ rfl⟩
noncomputable def dLRng1 (a:Ev→List Cell→R (List D)):Ev→List Cell→R D:=fun e c=>(a e c).bind fun xs c=>match xs with
 | [.int j]=>if 0 < j∧j < 1000 then .ok (.lst ((rngI 0 j).map D.int)) c else .bad
 | _=>.bad
theorem pd_lrng1 {a:Expr} {da:Ev→List Cell→R (List D)} {p1 p2 q1 q2:Pos} (ha:PAd X [a] da) (hm:X.mg "list"=none) (hm2:X.mg "range"=none) (hg:Gl X "list":=by rfl) (hg2:Gl X "range":=by rfl) (hc:X.calm=true:=by rfl)
  (he:starEach [a] X.env=(false,eval a X.env) :: starEach [] X.env:=by exact starE rfl) (hb:(backTo q2 (starEach [] X.env)).any (·.1)=false:=by exact starAny rfl):PEd X (.Call (.Name "list" p1) [.Call (.Name "range" p2) [a] [] q2] [] q1) (dLRng1 da):=by
 have hr:PE X (.Call (.Name "range" p2) [a] [] q2) _:=pe_callTy cr_rng1 hg2 hm2 (by decide +kernel) ha (by decide) (by decide) he hb
 refine (pe_callTy (cr_lrng hc) hg hm (by decide +kernel) (pa_cons hr pa_nil (starE rfl)) (by decide) (by decide) (by exact starE rfl) (by exact starAny rfl)).imp fun σ H Q h=>?_
 obtain ⟨ρ,e,c,W,V,p⟩:=h
 refine ⟨ρ,e,c,W,V,post.bind p fun xs c1 ρ1 H1 vs ex W1 X1 r1 p1=>?_⟩
 clear ex
 split at p1
 ·rename_i j
  obtain ⟨v,r,rfl,hx,hr2⟩:=r1
  cases hr2; cases hx
  split at p1
  ·rename_i hb
   refine ⟨j,rfl,fun p hp=>⟨p,0,j,rfl,upd_same,⟨Int.le_refl _,hb.1,hb.2⟩,fun l hl=>?_⟩⟩
   exact new_lst (W1.fresh hp) Rels.ints (post.ext p1 (Ext.fresh W1 hp)) l hl
  ·exact p1.elim
 ·exact p1.elim
noncomputable def rTRng (X:Cx):List V→Hp→VK→Prop:=fun xs H Q=>∃ p i j,xs=[.ref p]∧H p=some (.rng i j)∧(0≤i∧i < j∧j < 1000)∧∀ l,H l=none→Q (.ref l) (upd H l (.tup ((rngI i j).map V.int)))
noncomputable def dTRng1 (a:Ev→List Cell→R (List D)):Ev→List Cell→R D:=fun e c=>(a e c).bind fun xs c=>match xs with
 | [.int j]=>if 0 < j∧j < 1000 then .ok (.tup ((rngI 0 j).map D.int)) c else .bad
 | _=>.bad
noncomputable def isNotBD:D→D→List Cell→R D:=fun x y c=>match x,y with
 | .bl a,.bl b=>.ok (.bl (!decide (a=b))) c
 | _,_=>.bad
noncomputable def rLenQ (X:Cx):List V→Hp→VK→Prop:=fun xs H Q=>∃ a ns,xs=[.ref a]∧H a=some (.ext (setQ X.w a ns))∧(ssort ns).length < 64∧Q (.int ((ssort ns).length:Nat)) H
theorem cr_lenQ:CallR X (.builtin "len") (rLenQ X):=by
 intro pins s σ H xs us Q I rv h
 obtain ⟨a,ns,rfl,hH,hn,q⟩:=h
 obtain ⟨u,rfl,ru⟩:=vals1 rv
 cases ru
 obtain ⟨hS,_,_⟩:=I.hok a _ hH
 obtain ⟨o,es,ep,t,ho,hex,hd,hI,hl,hs⟩:=hS
 have he:es.size=(ssort ns).length:=by rw [← Array.length_toList,ssort_fold]; exact hs.len
 refine call_len_set ho hex hd hI.fits (by rw [he]; omega) ⟨.int ((ssort ns).length:Nat),H,I.tok _,⟨_,by rw [he]⟩,q⟩
noncomputable def dLenSetN (a:Ev→List Cell→R (List D)):Ev→List Cell→R D:=fun e c=>(a e c).bind fun xs c=>match xs with
 | [x]=>match natsC c x with
  | some ns=>.ok (.int ((ssort ns).length:Nat)) c
  | none=>.bad
 | _=>.bad
theorem pd_lensetN {a:Expr} {da:Ev→List Cell→R (List D)} {p0 p1 q0 q1:Pos} (ha:PAd X [a] da) (hm:X.mg "len"=none) (hm2:X.mg "set"=none) (hg:Gl X "len":=by rfl) (hg2:Gl X "set":=by rfl) (hc:X.calm=true:=by rfl)
  (he:starEach [a] X.env=(false,eval a X.env) :: starEach [] X.env:=by exact starE rfl) :
  PEd X (.Call (.Name "len" p0) [.Call (.Name "set" p1) [a] [] q1] [] q0) (dLenSetN da):=by
 have h1:PE X (.Call (.Name "set" p1) [a] [] q1) _:=pe_callTy (cr_setB hc) hg2 hm2 (by decide +kernel) ha (by decide) (by decide) he (by exact starAny rfl)
 refine (pe_callB cr_lenQ hg hm (by decide +kernel) (pa_cons h1 pa_nil (starE rfl)) (by decide) (by decide) (by exact starE rfl) (by exact starAny rfl)).imp fun σ H Q h=>?_
 obtain ⟨ρ,e,c,W,V,p⟩:=h
 refine ⟨ρ,e,c,W,V,post.bind p fun xs c1 ρ1 H1 vs ex W1 X1 r1 p1=>?_⟩
 clear ex
 split at p1
 ·rename_i x
  obtain ⟨v,r,rfl,hx,hr⟩:=r1
  cases hr
  split at p1
  ·rename_i ns hn
   obtain ⟨ad,rfl,sq,h64,hx'⟩:=natsC_ok W1 hx hn
   refine ⟨ad,ns,rfl,sq,h64,hx',fun pa hpa=>⟨pa,ns,rfl,upd_same,h64,?_⟩⟩
   exact (post.ext p1 (Ext.fresh W1 hpa)).here (W1.fresh hpa) rfl
  ·exact p1.elim
 ·exact p1.elim
end
section
variable (o a:Ev→List Cell→R D) (b:Ev→List Cell→R (List D)) (e:Ev) (c:List Cell)
@[simp] theorem x_isNotB (a b:Bool):isNotBD (.bl a) (.bl b) c=.ok (.bl (!decide (a=b))) c:=rfl
@[simp] theorem x_lrng1:dLRng1 b e c=(b e c).bind fun xs c=>match xs with
 | [.int j]=>if 0 < j∧j < 1000 then .ok (.lst ((rngI 0 j).map D.int)) c else .bad
 | _=>.bad:=rfl
@[simp] theorem x_trng1:dTRng1 b e c=(b e c).bind fun xs c=>match xs with
 | [.int j]=>if 0 < j∧j < 1000 then .ok (.tup ((rngI 0 j).map D.int)) c else .bad
 | _=>.bad:=rfl
end
end L2
namespace L2
open PySem PySem.Spec PyProof.Rows
noncomputable def xorD:D→D→List Cell→R D:=fun x y c=>match x,y with
 | .int i,.int j=>.ok (.int (Builtin.bitXor i j)) c
 | _,_=>.bad
noncomputable def dPop (o a:Ev→List Cell→R D):Ev→List Cell→R D:=fun e c=>(o e c).bind fun x c=>match x with
 | .ref k=>(a e c).bind fun i c=>match i,c[k]? with
  | .int i,some (.lst l)=>if 0≤i∧i < l.length∧l.length < 1000 then (match l[i.toNat]? with | some d=>.ok d (c.set k (.lst (l.eraseIdx i.toNat))) | none=>.bad) else .bad
  | _,_=>.bad
 | _=>.bad
noncomputable def dLRng1M (a:Ev→List Cell→R (List D)):Ev→List Cell→R D:=fun e c=>(a e c).bind fun xs c=>match xs with
 | [.int j]=>if 0 < j∧j < 1000 then .ok (.ref c.length) (c ++ [.lst ((rngI 0 j).map D.int)]) else .bad
 | _=>.bad
section
variable {X:Cx}
theorem od_xor:OpR X (binaryOp .BitXor) (r2 X.K xorD):=by
 intro pins s σ H v u vv uu Q I rv ru h
 obtain ⟨ρ,x,y,c,W,rx,ry,p⟩:=h
 unfold xorD at p
 split at p
 ·cases rx; cases ry
  exact op_xor pins s σ H _ _ vv uu Q I rv ru ⟨_,_,rfl,rfl,p.here W rfl⟩
 ·exact p.elim
theorem pd_pop {o a:Expr} {dO da:Ev→List Cell→R D} {apos cpos:Pos} (ho:PEd X o dO) (ha:PEd X a da)
  (hbase:attributeBase o "pop" X.env (eval o X.env)=eval o X.env:=by rfl)
  (hfew:((backTo cpos (starEach [a] X.env)).all (fun x=>!x.1) && (backToKw cpos (keywordEach [] X.env)).all (fun x=>x.1.isSome)
   && decide ([a].length + ([]:List Keyword).length + (if ([]:List Keyword).isEmpty then 0 else 1) < 30))=true:=by exact starFew rfl)
  (hline:(apos.endLine == cpos.line)=true:=by rfl) (hs:starEach [a] X.env=(false,eval a X.env) :: starEach [] X.env:=by exact starE rfl) (hplain:(backTo cpos (starEach [] X.env)).any (·.1)=false:=by exact starAny rfl) :
  PEd X (.Call (.Attribute o "pop" apos) [a] [] cpos) (dPop dO da) :=
 (pe_bm PySem.F.plainAttrs_list PySem.F.slot_list_pop PySem.F.type_list_pop mt_popAt ho (pa_cons ha pa_nil hs) hbase hfew hline hs hplain).imp fun σ H Q h=>by
  obtain ⟨ρ,e,c,W,V,p⟩:=h
  refine ⟨ρ,e,c,W,V,post.bind p fun x c1 ρ1 H1 v _ W1 X1 r1 p1=>?_⟩
  cases x with
  | ref k =>
   obtain ⟨ad,rfl,hk⟩:=r1
   obtain ⟨xs,hx⟩:=W1.at' (List.mem_of_getElem? hk)
   refine ⟨.inl ⟨rfl,xs,SqL.of hx⟩,ρ1,e,c1,W1,V.mono W X1,post.bind p1 fun i c2 ρ2 H2 ui _ W2 X2 r2 p2=>?_⟩
   split at p2
   ·rename_i i' l hl _
    split at p2
    ·rename_i hh
     cases r2
     have hk2:=X2.pre k ad hk
     obtain ⟨nr,ys,hy,rl⟩:=W2.cel k ad _ hk2 hl
     split at p2
     ·rename_i d hd
      obtain ⟨y,hy1,ry⟩:=rl.get hd
      have hlen:=rl.length
      refine ⟨ad,ys,i',i'.toNat,y,rfl,rfl,hy,by omega,by omega,?_,hy1,?_⟩
      ·have e0:(if i' < 0 then i' + (ys.length:Int) else i')=i':=if_neg (by omega)
       unfold seqIndex?
       simp only [e0]
       rw [if_pos (by simp only [Bool.and_eq_true,decide_eq_true_eq]; omega)]
      ·rw [List.eraseIdx_eq_take_drop_succ] at p2 ⊢
       refine p2 ρ2 _ y (W2.write hk2 ?_ ((rl.take _).append (rl.drop _))) (Ext.write hk2) (Rel.mono W2 (Ext.write hk2) _ _ ry)
       rw [noRefs_append,noRefs_take nr,noRefs_drop nr]
       rfl
     ·exact p2.elim
    ·exact p2.elim
   ·exact p2.elim
  | _=>exact p1.elim
theorem pd_lrng1M {a:Expr} {da:Ev→List Cell→R (List D)} {p1 p2 q1 q2:Pos} (ha:PAd X [a] da) (hm:X.mg "list"=none) (hm2:X.mg "range"=none) (hg:Gl X "list":=by rfl) (hg2:Gl X "range":=by rfl) (hc:X.calm=true:=by rfl)
  (he:starEach [a] X.env=(false,eval a X.env) :: starEach [] X.env:=by exact starE rfl) (hb:(backTo q2 (starEach [] X.env)).any (·.1)=false:=by exact starAny rfl):PEd X (.Call (.Name "list" p1) [.Call (.Name "range" p2) [a] [] q2] [] q1) (dLRng1M da):=by
 have hr:PE X (.Call (.Name "range" p2) [a] [] q2) _:=pe_callTy cr_rng1 hg2 hm2 (by decide +kernel) ha (by decide) (by decide) he hb
 refine (pe_callTy (cr_lrng hc) hg hm (by decide +kernel) (pa_cons hr pa_nil (starE rfl)) (by decide) (by decide) (by exact starE rfl) (by exact starAny rfl)).imp fun σ H Q h=>?_
 obtain ⟨ρ,e,c,W,V,p⟩:=h
 refine ⟨ρ,e,c,W,V,post.bind p fun xs c1 ρ1 H1 vs ex W1 X1 r1 p1=>?_⟩
 clear ex
 split at p1
 ·rename_i j
  obtain ⟨v,r,rfl,hx,hr2⟩:=r1
  cases hr2; cases hx
  split at p1
  ·rename_i hb
   refine ⟨j,rfl,fun p hp=>⟨p,0,j,rfl,upd_same,⟨Int.le_refl _,hb.1,hb.2⟩,fun l hl=>?_⟩⟩
   have nr:noRefs ((rngI 0 j).map D.int)=true:=noRefs_iff.mpr fun d hd=>by
    obtain ⟨i,_,rfl⟩:=List.mem_map.mp hd
    rfl
   exact new_cell (W1.fresh hp) nr Rels.ints (post.ext p1 (Ext.fresh W1 hp)) l hl
  ·exact p1.elim
 ·exact p1.elim
end
section
variable (o a:Ev→List Cell→R D) (b:Ev→List Cell→R (List D)) (e:Ev) (c:List Cell)
@[simp] theorem x_xor (i j:Int):xorD (.int i) (.int j) c=.ok (.int (Builtin.bitXor i j)) c:=rfl
@[simp] theorem x_lrng1M:dLRng1M b e c=(b e c).bind fun xs c=>match xs with
 | [.int j]=>if 0 < j∧j < 1000 then .ok (.ref c.length) (c ++ [.lst ((rngI 0 j).map D.int)]) else .bad
 | _=>.bad:=rfl
end
end L2
namespace L2
open PySem PySem.Spec PyProof.Rows
noncomputable def dSeqB (a:Ev→List Cell→R D):Ev→List Cell→R Src:=fun e c=>(a e c).bind fun x c=>match x with
 | .tup l=>.ok ⟨l,fun _=>True⟩ c
 | .lst l=>.ok ⟨l,fun _=>True⟩ c
 | _=>.bad
@[simp] theorem x_seqB (a:Ev→List Cell→R D) (e:Ev) (c:List Cell):dSeqB a e c=(a e c).bind fun x c=>match x with
 | .tup l=>.ok ⟨l,fun _=>True⟩ c
 | .lst l=>.ok ⟨l,fun _=>True⟩ c
 | _=>.bad:=rfl
theorem id_both {X:Cx} {tg l:Expr} {dl:Ev→List Cell→R D} (hl:PEd X l dl):PId X tg l (dSeqB dl):=fun pins s σ H Q I h=>by
 obtain ⟨ρ,e,c,W,V,p⟩:=h
 unfold dSeqB at p
 cases hx:dl e c with
 | bad=>rw [hx] at p; exact p.elim
 | ok x c1 =>
  rw [hx,R.bind_ok] at p
  cases x with
  | tup l=>exact id_tup hl pins s σ H Q I ⟨ρ,e,c,W,V,by unfold dSeqT; rw [hx]; exact p⟩
  | lst l=>exact id_list hl pins s σ H Q I ⟨ρ,e,c,W,V,by unfold dSeq; rw [hx]; exact p⟩
  | _=>exact p.elim
end L2
namespace Ev
open PySem L2 PyProof.Rows
noncomputable def top (i:Nat):Stmt:=PySem.Challenge.pw_evenwebs_k53_some_square_across.main.body.getD i (.Pass ⟨0,0,0,0⟩)
noncomputable abbrev s_is_whole:Stmt:=top 14
noncomputable abbrev s_is_whole_within:Stmt:=top 15
noncomputable abbrev s_holds_each_once:Stmt:=top 19
noncomputable abbrev s_column_of:Stmt:=top 20
noncomputable abbrev s_is_square:Stmt:=top 21
noncomputable abbrev s_require_square:Stmt:=top 22
noncomputable abbrev s_can_go_on:Stmt:=top 23
noncomputable abbrev s_cuts:Stmt:=top 24
noncomputable abbrev s_agree_somewhere:Stmt:=top 25
noncomputable abbrev s_with_one_more:Stmt:=top 26
noncomputable abbrev s_signs_where:Stmt:=top 27
noncomputable abbrev s_square_of_cuts:Stmt:=top 28
noncomputable abbrev s_some_across:Stmt:=top 29
noncomputable abbrev s_law_cell_at:Stmt:=top 31
noncomputable abbrev s_law_pot:Stmt:=top 32
noncomputable abbrev s_law_take:Stmt:=top 33
noncomputable abbrev s_law_whole:Stmt:=top 34
noncomputable abbrev s_law_kind_of:Stmt:=top 35
noncomputable abbrev s_law_is_square:Stmt:=top 36
noncomputable abbrev s_law_order:Stmt:=top 37
noncomputable abbrev s_law_cycled:Stmt:=top 38
noncomputable abbrev s_law_six:Stmt:=top 39
noncomputable abbrev s_law_square:Stmt:=top 40
noncomputable abbrev s_law_across:Stmt:=top 41
noncomputable abbrev s_law_cuts:Stmt:=top 42
noncomputable abbrev s_law_free:Stmt:=top 43
noncomputable abbrev s_law_apart:Stmt:=top 44
noncomputable abbrev s_law_told:Stmt:=top 45
noncomputable abbrev s_law:Stmt:=top 46
def xcls:List Str:=["NoWeb","NoText","NoNumbers","NoField","NoThing","NoSquare","NoPlaces","TooMany","NoName","NoDeed","NoRow"]
noncomputable def b_is_whole:Ev→List Cell→R Fl :=
 (sRet (dAndV (dCB isiD (dCons (dVar 0) (dCons (dC (.ty "int")) dNil))) (dNotV (dCB isiD (dCons (dVar 0) (dCons (dC (.ty "bool")) dNil))))))
noncomputable def m_is_whole:List D→List Cell→R D:=fnD 1 false b_is_whole
noncomputable def b_is_whole_within:Ev→List Cell→R Fl :=
 (sRet (dAndV (dCall 1 m_is_whole (dCons (dVar 0) dNil)) (dChain leD leD (dVar 1) (dVar 0) (dVar 2))))
noncomputable def m_is_whole_within:List D→List Cell→R D:=fnD 3 false b_is_whole_within
noncomputable def b_holds_each_once:Ev→List Cell→R Fl :=
 (sSeq (sIf (dOrT (dNotT (dBl (dCB isiD (dCons (dVar 0) (dCons (dC (.ty "tuple")) dNil))))) (dBl (dBin neD (dCB lenD (dCons (dVar 0) dNil)) (dVar 1)))) (sRet (dC (.bl false))) sNext) (sRet (dAndV (dCB allD (dCons (dComp (dSeqT (dVar 0)) [none,some 1] (gdName 0) dYes (dCall 3 m_is_whole_within (dCons (dVar 0) (dCons (dC (.int 0)) (dCons (dBin subD (dVar 1) (dC (.int 1))) dNil))))) dNil)) (dBin eqD (dLenSetN (dCons (dVar 0) dNil)) (dVar 1)))))
noncomputable def m_holds_each_once:List D→List Cell→R D:=fnD 2 false b_holds_each_once
noncomputable def b_column_of:Ev→List Cell→R Fl :=
 (sRet (dCB tupleD (dCons (dComp (dSeqB (dVar 0)) [none,some 1] (gdName 0) dYes (dBin ixD (dVar 0) (dVar 1))) dNil)))
noncomputable def m_column_of:List D→List Cell→R D:=fnD 2 false b_column_of
noncomputable def b_is_square:Ev→List Cell→R Fl :=
 (sSeq (sIf (dOrT (dNotT (dBl (dCB isiD (dCons (dVar 0) (dCons (dC (.ty "tuple")) dNil))))) (dNotT (dBl (dChain leD leD (dC (.int 1)) (dCB lenD (dCons (dVar 0) dNil)) (dC (.int 7)))))) (sRet (dC (.bl false))) sNext) (sSeq (sSet 1 (dCB lenD (dCons (dVar 0) dNil))) (sSeq (sIf (dNotT (dBl (dCB allD (dCons (dComp (dSeqT (dVar 0)) [none,some 1] (gdName 0) dYes (dCall 2 m_holds_each_once (dCons (dVar 0) (dCons (dVar 1) dNil)))) dNil)))) (sRet (dC (.bl false))) sNext) (sRet (dCB allD (dCons (dComp (dRng1 (dCons (dVar 1) dNil)) [none,some 1,some 0] (gdName 0) dYes (dCall 2 m_holds_each_once (dCons (dCall 2 m_column_of (dCons (dVar 2) (dCons (dVar 0) dNil))) (dCons (dVar 1) dNil)))) dNil))))))
noncomputable def m_is_square:List D→List Cell→R D:=fnD 2 false b_is_square
noncomputable def b_require_square:Ev→List Cell→R Fl :=
 (sIf (dNotT (dBl (dCall 1 m_is_square (dCons (dVar 0) dNil)))) sBad sNext)
noncomputable def m_require_square:List D→List Cell→R D:=fnD 1 false b_require_square
noncomputable def bx_require_square:Xd :=
 (xIf (dNotT (dBl (dCall 1 m_is_square (dCons (dVar 0) dNil)))) (xCls "NoSquare") xBad)
noncomputable def x_require_square:List D→List Cell→R Str:=fnX 1 bx_require_square
noncomputable def b_can_go_on:Ev→List Cell→R Fl :=
 (sSeq (sSet 3 (dComp (dZip2 (dCons (dVar 0) (dCons (dVar 1) dNil))) [none,none] (gdTup 2 (gdCons (gdName 0) (gdCons (gdName 1) gdNil))) dYes (dBin ixD (dVar 0) (dVar 1)))) (sRet (dAndV (dBin notInD (dVar 2) (dVar 1)) (dBin notInD (dBin ixD (dBin ixD (dVar 0) (dCB lenD (dCons (dVar 1) dNil))) (dVar 2)) (dVar 3)))))
noncomputable def m_can_go_on:List D→List Cell→R D:=fnD 4 false b_can_go_on
noncomputable def b_cuts:Ev→List Cell→R Fl :=
 (sSeq (sDrop (dCall 1 m_require_square (dCons (dVar 0) dNil))) (sSeq (sSet 1 (dLstM (dCons (dTup dNil) dNil))) (sSeq (sFor (dSeqT (dVar 0)) (gdName 2) (sSeq (sSet 3 (dLstM dNil)) (sSeq (sFor (dSeq (dVar 1)) (gdName 4) (sDrop (dExtend (dVar 3) (dComp (dRng1 (dCons (dCB lenD (dCons (dVar 2) dNil)) dNil)) [none,some 4,some 0] (gdName 0) (dBl (dCall 3 m_can_go_on (dCons (dVar 2) (dCons (dVar 1) (dCons (dVar 0) dNil))))) (dBin catT (dVar 1) (dTup (dCons (dVar 0) dNil))))))) (sSet 1 (dVar 3))))) (sRet (dVar 1)))))
noncomputable def m_cuts:List D→List Cell→R D:=fnD 5 false b_cuts
noncomputable def b_agree_somewhere:Ev→List Cell→R Fl :=
 (sRet (dCB anyD (dCons (dComp (dZip2 (dCons (dVar 0) (dCons (dVar 1) dNil))) [none,none] (gdTup 2 (gdCons (gdName 0) (gdCons (gdName 1) gdNil))) dYes (dBin eqD (dVar 0) (dVar 1))) dNil)))
noncomputable def m_agree_somewhere:List D→List Cell→R D:=fnD 2 false b_agree_somewhere
noncomputable def b_with_one_more:Ev→List Cell→R Fl :=
 (sSeq (sSet 2 (dLstM dNil)) (sSeq (sFor (dSeq (dVar 0)) (gdName 3) (sFor (dSeq (dVar 1)) (gdName 4) (sIf (dNotT (dBl (dCB anyD (dCons (dComp (dSeq (dVar 3)) [none,some 4] (gdName 0) dYes (dCall 2 m_agree_somewhere (dCons (dVar 1) (dCons (dVar 0) dNil)))) dNil)))) (sDrop (dAppend (dVar 2) (dBin catD (dVar 3) (dLst (dCons (dVar 4) dNil))))) sNext))) (sRet (dVar 2))))
noncomputable def m_with_one_more:List D→List Cell→R D:=fnD 5 false b_with_one_more
noncomputable def b_signs_where:Ev→List Cell→R Fl :=
 (sRet (dCB tupleD (dCons (dComp (dRng1 (dCons (dCB lenD (dCons (dVar 0) dNil)) dNil)) [none,some 0] (gdName 0) dYes (dIndexT (dVar 1) (dVar 0))) dNil)))
noncomputable def m_signs_where:List D→List Cell→R D:=fnD 1 false b_signs_where
noncomputable def b_square_of_cuts:Ev→List Cell→R Fl :=
 (sRet (dCB tupleD (dCons (dComp (dRng1 (dCons (dCB lenD (dCons (dVar 0) dNil)) dNil)) [none,some 0] (gdName 0) dYes (dCall 1 m_signs_where (dCons (dCall 2 m_column_of (dCons (dVar 1) (dCons (dVar 0) dNil))) dNil))) dNil)))
noncomputable def m_square_of_cuts:List D→List Cell→R D:=fnD 1 false b_square_of_cuts
noncomputable def b_some_across:Ev→List Cell→R Fl :=
 (sSeq (sDrop (dCall 1 m_require_square (dCons (dVar 0) dNil))) (sSeq (sIf (dBl (dBin gtD (dCB lenD (dCons (dVar 0) dNil)) (dC (.int 5)))) sBad sNext) (sSeq (sSet 1 (dCall 1 m_cuts (dCons (dVar 0) dNil))) (sSeq (sSet 2 (dLst (dCons (dLst dNil) dNil))) (sSeq (sFor (dRng1 (dCons (dCB lenD (dCons (dVar 0) dNil)) dNil)) (gdName 3) (sSet 2 (dCall 2 m_with_one_more (dCons (dVar 2) (dCons (dComp (dSeq (dVar 1)) [none,some 3] (gdName 0) (dBl (dBin eqD (dBin ixD (dVar 0) (dC (.int 0))) (dVar 1))) (dVar 0)) dNil))))) (sRet (dIfE (dTru (dVar 2)) (dCall 1 m_square_of_cuts (dCons (dBin ixD (dVar 2) (dC (.int 0))) dNil)) (dC .non))))))))
noncomputable def m_some_across:List D→List Cell→R D:=fnD 4 false b_some_across
noncomputable def bx_some_across:Xd :=
 (xOr (xCall 1 x_require_square (dCons (dVar 0) dNil)) (xSeq (sDrop (dCall 1 m_require_square (dCons (dVar 0) dNil))) (xIf (dBl (dBin gtD (dCB lenD (dCons (dVar 0) dNil)) (dC (.int 5)))) (xCls "TooMany") xBad)))
noncomputable def x_some_across:List D→List Cell→R Str:=fnX 4 bx_some_across
noncomputable def b_law_cell_at:Ev→List Cell→R Fl :=
 (sSeq (sIf (dBl (dBin ltD (dVar 1) (dCB lenD (dCons (dVar 0) dNil)))) (sRet (dBin ixD (dVar 0) (dVar 1))) sNext) (sRet (dC (.int 0))))
noncomputable def m_law_cell_at:List D→List Cell→R D:=fnD 2 false b_law_cell_at
noncomputable def b_law_pot:Ev→List Cell→R Fl :=
 (sSeq (sIf (dBl (dBin geD (dVar 0) (dBin powD (dC (.int 10)) (dC (.int 18))))) (sRet (dLstM (dCons (dBin subD (dVar 0) (dBin powD (dC (.int 10)) (dC (.int 18)))) dNil))) sNext) (sSeq (sSet 1 (dC (.int 0))) (sSeq (sFor (dRng1 (dCons (dC (.int 64)) dNil)) (gdName 2) (sSeq (sSet 3 (dBin modD (dBin mulD (dBin addD (dBin addD (dBin modD (dVar 0) (dC (.int 2147483629))) (dBin mulD (dC (.int 7919)) (dVar 2))) (dC (.int 1))) (dC (.int 48271))) (dC (.int 2147483647)))) (sSeq (sSet 3 (dBin modD (dBin addD (dBin addD (dBin mulD (dVar 3) (dVar 3)) (dBin mulD (dC (.int 69621)) (dVar 2))) (dC (.int 7))) (dC (.int 2147483587)))) (sSet 1 (dBin addD (dBin mulD (dVar 1) (dC (.int 2147483587))) (dVar 3)))))) (sRet (dLstM (dCons (dVar 1) dNil))))))
noncomputable def m_law_pot:List D→List Cell→R D:=fnD 4 true b_law_pot
noncomputable def b_law_take:Ev→List Cell→R Fl :=
 (sSeq (sSet 2 (dBin modD (dBin ixD (dVar 0) (dC (.int 0))) (dVar 1))) (sSeq (sAsg (dBin divD (dBin ixD (dVar 0) (dC (.int 0))) (dVar 1)) (gdSub (dVar 0) (dC (.int 0)))) (sRet (dVar 2))))
noncomputable def m_law_take:List D→List Cell→R D:=fnD 3 false b_law_take
noncomputable def b_law_whole:Ev→List Cell→R Fl :=
 (sRet (dAndV (dCB isiD (dCons (dVar 0) (dCons (dC (.ty "int")) dNil))) (dNotV (dCB isiD (dCons (dVar 0) (dCons (dC (.ty "bool")) dNil))))))
noncomputable def m_law_whole:List D→List Cell→R D:=fnD 1 false b_law_whole
noncomputable def b_law_kind_of:Ev→List Cell→R Fl :=
 (sSeq (sSet 1 (dLst (dCons (dCB (isxD xcls) (dCons (dVar 0) (dCons (dC (.fn "NoWeb" 0)) dNil))) (dCons (dCB (isxD xcls) (dCons (dVar 0) (dCons (dC (.fn "NoText" 0)) dNil))) (dCons (dCB (isxD xcls) (dCons (dVar 0) (dCons (dC (.fn "NoNumbers" 0)) dNil))) (dCons (dCB (isxD xcls) (dCons (dVar 0) (dCons (dC (.fn "NoField" 0)) dNil))) dNil)))))) (sSeq (sSet 1 (dBin catD (dVar 1) (dLst (dCons (dCB (isxD xcls) (dCons (dVar 0) (dCons (dC (.fn "NoThing" 0)) dNil))) (dCons (dCB (isxD xcls) (dCons (dVar 0) (dCons (dC (.fn "NoSquare" 0)) dNil))) (dCons (dCB (isxD xcls) (dCons (dVar 0) (dCons (dC (.fn "NoPlaces" 0)) dNil))) (dCons (dCB (isxD xcls) (dCons (dVar 0) (dCons (dC (.fn "TooMany" 0)) dNil))) dNil))))))) (sSeq (sSet 1 (dBin catD (dVar 1) (dLst (dCons (dCB (isxD xcls) (dCons (dVar 0) (dCons (dC (.fn "NoName" 0)) dNil))) (dCons (dCB (isxD xcls) (dCons (dVar 0) (dCons (dC (.fn "NoDeed" 0)) dNil))) (dCons (dCB (isxD xcls) (dCons (dVar 0) (dCons (dC (.fn "NoRow" 0)) dNil))) dNil)))))) (sSeq (sIf (dOrT (dBl (dBin neD (dCount (dVar 1) (dC (.bl true))) (dC (.int 1)))) (dNotT (dBl (dCB (isxD xcls) (dCons (dVar 0) (dCons (dC (.ty "ValueError")) dNil)))))) (sRet (dC (.str "other"))) sNext) (sSeq (sSet 2 (dLst (dCons (dC (.str "web")) (dCons (dC (.str "text")) (dCons (dC (.str "numbers")) (dCons (dC (.str "field")) (dCons (dC (.str "thing")) (dCons (dC (.str "square")) (dCons (dC (.str "places")) (dCons (dC (.str "many")) (dCons (dC (.str "name")) (dCons (dC (.str "deed")) (dCons (dC (.str "row")) dNil))))))))))))) (sRet (dBin ixD (dVar 2) (dIndex (dVar 1) (dC (.bl true))))))))))
noncomputable def m_law_kind_of:List D→List Cell→R D:=fnD 3 false b_law_kind_of
noncomputable def b_law_is_square:Ev→List Cell→R Fl :=
 (sSeq (sIf (dOrT (dNotT (dBl (dCB isiD (dCons (dVar 0) (dCons (dC (.ty "tuple")) dNil))))) (dNotT (dBl (dChain leD leD (dC (.int 1)) (dCB lenD (dCons (dVar 0) dNil)) (dC (.int 7)))))) (sRet (dC (.bl false))) sNext) (sSeq (sSet 1 (dLRng1 (dCons (dCB lenD (dCons (dVar 0) dNil)) dNil))) (sSeq (sFor (dSeqT (dVar 0)) (gdName 2) (sIf (dOrT (dNotT (dBl (dCB isiD (dCons (dVar 2) (dCons (dC (.ty "tuple")) dNil))))) (dOrT (dNotT (dBl (dCB allD (dCons (dComp (dSeqT (dVar 2)) [none] (gdName 0) dYes (dCall 1 m_law_whole (dCons (dVar 0) dNil))) dNil)))) (dBl (dBin nevD (dCB sortTD (dCons (dVar 2) dNil)) (dVar 1))))) (sRet (dC (.bl false))) sNext)) (sSeq (sFor (dRng1 (dCons (dCB lenD (dCons (dVar 0) dNil)) dNil)) (gdName 3) (sIf (dBl (dBin nevD (dCB sortLD (dCons (dComp (dSeqT (dVar 0)) [none,some 3] (gdName 0) dYes (dBin ixD (dVar 0) (dVar 1))) dNil)) (dVar 1))) (sRet (dC (.bl false))) sNext)) (sRet (dC (.bl true)))))))
noncomputable def m_law_is_square:List D→List Cell→R D:=fnD 4 false b_law_is_square
noncomputable def b_law_order:Ev→List Cell→R Fl :=
 (sSeq (sSet 2 (dLRng1M (dCons (dVar 1) dNil))) (sRet (dCB tupleD (dCons (dComp (dRng1 (dCons (dVar 1) dNil)) [none,some 2,some 0] (gdName 0) dYes (dPop (dVar 1) (dCall 2 m_law_take (dCons (dVar 2) (dCons (dCB lenD (dCons (dVar 1) dNil)) dNil))))) dNil))))
noncomputable def m_law_order:List D→List Cell→R D:=fnD 3 false b_law_order
noncomputable def b_law_cycled:Ev→List Cell→R Fl :=
 (sSeq (sIf (dAndT (dBl (dBin eqD (dVar 1) (dC (.int 4)))) (dBl (dBin eqD (dCall 2 m_law_take (dCons (dVar 0) (dCons (dC (.int 2)) dNil))) (dC (.int 0))))) (sSet 2 (dComp (dRng1 (dCons (dVar 1) dNil)) [none,some 1] (gdName 0) dYes (dComp (dRng1 (dCons (dVar 1) dNil)) [none,some 0] (gdName 0) dYes (dBin xorD (dVar 1) (dVar 0))))) (sSeq (sSet 3 (dBin addD (dC (.int 1)) (dCall 2 m_law_take (dCons (dVar 0) (dCons (dCB max2D (dCons (dC (.int 1)) (dCons (dBin subD (dVar 1) (dC (.int 1))) dNil))) dNil))))) (sSeq (sSet 2 (dComp (dRng1 (dCons (dVar 1) dNil)) [none,some 1,some 3] (gdName 0) dYes (dComp (dRng1 (dCons (dVar 1) dNil)) [none,some 1,some 2,some 0] (gdName 0) dYes (dBin modD (dBin addD (dBin mulD (dVar 2) (dVar 3)) (dVar 0)) (dVar 1))))) (sIf (dBl (dBin nevD (dSortSet (dCons (dComp (dSeq (dVar 2)) [none] (gdName 0) dYes (dBin ixD (dVar 0) (dC (.int 0)))) dNil)) (dLRng1 (dCons (dVar 1) dNil)))) (sSet 2 (dComp (dRng1 (dCons (dVar 1) dNil)) [none,some 1] (gdName 0) dYes (dComp (dRng1 (dCons (dVar 1) dNil)) [none,some 1,some 0] (gdName 0) dYes (dBin modD (dBin addD (dVar 2) (dVar 0)) (dVar 1))))) sNext)))) (sSeq (sSet 4 (dCall 2 m_law_order (dCons (dVar 0) (dCons (dVar 1) dNil)))) (sSeq (sSet 5 (dCall 2 m_law_order (dCons (dVar 0) (dCons (dVar 1) dNil)))) (sSeq (sSet 6 (dCall 2 m_law_order (dCons (dVar 0) (dCons (dVar 1) dNil)))) (sRet (dCB tupleD (dCons (dComp (dSeqT (dVar 4)) [none,some 5,some 6,some 2] (gdName 0) dYes (dCB tupleD (dCons (dComp (dSeqT (dVar 2)) [none,some 1,some 3,some 0] (gdName 0) dYes (dBin ixD (dVar 1) (dBin ixD (dBin ixD (dVar 2) (dVar 3)) (dVar 0)))) dNil))) dNil)))))))
noncomputable def m_law_cycled:List D→List Cell→R D:=fnD 7 false b_law_cycled
noncomputable def b_law_six:Ev→List Cell→R Fl :=
 (sSeq (sSet 1 (dLstM (dCons (dLst (dInts [0,1,2,3,4,5])) (dCons (dLst (dInts [1,0,3,2,5,4])) (dCons (dLst (dInts [2,4,0,5,1,3])) (dCons (dLst (dInts [3,5,1,4,0,2])) (dCons (dLst (dInts [4,2,5,0,3,1])) dNil))))))) (sSeq (sDrop (dAppend (dVar 1) (dLst (dInts [5,3,4,1,2,0])))) (sSeq (sSet 2 (dCall 2 m_law_order (dCons (dVar 0) (dCons (dC (.int 6)) dNil)))) (sRet (dCB tupleD (dCons (dComp (dSeqT (dVar 2)) [none,some 1] (gdName 0) dYes (dCB tupleD (dCons (dBin ixD (dVar 1) (dVar 0)) dNil))) dNil))))))
noncomputable def m_law_six:List D→List Cell→R D:=fnD 3 false b_law_six
noncomputable def b_law_square:Ev→List Cell→R Fl :=
 (sSeq (sIf (dAndT (dBl (dBin eqD (dVar 1) (dC (.int 6)))) (dBl (dBin eqD (dCall 2 m_law_take (dCons (dVar 0) (dCons (dC (.int 2)) dNil))) (dC (.int 0))))) (sRet (dCall 1 m_law_six (dCons (dVar 0) dNil))) sNext) (sRet (dCall 2 m_law_cycled (dCons (dVar 0) (dCons (dVar 1) dNil)))))
noncomputable def m_law_square:List D→List Cell→R D:=fnD 2 false b_law_square
noncomputable def b_law_across:Ev→List Cell→R Fl :=
 (sSeq (sSet 2 (dLstM dNil)) (sSeq (sFor (dRng1 (dCons (dCB lenD (dCons (dVar 0) dNil)) dNil)) (gdName 3) (sFor (dRng1 (dCons (dCB lenD (dCons (dVar 0) dNil)) dNil)) (gdName 4) (sSeq (sSet 5 (dTup (dCons (dBin ixD (dBin ixD (dVar 0) (dVar 3)) (dVar 4)) (dCons (dBin ixD (dBin ixD (dVar 1) (dVar 3)) (dVar 4)) dNil)))) (sSeq (sIf (dBl (dBin inD (dVar 5) (dVar 2))) (sRet (dC (.bl false))) sNext) (sDrop (dAppend (dVar 2) (dVar 5))))))) (sRet (dC (.bl true)))))
noncomputable def m_law_across:List D→List Cell→R D:=fnD 6 false b_law_across
noncomputable def b_law_cuts (m:List D→List Cell→R D):Ev→List Cell→R Fl :=
 (sSeq (sIf (dBl (dBin eqD (dVar 1) (dCB lenD (dCons (dVar 0) dNil)))) (sRet (dLst (dCons (dVar 2) dNil))) sNext) (sSeq (sSet 4 (dLst dNil)) (sSeq (sFor (dRng1 (dCons (dCB lenD (dCons (dVar 0) dNil)) dNil)) (gdName 5) (sSeq (sSet 6 (dBin ixD (dBin ixD (dVar 0) (dVar 1)) (dVar 5))) (sIf (dAndT (dBl (dBin notInD (dVar 5) (dVar 2))) (dBl (dBin notInD (dVar 6) (dVar 3)))) (sSet 4 (dBin catD (dVar 4) (dCall 4 m (dCons (dVar 0) (dCons (dBin addD (dVar 1) (dC (.int 1))) (dCons (dBin catT (dVar 2) (dTup (dCons (dVar 5) dNil))) (dCons (dBin catT (dVar 3) (dTup (dCons (dVar 6) dNil))) dNil))))))) sNext))) (sRet (dVar 4)))))
noncomputable def m_law_cuts:Nat→List D→List Cell→R D
 | 0=>fun _ _=>.bad
 | k + 1=>fnD 7 false (b_law_cuts (m_law_cuts k))
noncomputable def b_law_free:Ev→List Cell→R Fl :=
 (sSeq (sFor (dSeq (dVar 1)) (gdName 2) (sIf (dBl (dCB anyD (dCons (dComp (dZip2 (dCons (dVar 0) (dCons (dVar 2) dNil))) [none,none] (gdTup 2 (gdCons (gdName 0) (gdCons (gdName 1) gdNil))) dYes (dBin eqD (dVar 0) (dVar 1))) dNil))) (sRet (dC (.bl false))) sNext)) (sRet (dC (.bl true))))
noncomputable def m_law_free:List D→List Cell→R D:=fnD 3 false b_law_free
noncomputable def b_law_apart (m:List D→List Cell→R D):Ev→List Cell→R Fl :=
 (sSeq (sIf (dBl (dBin eqD (dCB lenD (dCons (dVar 1) dNil)) (dVar 2))) (sRet (dC (.bl true))) sNext) (sSeq (sFor (dSeq (dVar 0)) (gdName 3) (sIf (dAndT (dBl (dBin eqD (dBin ixD (dVar 3) (dC (.int 0))) (dCB lenD (dCons (dVar 1) dNil)))) (dBl (dCall 2 m_law_free (dCons (dVar 3) (dCons (dVar 1) dNil))))) (sIf (dBl (dCall 3 m (dCons (dVar 0) (dCons (dBin catD (dVar 1) (dLst (dCons (dVar 3) dNil))) (dCons (dVar 2) dNil))))) (sRet (dC (.bl true))) sNext) sNext)) (sRet (dC (.bl false)))))
noncomputable def m_law_apart:Nat→List D→List Cell→R D
 | 0=>fun _ _=>.bad
 | k + 1=>fnD 4 false (b_law_apart (m_law_apart k))
noncomputable def b_law_told:Ev→List Cell→R Fl :=
 (sTry xcls 1 2 (sRet (dCall 1 m_some_across (dCons (dVar 0) dNil))) (xCall 1 x_some_across (dCons (dVar 0) dNil)) (dCall 1 m_law_kind_of (dCons (dVar 1) dNil)))
noncomputable def m_law_told:List D→List Cell→R D:=fnD 2 false b_law_told
noncomputable def b_law:Ev→List Cell→R Fl :=
 (sSeq (sFor (dRng1 (dCons (dC (.int 5)) dNil)) (gdName 1) (sSeq (sSet 2 (dCall 1 m_law_pot (dCons (dCall 2 m_law_cell_at (dCons (dVar 0) (dCons (dVar 1) dNil))) dNil))) (sSeq (sSet 3 (dCall 2 m_law_square (dCons (dVar 2) (dCons (dBin addD (dC (.int 1)) (dCall 2 m_law_take (dCons (dVar 2) (dCons (dBin ixD (dLst (dInts [5,5,5,5,5,7])) (dCall 2 m_law_take (dCons (dVar 2) (dCons (dC (.int 6)) dNil)))) dNil)))) dNil)))) (sSeq (sSet 4 (dCall 1 m_law_told (dCons (dVar 3) dNil))) (sSeq (sIf (dBl (dBin gtD (dCB lenD (dCons (dVar 3) dNil)) (dC (.int 5)))) (sIf (dBl (dBin nevD (dVar 4) (dC (.str "many")))) (sRet (dC (.bl false))) sNext) (sIf (dNotT (dBl (dCall 3 (m_law_apart 6) (dCons (dCall 4 (m_law_cuts 8) (dCons (dVar 3) (dCons (dC (.int 0)) (dCons (dTup dNil) (dCons (dTup dNil) dNil))))) (dCons (dLst dNil) (dCons (dCB lenD (dCons (dVar 3) dNil)) dNil)))))) (sIf (dBl (dBin isNotD (dVar 4) (dC .non))) (sRet (dC (.bl false))) sNext) (sIf (dOrT (dNotT (dBl (dCall 1 m_law_is_square (dCons (dVar 4) dNil)))) (dOrT (dBl (dBin neD (dCB lenD (dCons (dVar 4) dNil)) (dCB lenD (dCons (dVar 3) dNil)))) (dNotT (dBl (dCall 2 m_law_across (dCons (dVar 3) (dCons (dVar 4) dNil))))))) (sRet (dC (.bl false))) sNext))) (sIf (dBl (dBin nevD (dCall 1 m_law_told (dCons (dVar 3) dNil)) (dVar 4))) (sRet (dC (.bl false))) sNext)))))) (sRet (dC (.bl true))))
noncomputable def m_law:List D→List Cell→R D:=fnD 5 false b_law
end Ev
namespace Ev
open PySem L2 PyProof.Rows
set_option genInjectivity false in
set_option genSizeOfSpec false in
structure Tx (K:PySem.W.Frag) (mg:Str→Option Value) where
 a_is_whole:Addr
 fd_is_whole:FuncData
 d_is_whole:Def K mg "is_whole" s_is_whole ["thing"] a_is_whole fd_is_whole
 n_is_whole:PySem.W.nsIn K mainGlobals "is_whole"=some (some (.ref a_is_whole))
 a_is_whole_within:Addr
 fd_is_whole_within:FuncData
 d_is_whole_within:Def K mg "is_whole_within" s_is_whole_within ["thing","least","most"] a_is_whole_within fd_is_whole_within
 n_is_whole_within:PySem.W.nsIn K mainGlobals "is_whole_within"=some (some (.ref a_is_whole_within))
 a_holds_each_once:Addr
 fd_holds_each_once:FuncData
 d_holds_each_once:Def K mg "holds_each_once" s_holds_each_once ["thing","many"] a_holds_each_once fd_holds_each_once
 n_holds_each_once:PySem.W.nsIn K mainGlobals "holds_each_once"=some (some (.ref a_holds_each_once))
 a_column_of:Addr
 fd_column_of:FuncData
 d_column_of:Def K mg "column_of" s_column_of ["rows","y"] a_column_of fd_column_of
 n_column_of:PySem.W.nsIn K mainGlobals "column_of"=some (some (.ref a_column_of))
 a_is_square:Addr
 fd_is_square:FuncData
 d_is_square:Def K mg "is_square" s_is_square ["thing"] a_is_square fd_is_square
 n_is_square:PySem.W.nsIn K mainGlobals "is_square"=some (some (.ref a_is_square))
 a_require_square:Addr
 fd_require_square:FuncData
 d_require_square:Def K mg "require_square" s_require_square ["thing"] a_require_square fd_require_square
 n_require_square:PySem.W.nsIn K mainGlobals "require_square"=some (some (.ref a_require_square))
 a_can_go_on:Addr
 fd_can_go_on:FuncData
 d_can_go_on:Def K mg "can_go_on" s_can_go_on ["square","cut","column"] a_can_go_on fd_can_go_on
 n_can_go_on:PySem.W.nsIn K mainGlobals "can_go_on"=some (some (.ref a_can_go_on))
 a_cuts:Addr
 fd_cuts:FuncData
 d_cuts:Def K mg "cuts" s_cuts ["square"] a_cuts fd_cuts
 n_cuts:PySem.W.nsIn K mainGlobals "cuts"=some (some (.ref a_cuts))
 a_agree_somewhere:Addr
 fd_agree_somewhere:FuncData
 d_agree_somewhere:Def K mg "agree_somewhere" s_agree_somewhere ["one","other"] a_agree_somewhere fd_agree_somewhere
 n_agree_somewhere:PySem.W.nsIn K mainGlobals "agree_somewhere"=some (some (.ref a_agree_somewhere))
 a_with_one_more:Addr
 fd_with_one_more:FuncData
 d_with_one_more:Def K mg "with_one_more" s_with_one_more ["choices","more"] a_with_one_more fd_with_one_more
 n_with_one_more:PySem.W.nsIn K mainGlobals "with_one_more"=some (some (.ref a_with_one_more))
 a_signs_where:Addr
 fd_signs_where:FuncData
 d_signs_where:Def K mg "signs_where" s_signs_where ["columns"] a_signs_where fd_signs_where
 n_signs_where:PySem.W.nsIn K mainGlobals "signs_where"=some (some (.ref a_signs_where))
 a_square_of_cuts:Addr
 fd_square_of_cuts:FuncData
 d_square_of_cuts:Def K mg "square_of_cuts" s_square_of_cuts ["chosen"] a_square_of_cuts fd_square_of_cuts
 n_square_of_cuts:PySem.W.nsIn K mainGlobals "square_of_cuts"=some (some (.ref a_square_of_cuts))
 a_some_across:Addr
 fd_some_across:FuncData
 d_some_across:Def K mg "some_across" s_some_across ["square"] a_some_across fd_some_across
 n_some_across:PySem.W.nsIn K mainGlobals "some_across"=some (some (.ref a_some_across))
 a_law_cell_at:Addr
 fd_law_cell_at:FuncData
 d_law_cell_at:Def K mg "_law_cell_at" s_law_cell_at ["script","k"] a_law_cell_at fd_law_cell_at
 n_law_cell_at:PySem.W.nsIn K mainGlobals "_law_cell_at"=some (some (.ref a_law_cell_at))
 a_law_pot:Addr
 fd_law_pot:FuncData
 d_law_pot:Def K mg "_law_pot" s_law_pot ["cell"] a_law_pot fd_law_pot
 n_law_pot:PySem.W.nsIn K mainGlobals "_law_pot"=some (some (.ref a_law_pot))
 a_law_take:Addr
 fd_law_take:FuncData
 d_law_take:Def K mg "_law_take" s_law_take ["pot","far"] a_law_take fd_law_take
 n_law_take:PySem.W.nsIn K mainGlobals "_law_take"=some (some (.ref a_law_take))
 a_law_whole:Addr
 fd_law_whole:FuncData
 d_law_whole:Def K mg "_law_whole" s_law_whole ["found"] a_law_whole fd_law_whole
 n_law_whole:PySem.W.nsIn K mainGlobals "_law_whole"=some (some (.ref a_law_whole))
 a_law_kind_of:Addr
 fd_law_kind_of:FuncData
 d_law_kind_of:Def K mg "_law_kind_of" s_law_kind_of ["e"] a_law_kind_of fd_law_kind_of
 n_law_kind_of:PySem.W.nsIn K mainGlobals "_law_kind_of"=some (some (.ref a_law_kind_of))
 a_law_is_square:Addr
 fd_law_is_square:FuncData
 d_law_is_square:Def K mg "_law_is_square" s_law_is_square ["thing"] a_law_is_square fd_law_is_square
 n_law_is_square:PySem.W.nsIn K mainGlobals "_law_is_square"=some (some (.ref a_law_is_square))
 a_law_order:Addr
 fd_law_order:FuncData
 d_law_order:Def K mg "_law_order" s_law_order ["pot","many"] a_law_order fd_law_order
 n_law_order:PySem.W.nsIn K mainGlobals "_law_order"=some (some (.ref a_law_order))
 a_law_cycled:Addr
 fd_law_cycled:FuncData
 d_law_cycled:Def K mg "_law_cycled" s_law_cycled ["pot","n"] a_law_cycled fd_law_cycled
 n_law_cycled:PySem.W.nsIn K mainGlobals "_law_cycled"=some (some (.ref a_law_cycled))
 a_law_six:Addr
 fd_law_six:FuncData
 d_law_six:Def K mg "_law_six" s_law_six ["pot"] a_law_six fd_law_six
 n_law_six:PySem.W.nsIn K mainGlobals "_law_six"=some (some (.ref a_law_six))
 a_law_square:Addr
 fd_law_square:FuncData
 d_law_square:Def K mg "_law_square" s_law_square ["pot","n"] a_law_square fd_law_square
 n_law_square:PySem.W.nsIn K mainGlobals "_law_square"=some (some (.ref a_law_square))
 a_law_across:Addr
 fd_law_across:FuncData
 d_law_across:Def K mg "_law_across" s_law_across ["one","other"] a_law_across fd_law_across
 n_law_across:PySem.W.nsIn K mainGlobals "_law_across"=some (some (.ref a_law_across))
 a_law_cuts:Addr
 fd_law_cuts:FuncData
 d_law_cuts:Def K mg "_law_cuts" s_law_cuts ["square","start","columns","signs"] a_law_cuts fd_law_cuts
 n_law_cuts:PySem.W.nsIn K mainGlobals "_law_cuts"=some (some (.ref a_law_cuts))
 a_law_free:Addr
 fd_law_free:FuncData
 d_law_free:Def K mg "_law_free" s_law_free ["cut","found"] a_law_free fd_law_free
 n_law_free:PySem.W.nsIn K mainGlobals "_law_free"=some (some (.ref a_law_free))
 a_law_apart:Addr
 fd_law_apart:FuncData
 d_law_apart:Def K mg "_law_apart" s_law_apart ["some","found","many"] a_law_apart fd_law_apart
 n_law_apart:PySem.W.nsIn K mainGlobals "_law_apart"=some (some (.ref a_law_apart))
 a_law_told:Addr
 fd_law_told:FuncData
 d_law_told:Def K mg "_law_told" s_law_told ["square"] a_law_told fd_law_told
 n_law_told:PySem.W.nsIn K mainGlobals "_law_told"=some (some (.ref a_law_told))
 a_law:Addr
 fd_law:FuncData
 d_law:Def K mg "law" s_law ["script"] a_law fd_law
 n_law:PySem.W.nsIn K mainGlobals "law"=some (some (.ref a_law))
 nb_ValueError:mg "ValueError"=none
 nb_all:mg "all"=none
 nb_any:mg "any"=none
 nb_bool:mg "bool"=none
 nb_int:mg "int"=none
 nb_isinstance:mg "isinstance"=none
 nb_len:mg "len"=none
 nb_list:mg "list"=none
 nb_max:mg "max"=none
 nb_range:mg "range"=none
 nb_set:mg "set"=none
 nb_sorted:mg "sorted"=none
 nb_tuple:mg "tuple"=none
 nb_zip:mg "zip"=none
 tk_MOST_CROSSED:Tok
 g_MOST_CROSSED:mg "MOST_CROSSED"=some (.int 5 tk_MOST_CROSSED)
 tk_MOST_SIGNS:Tok
 g_MOST_SIGNS:mg "MOST_SIGNS"=some (.int 7 tk_MOST_SIGNS)
 c_NoWeb:Addr
 gc_NoWeb:mg "NoWeb"=some (.ref c_NoWeb)
 nc_NoWeb:PySem.W.nsIn K mainGlobals "NoWeb"=some (some (.ref c_NoWeb))
 c_NoText:Addr
 gc_NoText:mg "NoText"=some (.ref c_NoText)
 nc_NoText:PySem.W.nsIn K mainGlobals "NoText"=some (some (.ref c_NoText))
 c_NoNumbers:Addr
 gc_NoNumbers:mg "NoNumbers"=some (.ref c_NoNumbers)
 nc_NoNumbers:PySem.W.nsIn K mainGlobals "NoNumbers"=some (some (.ref c_NoNumbers))
 c_NoField:Addr
 gc_NoField:mg "NoField"=some (.ref c_NoField)
 nc_NoField:PySem.W.nsIn K mainGlobals "NoField"=some (some (.ref c_NoField))
 c_NoThing:Addr
 gc_NoThing:mg "NoThing"=some (.ref c_NoThing)
 nc_NoThing:PySem.W.nsIn K mainGlobals "NoThing"=some (some (.ref c_NoThing))
 c_NoSquare:Addr
 gc_NoSquare:mg "NoSquare"=some (.ref c_NoSquare)
 nc_NoSquare:PySem.W.nsIn K mainGlobals "NoSquare"=some (some (.ref c_NoSquare))
 c_NoPlaces:Addr
 gc_NoPlaces:mg "NoPlaces"=some (.ref c_NoPlaces)
 nc_NoPlaces:PySem.W.nsIn K mainGlobals "NoPlaces"=some (some (.ref c_NoPlaces))
 c_TooMany:Addr
 gc_TooMany:mg "TooMany"=some (.ref c_TooMany)
 nc_TooMany:PySem.W.nsIn K mainGlobals "TooMany"=some (some (.ref c_TooMany))
 c_NoName:Addr
 gc_NoName:mg "NoName"=some (.ref c_NoName)
 nc_NoName:PySem.W.nsIn K mainGlobals "NoName"=some (some (.ref c_NoName))
 c_NoDeed:Addr
 gc_NoDeed:mg "NoDeed"=some (.ref c_NoDeed)
 nc_NoDeed:PySem.W.nsIn K mainGlobals "NoDeed"=some (some (.ref c_NoDeed))
 c_NoRow:Addr
 gc_NoRow:mg "NoRow"=some (.ref c_NoRow)
 nc_NoRow:PySem.W.nsIn K mainGlobals "NoRow"=some (some (.ref c_NoRow))
 c_WebError:Addr
 gc_WebError:mg "WebError"=some (.ref c_WebError)
 nc_WebError:PySem.W.nsIn K mainGlobals "WebError"=some (some (.ref c_WebError))
 xc_NoSquare:XCls K mg "NoSquare" veMro "ValueError.__new__"
 xc_TooMany:XCls K mg "TooMany" veMro "ValueError.__new__"
 xtab:XTab K xcls
 xw:xwIn K xcls c_WebError=true
section
variable {P:Program} {w:World} {K:PySem.W.Frag} {mg:Str→Option Value} {base:Heap}
theorem sc_is_whole:FnScope ["thing"] ["thing"] (defScope s_is_whole):=⟨rfl,rfl,rfl,by decide +kernel,rfl,by decide +kernel,by decide +kernel⟩
theorem ok_is_whole (T:Tx K mg):FnOk P w K mg base CX0 1 T.a_is_whole T.fd_is_whole ["thing"] (spD K 1 m_is_whole) :=
 fn_ok (k:=0) T.d_is_whole.fn sc_is_whole rfl rfl fun cdv A outer s H E hr=>by
  show PSsd _ _ b_is_whole
  unfold b_is_whole
  exact (sd_one (sd_ret (pd_and (pd_callB cd_isi T.nb_isinstance boot_isinstance (pd_cons (pd_var 0) (pd_cons (pd_ty rfl T.nb_int boot_int) pd_nil))) (pd_one (pd_not (pd_callB cd_isi T.nb_isinstance boot_isinstance (pd_cons (pd_var 0) (pd_cons (pd_ty rfl T.nb_bool boot_bool) pd_nil))))))))
theorem sc_is_whole_within:FnScope ["thing","least","most"] ["thing","least","most"] (defScope s_is_whole_within):=⟨rfl,rfl,rfl,by decide +kernel,rfl,by decide +kernel,by decide +kernel⟩
theorem ok_is_whole_within (T:Tx K mg):FnOk P w K mg base CX0 2 T.a_is_whole_within T.fd_is_whole_within ["thing","least","most"] (spD K 3 m_is_whole_within) :=
 fn_ok (k:=1) T.d_is_whole_within.fn sc_is_whole_within rfl rfl fun cdv A outer s H E hr=>by
  show PSsd _ _ b_is_whole_within
  unfold b_is_whole_within
  exact (sd_one (sd_ret (pd_and (pd_fn T.d_is_whole (ok_is_whole T) (hr.mono (by decide)) (pd_cons (pd_var 0) pd_nil)) (pd_one (pd_chain od_le od_le (pd_var 1) (pd_var 0) (pd_var 2))))))
theorem sc_holds_each_once:FnScope ["thing","many"] ["thing","many"] (defScope s_holds_each_once):=⟨rfl,rfl,rfl,by decide +kernel,rfl,by decide +kernel,by decide +kernel⟩
theorem ok_holds_each_once (T:Tx K mg):FnOk P w K mg base CX0 3 T.a_holds_each_once T.fd_holds_each_once ["thing","many"] (spD K 2 m_holds_each_once) :=
 fn_ok (k:=2) T.d_holds_each_once.fn sc_holds_each_once rfl rfl fun cdv A outer s H E hr=>by
  show PSsd _ _ b_holds_each_once
  unfold b_holds_each_once
  refine sd_cons (sd_if (PW.pt (pd_orT (pd_notT (pd_bool (pd_callB cd_isi T.nb_isinstance boot_isinstance (pd_cons (pd_var 0) (pd_cons (pd_ty rfl T.nb_tuple boot_tuple) pd_nil))))) (pd_or1 (pd_cmpT od_ne (pd_callB cd_len T.nb_len boot_len (pd_cons (pd_var 0) pd_nil)) (pd_var 1))))) (sd_one (sd_ret pd_bl)) sd_nil) ?_
  exact (sd_one (sd_ret (pd_and (pd_callB cd_all T.nb_all boot_all (pd_cons (pd_comp (N':=["sign","many"]) (pick:=[none,some 1]) (CompScope.of rfl rfl) (id_tup (pd_var 0)) (fun _ _ _ _ _ _=>(gd_name (i:=0) (hN:=(by decide +kernel:List.Nodup (["sign","many"]:List Str))))) (fun _ _ _ _ _ _=>pifd_nil) (fun _ _ _ _ _ _=>(pd_fn T.d_is_whole_within (ok_is_whole_within T) (hr.mono (by decide)) (pd_cons (pd_var 0) (pd_cons pd_int (pd_cons (pd_bin od_sub (pd_var 1) pd_int) pd_nil)))))) pd_nil)) (pd_one (pd_cmp od_eq (pd_lensetN (pd_cons (pd_var 0) pd_nil) T.nb_len T.nb_set) (pd_var 1))))))
theorem sc_column_of:FnScope ["rows","y"] ["rows","y"] (defScope s_column_of):=⟨rfl,rfl,rfl,by decide +kernel,rfl,by decide +kernel,by decide +kernel⟩
theorem ok_column_of (T:Tx K mg):FnOk P w K mg base CX0 1 T.a_column_of T.fd_column_of ["rows","y"] (spD K 2 m_column_of) :=
 fn_ok (k:=0) T.d_column_of.fn sc_column_of rfl rfl fun cdv A outer s H E hr=>by
  show PSsd _ _ b_column_of
  unfold b_column_of
  exact (sd_one (sd_ret (pd_callTy cd_tuple T.nb_tuple boot_tuple (pd_cons (pd_comp (N':=["row","y"]) (pick:=[none,some 1]) (CompScope.of rfl rfl) (id_both (pd_var 0)) (fun _ _ _ _ _ _=>(gd_name (i:=0) (hN:=(by decide +kernel:List.Nodup (["row","y"]:List Str))))) (fun _ _ _ _ _ _=>pifd_nil) (fun _ _ _ _ _ _=>(pd_ix id_seq (pd_var 0) (pd_var 1)))) pd_nil))))
theorem sc_is_square:FnScope ["thing","many"] ["thing"] (defScope s_is_square):=⟨rfl,rfl,rfl,by decide +kernel,rfl,by decide +kernel,by decide +kernel⟩
theorem ok_is_square (T:Tx K mg):FnOk P w K mg base CX0 4 T.a_is_square T.fd_is_square ["thing"] (spD K 1 m_is_square) :=
 fn_ok (k:=3) T.d_is_square.fn sc_is_square rfl rfl fun cdv A outer s H E hr=>by
  show PSsd _ _ b_is_square
  unfold b_is_square
  refine sd_cons (sd_if (PW.pt (pd_orT (pd_notT (pd_bool (pd_callB cd_isi T.nb_isinstance boot_isinstance (pd_cons (pd_var 0) (pd_cons (pd_ty rfl T.nb_tuple boot_tuple) pd_nil))))) (pd_or1 (pd_notT (pd_chainT od_le od_le pd_int (pd_callB cd_len T.nb_len boot_len (pd_cons (pd_var 0) pd_nil)) (pd_gint rfl T.g_MOST_SIGNS)))))) (sd_one (sd_ret pd_bl)) sd_nil) ?_
  refine sd_cons (sd_set (i:=1) (pd_callB cd_len T.nb_len boot_len (pd_cons (pd_var 0) pd_nil)) (hN:=sc_is_square.nd)) ?_
  refine sd_cons (sd_if (pd_notT (pd_bool (pd_callB cd_all T.nb_all boot_all (pd_cons (pd_comp (N':=["row","many"]) (pick:=[none,some 1]) (CompScope.of rfl rfl) (id_tup (pd_var 0)) (fun _ _ _ _ _ _=>(gd_name (i:=0) (hN:=(by decide +kernel:List.Nodup (["row","many"]:List Str))))) (fun _ _ _ _ _ _=>pifd_nil) (fun _ _ _ _ _ _=>(pd_fn T.d_holds_each_once (ok_holds_each_once T) (hr.mono (by decide)) (pd_cons (pd_var 0) (pd_cons (pd_var 1) pd_nil))))) pd_nil)))) (sd_one (sd_ret pd_bl)) sd_nil) ?_
  exact (sd_one (sd_ret (pd_callB cd_all T.nb_all boot_all (pd_cons (pd_comp (N':=["y","many","thing"]) (pick:=[none,some 1,some 0]) (CompScope.of rfl rfl) (id_rng1 (pd_cons (pd_var 1) pd_nil) T.nb_range) (fun _ _ _ _ _ _=>(gd_name (i:=0) (hN:=(by decide +kernel:List.Nodup (["y","many","thing"]:List Str))))) (fun _ _ _ _ _ _=>pifd_nil) (fun _ _ _ _ _ _=>(pd_fn T.d_holds_each_once (ok_holds_each_once T) (hr.mono (by decide)) (pd_cons (pd_fn T.d_column_of (ok_column_of T) (hr.mono (by decide)) (pd_cons (pd_var 2) (pd_cons (pd_var 0) pd_nil))) (pd_cons (pd_var 1) pd_nil))))) pd_nil))))
theorem sc_require_square:FnScope ["thing"] ["thing"] (defScope s_require_square):=⟨rfl,rfl,rfl,by decide +kernel,rfl,by decide +kernel,by decide +kernel⟩
theorem ok_require_square (T:Tx K mg):FnOk P w K mg base CX0 5 T.a_require_square T.fd_require_square ["thing"] (spD K 1 m_require_square) :=
 fn_ok (k:=4) T.d_require_square.fn sc_require_square rfl rfl fun cdv A outer s H E hr=>by
  show PSsd _ _ b_require_square
  unfold b_require_square
  exact (sd_one (sd_if (pd_notT (pd_bool (pd_fn T.d_is_square (ok_is_square T) (hr.mono (by decide)) (pd_cons (pd_var 0) pd_nil)))) (sd_one sd_never) sd_nil))
theorem okx_require_square (T:Tx K mg):FnOk P w K mg base (CXE P w K) 5 T.a_require_square T.fd_require_square ["thing"] (spX K 1 x_require_square) :=
 fn_raises (k:=4) T.d_require_square.fn sc_require_square rfl rfl fun cdv A outer s H E hr=>by
  show PSsx _ _ _ bx_require_square
  unfold bx_require_square
  exact (xd_here (xd_if (pd_notT (pd_bool (pd_fn T.d_is_square (ok_is_square T) (hr.mono (by decide)) (pd_cons (pd_var 0) pd_nil)))) (xd_here (xd_raise T.xc_NoSquare F.excBase_ValueError)) xd_none))
theorem sc_can_go_on:FnScope ["square","cut","column","signs"] ["square","cut","column"] (defScope s_can_go_on):=⟨rfl,rfl,rfl,by decide +kernel,rfl,by decide +kernel,by decide +kernel⟩
theorem ok_can_go_on (T:Tx K mg):FnOk P w K mg base CX0 1 T.a_can_go_on T.fd_can_go_on ["square","cut","column"] (spD K 3 m_can_go_on) :=
 fn_ok (k:=0) T.d_can_go_on.fn sc_can_go_on rfl rfl fun cdv A outer s H E hr=>by
  show PSsd _ _ b_can_go_on
  unfold b_can_go_on
  refine sd_cons (sd_setComp (i:=3) (hN:=sc_can_go_on.nd) (N':=["row","place"]) (pick:=[none,none]) (CompScope.of rfl rfl) (id_zip2 (pd_cons (pd_var 0) (pd_cons (pd_var 1) pd_nil)) T.nb_zip) (fun _ _ _ _ _ _=>(gd_tup (n:=2) (gds_cons (gd_name (i:=0) (hN:=(by decide +kernel:List.Nodup (["row","place"]:List Str)))) (gds_cons (gd_name (i:=1) (hN:=(by decide +kernel:List.Nodup (["row","place"]:List Str)))) gds_nil)))) (fun _ _ _ _ _ _=>pifd_nil) (fun _ _ _ _ _ _=>(pd_ix id_seq (pd_var 0) (pd_var 1)))) ?_
  exact (sd_one (sd_ret (pd_and (pd_cmp (od_notin (hu64 hr)) (pd_var 2) (pd_var 1)) (pd_one (pd_cmp (od_notin (hu64 hr)) (pd_ix id_seq (pd_ix id_seq (pd_var 0) (pd_callB cd_len T.nb_len boot_len (pd_cons (pd_var 1) pd_nil))) (pd_var 2)) (pd_var 3))))))
theorem sc_cuts:FnScope ["square","found","row","longer","cut"] ["square"] (defScope s_cuts):=⟨rfl,rfl,rfl,by decide +kernel,rfl,by decide +kernel,by decide +kernel⟩
theorem ok_cuts (T:Tx K mg):FnOk P w K mg base CX0 6 T.a_cuts T.fd_cuts ["square"] (spD K 1 m_cuts) :=
 fn_ok (k:=5) T.d_cuts.fn sc_cuts rfl rfl fun cdv A outer s H E hr=>by
  show PSsd _ _ b_cuts
  unfold b_cuts
  refine sd_cons (sd_drop (pd_fn T.d_require_square (ok_require_square T) (hr.mono (by decide)) (pd_cons (pd_var 0) pd_nil))) ?_
  refine sd_cons (sd_set (i:=1) (pd_lstM (pd_cons (pd_tup pd_nil) pd_nil)) (hN:=sc_cuts.nd)) ?_
  refine sd_cons (sd_for (id_tup (pd_var 0)) (gd_name (i:=2) (hN:=sc_cuts.nd)) (sd_cons (sd_set (i:=3) (pd_lstM pd_nil) (hN:=sc_cuts.nd)) (sd_cons (sd_for (id_list (pd_var 1)) (gd_name (i:=4) (hN:=sc_cuts.nd)) (sd_one (sd_drop (pd_extend (pd_var 3) (pd_comp (N':=["column","cut","square"]) (pick:=[none,some 4,some 0]) (CompScope.of rfl rfl) (id_rng1 (pd_cons (pd_callB cd_len T.nb_len boot_len (pd_cons (pd_var 2) pd_nil)) pd_nil) T.nb_range) (fun _ _ _ _ _ _=>(gd_name (i:=0) (hN:=(by decide +kernel:List.Nodup (["column","cut","square"]:List Str))))) (fun _ _ _ _ _ _=>(pifd_one (pd_bool (pd_fn T.d_can_go_on (ok_can_go_on T) (hr.mono (by decide)) (pd_cons (pd_var 2) (pd_cons (pd_var 1) (pd_cons (pd_var 0) pd_nil))))))) (fun _ _ _ _ _ _=>(pd_bin od_catT (pd_var 1) (pd_tup (pd_cons (pd_var 0) pd_nil))))))))) (sd_one (sd_set (i:=1) (pd_var 3) (hN:=sc_cuts.nd)))))) ?_
  exact (sd_one (sd_ret (pd_var 1)))
theorem sc_agree_somewhere:FnScope ["one","other"] ["one","other"] (defScope s_agree_somewhere):=⟨rfl,rfl,rfl,by decide +kernel,rfl,by decide +kernel,by decide +kernel⟩
theorem ok_agree_somewhere (T:Tx K mg):FnOk P w K mg base CX0 1 T.a_agree_somewhere T.fd_agree_somewhere ["one","other"] (spD K 2 m_agree_somewhere) :=
 fn_ok (k:=0) T.d_agree_somewhere.fn sc_agree_somewhere rfl rfl fun cdv A outer s H E hr=>by
  show PSsd _ _ b_agree_somewhere
  unfold b_agree_somewhere
  exact (sd_one (sd_ret (pd_callB cd_any T.nb_any boot_any (pd_cons (pd_comp (N':=["x","y"]) (pick:=[none,none]) (CompScope.of rfl rfl) (id_zip2 (pd_cons (pd_var 0) (pd_cons (pd_var 1) pd_nil)) T.nb_zip) (fun _ _ _ _ _ _=>(gd_tup (n:=2) (gds_cons (gd_name (i:=0) (hN:=(by decide +kernel:List.Nodup (["x","y"]:List Str)))) (gds_cons (gd_name (i:=1) (hN:=(by decide +kernel:List.Nodup (["x","y"]:List Str)))) gds_nil)))) (fun _ _ _ _ _ _=>pifd_nil) (fun _ _ _ _ _ _=>(pd_cmp od_eq (pd_var 0) (pd_var 1)))) pd_nil))))
theorem sc_with_one_more:FnScope ["choices","more","longer","chosen","cut"] ["choices","more"] (defScope s_with_one_more):=⟨rfl,rfl,rfl,by decide +kernel,rfl,by decide +kernel,by decide +kernel⟩
theorem ok_with_one_more (T:Tx K mg):FnOk P w K mg base CX0 2 T.a_with_one_more T.fd_with_one_more ["choices","more"] (spD K 2 m_with_one_more) :=
 fn_ok (k:=1) T.d_with_one_more.fn sc_with_one_more rfl rfl fun cdv A outer s H E hr=>by
  show PSsd _ _ b_with_one_more
  unfold b_with_one_more
  refine sd_cons (sd_set (i:=2) (pd_lstM pd_nil) (hN:=sc_with_one_more.nd)) ?_
  refine sd_cons (sd_for (id_list (pd_var 0)) (gd_name (i:=3) (hN:=sc_with_one_more.nd)) (sd_one (sd_for (id_list (pd_var 1)) (gd_name (i:=4) (hN:=sc_with_one_more.nd)) (sd_one (sd_if (pd_notT (pd_bool (pd_callB cd_any T.nb_any boot_any (pd_cons (pd_comp (N':=["each","cut"]) (pick:=[none,some 4]) (CompScope.of rfl rfl) (id_list (pd_var 3)) (fun _ _ _ _ _ _=>(gd_name (i:=0) (hN:=(by decide +kernel:List.Nodup (["each","cut"]:List Str))))) (fun _ _ _ _ _ _=>pifd_nil) (fun _ _ _ _ _ _=>(pd_fn T.d_agree_somewhere (ok_agree_somewhere T) (hr.mono (by decide)) (pd_cons (pd_var 1) (pd_cons (pd_var 0) pd_nil))))) pd_nil)))) (sd_one (sd_drop (pd_append (pd_var 2) (pd_bin od_cat (pd_var 3) (pd_lst (pd_cons (pd_var 4) pd_nil)))))) sd_nil))))) ?_
  exact (sd_one (sd_ret (pd_var 2)))
theorem sc_signs_where:FnScope ["columns"] ["columns"] (defScope s_signs_where):=⟨rfl,rfl,rfl,by decide +kernel,rfl,by decide +kernel,by decide +kernel⟩
theorem ok_signs_where (T:Tx K mg):FnOk P w K mg base CX0 1 T.a_signs_where T.fd_signs_where ["columns"] (spD K 1 m_signs_where) :=
 fn_ok (k:=0) T.d_signs_where.fn sc_signs_where rfl rfl fun cdv A outer s H E hr=>by
  show PSsd _ _ b_signs_where
  unfold b_signs_where
  exact (sd_one (sd_ret (pd_callTy cd_tuple T.nb_tuple boot_tuple (pd_cons (pd_comp (N':=["y","columns"]) (pick:=[none,some 0]) (CompScope.of rfl rfl) (id_rng1 (pd_cons (pd_callB cd_len T.nb_len boot_len (pd_cons (pd_var 0) pd_nil)) pd_nil) T.nb_range) (fun _ _ _ _ _ _=>(gd_name (i:=0) (hN:=(by decide +kernel:List.Nodup (["y","columns"]:List Str))))) (fun _ _ _ _ _ _=>pifd_nil) (fun _ _ _ _ _ _=>(pd_indexT (pd_var 1) (pd_var 0)))) pd_nil))))
theorem sc_square_of_cuts:FnScope ["chosen"] ["chosen"] (defScope s_square_of_cuts):=⟨rfl,rfl,rfl,by decide +kernel,rfl,by decide +kernel,by decide +kernel⟩
theorem ok_square_of_cuts (T:Tx K mg):FnOk P w K mg base CX0 2 T.a_square_of_cuts T.fd_square_of_cuts ["chosen"] (spD K 1 m_square_of_cuts) :=
 fn_ok (k:=1) T.d_square_of_cuts.fn sc_square_of_cuts rfl rfl fun cdv A outer s H E hr=>by
  show PSsd _ _ b_square_of_cuts
  unfold b_square_of_cuts
  exact (sd_one (sd_ret (pd_callTy cd_tuple T.nb_tuple boot_tuple (pd_cons (pd_comp (N':=["x","chosen"]) (pick:=[none,some 0]) (CompScope.of rfl rfl) (id_rng1 (pd_cons (pd_callB cd_len T.nb_len boot_len (pd_cons (pd_var 0) pd_nil)) pd_nil) T.nb_range) (fun _ _ _ _ _ _=>(gd_name (i:=0) (hN:=(by decide +kernel:List.Nodup (["x","chosen"]:List Str))))) (fun _ _ _ _ _ _=>pifd_nil) (fun _ _ _ _ _ _=>(pd_fn T.d_signs_where (ok_signs_where T) (hr.mono (by decide)) (pd_cons (pd_fn T.d_column_of (ok_column_of T) (hr.mono (by decide)) (pd_cons (pd_var 1) (pd_cons (pd_var 0) pd_nil))) pd_nil)))) pd_nil))))
theorem sc_some_across:FnScope ["square","found","choices","sign"] ["square"] (defScope s_some_across):=⟨rfl,rfl,rfl,by decide +kernel,rfl,by decide +kernel,by decide +kernel⟩
theorem ok_some_across (T:Tx K mg):FnOk P w K mg base CX0 7 T.a_some_across T.fd_some_across ["square"] (spD K 1 m_some_across) :=
 fn_ok (k:=6) T.d_some_across.fn sc_some_across rfl rfl fun cdv A outer s H E hr=>by
  show PSsd _ _ b_some_across
  unfold b_some_across
  refine sd_cons (sd_drop (pd_fn T.d_require_square (ok_require_square T) (hr.mono (by decide)) (pd_cons (pd_var 0) pd_nil))) ?_
  refine sd_cons (sd_if (pd_cmpT od_gt (pd_callB cd_len T.nb_len boot_len (pd_cons (pd_var 0) pd_nil)) (pd_gint rfl T.g_MOST_CROSSED)) (sd_one sd_never) sd_nil) ?_
  refine sd_cons (sd_set (i:=1) (pd_fn T.d_cuts (ok_cuts T) (hr.mono (by decide)) (pd_cons (pd_var 0) pd_nil)) (hN:=sc_some_across.nd)) ?_
  refine sd_cons (sd_set (i:=2) (pd_lst (pd_cons (pd_lst pd_nil) pd_nil)) (hN:=sc_some_across.nd)) ?_
  refine sd_cons (sd_for (id_rng1 (pd_cons (pd_callB cd_len T.nb_len boot_len (pd_cons (pd_var 0) pd_nil)) pd_nil) T.nb_range) (gd_name (i:=3) (hN:=sc_some_across.nd)) (sd_one (sd_set (i:=2) (pd_fn T.d_with_one_more (ok_with_one_more T) (hr.mono (by decide)) (pd_cons (pd_var 2) (pd_cons (pd_comp (N':=["cut","sign"]) (pick:=[none,some 3]) (CompScope.of rfl rfl) (id_list (pd_var 1)) (fun _ _ _ _ _ _=>(gd_name (i:=0) (hN:=(by decide +kernel:List.Nodup (["cut","sign"]:List Str))))) (fun _ _ _ _ _ _=>(pifd_one (pd_cmpT od_eq (pd_ix id_seq (pd_var 0) pd_int) (pd_var 1)))) (fun _ _ _ _ _ _=>(pd_var 0))) pd_nil))) (hN:=sc_some_across.nd)))) ?_
  exact (sd_one (sd_ret (pd_ifE (pd_tru (pd_var 2)) (pd_fn T.d_square_of_cuts (ok_square_of_cuts T) (hr.mono (by decide)) (pd_cons (pd_ix id_seq (pd_var 2) pd_int) pd_nil)) pd_non)))
theorem okx_some_across (T:Tx K mg):FnOk P w K mg base (CXE P w K) 7 T.a_some_across T.fd_some_across ["square"] (spX K 1 x_some_across) :=
 fn_raises (k:=6) T.d_some_across.fn sc_some_across rfl rfl fun cdv A outer s H E hr=>by
  show PSsx _ _ _ bx_some_across
  unfold bx_some_across
  exact (xd_or (xd_here (xd_expr (xd_call T.d_require_square (okx_require_square T) (hr.mono (by decide)) (pd_cons (pd_var 0) pd_nil)))) (xd_cons (sd_drop (pd_fn T.d_require_square (ok_require_square T) (hr.mono (by decide)) (pd_cons (pd_var 0) pd_nil))) (xd_here (xd_if (pd_cmpT od_gt (pd_callB cd_len T.nb_len boot_len (pd_cons (pd_var 0) pd_nil)) (pd_gint rfl T.g_MOST_CROSSED)) (xd_here (xd_raise T.xc_TooMany F.excBase_ValueError)) xd_none))))
theorem sc_law_cell_at:FnScope ["script","k"] ["script","k"] (defScope s_law_cell_at):=⟨rfl,rfl,rfl,by decide +kernel,rfl,by decide +kernel,by decide +kernel⟩
theorem ok_law_cell_at (T:Tx K mg):FnOk P w K mg base CX0 1 T.a_law_cell_at T.fd_law_cell_at ["script","k"] (spD K 2 m_law_cell_at) :=
 fn_ok (k:=0) T.d_law_cell_at.fn sc_law_cell_at rfl rfl fun cdv A outer s H E hr=>by
  show PSsd _ _ b_law_cell_at
  unfold b_law_cell_at
  refine sd_cons (sd_if (pd_cmpT od_lt (pd_var 1) (pd_callB cd_len T.nb_len boot_len (pd_cons (pd_var 0) pd_nil))) (sd_one (sd_ret (pd_ix id_seq (pd_var 0) (pd_var 1)))) sd_nil) ?_
  exact (sd_one (sd_ret pd_int))
theorem sc_law_pot:FnScope ["cell","number","j","more"] ["cell"] (defScope s_law_pot):=⟨rfl,rfl,rfl,by decide +kernel,rfl,by decide +kernel,by decide +kernel⟩
theorem ok_law_pot (T:Tx K mg):FnOk P w K mg base CX0 1 T.a_law_pot T.fd_law_pot ["cell"] (spD K 1 m_law_pot) :=
 fn_ok (k:=0) T.d_law_pot.fn sc_law_pot rfl rfl fun cdv A outer s H E hr=>by
  show PSsd _ _ b_law_pot
  unfold b_law_pot
  refine sd_cons (sd_if (pd_cmpT od_ge (pd_var 0) (pd_bin od_pow pd_int pd_int)) (sd_one (sd_ret (pd_lstM (pd_cons (pd_bin od_sub (pd_var 0) (pd_bin od_pow pd_int pd_int)) pd_nil)))) sd_nil) ?_
  refine sd_cons (sd_set (i:=1) pd_int (hN:=sc_law_pot.nd)) ?_
  refine sd_cons (sd_for (id_rng1 (pd_cons pd_int pd_nil) T.nb_range) (gd_name (i:=2) (hN:=sc_law_pot.nd)) (sd_cons (sd_set (i:=3) (pd_bin od_mod (pd_bin od_mul (pd_bin od_add (pd_bin od_add (pd_bin od_mod (pd_var 0) pd_int) (pd_bin od_mul pd_int (pd_var 2))) pd_int) pd_int) pd_int) (hN:=sc_law_pot.nd)) (sd_cons (sd_set (i:=3) (pd_bin od_mod (pd_bin od_add (pd_bin od_add (pd_bin od_mul (pd_var 3) (pd_var 3)) (pd_bin od_mul pd_int (pd_var 2))) pd_int) pd_int) (hN:=sc_law_pot.nd)) (sd_one (sd_set (i:=1) (pd_bin od_add (pd_bin od_mul (pd_var 1) pd_int) (pd_var 3)) (hN:=sc_law_pot.nd)))))) ?_
  exact (sd_one (sd_ret (pd_lstM (pd_cons (pd_var 1) pd_nil))))
theorem sc_law_take:FnScope ["pot","far","found"] ["pot","far"] (defScope s_law_take):=⟨rfl,rfl,rfl,by decide +kernel,rfl,by decide +kernel,by decide +kernel⟩
theorem ok_law_take (T:Tx K mg):FnOk P w K mg base CX0 1 T.a_law_take T.fd_law_take ["pot","far"] (spD K 2 m_law_take) :=
 fn_ok (k:=0) T.d_law_take.fn sc_law_take rfl rfl fun cdv A outer s H E hr=>by
  show PSsd _ _ b_law_take
  unfold b_law_take
  refine sd_cons (sd_set (i:=2) (pd_bin od_mod (pd_ix id_seq (pd_var 0) pd_int) (pd_var 1)) (hN:=sc_law_take.nd)) ?_
  refine sd_cons (sd_asg (pd_bin od_div (pd_ix id_seq (pd_var 0) pd_int) (pd_var 1)) (gd_sub (pd_var 0) pd_int)) ?_
  exact (sd_one (sd_ret (pd_var 2)))
theorem sc_law_whole:FnScope ["found"] ["found"] (defScope s_law_whole):=⟨rfl,rfl,rfl,by decide +kernel,rfl,by decide +kernel,by decide +kernel⟩
theorem ok_law_whole (T:Tx K mg):FnOk P w K mg base CX0 1 T.a_law_whole T.fd_law_whole ["found"] (spD K 1 m_law_whole) :=
 fn_ok (k:=0) T.d_law_whole.fn sc_law_whole rfl rfl fun cdv A outer s H E hr=>by
  show PSsd _ _ b_law_whole
  unfold b_law_whole
  exact (sd_one (sd_ret (pd_and (pd_callB cd_isi T.nb_isinstance boot_isinstance (pd_cons (pd_var 0) (pd_cons (pd_ty rfl T.nb_int boot_int) pd_nil))) (pd_one (pd_not (pd_callB cd_isi T.nb_isinstance boot_isinstance (pd_cons (pd_var 0) (pd_cons (pd_ty rfl T.nb_bool boot_bool) pd_nil))))))))
theorem sc_law_kind_of:FnScope ["e","some","words"] ["e"] (defScope s_law_kind_of):=⟨rfl,rfl,rfl,by decide +kernel,rfl,by decide +kernel,by decide +kernel⟩
theorem okH_law_kind_of (T:Tx K mg):FnOkH P w K mg base 1 T.a_law_kind_of T.fd_law_kind_of ["e"] (spD K 1 m_law_kind_of) :=
 fn_okH (k:=0) T.d_law_kind_of.fn sc_law_kind_of rfl rfl fun cdv A outer s H E hr=>by
  show PSsd _ _ b_law_kind_of
  unfold b_law_kind_of
  refine sd_cons (sd_set (i:=1) (pd_lst (pd_cons (pd_callB (cd_isx T.xtab) T.nb_isinstance boot_isinstance (pd_cons (pd_var 0) (pd_cons (pd_cls T.gc_NoWeb T.nc_NoWeb) pd_nil))) (pd_cons (pd_callB (cd_isx T.xtab) T.nb_isinstance boot_isinstance (pd_cons (pd_var 0) (pd_cons (pd_cls T.gc_NoText T.nc_NoText) pd_nil))) (pd_cons (pd_callB (cd_isx T.xtab) T.nb_isinstance boot_isinstance (pd_cons (pd_var 0) (pd_cons (pd_cls T.gc_NoNumbers T.nc_NoNumbers) pd_nil))) (pd_cons (pd_callB (cd_isx T.xtab) T.nb_isinstance boot_isinstance (pd_cons (pd_var 0) (pd_cons (pd_cls T.gc_NoField T.nc_NoField) pd_nil))) pd_nil))))) (hN:=sc_law_kind_of.nd)) ?_
  refine sd_cons (sd_set (i:=1) (pd_bin od_cat (pd_var 1) (pd_lst (pd_cons (pd_callB (cd_isx T.xtab) T.nb_isinstance boot_isinstance (pd_cons (pd_var 0) (pd_cons (pd_cls T.gc_NoThing T.nc_NoThing) pd_nil))) (pd_cons (pd_callB (cd_isx T.xtab) T.nb_isinstance boot_isinstance (pd_cons (pd_var 0) (pd_cons (pd_cls T.gc_NoSquare T.nc_NoSquare) pd_nil))) (pd_cons (pd_callB (cd_isx T.xtab) T.nb_isinstance boot_isinstance (pd_cons (pd_var 0) (pd_cons (pd_cls T.gc_NoPlaces T.nc_NoPlaces) pd_nil))) (pd_cons (pd_callB (cd_isx T.xtab) T.nb_isinstance boot_isinstance (pd_cons (pd_var 0) (pd_cons (pd_cls T.gc_TooMany T.nc_TooMany) pd_nil))) pd_nil)))))) (hN:=sc_law_kind_of.nd)) ?_
  refine sd_cons (sd_set (i:=1) (pd_bin od_cat (pd_var 1) (pd_lst (pd_cons (pd_callB (cd_isx T.xtab) T.nb_isinstance boot_isinstance (pd_cons (pd_var 0) (pd_cons (pd_cls T.gc_NoName T.nc_NoName) pd_nil))) (pd_cons (pd_callB (cd_isx T.xtab) T.nb_isinstance boot_isinstance (pd_cons (pd_var 0) (pd_cons (pd_cls T.gc_NoDeed T.nc_NoDeed) pd_nil))) (pd_cons (pd_callB (cd_isx T.xtab) T.nb_isinstance boot_isinstance (pd_cons (pd_var 0) (pd_cons (pd_cls T.gc_NoRow T.nc_NoRow) pd_nil))) pd_nil))))) (hN:=sc_law_kind_of.nd)) ?_
  refine sd_cons (sd_if (PW.pt (pd_orT (pd_cmpT od_ne (pd_count (pd_var 1) pd_bl) pd_int) (pd_or1 (pd_notT (pd_bool (pd_callB (cd_isx T.xtab) T.nb_isinstance boot_isinstance (pd_cons (pd_var 0) (pd_cons (pd_ty rfl T.nb_ValueError bootVE) pd_nil)))))))) (sd_one (sd_ret pd_str)) sd_nil) ?_
  refine sd_cons ?_ ?_
  ·with_reducible refine sd_set (i:=2) ?_ ?_ ?_ ?_ ?_ ?_
   ·with_reducible refine pd_lst ?_
    with_reducible refine pd_cons ?_ ?_ ?_
    ·exact pd_str
    ·skip
     with_reducible refine pd_cons ?_ ?_ ?_
     ·exact pd_str
     ·skip
      with_reducible refine pd_cons ?_ ?_ ?_
      ·exact pd_str
      ·skip
       with_reducible refine pd_cons ?_ ?_ ?_
       ·exact pd_str
       ·skip
        with_reducible refine pd_cons ?_ ?_ ?_
        ·exact pd_str
        ·skip
         with_reducible refine pd_cons ?_ ?_ ?_
         ·exact pd_str
         ·skip
          with_reducible refine pd_cons ?_ ?_ ?_
          ·exact pd_str
          ·skip
           with_reducible refine pd_cons ?_ ?_ ?_
           ·exact pd_str
           ·skip
            with_reducible refine pd_cons ?_ ?_ ?_
            ·exact pd_str
            ·skip
             with_reducible refine pd_cons ?_ ?_ ?_
             ·exact pd_str
             ·skip
              with_reducible refine pd_cons ?_ ?_ ?_
              ·exact pd_str
              ·skip
               with_reducible exact pd_nil
              ·exact starE rfl
             ·exact starE rfl
            ·exact starE rfl
           ·exact starE rfl
          ·exact starE rfl
         ·exact starE rfl
        ·exact starE rfl
       ·exact starE rfl
      ·exact starE rfl
     ·exact starE rfl
    ·exact starE rfl
   ·exact sc_law_kind_of.nd
   ·rfl
   ·exact Or.inl rfl
   ·rfl
   ·exact .inl rfl
  ·skip
   exact (sd_one (sd_ret (pd_ix id_seq (pd_var 2) (pd_index (pd_var 1) pd_bl))))
theorem sc_law_is_square:FnScope ["thing","due","row","column"] ["thing"] (defScope s_law_is_square):=⟨rfl,rfl,rfl,by decide +kernel,rfl,by decide +kernel,by decide +kernel⟩
theorem ok_law_is_square (T:Tx K mg):FnOk P w K mg base CX0 2 T.a_law_is_square T.fd_law_is_square ["thing"] (spD K 1 m_law_is_square) :=
 fn_ok (k:=1) T.d_law_is_square.fn sc_law_is_square rfl rfl fun cdv A outer s H E hr=>by
  show PSsd _ _ b_law_is_square
  unfold b_law_is_square
  refine sd_cons (sd_if (PW.pt (pd_orT (pd_notT (pd_bool (pd_callB cd_isi T.nb_isinstance boot_isinstance (pd_cons (pd_var 0) (pd_cons (pd_ty rfl T.nb_tuple boot_tuple) pd_nil))))) (pd_or1 (pd_notT (pd_chainT od_le od_le pd_int (pd_callB cd_len T.nb_len boot_len (pd_cons (pd_var 0) pd_nil)) pd_int))))) (sd_one (sd_ret pd_bl)) sd_nil) ?_
  refine sd_cons (sd_set (i:=1) (pd_lrng1 (pd_cons (pd_callB cd_len T.nb_len boot_len (pd_cons (pd_var 0) pd_nil)) pd_nil) T.nb_list T.nb_range) (hN:=sc_law_is_square.nd)) ?_
  refine sd_cons (sd_for (id_tup (pd_var 0)) (gd_name (i:=2) (hN:=sc_law_is_square.nd)) (sd_one (sd_if (PW.pt (pd_orT (pd_notT (pd_bool (pd_callB cd_isi T.nb_isinstance boot_isinstance (pd_cons (pd_var 2) (pd_cons (pd_ty rfl T.nb_tuple boot_tuple) pd_nil))))) (pd_orT (pd_notT (pd_bool (pd_callB cd_all T.nb_all boot_all (pd_cons (pd_comp (N':=["one"]) (pick:=[none]) (CompScope.of rfl rfl) (id_tup (pd_var 2)) (fun _ _ _ _ _ _=>(gd_name (i:=0) (hN:=(by decide +kernel:List.Nodup (["one"]:List Str))))) (fun _ _ _ _ _ _=>pifd_nil) (fun _ _ _ _ _ _=>(pd_fn T.d_law_whole (ok_law_whole T) (hr.mono (by decide)) (pd_cons (pd_var 0) pd_nil)))) pd_nil)))) (pd_or1 (pd_cmpT (od_nev (hu64 hr)) (pd_callB cd_sortT T.nb_sorted (by decide +kernel) (pd_cons (pd_var 2) pd_nil)) (pd_var 1)))))) (sd_one (sd_ret pd_bl)) sd_nil))) ?_
  refine sd_cons (sd_for (id_rng1 (pd_cons (pd_callB cd_len T.nb_len boot_len (pd_cons (pd_var 0) pd_nil)) pd_nil) T.nb_range) (gd_name (i:=3) (hN:=sc_law_is_square.nd)) (sd_one (sd_if (pd_cmpT (od_nev (hu64 hr)) (pd_callB cd_sortL T.nb_sorted (by decide +kernel) (pd_cons (pd_comp (N':=["row","column"]) (pick:=[none,some 3]) (CompScope.of rfl rfl) (id_tup (pd_var 0)) (fun _ _ _ _ _ _=>(gd_name (i:=0) (hN:=(by decide +kernel:List.Nodup (["row","column"]:List Str))))) (fun _ _ _ _ _ _=>pifd_nil) (fun _ _ _ _ _ _=>(pd_ix id_seq (pd_var 0) (pd_var 1)))) pd_nil)) (pd_var 1)) (sd_one (sd_ret pd_bl)) sd_nil))) ?_
  exact (sd_one (sd_ret pd_bl))
theorem sc_law_order:FnScope ["pot","many","left"] ["pot","many"] (defScope s_law_order):=⟨rfl,rfl,rfl,by decide +kernel,rfl,by decide +kernel,by decide +kernel⟩
theorem ok_law_order (T:Tx K mg):FnOk P w K mg base CX0 2 T.a_law_order T.fd_law_order ["pot","many"] (spD K 2 m_law_order) :=
 fn_ok (k:=1) T.d_law_order.fn sc_law_order rfl rfl fun cdv A outer s H E hr=>by
  show PSsd _ _ b_law_order
  unfold b_law_order
  refine sd_cons (sd_set (i:=2) (pd_lrng1M (pd_cons (pd_var 1) pd_nil) T.nb_list T.nb_range) (hN:=sc_law_order.nd)) ?_
  exact (sd_one (sd_ret (pd_callTy cd_tuple T.nb_tuple boot_tuple (pd_cons (pd_comp (N':=["k","left","pot"]) (pick:=[none,some 2,some 0]) (CompScope.of rfl rfl) (id_rng1 (pd_cons (pd_var 1) pd_nil) T.nb_range) (fun _ _ _ _ _ _=>(gd_name (i:=0) (hN:=(by decide +kernel:List.Nodup (["k","left","pot"]:List Str))))) (fun _ _ _ _ _ _=>pifd_nil) (fun _ _ _ _ _ _=>(pd_pop (pd_var 1) (pd_fn T.d_law_take (ok_law_take T) (hr.mono (by decide)) (pd_cons (pd_var 2) (pd_cons (pd_callB cd_len T.nb_len boot_len (pd_cons (pd_var 1) pd_nil)) pd_nil)))))) pd_nil))))
theorem sc_law_cycled:FnScope ["pot","n","rows","by","order","names","columns"] ["pot","n"] (defScope s_law_cycled):=⟨rfl,rfl,rfl,by decide +kernel,rfl,by decide +kernel,by decide +kernel⟩
theorem ok_law_cycled (T:Tx K mg):FnOk P w K mg base CX0 3 T.a_law_cycled T.fd_law_cycled ["pot","n"] (spD K 2 m_law_cycled) :=
 fn_ok (k:=2) T.d_law_cycled.fn sc_law_cycled rfl rfl fun cdv A outer s H E hr=>by
  show PSsd _ _ b_law_cycled
  unfold b_law_cycled
  refine sd_cons (sd_if (PW.pt (pd_andT (pd_cmpT od_eq (pd_var 1) pd_int) (pd_and1 (pd_cmpT od_eq (pd_fn T.d_law_take (ok_law_take T) (hr.mono (by decide)) (pd_cons (pd_var 0) (pd_cons pd_int pd_nil))) pd_int)))) (sd_one (sd_set (i:=2) (pd_comp (N':=["row","n"]) (pick:=[none,some 1]) (CompScope.of rfl rfl) (id_rng1 (pd_cons (pd_var 1) pd_nil) T.nb_range) (fun _ _ _ _ _ _=>(gd_name (i:=0) (hN:=(by decide +kernel:List.Nodup (["row","n"]:List Str))))) (fun _ _ _ _ _ _=>pifd_nil) (fun _ _ _ _ _ _=>(pd_comp (N':=["column","row"]) (pick:=[none,some 0]) (CompScope.of rfl rfl) (id_rng1 (pd_cons (pd_var 1) pd_nil) T.nb_range) (fun _ _ _ _ _ _=>(gd_name (i:=0) (hN:=(by decide +kernel:List.Nodup (["column","row"]:List Str))))) (fun _ _ _ _ _ _=>pifd_nil) (fun _ _ _ _ _ _=>(pd_bin od_xor (pd_var 1) (pd_var 0)))))) (hN:=sc_law_cycled.nd))) (sd_cons (sd_set (i:=3) (pd_bin od_add pd_int (pd_fn T.d_law_take (ok_law_take T) (hr.mono (by decide)) (pd_cons (pd_var 0) (pd_cons (pd_callB cd_max2 T.nb_max boot_max (pd_cons pd_int (pd_cons (pd_bin od_sub (pd_var 1) pd_int) pd_nil))) pd_nil)))) (hN:=sc_law_cycled.nd)) (sd_cons (sd_set (i:=2) (pd_comp (N':=["row","n","by"]) (pick:=[none,some 1,some 3]) (CompScope.of rfl rfl) (id_rng1 (pd_cons (pd_var 1) pd_nil) T.nb_range) (fun _ _ _ _ _ _=>(gd_name (i:=0) (hN:=(by decide +kernel:List.Nodup (["row","n","by"]:List Str))))) (fun _ _ _ _ _ _=>pifd_nil) (fun _ _ _ _ _ _=>(pd_comp (N':=["column","n","by","row"]) (pick:=[none,some 1,some 2,some 0]) (CompScope.of rfl rfl) (id_rng1 (pd_cons (pd_var 1) pd_nil) T.nb_range) (fun _ _ _ _ _ _=>(gd_name (i:=0) (hN:=(by decide +kernel:List.Nodup (["column","n","by","row"]:List Str))))) (fun _ _ _ _ _ _=>pifd_nil) (fun _ _ _ _ _ _=>(pd_bin od_mod (pd_bin od_add (pd_bin od_mul (pd_var 2) (pd_var 3)) (pd_var 0)) (pd_var 1)))))) (hN:=sc_law_cycled.nd)) (sd_one (sd_if (pd_cmpT (od_nev (hu64 hr)) (pd_sortset (pd_cons (pd_comp (N':=["row"]) (pick:=[none]) (CompScope.of rfl rfl) (id_list (pd_var 2)) (fun _ _ _ _ _ _=>(gd_name (i:=0) (hN:=(by decide +kernel:List.Nodup (["row"]:List Str))))) (fun _ _ _ _ _ _=>pifd_nil) (fun _ _ _ _ _ _=>(pd_ix id_seq (pd_var 0) pd_int))) pd_nil) T.nb_sorted T.nb_set) (pd_lrng1 (pd_cons (pd_var 1) pd_nil) T.nb_list T.nb_range)) (sd_one (sd_set (i:=2) (pd_comp (N':=["row","n"]) (pick:=[none,some 1]) (CompScope.of rfl rfl) (id_rng1 (pd_cons (pd_var 1) pd_nil) T.nb_range) (fun _ _ _ _ _ _=>(gd_name (i:=0) (hN:=(by decide +kernel:List.Nodup (["row","n"]:List Str))))) (fun _ _ _ _ _ _=>pifd_nil) (fun _ _ _ _ _ _=>(pd_comp (N':=["column","n","row"]) (pick:=[none,some 1,some 0]) (CompScope.of rfl rfl) (id_rng1 (pd_cons (pd_var 1) pd_nil) T.nb_range) (fun _ _ _ _ _ _=>(gd_name (i:=0) (hN:=(by decide +kernel:List.Nodup (["column","n","row"]:List Str))))) (fun _ _ _ _ _ _=>pifd_nil) (fun _ _ _ _ _ _=>(pd_bin od_mod (pd_bin od_add (pd_var 2) (pd_var 0)) (pd_var 1)))))) (hN:=sc_law_cycled.nd))) sd_nil))))) ?_
  refine sd_cons (sd_set (i:=4) (pd_fn T.d_law_order (ok_law_order T) (hr.mono (by decide)) (pd_cons (pd_var 0) (pd_cons (pd_var 1) pd_nil))) (hN:=sc_law_cycled.nd)) ?_
  refine sd_cons (sd_set (i:=5) (pd_fn T.d_law_order (ok_law_order T) (hr.mono (by decide)) (pd_cons (pd_var 0) (pd_cons (pd_var 1) pd_nil))) (hN:=sc_law_cycled.nd)) ?_
  refine sd_cons (sd_set (i:=6) (pd_fn T.d_law_order (ok_law_order T) (hr.mono (by decide)) (pd_cons (pd_var 0) (pd_cons (pd_var 1) pd_nil))) (hN:=sc_law_cycled.nd)) ?_
  exact (sd_one (sd_ret (pd_callTy cd_tuple T.nb_tuple boot_tuple (pd_cons (pd_comp (N':=["row","names","columns","rows"]) (pick:=[none,some 5,some 6,some 2]) (CompScope.of rfl rfl) (id_tup (pd_var 4)) (fun _ _ _ _ _ _=>(gd_name (i:=0) (hN:=(by decide +kernel:List.Nodup (["row","names","columns","rows"]:List Str))))) (fun _ _ _ _ _ _=>pifd_nil) (fun _ _ _ _ _ _=>(pd_callTy cd_tuple T.nb_tuple boot_tuple (pd_cons (pd_comp (N':=["column","names","rows","row"]) (pick:=[none,some 1,some 3,some 0]) (CompScope.of rfl rfl) (id_tup (pd_var 2)) (fun _ _ _ _ _ _=>(gd_name (i:=0) (hN:=(by decide +kernel:List.Nodup (["column","names","rows","row"]:List Str))))) (fun _ _ _ _ _ _=>pifd_nil) (fun _ _ _ _ _ _=>(pd_ix id_seq (pd_var 1) (pd_ix id_seq (pd_ix id_seq (pd_var 2) (pd_var 3)) (pd_var 0))))) pd_nil)))) pd_nil))))
theorem sc_law_six:FnScope ["pot","rows","order"] ["pot"] (defScope s_law_six):=⟨rfl,rfl,rfl,by decide +kernel,rfl,by decide +kernel,by decide +kernel⟩
theorem ok_law_six (T:Tx K mg):FnOk P w K mg base CX0 3 T.a_law_six T.fd_law_six ["pot"] (spD K 1 m_law_six) :=
 fn_ok (k:=2) T.d_law_six.fn sc_law_six rfl rfl fun cdv A outer s H E hr=>by
  show PSsd _ _ b_law_six
  unfold b_law_six
  refine sd_cons ?_ ?_
  ·with_reducible refine sd_set (i:=1) ?_ ?_ ?_ ?_ ?_ ?_
   ·with_reducible refine pd_lstM ?_
    with_reducible refine pd_cons ?_ ?_ ?_
    ·with_reducible refine pd_lst ?_
     with_reducible refine pd_ints ?_
     kernel_rfl
    ·skip
     with_reducible refine pd_cons ?_ ?_ ?_
     ·with_reducible refine pd_lst ?_
      with_reducible refine pd_ints ?_
      kernel_rfl
     ·skip
      with_reducible refine pd_cons ?_ ?_ ?_
      ·with_reducible refine pd_lst ?_
       with_reducible refine pd_ints ?_
       kernel_rfl
      ·skip
       with_reducible refine pd_cons ?_ ?_ ?_
       ·with_reducible refine pd_lst ?_
        with_reducible refine pd_ints ?_
        kernel_rfl
       ·skip
        with_reducible refine pd_cons ?_ ?_ ?_
        ·with_reducible refine pd_lst ?_
         with_reducible refine pd_ints ?_
         kernel_rfl
        ·skip
         with_reducible exact pd_nil
        ·exact starE rfl
       ·exact starE rfl
      ·exact starE rfl
     ·exact starE rfl
    ·exact starE rfl
   ·exact sc_law_six.nd
   ·rfl
   ·first | exact Or.inl rfl | exact Or.inr rfl
   ·rfl
   ·first | exact .inl rfl | exact .inr rfl
  ·skip
   refine sd_cons (sd_drop (pd_append (pd_var 1) (pd_lst (pd_ints (by kernel_rfl))))) ?_
   refine sd_cons (sd_set (i:=2) (pd_fn T.d_law_order (ok_law_order T) (hr.mono (by decide)) (pd_cons (pd_var 0) (pd_cons pd_int pd_nil))) (hN:=sc_law_six.nd)) ?_
   exact (sd_one (sd_ret (pd_callTy cd_tuple T.nb_tuple boot_tuple (pd_cons (pd_comp (N':=["row","rows"]) (pick:=[none,some 1]) (CompScope.of rfl rfl) (id_tup (pd_var 2)) (fun _ _ _ _ _ _=>(gd_name (i:=0) (hN:=(by decide +kernel:List.Nodup (["row","rows"]:List Str))))) (fun _ _ _ _ _ _=>pifd_nil) (fun _ _ _ _ _ _=>(pd_callTy cd_tuple T.nb_tuple boot_tuple (pd_cons (pd_ix id_seq (pd_var 1) (pd_var 0)) pd_nil)))) pd_nil))))
theorem sc_law_square:FnScope ["pot","n"] ["pot","n"] (defScope s_law_square):=⟨rfl,rfl,rfl,by decide +kernel,rfl,by decide +kernel,by decide +kernel⟩
theorem ok_law_square (T:Tx K mg):FnOk P w K mg base CX0 4 T.a_law_square T.fd_law_square ["pot","n"] (spD K 2 m_law_square) :=
 fn_ok (k:=3) T.d_law_square.fn sc_law_square rfl rfl fun cdv A outer s H E hr=>by
  show PSsd _ _ b_law_square
  unfold b_law_square
  refine sd_cons (sd_if (PW.pt (pd_andT (pd_cmpT od_eq (pd_var 1) pd_int) (pd_and1 (pd_cmpT od_eq (pd_fn T.d_law_take (ok_law_take T) (hr.mono (by decide)) (pd_cons (pd_var 0) (pd_cons pd_int pd_nil))) pd_int)))) (sd_one (sd_ret (pd_fn T.d_law_six (ok_law_six T) (hr.mono (by decide)) (pd_cons (pd_var 0) pd_nil)))) sd_nil) ?_
  exact (sd_one (sd_ret (pd_fn T.d_law_cycled (ok_law_cycled T) (hr.mono (by decide)) (pd_cons (pd_var 0) (pd_cons (pd_var 1) pd_nil)))))
theorem sc_law_across:FnScope ["one","other","seen","row","column","pair"] ["one","other"] (defScope s_law_across):=⟨rfl,rfl,rfl,by decide +kernel,rfl,by decide +kernel,by decide +kernel⟩
theorem ok_law_across (T:Tx K mg):FnOk P w K mg base CX0 1 T.a_law_across T.fd_law_across ["one","other"] (spD K 2 m_law_across) :=
 fn_ok (k:=0) T.d_law_across.fn sc_law_across rfl rfl fun cdv A outer s H E hr=>by
  show PSsd _ _ b_law_across
  unfold b_law_across
  refine sd_cons (sd_set (i:=2) (pd_lstM pd_nil) (hN:=sc_law_across.nd)) ?_
  refine sd_cons (sd_for (id_rng1 (pd_cons (pd_callB cd_len T.nb_len boot_len (pd_cons (pd_var 0) pd_nil)) pd_nil) T.nb_range) (gd_name (i:=3) (hN:=sc_law_across.nd)) (sd_one (sd_for (id_rng1 (pd_cons (pd_callB cd_len T.nb_len boot_len (pd_cons (pd_var 0) pd_nil)) pd_nil) T.nb_range) (gd_name (i:=4) (hN:=sc_law_across.nd)) (sd_cons (sd_set (i:=5) (pd_tup (pd_cons (pd_ix id_seq (pd_ix id_seq (pd_var 0) (pd_var 3)) (pd_var 4)) (pd_cons (pd_ix id_seq (pd_ix id_seq (pd_var 1) (pd_var 3)) (pd_var 4)) pd_nil))) (hN:=sc_law_across.nd)) (sd_cons (sd_if (pd_cmpT (od_in (hu64 hr)) (pd_var 5) (pd_var 2)) (sd_one (sd_ret pd_bl)) sd_nil) (sd_one (sd_drop (pd_append (pd_var 2) (pd_var 5))))))))) ?_
  exact (sd_one (sd_ret pd_bl))
theorem sc_law_cuts:FnScope ["square","start","columns","signs","found","column","sign"] ["square","start","columns","signs"] (defScope s_law_cuts):=⟨rfl,rfl,rfl,by decide +kernel,rfl,by decide +kernel,by decide +kernel⟩
theorem ok_law_cuts (T:Tx K mg):∀ j:Nat,FnOk P w K mg base CX0 (1 + j) T.a_law_cuts T.fd_law_cuts ["square","start","columns","signs"] (spD K 4 (m_law_cuts j))
 | 0=>⟨fun vs H Q E h=>by obtain ⟨_,_,_,_,_,_,p⟩:=h; exact p.elim,fun A outer s H args us vs Q E hr he hb hv h=>by obtain ⟨_,_,_,_,_,_,p⟩:=h; exact p.elim⟩
 | j + 1=>fn_ok (k:=1 + j) T.d_law_cuts.fn sc_law_cuts rfl rfl fun cdv A outer s H E hr=>by
  have ih:FnOk P w K mg base CX0 (1 + j) T.a_law_cuts T.fd_law_cuts ["square","start","columns","signs"] (spD K 4 (m_law_cuts j)):=ok_law_cuts T j
  show PSsd _ _ (b_law_cuts (m_law_cuts j))
  unfold b_law_cuts
  generalize m_law_cuts j=m at ih ⊢
  refine sd_cons (sd_if (pd_cmpT od_eq (pd_var 1) (pd_callB cd_len T.nb_len boot_len (pd_cons (pd_var 0) pd_nil))) (sd_one (sd_ret (pd_lst (pd_cons (pd_var 2) pd_nil)))) sd_nil) ?_
  refine sd_cons (sd_set (i:=4) (pd_lst pd_nil) (hN:=sc_law_cuts.nd)) ?_
  refine sd_cons (sd_for (id_rng1 (pd_cons (pd_callB cd_len T.nb_len boot_len (pd_cons (pd_var 0) pd_nil)) pd_nil) T.nb_range) (gd_name (i:=5) (hN:=sc_law_cuts.nd)) (sd_cons (sd_set (i:=6) (pd_ix id_seq (pd_ix id_seq (pd_var 0) (pd_var 1)) (pd_var 5)) (hN:=sc_law_cuts.nd)) (sd_one (sd_if (PW.pt (pd_andT (pd_cmpT (od_notin (hu64 hr)) (pd_var 5) (pd_var 2)) (pd_and1 (pd_cmpT (od_notin (hu64 hr)) (pd_var 6) (pd_var 3))))) (sd_one (sd_set (i:=4) (pd_bin od_cat (pd_var 4) (pd_fn T.d_law_cuts ih (hr.mono (by omega)) (pd_cons (pd_var 0) (pd_cons (pd_bin od_add (pd_var 1) pd_int) (pd_cons (pd_bin od_catT (pd_var 2) (pd_tup (pd_cons (pd_var 5) pd_nil))) (pd_cons (pd_bin od_catT (pd_var 3) (pd_tup (pd_cons (pd_var 6) pd_nil))) pd_nil)))))) (hN:=sc_law_cuts.nd))) sd_nil)))) ?_
  exact (sd_one (sd_ret (pd_var 4)))
theorem sc_law_free:FnScope ["cut","found","one"] ["cut","found"] (defScope s_law_free):=⟨rfl,rfl,rfl,by decide +kernel,rfl,by decide +kernel,by decide +kernel⟩
theorem ok_law_free (T:Tx K mg):FnOk P w K mg base CX0 1 T.a_law_free T.fd_law_free ["cut","found"] (spD K 2 m_law_free) :=
 fn_ok (k:=0) T.d_law_free.fn sc_law_free rfl rfl fun cdv A outer s H E hr=>by
  show PSsd _ _ b_law_free
  unfold b_law_free
  refine sd_cons (sd_for (id_list (pd_var 1)) (gd_name (i:=2) (hN:=sc_law_free.nd)) (sd_one (sd_if (pd_bool (pd_callB cd_any T.nb_any boot_any (pd_cons (pd_comp (N':=["mine","own"]) (pick:=[none,none]) (CompScope.of rfl rfl) (id_zip2 (pd_cons (pd_var 0) (pd_cons (pd_var 2) pd_nil)) T.nb_zip) (fun _ _ _ _ _ _=>(gd_tup (n:=2) (gds_cons (gd_name (i:=0) (hN:=(by decide +kernel:List.Nodup (["mine","own"]:List Str)))) (gds_cons (gd_name (i:=1) (hN:=(by decide +kernel:List.Nodup (["mine","own"]:List Str)))) gds_nil)))) (fun _ _ _ _ _ _=>pifd_nil) (fun _ _ _ _ _ _=>(pd_cmp od_eq (pd_var 0) (pd_var 1)))) pd_nil))) (sd_one (sd_ret pd_bl)) sd_nil))) ?_
  exact (sd_one (sd_ret pd_bl))
theorem sc_law_apart:FnScope ["some","found","many","cut"] ["some","found","many"] (defScope s_law_apart):=⟨rfl,rfl,rfl,by decide +kernel,rfl,by decide +kernel,by decide +kernel⟩
theorem ok_law_apart (T:Tx K mg):∀ j:Nat,FnOk P w K mg base CX0 (2 + j) T.a_law_apart T.fd_law_apart ["some","found","many"] (spD K 3 (m_law_apart j))
 | 0=>⟨fun vs H Q E h=>by obtain ⟨_,_,_,_,_,_,p⟩:=h; exact p.elim,fun A outer s H args us vs Q E hr he hb hv h=>by obtain ⟨_,_,_,_,_,_,p⟩:=h; exact p.elim⟩
 | j + 1=>fn_ok (k:=2 + j) T.d_law_apart.fn sc_law_apart rfl rfl fun cdv A outer s H E hr=>by
  have ih:FnOk P w K mg base CX0 (2 + j) T.a_law_apart T.fd_law_apart ["some","found","many"] (spD K 3 (m_law_apart j)):=ok_law_apart T j
  show PSsd _ _ (b_law_apart (m_law_apart j))
  unfold b_law_apart
  generalize m_law_apart j=m at ih ⊢
  refine sd_cons (sd_if (pd_cmpT od_eq (pd_callB cd_len T.nb_len boot_len (pd_cons (pd_var 1) pd_nil)) (pd_var 2)) (sd_one (sd_ret pd_bl)) sd_nil) ?_
  refine sd_cons (sd_for (id_list (pd_var 0)) (gd_name (i:=3) (hN:=sc_law_apart.nd)) (sd_one (sd_if (PW.pt (pd_andT (pd_cmpT od_eq (pd_ix id_seq (pd_var 3) pd_int) (pd_callB cd_len T.nb_len boot_len (pd_cons (pd_var 1) pd_nil))) (pd_and1 (pd_bool (pd_fn T.d_law_free (ok_law_free T) (hr.mono (by omega)) (pd_cons (pd_var 3) (pd_cons (pd_var 1) pd_nil))))))) (sd_one (sd_if (pd_bool (pd_fn T.d_law_apart ih (hr.mono (by omega)) (pd_cons (pd_var 0) (pd_cons (pd_bin od_cat (pd_var 1) (pd_lst (pd_cons (pd_var 3) pd_nil))) (pd_cons (pd_var 2) pd_nil))))) (sd_one (sd_ret pd_bl)) sd_nil)) sd_nil))) ?_
  exact (sd_one (sd_ret pd_bl))
theorem sc_law_told:FnScope ["square","e"] ["square"] (defScope s_law_told):=⟨rfl,rfl,rfl,by decide +kernel,rfl,by decide +kernel,by decide +kernel⟩
theorem ok_law_told (T:Tx K mg):FnOk P w K mg base CX0 8 T.a_law_told T.fd_law_told ["square"] (spD K 1 m_law_told) :=
 fn_ok (k:=7) T.d_law_told.fn sc_law_told rfl rfl fun cdv A outer s H E hr=>by
  show PSsd _ _ b_law_told
  unfold b_law_told
  exact (sd_one (sd_try (T:=xcls) (i:=1) (sd_one (sd_ret (pd_fn T.d_some_across (ok_some_across T) (hr.mono (by decide)) (pd_cons (pd_var 0) pd_nil)))) (fun W pn=>(xd_here (xd_ret (xd_call T.d_some_across (okx_some_across T) (hr.mono (by decide)) (pd_cons (pd_var 0) pd_nil))))) (fun ea=>(pd_fnH T.d_law_kind_of (okH_law_kind_of T) (RoomH.held (hr.mono (by decide))) (pd_cons (pd_var 1) pd_nil))) T.gc_WebError (xw_of T.xw) (hN:=sc_law_told.nd)))
theorem sc_law:FnScope ["script","k","pot","square","found"] ["script"] (defScope s_law):=⟨rfl,rfl,rfl,by decide +kernel,rfl,by decide +kernel,by decide +kernel⟩
theorem ok_law (T:Tx K mg):FnOk P w K mg base CX0 10 T.a_law T.fd_law ["script"] (spD K 1 m_law) :=
 fn_ok (k:=9) T.d_law.fn sc_law rfl rfl fun cdv A outer s H E hr=>by
  show PSsd _ _ b_law
  unfold b_law
  refine sd_cons (sd_for (id_rng1 (pd_cons pd_int pd_nil) T.nb_range) (gd_name (i:=1) (hN:=sc_law.nd)) (sd_cons (sd_set (i:=2) (pd_fn T.d_law_pot (ok_law_pot T) (hr.mono (by decide)) (pd_cons (pd_fn T.d_law_cell_at (ok_law_cell_at T) (hr.mono (by decide)) (pd_cons (pd_var 0) (pd_cons (pd_var 1) pd_nil))) pd_nil)) (hN:=sc_law.nd)) (sd_cons (sd_set (i:=3) (pd_fn T.d_law_square (ok_law_square T) (hr.mono (by decide)) (pd_cons (pd_var 2) (pd_cons (pd_bin od_add pd_int (pd_fn T.d_law_take (ok_law_take T) (hr.mono (by decide)) (pd_cons (pd_var 2) (pd_cons (pd_ix id_seq (pd_lst (pd_ints (by kernel_rfl))) (pd_fn T.d_law_take (ok_law_take T) (hr.mono (by decide)) (pd_cons (pd_var 2) (pd_cons pd_int pd_nil)))) pd_nil)))) pd_nil))) (hN:=sc_law.nd)) (sd_cons (sd_set (i:=4) (pd_fn T.d_law_told (ok_law_told T) (hr.mono (by decide)) (pd_cons (pd_var 3) pd_nil)) (hN:=sc_law.nd)) (sd_cons (sd_if (pd_cmpT od_gt (pd_callB cd_len T.nb_len boot_len (pd_cons (pd_var 3) pd_nil)) pd_int) (sd_one (sd_if (pd_cmpT (od_nev (hu64 hr)) (pd_var 4) pd_str) (sd_one (sd_ret pd_bl)) sd_nil)) (sd_one (sd_if (pd_notT (pd_bool (pd_fn T.d_law_apart (ok_law_apart T 6) (hr.mono (by decide)) (pd_cons (pd_fn T.d_law_cuts (ok_law_cuts T 8) (hr.mono (by decide)) (pd_cons (pd_var 3) (pd_cons pd_int (pd_cons (pd_tup pd_nil) (pd_cons (pd_tup pd_nil) pd_nil))))) (pd_cons (pd_lst pd_nil) (pd_cons (pd_callB cd_len T.nb_len boot_len (pd_cons (pd_var 3) pd_nil)) pd_nil)))))) (sd_one (sd_if (pd_cmpT od_isnot (pd_var 4) pd_non) (sd_one (sd_ret pd_bl)) sd_nil)) (sd_one (sd_if (PW.pt (pd_orT (pd_notT (pd_bool (pd_fn T.d_law_is_square (ok_law_is_square T) (hr.mono (by decide)) (pd_cons (pd_var 4) pd_nil)))) (pd_orT (pd_cmpT od_ne (pd_callB cd_len T.nb_len boot_len (pd_cons (pd_var 4) pd_nil)) (pd_callB cd_len T.nb_len boot_len (pd_cons (pd_var 3) pd_nil))) (pd_or1 (pd_notT (pd_bool (pd_fn T.d_law_across (ok_law_across T) (hr.mono (by decide)) (pd_cons (pd_var 3) (pd_cons (pd_var 4) pd_nil))))))))) (sd_one (sd_ret pd_bl)) sd_nil))))) (sd_one (sd_if (pd_cmpT (od_nev (hu64 hr)) (pd_fn T.d_law_told (ok_law_told T) (hr.mono (by decide)) (pd_cons (pd_var 3) pd_nil)) (pd_var 4)) (sd_one (sd_ret pd_bl)) sd_nil))))))) ?_
  exact (sd_one (sd_ret pd_bl))
end
end Ev
namespace Ev
open PySem L2
theorem seq_ok {s t:Ev→List Cell→R Fl} {e e':Ev} {c c':List Cell} (h:s e c=.ok (.nx e') c'):sSeq s t e c=t e' c':=by rw [x_seq,h]; rfl
theorem nat_of {i:Int} (h:0≤i):∃ n:Nat,i=n:=⟨i.toNat,by omega⟩
theorem for_invI {g:Gd} {s:Ev→List Cell→R Fl} (inv:Nat→Ev→List Cell→Prop):∀ (items:List D) (k:Nat) (e:Ev) (c:List Cell),inv k e c →
  (∀ i x,items[i]? = some x→∀ e c,inv (k + i) e c→∃ e' e'' c' c'',g x e c=.ok e' c'∧s e' c'=.ok (.nx e'') c''∧inv (k + i + 1) e'' c'') →
  ∃ e' c',inv (k + items.length) e' c'∧forD (fun _=>True) g s items e c=.ok (.nx e') c'
 | [],k,e,c,hi,_=>⟨e,c,hi,by simp⟩
 | x :: xs,k,e,c,hi,h=>by
  obtain ⟨e',e'',c',c'',h1,h2,h3⟩:=h 0 x rfl e c hi
  obtain ⟨e3,c3,i3,h4⟩:=for_invI inv xs (k + 1) e'' c'' h3 fun i y hy e c hi=>by
   have:=h (i + 1) y (by simpa using hy) e c (by rwa [show k + (i + 1)=k + 1 + i by omega])
   rwa [show k + (i + 1) + 1=k + 1 + i + 1 by omega] at this
  exact ⟨e3,c3,by rwa [List.length_cons,show k + (xs.length + 1)=k + 1 + xs.length by omega],by rw [for_cons,h1,R.bind_ok,h2]; exact h4⟩
noncomputable def Pot (j:Nat) (n:Nat) (c:List Cell):Prop:=c.length=n∧j < n∧∃ p:Int,c[j]? = some (.lst [.int p])
theorem Pot.set {j n:Nat} {c:List Cell} (h:Pot j n c) (p:Int):Pot j n (c.set j (.lst [.int p])):=by
 obtain ⟨h1,h2,_⟩:=h
 exact ⟨by simp [h1],h2,p,by rw [List.getElem?_set_self (by omega)]⟩
theorem take_ok {j n:Nat} {c:List Cell} {far:Int} (h:Pot j n c) (h0:0 < far) (h1:far < 1073741824) :
  ∃ (x:Int) (c':List Cell),0≤x∧x < far∧Pot j n c'∧m_law_take [.ref j,.int far] c=.ok (.int x) c':=by
 obtain ⟨hl,hj,p,hp⟩:=id h
 refine ⟨p % far,c.set j (.lst [.int (p / far)]),Int.emod_nonneg _ (by omega),Int.emod_lt_of_pos _ h0,h.set _,?_⟩
 have e1:ixD (.ref j) (.int 0) c=.ok (.int p) c:=by
  unfold ixD seqD
  simp [hp]
 have e2:setD (.ref j) (.int 0) (.int (p / far)) c=.ok () (c.set j (.lst [.int (p / far)])):=by
  unfold setD
  simp [hp,ixN]
 have e3:(c.set j (.lst [.int (p / far)])).take c.length=c.set j (.lst [.int (p / far)]):=by
  rw [List.take_of_length_le]; simp
 simp (disch:=omega) [m_law_take,b_law_take,e1,mod_c,div_c,e2,e3]
theorem pot_ok (cell:Int) (c:List Cell):∃ p:Int,m_law_pot [.int cell] c=.ok (.ref c.length) (c ++ [.lst [.int p]]):=by
 by_cases h:10 ^ 18≤cell
 ·refine ⟨cell - 10 ^ 18,?_⟩
  simp (disch:=omega) [m_law_pot,b_law_pot,pow_c,h]
  rw [if_pos (by simpa using h)]
  simp [exitD]
 ·obtain ⟨e',c',⟨⟨q,v1,v2,rfl⟩,rfl⟩,hf⟩:=for_inv (g:=gdName 2) (s:=(sSeq (sSet 3 (dBin modD (dBin mulD (dBin addD (dBin addD (dBin modD (dVar 0) (dC (.int 2147483629))) (dBin mulD (dC (.int 7919)) (dVar 2))) (dC (.int 1))) (dC (.int 48271))) (dC (.int 2147483647)))) (sSeq (sSet 3 (dBin modD (dBin addD (dBin addD (dBin mulD (dVar 3) (dVar 3)) (dBin mulD (dC (.int 69621)) (dVar 2))) (dC (.int 7))) (dC (.int 2147483587)))) (sSet 1 (dBin addD (dBin mulD (dVar 1) (dC (.int 2147483587))) (dVar 3))))))
   (fun e c'=>(∃ q v1 v2,e=[some (.int cell),some (.int q),v1,v2])∧c'=c) (rngD 0 64) [some (.int cell),some (.int 0),none,none] c ⟨⟨0,none,none,rfl⟩,rfl⟩ (fun x hx e c' ⟨⟨q,v1,v2,he⟩,hc⟩=>by
    obtain ⟨i,rfl,i0,i1⟩:=mem_rng hx
    subst he; subst hc
    have b0:0≤(cell % 2147483629 + 7919 * i + 1) * 48271 % 2147483647:=Int.emod_nonneg _ (by decide)
    have b1:(cell % 2147483629 + 7919 * i + 1) * 48271 % 2147483647 < 2147483647:=Int.emod_lt_of_pos _ (by decide)
    generalize hm:(cell % 2147483629 + 7919 * i + 1) * 48271 % 2147483647=m at b0 b1
    refine ⟨_,[some (.int cell),some (.int (q * 2147483587 + (m * m + 69621 * i + 7) % 2147483587)),some (.int i),some (.int ((m * m + 69621 * i + 7) % 2147483587))],_,_,rfl,by simp (disch:=omega) [mod_c,mul_l,mul_r,hm],⟨⟨_,_,_,rfl⟩,rfl⟩⟩)
  refine ⟨q,?_⟩
  have hh:¬ (1000000000000000000≤cell):=by simpa using h
  simp (disch:=omega) [m_law_pot,b_law_pot,pow_c,hh]
  rw [hf]
  simp [exitD]
theorem cell_ok (ns:List Int) (k:Int) (h:0≤k) (c:List Cell):∃ x:Int,m_law_cell_at [.scr ns,.int k] c=.ok (.int x) c:=by
 by_cases q:k < ns.length
 ·have hk:k.toNat < ns.length:=by omega
  refine ⟨ns[k.toNat],?_⟩
  have e:ixD (.scr ns) (.int k) c=.ok (.int ns[k.toNat]) c:=by
   show (match atI (ns.map D.int) k with | some d=>R.ok d c | none=>R.bad)=_
   have:atI (ns.map D.int) k=some (.int ns[k.toNat]):=by
    have:=atI_nat (xs:=ns.map D.int) (j:=k.toNat) (v:=.int ns[k.toNat]) (by simp [hk])
    rw [Int.toNat_of_nonneg h] at this
    exact this
   rw [this]
  simp [m_law_cell_at,b_law_cell_at,q,e]
 ·exact ⟨0,by simp [m_law_cell_at,b_law_cell_at,q]⟩
theorem take2 {j:Nat} {c:List Cell} {p far:Int} (hp:c[j]? = some (.lst [.int p])) (h0:0 < far) (h1:far < 1073741824):m_law_take [.ref j,.int far] c=.ok (.int (p % far)) (c.set j (.lst [.int (p / far)])):=by
 have hj:j < c.length:=(List.getElem?_eq_some_iff.mp hp).1
 have e1:ixD (.ref j) (.int 0) c=.ok (.int p) c:=by
  unfold ixD seqD
  simp [hp]
 have e2:setD (.ref j) (.int 0) (.int (p / far)) c=.ok () (c.set j (.lst [.int (p / far)])):=by
  unfold setD
  simp [hp,ixN]
 have e3:(c.set j (.lst [.int (p / far)])).take c.length=c.set j (.lst [.int (p / far)]):=by
  rw [List.take_of_length_le]; simp
 simp (disch:=omega) [m_law_take,b_law_take,e1,mod_c,div_c,e2,e3]
theorem filt_true (l:List D):l.filter (fun _=>true)=l:=by simp
theorem rng_map {β:Type} (m:Nat) (F:D→β):(rngD 0 (m:Int)).map F=(List.range m).map fun i:Nat=>F (.int (i:Int)):=by
 unfold rngD
 rw [List.map_map,show ((m:Int) - 0).toNat=m by omega]
 refine List.map_congr_left fun i _=>?_
 simp
noncomputable def PO (j n:Nat) (os:List Nat) (c:List Cell):Prop:=c.length=n + 1∧j < n∧(∃ p:Int,c[j]? = some (.lst [.int p]))∧c[n]? = some (.lst (nD os))
noncomputable def opE:Ev→List Cell→R D:=(dPop (dVar 1) (dCall 2 m_law_take (dCons (dVar 2) (dCons (dCB lenD (dCons (dVar 1) dNil)) dNil))))
theorem nD_erase (l:List Nat) (i:Nat):(nD l).eraseIdx i=nD (l.eraseIdx i):=by
 rw [List.eraseIdx_eq_take_drop_succ,List.eraseIdx_eq_take_drop_succ]
 simp [nD,List.map_take,List.map_drop]
theorem erase_perm {l:List Nat} {i:Nat} (h:i < l.length):l.Perm (l[i] :: l.eraseIdx i):=by
 have e:l.take i ++ l[i] :: l.drop (i + 1)=l:=by rw [← List.drop_eq_getElem_cons h,List.take_append_drop]
 rw [List.eraseIdx_eq_take_drop_succ]
 have p:(l.take i ++ l[i] :: l.drop (i + 1)).Perm (l[i] :: (l.take i ++ l.drop (i + 1))):=List.perm_middle
 rwa [e] at p
theorem op_step {j n:Nat} {left:List Nat} {c:List Cell} {v:Option D} (hP:PO j n left c) (h1:0 < left.length) (h2:left.length < 1000) :
  ∃ (x:Nat) (rest:List Nat) (c':List Cell),left.Perm (x :: rest)∧PO j n rest c'∧(∀ k,k≠j→k < n→c'[k]? = c[k]?)∧opE [v,some (.ref n),some (.ref j)] c=.ok (.int (x:Int)) c':=by
 obtain ⟨g1,g2,⟨p,g3⟩,g4⟩:=hP
 have ht:=take2 (far:=(left.length:Int)) g3 (by omega) (by omega)
 have x0:=Int.emod_nonneg p (show (left.length:Int)≠0 by omega)
 have x1:=Int.emod_lt_of_pos p (show (0:Int) < (left.length:Int) by omega)
 generalize p % (left.length:Int)=x at ht x0 x1
 obtain ⟨i,rfl⟩:=nat_of x0
 generalize hc1:c.set j (.lst [.int (p / (left.length:Int))])=c1 at ht
 have l1:c1.length=n + 1:=by rw [← hc1]; simp [g1]
 have q1:c1[n]? = some (.lst (nD left)):=by rw [← hc1,List.getElem?_set_ne (by omega)]; exact g4
 have q0:c1[j]? = some (.lst [.int (p / (left.length:Int))]):=by rw [← hc1,List.getElem?_set_self (by omega)]
 have hi:i < left.length:=by omega
 have hlen:lenD [.ref n] c=.ok (.int (left.length:Int)) c:=by
  unfold lenD
  dsimp only [seqD]
  rw [g4]
  simp [nD]
 have hget:(nD left)[i]? = some (.int (left[i]:Nat)):=by simp [nD,hi]
 refine ⟨left[i],left.eraseIdx i,c1.set n (.lst (nD (left.eraseIdx i))),erase_perm hi,⟨by simp [l1],g2,⟨_,by rw [List.getElem?_set_ne (by omega)]; exact q0⟩,by rw [List.getElem?_set_self (by omega)]⟩,fun k k1 k2=>by rw [List.getElem?_set_ne (by omega),← hc1,List.getElem?_set_ne (by omega)],?_⟩
 unfold opE dPop
 simp only [x_var,gz,gs,R.bind_ok,x_call,x_cons,x_cb,x_nil,hlen,List.length_cons,List.length_nil,if_pos,ht,q1]
 rw [if_pos ⟨by omega,by rw [show (nD left).length=left.length by simp [nD]]; omega,by rw [show (nD left).length=left.length by simp [nD]]; omega⟩,Int.toNat_natCast,hget]
 dsimp only
 rw [nD_erase]
theorem op_comp {j n:Nat}:∀ (ks:List D) (v:Option D) (acc:List D) (left:List Nat) (c:List Cell),left.length=ks.length→left.length < 1000→PO j n left c →
  ∃ (os:List Nat) (c':List Cell),os.Perm left∧PO j n [] c'∧(∀ k,k≠j→k < n→c'[k]? = c[k]?)∧compD (fun _=>True) (gdName 0) dYes opE ks [v,some (.ref n),some (.ref j)] acc c=.ok (acc ++ nD os) c'
 | [],v,acc,left,c,hl,_,hP=>by
  have:left=[]:=List.length_eq_zero_iff.mp (by simpa using hl)
  subst this
  exact ⟨[],c,.refl _,hP,fun _ _ _=>rfl,by simp [nD]⟩
 | k :: ks,v,acc,left,c,hl,h2,hP=>by
  rw [List.length_cons] at hl
  obtain ⟨x,rest,c1,hp,P1,f1,h1⟩:=op_step (v:=some k) hP (by omega) h2
  have hr:rest.length + 1=left.length:=by have:=hp.length_eq; simpa using this.symm
  obtain ⟨os,c2,hp2,P2,f2,h⟩:=op_comp ks (some k) (acc ++ [.int (x:Int)]) rest c1 (by omega) (by omega) P1
  refine ⟨x :: os,c2,(hp2.cons x).trans hp.symm,P2,fun k k1 k2=>(f2 k k1 k2).trans (f1 k k1 k2),?_⟩
  have e1:gdName 0 k [v,some (.ref n),some (.ref j)] c=.ok [some k,some (.ref n),some (.ref j)] c:=rfl
  rw [comp_cons,e1,R.bind_ok,x_yes,R.bind_ok,if_pos rfl,h1,R.bind_ok,h,List.append_assoc]
  rfl
theorem or0_gen {j:Nat} {q:Int} {c:List Cell} (b:0 < q∧q < 1000):(sSet 2 (dLRng1M (dCons (dVar 1) dNil))) [some (.ref j),some (.int q),none] c=.ok (.nx [some (.ref j),some (.int q),some (.ref c.length)]) (c ++ [.lst ((rngI 0 q).map D.int)]):=by
 simp only [x_set,x_lrng1M,x_cons,x_var,gz,gs,x_nil,R.bind_ok]
 rw [if_pos b]
 rfl
theorem or1_gen {j n:Nat} {q:Int} {l:List D} {c c':List Cell} (b:-4611686018427387904≤q∧q < 4611686018427387904) (hl:(rngD 0 q).length < sizeLine) (hc:compD (fun _=>True) (gdName 0) dYes opE (rngD 0 q) [none,some (.ref n),some (.ref j)] [] c=.ok l c'):(sRet (dCB tupleD (dCons (dComp (dRng1 (dCons (dVar 1) dNil)) [none,some 2,some 0] (gdName 0) dYes (dPop (dVar 1) (dCall 2 m_law_take (dCons (dVar 2) (dCons (dCB lenD (dCons (dVar 1) dNil)) dNil))))) dNil))) [some (.ref j),some (.int q),some (.ref n)] c=.ok (.rt (.tup l)) c':=by
 have hp:pickD [none,some 2,some 0] [some (.ref j),some (.int q),some (.ref n)]=[none,some (.ref n),some (.ref j)]:=rfl
 unfold opE at hc
 simp only [x_ret,x_cb,x_cons,x_comp,x_rng1,x_var,gz,gs,x_nil,R.bind_ok]
 rw [if_pos (by omega)]
 simp only [R.bind_ok]
 rw [if_pos hl,hp,hc]
 rfl
theorem rngI_map (m:Nat):rngI 0 (m:Int)=(List.range m).map fun k:Nat=>(k:Int):=by
 unfold rngI
 rw [show ((m:Int) - 0).toNat=m by omega]
 refine List.map_congr_left fun k _=>?_
 omega
theorem order_f {j n m:Nat} {c:List Cell} (hP:Pot j n c) (h1:1≤m) (hm:m < 1000):∃ os c',os.Perm (List.range m)∧Pot j n c'∧(∀ k,k≠j→k < n→c'[k]? = c[k]?)∧m_law_order [.ref j,.int (m:Int)] c=.ok (.tup (nD os)) c':=by
 have hs:=small_line (n:=1000) (by decide)
 obtain ⟨hl,hj,p,hp⟩:=hP
 have e0:=or0_gen (j:=j) (q:=(m:Int)) (c:=c) (by omega)
 have hr:(rngI 0 (m:Int)).map D.int=nD (List.range m):=by rw [rngI_map]; simp [nD]
 rw [hr] at e0
 have P0:PO j n (List.range m) (c ++ [.lst (nD (List.range m))]):=⟨by simp [hl],hj,⟨p,by rw [List.getElem?_append_left (by omega)]; exact hp⟩,by rw [List.getElem?_append_right (by omega),hl]; simp⟩
 obtain ⟨os,c2,ho,P2,f2,hc⟩:=op_comp (rngD 0 (m:Int)) none [] (List.range m) _ (by rw [rng_len,List.length_range]; omega) (by rw [List.length_range]; omega) P0
 rw [List.nil_append] at hc
 have e1:=or1_gen (q:=(m:Int)) (by omega) (by rw [rng_len]; omega) hc
 have hb:b_law_order=sSeq (sSet 2 (dLRng1M (dCons (dVar 1) dNil))) (sRet (dCB tupleD (dCons (dComp (dRng1 (dCons (dVar 1) dNil)) [none,some 2,some 0] (gdName 0) dYes (dPop (dVar 1) (dCall 2 m_law_take (dCons (dVar 2) (dCons (dCB lenD (dCons (dVar 1) dNil)) dNil))))) dNil))):=rfl
 have es:startD 3 [D.ref j,.int (m:Int)]=[some (.ref j),some (.int (m:Int)),none]:=rfl
 obtain ⟨l3,_,⟨p3,q3⟩,_⟩:=P2
 refine ⟨os,c2.take n,ho,⟨by rw [List.length_take]; omega,hj,p3,by rw [List.getElem?_take_of_lt hj]; exact q3⟩,fun k k1 k2=>by rw [List.getElem?_take_of_lt k2,f2 k k1 k2,List.getElem?_append_left (by omega)],?_⟩
 rw [hl] at e0
 rw [m_law_order,x_fn,hb,es,seq_ok e0,e1]
 simp only [R.bind_ok]
 rw [q_tup,if_pos (noRefs_nD os),hl]
theorem order_ok {j n m:Nat} {c:List Cell} (hP:Pot j n c) (h1:1≤m) (hm:m < 1000):∃ os c',os.Perm (List.range m)∧Pot j n c'∧m_law_order [.ref j,.int (m:Int)] c=.ok (.tup (nD os)) c' :=
 let ⟨os,c',h1,h2,_,h3⟩:=order_f hP h1 hm
 ⟨os,c',h1,h2,h3⟩
end Ev
namespace Ev
open PySem L2
theorem seq_rt {s t:Ev→List Cell→R Fl} {e:Ev} {c c':List Cell} {d:D} (h:s e c=.ok (.rt d) c'):sSeq s t e c=.ok (.rt d) c':=by
 rw [x_seq,h]
 rfl
noncomputable def It (d:D):Prop:=(∃ i:Int,d=.int i)∨d=.bl true
noncomputable def plI (q:Int):D→Bool
 | .int i=>decide (0≤i) && decide (i≤q - 1)
 | _=>false
noncomputable def isI:D→Bool
 | .int _=>true
 | _=>false
theorem whole_it {d:D} (h:It d) (c:List Cell):m_is_whole [d] c=.ok (.bl (isI d)) c:=by
 rcases h with ⟨i,rfl⟩ | rfl <;> simp [m_is_whole,b_is_whole,isI]
theorem isI_false {d:D} (h:isI d=false) (q:Int):plI q d=false:=by
 cases d <;> first | (cases h; done) | rfl
theorem isI_true {d:D} (h:isI d=true):∃ i,d=.int i:=by
 cases d <;> first | (cases h; done) | exact ⟨_,rfl⟩
theorem within_it {d:D} (h:It d) (q:Int) (c:List Cell):m_is_whole_within [d,.int 0,.int (q - 1)] c=.ok (.bl (plI q d)) c:=by
 have hw:=whole_it h c
 cases hi:isI d with
 | false =>
  rw [hi] at hw
  rw [isI_false hi]
  simp [m_is_whole_within,b_is_whole_within,hw]
 | true =>
  obtain ⟨i,rfl⟩:=isI_true hi
  rw [hi] at hw
  by_cases q0:0≤i <;> simp [m_is_whole_within,b_is_whole_within,hw,plI,q0]
theorem all_comp {a:Ev→List Cell→R D} {T:D} {q:Int} {c:List Cell} (ha:∀ d,It d→a [some d,some T] c=.ok (.bl (plI q d)) c):∀ (l:List D) (v:Option D) (acc:List D),(∀ d∈l,It d)→compD (fun _=>True) (gdName 0) dYes a l [v,some T] acc c=.ok (acc ++ (l.map (plI q)).map D.bl) c
 | [],v,acc,_=>by simp
 | d :: l,v,acc,h=>by
  have h1:gdName 0 d [v,some T] c=.ok [some d,some T] c:=rfl
  rw [comp_cons,h1,R.bind_ok,x_yes,R.bind_ok,if_pos rfl,ha d (h d (.head _)),R.bind_ok,all_comp ha l _ _ (fun z hz=>h z (.tail _ hz)),List.append_assoc]
  rfl
theorem all_id (l:List Bool) (c:List Cell):allD [.lst (l.map D.bl)] c=.ok (.bl (l.all id)) c:=by
 unfold allD quantD
 dsimp only
 rw [blsD_map]
theorem perm_sub:∀ {A B:List Nat},A.Nodup→(∀ x∈A,x∈B)→A.length=B.length→A.Perm B
 | [],B,_,_,hl=>by
  have:B=[]:=List.length_eq_zero_iff.mp (by simpa using hl.symm)
  subst this; exact .refl _
 | a :: A,B,hn,hs,hl=>by
  obtain ⟨h1,h2⟩:=List.nodup_cons.mp hn
  have ha:=hs a (.head _)
  have hp:=List.perm_cons_erase ha
  have he:(B.erase a).length=B.length - 1:=List.length_erase_of_mem ha
  have ih:=perm_sub (A:=A) (B:=B.erase a) h2 (fun x hx=>(List.mem_erase_of_ne (fun e:x=a=>h1 (by rw [← e]; exact hx))).mpr (hs x (.tail _ hx))) (by rw [he]; rw [List.length_cons] at hl; omega)
  exact (ih.cons a).trans hp.symm
theorem ssort_perm {ps:List Nat} {m:Nat} (hl:ps.length=m) (hm:∀ p∈ps,p < m):(ssort ps).length=m↔ps.Perm (List.range m):=by
 have hn:=nd_up (up_ssort ps)
 constructor
 ·intro h
  have h1:(ssort ps).Perm ps:=perm_sub hn (fun x hx=>mem_ssort.mp hx) (by omega)
  have h2:(ssort ps).Perm (List.range m):=perm_sub hn (fun x hx=>List.mem_range.mpr (hm x (mem_ssort.mp hx))) (by rw [List.length_range]; exact h)
  exact h1.symm.trans h2
 ·intro h
  have hd:ps.Nodup:=h.nodup_iff.mpr List.nodup_range
  have h1:ps.Perm (ssort ps):=(List.perm_ext_iff_of_nodup hd hn).mpr fun x=>mem_ssort.symm
  rw [← h1.length_eq,hl]
theorem nD_ints (ps:List Nat):nD ps=(ps.map fun k:Nat=>(k:Int)).map D.int:=by simp [nD]
theorem castI_inj:∀ {ps qs:List Nat},ps.map (fun k:Nat=>(k:Int))=qs.map (fun k:Nat=>(k:Int))→ps=qs
 | [],[],_=>rfl
 | [],q :: qs,h=>by simp at h
 | p :: ps,[],h=>by simp at h
 | p :: ps,q :: qs,h=>by
  rw [List.map_cons,List.map_cons] at h
  obtain ⟨h1,h2⟩:=List.cons.inj h
  rw [castI_inj h2,show p=q by omega]
theorem intD_inj:∀ {a b:List Int},a.map D.int=b.map D.int→a=b
 | [],[],_=>rfl
 | [],y :: b,h=>by simp at h
 | x :: a,[],h=>by simp at h
 | x :: a,y :: b,h=>by
  rw [List.map_cons,List.map_cons] at h
  obtain ⟨h1,h2⟩:=List.cons.inj h
  cases h1
  rw [intD_inj h2]
theorem nD_inj {ps qs:List Nat} (h:nD ps=nD qs):ps=qs:=by
 rw [nD_ints,nD_ints] at h
 exact castI_inj (intD_inj h)
theorem all_pl {m:Nat}:∀ {xs:List D},(xs.map (plI (m:Int))).all id=true→∃ ps:List Nat,xs=nD ps∧∀ p∈ps,p < m
 | [],_=>⟨[],rfl,fun p hp=>(by cases hp)⟩
 | d :: xs,h=>by
  rw [List.map_cons,List.all_cons,Bool.and_eq_true] at h
  obtain ⟨ps,rfl,hp⟩:=all_pl h.2
  have hd:plI (m:Int) d=true:=h.1
  cases d with
  | int i =>
   simp only [plI,Bool.and_eq_true,decide_eq_true_eq] at hd
   obtain ⟨k,rfl⟩:=nat_of hd.1
   exact ⟨k :: ps,rfl,fun p hp'=>by
    rcases List.mem_cons.mp hp' with rfl | h'
    ·omega
    ·exact hp p h'⟩
  | _=>cases hd
theorem pl_all {m:Nat}:∀ {ps:List Nat},(∀ p∈ps,p < m)→((nD ps).map (plI (m:Int))).all id=true
 | [],_=>rfl
 | p :: ps,h=>by
  have h1:=pl_all (ps:=ps) fun q hq=>h q (.tail _ hq)
  have h2:=h p (.head _)
  show (plI (m:Int) (.int (p:Int)) && ((nD ps).map (plI (m:Int))).all id)=true
  rw [h1]
  simp [plI]; omega
noncomputable def OrdP (m:Nat) (xs:List D):Prop:=∃ ps:List Nat,xs=nD ps∧ps.Perm (List.range m)
theorem io0_no {xs:List D} {q:Int} (h:¬ (xs.length:Int)=q) (c:List Cell):(sIf (dOrT (dNotT (dBl (dCB isiD (dCons (dVar 0) (dCons (dC (.ty "tuple")) dNil))))) (dBl (dBin neD (dCB lenD (dCons (dVar 0) dNil)) (dVar 1)))) (sRet (dC (.bl false))) sNext) [some (.tup xs),some (.int q)] c=.ok (.rt (.bl false)) c:=by
 simp [h]
theorem io0_yes {xs:List D} {q:Int} (h:(xs.length:Int)=q) (c:List Cell):(sIf (dOrT (dNotT (dBl (dCB isiD (dCons (dVar 0) (dCons (dC (.ty "tuple")) dNil))))) (dBl (dBin neD (dCB lenD (dCons (dVar 0) dNil)) (dVar 1)))) (sRet (dC (.bl false))) sNext) [some (.tup xs),some (.int q)] c=.ok (.nx [some (.tup xs),some (.int q)]) c:=by
 simp [h]
theorem io1_gen {xs:List D} {q:Int} {l:List Bool} {ps:List Nat} {n:Int} {c:List Cell} (hl:xs.length < sizeLine) (hc:compD (fun _=>True) (gdName 0) dYes (dCall 3 m_is_whole_within (dCons (dVar 0) (dCons (dC (.int 0)) (dCons (dBin subD (dVar 1) (dC (.int 1))) dNil)))) xs [none,some (.int q)] [] c=.ok (l.map D.bl) c) (hs:l.all id=true→natsC c (.tup xs)=some ps) (hn:((ssort ps).length:Int)=n) :
  (sRet (dAndV (dCB allD (dCons (dComp (dSeqT (dVar 0)) [none,some 1] (gdName 0) dYes (dCall 3 m_is_whole_within (dCons (dVar 0) (dCons (dC (.int 0)) (dCons (dBin subD (dVar 1) (dC (.int 1))) dNil))))) dNil)) (dBin eqD (dLenSetN (dCons (dVar 0) dNil)) (dVar 1)))) [some (.tup xs),some (.int q)] c=.ok (.rt (.bl (l.all id && decide (n=q)))) c:=by
 have hp:pickD [none,some 1] [some (D.tup xs),some (.int q)]=[none,some (.int q)]:=rfl
 simp only [x_ret,x_andV,x_cb,x_cons,x_comp,x_seqT,x_var,gz,gs,x_nil,R.bind_ok]
 rw [if_pos hl,hp,hc]
 simp only [R.bind_ok,all_id]
 cases hA:l.all id with
 | false=>simp
 | true =>
  have h2:=hs hA
  simp only [if_true,x_bin,R.bind_ok,x_var,gz,gs]
  unfold dLenSetN
  simp only [x_cons,x_var,gz,x_nil,R.bind_ok,h2,hn,x_eqi,Bool.true_and]
theorem holds_is {m:Nat} (hm:m < 60) {xs:List D} (hx:∀ d∈xs,It d) (hl:xs.length≤20) (c:List Cell):∃ b,m_holds_each_once [.tup xs,.int (m:Int)] c=.ok (.bl b) c∧(b=true↔OrdP m xs):=by
 have hs:=small_line (n:=1000) (by decide)
 have hb:b_holds_each_once=sSeq (sIf (dOrT (dNotT (dBl (dCB isiD (dCons (dVar 0) (dCons (dC (.ty "tuple")) dNil))))) (dBl (dBin neD (dCB lenD (dCons (dVar 0) dNil)) (dVar 1)))) (sRet (dC (.bl false))) sNext) (sRet (dAndV (dCB allD (dCons (dComp (dSeqT (dVar 0)) [none,some 1] (gdName 0) dYes (dCall 3 m_is_whole_within (dCons (dVar 0) (dCons (dC (.int 0)) (dCons (dBin subD (dVar 1) (dC (.int 1))) dNil))))) dNil)) (dBin eqD (dLenSetN (dCons (dVar 0) dNil)) (dVar 1)))):=rfl
 have es:∀ q:Int,startD 2 [.tup xs,.int q]=[some (.tup xs),some (.int q)]:=fun _=>rfl
 by_cases h1:(xs.length:Int)=(m:Int)
 ·have hc:=all_comp (a:=(dCall 3 m_is_whole_within (dCons (dVar 0) (dCons (dC (.int 0)) (dCons (dBin subD (dVar 1) (dC (.int 1))) dNil))))) (T:=.int (m:Int)) (q:=(m:Int)) (c:=c) (fun d h=>by
   have:=within_it h (m:Int) c
   generalize (m:Int)=q at *
   simp [this]) xs none [] hx
  rw [List.nil_append] at hc
  have hfin:∀ {l:List Bool} {n:Int},(sRet (dAndV (dCB allD (dCons (dComp (dSeqT (dVar 0)) [none,some 1] (gdName 0) dYes (dCall 3 m_is_whole_within (dCons (dVar 0) (dCons (dC (.int 0)) (dCons (dBin subD (dVar 1) (dC (.int 1))) dNil))))) dNil)) (dBin eqD (dLenSetN (dCons (dVar 0) dNil)) (dVar 1)))) [some (.tup xs),some (.int (m:Int))] c=.ok (.rt (.bl (l.all id && decide (n=(m:Int))))) c→m_holds_each_once [.tup xs,.int (m:Int)] c=.ok (.bl (l.all id && decide (n=(m:Int)))) c:=fun {l n} h=>by
   rw [m_holds_each_once,x_fn,hb,es,seq_ok (io0_yes h1 c),h]
   generalize (l.all id && decide (n=(m:Int)))=z
   simp
  cases hA:(xs.map (plI (m:Int))).all id with
  | false =>
   have h:=hfin (io1_gen (ps:=[]) (n:=0) (by omega) hc (fun h=>by rw [hA] at h; cases h) rfl)
   refine ⟨_,h,?_⟩
   rw [hA,Bool.false_and]
   refine ⟨fun h=>(by cases h),fun ⟨ps,e,hp⟩=>?_⟩
   subst e
   rw [pl_all fun p hp'=>List.mem_range.mp (hp.mem_iff.mp hp')] at hA
   exact hA.symm
  | true =>
   obtain ⟨ps,rfl,hp⟩:=all_pl hA
   have hpl:ps.length=m:=by
    have:(nD ps).length=ps.length:=by simp [nD]
    omega
   have h64:(ssort ps).length < 64:=by
    have:=nd_len (nd_up (up_ssort ps)) (fun x hx=>mem_ssort.mp hx)
    omega
   have hN:natsC c (.tup (nD ps))=some ps:=natsD_nD h64 fun x hx=>by have:=hp x hx; omega
   have h:=hfin (io1_gen (ps:=ps) (n:=((ssort ps).length:Int)) (by omega) hc (fun _=>hN) rfl)
   refine ⟨_,h,?_⟩
   rw [hA,Bool.true_and,decide_eq_true_eq]
   have hk:=ssort_perm hpl hp
   refine ⟨fun h=>⟨ps,rfl,hk.mp (by omega)⟩,fun ⟨qs,e,hq⟩=>?_⟩
   cases nD_inj e
   have:=hk.mpr hq
   omega
 ·refine ⟨false,?_,fun h=>(by cases h),fun ⟨ps,e,hp⟩=>?_⟩
  ·rw [m_holds_each_once,x_fn,hb,es,seq_rt (io0_no h1 c)]
   simp
  ·subst e
   have:=hp.length_eq
   rw [List.length_range] at this
   exact absurd (by simp [nD,this]) h1
noncomputable def sqD (n:Nat) (s:Nat→Nat→Nat):D:=.tup ((List.range n).map fun i=>.tup (nD ((List.range n).map (s i))))
structure Latin (n:Nat) (s:Nat→Nat→Nat):Prop where
 row:∀ i,i < n→((List.range n).map (s i)).Perm (List.range n)
 col:∀ k,k < n→((List.range n).map fun i=>s i k).Perm (List.range n)
theorem it_nD {ps:List Nat}:∀ d∈nD ps,It d:=fun d hd=>by
 obtain ⟨k,_,rfl⟩:=List.mem_map.mp hd
 exact .inl ⟨_,rfl⟩
theorem holds_yes {n:Nat} (hn:n < 18) {ps:List Nat} (hp:ps.Perm (List.range n)) (c:List Cell):m_holds_each_once [.tup (nD ps),.int (n:Int)] c=.ok (.bl true) c:=by
 have hl:ps.length=n:=by have:=hp.length_eq; simpa using this
 obtain ⟨b,h,i⟩:=holds_is (m:=n) (by omega) (xs:=nD ps) it_nD (by simp [nD,hl]; omega) c
 have:b=true:=i.mpr ⟨ps,rfl,hp⟩
 rw [this] at h
 exact h
theorem col_comp {n k:Nat} (s:Nat→Nat→Nat) (hk:k < n) (c:List Cell):∀ (l:List Nat) (v:Option D) (acc:List D),compD (fun _=>True) (gdName 0) dYes (dBin ixD (dVar 0) (dVar 1)) (l.map fun i=>.tup (nD ((List.range n).map (s i)))) [v,some (.int (k:Int))] acc c=.ok (acc ++ nD (l.map fun i=>s i k)) c
 | [],v,acc=>by simp [nD]
 | i :: l,v,acc=>by
  have h1:gdName 0 (.tup (nD ((List.range n).map (s i)))) [v,some (.int (k:Int))] c=.ok [some (.tup (nD ((List.range n).map (s i)))),some (.int (k:Int))] c:=rfl
  have h2:ixD (.tup (nD ((List.range n).map (s i)))) (.int (k:Int)) c=.ok (.int (s i k:Nat)) c:=by
   rw [x_ixT,atI_nat (v:=.int (s i k:Nat)) (by simp [nD,hk])]
  have hE:(dBin ixD (dVar 0) (dVar 1)) [some (.tup (nD ((List.range n).map (s i)))),some (.int (k:Int))] c=.ok (.int (s i k:Nat)) c:=by
   generalize D.tup (nD ((List.range n).map (s i)))=T at *
   simp only [x_bin,x_var,gz,gs,R.bind_ok,h2]
  rw [List.map_cons,comp_cons,h1,R.bind_ok,x_yes,R.bind_ok,if_pos rfl,hE,R.bind_ok,col_comp s hk c l,List.append_assoc]
  rfl
theorem column_ok {n k:Nat} (s:Nat→Nat→Nat) (hn:n < 100) (hk:k < n) (c:List Cell):m_column_of [sqD n s,.int (k:Int)] c=.ok (.tup (nD ((List.range n).map fun i=>s i k))) c:=by
 have hs:=small_line (n:=1000) (by decide)
 have hc:=col_comp s hk c (List.range n) none []
 rw [List.nil_append] at hc
 have e:(sRet (dCB tupleD (dCons (dComp (dSeqB (dVar 0)) [none,some 1] (gdName 0) dYes (dBin ixD (dVar 0) (dVar 1))) dNil))) [some (sqD n s),some (.int (k:Int))] c=.ok (.rt (.tup (nD ((List.range n).map fun i=>s i k)))) c:=by
  have hp:pickD [none,some 1] [some (sqD n s),some (.int (k:Int))]=[none,some (.int (k:Int))]:=rfl
  have hd:dSeqB (dVar 0) [some (sqD n s),some (.int (k:Int))] c=.ok ⟨(List.range n).map fun i=>.tup (nD ((List.range n).map (s i))),fun _=>True⟩ c:=rfl
  simp only [x_ret,x_cb,x_cons,x_comp,hd,x_nil,R.bind_ok]
  rw [if_pos (by rw [List.length_map,List.length_range]; omega),hp,hc]
  rfl
 have hb:b_column_of=(sRet (dCB tupleD (dCons (dComp (dSeqB (dVar 0)) [none,some 1] (gdName 0) dYes (dBin ixD (dVar 0) (dVar 1))) dNil))):=rfl
 rw [m_column_of,x_fn,hb]
 have es:startD 2 [sqD n s,.int (k:Int)]=[some (sqD n s),some (.int (k:Int))]:=rfl
 rw [es,e]
 simp only [R.bind_ok]
 rw [q_tup,if_pos (noRefs_nD _),List.take_length]
theorem rows_comp {n:Nat} {a:Ev→List Cell→R D} {c:List Cell} {q:Int} (f:Nat→D):∀ (l:List Nat) (v:Option D) (acc:List D),(∀ i∈l,a [some (f i),some (.int q)] c=.ok (.bl true) c)→compD (fun _=>True) (gdName 0) dYes a (l.map f) [v,some (.int q)] acc c=.ok (acc ++ (l.map fun _=>true).map D.bl) c
 | [],v,acc,_=>by simp
 | i :: l,v,acc,h=>by
  have h1:gdName 0 (f i) [v,some (.int q)] c=.ok [some (f i),some (.int q)] c:=rfl
  rw [List.map_cons,comp_cons,h1,R.bind_ok,x_yes,R.bind_ok,if_pos rfl,h i (.head _),R.bind_ok,rows_comp (n:=n) f l _ _ (fun z hz=>h z (.tail _ hz)),List.append_assoc]
  rfl
theorem all_true {α:Type} (l:List α):(l.map fun _=>true).all id=true:=by
 induction l with
 | nil=>rfl
 | cons a l ih=>exact ih
theorem sq_gen {S:D} {xs:List D} {q:Int} {l1 l2:List Bool} {c:List Cell} (hS:S=.tup xs) (hq:(xs.length:Int)=q) (b:1≤q∧q≤7) (hl:xs.length < sizeLine) (hlr:(rngD 0 q).length < sizeLine) (h1:compD (fun _=>True) (gdName 0) dYes (dCall 2 m_holds_each_once (dCons (dVar 0) (dCons (dVar 1) dNil))) xs [none,some (.int q)] [] c=.ok (l1.map D.bl) c) (a1:l1.all id=true) (h2:compD (fun _=>True) (gdName 0) dYes (dCall 2 m_holds_each_once (dCons (dCall 2 m_column_of (dCons (dVar 2) (dCons (dVar 0) dNil))) (dCons (dVar 1) dNil))) (rngD 0 q) [none,some (.int q),some S] [] c=.ok (l2.map D.bl) c) (a2:l2.all id=true):m_is_square [S] c=.ok (.bl true) c:=by
 subst hS
 have hb:b_is_square=sSeq (sIf (dOrT (dNotT (dBl (dCB isiD (dCons (dVar 0) (dCons (dC (.ty "tuple")) dNil))))) (dNotT (dBl (dChain leD leD (dC (.int 1)) (dCB lenD (dCons (dVar 0) dNil)) (dC (.int 7)))))) (sRet (dC (.bl false))) sNext) (sSeq (sSet 1 (dCB lenD (dCons (dVar 0) dNil))) (sSeq (sIf (dNotT (dBl (dCB allD (dCons (dComp (dSeqT (dVar 0)) [none,some 1] (gdName 0) dYes (dCall 2 m_holds_each_once (dCons (dVar 0) (dCons (dVar 1) dNil)))) dNil)))) (sRet (dC (.bl false))) sNext) (sRet (dCB allD (dCons (dComp (dRng1 (dCons (dVar 1) dNil)) [none,some 1,some 0] (gdName 0) dYes (dCall 2 m_holds_each_once (dCons (dCall 2 m_column_of (dCons (dVar 2) (dCons (dVar 0) dNil))) (dCons (dVar 1) dNil)))) dNil))))):=rfl
 have es:startD 2 [D.tup xs]=[some (.tup xs),none]:=rfl
 have e0:(sIf (dOrT (dNotT (dBl (dCB isiD (dCons (dVar 0) (dCons (dC (.ty "tuple")) dNil))))) (dNotT (dBl (dChain leD leD (dC (.int 1)) (dCB lenD (dCons (dVar 0) dNil)) (dC (.int 7)))))) (sRet (dC (.bl false))) sNext) [some (.tup xs),none] c=.ok (.nx [some (.tup xs),none]) c:=by
  have hle:lenD [.tup xs] c=.ok (.int q) c:=by rw [x_lenT,hq]
  simp [hq,b.1,b.2]
 have e1:(sSet 1 (dCB lenD (dCons (dVar 0) dNil))) [some (.tup xs),none] c=.ok (.nx [some (.tup xs),some (.int q)]) c:=by simp [hq]
 have e2:(sIf (dNotT (dBl (dCB allD (dCons (dComp (dSeqT (dVar 0)) [none,some 1] (gdName 0) dYes (dCall 2 m_holds_each_once (dCons (dVar 0) (dCons (dVar 1) dNil)))) dNil)))) (sRet (dC (.bl false))) sNext) [some (.tup xs),some (.int q)] c=.ok (.nx [some (.tup xs),some (.int q)]) c:=by
  have hp:pickD [none,some 1] [some (.tup xs),some (.int q)]=[none,some (.int q)]:=rfl
  simp only [x_if,x_notT,x_bl,x_cb,x_cons,x_comp,x_seqT,x_var,gz,gs,x_nil,R.bind_ok]
  rw [if_pos hl,hp,h1]
  simp only [R.bind_ok,all_id,a1]
  simp
 have e3:(sRet (dCB allD (dCons (dComp (dRng1 (dCons (dVar 1) dNil)) [none,some 1,some 0] (gdName 0) dYes (dCall 2 m_holds_each_once (dCons (dCall 2 m_column_of (dCons (dVar 2) (dCons (dVar 0) dNil))) (dCons (dVar 1) dNil)))) dNil))) [some (.tup xs),some (.int q)] c=.ok (.rt (.bl true)) c:=by
  have hp:pickD [none,some 1,some 0] [some (.tup xs),some (.int q)]=[none,some (.int q),some (.tup xs)]:=rfl
  simp only [x_ret,x_cb,x_cons,x_comp,x_rng1,x_var,gz,gs,x_nil,R.bind_ok]
  rw [if_pos (by omega)]
  simp only [R.bind_ok]
  rw [if_pos hlr,hp,h2]
  simp only [R.bind_ok,all_id,a2]
 rw [m_is_square,x_fn,hb,es,seq_ok e0,seq_ok e1,seq_ok e2,e3]
 simp
theorem square_ok {n:Nat} {s:Nat→Nat→Nat} (h:Latin n s) (h1:1≤n) (h7:n≤7) (c:List Cell):m_is_square [sqD n s] c=.ok (.bl true) c:=by
 have hs:=small_line (n:=1000) (by decide)
 have c1:=rows_comp (n:=n) (a:=(dCall 2 m_holds_each_once (dCons (dVar 0) (dCons (dVar 1) dNil)))) (c:=c) (q:=(n:Int)) (fun i=>.tup (nD ((List.range n).map (s i)))) (List.range n) none [] (fun i hi=>by
  have:=holds_yes (by omega) (h.row i (List.mem_range.mp hi)) c
  generalize D.tup (nD ((List.range n).map (s i)))=T at *
  generalize (n:Int)=q at *
  simp [this])
 have c2:compD (fun _=>True) (gdName 0) dYes (dCall 2 m_holds_each_once (dCons (dCall 2 m_column_of (dCons (dVar 2) (dCons (dVar 0) dNil))) (dCons (dVar 1) dNil))) (rngD 0 (n:Int)) [none,some (.int (n:Int)),some (sqD n s)] [] c=.ok (((List.range n).map fun _=>true).map D.bl) c:=by
  have:=comp_pure (c:=c) (g:=gdName 0) (t:=dYes) (a:=(dCall 2 m_holds_each_once (dCons (dCall 2 m_column_of (dCons (dVar 2) (dCons (dVar 0) dNil))) (dCons (dVar 1) dNil)))) (fun e=>∃ v,e=[v,some (.int (n:Int)),some (sqD n s)]) (fun _=>true) (fun _=>.bl true) (rngD 0 (n:Int)) [none,some (.int (n:Int)),some (sqD n s)] [] ⟨_,rfl⟩ (fun d hd e ⟨v,he⟩=>by
   subst he
   obtain ⟨k',rfl,k0,k1⟩:=mem_rng hd
   obtain ⟨k,rfl⟩:=nat_of k0
   refine ⟨_,rfl,⟨_,rfl⟩,rfl,fun _=>?_⟩
   have g1:=column_ok s (by omega) (show k < n by omega) c
   have g2:=holds_yes (by omega) (h.col k (by omega)) c
   show (dCall 2 m_holds_each_once (dCons (dCall 2 m_column_of (dCons (dVar 2) (dCons (dVar 0) dNil))) (dCons (dVar 1) dNil))) [some (.int (k:Int)),some (.int (n:Int)),some (sqD n s)] c=_
   generalize sqD n s=S at *
   generalize D.tup (nD ((List.range n).map fun i=>s i k))=T at *
   generalize (n:Int)=q at *
   simp [g1,g2])
  rw [this,List.nil_append,filt_true,rng_map,List.map_map]
  rfl
 rw [List.nil_append] at c1
 exact sq_gen rfl (by simp) (by omega) (by simp; omega) (by rw [rng_len]; omega) c1 (all_true _) c2 (all_true _)
end Ev
namespace Ev
open PySem L2
theorem pure_comp {E:List (Option D)} {a:Ev→List Cell→R D} {n:Nat} {c:List Cell} (F:Nat→D) (h:∀ k:Nat,k < n→a (some (.int (k:Int)) :: E) c=.ok (F k) c):compD (fun _=>True) (gdName 0) dYes a (rngD 0 (n:Int)) (none :: E) [] c=.ok ((List.range n).map F) c:=by
 have:=comp_pure (c:=c) (g:=gdName 0) (t:=dYes) (a:=a) (fun e=>∃ v,e=v :: E) (fun _=>true) (fun d=>match d with | .int k=>F k.toNat | d=>d) (rngD 0 (n:Int)) (none :: E) [] ⟨_,rfl⟩ (fun d hd e ⟨v,he⟩=>by
  subst he
  obtain ⟨k',rfl,k0,k1⟩:=mem_rng hd
  obtain ⟨k,rfl⟩:=nat_of k0
  exact ⟨_,rfl,⟨_,rfl⟩,rfl,fun _=>h k (by omega)⟩)
 rw [this,List.nil_append,filt_true,rng_map]
 congr 1
noncomputable def rowL (n:Nat) (r:Nat→Nat→Nat) (i:Nat):List Nat:=(List.range n).map (r i)
noncomputable def tbD (n:Nat) (r:Nat→Nat→Nat):D:=.lst ((List.range n).map fun i=>.lst (nD (rowL n r i)))
theorem row_is (n:Nat) (r:Nat→Nat→Nat) (i:Nat):((List.range n).map fun k=>D.int (r i k:Nat))=nD (rowL n r i):=by simp [nD,rowL]
theorem lat1:∀ n,n < 8→∀ b,b < 7→ssort ((List.range n).map fun i=>(b * i + 0) % n)=List.range n→(∀ i,i < n→((List.range n).map fun k=>(b * i + k) % n).Perm (List.range n))∧(∀ k,k < n→((List.range n).map fun i=>(b * i + k) % n).Perm (List.range n)):=by decide +kernel
theorem lat2:∀ n,n < 8→(∀ i,i < n→((List.range n).map fun k=>(i + k) % n).Perm (List.range n))∧(∀ k,k < n→((List.range n).map fun i=>(i + k) % n).Perm (List.range n)):=by decide +kernel
noncomputable def xorN (i k:Nat):Nat:=(Builtin.bitXor (i:Int) (k:Int)).toNat
theorem lat4:(∀ i,i < 4→((List.range 4).map (xorN i)).Perm (List.range 4))∧(∀ k,k < 4→((List.range 4).map fun i=>xorN i k).Perm (List.range 4)):=by decide +kernel
theorem xor_nat:∀ i:Nat,i < 4→∀ k:Nat,k < 4→Builtin.bitXor (i:Int) (k:Int)=((xorN i k:Nat):Int):=by decide +kernel
noncomputable def six:List (List Nat):=[[0,1,2,3,4,5],[1,0,3,2,5,4],[2,4,0,5,1,3],[3,5,1,4,0,2],[4,2,5,0,3,1],[5,3,4,1,2,0]]
noncomputable def sixF (i k:Nat):Nat:=(six.getD i []).getD k 0
theorem lat6:(∀ i,i < 6→((List.range 6).map (sixF i)).Perm (List.range 6))∧(∀ k,k < 6→((List.range 6).map fun i=>sixF i k).Perm (List.range 6)):=by decide +kernel
theorem ca_in {q i:Int} {l:List D} {c:List Cell} (b:-4611686018427387904≤q∧q < 4611686018427387904) (hl:(rngD 0 q).length < sizeLine) (h:compD (fun _=>True) (gdName 0) dYes (dBin xorD (dVar 1) (dVar 0)) (rngD 0 q) [none,some (.int i)] [] c=.ok l c):(dComp (dRng1 (dCons (dVar 1) dNil)) [none,some 0] (gdName 0) dYes (dBin xorD (dVar 1) (dVar 0))) [some (.int i),some (.int q)] c=.ok (.lst l) c:=by
 have hp:pickD [none,some 0] [some (.int i),some (.int q)]=[none,some (.int i)]:=rfl
 simp only [x_comp,x_rng1,x_cons,x_var,gz,gs,x_nil,R.bind_ok]
 rw [if_pos (by omega)]
 simp only [R.bind_ok]
 rw [if_pos hl,hp,h]
 rfl
theorem cb_in {q b' i:Int} {l:List D} {c:List Cell} (b:-4611686018427387904≤q∧q < 4611686018427387904) (hl:(rngD 0 q).length < sizeLine) (h:compD (fun _=>True) (gdName 0) dYes (dBin modD (dBin addD (dBin mulD (dVar 2) (dVar 3)) (dVar 0)) (dVar 1)) (rngD 0 q) [none,some (.int q),some (.int b'),some (.int i)] [] c=.ok l c):(dComp (dRng1 (dCons (dVar 1) dNil)) [none,some 1,some 2,some 0] (gdName 0) dYes (dBin modD (dBin addD (dBin mulD (dVar 2) (dVar 3)) (dVar 0)) (dVar 1))) [some (.int i),some (.int q),some (.int b')] c=.ok (.lst l) c:=by
 have hp:pickD [none,some 1,some 2,some 0] [some (.int i),some (.int q),some (.int b')]=[none,some (.int q),some (.int b'),some (.int i)]:=rfl
 simp only [x_comp,x_rng1,x_cons,x_var,gz,gs,x_nil,R.bind_ok]
 rw [if_pos (by omega)]
 simp only [R.bind_ok]
 rw [if_pos hl,hp,h]
 rfl
noncomputable def cbO:Ev→List Cell→R D:=(dComp (dRng1 (dCons (dVar 1) dNil)) [none,some 1,some 2,some 0] (gdName 0) dYes (dBin modD (dBin addD (dBin mulD (dVar 2) (dVar 3)) (dVar 0)) (dVar 1)))
noncomputable def caO:Ev→List Cell→R D:=(dComp (dRng1 (dCons (dVar 1) dNil)) [none,some 0] (gdName 0) dYes (dBin xorD (dVar 1) (dVar 0)))
noncomputable def ccO:Ev→List Cell→R D:=(dComp (dRng1 (dCons (dVar 1) dNil)) [none,some 1,some 0] (gdName 0) dYes (dBin modD (dBin addD (dVar 2) (dVar 0)) (dVar 1)))
theorem ca_o {q:Int} {l:List D} {a0 a2 a3 a4 a5 a6:Option D} {c:List Cell} (b:-4611686018427387904≤q∧q < 4611686018427387904) (hl:(rngD 0 q).length < sizeLine) (h:compD (fun _=>True) (gdName 0) dYes caO (rngD 0 q) [none,some (.int q)] [] c=.ok l c):(sSet 2 (dComp (dRng1 (dCons (dVar 1) dNil)) [none,some 1] (gdName 0) dYes caO)) [a0,some (.int q),a2,a3,a4,a5,a6] c=.ok (.nx [a0,some (.int q),some (.lst l),a3,a4,a5,a6]) c:=by
 have hp:pickD [none,some 1] [a0,some (.int q),a2,a3,a4,a5,a6]=[none,some (.int q)]:=rfl
 simp only [x_set,x_comp,x_rng1,x_cons,x_var,gz,gs,x_nil,R.bind_ok]
 rw [if_pos (by omega)]
 simp only [R.bind_ok]
 rw [if_pos hl,hp,h]
 rfl
theorem cc_o {q:Int} {l:List D} {a0 a2 a3 a4 a5 a6:Option D} {c:List Cell} (b:-4611686018427387904≤q∧q < 4611686018427387904) (hl:(rngD 0 q).length < sizeLine) (h:compD (fun _=>True) (gdName 0) dYes ccO (rngD 0 q) [none,some (.int q)] [] c=.ok l c):(sSet 2 (dComp (dRng1 (dCons (dVar 1) dNil)) [none,some 1] (gdName 0) dYes ccO)) [a0,some (.int q),a2,a3,a4,a5,a6] c=.ok (.nx [a0,some (.int q),some (.lst l),a3,a4,a5,a6]) c:=by
 have hp:pickD [none,some 1] [a0,some (.int q),a2,a3,a4,a5,a6]=[none,some (.int q)]:=rfl
 simp only [x_set,x_comp,x_rng1,x_cons,x_var,gz,gs,x_nil,R.bind_ok]
 rw [if_pos (by omega)]
 simp only [R.bind_ok]
 rw [if_pos hl,hp,h]
 rfl
theorem cb_o {q b':Int} {l:List D} {a0 a2 a4 a5 a6:Option D} {c:List Cell} (b:-4611686018427387904≤q∧q < 4611686018427387904) (hl:(rngD 0 q).length < sizeLine) (h:compD (fun _=>True) (gdName 0) dYes cbO (rngD 0 q) [none,some (.int q),some (.int b')] [] c=.ok l c):(sSet 2 (dComp (dRng1 (dCons (dVar 1) dNil)) [none,some 1,some 3] (gdName 0) dYes cbO)) [a0,some (.int q),a2,some (.int b'),a4,a5,a6] c=.ok (.nx [a0,some (.int q),some (.lst l),some (.int b'),a4,a5,a6]) c:=by
 have hp:pickD [none,some 1,some 3] [a0,some (.int q),a2,some (.int b'),a4,a5,a6]=[none,some (.int q),some (.int b')]:=rfl
 simp only [x_set,x_comp,x_rng1,x_cons,x_var,gz,gs,x_nil,R.bind_ok]
 rw [if_pos (by omega)]
 simp only [R.bind_ok]
 rw [if_pos hl,hp,h]
 rfl
theorem cc_in {q i:Int} {l:List D} {c:List Cell} (b:-4611686018427387904≤q∧q < 4611686018427387904) (hl:(rngD 0 q).length < sizeLine) (h:compD (fun _=>True) (gdName 0) dYes (dBin modD (dBin addD (dVar 2) (dVar 0)) (dVar 1)) (rngD 0 q) [none,some (.int q),some (.int i)] [] c=.ok l c):ccO [some (.int i),some (.int q)] c=.ok (.lst l) c:=by
 have hp:pickD [none,some 1,some 0] [some (.int i),some (.int q)]=[none,some (.int q),some (.int i)]:=rfl
 unfold ccO
 simp only [x_comp,x_rng1,x_cons,x_var,gz,gs,x_nil,R.bind_ok]
 rw [if_pos (by omega)]
 simp only [R.bind_ok]
 rw [if_pos hl,hp,h]
 rfl
theorem cbi_gen {q b' i k z w:Int} {c:List Cell} (m1:mulD (.int b') (.int i) c=.ok (.int z) c) (m2:modD (.int (z + k)) (.int q) c=.ok (.int w) c):(dBin modD (dBin addD (dBin mulD (dVar 2) (dVar 3)) (dVar 0)) (dVar 1)) [some (.int k),some (.int q),some (.int b'),some (.int i)] c=.ok (.int w) c:=by
 simp only [x_bin,x_var,gz,gs,R.bind_ok,m1,x_add,m2]
theorem cci_gen {q i k w:Int} {c:List Cell} (m2:modD (.int (i + k)) (.int q) c=.ok (.int w) c):(dBin modD (dBin addD (dVar 2) (dVar 0)) (dVar 1)) [some (.int k),some (.int q),some (.int i)] c=.ok (.int w) c:=by
 simp only [x_bin,x_var,gz,gs,R.bind_ok,x_add,m2]
theorem mod_gen {x q w:Int} (c:List Cell) (hq:0 < q) (h:x % q=w):modD (.int x) (.int q) c=.ok (.int w) c:=by
 rw [mod_c c hq,h]
theorem mul_gen {x y w:Int} (c:List Cell) (h1:-1000 < x) (h2:x < 1000) (h:x * y=w):mulD (.int x) (.int y) c=.ok (.int w) c:=by
 rw [mul_l c (by omega) (by omega),h]
theorem cb_row {n:Nat} (h1:1≤n) (h8:n < 8) (c:List Cell) (b i:Nat) (hb:b < 7):cbO [some (.int (i:Int)),some (.int (n:Int)),some (.int (b:Int))] c=.ok (.lst (nD (rowL n (fun i k=>(b * i + k) % n) i))) c:=by
 have hs:=small_line (n:=1000) (by decide)
 have hc:=pure_comp (E:=[some (.int (n:Int)),some (.int (b:Int)),some (.int (i:Int))]) (a:=(dBin modD (dBin addD (dBin mulD (dVar 2) (dVar 3)) (dVar 0)) (dVar 1))) (n:=n) (c:=c) (fun k=>.int ((b * i + k) % n:Nat)) (fun k hk =>
  cbi_gen (z:=(b:Int) * (i:Int)) (mul_gen c (by omega) (by omega) rfl) (mod_gen c (by omega) (by rw [Int.natCast_emod,Int.natCast_add,Int.natCast_mul])))
 rw [row_is n (fun i k=>(b * i + k) % n)] at hc
 exact cb_in (by omega) (by rw [rng_len]; omega) hc
theorem cc_row {n:Nat} (h1:1≤n) (h8:n < 8) (c:List Cell) (i:Nat):ccO [some (.int (i:Int)),some (.int (n:Int))] c=.ok (.lst (nD (rowL n (fun i k=>(i + k) % n) i))) c:=by
 have hs:=small_line (n:=1000) (by decide)
 have hc:=pure_comp (E:=[some (.int (n:Int)),some (.int (i:Int))]) (a:=(dBin modD (dBin addD (dVar 2) (dVar 0)) (dVar 1))) (n:=n) (c:=c) (fun k=>.int ((i + k) % n:Nat)) (fun k hk =>
  cci_gen (mod_gen c (by omega) (by rw [Int.natCast_emod,Int.natCast_add])))
 rw [row_is n (fun i k=>(i + k) % n)] at hc
 exact cc_in (by omega) (by rw [rng_len]; omega) hc
theorem ca_row (i:Nat) (hi:i < 4) (c:List Cell):caO [some (.int (i:Int)),some (.int ((4:Nat):Int))] c=.ok (.lst (nD (rowL 4 xorN i))) c:=by
 have hs:=small_line (n:=1000) (by decide)
 have hc:=pure_comp (E:=[some (.int (i:Int))]) (a:=(dBin xorD (dVar 1) (dVar 0))) (n:=4) (c:=c) (fun k=>.int (xorN i k:Nat)) (fun k hk=>by
  have:=xor_nat i hi k hk
  simp only [x_bin,x_var,gz,gs,R.bind_ok,x_xor,this])
 rw [row_is 4 xorN] at hc
 exact ca_in (by omega) (by rw [rng_len]; omega) hc
end Ev
namespace Ev
open PySem L2
theorem eqv_ints:∀ a b:List Int,PyData.eqvAll (a.map PyData.int) (b.map PyData.int)=decide (a=b)
 | [],[]=>by simp [PyData.eqvAll]
 | [],b :: bs=>by simp [PyData.eqvAll]
 | a :: as,[]=>by simp [PyData.eqvAll]
 | a :: as,b :: bs=>by
  rw [List.map_cons,List.map_cons,PyData.eqvAll,eqv_ints as bs,PyData.eqv]
  by_cases h:a=b
  ·subst h; simp
  ·simp [h]
theorem depth_ints (a:List Int):PyData.depthAll (a.map PyData.int)=0:=by
 induction a with
 | nil=>simp [PyData.depthAll]
 | cons x a ih=>simp [PyData.depthAll,PyData.depth,ih]
theorem dat_ints:∀ ns:List Int,datDs (ns.map D.int)=some (ns.map PyData.int)
 | []=>rfl
 | n :: ns=>by
  have:=dat_ints ns
  simp [datDs,datD,this]
theorem eqv_lst (as bs:List Int) (c:List Cell):eqvD (.lst (as.map D.int)) (.lst (bs.map D.int)) c=.ok (.bl (decide (as=bs))) c∧nevD (.lst (as.map D.int)) (.lst (bs.map D.int)) c=.ok (.bl (!decide (as=bs))) c:=by
 have h:∀ l:List Int,datC c (.lst (l.map D.int))=some (.list (l.map PyData.int)):=fun l=>by
  show (match datDs (l.map D.int) with | some r=>some (PyData.list r) | none=>none)=_
  rw [dat_ints]
 have dp:∀ l:List Int,(PyData.list (l.map PyData.int)).depth≤64:=fun l=>by simp [PyData.depth,depth_ints]
 refine ⟨?_,?_⟩
 ·unfold eqvD
  rw [h,h]
  dsimp only
  rw [if_pos ⟨dp as,dp bs⟩,PyData.eqv,eqv_ints]
 ·unfold nevD
  rw [h,h]
  dsimp only
  rw [if_pos ⟨dp as,dp bs⟩,PyData.eqv,eqv_ints]
noncomputable def castL (l:List Nat):List Int:=l.map fun k:Nat=>(k:Int)
theorem nD_cast (l:List Nat):nD l=(castL l).map D.int:=nD_ints l
theorem fc_comp {n:Nat} (h1:1≤n) (r:Nat→Nat→Nat) (c:List Cell):∀ (l:List Nat) (v:Option D) (acc:List D),compD (fun _=>True) (gdName 0) dYes (dBin ixD (dVar 0) (dC (.int 0))) (l.map fun i=>.lst (nD (rowL n r i))) [v] acc c=.ok (acc ++ nD (l.map fun i=>r i 0)) c
 | [],v,acc=>by simp [nD]
 | i :: l,v,acc=>by
  have g1:gdName 0 (.lst (nD (rowL n r i))) [v] c=.ok [some (.lst (nD (rowL n r i)))] c:=rfl
  have g2:ixD (.lst (nD (rowL n r i))) (.int 0) c=.ok (.int (r i 0:Nat)) c:=by
   rw [x_ixL,show (0:Int)=((0:Nat):Int) from rfl,atI_nat (v:=.int (r i 0:Nat)) (by simp [nD,rowL,List.getElem?_range (show 0 < n by omega)])]
  have hE:(dBin ixD (dVar 0) (dC (.int 0))) [some (.lst (nD (rowL n r i)))] c=.ok (.int (r i 0:Nat)) c:=by
   generalize D.lst (nD (rowL n r i))=T at *
   simp only [x_bin,x_var,x_c,gz,R.bind_ok,g2]
  rw [List.map_cons,comp_cons,g1,R.bind_ok,x_yes,R.bind_ok,if_pos rfl,hE,R.bind_ok,fc_comp h1 r c l,List.append_assoc]
  rfl
theorem cyu_gen {q:Int} {rows:List D} {ns:List Nat} {z:Bool} {a0 a3 a4 a5 a6:Option D} {c:List Cell} (b:0 < q∧q < 1000) (hl:rows.length < sizeLine) (hc:compD (fun _=>True) (gdName 0) dYes (dBin ixD (dVar 0) (dC (.int 0))) rows [none] [] c=.ok (nD ns) c) (hN:natsD (nD ns)=some ns) (hq:nevD (.lst (nD (ssort ns))) (.lst ((rngI 0 q).map D.int)) c=.ok (.bl z) c) :
  (dBl (dBin nevD (dSortSet (dCons (dComp (dSeq (dVar 2)) [none] (gdName 0) dYes (dBin ixD (dVar 0) (dC (.int 0)))) dNil)) (dLRng1 (dCons (dVar 1) dNil)))) [a0,some (.int q),some (.lst rows),a3,a4,a5,a6] c=.ok z c:=by
 have hp:pickD [none] [a0,some (.int q),some (.lst rows),a3,a4,a5,a6]=[none]:=rfl
 have hd:dSeq (dVar 2) [a0,some (.int q),some (.lst rows),a3,a4,a5,a6] c=.ok ⟨rows,fun _=>True⟩ c:=rfl
 have hS:dSortSet (dCons (dComp (dSeq (dVar 2)) [none] (gdName 0) dYes (dBin ixD (dVar 0) (dC (.int 0)))) dNil) [a0,some (.int q),some (.lst rows),a3,a4,a5,a6] c=.ok (.lst (nD (ssort ns))) c:=by
  unfold dSortSet
  simp only [x_cons,x_comp,hd,x_nil,R.bind_ok]
  rw [if_pos hl,hp,hc]
  simp only [R.bind_ok,lstD,hN]
 have hR:dLRng1 (dCons (dVar 1) dNil) [a0,some (.int q),some (.lst rows),a3,a4,a5,a6] c=.ok (.lst ((rngI 0 q).map D.int)) c:=by
  unfold dLRng1
  simp only [x_cons,x_var,gz,gs,x_nil,R.bind_ok]
  rw [if_pos b]
 simp only [x_bl,x_bin,hS,hR,R.bind_ok,hq]
theorem cast_inj {a b:List Nat} (h:castL a=castL b):a=b:=castI_inj h
theorem rng_cast (n:Nat):rngI 0 (n:Int)=castL (List.range n):=rngI_map n
theorem nev_nD (A:List Nat) (n:Nat) (c:List Cell):nevD (.lst (nD A)) (.lst ((rngI 0 (n:Int)).map D.int)) c=.ok (.bl (!decide (A=List.range n))) c:=by
 rw [nD_cast,(eqv_lst _ _ c).2,rng_cast]
 congr 3
 exact decide_eq_decide.mpr ⟨cast_inj,fun h=>by rw [h]⟩
theorem cy1_gen {j:Nat} {q f x:Int} {a2 a3 a4 a5 a6:Option D} {c c1:List Cell} (hf:(if q - 1 > 1 then q - 1 else 1)=f) (t:m_law_take [.ref j,.int f] c=.ok (.int x) c1):(sSet 3 (dBin addD (dC (.int 1)) (dCall 2 m_law_take (dCons (dVar 0) (dCons (dCB max2D (dCons (dC (.int 1)) (dCons (dBin subD (dVar 1) (dC (.int 1))) dNil))) dNil))))) [some (.ref j),some (.int q),a2,a3,a4,a5,a6] c=.ok (.nx [some (.ref j),some (.int q),a2,some (.int (1 + x)),a4,a5,a6]) c1:=by
 simp only [x_set,x_bin,x_c,x_call,x_cb,x_cons,x_var,gz,gs,x_nil,R.bind_ok,x_sub,x_max2,hf,List.length_cons,List.length_nil,if_pos,t,x_add]
 rfl
noncomputable def cyN:Ev→List Cell→R Fl:=sSeq (sSet 3 (dBin addD (dC (.int 1)) (dCall 2 m_law_take (dCons (dVar 0) (dCons (dCB max2D (dCons (dC (.int 1)) (dCons (dBin subD (dVar 1) (dC (.int 1))) dNil))) dNil))))) (sSeq (sSet 2 (dComp (dRng1 (dCons (dVar 1) dNil)) [none,some 1,some 3] (gdName 0) dYes cbO)) (sIf (dBl (dBin nevD (dSortSet (dCons (dComp (dSeq (dVar 2)) [none] (gdName 0) dYes (dBin ixD (dVar 0) (dC (.int 0)))) dNil)) (dLRng1 (dCons (dVar 1) dNil)))) (sSet 2 (dComp (dRng1 (dCons (dVar 1) dNil)) [none,some 1] (gdName 0) dYes ccO)) sNext))
theorem cyN_ok {j m n:Nat} {c:List Cell} (hP:Pot j m c) (h1:1≤n) (h8:n < 8):∃ r v3 c',Latin n r∧Pot j m c'∧cyN [some (.ref j),some (.int (n:Int)),none,none,none,none,none] c=.ok (.nx [some (.ref j),some (.int (n:Int)),some (tbD n r),v3,none,none,none]) c':=by
 have hs:=small_line (n:=1000) (by decide)
 obtain ⟨f,hf⟩:∃ f:Int,(if (n:Int) - 1 > 1 then (n:Int) - 1 else 1)=f:=⟨_,rfl⟩
 have hf':0 < f∧f≤6:=by split at hf <;> omega
 obtain ⟨x,c1,x0,x1,P1,t1⟩:=take_ok (far:=f) hP hf'.1 (by omega)
 obtain ⟨b,hb⟩:=nat_of (i:=1 + x) (by omega)
 have e1:=cy1_gen (a2:=none) (a3:=none) (a4:=none) (a5:=none) (a6:=none) hf t1
 rw [hb] at e1
 have c2:=pure_comp (E:=[some (.int (n:Int)),some (.int (b:Int))]) (a:=cbO) (n:=n) (c:=c1) (fun i=>.lst (nD (rowL n (fun i k=>(b * i + k) % n) i))) (fun i _=>cb_row h1 h8 c1 b i (by omega))
 have e2:=cb_o (a0:=some (.ref j)) (a2:=none) (a4:=none) (a5:=none) (a6:=none) (by omega) (by rw [rng_len]; omega) c2
 have hfc:=fc_comp h1 (fun i k=>(b * i + k) % n) c1 (List.range n) none []
 rw [List.nil_append] at hfc
 have hN:natsD (nD ((List.range n).map fun i=>(b * i + 0) % n))=some ((List.range n).map fun i=>(b * i + 0) % n):=natsD_nD (by
  have:=nd_len (nd_up (up_ssort ((List.range n).map fun i=>(b * i + 0) % n))) (fun x hx=>mem_ssort.mp hx)
  rw [List.length_map,List.length_range] at this
  omega) (fun x hx=>by
  obtain ⟨i,_,rfl⟩:=List.mem_map.mp hx
  have:=Nat.mod_lt (b * i + 0) (show 0 < n by omega)
  omega)
 have hu:=cyu_gen (a0:=some (.ref j)) (a3:=some (.int (b:Int))) (a4:=none) (a5:=none) (a6:=none) (by omega) (by rw [List.length_map,List.length_range]; omega) hfc hN (nev_nD _ n c1)
 by_cases hk:ssort ((List.range n).map fun i=>(b * i + 0) % n)=List.range n
 ·have hL:=lat1 n h8 b (by omega) hk
  refine ⟨fun i k=>(b * i + k) % n,some (.int (b:Int)),c1,⟨hL.1,hL.2⟩,P1,?_⟩
  unfold cyN
  rw [seq_ok e1,seq_ok e2,x_if,hu,R.bind_ok,decide_eq_true hk]
  rfl
 ·have hL:=lat2 n h8
  have c3:=pure_comp (E:=[some (.int (n:Int))]) (a:=ccO) (n:=n) (c:=c1) (fun i=>.lst (nD (rowL n (fun i k=>(i + k) % n) i))) (fun i _=>cc_row h1 h8 c1 i)
  have e3:=cc_o (a0:=some (.ref j)) (a2:=some (.lst ((List.range n).map fun i=>.lst (nD (rowL n (fun i k=>(b * i + k) % n) i))))) (a3:=some (.int (b:Int))) (a4:=none) (a5:=none) (a6:=none) (by omega) (by rw [rng_len]; omega) c3
  refine ⟨fun i k=>(i + k) % n,some (.int (b:Int)),c1,⟨hL.1,hL.2⟩,P1,?_⟩
  unfold cyN
  rw [seq_ok e1,seq_ok e2,x_if,hu,R.bind_ok,decide_eq_false hk,if_pos (by decide)]
  exact e3
noncomputable def cyS:Ev→List Cell→R Fl:=sIf (dAndT (dBl (dBin eqD (dVar 1) (dC (.int 4)))) (dBl (dBin eqD (dCall 2 m_law_take (dCons (dVar 0) (dCons (dC (.int 2)) dNil))) (dC (.int 0))))) (sSet 2 (dComp (dRng1 (dCons (dVar 1) dNil)) [none,some 1] (gdName 0) dYes caO)) cyN
theorem cyt_no {q:Int} {a0 a2 a3 a4 a5 a6:Option D} {c:List Cell} (h:¬ q=4):(dAndT (dBl (dBin eqD (dVar 1) (dC (.int 4)))) (dBl (dBin eqD (dCall 2 m_law_take (dCons (dVar 0) (dCons (dC (.int 2)) dNil))) (dC (.int 0))))) [a0,some (.int q),a2,a3,a4,a5,a6] c=.ok false c:=by simp [h]
theorem cyt_yes {j:Nat} {x:Int} {a2 a3 a4 a5 a6:Option D} {c c1:List Cell} (t:m_law_take [.ref j,.int 2] c=.ok (.int x) c1):(dAndT (dBl (dBin eqD (dVar 1) (dC (.int 4)))) (dBl (dBin eqD (dCall 2 m_law_take (dCons (dVar 0) (dCons (dC (.int 2)) dNil))) (dC (.int 0))))) [some (.ref j),some (.int 4),a2,a3,a4,a5,a6] c=.ok (decide (x=0)) c1:=by simp [t]
theorem cyS_ok {j m n:Nat} {c:List Cell} (hP:Pot j m c) (h1:1≤n) (h8:n < 8):∃ r v3 c',Latin n r∧Pot j m c'∧cyS [some (.ref j),some (.int (n:Int)),none,none,none,none,none] c=.ok (.nx [some (.ref j),some (.int (n:Int)),some (tbD n r),v3,none,none,none]) c':=by
 have hs:=small_line (n:=1000) (by decide)
 by_cases h4:(n:Int)=4
 ·have:n=4:=by omega
  subst this
  obtain ⟨x,c1,x0,x1,P1,t1⟩:=take_ok (far:=2) hP (by decide) (by decide)
  have ht:=cyt_yes (a2:=none) (a3:=none) (a4:=none) (a5:=none) (a6:=none) t1
  by_cases hx:x=0
  ·have c2:=pure_comp (E:=[some (.int ((4:Nat):Int))]) (a:=caO) (n:=4) (c:=c1) (fun i=>.lst (nD (rowL 4 xorN i))) (fun i hi=>ca_row i hi c1)
   have e2:=ca_o (a0:=some (.ref j)) (a2:=none) (a3:=none) (a4:=none) (a5:=none) (a6:=none) (by omega) (by rw [rng_len]; omega) c2
   refine ⟨xorN,none,c1,⟨lat4.1,lat4.2⟩,P1,?_⟩
   unfold cyS
   rw [x_if,show ((4:Nat):Int)=4 from rfl,ht,R.bind_ok,decide_eq_true hx,if_pos rfl]
   exact e2
  ·obtain ⟨r,v3,c',hL,P',h⟩:=cyN_ok P1 h1 h8
   refine ⟨r,v3,c',hL,P',?_⟩
   unfold cyS
   rw [x_if,show ((4:Nat):Int)=4 from rfl,ht,R.bind_ok,decide_eq_false hx,if_neg (by decide)]
   exact h
 ·obtain ⟨r,v3,c',hL,P',h⟩:=cyN_ok hP h1 h8
  refine ⟨r,v3,c',hL,P',?_⟩
  unfold cyS
  rw [x_if,cyt_no h4,R.bind_ok,if_neg (by decide)]
  exact h
end Ev
namespace Ev
open PySem L2
theorem lst_comp {α:Type} {E:List (Option D)} {a:Ev→List Cell→R D} {c:List Cell} (g F:α→D):∀ (l:List α) (v:Option D) (acc:List D),(∀ x∈l,a (some (g x) :: E) c=.ok (F x) c)→compD (fun _=>True) (gdName 0) dYes a (l.map g) (v :: E) acc c=.ok (acc ++ l.map F) c
 | [],v,acc,_=>by simp
 | x :: l,v,acc,h=>by
  have h1:gdName 0 (g x) (v :: E) c=.ok (some (g x) :: E) c:=rfl
  rw [List.map_cons,comp_cons,h1,R.bind_ok,x_yes,R.bind_ok,if_pos rfl,h x (.head _),R.bind_ok,lst_comp g F l _ _ (fun z hz=>h z (.tail _ hz)),List.append_assoc]
  rfl
theorem nD_map (l:List Nat):nD l=l.map fun k:Nat=>D.int (k:Int):=by simp [nD]
theorem perm_lt {os:List Nat} {n x:Nat} (h:os.Perm (List.range n)) (hx:x∈os):x < n:=List.mem_range.mp (h.mem_iff.mp hx)
theorem perm_len {os:List Nat} {n:Nat} (h:os.Perm (List.range n)):os.length=n:=by have:=h.length_eq; simpa using this
theorem map_at {α:Type} (os:List Nat) (f:Nat→α):os.map f=(List.range os.length).map fun i=>f (os.getD i 0):=by
 refine List.ext_getElem (by simp) fun i h1 h2=>?_
 simp [List.getD_eq_getElem?_getD]
 rw [List.getElem?_eq_getElem (by simpa using h1)]
 rfl
theorem perm_at {os:List Nat} {n:Nat} (h:os.Perm (List.range n)):((List.range n).map fun i=>os.getD i 0).Perm (List.range n):=by
 have:=map_at os id
 rw [List.map_id,perm_len h] at this
 exact (List.Perm.of_eq this.symm).trans h
theorem row_at {os:List Nat} {n i:Nat} (h:os.Perm (List.range n)) (hi:i < n):os.getD i 0 < n:=by
 have:=perm_len h
 rw [List.getD_eq_getElem?_getD,List.getElem?_eq_getElem (by omega)]
 exact perm_lt h (List.getElem_mem _)
theorem Latin.lt {n:Nat} {r:Nat→Nat→Nat} (h:Latin n r) {i k:Nat} (hi:i < n) (hk:k < n):r i k < n:=perm_lt (h.row i hi) (List.mem_map.mpr ⟨k,List.mem_range.mpr hk,rfl⟩)
theorem Latin.rows {n:Nat} {r:Nat→Nat→Nat} (h:Latin n r) {os:List Nat} (ho:os.Perm (List.range n)):Latin n fun i k=>r (os.getD i 0) k:=by
 refine ⟨fun i hi=>h.row _ (row_at ho hi),fun k hk=>?_⟩
 have:=(perm_at ho).map fun i=>r i k
 rw [List.map_map] at this
 exact this.trans (h.col k hk)
theorem Latin.cols {n:Nat} {r:Nat→Nat→Nat} (h:Latin n r) {os:List Nat} (ho:os.Perm (List.range n)):Latin n fun i k=>r i (os.getD k 0):=by
 refine ⟨fun i hi=>?_,fun k hk=>h.col _ (row_at ho hk)⟩
 have:=(perm_at ho).map fun k=>r i k
 rw [List.map_map] at this
 exact this.trans (h.row i hi)
theorem Latin.names {n:Nat} {r:Nat→Nat→Nat} (h:Latin n r) {os:List Nat} (ho:os.Perm (List.range n)):Latin n fun i k=>os.getD (r i k) 0:=by
 refine ⟨fun i hi=>?_,fun k hk=>?_⟩
 ·have:=(h.row i hi).map fun i=>os.getD i 0
  rw [List.map_map] at this
  exact this.trans (perm_at ho)
 ·have:=(h.col k hk).map fun i=>os.getD i 0
  rw [List.map_map] at this
  exact this.trans (perm_at ho)
theorem noRefs_sq (n:Nat) (s:Nat→Nat→Nat):noRefs ((List.range n).map fun i=>D.tup (nD ((List.range n).map (s i))))=true:=noRefs_iff.mpr fun d hd=>by
 obtain ⟨i,_,rfl⟩:=List.mem_map.mp hd
 rw [r_tup]
 exact noRefs_nD _
theorem sq_of {n:Nat} {os:List Nat} {f:Nat→Nat→Nat} (ho:os.length=n):D.tup (os.map fun i=>D.tup (nD ((List.range n).map (f i))))=sqD n fun i k=>f (os.getD i 0) k:=by
 unfold sqD
 rw [map_at,ho]
theorem cyf_gen {A B:D} {row col k v:Int} {r:D} {c:List Cell} (h1:ixD B (.int row) c=.ok r c) (h2:ixD r (.int col) c=.ok (.int k) c) (h3:ixD A (.int k) c=.ok (.int v) c):(dBin ixD (dVar 1) (dBin ixD (dBin ixD (dVar 2) (dVar 3)) (dVar 0))) [some (.int col),some A,some B,some (.int row)] c=.ok (.int v) c:=by
 simp only [x_bin,x_var,gz,gs,R.bind_ok,h1,h2,h3]
theorem cye_gen {A B:D} {cs l:List D} {row:Int} {c:List Cell} (hl:cs.length < sizeLine) (h:compD (fun _=>True) (gdName 0) dYes (dBin ixD (dVar 1) (dBin ixD (dBin ixD (dVar 2) (dVar 3)) (dVar 0))) cs [none,some A,some B,some (.int row)] [] c=.ok l c):(dCB tupleD (dCons (dComp (dSeqT (dVar 2)) [none,some 1,some 3,some 0] (gdName 0) dYes (dBin ixD (dVar 1) (dBin ixD (dBin ixD (dVar 2) (dVar 3)) (dVar 0)))) dNil)) [some (.int row),some A,some (.tup cs),some B] c=.ok (.tup l) c:=by
 have hp:pickD [none,some 1,some 3,some 0] [some (.int row),some A,some (.tup cs),some B]=[none,some A,some B,some (.int row)]:=rfl
 have hd:dSeqT (dVar 2) [some (.int row),some A,some (.tup cs),some B] c=.ok ⟨cs,fun _=>True⟩ c:=rfl
 simp only [x_cb,x_cons,x_comp,hd,x_nil,R.bind_ok]
 rw [if_pos hl,hp,h]
 rfl
noncomputable def cyE:Ev→List Cell→R D:=(dCB tupleD (dCons (dComp (dSeqT (dVar 2)) [none,some 1,some 3,some 0] (gdName 0) dYes (dBin ixD (dVar 1) (dBin ixD (dBin ixD (dVar 2) (dVar 3)) (dVar 0)))) dNil))
theorem cy5_gen {A B C:D} {os l:List D} {a0 a1 a3:Option D} {c:List Cell} (hl:os.length < sizeLine) (h:compD (fun _=>True) (gdName 0) dYes cyE os [none,some A,some C,some B] [] c=.ok l c):(sRet (dCB tupleD (dCons (dComp (dSeqT (dVar 4)) [none,some 5,some 6,some 2] (gdName 0) dYes (dCB tupleD (dCons (dComp (dSeqT (dVar 2)) [none,some 1,some 3,some 0] (gdName 0) dYes (dBin ixD (dVar 1) (dBin ixD (dBin ixD (dVar 2) (dVar 3)) (dVar 0)))) dNil))) dNil))) [a0,a1,some B,a3,some (.tup os),some A,some C] c=.ok (.rt (.tup l)) c:=by
 have hp:pickD [none,some 5,some 6,some 2] [a0,a1,some B,a3,some (.tup os),some A,some C]=[none,some A,some C,some B]:=rfl
 have hd:dSeqT (dVar 4) [a0,a1,some B,a3,some (.tup os),some A,some C] c=.ok ⟨os,fun _=>True⟩ c:=rfl
 unfold cyE at h
 simp only [x_ret,x_cb,x_cons,x_comp,hd,x_nil,R.bind_ok]
 rw [if_pos hl,hp,h]
 rfl
section
variable {j:Nat} {q:Int} {T:D} {c c':List Cell} (a2 a3 a4 a5 a6:Option D)
theorem cy2_gen (h:m_law_order [.ref j,.int q] c=.ok T c'):(sSet 4 (dCall 2 m_law_order (dCons (dVar 0) (dCons (dVar 1) dNil)))) [some (.ref j),some (.int q),a2,a3,a4,a5,a6] c=.ok (.nx [some (.ref j),some (.int q),a2,a3,some T,a5,a6]) c':=by
 simp only [x_set,x_call,x_cons,x_var,gz,gs,x_nil,R.bind_ok,List.length_cons,List.length_nil,if_pos,h]
 rfl
theorem cy3_gen (h:m_law_order [.ref j,.int q] c=.ok T c'):(sSet 5 (dCall 2 m_law_order (dCons (dVar 0) (dCons (dVar 1) dNil)))) [some (.ref j),some (.int q),a2,a3,a4,a5,a6] c=.ok (.nx [some (.ref j),some (.int q),a2,a3,a4,some T,a6]) c':=by
 simp only [x_set,x_call,x_cons,x_var,gz,gs,x_nil,R.bind_ok,List.length_cons,List.length_nil,if_pos,h]
 rfl
theorem cy4_gen (h:m_law_order [.ref j,.int q] c=.ok T c'):(sSet 6 (dCall 2 m_law_order (dCons (dVar 0) (dCons (dVar 1) dNil)))) [some (.ref j),some (.int q),a2,a3,a4,a5,a6] c=.ok (.nx [some (.ref j),some (.int q),a2,a3,a4,a5,some T]) c':=by
 simp only [x_set,x_call,x_cons,x_var,gz,gs,x_nil,R.bind_ok,List.length_cons,List.length_nil,if_pos,h]
 rfl
end
theorem tb_ix {n:Nat} (r:Nat→Nat→Nat) {i:Nat} (hi:i < n) (c:List Cell):ixD (tbD n r) (.int (i:Int)) c=.ok (.lst (nD (rowL n r i))) c:=by
 unfold tbD
 rw [x_ixL,atI_nat (v:=.lst (nD (rowL n r i))) (by simp [hi])]
theorem row_ix {n:Nat} (r:Nat→Nat→Nat) (i:Nat) {k:Nat} (hk:k < n) (c:List Cell):ixD (.lst (nD (rowL n r i))) (.int (k:Int)) c=.ok (.int (r i k:Nat)) c:=by
 rw [x_ixL,atI_nat (v:=.int (r i k:Nat)) (by simp [nD,rowL,hk])]
theorem ord_ix {os:List Nat} {k:Nat} (hk:k < os.length) (c:List Cell):ixD (.tup (nD os)) (.int (k:Int)) c=.ok (.int (os.getD k 0:Nat)) c:=by
 rw [x_ixT,atI_nat (v:=.int (os.getD k 0:Nat)) (by simp [nD,hk,List.getD_eq_getElem?_getD])]
theorem cyc_comp {n:Nat} {r:Nat→Nat→Nat} (hL:Latin n r) (h8:n < 8) {os ns cs:List Nat} (ho:os.Perm (List.range n)) (hn:ns.Perm (List.range n)) (hc:cs.Perm (List.range n)) (c:List Cell) :
  compD (fun _=>True) (gdName 0) dYes cyE (nD os) [none,some (.tup (nD ns)),some (.tup (nD cs)),some (tbD n r)] [] c=.ok (os.map fun i=>D.tup (nD ((List.range n).map fun k=>ns.getD (r i (cs.getD k 0)) 0))) c:=by
 have hs:=small_line (n:=1000) (by decide)
 have:=lst_comp (E:=[some (.tup (nD ns)),some (.tup (nD cs)),some (tbD n r)]) (a:=cyE) (c:=c) (fun k:Nat=>D.int (k:Int)) (fun i=>D.tup (nD ((List.range n).map fun k=>ns.getD (r i (cs.getD k 0)) 0))) os none [] (fun i hi=>by
  have hin:=perm_lt ho hi
  have h2:=lst_comp (E:=[some (.tup (nD ns)),some (tbD n r),some (.int (i:Int))]) (a:=(dBin ixD (dVar 1) (dBin ixD (dBin ixD (dVar 2) (dVar 3)) (dVar 0)))) (c:=c) (fun k:Nat=>D.int (k:Int)) (fun k=>D.int (ns.getD (r i k) 0:Nat)) cs none [] (fun k hk=>by
   have hkn:=perm_lt hc hk
   have h3:=hL.lt hin hkn
   exact cyf_gen (tb_ix r hin c) (row_ix r i hkn c) (ord_ix (by rw [perm_len hn]; exact h3) c))
  rw [List.nil_append,← nD_map] at h2
  have e:(cs.map fun k=>D.int (ns.getD (r i k) 0:Nat))=nD ((List.range n).map fun k=>ns.getD (r i (cs.getD k 0)) 0):=by
   rw [map_at,perm_len hc,nD_map,List.map_map]
   rfl
  rw [e] at h2
  exact cye_gen (by rw [nD_map,List.length_map,perm_len hc]; omega) h2)
 rw [List.nil_append,← nD_map] at this
 exact this
theorem cycled_ok {j m n:Nat} {c:List Cell} (hP:Pot j m c) (h1:1≤n) (h8:n < 8):∃ s c',Latin n s∧Pot j m c'∧m_law_cycled [.ref j,.int (n:Int)] c=.ok (sqD n s) c':=by
 have hs:=small_line (n:=1000) (by decide)
 obtain ⟨r,v3,c1,hL,P1,e1⟩:=cyS_ok hP h1 h8
 obtain ⟨os,c2,ho,P2,o2⟩:=order_ok P1 h1 (show n < 1000 by omega)
 obtain ⟨ns,c3,hn,P3,o3⟩:=order_ok P2 h1 (show n < 1000 by omega)
 obtain ⟨cs,c4,hc,P4,o4⟩:=order_ok P3 h1 (show n < 1000 by omega)
 have e2:=cy2_gen (some (tbD n r)) v3 none none none o2
 have e3:=cy3_gen (some (tbD n r)) v3 (some (.tup (nD os))) none none o3
 have e4:=cy4_gen (some (tbD n r)) v3 (some (.tup (nD os))) (some (.tup (nD ns))) none o4
 have e5:=cy5_gen (a0:=some (.ref j)) (a1:=some (.int (n:Int))) (a3:=v3) (by rw [nD_map,List.length_map,perm_len ho]; omega) (cyc_comp hL h8 ho hn hc c4)
 refine ⟨fun i k=>ns.getD (r (os.getD i 0) (cs.getD k 0)) 0,c4,((hL.rows ho).cols hc).names hn,P4,?_⟩
 have hb:b_law_cycled=sSeq cyS (sSeq (sSet 4 (dCall 2 m_law_order (dCons (dVar 0) (dCons (dVar 1) dNil)))) (sSeq (sSet 5 (dCall 2 m_law_order (dCons (dVar 0) (dCons (dVar 1) dNil)))) (sSeq (sSet 6 (dCall 2 m_law_order (dCons (dVar 0) (dCons (dVar 1) dNil)))) (sRet (dCB tupleD (dCons (dComp (dSeqT (dVar 4)) [none,some 5,some 6,some 2] (gdName 0) dYes (dCB tupleD (dCons (dComp (dSeqT (dVar 2)) [none,some 1,some 3,some 0] (gdName 0) dYes (dBin ixD (dVar 1) (dBin ixD (dBin ixD (dVar 2) (dVar 3)) (dVar 0)))) dNil))) dNil)))))):=rfl
 have es:startD 7 [D.ref j,.int (n:Int)]=[some (.ref j),some (.int (n:Int)),none,none,none,none,none]:=rfl
 have hq:D.tup (os.map fun i=>D.tup (nD ((List.range n).map fun k=>ns.getD (r i (cs.getD k 0)) 0)))=sqD n fun i k=>ns.getD (r (os.getD i 0) (cs.getD k 0)) 0:=sq_of (f:=fun i k=>ns.getD (r i (cs.getD k 0)) 0) (perm_len ho)
 rw [m_law_cycled,x_fn,hb,es,seq_ok e1,seq_ok e2,seq_ok e3,seq_ok e4,e5,hq]
 simp only [R.bind_ok]
 unfold sqD
 rw [q_tup,if_pos (noRefs_sq n _),List.take_of_length_le (by rw [P4.1,hP.1]; exact Nat.le_refl _)]
theorem sx0_gen {a0 a2:Option D} {c:List Cell}:(sSet 1 (dLstM (dCons (dLst (dInts [0,1,2,3,4,5])) (dCons (dLst (dInts [1,0,3,2,5,4])) (dCons (dLst (dInts [2,4,0,5,1,3])) (dCons (dLst (dInts [3,5,1,4,0,2])) (dCons (dLst (dInts [4,2,5,0,3,1])) dNil))))))) [a0,none,a2] c=.ok (.nx [a0,some (.ref c.length),a2]) (c ++ [.lst ((six.take 5).map fun l=>D.lst (nD l))]):=by
 simp [six,nD]
theorem sx1_gen {a0 a2:Option D} {c:List Cell}:(sDrop (dAppend (dVar 1) (dLst (dInts [5,3,4,1,2,0])))) [a0,some (.ref c.length),a2] (c ++ [.lst ((six.take 5).map fun l=>D.lst (nD l))])=.ok (.nx [a0,some (.ref c.length),a2]) (c ++ [.lst ((six.take 5).map (fun l=>D.lst (nD l)) ++ [D.lst (nD [5,3,4,1,2,0])])]):=by
 have h:=append_here (dO:=dVar 1) (da:=dLst (dInts [5,3,4,1,2,0])) (e:=[a0,some (.ref c.length),a2]) (c:=c) (acc:=(six.take 5).map fun l=>D.lst (nD l)) (y:=D.lst (nD [5,3,4,1,2,0])) (by simp) (by simp [nD]) (by simp [nD]) (by simp [six])
 simp only [x_drop,h,R.bind_ok]
theorem six_rows:(six.take 5).map (fun l=>D.lst (nD l)) ++ [D.lst (nD [5,3,4,1,2,0])]=(List.range 6).map fun i=>D.lst (nD (rowL 6 sixF i)):=by
 simp [six,rowL,sixF,nD,List.range_succ]
theorem sx2_gen {j:Nat} {T:D} {a1 a2:Option D} {c c':List Cell} (h:m_law_order [.ref j,.int 6] c=.ok T c'):(sSet 2 (dCall 2 m_law_order (dCons (dVar 0) (dCons (dC (.int 6)) dNil)))) [some (.ref j),a1,a2] c=.ok (.nx [some (.ref j),a1,some T]) c':=by
 simp only [x_set,x_call,x_cons,x_var,x_c,gz,gs,x_nil,R.bind_ok,List.length_cons,List.length_nil,if_pos,h]
 rfl
theorem sxe_gen {k:Nat} {i:Int} {l r:List D} {c:List Cell} (hk:c[k]? = some (.lst l)) (hi:atI l i=some (.lst r)):(dCB tupleD (dCons (dBin ixD (dVar 1) (dVar 0)) dNil)) [some (.int i),some (.ref k)] c=.ok (.tup r) c:=by
 have:ixD (.ref k) (.int i) c=.ok (.lst r) c:=by
  unfold ixD
  dsimp only [seqD]
  rw [hk]
  dsimp only
  rw [hi]
 simp only [x_cb,x_cons,x_bin,x_var,gz,gs,x_nil,R.bind_ok,this]
 rfl
theorem sx3_gen {k:Nat} {os l:List D} {a0:Option D} {c:List Cell} (hl:os.length < sizeLine) (h:compD (fun _=>True) (gdName 0) dYes (dCB tupleD (dCons (dBin ixD (dVar 1) (dVar 0)) dNil)) os [none,some (.ref k)] [] c=.ok l c):(sRet (dCB tupleD (dCons (dComp (dSeqT (dVar 2)) [none,some 1] (gdName 0) dYes (dCB tupleD (dCons (dBin ixD (dVar 1) (dVar 0)) dNil))) dNil))) [a0,some (.ref k),some (.tup os)] c=.ok (.rt (.tup l)) c:=by
 have hp:pickD [none,some 1] [a0,some (.ref k),some (.tup os)]=[none,some (.ref k)]:=rfl
 have hd:dSeqT (dVar 2) [a0,some (.ref k),some (.tup os)] c=.ok ⟨os,fun _=>True⟩ c:=rfl
 simp only [x_ret,x_cb,x_cons,x_comp,hd,x_nil,R.bind_ok]
 rw [if_pos hl,hp,h]
 rfl
theorem six_ok {j m:Nat} {c:List Cell} (hP:Pot j m c):∃ s c',Latin 6 s∧Pot j m c'∧m_law_six [.ref j] c=.ok (sqD 6 s) c':=by
 have hs:=small_line (n:=1000) (by decide)
 obtain ⟨hl,hj,p,hp⟩:=id hP
 have e0:=sx0_gen (a0:=some (.ref j)) (a2:=none) (c:=c)
 have e1:=sx1_gen (a0:=some (.ref j)) (a2:=none) (c:=c)
 rw [six_rows] at e1
 have P0:Pot j (c.length + 1) (c ++ [.lst ((List.range 6).map fun i=>D.lst (nD (rowL 6 sixF i)))]):=⟨by simp,by omega,p,by rw [List.getElem?_append_left (by omega)]; exact hp⟩
 obtain ⟨os,c2,ho,P2,f2,o2⟩:=order_f P0 (by decide) (show 6 < 1000 by decide)
 have g4:c2[c.length]? = some (.lst ((List.range 6).map fun i=>D.lst (nD (rowL 6 sixF i)))):=by rw [f2 c.length (by omega) (by omega)]; simp
 have e2:=sx2_gen (a1:=some (.ref c.length)) (a2:=none) o2
 have hc:=lst_comp (E:=[some (.ref c.length)]) (a:=(dCB tupleD (dCons (dBin ixD (dVar 1) (dVar 0)) dNil))) (c:=c2) (fun k:Nat=>D.int (k:Int)) (fun i=>D.tup (nD (rowL 6 sixF i))) os none [] (fun i hi=>sxe_gen g4 (atI_nat (by simp [perm_lt ho hi])))
 rw [List.nil_append,← nD_map] at hc
 have e3:=sx3_gen (a0:=some (.ref j)) (by rw [nD_map,List.length_map,perm_len ho]; omega) hc
 have hL:Latin 6 sixF:=⟨lat6.1,lat6.2⟩
 obtain ⟨g1,g2,p2,g3⟩:=P2
 refine ⟨fun i k=>sixF (os.getD i 0) k,c2.take c.length,hL.rows ho,⟨by rw [List.length_take]; omega,hj,p2,by rw [List.getElem?_take_of_lt (by omega)]; exact g3⟩,?_⟩
 have hb:b_law_six=sSeq (sSet 1 (dLstM (dCons (dLst (dInts [0,1,2,3,4,5])) (dCons (dLst (dInts [1,0,3,2,5,4])) (dCons (dLst (dInts [2,4,0,5,1,3])) (dCons (dLst (dInts [3,5,1,4,0,2])) (dCons (dLst (dInts [4,2,5,0,3,1])) dNil))))))) (sSeq (sDrop (dAppend (dVar 1) (dLst (dInts [5,3,4,1,2,0])))) (sSeq (sSet 2 (dCall 2 m_law_order (dCons (dVar 0) (dCons (dC (.int 6)) dNil)))) (sRet (dCB tupleD (dCons (dComp (dSeqT (dVar 2)) [none,some 1] (gdName 0) dYes (dCB tupleD (dCons (dBin ixD (dVar 1) (dVar 0)) dNil))) dNil))))):=rfl
 have es:startD 3 [D.ref j]=[some (.ref j),none,none]:=rfl
 have hq:D.tup (os.map fun i=>D.tup (nD (rowL 6 sixF i)))=sqD 6 fun i k=>sixF (os.getD i 0) k:=sq_of (f:=sixF) (perm_len ho)
 rw [m_law_six,x_fn,hb,es,seq_ok e0,seq_ok e1,seq_ok e2,e3,hq]
 simp only [R.bind_ok]
 unfold sqD
 rw [q_tup,if_pos (noRefs_sq 6 _)]
theorem ls_yes {j:Nat} {T:D} {a0:Option D} {c c1 c2:List Cell} (t:m_law_take [.ref j,.int 2] c=.ok (.int 0) c1) (h:m_law_six [.ref j] c1=.ok T c2):(sIf (dAndT (dBl (dBin eqD (dVar 1) (dC (.int 6)))) (dBl (dBin eqD (dCall 2 m_law_take (dCons (dVar 0) (dCons (dC (.int 2)) dNil))) (dC (.int 0))))) (sRet (dCall 1 m_law_six (dCons (dVar 0) dNil))) sNext) [some (.ref j),some (.int 6)] c=.ok (.rt T) c2:=by
 simp [t,h]
theorem ls_no6 {j:Nat} {x:Int} {c c1:List Cell} (t:m_law_take [.ref j,.int 2] c=.ok (.int x) c1) (hx:¬ x=0):(sIf (dAndT (dBl (dBin eqD (dVar 1) (dC (.int 6)))) (dBl (dBin eqD (dCall 2 m_law_take (dCons (dVar 0) (dCons (dC (.int 2)) dNil))) (dC (.int 0))))) (sRet (dCall 1 m_law_six (dCons (dVar 0) dNil))) sNext) [some (.ref j),some (.int 6)] c=.ok (.nx [some (.ref j),some (.int 6)]) c1:=by
 simp [t,hx]
theorem ls_no {j:Nat} {q:Int} {c:List Cell} (hq:¬ q=6):(sIf (dAndT (dBl (dBin eqD (dVar 1) (dC (.int 6)))) (dBl (dBin eqD (dCall 2 m_law_take (dCons (dVar 0) (dCons (dC (.int 2)) dNil))) (dC (.int 0))))) (sRet (dCall 1 m_law_six (dCons (dVar 0) dNil))) sNext) [some (.ref j),some (.int q)] c=.ok (.nx [some (.ref j),some (.int q)]) c:=by
 simp [hq]
theorem ls1_gen {j:Nat} {q:Int} {T:D} {c c':List Cell} (h:m_law_cycled [.ref j,.int q] c=.ok T c'):(sRet (dCall 2 m_law_cycled (dCons (dVar 0) (dCons (dVar 1) dNil)))) [some (.ref j),some (.int q)] c=.ok (.rt T) c':=by
 simp [h]
theorem drawn_ok {j m n:Nat} {c:List Cell} (hP:Pot j m c) (h1:1≤n) (h8:n < 8):∃ s c',Latin n s∧Pot j m c'∧m_law_square [.ref j,.int (n:Int)] c=.ok (sqD n s) c':=by
 have hb:b_law_square=sSeq (sIf (dAndT (dBl (dBin eqD (dVar 1) (dC (.int 6)))) (dBl (dBin eqD (dCall 2 m_law_take (dCons (dVar 0) (dCons (dC (.int 2)) dNil))) (dC (.int 0))))) (sRet (dCall 1 m_law_six (dCons (dVar 0) dNil))) sNext) (sRet (dCall 2 m_law_cycled (dCons (dVar 0) (dCons (dVar 1) dNil)))):=rfl
 have es:startD 2 [D.ref j,.int (n:Int)]=[some (.ref j),some (.int (n:Int))]:=rfl
 have fin:∀ {c'} {s:Nat→Nat→Nat},Pot j m c'→exitD false c.length (sqD n s) c'=.ok (sqD n s) c':=fun {c' s} P'=>by
  unfold sqD
  rw [q_tup,if_pos (noRefs_sq n _),List.take_of_length_le (by rw [P'.1,hP.1]; exact Nat.le_refl _)]
 by_cases h6:(n:Int)=6
 ·have:n=6:=by omega
  subst this
  obtain ⟨x,c1,x0,x1,P1,t1⟩:=take_ok (far:=2) hP (by decide) (by decide)
  by_cases hx:x=0
  ·subst hx
   obtain ⟨s,c2,hL,P2,h2⟩:=six_ok P1
   refine ⟨s,c2,hL,P2,?_⟩
   have e:=ls_yes (a0:=none) t1 h2
   rw [m_law_square,x_fn,hb,es,show ((6:Nat):Int)=6 from rfl,seq_rt e]
   exact fin P2
  ·obtain ⟨s,c2,hL,P2,h2⟩:=cycled_ok P1 h1 h8
   refine ⟨s,c2,hL,P2,?_⟩
   have e:=ls_no6 t1 hx
   rw [show ((6:Nat):Int)=6 from rfl] at h2
   rw [m_law_square,x_fn,hb,es,show ((6:Nat):Int)=6 from rfl,seq_ok e,ls1_gen h2]
   exact fin P2
 ·obtain ⟨s,c2,hL,P2,h2⟩:=cycled_ok hP h1 h8
  refine ⟨s,c2,hL,P2,?_⟩
  rw [m_law_square,x_fn,hb,es,seq_ok (ls_no h6),ls1_gen h2]
  exact fin P2
end Ev
namespace Ev
open PySem L2
noncomputable def tpD (p:List Nat):D:=.tup (nD p)
noncomputable def sgn (s:Nat→Nat→Nat) (p:List Nat):List Nat:=(List.range p.length).map fun i=>s i (p.getD i 0)
noncomputable def okC (s:Nat→Nat→Nat) (p:List Nat) (k:Nat):Bool:=!decide (k∈p) && !decide (s p.length k∈sgn s p)
noncomputable def extC (n:Nat) (s:Nat→Nat→Nat) (p:List Nat):List (List Nat):=((List.range n).filter (okC s p)).map fun k=>p ++ [k]
noncomputable def itC (n:Nat) (s:Nat→Nat→Nat):Nat→List (List Nat)→List (List Nat)
 | 0,L=>L
 | k + 1,L=>itC n s k (L.flatMap (extC n s))
theorem itC_flat {n:Nat} {s:Nat→Nat→Nat}:∀ (k:Nat) (L:List (List Nat)),itC n s k L=L.flatMap fun p=>itC n s k [p]
 | 0,L=>by simp [itC]
 | k + 1,L=>by
  show itC n s k (L.flatMap (extC n s))=L.flatMap fun p=>itC n s k ([p].flatMap (extC n s))
  rw [itC_flat k,List.flatMap_assoc]
  congr 1
  funext p
  rw [itC_flat k ([p].flatMap (extC n s))]
  simp
theorem itC_succ {n:Nat} {s:Nat→Nat→Nat} (k:Nat) (L:List (List Nat)):itC n s (k + 1) L=(itC n s k L).flatMap (extC n s):=by
 induction k generalizing L with
 | zero=>rfl
 | succ k ih=>exact ih _
theorem ext_le (n:Nat) (s:Nat→Nat→Nat) (p:List Nat):(extC n s p).length≤n:=by
 unfold extC
 rw [List.length_map]
 exact Nat.le_trans (List.length_filter_le _ _) (by simp)
theorem flat_le {α β:Type} (f:α→List β) (n:Nat) (h:∀ a,(f a).length≤n):∀ l:List α,(l.flatMap f).length≤n * l.length
 | []=>by simp
 | a :: l=>by
  have h1:=h a
  have h2:=flat_le f n h l
  rw [List.flatMap_cons,List.length_append,List.length_cons,Nat.mul_succ]
  omega
theorem itC_le {n:Nat} (h7:n≤7) (s:Nat→Nat→Nat) (p:List Nat):∀ k,(itC n s k [p]).length≤7 ^ k
 | 0=>by simp [itC]
 | k + 1=>by
  rw [itC_succ,Nat.pow_succ]
  have h1:=flat_le (extC n s) 7 (fun a=>Nat.le_trans (ext_le n s a) h7) (itC n s k [p])
  have h2:=itC_le h7 s p k
  omega
theorem itC_small {n:Nat} (h7:n≤7) (s:Nat→Nat→Nat) (p:List Nat) (k:Nat) (hk:k≤7):(itC n s k [p]).length≤900000:=by
 refine Nat.le_trans (itC_le h7 s p k) ?_
 exact Nat.le_trans (Nat.pow_le_pow_right (by decide) hk) (by decide)
theorem ext_mem {n:Nat} {s:Nat→Nat→Nat} {p q:List Nat} (h:q∈extC n s p):∃ k,k < n∧q=p ++ [k]:=by
 unfold extC at h
 obtain ⟨k,hk,rfl⟩:=List.mem_map.mp h
 exact ⟨k,List.mem_range.mp (List.mem_filter.mp hk).1,rfl⟩
noncomputable def Pre (n i:Nat) (p:List Nat):Prop:=p.length=i∧∀ x∈p,x < n
theorem Pre.snoc {n i:Nat} {p:List Nat} (h:Pre n i p) {k:Nat} (hk:k < n):Pre n (i + 1) (p ++ [k]):=by
 refine ⟨by simp [h.1],fun x hx=>?_⟩
 rcases List.mem_append.mp hx with hx | hx
 ·exact h.2 x hx
 ·rw [List.mem_singleton.mp hx]; exact hk
theorem itC_pre {n:Nat} {s:Nat→Nat→Nat}:∀ k,∀ p∈itC n s k [[]],Pre n k p
 | 0,p,h=>by
  have:p=[]:=List.mem_singleton.mp h
  subst this
  exact ⟨rfl,fun x hx=>nomatch hx⟩
 | k + 1,p,h=>by
  rw [itC_succ] at h
  obtain ⟨q,hq,hp⟩:=List.mem_flatMap.mp h
  obtain ⟨x,hx,rfl⟩:=ext_mem hp
  exact (itC_pre k q hq).snoc hx
theorem sgn_snoc (s:Nat→Nat→Nat) (p:List Nat) (k:Nat):sgn s (p ++ [k])=sgn s p ++ [s p.length k]:=by
 unfold sgn
 rw [List.length_append,List.length_singleton,List.range_succ,List.map_append]
 congr 1
 ·refine List.map_congr_left fun i hi=>?_
  rw [List.getD_eq_getElem?_getD,List.getD_eq_getElem?_getD,List.getElem?_append_left (List.mem_range.mp hi)]
 ·simp [List.getD_eq_getElem?_getD]
theorem dat_nD:∀ l:List Nat,datDs (nD l)=some (l.map fun n:Nat=>PyData.int (n:Int))
 | []=>rfl
 | n :: ns=>by
  show (match datD (.int (n:Int)),datDs (nD ns) with | some a,some r=>some (a :: r) | _,_=>none)=_
  rw [dat_nD ns]
  rfl
theorem any_eqv (l:List Nat) (k:Nat):((l.map fun n:Nat=>PyData.int (n:Int)).any fun z=>z.eqv (.int (k:Int)))=decide (k∈l):=by
 rw [List.any_map,Bool.eq_iff_iff,List.any_eq_true,decide_eq_true_eq]
 refine ⟨fun ⟨x,hx,e⟩=>?_,fun h=>⟨k,h,?_⟩⟩
 ·have:(x:Int)=(k:Int):=by simpa [PyData.eqv] using e
  have:x=k:=by omega
  exact this ▸ hx
 ·simp [PyData.eqv]
theorem notinT (l:List Nat) (k:Nat) (c:List Cell):notInD (.int (k:Int)) (.tup (nD l)) c=.ok (.bl (!decide (k∈l))) c:=by
 have h1:datC c (.int (k:Int))=some (.int (k:Int)):=rfl
 have h2:datC c (.tup (nD l))=some (.tuple (l.map fun n:Nat=>PyData.int (n:Int))):=by
  show (match datDs (nD l) with | some r=>some (PyData.tuple r) | none=>none)=_
  rw [dat_nD]
 unfold notInD
 rw [h1,h2]
 dsimp only
 rw [if_pos (by simp [PyData.depth]),any_eqv]
theorem notinL (l:List Nat) (k:Nat) (c:List Cell):notInD (.int (k:Int)) (.lst (nD l)) c=.ok (.bl (!decide (k∈l))) c:=by
 have h1:datC c (.int (k:Int))=some (.int (k:Int)):=rfl
 have h2:datC c (.lst (nD l))=some (.list (l.map fun n:Nat=>PyData.int (n:Int))):=by
  show (match datDs (nD l) with | some r=>some (PyData.list r) | none=>none)=_
  rw [dat_nD]
 unfold notInD
 rw [h1,h2]
 dsimp only
 rw [if_pos (by simp [PyData.depth]),any_eqv]
theorem pair_comp {α:Type} {a:Ev→List Cell→R D} {c:List Cell} (g h F:α→D):∀ (l:List α) (v w:Option D) (acc:List D),(∀ x∈l,a [some (g x),some (h x)] c=.ok (F x) c)→compD (fun _=>True) (gdTup 2 (gdCons (gdName 0) (gdCons (gdName 1) gdNil))) dYes a (l.map fun x=>.tup [g x,h x]) [v,w] acc c=.ok (acc ++ l.map F) c
 | [],v,w,acc,_=>by simp
 | x :: l,v,w,acc,H=>by
  have h1:gdTup 2 (gdCons (gdName 0) (gdCons (gdName 1) gdNil)) (.tup [g x,h x]) [v,w] c=.ok [some (g x),some (h x)] c:=rfl
  rw [List.map_cons,comp_cons,h1,R.bind_ok,x_yes,R.bind_ok,if_pos rfl,H x (.head _),R.bind_ok,pair_comp g h F l _ _ _ (fun z hz=>H z (.tail _ hz)),List.append_assoc]
  rfl
theorem filt_comp {α:Type} {E:List (Option D)} {t:Ev→List Cell→R Bool} {a:Ev→List Cell→R D} {c:List Cell} (g F:α→D) (b:α→Bool):∀ (l:List α) (v:Option D) (acc:List D),(∀ x∈l,t (some (g x) :: E) c=.ok (b x) c)→(∀ x∈l,b x=true→a (some (g x) :: E) c=.ok (F x) c)→compD (fun _=>True) (gdName 0) t a (l.map g) (v :: E) acc c=.ok (acc ++ (l.filter b).map F) c
 | [],v,acc,_,_=>by simp
 | x :: l,v,acc,h1,h2=>by
  have e1:gdName 0 (g x) (v :: E) c=.ok (some (g x) :: E) c:=rfl
  rw [List.map_cons,comp_cons,e1,R.bind_ok,h1 x (.head _),R.bind_ok]
  cases hb:b x with
  | true =>
   rw [if_pos rfl,h2 x (.head _) hb,R.bind_ok,filt_comp g F b l _ _ (fun z hz=>h1 z (.tail _ hz)) (fun z hz=>h2 z (.tail _ hz)),List.filter_cons_of_pos hb,List.append_assoc]
   rfl
  | false =>
   rw [if_neg (by decide),filt_comp g F b l _ _ (fun z hz=>h1 z (.tail _ hz)) (fun z hz=>h2 z (.tail _ hz)),List.filter_cons_of_neg (by simp [hb])]
theorem rngD_map (m:Nat):rngD 0 (m:Int)=(List.range m).map fun k:Nat=>D.int (k:Int):=by
 have:=rng_map m id
 rw [List.map_id] at this
 exact this
theorem sq_ix {n:Nat} (s:Nat→Nat→Nat) {i:Nat} (hi:i < n) (c:List Cell):ixD (sqD n s) (.int (i:Int)) c=.ok (.tup (nD ((List.range n).map (s i)))) c:=by
 unfold sqD
 rw [x_ixT,atI_nat (v:=.tup (nD ((List.range n).map (s i)))) (by simp [hi])]
theorem sr_ix {n:Nat} (s:Nat→Nat→Nat) (i:Nat) {k:Nat} (hk:k < n) (c:List Cell):ixD (.tup (nD ((List.range n).map (s i)))) (.int (k:Int)) c=.ok (.int (s i k:Nat)) c:=by
 rw [x_ixT,atI_nat (v:=.int (s i k:Nat)) (by simp [nD,hk])]
theorem zip_sq {n:Nat} (s:Nat→Nat→Nat) {p:List Nat} (h:p.length≤n):List.zipWith (fun x y=>D.tup [x,y]) ((List.range n).map fun i=>D.tup (nD ((List.range n).map (s i)))) (nD p)=(List.range p.length).map fun i=>D.tup [.tup (nD ((List.range n).map (s i))),.int (p.getD i 0:Nat)]:=by
 refine List.ext_getElem (by simp [nD]; omega) fun i h1 h2=>?_
 have hi:i < p.length:=by simpa using h2
 simp [nD,List.getD_eq_getElem?_getD,hi]
theorem go0_gen {xs ys l:List D} {q:Option D} {c:List Cell} (hl:(List.zipWith (fun x y=>D.tup [x,y]) xs ys).length < sizeLine) (h:compD (fun _=>True) (gdTup 2 (gdCons (gdName 0) (gdCons (gdName 1) gdNil))) dYes (dBin ixD (dVar 0) (dVar 1)) (List.zipWith (fun x y=>D.tup [x,y]) xs ys) [none,none] [] c=.ok l c):(sSet 3 (dComp (dZip2 (dCons (dVar 0) (dCons (dVar 1) dNil))) [none,none] (gdTup 2 (gdCons (gdName 0) (gdCons (gdName 1) gdNil))) dYes (dBin ixD (dVar 0) (dVar 1)))) [some (.tup xs),some (.tup ys),q,none] c=.ok (.nx [some (.tup xs),some (.tup ys),q,some (.lst l)]) c:=by
 have hp:pickD [none,none] [some (.tup xs),some (.tup ys),q,none]=[none,none]:=rfl
 have hd:dZip2 (dCons (dVar 0) (dCons (dVar 1) dNil)) [some (.tup xs),some (.tup ys),q,none] c=.ok ⟨List.zipWith (fun x y=>D.tup [x,y]) xs ys,fun _=>True⟩ c:=rfl
 simp only [x_set,x_comp,hd,R.bind_ok]
 rw [if_pos hl,hp,h]
 rfl
theorem go1_gen {S T r G:D} {k m x:Int} {b1 b2:Bool} {c:List Cell} (h1:notInD (.int k) T c=.ok (.bl b1) c) (hl:lenD [T] c=.ok (.int m) c) (h2:ixD S (.int m) c=.ok r c) (h3:ixD r (.int k) c=.ok (.int x) c) (h4:notInD (.int x) G c=.ok (.bl b2) c):(sRet (dAndV (dBin notInD (dVar 2) (dVar 1)) (dBin notInD (dBin ixD (dBin ixD (dVar 0) (dCB lenD (dCons (dVar 1) dNil))) (dVar 2)) (dVar 3)))) [some S,some T,some (.int k),some G] c=.ok (.rt (.bl (b1 && b2))) c:=by
 cases b1 <;> simp [h1,hl,h2,h3,h4]
theorem goe_gen {r:D} {k x:Int} {c:List Cell} (h:ixD r (.int k) c=.ok (.int x) c):(dBin ixD (dVar 0) (dVar 1)) [some r,some (.int k)] c=.ok (.int x) c:=by
 simp [h]
theorem lenT (p:List Nat) (c:List Cell):lenD [.tup (nD p)] c=.ok (.int (p.length:Int)) c:=by
 rw [x_lenT]
 simp [nD]
theorem go_ok {n i k:Nat} {s:Nat→Nat→Nat} {p:List Nat} (h8:n < 8) (hp:Pre n i p) (hi:i < n) (hk:k < n) (c:List Cell):m_can_go_on [sqD n s,tpD p,.int (k:Int)] c=.ok (.bl (okC s p k)) c:=by
 have hs:=small_line (n:=1000) (by decide)
 obtain ⟨hl,hx⟩:=hp
 subst hl
 have hz:=zip_sq s (Nat.le_of_lt hi)
 have hc:=pair_comp (a:=(dBin ixD (dVar 0) (dVar 1))) (c:=c) (fun i=>D.tup (nD ((List.range n).map (s i)))) (fun i=>.int (p.getD i 0:Nat)) (fun i=>.int (s i (p.getD i 0):Nat)) (List.range p.length) none none [] (fun i hi'=>goe_gen (sr_ix s i (by
  have hi':=List.mem_range.mp hi'
  refine hx _ ?_
  rw [List.getD_eq_getElem?_getD,List.getElem?_eq_getElem hi']
  exact List.getElem_mem _) c))
 rw [← hz,List.nil_append] at hc
 have e0:=go0_gen (q:=some (.int (k:Int))) (by rw [hz,List.length_map,List.length_range]; omega) hc
 have hg:((List.range p.length).map fun i=>D.int (s i (p.getD i 0):Nat))=nD (sgn s p):=by rw [nD_map]; unfold sgn; rw [List.map_map]; rfl
 rw [hg] at e0
 have e1:=go1_gen (notinT p k c) (lenT p c) (sq_ix s hi c) (sr_ix s p.length hk c) (notinL (sgn s p) (s p.length k) c)
 have hb:b_can_go_on=sSeq (sSet 3 (dComp (dZip2 (dCons (dVar 0) (dCons (dVar 1) dNil))) [none,none] (gdTup 2 (gdCons (gdName 0) (gdCons (gdName 1) gdNil))) dYes (dBin ixD (dVar 0) (dVar 1)))) (sRet (dAndV (dBin notInD (dVar 2) (dVar 1)) (dBin notInD (dBin ixD (dBin ixD (dVar 0) (dCB lenD (dCons (dVar 1) dNil))) (dVar 2)) (dVar 3)))):=rfl
 have es:startD 4 [sqD n s,tpD p,.int (k:Int)]=[some (.tup ((List.range n).map fun i=>D.tup (nD ((List.range n).map (s i))))),some (.tup (nD p)),some (.int (k:Int)),none]:=rfl
 rw [m_can_go_on,x_fn,hb,es,seq_ok e0]
 rw [show (some (D.tup ((List.range n).map fun i=>D.tup (nD ((List.range n).map (s i))))))=some (sqD n s) from rfl,e1]
 simp only [R.bind_ok]
 rw [q_bl,List.take_length]
 rfl
theorem cx_t {S P:D} {k:Int} {b:Bool} {c:List Cell} (h:m_can_go_on [S,P,.int k] c=.ok (.bl b) c):(dBl (dCall 3 m_can_go_on (dCons (dVar 2) (dCons (dVar 1) (dCons (dVar 0) dNil))))) [some (.int k),some P,some S] c=.ok b c:=by
 simp [h]
theorem cx_e {xs:List D} {S:D} {k:Int} {c:List Cell} (h:xs.length + 1≤sizeLine):(dBin catT (dVar 1) (dTup (dCons (dVar 0) dNil))) [some (.int k),some (.tup xs),some S] c=.ok (.tup (xs ++ [.int k])) c:=by
 simp [catT,h]
theorem snoc_nD (p:List Nat) (k:Nat):nD p ++ [D.int (k:Int)]=nD (p ++ [k]):=by simp [nD]
theorem ext_comp {n i:Nat} {s:Nat→Nat→Nat} {p:List Nat} (h8:n < 8) (hp:Pre n i p) (hi:i < n) (c:List Cell):compD (fun _=>True) (gdName 0) (dBl (dCall 3 m_can_go_on (dCons (dVar 2) (dCons (dVar 1) (dCons (dVar 0) dNil))))) (dBin catT (dVar 1) (dTup (dCons (dVar 0) dNil))) (rngD 0 (n:Int)) [none,some (tpD p),some (sqD n s)] [] c=.ok ((extC n s p).map tpD) c:=by
 have hs:=small_line (n:=1000) (by decide)
 have:=filt_comp (E:=[some (tpD p),some (sqD n s)]) (t:=(dBl (dCall 3 m_can_go_on (dCons (dVar 2) (dCons (dVar 1) (dCons (dVar 0) dNil)))))) (a:=(dBin catT (dVar 1) (dTup (dCons (dVar 0) dNil)))) (c:=c) (fun k:Nat=>D.int (k:Int)) (fun k=>tpD (p ++ [k])) (okC s p) (List.range n) none [] (fun k hk=>cx_t (go_ok h8 hp hi (List.mem_range.mp hk) c)) (fun k hk _=>by
  have:=cx_e (xs:=nD p) (S:=sqD n s) (k:=(k:Int)) (c:=c) (by simp only [nD,List.length_map]; rw [hp.1]; omega)
  rw [snoc_nD] at this
  exact this)
 rw [List.nil_append,← rngD_map] at this
 rw [this]
 unfold extC
 rw [List.map_map]
 rfl
theorem cb_gen {S T P:D} {k:Nat} {q:Int} {l m:List D} {a1:Option D} {c:List Cell} (hl:lenD [T] c=.ok (.int q) c) (b:-4611686018427387904≤q∧q < 4611686018427387904) (hlr:(rngD 0 q).length < sizeLine) (h:compD (fun _=>True) (gdName 0) (dBl (dCall 3 m_can_go_on (dCons (dVar 2) (dCons (dVar 1) (dCons (dVar 0) dNil))))) (dBin catT (dVar 1) (dTup (dCons (dVar 0) dNil))) (rngD 0 q) [none,some P,some S] [] c=.ok m c) (hk:c[k]? = some (.lst l)) (hs:l.length + m.length≤sizeLine) (hm:noRefs m=true) :
  (sDrop (dExtend (dVar 3) (dComp (dRng1 (dCons (dCB lenD (dCons (dVar 2) dNil)) dNil)) [none,some 4,some 0] (gdName 0) (dBl (dCall 3 m_can_go_on (dCons (dVar 2) (dCons (dVar 1) (dCons (dVar 0) dNil))))) (dBin catT (dVar 1) (dTup (dCons (dVar 0) dNil)))))) [some S,a1,some T,some (.ref k),some P] c=.ok (.nx [some S,a1,some T,some (.ref k),some P]) (c.set k (.lst (l ++ m))):=by
 have hp:pickD [none,some 4,some 0] [some S,a1,some T,some (.ref k),some P]=[none,some P,some S]:=rfl
 have hv:dVar 3 [some S,a1,some T,some (.ref k),some P] c=.ok (.ref k) c:=rfl
 have hr:dRng1 (dCons (dCB lenD (dCons (dVar 2) dNil)) dNil) [some S,a1,some T,some (.ref k),some P] c=.ok ⟨rngD 0 q,fun _=>True⟩ c:=by
  simp only [x_rng1,x_cons,x_cb,x_var,gz,gs,x_nil,R.bind_ok,hl]
  rw [if_pos (by omega)]
 rw [x_drop]
 unfold dExtend
 rw [hv,R.bind_ok]
 simp only [x_comp,hr,R.bind_ok]
 rw [if_pos hlr,hp,h]
 simp only [R.bind_ok,hk]
 rw [if_pos ⟨hs,hm⟩]
 rfl
theorem tp_noRefs (L:List (List Nat)):noRefs (L.map tpD)=true:=noRefs_iff.mpr fun d hd=>by
 obtain ⟨p,_,rfl⟩:=List.mem_map.mp hd
 unfold tpD
 rw [r_tup]
 exact noRefs_nD _
theorem set_self {α:Type}:∀ {l:List α} {i:Nat} {a:α},l[i]? = some a→l.set i a=l
 | [],i,a,h=>rfl
 | b :: l,0,a,h=>by cases h; rfl
 | b :: l,i + 1,a,h=>by rw [List.set_cons_succ,set_self (l:=l) (i:=i) (by simpa using h)]
theorem inner_ok {n i kf kl:Nat} {s:Nat→Nat→Nat} {L:List D} (h8:n < 8) (hi:i < n) (hne:kf≠kl):∀ (ps:List (List Nat)) (v:Option D) (acc:List (List Nat)) (c:List Cell),(∀ p∈ps,Pre n i p)→c[kf]? = some (.lst L)→c[kl]? = some (.lst (acc.map tpD))→(acc ++ ps.flatMap (extC n s)).length≤900000 →
  ∃ v',forD (fun c'=>c'[kf]? = some (.lst L)) (gdName 4) (sDrop (dExtend (dVar 3) (dComp (dRng1 (dCons (dCB lenD (dCons (dVar 2) dNil)) dNil)) [none,some 4,some 0] (gdName 0) (dBl (dCall 3 m_can_go_on (dCons (dVar 2) (dCons (dVar 1) (dCons (dVar 0) dNil))))) (dBin catT (dVar 1) (dTup (dCons (dVar 0) dNil)))))) (ps.map tpD) [some (sqD n s),some (.ref kf),some (.tup (nD ((List.range n).map (s i)))),some (.ref kl),v] c=.ok (.nx [some (sqD n s),some (.ref kf),some (.tup (nD ((List.range n).map (s i)))),some (.ref kl),v']) (c.set kl (.lst ((acc ++ ps.flatMap (extC n s)).map tpD)))
 | [],v,acc,c,_,hf,hl,_=>by
  refine ⟨v,?_⟩
  rw [List.map_nil]
  unfold forD
  rw [if_pos hf,List.flatMap_nil,List.append_nil,set_self hl]
 | p :: ps,v,acc,c,hp,hf,hl,hb=>by
  have hs9:900000≤sizeLine:=by decide
  have hs:=small_line (n:=1000) (by decide)
  have hb1:(acc ++ extC n s p).length≤900000:=by
   rw [List.flatMap_cons,← List.append_assoc,List.length_append] at hb
   omega
  have hlen:lenD [.tup (nD ((List.range n).map (s i)))] c=.ok (.int (n:Int)) c:=by rw [lenT,List.length_map,List.length_range]
  have e1:=cb_gen (a1:=some (.ref kf)) hlen (by omega) (by rw [rng_len]; omega) (ext_comp (s:=s) h8 (hp p (.head _)) hi c) hl (by rw [List.length_map,List.length_map,← List.length_append]; omega) (tp_noRefs _)
  rw [← List.map_append] at e1
  have hkl:kl < c.length:=(List.getElem?_eq_some_iff.mp hl).1
  obtain ⟨v',h⟩:=inner_ok (L:=L) h8 hi hne ps (some (tpD p)) (acc ++ extC n s p) (c.set kl (.lst ((acc ++ extC n s p).map tpD))) (fun q hq=>hp q (.tail _ hq)) (by rw [List.getElem?_set_ne (Ne.symm hne)]; exact hf) (by rw [List.getElem?_set_self hkl]) (by rw [List.append_assoc,← List.flatMap_cons]; exact hb)
  refine ⟨v',?_⟩
  have g1:gdName 4 (tpD p) [some (sqD n s),some (.ref kf),some (.tup (nD ((List.range n).map (s i)))),some (.ref kl),v] c=.ok [some (sqD n s),some (.ref kf),some (.tup (nD ((List.range n).map (s i)))),some (.ref kl),some (tpD p)] c:=rfl
  rw [List.map_cons]
  conv=>lhs; unfold forD
  rw [if_pos hf,g1,R.bind_ok,e1,R.bind_ok]
  simp only
  rw [h,List.set_set,List.append_assoc,← List.flatMap_cons]
noncomputable def cuB:Ev→List Cell→R Fl:=(sDrop (dExtend (dVar 3) (dComp (dRng1 (dCons (dCB lenD (dCons (dVar 2) dNil)) dNil)) [none,some 4,some 0] (gdName 0) (dBl (dCall 3 m_can_go_on (dCons (dVar 2) (dCons (dVar 1) (dCons (dVar 0) dNil))))) (dBin catT (dVar 1) (dTup (dCons (dVar 0) dNil))))))
theorem row_gen {S T:D} {kf:Nat} {l:List D} {e':Ev} {c1 c2:List Cell} {v3 v4:Option D} {c:List Cell} (hc:c1=c ++ [.lst []]) (hf:c1[kf]? = some (.lst l)) (h:forD (fun c'=>c'[kf]? = some (.lst l)) (gdName 4) cuB l [some S,some (.ref kf),some T,some (.ref c.length),v4] c1=.ok (.nx e') c2):(sSeq (sSet 3 (dLstM dNil)) (sFor (dSeq (dVar 1)) (gdName 4) cuB)) [some S,some (.ref kf),some T,v3,v4] c=.ok (.nx e') c2:=by
 have e1:sSet 3 (dLstM dNil) [some S,some (.ref kf),some T,v3,v4] c=.ok (.nx [some S,some (.ref kf),some T,some (.ref c.length),v4]) c1:=by
  subst hc
  simp
 have hd:dSeq (dVar 1) [some S,some (.ref kf),some T,some (.ref c.length),v4] c1=.ok ⟨l,fun c'=>c'[kf]? = some (.lst l)⟩ c1:=by
  simp only [x_seqS,x_var,gz,gs,R.bind_ok,hf]
 rw [seq_ok e1,x_for,hd,R.bind_ok]
 exact h
theorem seq_assoc (a b d:Ev→List Cell→R Fl) (e:Ev) (c:List Cell):sSeq a (sSeq b d) e c=sSeq (sSeq a b) d e c:=by
 simp only [x_seq]
 cases a e c with
 | bad=>rfl
 | ok f c1 =>
  simp only [R.bind_ok]
  cases f <;> rfl
structure CutI (n:Nat) (s:Nat→Nat→Nat) (c0:List Cell) (i:Nat) (e:Ev) (c:List Cell):Prop where
 env:∃ kf w2 w3 w4,e=[some (sqD n s),some (.ref kf),w2,w3,w4]∧c0.length≤kf∧c[kf]? = some (.lst ((itC n s i [[]]).map tpD))
 pre:c.take c0.length=c0
theorem row_ok {n i:Nat} {s:Nat→Nat→Nat} {c0:List Cell} (h8:n < 8) (hi:i < n) {e:Ev} {c:List Cell} (I:CutI n s c0 i e c):∃ e' c',(sSeq (sSet 3 (dLstM dNil)) (sSeq (sFor (dSeq (dVar 1)) (gdName 4) (sDrop (dExtend (dVar 3) (dComp (dRng1 (dCons (dCB lenD (dCons (dVar 2) dNil)) dNil)) [none,some 4,some 0] (gdName 0) (dBl (dCall 3 m_can_go_on (dCons (dVar 2) (dCons (dVar 1) (dCons (dVar 0) dNil))))) (dBin catT (dVar 1) (dTup (dCons (dVar 0) dNil))))))) (sSet 1 (dVar 3)))) (e.set 2 (some (.tup (nD ((List.range n).map (s i)))))) c=.ok (.nx e') c'∧CutI n s c0 (i + 1) e' c':=by
 obtain ⟨⟨kf,w2,w3,w4,rfl,h1,h2⟩,h3⟩:=I
 have hkf:kf < c.length:=(List.getElem?_eq_some_iff.mp h2).1
 have hb:=itC_small (n:=n) (show n≤7 by omega) s [] (i + 1) (by omega)
 obtain ⟨v',h⟩:=inner_ok (n:=n) (i:=i) (kf:=kf) (kl:=c.length) (s:=s) (L:=(itC n s i [[]]).map tpD) h8 hi (by omega) (itC n s i [[]]) w4 [] (c ++ [.lst []]) (itC_pre i) (by rw [List.getElem?_append_left hkf]; exact h2) (by simp) (by rw [List.nil_append,← itC_succ]; exact hb)
 have e1:=row_gen (S:=sqD n s) (v3:=w3) rfl (by rw [List.getElem?_append_left hkf]; exact h2) h
 rw [List.nil_append,← itC_succ] at e1
 refine ⟨_,(c ++ [Cell.lst []]).set c.length (Cell.lst ((itC n s (i + 1) [[]]).map tpD)),?_,⟨⟨c.length,some (.tup (nD ((List.range n).map (s i)))),some (.ref c.length),v',rfl,by omega,by rw [List.getElem?_set_self (by simp)]⟩,?_⟩⟩
 ·show (sSeq (sSet 3 (dLstM dNil)) (sSeq (sFor (dSeq (dVar 1)) (gdName 4) (sDrop (dExtend (dVar 3) (dComp (dRng1 (dCons (dCB lenD (dCons (dVar 2) dNil)) dNil)) [none,some 4,some 0] (gdName 0) (dBl (dCall 3 m_can_go_on (dCons (dVar 2) (dCons (dVar 1) (dCons (dVar 0) dNil))))) (dBin catT (dVar 1) (dTup (dCons (dVar 0) dNil))))))) (sSet 1 (dVar 3)))) [some (sqD n s),some (.ref kf),some (.tup (nD ((List.range n).map (s i)))),w3,w4] c=_
  have hb:(sSeq (sSet 3 (dLstM dNil)) (sSeq (sFor (dSeq (dVar 1)) (gdName 4) (sDrop (dExtend (dVar 3) (dComp (dRng1 (dCons (dCB lenD (dCons (dVar 2) dNil)) dNil)) [none,some 4,some 0] (gdName 0) (dBl (dCall 3 m_can_go_on (dCons (dVar 2) (dCons (dVar 1) (dCons (dVar 0) dNil))))) (dBin catT (dVar 1) (dTup (dCons (dVar 0) dNil))))))) (sSet 1 (dVar 3))))=sSeq (sSet 3 (dLstM dNil)) (sSeq (sFor (dSeq (dVar 1)) (gdName 4) cuB) (sSet 1 (dVar 3))):=rfl
  rw [hb,seq_assoc,seq_ok e1]
  rfl
 ·rw [List.take_set_of_le (by omega),List.take_append_of_le_length (by omega),h3]
theorem cuts_run {n:Nat} {s:Nat→Nat→Nat} (hL:Latin n s) (h1:1≤n) (h8:n < 8) (c:List Cell):∃ kf c2,b_cuts (startD 5 [sqD n s]) c=.ok (.rt (.ref kf)) c2∧c2[kf]? = some (.lst ((itC n s n [[]]).map tpD))∧c.length≤kf∧c2.take c.length=c:=by
 have hsq:=square_ok hL h1 (by omega) c
 have hreq:m_require_square [sqD n s] c=.ok .non c:=by
  generalize sqD n s=S at *
  simp [m_require_square,b_require_square,hsq]
 have e0:(sDrop (dCall 1 m_require_square (dCons (dVar 0) dNil))) [some (sqD n s),none,none,none,none] c=.ok (.nx [some (sqD n s),none,none,none,none]) c:=by
  generalize sqD n s=S at *
  simp [hreq]
 have e1:(sSet 1 (dLstM (dCons (dTup dNil) dNil))) [some (sqD n s),none,none,none,none] c=.ok (.nx [some (sqD n s),some (.ref c.length),none,none,none]) (c ++ [.lst [.tup []]]):=by
  generalize sqD n s=S at *
  simp
 obtain ⟨e2,c2,I2,h2⟩:=for_invI (g:=gdName 2) (s:=(sSeq (sSet 3 (dLstM dNil)) (sSeq (sFor (dSeq (dVar 1)) (gdName 4) (sDrop (dExtend (dVar 3) (dComp (dRng1 (dCons (dCB lenD (dCons (dVar 2) dNil)) dNil)) [none,some 4,some 0] (gdName 0) (dBl (dCall 3 m_can_go_on (dCons (dVar 2) (dCons (dVar 1) (dCons (dVar 0) dNil))))) (dBin catT (dVar 1) (dTup (dCons (dVar 0) dNil))))))) (sSet 1 (dVar 3))))) (fun i e c'=>CutI n s c i e c') ((List.range n).map fun i=>D.tup (nD ((List.range n).map (s i)))) 0 [some (sqD n s),some (.ref c.length),none,none,none] (c ++ [.lst [.tup []]]) ⟨⟨c.length,none,none,none,rfl,Nat.le_refl _,by simp [itC,tpD,nD]⟩,by simp⟩ (fun i x hx e c' I=>by
  have hi:i < n:=by have:=(List.getElem?_eq_some_iff.mp hx).1; simpa using this
  have hx':x=D.tup (nD ((List.range n).map (s i))):=by
   rw [List.getElem?_map,List.getElem?_range hi] at hx
   exact (Option.some.inj hx).symm
  subst hx'
  rw [Nat.zero_add] at I ⊢
  obtain ⟨e',c'',h,J⟩:=row_ok h8 hi I
  exact ⟨_,e',c',c'',rfl,h,J⟩)
 rw [Nat.zero_add,List.length_map,List.length_range] at I2
 obtain ⟨⟨kf,w2,w3,w4,rfl,g1,g2⟩,g3⟩:=I2
 have e2:(sFor (dSeqT (dVar 0)) (gdName 2) (sSeq (sSet 3 (dLstM dNil)) (sSeq (sFor (dSeq (dVar 1)) (gdName 4) (sDrop (dExtend (dVar 3) (dComp (dRng1 (dCons (dCB lenD (dCons (dVar 2) dNil)) dNil)) [none,some 4,some 0] (gdName 0) (dBl (dCall 3 m_can_go_on (dCons (dVar 2) (dCons (dVar 1) (dCons (dVar 0) dNil))))) (dBin catT (dVar 1) (dTup (dCons (dVar 0) dNil))))))) (sSet 1 (dVar 3))))) [some (sqD n s),some (.ref c.length),none,none,none] (c ++ [.lst [.tup []]])=.ok (.nx [some (sqD n s),some (.ref kf),w2,w3,w4]) c2:=by
  rw [x_for]
  exact h2
 have hb:b_cuts=sSeq (sDrop (dCall 1 m_require_square (dCons (dVar 0) dNil))) (sSeq (sSet 1 (dLstM (dCons (dTup dNil) dNil))) (sSeq (sFor (dSeqT (dVar 0)) (gdName 2) (sSeq (sSet 3 (dLstM dNil)) (sSeq (sFor (dSeq (dVar 1)) (gdName 4) (sDrop (dExtend (dVar 3) (dComp (dRng1 (dCons (dCB lenD (dCons (dVar 2) dNil)) dNil)) [none,some 4,some 0] (gdName 0) (dBl (dCall 3 m_can_go_on (dCons (dVar 2) (dCons (dVar 1) (dCons (dVar 0) dNil))))) (dBin catT (dVar 1) (dTup (dCons (dVar 0) dNil))))))) (sSet 1 (dVar 3))))) (sRet (dVar 1)))):=rfl
 have es:startD 5 [sqD n s]=[some (sqD n s),none,none,none,none]:=rfl
 have e3:(sRet (dVar 1)) [some (sqD n s),some (.ref kf),w2,w3,w4] c2=.ok (.rt (.ref kf)) c2:=rfl
 exact ⟨kf,c2,by rw [hb,es,seq_ok e0,seq_ok e1,seq_ok e2,e3],g2,g1,g3⟩
theorem cuts_ok {n:Nat} {s:Nat→Nat→Nat} (hL:Latin n s) (h1:1≤n) (h8:n < 8) (c:List Cell):m_cuts [sqD n s] c=.ok (.lst ((itC n s n [[]]).map tpD)) c:=by
 obtain ⟨kf,c2,e,g2,g1,g3⟩:=cuts_run hL h1 h8 c
 rw [m_cuts,x_fn,e]
 simp only [R.bind_ok]
 unfold exitD
 simp only [g2]
 rw [if_pos g1,if_neg (by decide),g3]
theorem lc0_no {S:D} {m i:Int} {a2 a3 a4 a5 a6:Option D} {c:List Cell} (hl:lenD [S] c=.ok (.int m) c) (h:¬ i=m):(sIf (dBl (dBin eqD (dVar 1) (dCB lenD (dCons (dVar 0) dNil)))) (sRet (dLst (dCons (dVar 2) dNil))) sNext) [some S,some (.int i),a2,a3,a4,a5,a6] c=.ok (.nx [some S,some (.int i),a2,a3,a4,a5,a6]) c:=by
 simp [hl,h]
theorem lc0_yes {S P:D} {m:Int} {a3 a4 a5 a6:Option D} {c:List Cell} (hl:lenD [S] c=.ok (.int m) c):(sIf (dBl (dBin eqD (dVar 1) (dCB lenD (dCons (dVar 0) dNil)))) (sRet (dLst (dCons (dVar 2) dNil))) sNext) [some S,some (.int m),some P,a3,a4,a5,a6] c=.ok (.rt (.lst [P])) c:=by
 simp [hl]
section
variable {mf:List D→List Cell→R D} {S r:D} {i k x:Int} {P G acc F:List D} {c:List Cell} {v6:Option D}
theorem lb_no (h1:ixD S (.int i) c=.ok r c) (h2:ixD r (.int k) c=.ok (.int x) c) {b1 b2:Bool} (h3:notInD (.int k) (.tup P) c=.ok (.bl b1) c) (h4:notInD (.int x) (.tup G) c=.ok (.bl b2) c) (hb:(b1 && b2)=false):(sSeq (sSet 6 (dBin ixD (dBin ixD (dVar 0) (dVar 1)) (dVar 5))) (sIf (dAndT (dBl (dBin notInD (dVar 5) (dVar 2))) (dBl (dBin notInD (dVar 6) (dVar 3)))) (sSet 4 (dBin catD (dVar 4) (dCall 4 mf (dCons (dVar 0) (dCons (dBin addD (dVar 1) (dC (.int 1))) (dCons (dBin catT (dVar 2) (dTup (dCons (dVar 5) dNil))) (dCons (dBin catT (dVar 3) (dTup (dCons (dVar 6) dNil))) dNil))))))) sNext)) [some S,some (.int i),some (.tup P),some (.tup G),some (.lst acc),some (.int k),v6] c=.ok (.nx [some S,some (.int i),some (.tup P),some (.tup G),some (.lst acc),some (.int k),some (.int x)]) c:=by
 cases b1 <;> cases b2 <;> simp_all
theorem lb_yes (h1:ixD S (.int i) c=.ok r c) (h2:ixD r (.int k) c=.ok (.int x) c) (h3:notInD (.int k) (.tup P) c=.ok (.bl true) c) (h4:notInD (.int x) (.tup G) c=.ok (.bl true) c) (hP:P.length + 1≤sizeLine) (hG:G.length + 1≤sizeLine) (h5:mf [S,.int (i + 1),.tup (P ++ [.int k]),.tup (G ++ [.int x])] c=.ok (.lst F) c) (hF:acc.length + F.length≤sizeLine):(sSeq (sSet 6 (dBin ixD (dBin ixD (dVar 0) (dVar 1)) (dVar 5))) (sIf (dAndT (dBl (dBin notInD (dVar 5) (dVar 2))) (dBl (dBin notInD (dVar 6) (dVar 3)))) (sSet 4 (dBin catD (dVar 4) (dCall 4 mf (dCons (dVar 0) (dCons (dBin addD (dVar 1) (dC (.int 1))) (dCons (dBin catT (dVar 2) (dTup (dCons (dVar 5) dNil))) (dCons (dBin catT (dVar 3) (dTup (dCons (dVar 6) dNil))) dNil))))))) sNext)) [some S,some (.int i),some (.tup P),some (.tup G),some (.lst acc),some (.int k),v6] c=.ok (.nx [some S,some (.int i),some (.tup P),some (.tup G),some (.lst (acc ++ F)),some (.int k),some (.int x)]) c:=by
 simp [h1,h2,h3,h4,catT,hP,hG,h5,catD,lstD,hF]
end
theorem lc_loop {n i:Nat} {s:Nat→Nat→Nat} {p:List Nat} {m:List D→List Cell→R D} {f:Nat→List (List Nat)} {c:List Cell} (h8:n < 8) (hp:Pre n i p) (hi:i < n)
  (hm:∀ k,k < n→okC s p k=true→m [sqD n s,.int ((i:Int) + 1),tpD (p ++ [k]),.tup (nD (sgn s (p ++ [k])))] c=.ok (.lst ((f k).map tpD)) c):∀ (ks:List Nat) (acc:List (List Nat)) (v5 v6:Option D),(∀ k∈ks,k < n)→(acc ++ (ks.filter (okC s p)).flatMap f).length≤900000 →
  ∃ w5 w6,forD (fun _=>True) (gdName 5) (sSeq (sSet 6 (dBin ixD (dBin ixD (dVar 0) (dVar 1)) (dVar 5))) (sIf (dAndT (dBl (dBin notInD (dVar 5) (dVar 2))) (dBl (dBin notInD (dVar 6) (dVar 3)))) (sSet 4 (dBin catD (dVar 4) (dCall 4 m (dCons (dVar 0) (dCons (dBin addD (dVar 1) (dC (.int 1))) (dCons (dBin catT (dVar 2) (dTup (dCons (dVar 5) dNil))) (dCons (dBin catT (dVar 3) (dTup (dCons (dVar 6) dNil))) dNil))))))) sNext)) (ks.map fun k:Nat=>D.int (k:Int)) [some (sqD n s),some (.int (i:Int)),some (tpD p),some (.tup (nD (sgn s p))),some (.lst (acc.map tpD)),v5,v6] c=.ok (.nx [some (sqD n s),some (.int (i:Int)),some (tpD p),some (.tup (nD (sgn s p))),some (.lst ((acc ++ (ks.filter (okC s p)).flatMap f).map tpD)),w5,w6]) c
 | [],acc,v5,v6,_,_=>⟨v5,v6,by simp⟩
 | k :: ks,acc,v5,v6,hk,hb=>by
  have hs9:900000≤sizeLine:=by decide
  have hs:=small_line (n:=1000) (by decide)
  have hkn:=hk k (.head _)
  have g1:gdName 5 (.int (k:Int)) [some (sqD n s),some (.int (i:Int)),some (tpD p),some (.tup (nD (sgn s p))),some (.lst (acc.map tpD)),v5,v6] c=.ok [some (sqD n s),some (.int (i:Int)),some (tpD p),some (.tup (nD (sgn s p))),some (.lst (acc.map tpD)),some (.int (k:Int)),v6] c:=rfl
  have hl:=hp.1
  have n1:=notinT p k c
  have n2:=notinT (sgn s p) (s i k) c
  have i1:=sq_ix s hi c
  have i2:=sr_ix s i hkn c
  cases ho:okC s p k with
  | false =>
   have hbb:(!decide (k∈p) && !decide (s i k∈sgn s p))=false:=by rw [← hl]; exact ho
   have e1:=lb_no (mf:=m) (acc:=acc.map tpD) (v6:=v6) i1 i2 n1 n2 hbb
   obtain ⟨w5,w6,h⟩:=lc_loop h8 hp hi hm ks acc (some (.int (k:Int))) (some (.int (s i k:Nat))) (fun z hz=>hk z (.tail _ hz)) (by rw [List.filter_cons_of_neg (by simp [ho])] at hb; exact hb)
   refine ⟨w5,w6,?_⟩
   have e1':(sSeq (sSet 6 (dBin ixD (dBin ixD (dVar 0) (dVar 1)) (dVar 5))) (sIf (dAndT (dBl (dBin notInD (dVar 5) (dVar 2))) (dBl (dBin notInD (dVar 6) (dVar 3)))) (sSet 4 (dBin catD (dVar 4) (dCall 4 m (dCons (dVar 0) (dCons (dBin addD (dVar 1) (dC (.int 1))) (dCons (dBin catT (dVar 2) (dTup (dCons (dVar 5) dNil))) (dCons (dBin catT (dVar 3) (dTup (dCons (dVar 6) dNil))) dNil))))))) sNext)) [some (sqD n s),some (.int (i:Int)),some (tpD p),some (.tup (nD (sgn s p))),some (.lst (acc.map tpD)),some (.int (k:Int)),v6] c=.ok (.nx [some (sqD n s),some (.int (i:Int)),some (tpD p),some (.tup (nD (sgn s p))),some (.lst (acc.map tpD)),some (.int (k:Int)),some (.int (s i k:Nat))]) c:=e1
   rw [List.map_cons,for_cons,g1,R.bind_ok,e1',R.bind_ok,List.filter_cons_of_neg (by simp [ho])]
   exact h
  | true =>
   have hbb:(!decide (k∈p))=true∧(!decide (s i k∈sgn s p))=true:=by rw [← hl]; exact Bool.and_eq_true_iff.mp ho
   rw [hbb.1] at n1
   rw [hbb.2] at n2
   have hm':=hm k hkn ho
   rw [sgn_snoc,hl,← snoc_nD] at hm'
   unfold tpD at hm'
   rw [← snoc_nD] at hm'
   have hb2:(acc ++ f k).length≤900000:=by
    rw [List.filter_cons_of_pos ho,List.flatMap_cons,← List.append_assoc,List.length_append] at hb
    omega
   have hsl:(sgn s p).length=i:=by simp [sgn,hl]
   have e1:=lb_yes (mf:=m) (acc:=acc.map tpD) (v6:=v6) i1 i2 n1 n2 (by simp only [nD,List.length_map]; omega) (by simp only [nD,List.length_map]; omega) hm' (by rw [List.length_map,List.length_map,← List.length_append]; omega)
   have hfm:acc.map tpD ++ (f k).map (fun p=>D.tup (nD p))=(acc ++ f k).map tpD:=by rw [List.map_append]; rfl
   rw [hfm] at e1
   obtain ⟨w5,w6,h⟩:=lc_loop h8 hp hi hm ks (acc ++ f k) (some (.int (k:Int))) (some (.int (s i k:Nat))) (fun z hz=>hk z (.tail _ hz)) (by rw [List.filter_cons_of_pos ho,List.flatMap_cons,← List.append_assoc] at hb; exact hb)
   refine ⟨w5,w6,?_⟩
   have e1':(sSeq (sSet 6 (dBin ixD (dBin ixD (dVar 0) (dVar 1)) (dVar 5))) (sIf (dAndT (dBl (dBin notInD (dVar 5) (dVar 2))) (dBl (dBin notInD (dVar 6) (dVar 3)))) (sSet 4 (dBin catD (dVar 4) (dCall 4 m (dCons (dVar 0) (dCons (dBin addD (dVar 1) (dC (.int 1))) (dCons (dBin catT (dVar 2) (dTup (dCons (dVar 5) dNil))) (dCons (dBin catT (dVar 3) (dTup (dCons (dVar 6) dNil))) dNil))))))) sNext)) [some (sqD n s),some (.int (i:Int)),some (tpD p),some (.tup (nD (sgn s p))),some (.lst (acc.map tpD)),some (.int (k:Int)),v6] c=.ok (.nx [some (sqD n s),some (.int (i:Int)),some (tpD p),some (.tup (nD (sgn s p))),some (.lst ((acc ++ f k).map tpD)),some (.int (k:Int)),some (.int (s i k:Nat))]) c:=e1
   rw [List.map_cons,for_cons,g1,R.bind_ok,e1',R.bind_ok,List.filter_cons_of_pos ho,List.flatMap_cons,← List.append_assoc]
   exact h
theorem lc2_gen {m:List D→List Cell→R D} {S:D} {q:Int} {a1 a2 a3 a4 a5 a6:Option D} {e':Ev} {c:List Cell} (b:-4611686018427387904≤q∧q < 4611686018427387904) (hl:lenD [S] c=.ok (.int q) c) (h:forD (fun _=>True) (gdName 5) (sSeq (sSet 6 (dBin ixD (dBin ixD (dVar 0) (dVar 1)) (dVar 5))) (sIf (dAndT (dBl (dBin notInD (dVar 5) (dVar 2))) (dBl (dBin notInD (dVar 6) (dVar 3)))) (sSet 4 (dBin catD (dVar 4) (dCall 4 m (dCons (dVar 0) (dCons (dBin addD (dVar 1) (dC (.int 1))) (dCons (dBin catT (dVar 2) (dTup (dCons (dVar 5) dNil))) (dCons (dBin catT (dVar 3) (dTup (dCons (dVar 6) dNil))) dNil))))))) sNext)) (rngD 0 q) [some S,a1,a2,a3,a4,a5,a6] c=.ok (.nx e') c):(sFor (dRng1 (dCons (dCB lenD (dCons (dVar 0) dNil)) dNil)) (gdName 5) (sSeq (sSet 6 (dBin ixD (dBin ixD (dVar 0) (dVar 1)) (dVar 5))) (sIf (dAndT (dBl (dBin notInD (dVar 5) (dVar 2))) (dBl (dBin notInD (dVar 6) (dVar 3)))) (sSet 4 (dBin catD (dVar 4) (dCall 4 m (dCons (dVar 0) (dCons (dBin addD (dVar 1) (dC (.int 1))) (dCons (dBin catT (dVar 2) (dTup (dCons (dVar 5) dNil))) (dCons (dBin catT (dVar 3) (dTup (dCons (dVar 6) dNil))) dNil))))))) sNext))) [some S,a1,a2,a3,a4,a5,a6] c=.ok (.nx e') c:=by
 simp only [x_for,x_rng1,x_cons,x_cb,x_var,gz,gs,x_nil,R.bind_ok,hl]
 rw [if_pos (by omega)]
 exact h
theorem lcuts_ok {n:Nat} {s:Nat→Nat→Nat} (h8:n < 8) (c:List Cell):∀ (d k i:Nat) (p:List Nat),i + d=n→d < k→Pre n i p→m_law_cuts k [sqD n s,.int (i:Int),tpD p,.tup (nD (sgn s p))] c=.ok (.lst ((itC n s d [p]).map tpD)) c
 | d,0,i,p,_,h,_=>absurd h (Nat.not_lt_zero _)
 | 0,k + 1,i,p,hi,_,hp=>by
  have:i=n:=by omega
  subst this
  have hlen:lenD [sqD i s] c=.ok (.int (i:Int)) c:=by unfold sqD; rw [x_lenT]; simp
  have e0:=lc0_yes (P:=tpD p) (a3:=some (.tup (nD (sgn s p)))) (a4:=none) (a5:=none) (a6:=none) hlen
  show fnD 7 false (b_law_cuts (m_law_cuts k)) _ c=_
  have hb:b_law_cuts (m_law_cuts k)=sSeq (sIf (dBl (dBin eqD (dVar 1) (dCB lenD (dCons (dVar 0) dNil)))) (sRet (dLst (dCons (dVar 2) dNil))) sNext) (sSeq (sSet 4 (dLst dNil)) (sSeq (sFor (dRng1 (dCons (dCB lenD (dCons (dVar 0) dNil)) dNil)) (gdName 5) (sSeq (sSet 6 (dBin ixD (dBin ixD (dVar 0) (dVar 1)) (dVar 5))) (sIf (dAndT (dBl (dBin notInD (dVar 5) (dVar 2))) (dBl (dBin notInD (dVar 6) (dVar 3)))) (sSet 4 (dBin catD (dVar 4) (dCall 4 (m_law_cuts k) (dCons (dVar 0) (dCons (dBin addD (dVar 1) (dC (.int 1))) (dCons (dBin catT (dVar 2) (dTup (dCons (dVar 5) dNil))) (dCons (dBin catT (dVar 3) (dTup (dCons (dVar 6) dNil))) dNil))))))) sNext))) (sRet (dVar 4)))):=rfl
  have es:startD 7 [sqD i s,.int (i:Int),tpD p,.tup (nD (sgn s p))]=[some (sqD i s),some (.int (i:Int)),some (tpD p),some (.tup (nD (sgn s p))),none,none,none]:=rfl
  rw [x_fn,hb,es,seq_rt e0]
  simp only [R.bind_ok]
  have:=tp_noRefs [p]
  rw [List.map_cons,List.map_nil] at this
  rw [q_lst,if_pos this,List.take_length]
  rfl
 | d + 1,k + 1,i,p,hi,hk,hp=>by
  have hs:=small_line (n:=1000) (by decide)
  have hlen:lenD [sqD n s] c=.ok (.int (n:Int)) c:=by unfold sqD; rw [x_lenT]; simp
  have e0:=lc0_no (S:=sqD n s) (m:=(n:Int)) (i:=(i:Int)) (a2:=some (tpD p)) (a3:=some (.tup (nD (sgn s p)))) (a4:=none) (a5:=none) (a6:=none) hlen (by omega)
  have hflat:itC n s (d + 1) [p]=((List.range n).filter (okC s p)).flatMap fun k=>itC n s d [p ++ [k]]:=by
   show itC n s d ([p].flatMap (extC n s))=_
   rw [List.flatMap_singleton,itC_flat]
   unfold extC
   rw [List.flatMap_map]
  obtain ⟨w5,w6,h⟩:=lc_loop (s:=s) (m:=m_law_cuts k) (f:=fun k=>itC n s d [p ++ [k]]) (c:=c) h8 hp (by omega) (fun x hx _=>by
   have:=lcuts_ok (s:=s) h8 c d k (i + 1) (p ++ [x]) (by omega) (by omega) (hp.snoc hx)
   rw [show (((i + 1:Nat)):Int)=(i:Int) + 1 by omega] at this
   exact this) (List.range n) [] none none (fun x hx=>List.mem_range.mp hx) (by rw [List.nil_append,← hflat]; exact itC_small (by omega) s p (d + 1) (by omega))
  rw [List.nil_append,← hflat,← rngD_map] at h
  show fnD 7 false (b_law_cuts (m_law_cuts k)) _ c=_
  have hb:b_law_cuts (m_law_cuts k)=sSeq (sIf (dBl (dBin eqD (dVar 1) (dCB lenD (dCons (dVar 0) dNil)))) (sRet (dLst (dCons (dVar 2) dNil))) sNext) (sSeq (sSet 4 (dLst dNil)) (sSeq (sFor (dRng1 (dCons (dCB lenD (dCons (dVar 0) dNil)) dNil)) (gdName 5) (sSeq (sSet 6 (dBin ixD (dBin ixD (dVar 0) (dVar 1)) (dVar 5))) (sIf (dAndT (dBl (dBin notInD (dVar 5) (dVar 2))) (dBl (dBin notInD (dVar 6) (dVar 3)))) (sSet 4 (dBin catD (dVar 4) (dCall 4 (m_law_cuts k) (dCons (dVar 0) (dCons (dBin addD (dVar 1) (dC (.int 1))) (dCons (dBin catT (dVar 2) (dTup (dCons (dVar 5) dNil))) (dCons (dBin catT (dVar 3) (dTup (dCons (dVar 6) dNil))) dNil))))))) sNext))) (sRet (dVar 4)))):=rfl
  have es:startD 7 [sqD n s,.int (i:Int),tpD p,.tup (nD (sgn s p))]=[some (sqD n s),some (.int (i:Int)),some (tpD p),some (.tup (nD (sgn s p))),none,none,none]:=rfl
  have e1:(sSet 4 (dLst dNil)) [some (sqD n s),some (.int (i:Int)),some (tpD p),some (.tup (nD (sgn s p))),none,none,none] c=.ok (.nx [some (sqD n s),some (.int (i:Int)),some (tpD p),some (.tup (nD (sgn s p))),some (.lst []),none,none]) c:=by
   generalize sqD n s=S at *
   generalize tpD p=T at *
   simp
  have e2:=lc2_gen (by omega) hlen h
  rw [x_fn,hb,es,seq_ok e0,seq_ok e1]
  rw [List.map_nil] at e2
  rw [seq_ok e2]
  have e3:(sRet (dVar 4)) [some (sqD n s),some (.int (i:Int)),some (tpD p),some (.tup (nD (sgn s p))),some (.lst ((itC n s (d + 1) [p]).map tpD)),w5,w6] c=.ok (.rt (.lst ((itC n s (d + 1) [p]).map tpD))) c:=rfl
  rw [e3]
  simp only [R.bind_ok]
  rw [q_lst,if_pos (tp_noRefs _),List.take_length]
end Ev
namespace Ev
open PySem L2
theorem rngI_up (m:Nat):(rngI 0 (m:Int)).Pairwise (·≤·):=by
 rw [rngI_map,List.pairwise_map]
 exact List.pairwise_lt_range.imp fun {a b} h=>by omega
theorem isort_iff (ns:List Int) (m:Nat):isort ns=rngI 0 (m:Int)↔∃ ps:List Nat,ns=ps.map (fun k:Nat=>(k:Int))∧ps.Perm (List.range m):=by
 constructor
 ·intro h
  have hp:ns.Perm ((List.range m).map fun k:Nat=>(k:Int)):=by
   have:=(isort_perm ns).symm
   rwa [h,rngI_map] at this
  refine ⟨ns.map Int.toNat,?_,?_⟩
  ·rw [List.map_map]
   conv=>lhs; rw [← List.map_id ns]
   refine List.map_congr_left fun n hn=>?_
   obtain ⟨k,_,rfl⟩:=List.mem_map.mp (hp.mem_iff.mp hn)
   simp
  ·have:=hp.map Int.toNat
   rw [List.map_map] at this
   have e:(Int.toNat ∘ fun k:Nat=>(k:Int))=id:=by funext k; simp
   rwa [e,List.map_id] at this
 ·rintro ⟨ps,rfl,hp⟩
  refine sort_uniq ((isort_perm _).trans ?_) (isort_up _) (rngI_up m)
  rw [rngI_map]
  exact hp.map _
theorem sortT_ints {ns:List Int} (hn:ns.length < 64) (c:List Cell):sortTD [.tup (ns.map D.int)] c=.ok (.lst ((isort ns).map D.int)) c:=by
 unfold sortTD
 dsimp only
 rw [intsD_map]
 dsimp only
 rw [if_pos hn]
theorem any_id (l:List Bool) (c:List Cell):anyD [.lst (l.map D.bl)] c=.ok (.bl (l.any id)) c:=by
 unfold anyD quantD
 dsimp only
 rw [blsD_map]
noncomputable def agr (p q:List Nat):Bool:=(p.zip q).any fun a=>decide (a.1=a.2)
theorem zipD:∀ (p q:List Nat),List.zipWith (fun x y=>D.tup [x,y]) (nD p) (nD q)=(p.zip q).map fun a=>D.tup [.int (a.1:Nat),.int (a.2:Nat)]
 | [],q=>by simp [nD]
 | a :: p,[]=>by simp [nD]
 | a :: p,b :: q=>by
  have:=zipD p q
  unfold nD at this ⊢
  simp only [List.map_cons,List.zipWith_cons_cons,List.zip_cons_cons] at this ⊢
  rw [this]
theorem any_agr (p q:List Nat):((p.zip q).map fun a=>decide ((a.1:Int)=(a.2:Int))).any id=agr p q:=by
 unfold agr
 rw [List.any_map]
 congr 1
 funext a
 show decide ((a.1:Int)=(a.2:Int))=decide (a.1=a.2)
 exact decide_eq_decide.mpr (by omega)
theorem ag_gen {P Q:List D} {l:List Bool} {c:List Cell} (hl:(List.zipWith (fun x y=>D.tup [x,y]) P Q).length < sizeLine) (h:compD (fun _=>True) (gdTup 2 (gdCons (gdName 0) (gdCons (gdName 1) gdNil))) dYes (dBin eqD (dVar 0) (dVar 1)) (List.zipWith (fun x y=>D.tup [x,y]) P Q) [none,none] [] c=.ok (l.map D.bl) c):(dCB anyD (dCons (dComp (dZip2 (dCons (dVar 0) (dCons (dVar 1) dNil))) [none,none] (gdTup 2 (gdCons (gdName 0) (gdCons (gdName 1) gdNil))) dYes (dBin eqD (dVar 0) (dVar 1))) dNil)) [some (.tup P),some (.tup Q)] c=.ok (.bl (l.any id)) c:=by
 have hp:pickD [none,none] [some (.tup P),some (.tup Q)]=[none,none]:=rfl
 have hd:dZip2 (dCons (dVar 0) (dCons (dVar 1) dNil)) [some (.tup P),some (.tup Q)] c=.ok ⟨List.zipWith (fun x y=>D.tup [x,y]) P Q,fun _=>True⟩ c:=rfl
 simp only [x_cb,x_cons,x_comp,hd,x_nil,R.bind_ok]
 rw [if_pos hl,hp,h]
 simp only [R.bind_ok,any_id]
theorem age_comp (p q:List Nat) (c:List Cell):compD (fun _=>True) (gdTup 2 (gdCons (gdName 0) (gdCons (gdName 1) gdNil))) dYes (dBin eqD (dVar 0) (dVar 1)) (List.zipWith (fun x y=>D.tup [x,y]) (nD p) (nD q)) [none,none] [] c=.ok (((p.zip q).map fun a=>decide ((a.1:Int)=(a.2:Int))).map D.bl) c:=by
 have:=pair_comp (a:=(dBin eqD (dVar 0) (dVar 1))) (c:=c) (fun a:Nat×Nat=>D.int (a.1:Nat)) (fun a=>.int (a.2:Nat)) (fun a=>.bl (decide ((a.1:Int)=(a.2:Int)))) (p.zip q) none none [] (fun a _=>by
  generalize ((a.1:Nat):Int)=x
  generalize ((a.2:Nat):Int)=y
  simp)
 rw [List.nil_append,← zipD] at this
 rw [this,List.map_map]
 rfl
theorem agree_ok (p q:List Nat) (hp:p.length < 1000) (c:List Cell):m_agree_somewhere [tpD p,tpD q] c=.ok (.bl (agr p q)) c:=by
 have hs:=small_line (n:=1000) (by decide)
 have e:=ag_gen (by rw [zipD,List.length_map,List.length_zip]; omega) (age_comp p q c)
 rw [any_agr] at e
 have hb:b_agree_somewhere=sRet (dCB anyD (dCons (dComp (dZip2 (dCons (dVar 0) (dCons (dVar 1) dNil))) [none,none] (gdTup 2 (gdCons (gdName 0) (gdCons (gdName 1) gdNil))) dYes (dBin eqD (dVar 0) (dVar 1))) dNil)):=rfl
 have es:startD 2 [tpD p,tpD q]=[some (.tup (nD p)),some (.tup (nD q))]:=rfl
 rw [m_agree_somewhere,x_fn,hb,es,x_ret,e]
 simp
noncomputable def chD (ch:List (List Nat)):D:=.lst (ch.map tpD)
noncomputable def fre (ch:List (List Nat)) (cut:List Nat):Bool:=!(ch.any fun each=>agr cut each)
noncomputable def ext1 (more:List (List Nat)) (ch:List (List Nat)):List (List (List Nat)):=(more.filter (fre ch)).map fun cut=>ch ++ [cut]
noncomputable def wom (chs:List (List (List Nat))) (more:List (List Nat)):List (List (List Nat)):=chs.flatMap (ext1 more)
theorem append_at {dO da:Ev→List Cell→R D} {e:Ev} {c:List Cell} {acc:List D} {y:D} (ho:dO e (c ++ [.lst acc])=.ok (.ref c.length) (c ++ [.lst acc])) (ha:da e (c ++ [.lst acc])=.ok y (c ++ [.lst acc])) (hy:noRef y=true) (hl:acc.length < sizeLine) :
  dAppend dO da e (c ++ [.lst acc])=.ok .non (c ++ [.lst (acc ++ [y])]):=by
 unfold dAppend
 rw [ho,R.bind_ok]
 dsimp only
 rw [ha,R.bind_ok]
 have:(c ++ [Cell.lst acc])[c.length]? = some (.lst acc):=by simp
 rw [this]
 dsimp only
 rw [if_pos ⟨hl,hy⟩]
 simp
theorem woe_gen {P Q:D} {b:Bool} {c:List Cell} (h:m_agree_somewhere [P,Q] c=.ok (.bl b) c):(dCall 2 m_agree_somewhere (dCons (dVar 1) (dCons (dVar 0) dNil))) [some Q,some P] c=.ok (.bl b) c:=by simp [h]
theorem wo_yes {A0 A1 P:D} {l:List D} {bs:List Bool} {acc:List D} {c:List Cell} (hl:l.length < 1000) (h:compD (fun _=>True) (gdName 0) dYes (dCall 2 m_agree_somewhere (dCons (dVar 1) (dCons (dVar 0) dNil))) l [none,some P] [] (c ++ [.lst acc])=.ok (bs.map D.bl) (c ++ [.lst acc])) (hb:bs.any id=false) (hn:noRef P=true) (hn2:noRefs l=true) (ha:acc.length < sizeLine):(sIf (dNotT (dBl (dCB anyD (dCons (dComp (dSeq (dVar 3)) [none,some 4] (gdName 0) dYes (dCall 2 m_agree_somewhere (dCons (dVar 1) (dCons (dVar 0) dNil)))) dNil)))) (sDrop (dAppend (dVar 2) (dBin catD (dVar 3) (dLst (dCons (dVar 4) dNil))))) sNext) [some A0,some A1,some (.ref c.length),some (.lst l),some P] (c ++ [.lst acc])=.ok (.nx [some A0,some A1,some (.ref c.length),some (.lst l),some P]) (c ++ [.lst (acc ++ [.lst (l ++ [P])])]):=by
 have hs:=small_line (n:=1000) (by decide)
 have hp:pickD [none,some 4] [some A0,some A1,some (.ref c.length),some (.lst l),some P]=[none,some P]:=rfl
 have hd:dSeq (dVar 3) [some A0,some A1,some (.ref c.length),some (.lst l),some P] (c ++ [.lst acc])=.ok ⟨l,fun _=>True⟩ (c ++ [.lst acc]):=rfl
 have hcat:(dBin catD (dVar 3) (dLst (dCons (dVar 4) dNil))) [some A0,some A1,some (.ref c.length),some (.lst l),some P] (c ++ [.lst acc])=.ok (.lst (l ++ [P])) (c ++ [.lst acc]):=by
  have:l.length + 1≤sizeLine:=by omega
  simp [catD,lstD,this]
 have hap:=append_at (c:=c) (acc:=acc) (dO:=dVar 2) (e:=[some A0,some A1,some (.ref c.length),some (.lst l),some P]) (by rfl) hcat (by rw [r_lst,noRefs_append,hn2]; simp [hn]) ha
 simp only [x_if,x_notT,x_bl,x_cb,x_cons,x_comp,hd,x_nil,R.bind_ok]
 rw [if_pos (by omega),hp,h]
 simp only [R.bind_ok,any_id,hb,Bool.not_false,if_pos,x_drop,hap]
theorem wo_no {A0 A1 P:D} {l:List D} {bs:List Bool} {k:Nat} {c:List Cell} (hl:l.length < 1000) (h:compD (fun _=>True) (gdName 0) dYes (dCall 2 m_agree_somewhere (dCons (dVar 1) (dCons (dVar 0) dNil))) l [none,some P] [] c=.ok (bs.map D.bl) c) (hb:bs.any id=true):(sIf (dNotT (dBl (dCB anyD (dCons (dComp (dSeq (dVar 3)) [none,some 4] (gdName 0) dYes (dCall 2 m_agree_somewhere (dCons (dVar 1) (dCons (dVar 0) dNil)))) dNil)))) (sDrop (dAppend (dVar 2) (dBin catD (dVar 3) (dLst (dCons (dVar 4) dNil))))) sNext) [some A0,some A1,some (.ref k),some (.lst l),some P] c=.ok (.nx [some A0,some A1,some (.ref k),some (.lst l),some P]) c:=by
 have hs:=small_line (n:=1000) (by decide)
 have hp:pickD [none,some 4] [some A0,some A1,some (.ref k),some (.lst l),some P]=[none,some P]:=rfl
 have hd:dSeq (dVar 3) [some A0,some A1,some (.ref k),some (.lst l),some P] c=.ok ⟨l,fun _=>True⟩ c:=rfl
 simp only [x_if,x_notT,x_bl,x_cb,x_cons,x_comp,hd,x_nil,R.bind_ok]
 rw [if_pos (by omega),hp,h]
 simp only [R.bind_ok,any_id,hb]
 simp
theorem wo_comp (ch:List (List Nat)) (cut:List Nat) (hc:cut.length < 1000) (c:List Cell):compD (fun _=>True) (gdName 0) dYes (dCall 2 m_agree_somewhere (dCons (dVar 1) (dCons (dVar 0) dNil))) (ch.map tpD) [none,some (tpD cut)] [] c=.ok ((ch.map fun each=>agr cut each).map D.bl) c:=by
 have:=lst_comp (E:=[some (tpD cut)]) (a:=(dCall 2 m_agree_somewhere (dCons (dVar 1) (dCons (dVar 0) dNil)))) (c:=c) tpD (fun each=>.bl (agr cut each)) ch none [] (fun each _=>woe_gen (agree_ok cut each hc c))
 rw [this,List.nil_append,List.map_map]
 rfl
theorem tp_noRef (p:List Nat):noRef (tpD p)=true:=by
 unfold tpD
 rw [r_tup]
 exact noRefs_nD _
theorem wo_inner {A0 A1:D} {ch:List (List Nat)} (hch:ch.length < 1000) (c:List Cell):∀ (ms:List (List Nat)) (acc:List (List (List Nat))) (v:Option D),(∀ m∈ms,m.length < 1000)→(acc ++ ext1 ms ch).length≤8000000 →
  ∃ v',forD (fun _=>True) (gdName 4) (sIf (dNotT (dBl (dCB anyD (dCons (dComp (dSeq (dVar 3)) [none,some 4] (gdName 0) dYes (dCall 2 m_agree_somewhere (dCons (dVar 1) (dCons (dVar 0) dNil)))) dNil)))) (sDrop (dAppend (dVar 2) (dBin catD (dVar 3) (dLst (dCons (dVar 4) dNil))))) sNext) (ms.map tpD) [some A0,some A1,some (.ref c.length),some (chD ch),v] (c ++ [.lst (acc.map chD)])=.ok (.nx [some A0,some A1,some (.ref c.length),some (chD ch),v']) (c ++ [.lst ((acc ++ ext1 ms ch).map chD)])
 | [],acc,v,_,_=>⟨v,by simp [ext1]⟩
 | m :: ms,acc,v,hm,hb=>by
  have hs8:8000000 < sizeLine:=by decide
  have g1:gdName 4 (tpD m) [some A0,some A1,some (.ref c.length),some (chD ch),v] (c ++ [.lst (acc.map chD)])=.ok [some A0,some A1,some (.ref c.length),some (chD ch),some (tpD m)] (c ++ [.lst (acc.map chD)]):=rfl
  have hc:=wo_comp ch m (hm m (.head _)) (c ++ [.lst (acc.map chD)])
  have hany:(ch.map fun each=>agr m each).any id=ch.any fun each=>agr m each:=by rw [List.any_map]; rfl
  cases hf:fre ch m with
  | true =>
   have hx:(ch.any fun each=>agr m each)=false:=by unfold fre at hf; simpa using hf
   have e1:=wo_yes (A0:=A0) (A1:=A1) (by rw [List.length_map]; exact hch) hc (by rw [hany,hx]) (tp_noRef m) (tp_noRefs ch) (by
    rw [List.length_append] at hb
    rw [List.length_map]
    omega)
   have e2:ext1 (m :: ms) ch=(ch ++ [m]) :: ext1 ms ch:=by unfold ext1; rw [List.filter_cons_of_pos hf,List.map_cons]
   obtain ⟨v',h⟩:=wo_inner (A0:=A0) (A1:=A1) hch c ms (acc ++ [ch ++ [m]]) (some (tpD m)) (fun z hz=>hm z (.tail _ hz)) (by rw [List.append_assoc]; rw [e2] at hb; exact hb)
   refine ⟨v',?_⟩
   have e1':(sIf (dNotT (dBl (dCB anyD (dCons (dComp (dSeq (dVar 3)) [none,some 4] (gdName 0) dYes (dCall 2 m_agree_somewhere (dCons (dVar 1) (dCons (dVar 0) dNil)))) dNil)))) (sDrop (dAppend (dVar 2) (dBin catD (dVar 3) (dLst (dCons (dVar 4) dNil))))) sNext) [some A0,some A1,some (.ref c.length),some (chD ch),some (tpD m)] (c ++ [.lst (acc.map chD)])=.ok (.nx [some A0,some A1,some (.ref c.length),some (chD ch),some (tpD m)]) (c ++ [.lst ((acc ++ [ch ++ [m]]).map chD)]):=by
    rw [List.map_append,List.map_cons,List.map_nil]
    show _=R.ok _ (c ++ [.lst (acc.map chD ++ [.lst ((ch ++ [m]).map tpD)])])
    rw [List.map_append]
    exact e1
   rw [List.map_cons,for_cons,g1,R.bind_ok,e1',R.bind_ok,e2]
   simp only
   rw [h,List.append_assoc]
   rfl
  | false =>
   have hx:(ch.any fun each=>agr m each)=true:=by unfold fre at hf; simpa using hf
   have e1:=wo_no (A0:=A0) (A1:=A1) (k:=c.length) (by rw [List.length_map]; exact hch) hc (by rw [hany,hx])
   have e2:ext1 (m :: ms) ch=ext1 ms ch:=by unfold ext1; rw [List.filter_cons_of_neg (by simp [hf])]
   obtain ⟨v',h⟩:=wo_inner (A0:=A0) (A1:=A1) hch c ms acc (some (tpD m)) (fun z hz=>hm z (.tail _ hz)) (by rw [e2] at hb; exact hb)
   refine ⟨v',?_⟩
   have e1':(sIf (dNotT (dBl (dCB anyD (dCons (dComp (dSeq (dVar 3)) [none,some 4] (gdName 0) dYes (dCall 2 m_agree_somewhere (dCons (dVar 1) (dCons (dVar 0) dNil)))) dNil)))) (sDrop (dAppend (dVar 2) (dBin catD (dVar 3) (dLst (dCons (dVar 4) dNil))))) sNext) [some A0,some A1,some (.ref c.length),some (chD ch),some (tpD m)] (c ++ [.lst (acc.map chD)])=.ok (.nx [some A0,some A1,some (.ref c.length),some (chD ch),some (tpD m)]) (c ++ [.lst (acc.map chD)]):=e1
   rw [List.map_cons,for_cons,g1,R.bind_ok,e1',R.bind_ok,e2]
   exact h
noncomputable def woB:Ev→List Cell→R Fl:=(sIf (dNotT (dBl (dCB anyD (dCons (dComp (dSeq (dVar 3)) [none,some 4] (gdName 0) dYes (dCall 2 m_agree_somewhere (dCons (dVar 1) (dCons (dVar 0) dNil)))) dNil)))) (sDrop (dAppend (dVar 2) (dBin catD (dVar 3) (dLst (dCons (dVar 4) dNil))))) sNext)
theorem wof_gen {A0 T:D} {ms:List D} {k:Nat} {v:Option D} {e':Ev} {c c':List Cell} (h:forD (fun _=>True) (gdName 4) woB ms [some A0,some (.lst ms),some (.ref k),some T,v] c=.ok (.nx e') c'):sFor (dSeq (dVar 1)) (gdName 4) woB [some A0,some (.lst ms),some (.ref k),some T,v] c=.ok (.nx e') c':=by
 rw [x_for]
 exact h
theorem wo_outer {A0:D} {ms:List (List Nat)} (hm:∀ m∈ms,m.length < 1000) (c:List Cell):∀ (chs:List (List (List Nat))) (acc:List (List (List Nat))) (v3 v4:Option D),(∀ ch∈chs,ch.length < 1000)→(acc ++ wom chs ms).length≤8000000 →
  ∃ w3 w4,forD (fun _=>True) (gdName 3) (sFor (dSeq (dVar 1)) (gdName 4) woB) (chs.map chD) [some A0,some (.lst (ms.map tpD)),some (.ref c.length),v3,v4] (c ++ [.lst (acc.map chD)])=.ok (.nx [some A0,some (.lst (ms.map tpD)),some (.ref c.length),w3,w4]) (c ++ [.lst ((acc ++ wom chs ms).map chD)])
 | [],acc,v3,v4,_,_=>⟨v3,v4,by simp [wom]⟩
 | ch :: chs,acc,v3,v4,hc,hb=>by
  have e2:wom (ch :: chs) ms=ext1 ms ch ++ wom chs ms:=rfl
  have g1:gdName 3 (chD ch) [some A0,some (.lst (ms.map tpD)),some (.ref c.length),v3,v4] (c ++ [.lst (acc.map chD)])=.ok [some A0,some (.lst (ms.map tpD)),some (.ref c.length),some (chD ch),v4] (c ++ [.lst (acc.map chD)]):=rfl
  obtain ⟨v',h1⟩:=wo_inner (A0:=A0) (A1:=.lst (ms.map tpD)) (hc ch (.head _)) c ms acc v4 hm (by
   rw [e2,← List.append_assoc,List.length_append] at hb
   omega)
  have e1:=wof_gen (T:=chD ch) h1
  obtain ⟨w3,w4,h⟩:=wo_outer (A0:=A0) hm c chs (acc ++ ext1 ms ch) (some (chD ch)) v' (fun z hz=>hc z (.tail _ hz)) (by rw [e2] at hb; rw [List.append_assoc]; exact hb)
  refine ⟨w3,w4,?_⟩
  rw [List.map_cons,for_cons,g1,R.bind_ok,e1,R.bind_ok,e2]
  simp only
  rw [h,List.append_assoc]
theorem more_ok {chs:List (List (List Nat))} {ms:List (List Nat)} (hm:∀ m∈ms,m.length < 1000) (hc:∀ ch∈chs,ch.length < 1000) (hb:(wom chs ms).length≤8000000) (c:List Cell):m_with_one_more [.lst (chs.map chD),.lst (ms.map tpD)] c=.ok (.lst ((wom chs ms).map chD)) c:=by
 obtain ⟨w3,w4,h⟩:=wo_outer (A0:=.lst (chs.map chD)) hm c chs [] none none hc (by rw [List.nil_append]; exact hb)
 rw [List.nil_append,List.map_nil] at h
 have hbd:b_with_one_more=sSeq (sSet 2 (dLstM dNil)) (sSeq (sFor (dSeq (dVar 0)) (gdName 3) (sFor (dSeq (dVar 1)) (gdName 4) woB)) (sRet (dVar 2))):=rfl
 have es:startD 5 [D.lst (chs.map chD),.lst (ms.map tpD)]=[some (.lst (chs.map chD)),some (.lst (ms.map tpD)),none,none,none]:=rfl
 have e0:(sSet 2 (dLstM dNil)) [some (.lst (chs.map chD)),some (.lst (ms.map tpD)),none,none,none] c=.ok (.nx [some (.lst (chs.map chD)),some (.lst (ms.map tpD)),some (.ref c.length),none,none]) (c ++ [.lst []]):=by
  generalize chs.map chD=A
  generalize ms.map tpD=B
  simp
 have e1:sFor (dSeq (dVar 0)) (gdName 3) (sFor (dSeq (dVar 1)) (gdName 4) woB) [some (.lst (chs.map chD)),some (.lst (ms.map tpD)),some (.ref c.length),none,none] (c ++ [.lst []])=.ok (.nx [some (.lst (chs.map chD)),some (.lst (ms.map tpD)),some (.ref c.length),w3,w4]) (c ++ [.lst ((wom chs ms).map chD)]):=by
  rw [x_for]
  exact h
 have e2:(sRet (dVar 2)) [some (.lst (chs.map chD)),some (.lst (ms.map tpD)),some (.ref c.length),w3,w4] (c ++ [.lst ((wom chs ms).map chD)])=.ok (.rt (.ref c.length)) (c ++ [.lst ((wom chs ms).map chD)]):=rfl
 rw [m_with_one_more,x_fn,hbd,es,seq_ok e0,seq_ok e1,e2]
 simp only [R.bind_ok]
 unfold exitD
 have:(c ++ [Cell.lst ((wom chs ms).map chD)])[c.length]? = some (.lst ((wom chs ms).map chD)):=by simp
 simp only [this]
 rw [if_pos (Nat.le_refl _),if_neg (by decide),List.take_left]
end Ev
namespace Ev
open PySem L2
theorem nodup_range_map {α:Type} {n:Nat} {f:Nat→α} (h:∀ i j,i < n→j < n→f i=f j→i=j):((List.range n).map f).Nodup:=by
 unfold List.Nodup
 rw [List.pairwise_map]
 refine List.Pairwise.imp_of_mem (R:=(· < ·)) (fun {a b} ha hb hab e=>?_) List.pairwise_lt_range
 have:=h a b (List.mem_range.mp ha) (List.mem_range.mp hb) e
 omega
theorem getD_mem {α:Type} {l:List α} {i:Nat} {d:α} (h:i < l.length):l.getD i d∈l:=by
 rw [List.getD_eq_getElem?_getD,List.getElem?_eq_getElem h]
 exact List.getElem_mem h
theorem getD_inj {l:List Nat} {i j:Nat} (hn:l.Nodup) (hi:i < l.length) (hj:j < l.length) (e:l.getD i 0=l.getD j 0):i=j:=by
 rw [List.getD_eq_getElem?_getD,List.getD_eq_getElem?_getD,List.getElem?_eq_getElem hi,List.getElem?_eq_getElem hj] at e
 exact (List.getElem_inj hn).mp e
noncomputable def Good (s:Nat→Nat→Nat) (p:List Nat):Prop:=p.Nodup∧(sgn s p).Nodup
theorem nodup_snoc {l:List Nat} {k:Nat} (h:l.Nodup) (hk:k∉l):(l ++ [k]).Nodup:=by
 rw [List.nodup_append]
 refine ⟨h,by simp,fun a ha b hb e=>?_⟩
 rw [List.mem_singleton] at hb
 exact hk (hb ▸ e ▸ ha)
theorem ext_good {n:Nat} {s:Nat→Nat→Nat} {p q:List Nat} (hp:Good s p) (h:q∈extC n s p):Good s q:=by
 unfold extC at h
 obtain ⟨k,hk,rfl⟩:=List.mem_map.mp h
 have ho:=(List.mem_filter.mp hk).2
 unfold okC at ho
 simp only [Bool.and_eq_true,Bool.not_eq_true',decide_eq_false_iff_not] at ho
 exact ⟨nodup_snoc hp.1 ho.1,by rw [sgn_snoc]; exact nodup_snoc hp.2 ho.2⟩
theorem itC_good {n:Nat} {s:Nat→Nat→Nat}:∀ k,∀ p∈itC n s k [[]],Good s p
 | 0,p,h=>by
  have:p=[]:=List.mem_singleton.mp h
  subst this
  exact ⟨.nil,.nil⟩
 | k + 1,p,h=>by
  rw [itC_succ] at h
  obtain ⟨q,hq,hp⟩:=List.mem_flatMap.mp h
  exact ext_good (itC_good k q hq) hp
theorem flat_le' {α β:Type} (f:α→List β) (n:Nat):∀ l:List α,(∀ a∈l,(f a).length≤n)→(l.flatMap f).length≤l.length * n
 | [],_=>by simp
 | a :: l,h=>by
  have h1:=h a (.head _)
  have h2:=flat_le' f n l (fun z hz=>h z (.tail _ hz))
  rw [List.flatMap_cons,List.length_append,List.length_cons,Nat.succ_mul]
  omega
noncomputable def fall:Nat→Nat→Nat
 | _,0=>1
 | m,d + 1=>m * fall (m - 1) d
theorem ext_fall {n:Nat} {s:Nat→Nat→Nat} {p:List Nat} (hp:p.Nodup) (hx:∀ x∈p,x < n):(extC n s p).length≤n - p.length:=by
 have h1:(extC n s p).length=((List.range n).filter (okC s p)).length:=by unfold extC; rw [List.length_map]
 have hnd:(((List.range n).filter (okC s p)) ++ p).Nodup:=by
  rw [List.nodup_append]
  refine ⟨List.nodup_range.sublist List.filter_sublist,hp,fun a ha b hb e=>?_⟩
  have ho:=(List.mem_filter.mp ha).2
  unfold okC at ho
  simp only [Bool.and_eq_true,Bool.not_eq_true',decide_eq_false_iff_not] at ho
  exact ho.1 (e ▸ hb)
 have:=nd_len hnd (m:=List.range n) (fun x hx'=>by
  rcases List.mem_append.mp hx' with hx' | hx'
  ·exact (List.mem_filter.mp hx').1
  ·exact List.mem_range.mpr (hx x hx'))
 rw [List.length_append,List.length_range] at this
 omega
theorem itC_fall {n:Nat} {s:Nat→Nat→Nat}:∀ (d:Nat) (p:List Nat),Good s p→(∀ x∈p,x < n)→(itC n s d [p]).length≤fall (n - p.length) d
 | 0,p,_,_=>by simp [itC,fall]
 | d + 1,p,hp,hx=>by
  show (itC n s d ([p].flatMap (extC n s))).length≤_
  rw [List.flatMap_singleton,itC_flat]
  have h1:=flat_le' (fun q=>itC n s d [q]) (fall (n - p.length - 1) d) (extC n s p) (fun q hq=>by
   obtain ⟨k,hk,e⟩:=ext_mem hq
   have:=itC_fall d q (ext_good hp hq) (fun x hx'=>by
    rw [e] at hx'
    rcases List.mem_append.mp hx' with hx' | hx'
    ·exact hx x hx'
    ·rw [List.mem_singleton.mp hx']; exact hk)
   rw [e,List.length_append,List.length_singleton] at this
   rw [show n - p.length - 1=n - (p.length + 1) by omega]
   rw [e]
   exact this)
  exact Nat.le_trans h1 (Nat.mul_le_mul_right _ (ext_fall hp.1 hx))
noncomputable def mor (n:Nat) (s:Nat→Nat→Nat) (i:Nat):List (List Nat):=(itC n s n [[]]).filter fun p=>decide (p.getD 0 0=i)
theorem head_it {n:Nat} {s:Nat→Nat→Nat} {k:Nat}:∀ d,∀ q∈itC n s d [[k]],q.head? = some k
 | 0,q,h=>by rw [List.mem_singleton.mp h]; rfl
 | d + 1,q,h=>by
  rw [itC_succ] at h
  obtain ⟨p,hp,hq⟩:=List.mem_flatMap.mp h
  obtain ⟨x,_,rfl⟩:=ext_mem hq
  have:=head_it d p hp
  cases p with
  | nil=>cases this
  | cons a l=>exact this
theorem none_flat {α:Type} {i B:Nat} {f:Nat→List α}:∀ l:List Nat,(∀ k∈l,k≠i→f k=[])→(∀ k∈l,(f k).length≤B)→l.Nodup→(l.flatMap f).length≤B
 | [],_,_,_=>by simp
 | a :: l,h,hB,hn=>by
  rw [List.nodup_cons] at hn
  rw [List.flatMap_cons,List.length_append]
  by_cases ha:a=i
  ·have:l.flatMap f=[]:=List.flatMap_eq_nil_iff.mpr fun k hk=>h k (.tail _ hk) (fun e=>hn.1 (by rw [ha,← e]; exact hk))
   rw [this]
   simpa using hB a (.head _)
  ·rw [h a (.head _) ha]
   have:=none_flat l (fun k hk=>h k (.tail _ hk)) (fun k hk=>hB k (.tail _ hk)) hn.2
   simpa using this
theorem mor_le {n:Nat} {s:Nat→Nat→Nat} (h1:1≤n) (h5:n≤5) (i:Nat):(mor n s i).length≤24:=by
 have e:itC n s n [[]]=((List.range n).filter (okC s [])).flatMap fun k=>itC n s (n - 1) [[k]]:=by
  obtain ⟨m,rfl⟩:∃ m,n=m + 1:=⟨n - 1,by omega⟩
  show itC (m + 1) s m ([[]].flatMap (extC (m + 1) s))=_
  rw [List.flatMap_singleton,itC_flat]
  unfold extC
  rw [List.flatMap_map]
  rfl
 have hk:∀ k,k < n→(itC n s (n - 1) [[k]]).length≤24:=fun k hk=>by
  have:=itC_fall (n:=n) (s:=s) (n - 1) [k] ⟨by simp,by simp [sgn,List.range_succ]⟩ (fun x hx=>by rw [List.mem_singleton.mp hx]; exact hk)
  refine Nat.le_trans this ?_
  rw [List.length_singleton]
  have:n=1∨n=2∨n=3∨n=4∨n=5:=by omega
  rcases this with rfl | rfl | rfl | rfl | rfl <;> decide
 unfold mor
 rw [e,List.filter_flatMap]
 refine none_flat (i:=i) _ (fun k hk' hne=>?_) (fun k hk'=>?_) (List.nodup_range.sublist List.filter_sublist)
 ·refine List.filter_eq_nil_iff.mpr fun q hq=>?_
  have:=head_it (n - 1) q hq
  cases q with
  | nil=>cases this
  | cons a l =>
   have:a=k:=Option.some.inj this
   simp [this,hne]
 ·exact Nat.le_trans (List.length_filter_le _ _) (hk k (List.mem_range.mp (List.mem_filter.mp hk').1))
noncomputable def stW (n:Nat) (s:Nat→Nat→Nat) (ch:List (List Nat)):List (List (List Nat)):=ext1 (mor n s ch.length) ch
noncomputable def itW (n:Nat) (s:Nat→Nat→Nat):Nat→List (List (List Nat))→List (List (List Nat))
 | 0,L=>L
 | k + 1,L=>itW n s k (L.flatMap (stW n s))
theorem itW_succ {n:Nat} {s:Nat→Nat→Nat} (k:Nat) (L:List (List (List Nat))):itW n s (k + 1) L=(itW n s k L).flatMap (stW n s):=by
 induction k generalizing L with
 | zero=>rfl
 | succ k ih=>exact ih _
theorem itW_flat {n:Nat} {s:Nat→Nat→Nat}:∀ (k:Nat) (L:List (List (List Nat))),itW n s k L=L.flatMap fun p=>itW n s k [p]
 | 0,L=>by simp [itW]
 | k + 1,L=>by
  show itW n s k (L.flatMap (stW n s))=L.flatMap fun p=>itW n s k ([p].flatMap (stW n s))
  rw [itW_flat k,List.flatMap_assoc]
  congr 1
  funext p
  rw [itW_flat k ([p].flatMap (stW n s))]
  simp
structure Cho (n:Nat) (s:Nat→Nat→Nat) (k:Nat) (ch:List (List Nat)):Prop where
 len:ch.length=k
 mem:∀ i,i < k→ch.getD i []∈mor n s i
 pw:ch.Pairwise fun a b=>agr b a=false
theorem st_cho {n k:Nat} {s:Nat→Nat→Nat} {ch ch':List (List Nat)} (h:Cho n s k ch) (hm:ch'∈stW n s ch):Cho n s (k + 1) ch':=by
 unfold stW ext1 at hm
 obtain ⟨cut,hc,rfl⟩:=List.mem_map.mp hm
 obtain ⟨h1,h2⟩:=List.mem_filter.mp hc
 have hf:∀ each∈ch,agr cut each=false:=fun each he=>by
  unfold fre at h2
  simp only [Bool.not_eq_true',List.any_eq_false] at h2
  simpa using h2 each he
 refine ⟨by simp [h.len],fun i hi=>?_,?_⟩
 ·by_cases hk:i < k
  ·rw [List.getD_eq_getElem?_getD,List.getElem?_append_left (by rw [h.len]; exact hk),← List.getD_eq_getElem?_getD]
   exact h.mem i hk
  ·have:i=k:=by omega
   subst this
   rw [List.getD_eq_getElem?_getD,List.getElem?_append_right (by rw [h.len]; exact Nat.le_refl _),h.len,Nat.sub_self]
   rw [h.len] at h1
   exact h1
 ·rw [List.pairwise_append]
  exact ⟨h.pw,by simp,fun a ha b hb=>by rw [List.mem_singleton.mp hb]; exact hf a ha⟩
theorem itW_cho {n:Nat} {s:Nat→Nat→Nat}:∀ k,∀ ch∈itW n s k [[]],Cho n s k ch
 | 0,ch,h=>by
  have:ch=[]:=List.mem_singleton.mp h
  subst this
  exact ⟨rfl,fun i hi=>absurd hi (Nat.not_lt_zero _),.nil⟩
 | k + 1,ch,h=>by
  rw [itW_succ] at h
  obtain ⟨q,hq,hp⟩:=List.mem_flatMap.mp h
  exact st_cho (itW_cho k q hq) hp
theorem itW_le {n:Nat} (h1:1≤n) (h5:n≤5) (s:Nat→Nat→Nat):∀ k,(itW n s k [[]]).length≤24 ^ k
 | 0=>by simp [itW]
 | k + 1=>by
  rw [itW_succ,Nat.pow_succ]
  have g1:=flat_le (stW n s) 24 (fun ch=>by
   unfold stW ext1
   rw [List.length_map]
   exact Nat.le_trans (List.length_filter_le _ _) (mor_le h1 h5 _)) (itW n s k [[]])
  have g2:=itW_le h1 h5 s k
  omega
theorem itW_small {n:Nat} (h1:1≤n) (h5:n≤5) (s:Nat→Nat→Nat) (k:Nat) (hk:k≤5):(itW n s k [[]]).length≤8000000 :=
 Nat.le_trans (itW_le h1 h5 s k) (Nat.le_trans (Nat.pow_le_pow_right (by decide) hk) (by decide))
theorem wom_it {n k:Nat} {s:Nat→Nat→Nat}:wom (itW n s k [[]]) (mor n s k)=itW n s (k + 1) [[]]:=by
 rw [itW_succ]
 unfold wom
 have hl:=fun ch h=>(itW_cho (n:=n) (s:=s) k ch h).len
 generalize itW n s k [[]]=L at hl ⊢
 induction L with
 | nil=>rfl
 | cons a L ih =>
  rw [List.flatMap_cons,List.flatMap_cons,ih (fun ch h=>hl ch (.tail _ h))]
  unfold stW
  rw [hl a (.head _)]
theorem agr_at {p q:List Nat} {n x:Nat} (hp:p.length=n) (hq:q.length=n) (h:agr p q=false) (hx:x < n):p.getD x 0≠q.getD x 0:=by
 unfold agr at h
 rw [List.any_eq_false] at h
 have hm:(p[x]'(by omega),q[x]'(by omega))∈p.zip q:=by
  have:(p.zip q)[x]? = some (p[x]'(by omega),q[x]'(by omega)):=by
   rw [List.getElem?_zip_eq_some]
   exact ⟨List.getElem?_eq_getElem _,List.getElem?_eq_getElem _⟩
  exact List.mem_of_getElem? this
 have:=h _ hm
 rw [List.getD_eq_getElem?_getD,List.getD_eq_getElem?_getD,List.getElem?_eq_getElem (by omega),List.getElem?_eq_getElem (by omega)]
 simpa using this
noncomputable def colC (ch:List (List Nat)) (x:Nat):List Nat:=ch.map fun p=>p.getD x 0
noncomputable def ixC (l:List Nat) (y:Nat):Nat:=(l.findIdx? fun z=>z == y).getD 0
theorem ix_some {l:List Nat} {y:Nat} (h:y∈l):(l.findIdx? fun z=>z == y)=some (ixC l y)∧ixC l y < l.length∧l.getD (ixC l y) 0=y:=by
 unfold ixC
 cases e:l.findIdx? fun z=>z == y with
 | none =>
  have:=List.findIdx?_eq_none_iff.mp e y h
  simp at this
 | some j =>
  obtain ⟨hj,h1,_⟩:=List.findIdx?_eq_some_iff_getElem.mp e
  refine ⟨rfl,hj,?_⟩
  show l.getD j 0=y
  rw [List.getD_eq_getElem?_getD,List.getElem?_eq_getElem hj]
  simpa using h1
section
variable {n:Nat} {s:Nat→Nat→Nat} {ch:List (List Nat)} (C:Cho n s n ch)
include C
theorem Cho.cut {i:Nat} (hi:i < n):Pre n n (ch.getD i [])∧Good s (ch.getD i []):=by
 have:=(List.mem_filter.mp (C.mem i hi)).1
 exact ⟨itC_pre n _ this,itC_good n _ this⟩
theorem Cho.all {p:List Nat} (h:p∈ch):Pre n n p∧Good s p:=by
 obtain ⟨i,hi,e⟩:=List.mem_iff_getElem.mp h
 have:=C.cut (i:=i) (by rw [← C.len]; exact hi)
 rw [List.getD_eq_getElem?_getD,List.getElem?_eq_getElem hi] at this
 rw [← e]
 exact this
theorem Cho.col {x:Nat} (hx:x < n):(colC ch x).Perm (List.range n):=by
 refine perm_sub ?_ (fun y hy=>?_) (by unfold colC; rw [List.length_map,List.length_range,C.len])
 ·unfold colC List.Nodup
  rw [List.pairwise_map]
  refine List.Pairwise.imp_of_mem (fun {a b} ha hb h=>?_) C.pw
  have:=agr_at (C.all hb).1.1 (C.all ha).1.1 h hx
  exact Ne.symm this
 ·unfold colC at hy
  obtain ⟨p,hp,rfl⟩:=List.mem_map.mp hy
  have h1:=(C.all hp).1
  exact List.mem_range.mpr (h1.2 _ (getD_mem (by rw [h1.1]; exact hx)))
noncomputable def tS (ch:List (List Nat)) (x y:Nat):Nat:=ixC (colC ch x) y
theorem Cho.at {x y:Nat} (hx:x < n) (hy:y < n):tS ch x y < n∧(ch.getD (tS ch x y) []).getD x 0=y:=by
 have hm:y∈colC ch x:=(C.col hx).mem_iff.mpr (List.mem_range.mpr hy)
 obtain ⟨_,h2,h3⟩:=ix_some hm
 have hl:(colC ch x).length=n:=by unfold colC; rw [List.length_map,C.len]
 have h2':ixC (colC ch x) y < ch.length:=by rw [C.len]; omega
 refine ⟨by unfold tS; omega,?_⟩
 unfold colC at h3
 rw [List.getD_eq_getElem?_getD,List.getElem?_map] at h3
 unfold tS
 rw [List.getD_eq_getElem?_getD]
 have e:ch[ixC (colC ch x) y]? = some ch[ixC (colC ch x) y]:=List.getElem?_eq_getElem h2'
 show (ch[ixC (colC ch x) y]?.getD []).getD x 0=y
 rw [e]
 have h3':((ch[ixC (colC ch x) y]?).map fun p=>p.getD x 0).getD 0=y:=h3
 rw [e] at h3'
 exact h3'
theorem Cho.latin:Latin n (tS ch):=by
 refine ⟨fun x hx=>perm_sub (nodup_range_map fun y y' hy hy' e=>?_) (fun z hz=>?_) (by simp),fun y hy=>perm_sub (nodup_range_map fun x x' hx hx' e=>?_) (fun z hz=>?_) (by simp)⟩
 ·rw [← (C.at hx hy).2,e,(C.at hx hy').2]
 ·obtain ⟨y,hy,rfl⟩:=List.mem_map.mp hz
  exact List.mem_range.mpr (C.at hx (List.mem_range.mp hy)).1
 ·have h1:=C.at hx hy
  have h2:=C.at hx' hy
  have hc:=C.cut h1.1
  rw [← e] at h2
  exact getD_inj hc.2.1 (by rw [hc.1.1]; exact hx) (by rw [hc.1.1]; exact hx') (by rw [h1.2,h2.2])
 ·obtain ⟨x,hx,rfl⟩:=List.mem_map.mp hz
  exact List.mem_range.mpr (C.at (List.mem_range.mp hx) hy).1
theorem Cho.across {x y x' y':Nat} (hx:x < n) (hy:y < n) (hx':x' < n) (hy':y' < n) (e1:s x y=s x' y') (e2:tS ch x y=tS ch x' y'):x=x'∧y=y':=by
 have h1:=C.at hx hy
 have h2:=C.at hx' hy'
 rw [← e2] at h2
 have hc:=C.cut h1.1
 generalize ch.getD (tS ch x y) []=p at h1 h2 hc
 have hl:p.length=n:=hc.1.1
 have sg:∀ z,z < n→(sgn s p).getD z 0=s z (p.getD z 0):=fun z hz=>by
  unfold sgn
  rw [List.getD_eq_getElem?_getD,List.getElem?_map,List.getElem?_range (by omega)]
  rfl
 have hsl:(sgn s p).length=n:=by unfold sgn; rw [List.length_map,List.length_range,hl]
 have hxx:x=x':=getD_inj hc.2.2 (by omega) (by omega) (by rw [sg x hx,sg x' hx',h1.2,h2.2,e1])
 subst hxx
 exact ⟨rfl,by rw [← h1.2,h2.2]⟩
end
end Ev
namespace Ev
open PySem L2
theorem tp_ix {p:List Nat} {x:Nat} (h:x < p.length) (c:List Cell):ixD (tpD p) (.int (x:Int)) c=.ok (.int (p.getD x 0:Nat)) c:=ord_ix h c
theorem cle_gen {r:D} {k v:Int} {c:List Cell} (h:ixD r (.int k) c=.ok (.int v) c):(dBin ixD (dVar 0) (dVar 1)) [some r,some (.int k)] c=.ok (.int v) c:=by
 simp only [x_bin,x_var,gz,gs,R.bind_ok,h]
theorem colL_ok {ch:List (List Nat)} {n x:Nat} (hch:∀ p∈ch,p.length=n) (hl:ch.length < 1000) (hx:x < n) (c:List Cell):m_column_of [chD ch,.int (x:Int)] c=.ok (.tup (nD (colC ch x))) c:=by
 have hs:=small_line (n:=1000) (by decide)
 have hc:=lst_comp (E:=[some (.int (x:Int))]) (a:=(dBin ixD (dVar 0) (dVar 1))) (c:=c) tpD (fun p=>D.int (p.getD x 0:Nat)) ch none [] (fun p hp=>cle_gen (tp_ix (by rw [hch p hp]; exact hx) c))
 have hm:(ch.map fun p=>D.int (p.getD x 0:Nat))=nD (colC ch x):=by rw [nD_map]; unfold colC; rw [List.map_map]; rfl
 rw [List.nil_append,hm] at hc
 have e:(sRet (dCB tupleD (dCons (dComp (dSeqB (dVar 0)) [none,some 1] (gdName 0) dYes (dBin ixD (dVar 0) (dVar 1))) dNil))) [some (chD ch),some (.int (x:Int))] c=.ok (.rt (.tup (nD (colC ch x)))) c:=by
  have hp:pickD [none,some 1] [some (chD ch),some (.int (x:Int))]=[none,some (.int (x:Int))]:=rfl
  have hd:dSeqB (dVar 0) [some (chD ch),some (.int (x:Int))] c=.ok ⟨ch.map tpD,fun _=>True⟩ c:=rfl
  simp only [x_ret,x_cb,x_cons,x_comp,hd,x_nil,R.bind_ok]
  rw [if_pos (by rw [List.length_map]; omega),hp,hc]
  rfl
 have hb:b_column_of=(sRet (dCB tupleD (dCons (dComp (dSeqB (dVar 0)) [none,some 1] (gdName 0) dYes (dBin ixD (dVar 0) (dVar 1))) dNil))):=rfl
 rw [m_column_of,x_fn,hb]
 have es:startD 2 [chD ch,.int (x:Int)]=[some (chD ch),some (.int (x:Int))]:=rfl
 rw [es,e]
 simp only [R.bind_ok]
 rw [q_tup,if_pos (noRefs_nD _),List.take_length]
theorem swe_gen {ns:List Int} {k:Int} {j:Nat} {c:List Cell} (h:ns.findIdx? (fun i=>i == k)=some j):(dIndexT (dVar 1) (dVar 0)) [some (.int k),some (.tup (ns.map D.int))] c=.ok (.int (j:Nat)) c:=by
 have hi:=intsD_map ns
 generalize ns.map D.int=l at *
 unfold dIndexT
 simp only [x_var,gz,gs,R.bind_ok,hi,h]
theorem find_nat (l:List Nat) (y:Nat):((l.map fun k:Nat=>(k:Int)).findIdx? fun i=>i == (y:Int))=l.findIdx? fun z=>z == y:=by
 rw [List.findIdx?_map]
 congr 1
 funext z
 show ((z:Int) == (y:Int))=(z == y)
 rw [Bool.eq_iff_iff,beq_iff_eq,beq_iff_eq]
 omega
theorem sw_gen {T:D} {q:Int} {l:List D} {c:List Cell} (hT:lenD [T] c=.ok (.int q) c) (b:-4611686018427387904≤q∧q < 4611686018427387904) (hl:(rngD 0 q).length < sizeLine) (h:compD (fun _=>True) (gdName 0) dYes (dIndexT (dVar 1) (dVar 0)) (rngD 0 q) [none,some T] [] c=.ok l c):(sRet (dCB tupleD (dCons (dComp (dRng1 (dCons (dCB lenD (dCons (dVar 0) dNil)) dNil)) [none,some 0] (gdName 0) dYes (dIndexT (dVar 1) (dVar 0))) dNil))) [some T] c=.ok (.rt (.tup l)) c:=by
 have hp:pickD [none,some 0] [some T]=[none,some T]:=rfl
 simp only [x_ret,x_cb,x_cons,x_comp,x_rng1,x_var,gz,x_nil,R.bind_ok,hT]
 rw [if_pos (by omega)]
 simp only [R.bind_ok]
 rw [if_pos hl,hp,h]
 rfl
theorem signs_ok {l:List Nat} {n:Nat} (hl:l.Perm (List.range n)) (hn:n < 8) (c:List Cell):m_signs_where [.tup (nD l)] c=.ok (.tup (nD ((List.range n).map (ixC l)))) c:=by
 have hs:=small_line (n:=1000) (by decide)
 have hc:=pure_comp (E:=[some (.tup (nD l))]) (a:=(dIndexT (dVar 1) (dVar 0))) (n:=n) (c:=c) (fun y=>.int (ixC l y:Nat)) (fun y hy=>by
  have:=(ix_some (hl.mem_iff.mpr (List.mem_range.mpr hy))).1
  rw [← find_nat] at this
  rw [nD_ints]
  exact swe_gen this)
 have hm:((List.range n).map fun y=>D.int (ixC l y:Nat))=nD ((List.range n).map (ixC l)):=by rw [nD_map,List.map_map]; rfl
 rw [hm] at hc
 have hT:=lenT l c
 rw [perm_len hl] at hT
 have e:=sw_gen hT (by omega) (by rw [rng_len]; omega) hc
 have hb:b_signs_where=(sRet (dCB tupleD (dCons (dComp (dRng1 (dCons (dCB lenD (dCons (dVar 0) dNil)) dNil)) [none,some 0] (gdName 0) dYes (dIndexT (dVar 1) (dVar 0))) dNil))):=rfl
 have es:startD 1 [D.tup (nD l)]=[some (.tup (nD l))]:=rfl
 rw [m_signs_where,x_fn,hb,es,e]
 simp only [R.bind_ok]
 rw [q_tup,if_pos (noRefs_nD _),List.take_length]
theorem sce_gen {T C S:D} {k:Int} {c:List Cell} (h1:m_column_of [T,.int k] c=.ok C c) (h2:m_signs_where [C] c=.ok S c):(dCall 1 m_signs_where (dCons (dCall 2 m_column_of (dCons (dVar 1) (dCons (dVar 0) dNil))) dNil)) [some (.int k),some T] c=.ok S c:=by simp [h1,h2]
theorem sc_gen {T:D} {q:Int} {l:List D} {c:List Cell} (hT:lenD [T] c=.ok (.int q) c) (b:-4611686018427387904≤q∧q < 4611686018427387904) (hl:(rngD 0 q).length < sizeLine) (h:compD (fun _=>True) (gdName 0) dYes (dCall 1 m_signs_where (dCons (dCall 2 m_column_of (dCons (dVar 1) (dCons (dVar 0) dNil))) dNil)) (rngD 0 q) [none,some T] [] c=.ok l c):(sRet (dCB tupleD (dCons (dComp (dRng1 (dCons (dCB lenD (dCons (dVar 0) dNil)) dNil)) [none,some 0] (gdName 0) dYes (dCall 1 m_signs_where (dCons (dCall 2 m_column_of (dCons (dVar 1) (dCons (dVar 0) dNil))) dNil))) dNil))) [some T] c=.ok (.rt (.tup l)) c:=by
 have hp:pickD [none,some 0] [some T]=[none,some T]:=rfl
 simp only [x_ret,x_cb,x_cons,x_comp,x_rng1,x_var,gz,x_nil,R.bind_ok,hT]
 rw [if_pos (by omega)]
 simp only [R.bind_ok]
 rw [if_pos hl,hp,h]
 rfl
theorem made_ok {n:Nat} {s:Nat→Nat→Nat} {ch:List (List Nat)} (C:Cho n s n ch) (hn:n < 8) (c:List Cell):m_square_of_cuts [chD ch] c=.ok (sqD n (tS ch)) c:=by
 have hs:=small_line (n:=1000) (by decide)
 have hc:=pure_comp (E:=[some (chD ch)]) (a:=(dCall 1 m_signs_where (dCons (dCall 2 m_column_of (dCons (dVar 1) (dCons (dVar 0) dNil))) dNil))) (n:=n) (c:=c) (fun x=>.tup (nD ((List.range n).map (tS ch x)))) (fun x hx =>
  sce_gen (colL_ok (fun p hp=>(C.all hp).1.1) (by rw [C.len]; omega) hx c) (signs_ok (C.col hx) hn c))
 have hT:lenD [chD ch] c=.ok (.int (n:Int)) c:=by unfold chD; rw [x_lenL,List.length_map,C.len]
 have e:=sc_gen hT (by omega) (by rw [rng_len]; omega) hc
 have hb:b_square_of_cuts=(sRet (dCB tupleD (dCons (dComp (dRng1 (dCons (dCB lenD (dCons (dVar 0) dNil)) dNil)) [none,some 0] (gdName 0) dYes (dCall 1 m_signs_where (dCons (dCall 2 m_column_of (dCons (dVar 1) (dCons (dVar 0) dNil))) dNil))) dNil))):=rfl
 have es:startD 1 [chD ch]=[some (chD ch)]:=rfl
 rw [m_square_of_cuts,x_fn,hb,es,e]
 simp only [R.bind_ok]
 rw [q_tup,if_pos (noRefs_sq n _),List.take_length]
 rfl
theorem sat_gen {P:D} {i x:Int} {c:List Cell} (h:ixD P (.int 0) c=.ok (.int x) c):(dBl (dBin eqD (dBin ixD (dVar 0) (dC (.int 0))) (dVar 1))) [some P,some (.int i)] c=.ok (decide (x=i)) c:=by simp [h]
theorem mor_comp {n:Nat} {s:Nat→Nat→Nat} (h1:1≤n) (i:Nat) (c:List Cell):compD (fun _=>True) (gdName 0) (dBl (dBin eqD (dBin ixD (dVar 0) (dC (.int 0))) (dVar 1))) (dVar 0) ((itC n s n [[]]).map tpD) [none,some (.int (i:Int))] [] c=.ok ((mor n s i).map tpD) c:=by
 have:=filt_comp (E:=[some (.int (i:Int))]) (t:=(dBl (dBin eqD (dBin ixD (dVar 0) (dC (.int 0))) (dVar 1)))) (a:=dVar 0) (c:=c) tpD tpD (fun p=>decide (p.getD 0 0=i)) (itC n s n [[]]) none [] (fun p hp=>by
  have hx:=tp_ix (p:=p) (x:=0) (by rw [(itC_pre n p hp).1]; omega) c
  have:=sat_gen (i:=(i:Int)) hx
  rw [this]
  congr 1
  exact decide_eq_decide.mpr (by omega)) (fun p _ _=>rfl)
 rw [List.nil_append] at this
 exact this
theorem sab_gen {S:D} {L chs ms out:List D} {i:Int} {c:List Cell} (hl:L.length < sizeLine) (h1:compD (fun _=>True) (gdName 0) (dBl (dBin eqD (dBin ixD (dVar 0) (dC (.int 0))) (dVar 1))) (dVar 0) L [none,some (.int i)] [] c=.ok ms c) (h2:m_with_one_more [.lst chs,.lst ms] c=.ok (.lst out) c):(sSet 2 (dCall 2 m_with_one_more (dCons (dVar 2) (dCons (dComp (dSeq (dVar 1)) [none,some 3] (gdName 0) (dBl (dBin eqD (dBin ixD (dVar 0) (dC (.int 0))) (dVar 1))) (dVar 0)) dNil)))) [some S,some (.lst L),some (.lst chs),some (.int i)] c=.ok (.nx [some S,some (.lst L),some (.lst out),some (.int i)]) c:=by
 have hp:pickD [none,some 3] [some S,some (.lst L),some (.lst chs),some (.int i)]=[none,some (.int i)]:=rfl
 have hd:dSeq (dVar 1) [some S,some (.lst L),some (.lst chs),some (.int i)] c=.ok ⟨L,fun _=>True⟩ c:=rfl
 have hv:dVar 2 [some S,some (.lst L),some (.lst chs),some (.int i)] c=.ok (.lst chs) c:=rfl
 simp only [x_set,x_call,x_cons,hv,x_comp,hd,x_nil,R.bind_ok]
 rw [if_pos hl,hp,h1]
 simp only [R.bind_ok,List.length_cons,List.length_nil,if_pos,h2]
 rfl
noncomputable def acrD (n:Nat) (s:Nat→Nat→Nat):D:=match itW n s n [[]] with
 | []=>.non
 | ch :: _=>sqD n (tS ch)
theorem sa5_no {S L v3:Option D} {c:List Cell}:(sRet (dIfE (dTru (dVar 2)) (dCall 1 m_square_of_cuts (dCons (dBin ixD (dVar 2) (dC (.int 0))) dNil)) (dC .non))) [S,L,some (.lst []),v3] c=.ok (.rt .non) c:=by simp [truD]
theorem sa5_yes {S L v3:Option D} {T Z:D} {l:List D} {c:List Cell} (h:m_square_of_cuts [T] c=.ok Z c):(sRet (dIfE (dTru (dVar 2)) (dCall 1 m_square_of_cuts (dCons (dBin ixD (dVar 2) (dC (.int 0))) dNil)) (dC .non))) [S,L,some (.lst (T :: l)),v3] c=.ok (.rt Z) c:=by simp [truD,h]
theorem sa1_no {S:D} {q:Int} {a1 a2 a3:Option D} {c:List Cell} (hl:lenD [S] c=.ok (.int q) c) (h:¬ (5:Int) < q):(sIf (dBl (dBin gtD (dCB lenD (dCons (dVar 0) dNil)) (dC (.int 5)))) sBad sNext) [some S,a1,a2,a3] c=.ok (.nx [some S,a1,a2,a3]) c:=by simp [hl,h]
theorem sa4_gen {S:D} {q:Int} {a1 a2 a3:Option D} {e':Ev} {c c':List Cell} (hl:lenD [S] c=.ok (.int q) c) (b:-4611686018427387904≤q∧q < 4611686018427387904) (h:forD (fun _=>True) (gdName 3) (sSet 2 (dCall 2 m_with_one_more (dCons (dVar 2) (dCons (dComp (dSeq (dVar 1)) [none,some 3] (gdName 0) (dBl (dBin eqD (dBin ixD (dVar 0) (dC (.int 0))) (dVar 1))) (dVar 0)) dNil)))) (rngD 0 q) [some S,a1,a2,a3] c=.ok (.nx e') c'):(sFor (dRng1 (dCons (dCB lenD (dCons (dVar 0) dNil)) dNil)) (gdName 3) (sSet 2 (dCall 2 m_with_one_more (dCons (dVar 2) (dCons (dComp (dSeq (dVar 1)) [none,some 3] (gdName 0) (dBl (dBin eqD (dBin ixD (dVar 0) (dC (.int 0))) (dVar 1))) (dVar 0)) dNil))))) [some S,a1,a2,a3] c=.ok (.nx e') c':=by
 simp only [x_for,x_rng1,x_cons,x_cb,x_var,gz,gs,x_nil,R.bind_ok,hl]
 rw [if_pos (by omega)]
 exact h
theorem some_ok {n:Nat} {s:Nat→Nat→Nat} (hL:Latin n s) (h1:1≤n) (h5:n≤5) (c:List Cell):m_some_across [sqD n s] c=.ok (acrD n s) c:=by
 have hs:=small_line (n:=1000) (by decide)
 have hs9:1000000≤sizeLine:=by decide
 have hsq:=square_ok hL h1 (by omega) c
 have hcu:=cuts_ok hL h1 (by omega) c
 have hreq:m_require_square [sqD n s] c=.ok .non c:=by
  generalize sqD n s=S at *
  simp [m_require_square,b_require_square,hsq]
 have hlen:lenD [sqD n s] c=.ok (.int (n:Int)) c:=by unfold sqD; rw [x_lenT]; simp
 have e0:(sDrop (dCall 1 m_require_square (dCons (dVar 0) dNil))) [some (sqD n s),none,none,none] c=.ok (.nx [some (sqD n s),none,none,none]) c:=by
  generalize sqD n s=S at *
  simp [hreq]
 have e1:(sIf (dBl (dBin gtD (dCB lenD (dCons (dVar 0) dNil)) (dC (.int 5)))) sBad sNext) [some (sqD n s),none,none,none] c=.ok (.nx [some (sqD n s),none,none,none]) c:=sa1_no hlen (by omega)
 have e2:(sSet 1 (dCall 1 m_cuts (dCons (dVar 0) dNil))) [some (sqD n s),none,none,none] c=.ok (.nx [some (sqD n s),some (.lst ((itC n s n [[]]).map tpD)),none,none]) c:=by
  generalize sqD n s=S at *
  generalize (itC n s n [[]]).map tpD=L at *
  simp [hcu]
 have e3:(sSet 2 (dLst (dCons (dLst dNil) dNil))) [some (sqD n s),some (.lst ((itC n s n [[]]).map tpD)),none,none] c=.ok (.nx [some (sqD n s),some (.lst ((itC n s n [[]]).map tpD)),some (.lst [.lst []]),none]) c:=by
  generalize sqD n s=S at *
  generalize (itC n s n [[]]).map tpD=L at *
  simp
 have hLl:((itC n s n [[]]).map tpD).length < sizeLine:=by
  have:=itC_small (n:=n) (by omega) s [] n (by omega)
  rw [List.length_map]
  omega
 obtain ⟨e4',c4,⟨hc4,w3,he4⟩,h4⟩:=for_invI (g:=gdName 3) (s:=(sSet 2 (dCall 2 m_with_one_more (dCons (dVar 2) (dCons (dComp (dSeq (dVar 1)) [none,some 3] (gdName 0) (dBl (dBin eqD (dBin ixD (dVar 0) (dC (.int 0))) (dVar 1))) (dVar 0)) dNil))))) (fun i e c'=>c'=c∧∃ w3,e=[some (sqD n s),some (.lst ((itC n s n [[]]).map tpD)),some (.lst ((itW n s i [[]]).map chD)),w3]) (rngD 0 (n:Int)) 0 [some (sqD n s),some (.lst ((itC n s n [[]]).map tpD)),some (.lst [.lst []]),none] c ⟨rfl,none,rfl⟩ (fun i x hx e c' ⟨hc,w3,he⟩=>by
  subst hc he
  rw [Nat.zero_add]
  have hi:i < n:=by
   have:=(List.getElem?_eq_some_iff.mp hx).1
   rw [rng_len] at this
   omega
  rw [rngD_map,List.getElem?_map,List.getElem?_range hi] at hx
  have hx':x=.int (i:Int):=(Option.some.inj hx).symm
  subst hx'
  have hw:=more_ok (chs:=itW n s i [[]]) (ms:=mor n s i) (fun m hm=>by
   have:=(itC_pre n m (List.mem_filter.mp hm).1).1
   omega) (fun ch hch=>by
   have:=(itW_cho i ch hch).len
   omega) (by rw [wom_it]; exact itW_small h1 h5 s (i + 1) (by omega)) c'
  rw [wom_it] at hw
  have hb:=sab_gen (S:=sqD n s) hLl (mor_comp h1 i c') hw
  exact ⟨_,_,_,_,rfl,hb,rfl,_,rfl⟩)
 subst hc4 he4
 rw [Nat.zero_add,rng_len,show ((n:Int) - 0).toNat=n by omega] at h4
 have e4:=sa4_gen hlen (by omega) h4
 have hb:b_some_across=sSeq (sDrop (dCall 1 m_require_square (dCons (dVar 0) dNil))) (sSeq (sIf (dBl (dBin gtD (dCB lenD (dCons (dVar 0) dNil)) (dC (.int 5)))) sBad sNext) (sSeq (sSet 1 (dCall 1 m_cuts (dCons (dVar 0) dNil))) (sSeq (sSet 2 (dLst (dCons (dLst dNil) dNil))) (sSeq (sFor (dRng1 (dCons (dCB lenD (dCons (dVar 0) dNil)) dNil)) (gdName 3) (sSet 2 (dCall 2 m_with_one_more (dCons (dVar 2) (dCons (dComp (dSeq (dVar 1)) [none,some 3] (gdName 0) (dBl (dBin eqD (dBin ixD (dVar 0) (dC (.int 0))) (dVar 1))) (dVar 0)) dNil))))) (sRet (dIfE (dTru (dVar 2)) (dCall 1 m_square_of_cuts (dCons (dBin ixD (dVar 2) (dC (.int 0))) dNil)) (dC .non))))))):=rfl
 have es:startD 4 [sqD n s]=[some (sqD n s),none,none,none]:=rfl
 rw [m_some_across,x_fn,hb,es,seq_ok e0,seq_ok e1,seq_ok e2,seq_ok e3,seq_ok e4]
 unfold acrD
 have hcho:=itW_cho (n:=n) (s:=s) n
 cases hW:itW n s n [[]] with
 | nil =>
  rw [List.map_nil,sa5_no]
  simp
 | cons ch r =>
  rw [hW] at hcho
  have hm:=made_ok (hcho ch (.head _)) (by omega) c4
  rw [List.map_cons,sa5_yes hm]
  simp only [R.bind_ok]
  unfold sqD
  rw [q_tup,if_pos (noRefs_sq n _),List.take_length]
theorem many_no {n:Nat} {s:Nat→Nat→Nat} (hL:Latin n s) (h6:5 < n) (h8:n < 8) (c:List Cell):m_some_across [sqD n s] c=.bad∧x_some_across [sqD n s] c=.ok "TooMany" c:=by
 have hsq:=square_ok hL (by omega) (by omega) c
 have hlen:lenD [sqD n s] c=.ok (.int (n:Int)) c:=by unfold sqD; rw [x_lenT]; simp
 have hq:(5:Int) < (n:Int):=by omega
 generalize (n:Int)=q at *
 generalize sqD n s=S at *
 have hreq:m_require_square [S] c=.ok .non c:=by simp [m_require_square,b_require_square,hsq]
 have hreqx:x_require_square [S] c=.bad:=by simp [x_require_square,bx_require_square,fnX,xIf,xBad,hsq]
 exact ⟨by simp [m_some_across,b_some_across,hreq,hlen,hq],by simp [x_some_across,bx_some_across,fnX,xOr,xSeq,xIf,xCall,xCls,hreq,hreqx,hlen,hq]⟩
end Ev
namespace Ev
open PySem L2
@[simp] theorem lwhole_int (i:Int) (c:List Cell):m_law_whole [.int i] c=.ok (.bl true) c:=by simp [m_law_whole,b_law_whole]
theorem nev_same (A:List Int) (c:List Cell):nevD (.lst (A.map D.int)) (.lst (A.map D.int)) c=.ok (.bl false) c:=by
 rw [(eqv_lst A A c).2]
 simp
theorem sortL_ints {ns:List Int} (hn:ns.length < 64) (c:List Cell):sortLD [.lst (ns.map D.int)] c=.ok (.lst ((isort ns).map D.int)) c:=by
 unfold sortLD
 dsimp only [lstD]
 rw [intsD_map]
 dsimp only
 rw [if_pos hn]
theorem sorted_is {l:List Nat} {n:Nat} (h:l.Perm (List.range n)):isort (l.map fun k:Nat=>(k:Int))=rngI 0 (n:Int):=(isort_iff _ n).mpr ⟨l,rfl,h⟩
theorem isr_gen {xs:List D} {bs:List Bool} {A:List Int} {S:Option D} {v3:Option D} {c:List Cell} (hl:xs.length < sizeLine) (h1:compD (fun _=>True) (gdName 0) dYes (dCall 1 m_law_whole (dCons (dVar 0) dNil)) xs [none] [] c=.ok (bs.map D.bl) c) (ha:bs.all id=true) (h2:sortTD [.tup xs] c=.ok (.lst (A.map D.int)) c):(sIf (dOrT (dNotT (dBl (dCB isiD (dCons (dVar 2) (dCons (dC (.ty "tuple")) dNil))))) (dOrT (dNotT (dBl (dCB allD (dCons (dComp (dSeqT (dVar 2)) [none] (gdName 0) dYes (dCall 1 m_law_whole (dCons (dVar 0) dNil))) dNil)))) (dBl (dBin nevD (dCB sortTD (dCons (dVar 2) dNil)) (dVar 1))))) (sRet (dC (.bl false))) sNext) [S,some (.lst (A.map D.int)),some (.tup xs),v3] c=.ok (.nx [S,some (.lst (A.map D.int)),some (.tup xs),v3]) c:=by
 have hp:pickD [none] [S,some (.lst (A.map D.int)),some (.tup xs),v3]=[none]:=rfl
 have hd:dSeqT (dVar 2) [S,some (.lst (A.map D.int)),some (.tup xs),v3] c=.ok ⟨xs,fun _=>True⟩ c:=rfl
 have hn:=nev_same A c
 have hA:(dCB allD (dCons (dComp (dSeqT (dVar 2)) [none] (gdName 0) dYes (dCall 1 m_law_whole (dCons (dVar 0) dNil))) dNil)) [S,some (.lst (A.map D.int)),some (.tup xs),v3] c=.ok (.bl true) c:=by
  simp only [x_cb,x_cons,x_comp,hd,x_nil,R.bind_ok]
  rw [if_pos hl,hp,h1]
  simp only [R.bind_ok,all_id,ha]
 have hi:(dCB isiD (dCons (dVar 2) (dCons (dC (.ty "tuple")) dNil))) [S,some (.lst (A.map D.int)),some (.tup xs),v3] c=.ok (.bl true) c:=by
  generalize A.map D.int=L at *
  simp
 have hS:(dCB sortTD (dCons (dVar 2) dNil)) [S,some (.lst (A.map D.int)),some (.tup xs),v3] c=.ok (.lst (A.map D.int)) c:=by
  generalize A.map D.int=L at *
  simp [h2]
 simp only [x_if,x_orT,x_notT,x_bl,hi,hA,x_bin,hS,x_var,gz,gs,R.bind_ok,hn]
 simp
theorem isc_gen {xs l:List D} {A:List Int} {v2:Option D} {k:Int} {c:List Cell} (hl:xs.length < sizeLine) (h1:compD (fun _=>True) (gdName 0) dYes (dBin ixD (dVar 0) (dVar 1)) xs [none,some (.int k)] [] c=.ok l c) (h2:sortLD [.lst l] c=.ok (.lst (A.map D.int)) c):(sIf (dBl (dBin nevD (dCB sortLD (dCons (dComp (dSeqT (dVar 0)) [none,some 3] (gdName 0) dYes (dBin ixD (dVar 0) (dVar 1))) dNil)) (dVar 1))) (sRet (dC (.bl false))) sNext) [some (.tup xs),some (.lst (A.map D.int)),v2,some (.int k)] c=.ok (.nx [some (.tup xs),some (.lst (A.map D.int)),v2,some (.int k)]) c:=by
 have hp:pickD [none,some 3] [some (.tup xs),some (.lst (A.map D.int)),v2,some (.int k)]=[none,some (.int k)]:=rfl
 have hd:dSeqT (dVar 0) [some (.tup xs),some (.lst (A.map D.int)),v2,some (.int k)] c=.ok ⟨xs,fun _=>True⟩ c:=rfl
 have hn:=nev_same A c
 have hS:(dCB sortLD (dCons (dComp (dSeqT (dVar 0)) [none,some 3] (gdName 0) dYes (dBin ixD (dVar 0) (dVar 1))) dNil)) [some (.tup xs),some (.lst (A.map D.int)),v2,some (.int k)] c=.ok (.lst (A.map D.int)) c:=by
  simp only [x_cb,x_cons,x_comp,hd,x_nil,R.bind_ok]
  rw [if_pos hl,hp,h1]
  simp only [R.bind_ok,h2]
 simp only [x_if,x_bl,x_bin,hS,x_var,gz,gs,R.bind_ok,hn]
 simp
theorem is0_gen {xs:List D} {q:Int} {a1 a2 a3:Option D} {c:List Cell} (hq:(xs.length:Int)=q) (h1:1≤q) (h7:q≤7):(sIf (dOrT (dNotT (dBl (dCB isiD (dCons (dVar 0) (dCons (dC (.ty "tuple")) dNil))))) (dNotT (dBl (dChain leD leD (dC (.int 1)) (dCB lenD (dCons (dVar 0) dNil)) (dC (.int 7)))))) (sRet (dC (.bl false))) sNext) [some (.tup xs),a1,a2,a3] c=.ok (.nx [some (.tup xs),a1,a2,a3]) c:=by simp [hq,h1,h7]
theorem is1_gen {xs:List D} {q:Int} {a2 a3:Option D} {c:List Cell} (hq:(xs.length:Int)=q) (b:0 < q∧q < 1000):(sSet 1 (dLRng1 (dCons (dCB lenD (dCons (dVar 0) dNil)) dNil))) [some (.tup xs),none,a2,a3] c=.ok (.nx [some (.tup xs),some (.lst ((rngI 0 q).map D.int)),a2,a3]) c:=by
 simp only [x_set,dLRng1,x_cons,x_cb,x_var,gz,x_nil,R.bind_ok,x_lenT,hq]
 rw [if_pos b]
 rfl
theorem is3_gen {xs:List D} {q:Int} {a1 a2 a3:Option D} {e':Ev} {c c':List Cell} (hq:(xs.length:Int)=q) (b:-4611686018427387904≤q∧q < 4611686018427387904) (h:forD (fun _=>True) (gdName 3) (sIf (dBl (dBin nevD (dCB sortLD (dCons (dComp (dSeqT (dVar 0)) [none,some 3] (gdName 0) dYes (dBin ixD (dVar 0) (dVar 1))) dNil)) (dVar 1))) (sRet (dC (.bl false))) sNext) (rngD 0 q) [some (.tup xs),a1,a2,a3] c=.ok (.nx e') c'):(sFor (dRng1 (dCons (dCB lenD (dCons (dVar 0) dNil)) dNil)) (gdName 3) (sIf (dBl (dBin nevD (dCB sortLD (dCons (dComp (dSeqT (dVar 0)) [none,some 3] (gdName 0) dYes (dBin ixD (dVar 0) (dVar 1))) dNil)) (dVar 1))) (sRet (dC (.bl false))) sNext)) [some (.tup xs),a1,a2,a3] c=.ok (.nx e') c':=by
 simp only [x_for,x_rng1,x_cons,x_cb,x_var,gz,x_nil,R.bind_ok,x_lenT,hq]
 rw [if_pos (by omega)]
 exact h
theorem map_tt (l:List Nat):(l.map fun _=>D.bl true)=(l.map fun _=>true).map D.bl:=by rw [List.map_map]; rfl
theorem lsquare_ok {n:Nat} {t:Nat→Nat→Nat} (hL:Latin n t) (h1:1≤n) (h7:n≤7) (c:List Cell):m_law_is_square [sqD n t] c=.ok (.bl true) c:=by
 have hs:=small_line (n:=1000) (by decide)
 unfold sqD
 generalize hX:((List.range n).map fun i=>D.tup (nD ((List.range n).map (t i))))=xs
 have hxl:xs.length=n:=by rw [← hX]; simp
 have e0:=is0_gen (xs:=xs) (q:=(n:Int)) (a1:=none) (a2:=none) (a3:=none) (c:=c) (by omega) (by omega) (by omega)
 have e1:=is1_gen (xs:=xs) (q:=(n:Int)) (a2:=none) (a3:=none) (c:=c) (by omega) (by omega)
 obtain ⟨e2',c2,⟨hc2,w2,he2⟩,h2⟩:=for_inv (g:=gdName 2) (s:=(sIf (dOrT (dNotT (dBl (dCB isiD (dCons (dVar 2) (dCons (dC (.ty "tuple")) dNil))))) (dOrT (dNotT (dBl (dCB allD (dCons (dComp (dSeqT (dVar 2)) [none] (gdName 0) dYes (dCall 1 m_law_whole (dCons (dVar 0) dNil))) dNil)))) (dBl (dBin nevD (dCB sortTD (dCons (dVar 2) dNil)) (dVar 1))))) (sRet (dC (.bl false))) sNext)) (fun e c'=>c'=c∧∃ w2,e=[some (.tup xs),some (.lst ((rngI 0 (n:Int)).map D.int)),w2,none]) xs [some (.tup xs),some (.lst ((rngI 0 (n:Int)).map D.int)),none,none] c ⟨rfl,none,rfl⟩ (fun x hx e c' ⟨hc,w2,he⟩=>by
  subst hc he
  rw [← hX] at hx
  obtain ⟨i,hi,rfl⟩:=List.mem_map.mp hx
  have hr:=hL.row i (List.mem_range.mp hi)
  have hl:=perm_len hr
  have hcmp:=lst_comp (E:=[]) (a:=(dCall 1 m_law_whole (dCons (dVar 0) dNil))) (c:=c') (fun k:Nat=>D.int (k:Int)) (fun _=>.bl true) ((List.range n).map (t i)) none [] (fun k _=>by generalize (k:Int)=z; simp)
  rw [List.nil_append,← nD_map] at hcmp
  rw [map_tt] at hcmp
  have hsrt:=sortT_ints (ns:=((List.range n).map (t i)).map fun k:Nat=>(k:Int)) (by simp; omega) c'
  rw [sorted_is hr,← nD_ints] at hsrt
  have:=isr_gen (S:=some (.tup xs)) (v3:=none) (by rw [nD_map,List.length_map,hl]; omega) hcmp (all_true _) hsrt
  exact ⟨_,_,_,_,rfl,this,rfl,_,rfl⟩)
 rw [hc2,he2] at h2
 have e2:(sFor (dSeqT (dVar 0)) (gdName 2) (sIf (dOrT (dNotT (dBl (dCB isiD (dCons (dVar 2) (dCons (dC (.ty "tuple")) dNil))))) (dOrT (dNotT (dBl (dCB allD (dCons (dComp (dSeqT (dVar 2)) [none] (gdName 0) dYes (dCall 1 m_law_whole (dCons (dVar 0) dNil))) dNil)))) (dBl (dBin nevD (dCB sortTD (dCons (dVar 2) dNil)) (dVar 1))))) (sRet (dC (.bl false))) sNext)) [some (.tup xs),some (.lst ((rngI 0 (n:Int)).map D.int)),none,none] c=.ok (.nx [some (.tup xs),some (.lst ((rngI 0 (n:Int)).map D.int)),w2,none]) c:=by
  rw [x_for]
  exact h2
 obtain ⟨e3',c3,⟨hc3,w3,he3⟩,h3⟩:=for_inv (g:=gdName 3) (s:=(sIf (dBl (dBin nevD (dCB sortLD (dCons (dComp (dSeqT (dVar 0)) [none,some 3] (gdName 0) dYes (dBin ixD (dVar 0) (dVar 1))) dNil)) (dVar 1))) (sRet (dC (.bl false))) sNext)) (fun e c'=>c'=c∧∃ w3,e=[some (.tup xs),some (.lst ((rngI 0 (n:Int)).map D.int)),w2,w3]) (rngD 0 (n:Int)) [some (.tup xs),some (.lst ((rngI 0 (n:Int)).map D.int)),w2,none] c ⟨rfl,none,rfl⟩ (fun x hx e c' ⟨hc,w3,he⟩=>by
  subst hc he
  obtain ⟨k',rfl,k0,k1⟩:=mem_rng hx
  obtain ⟨k,rfl⟩:=nat_of k0
  have hk:k < n:=by omega
  have hr:=hL.col k hk
  have hcmp:=lst_comp (E:=[some (.int (k:Int))]) (a:=(dBin ixD (dVar 0) (dVar 1))) (c:=c') (fun i=>D.tup (nD ((List.range n).map (t i)))) (fun i=>.int (t i k:Nat)) (List.range n) none [] (fun i _=>cle_gen (sr_ix t i hk c'))
  rw [List.nil_append,hX] at hcmp
  have hm:((List.range n).map fun i=>D.int (t i k:Nat))=(((List.range n).map fun i=>t i k).map fun k:Nat=>(k:Int)).map D.int:=by rw [List.map_map,List.map_map]; rfl
  rw [hm] at hcmp
  have hsrt:=sortL_ints (ns:=((List.range n).map fun i=>t i k).map fun k:Nat=>(k:Int)) (by simp; omega) c'
  rw [sorted_is hr] at hsrt
  have:=isc_gen (v2:=w2) (by omega) hcmp hsrt
  exact ⟨_,_,_,_,rfl,this,rfl,_,rfl⟩)
 rw [hc3,he3] at h3
 have e3:=is3_gen (xs:=xs) (q:=(n:Int)) (by omega) (by omega) h3
 have hb:b_law_is_square=sSeq (sIf (dOrT (dNotT (dBl (dCB isiD (dCons (dVar 0) (dCons (dC (.ty "tuple")) dNil))))) (dNotT (dBl (dChain leD leD (dC (.int 1)) (dCB lenD (dCons (dVar 0) dNil)) (dC (.int 7)))))) (sRet (dC (.bl false))) sNext) (sSeq (sSet 1 (dLRng1 (dCons (dCB lenD (dCons (dVar 0) dNil)) dNil))) (sSeq (sFor (dSeqT (dVar 0)) (gdName 2) (sIf (dOrT (dNotT (dBl (dCB isiD (dCons (dVar 2) (dCons (dC (.ty "tuple")) dNil))))) (dOrT (dNotT (dBl (dCB allD (dCons (dComp (dSeqT (dVar 2)) [none] (gdName 0) dYes (dCall 1 m_law_whole (dCons (dVar 0) dNil))) dNil)))) (dBl (dBin nevD (dCB sortTD (dCons (dVar 2) dNil)) (dVar 1))))) (sRet (dC (.bl false))) sNext)) (sSeq (sFor (dRng1 (dCons (dCB lenD (dCons (dVar 0) dNil)) dNil)) (gdName 3) (sIf (dBl (dBin nevD (dCB sortLD (dCons (dComp (dSeqT (dVar 0)) [none,some 3] (gdName 0) dYes (dBin ixD (dVar 0) (dVar 1))) dNil)) (dVar 1))) (sRet (dC (.bl false))) sNext)) (sRet (dC (.bl true)))))):=rfl
 have es:startD 4 [D.tup xs]=[some (.tup xs),none,none,none]:=rfl
 rw [m_law_is_square,x_fn,hb,es,seq_ok e0,seq_ok e1,seq_ok e2,seq_ok e3]
 simp
noncomputable def prD (a:Nat×Nat):D:=.tup [.int (a.1:Nat),.int (a.2:Nat)]
theorem dat_pr (a:Nat×Nat):datD (prD a)=some (.tuple [.int (a.1:Nat),.int (a.2:Nat)]):=rfl
theorem dat_prs:∀ l:List (Nat×Nat),datDs (l.map prD)=some (l.map fun a=>PyData.tuple [.int (a.1:Nat),.int (a.2:Nat)])
 | []=>rfl
 | a :: l=>by
  show (match datD (prD a),datDs (l.map prD) with | some a,some r=>some (a :: r) | _,_=>none)=_
  rw [dat_prs l,dat_pr]
  rfl
theorem pr_eqv (a b:Nat×Nat):(PyData.tuple [.int (a.1:Nat),.int (a.2:Nat)]).eqv (.tuple [.int (b.1:Nat),.int (b.2:Nat)])=decide (a=b):=by
 obtain ⟨a1,a2⟩:=a
 obtain ⟨b1,b2⟩:=b
 simp only [PyData.eqv,PyData.eqvAll,Bool.and_true]
 rw [Bool.eq_iff_iff]
 simp
 omega
theorem in_pr {k:Nat} {l:List (Nat×Nat)} {c:List Cell} (hk:c[k]? = some (.lst (l.map prD))) (a:Nat×Nat):inD (prD a) (.ref k) c=.ok (.bl (decide (a∈l))) c:=by
 have h1:datC c (prD a)=some (.tuple [.int (a.1:Nat),.int (a.2:Nat)]):=rfl
 have h2:datC c (.ref k)=some (.list (l.map fun a=>PyData.tuple [.int (a.1:Nat),.int (a.2:Nat)])):=by
  show (match c[k]? with | some (.lst l)=>(match datDs l with | some r=>some (PyData.list r) | none=>none) | none=>none)=_
  rw [hk]
  dsimp only
  rw [dat_prs]
 unfold inD
 rw [h1,h2]
 dsimp only
 rw [if_pos (by simp [PyData.depth,PyData.depthAll])]
 congr 2
 rw [List.any_map,Bool.eq_iff_iff,List.any_eq_true,decide_eq_true_eq]
 refine ⟨fun ⟨x,hx,e⟩=>?_,fun h=>⟨a,h,?_⟩⟩
 ·have:=pr_eqv x a
  rw [show ((fun z=>z.eqv (PyData.tuple [.int (a.1:Nat),.int (a.2:Nat)])) ∘ fun a=>PyData.tuple [.int (a.1:Nat),.int (a.2:Nat)]) x=(PyData.tuple [.int (x.1:Nat),.int (x.2:Nat)]).eqv (.tuple [.int (a.1:Nat),.int (a.2:Nat)]) from rfl,this] at e
  exact (of_decide_eq_true e) ▸ hx
 ·show (PyData.tuple [.int (a.1:Nat),.int (a.2:Nat)]).eqv (.tuple [.int (a.1:Nat),.int (a.2:Nat)])=true
  rw [pr_eqv]
  simp
theorem acb_gen {S T r r' P:D} {i k x y:Int} {acc:List D} {v5:Option D} {c:List Cell} (h1:ixD S (.int i) (c ++ [.lst acc])=.ok r (c ++ [.lst acc])) (h2:ixD r (.int k) (c ++ [.lst acc])=.ok (.int x) (c ++ [.lst acc])) (h3:ixD T (.int i) (c ++ [.lst acc])=.ok r' (c ++ [.lst acc])) (h4:ixD r' (.int k) (c ++ [.lst acc])=.ok (.int y) (c ++ [.lst acc])) (hP:D.tup [.int x,.int y]=P) (h5:inD P (.ref c.length) (c ++ [.lst acc])=.ok (.bl false) (c ++ [.lst acc])) (hn:noRef P=true) (ha:acc.length < sizeLine):(sSeq (sSet 5 (dTup (dCons (dBin ixD (dBin ixD (dVar 0) (dVar 3)) (dVar 4)) (dCons (dBin ixD (dBin ixD (dVar 1) (dVar 3)) (dVar 4)) dNil)))) (sSeq (sIf (dBl (dBin inD (dVar 5) (dVar 2))) (sRet (dC (.bl false))) sNext) (sDrop (dAppend (dVar 2) (dVar 5))))) [some S,some T,some (.ref c.length),some (.int i),some (.int k),v5] (c ++ [.lst acc])=.ok (.nx [some S,some T,some (.ref c.length),some (.int i),some (.int k),some P]) (c ++ [.lst (acc ++ [P])]):=by
 have hap:=append_at (c:=c) (acc:=acc) (y:=P) (dO:=dVar 2) (da:=dVar 5) (e:=[some S,some T,some (.ref c.length),some (.int i),some (.int k),some P]) (by rfl) (by rfl) hn ha
 have e1:(sSet 5 (dTup (dCons (dBin ixD (dBin ixD (dVar 0) (dVar 3)) (dVar 4)) (dCons (dBin ixD (dBin ixD (dVar 1) (dVar 3)) (dVar 4)) dNil)))) [some S,some T,some (.ref c.length),some (.int i),some (.int k),v5] (c ++ [.lst acc])=.ok (.nx [some S,some T,some (.ref c.length),some (.int i),some (.int k),some P]) (c ++ [.lst acc]):=by
  subst hP
  simp [h1,h2,h3,h4]
 rw [seq_ok e1]
 simp only [x_seq,x_if,x_bl,x_bin,x_var,gz,gs,R.bind_ok,h5,Bool.false_eq_true,if_false,x_next,x_drop,hap]
noncomputable def acB:Ev→List Cell→R Fl:=(sSeq (sSet 5 (dTup (dCons (dBin ixD (dBin ixD (dVar 0) (dVar 3)) (dVar 4)) (dCons (dBin ixD (dBin ixD (dVar 1) (dVar 3)) (dVar 4)) dNil)))) (sSeq (sIf (dBl (dBin inD (dVar 5) (dVar 2))) (sRet (dC (.bl false))) sNext) (sDrop (dAppend (dVar 2) (dVar 5)))))
noncomputable def rowP (n:Nat) (s t:Nat→Nat→Nat) (i:Nat):List (Nat×Nat):=(List.range n).map fun k=>(s i k,t i k)
noncomputable def allP (n:Nat) (s t:Nat→Nat→Nat) (i:Nat):List (Nat×Nat):=(List.range i).flatMap (rowP n s t)
theorem allP_succ (n:Nat) (s t:Nat→Nat→Nat) (i:Nat):allP n s t (i + 1)=allP n s t i ++ rowP n s t i:=by
 unfold allP
 rw [List.range_succ,List.flatMap_append,List.flatMap_singleton]
theorem allP_le (n:Nat) (s t:Nat→Nat→Nat) (i:Nat):(allP n s t i).length≤n * i:=by
 have:=flat_le (rowP n s t) n (fun a=>by unfold rowP; simp) (List.range i)
 rw [List.length_range] at this
 exact this
theorem acf_gen {S:D} {q:Int} {a1 a2 a3 a4 a5:Option D} {e':Ev} {c c':List Cell} (hl:lenD [S] c=.ok (.int q) c) (b:-4611686018427387904≤q∧q < 4611686018427387904) (h:forD (fun _=>True) (gdName 4) acB (rngD 0 q) [some S,a1,a2,a3,a4,a5] c=.ok (.nx e') c'):(sFor (dRng1 (dCons (dCB lenD (dCons (dVar 0) dNil)) dNil)) (gdName 4) acB) [some S,a1,a2,a3,a4,a5] c=.ok (.nx e') c':=by
 simp only [x_for,x_rng1,x_cons,x_cb,x_var,gz,gs,x_nil,R.bind_ok,hl]
 rw [if_pos (by omega)]
 exact h
theorem aco_gen {S:D} {q:Int} {a1 a2 a3 a4 a5:Option D} {e':Ev} {B:Ev→List Cell→R Fl} {c c':List Cell} (hl:lenD [S] c=.ok (.int q) c) (b:-4611686018427387904≤q∧q < 4611686018427387904) (h:forD (fun _=>True) (gdName 3) B (rngD 0 q) [some S,a1,a2,a3,a4,a5] c=.ok (.nx e') c'):(sFor (dRng1 (dCons (dCB lenD (dCons (dVar 0) dNil)) dNil)) (gdName 3) B) [some S,a1,a2,a3,a4,a5] c=.ok (.nx e') c':=by
 simp only [x_for,x_rng1,x_cons,x_cb,x_var,gz,gs,x_nil,R.bind_ok,hl]
 rw [if_pos (by omega)]
 exact h
theorem lacross_ok {n:Nat} {s t:Nat→Nat→Nat} (h8:n < 8) (hx:∀ x y x' y',x < n→y < n→x' < n→y' < n→s x y=s x' y'→t x y=t x' y'→x=x'∧y=y') (c:List Cell):m_law_across [sqD n s,sqD n t] c=.ok (.bl true) c:=by
 have hs9:1000≤sizeLine:=by decide
 have hlen:∀ c,lenD [sqD n s] c=.ok (.int (n:Int)) c:=fun c=>by unfold sqD; rw [x_lenT]; simp
 have inner:∀ i,i < n→∀ v4 v5:Option D,∃ w4 w5,forD (fun _=>True) (gdName 4) acB (rngD 0 (n:Int)) [some (sqD n s),some (sqD n t),some (.ref c.length),some (.int (i:Int)),v4,v5] (c ++ [.lst ((allP n s t i).map prD)])=.ok (.nx [some (sqD n s),some (sqD n t),some (.ref c.length),some (.int (i:Int)),w4,w5]) (c ++ [.lst ((allP n s t (i + 1)).map prD)]):=fun i hi v4 v5=>by
  obtain ⟨e',c',⟨⟨w4,w5,rfl⟩,rfl⟩,h⟩:=for_invI (g:=gdName 4) (s:=acB) (fun k e c'=>(∃ w4 w5,e=[some (sqD n s),some (sqD n t),some (.ref c.length),some (.int (i:Int)),w4,w5])∧c'=c ++ [.lst ((allP n s t i ++ (List.range k).map fun k=>(s i k,t i k)).map prD)]) (rngD 0 (n:Int)) 0 [some (sqD n s),some (sqD n t),some (.ref c.length),some (.int (i:Int)),v4,v5] (c ++ [.lst ((allP n s t i).map prD)]) ⟨⟨_,_,rfl⟩,by simp⟩ (fun k x hxk e c' ⟨⟨w4,w5,he⟩,hc⟩=>by
   subst he hc
   rw [Nat.zero_add]
   have hk:k < n:=by
    have:=(List.getElem?_eq_some_iff.mp hxk).1
    rw [rng_len] at this
    omega
   rw [rngD_map,List.getElem?_map,List.getElem?_range hk] at hxk
   have hx':x=.int (k:Int):=(Option.some.inj hxk).symm
   subst hx'
   have hfresh:(s i k,t i k)∉allP n s t i ++ (List.range k).map fun k=>(s i k,t i k):=fun hm=>by
    rcases List.mem_append.mp hm with hm | hm
    ·unfold allP at hm
     obtain ⟨i',hi',hm⟩:=List.mem_flatMap.mp hm
     have hi':=List.mem_range.mp hi'
     unfold rowP at hm
     obtain ⟨k',hk',e⟩:=List.mem_map.mp hm
     have e1:=congrArg Prod.fst e
     have e2:=congrArg Prod.snd e
     have:=(hx i' k' i k (by omega) (List.mem_range.mp hk') hi hk e1 e2).1
     omega
    ·obtain ⟨k',hk',e⟩:=List.mem_map.mp hm
     have hk':=List.mem_range.mp hk'
     have e1:=congrArg Prod.fst e
     have e2:=congrArg Prod.snd e
     have:=(hx i k' i k hi (by omega) hi hk e1 e2).2
     omega
   have hin:=in_pr (k:=c.length) (l:=allP n s t i ++ (List.range k).map fun k=>(s i k,t i k)) (c:=c ++ [.lst ((allP n s t i ++ (List.range k).map fun k=>(s i k,t i k)).map prD)]) (by simp) (s i k,t i k)
   rw [decide_eq_false hfresh] at hin
   have hl1:=allP_le n s t i
   have hnn:n * i≤7 * 7:=Nat.mul_le_mul (by omega) (by omega)
   have e1:=acb_gen (v5:=w5) (sq_ix s hi _) (sr_ix s i hk _) (sq_ix t hi _) (sr_ix t i hk _) rfl hin rfl (by rw [List.length_map,List.length_append,List.length_map,List.length_range]; omega)
   refine ⟨_,_,_,_,rfl,e1,⟨_,_,rfl⟩,?_⟩
   have hsn:(allP n s t i ++ (List.range (k + 1)).map fun k=>(s i k,t i k))=(allP n s t i ++ (List.range k).map fun k=>(s i k,t i k)) ++ [(s i k,t i k)]:=by
    rw [List.range_succ,List.map_append,List.append_assoc]
    rfl
   rw [hsn]
   generalize (allP n s t i ++ (List.range k).map fun k=>(s i k,t i k))=L
   rw [List.map_append]
   rfl)
  rw [Nat.zero_add,rng_len,show ((n:Int) - 0).toNat=n by omega] at h
  refine ⟨w4,w5,?_⟩
  rw [h,allP_succ]
  rfl
 obtain ⟨e1',c1,⟨⟨w3,w4,w5,rfl⟩,rfl⟩,h1⟩:=for_invI (g:=gdName 3) (s:=sFor (dRng1 (dCons (dCB lenD (dCons (dVar 0) dNil)) dNil)) (gdName 4) acB) (fun i e c'=>(∃ w3 w4 w5,e=[some (sqD n s),some (sqD n t),some (.ref c.length),w3,w4,w5])∧c'=c ++ [.lst ((allP n s t i).map prD)]) (rngD 0 (n:Int)) 0 [some (sqD n s),some (sqD n t),some (.ref c.length),none,none,none] (c ++ [.lst []]) ⟨⟨_,_,_,rfl⟩,by simp [allP]⟩ (fun i x hxi e c' ⟨⟨w3,w4,w5,he⟩,hc⟩=>by
  subst he hc
  rw [Nat.zero_add]
  have hi:i < n:=by
   have:=(List.getElem?_eq_some_iff.mp hxi).1
   rw [rng_len] at this
   omega
  rw [rngD_map,List.getElem?_map,List.getElem?_range hi] at hxi
  have hx':x=.int (i:Int):=(Option.some.inj hxi).symm
  subst hx'
  obtain ⟨u4,u5,hin⟩:=inner i hi w4 w5
  have:=acf_gen (hlen _) (by omega) hin
  exact ⟨_,_,_,_,rfl,this,⟨_,_,_,rfl⟩,rfl⟩)
 have e1:=aco_gen (hlen _) (by omega) h1
 have hb:b_law_across=sSeq (sSet 2 (dLstM dNil)) (sSeq (sFor (dRng1 (dCons (dCB lenD (dCons (dVar 0) dNil)) dNil)) (gdName 3) (sFor (dRng1 (dCons (dCB lenD (dCons (dVar 0) dNil)) dNil)) (gdName 4) acB)) (sRet (dC (.bl true)))):=rfl
 have es:startD 6 [sqD n s,sqD n t]=[some (sqD n s),some (sqD n t),none,none,none,none]:=rfl
 have e0:(sSet 2 (dLstM dNil)) [some (sqD n s),some (sqD n t),none,none,none,none] c=.ok (.nx [some (sqD n s),some (sqD n t),some (.ref c.length),none,none,none]) (c ++ [.lst []]):=by
  generalize sqD n s=A
  generalize sqD n t=B
  simp
 rw [m_law_across,x_fn,hb,es,seq_ok e0,seq_ok e1]
 simp
theorem frb_gen {C:D} {P Q:List D} {bs:List Bool} {c:List Cell} (hl:(List.zipWith (fun x y=>D.tup [x,y]) P Q).length < sizeLine) (h:compD (fun _=>True) (gdTup 2 (gdCons (gdName 0) (gdCons (gdName 1) gdNil))) dYes (dBin eqD (dVar 0) (dVar 1)) (List.zipWith (fun x y=>D.tup [x,y]) P Q) [none,none] [] c=.ok (bs.map D.bl) c):(sIf (dBl (dCB anyD (dCons (dComp (dZip2 (dCons (dVar 0) (dCons (dVar 2) dNil))) [none,none] (gdTup 2 (gdCons (gdName 0) (gdCons (gdName 1) gdNil))) dYes (dBin eqD (dVar 0) (dVar 1))) dNil))) (sRet (dC (.bl false))) sNext) [some (.tup P),some C,some (.tup Q)] c=.ok (if bs.any id=true then .rt (.bl false) else .nx [some (.tup P),some C,some (.tup Q)]) c:=by
 have hp:pickD [none,none] [some (.tup P),some C,some (.tup Q)]=[none,none]:=rfl
 have hd:dZip2 (dCons (dVar 0) (dCons (dVar 2) dNil)) [some (.tup P),some C,some (.tup Q)] c=.ok ⟨List.zipWith (fun x y=>D.tup [x,y]) P Q,fun _=>True⟩ c:=rfl
 simp only [x_if,x_bl,x_cb,x_cons,x_comp,hd,x_nil,R.bind_ok]
 rw [if_pos hl,hp,h]
 simp only [R.bind_ok,any_id]
 cases bs.any id <;> simp
theorem fr_loop {C:D} {cut:List Nat} (hc:cut.length < 1000) (c:List Cell):∀ (ch:List (List Nat)) (v:Option D),∃ v',forD (fun _=>True) (gdName 2) (sIf (dBl (dCB anyD (dCons (dComp (dZip2 (dCons (dVar 0) (dCons (dVar 2) dNil))) [none,none] (gdTup 2 (gdCons (gdName 0) (gdCons (gdName 1) gdNil))) dYes (dBin eqD (dVar 0) (dVar 1))) dNil))) (sRet (dC (.bl false))) sNext) (ch.map tpD) [some (tpD cut),some C,v] c=.ok (if fre ch cut=true then .nx [some (tpD cut),some C,v'] else .rt (.bl false)) c
 | [],v=>⟨v,by simp [fre]⟩
 | p :: ch,v=>by
  have hs:=small_line (n:=1000) (by decide)
  have g1:gdName 2 (tpD p) [some (tpD cut),some C,v] c=.ok [some (tpD cut),some C,some (tpD p)] c:=rfl
  have e1:=frb_gen (C:=C) (by rw [zipD,List.length_map,List.length_zip]; omega) (age_comp cut p c)
  rw [any_agr] at e1
  have e1':(sIf (dBl (dCB anyD (dCons (dComp (dZip2 (dCons (dVar 0) (dCons (dVar 2) dNil))) [none,none] (gdTup 2 (gdCons (gdName 0) (gdCons (gdName 1) gdNil))) dYes (dBin eqD (dVar 0) (dVar 1))) dNil))) (sRet (dC (.bl false))) sNext) [some (tpD cut),some C,some (tpD p)] c=.ok (if agr cut p=true then .rt (.bl false) else .nx [some (tpD cut),some C,some (tpD p)]) c:=e1
  obtain ⟨v',h⟩:=fr_loop (C:=C) hc c ch (some (tpD p))
  have hf:fre (p :: ch) cut=(!agr cut p && fre ch cut):=by unfold fre; simp
  cases ha:agr cut p with
  | true =>
   refine ⟨v,?_⟩
   rw [List.map_cons,for_cons,g1,R.bind_ok,e1',ha,R.bind_ok,hf,ha]
   simp
  | false =>
   refine ⟨v',?_⟩
   rw [List.map_cons,for_cons,g1,R.bind_ok,e1',ha,R.bind_ok,hf,ha]
   simp only [Bool.false_eq_true,if_false,Bool.not_false,Bool.true_and]
   exact h
theorem free_ok {cut:List Nat} (hc:cut.length < 1000) (ch:List (List Nat)) (c:List Cell):m_law_free [tpD cut,chD ch] c=.ok (.bl (fre ch cut)) c:=by
 obtain ⟨v',h⟩:=fr_loop (C:=chD ch) hc c ch none
 have hb:b_law_free=sSeq (sFor (dSeq (dVar 1)) (gdName 2) (sIf (dBl (dCB anyD (dCons (dComp (dZip2 (dCons (dVar 0) (dCons (dVar 2) dNil))) [none,none] (gdTup 2 (gdCons (gdName 0) (gdCons (gdName 1) gdNil))) dYes (dBin eqD (dVar 0) (dVar 1))) dNil))) (sRet (dC (.bl false))) sNext)) (sRet (dC (.bl true))):=rfl
 have es:startD 3 [tpD cut,chD ch]=[some (tpD cut),some (chD ch),none]:=rfl
 have e0:(sFor (dSeq (dVar 1)) (gdName 2) (sIf (dBl (dCB anyD (dCons (dComp (dZip2 (dCons (dVar 0) (dCons (dVar 2) dNil))) [none,none] (gdTup 2 (gdCons (gdName 0) (gdCons (gdName 1) gdNil))) dYes (dBin eqD (dVar 0) (dVar 1))) dNil))) (sRet (dC (.bl false))) sNext)) [some (tpD cut),some (chD ch),none] c=.ok (if fre ch cut=true then .nx [some (tpD cut),some (chD ch),v'] else .rt (.bl false)) c:=by
  rw [x_for]
  exact h
 rw [m_law_free,x_fn,hb,es]
 cases hf:fre ch cut with
 | true =>
  rw [hf,if_pos rfl] at e0
  rw [seq_ok e0]
  simp
 | false =>
  rw [hf,if_neg (by decide)] at e0
  rw [seq_rt e0]
  simp
section
variable {mf:List D→List Cell→R D} {X P:D} {l:List D} {q x m:Int} {b1 b2:Bool} {c:List Cell}
theorem apb_gen (hx:ixD P (.int 0) c=.ok (.int x) c) (hl:lenD [.lst l] c=.ok (.int m) c) (h1:m_law_free [P,.lst l] c=.ok (.bl b1) c) (hlen:l.length + 1≤sizeLine) (h2:x=m→b1=true→mf [X,.lst (l ++ [P]),.int q] c=.ok (.bl b2) c):(sIf (dAndT (dBl (dBin eqD (dBin ixD (dVar 3) (dC (.int 0))) (dCB lenD (dCons (dVar 1) dNil)))) (dBl (dCall 2 m_law_free (dCons (dVar 3) (dCons (dVar 1) dNil))))) (sIf (dBl (dCall 3 mf (dCons (dVar 0) (dCons (dBin catD (dVar 1) (dLst (dCons (dVar 3) dNil))) (dCons (dVar 2) dNil))))) (sRet (dC (.bl true))) sNext) sNext) [some X,some (.lst l),some (.int q),some P] c=.ok (if (decide (x=m) && b1 && b2)=true then .rt (.bl true) else .nx [some X,some (.lst l),some (.int q),some P]) c:=by
 rw [x_lenL] at hl
 have hm:(l.length:Int)=m:=by injection hl with h; injection h
 by_cases hxm:x=m
 ·cases b1 with
  | true =>
   have h2':=h2 hxm rfl
   have hcat:catD (.lst l) (.lst [P]) c=.ok (.lst (l ++ [P])) c:=by simp [catD,lstD,hlen]
   cases b2 <;> simp [hx,hm,hxm,h1,h2',hcat]
  | false=>simp [hx,hm,hxm,h1]
 ·simp [hx,hm,hxm]
end
theorem ap_loop {n d:Nat} {s:Nat→Nat→Nat} {ch:List (List Nat)} {X:D} {mf:List D→List Cell→R D} {c:List Cell} (hch:ch.length < 1000)
  (hm:∀ cut:List Nat,cut.length < 1000→cut.getD 0 0=ch.length→mf [X,chD (ch ++ [cut]),.int (n:Int)] c=.ok (.bl (!(itW n s d [ch ++ [cut]]).isEmpty)) c):∀ (l:List (List Nat)) (v:Option D),(∀ p∈l,0 < p.length∧p.length < 1000) →
  ∃ v',forD (fun _=>True) (gdName 3) (sIf (dAndT (dBl (dBin eqD (dBin ixD (dVar 3) (dC (.int 0))) (dCB lenD (dCons (dVar 1) dNil)))) (dBl (dCall 2 m_law_free (dCons (dVar 3) (dCons (dVar 1) dNil))))) (sIf (dBl (dCall 3 mf (dCons (dVar 0) (dCons (dBin catD (dVar 1) (dLst (dCons (dVar 3) dNil))) (dCons (dVar 2) dNil))))) (sRet (dC (.bl true))) sNext) sNext) (l.map tpD) [some X,some (chD ch),some (.int (n:Int)),v] c=.ok (if (l.any fun cut=>decide (cut.getD 0 0=ch.length) && fre ch cut && !(itW n s d [ch ++ [cut]]).isEmpty)=true then .rt (.bl true) else .nx [some X,some (chD ch),some (.int (n:Int)),v']) c
 | [],v,_=>⟨v,by simp⟩
 | p :: l,v,hp=>by
  have hs:=small_line (n:=1000) (by decide)
  have g1:gdName 3 (tpD p) [some X,some (chD ch),some (.int (n:Int)),v] c=.ok [some X,some (chD ch),some (.int (n:Int)),some (tpD p)] c:=rfl
  have h0:=hp p (.head _)
  have e1:=apb_gen (mf:=mf) (X:=X) (P:=tpD p) (l:=ch.map tpD) (q:=(n:Int)) (m:=(ch.length:Int)) (b2:=!(itW n s d [ch ++ [p]]).isEmpty) (tp_ix (x:=0) h0.1 c) (by rw [x_lenL,List.length_map]) (free_ok h0.2 ch c) (by rw [List.length_map]; omega) (fun he _=>by
   have:=hm p h0.2 (by omega)
   unfold chD at this
   rw [List.map_append] at this
   exact this)
  have e1':(sIf (dAndT (dBl (dBin eqD (dBin ixD (dVar 3) (dC (.int 0))) (dCB lenD (dCons (dVar 1) dNil)))) (dBl (dCall 2 m_law_free (dCons (dVar 3) (dCons (dVar 1) dNil))))) (sIf (dBl (dCall 3 mf (dCons (dVar 0) (dCons (dBin catD (dVar 1) (dLst (dCons (dVar 3) dNil))) (dCons (dVar 2) dNil))))) (sRet (dC (.bl true))) sNext) sNext) [some X,some (chD ch),some (.int (n:Int)),some (tpD p)] c=.ok (if (decide (p.getD 0 0=ch.length) && fre ch p && !(itW n s d [ch ++ [p]]).isEmpty)=true then .rt (.bl true) else .nx [some X,some (chD ch),some (.int (n:Int)),some (tpD p)]) c:=by
   have hd:decide (((p.getD 0 0:Nat):Int)=(ch.length:Int))=decide (p.getD 0 0=ch.length):=decide_eq_decide.mpr (by omega)
   rw [hd] at e1
   exact e1
  obtain ⟨v',h⟩:=ap_loop (s:=s) hch hm l (some (tpD p)) (fun z hz=>hp z (.tail _ hz))
  rw [List.any_cons]
  cases hb:(decide (p.getD 0 0=ch.length) && fre ch p && !(itW n s d [ch ++ [p]]).isEmpty) with
  | true =>
   refine ⟨v,?_⟩
   rw [List.map_cons,for_cons,g1,R.bind_ok,e1',hb,R.bind_ok]
   simp
  | false =>
   refine ⟨v',?_⟩
   rw [List.map_cons,for_cons,g1,R.bind_ok,e1',hb,R.bind_ok]
   simp only [Bool.false_eq_true,if_false,Bool.false_or]
   exact h
theorem any_it {n d:Nat} {s:Nat→Nat→Nat} (ch:List (List Nat)):((itC n s n [[]]).any fun cut=>decide (cut.getD 0 0=ch.length) && fre ch cut && !(itW n s d [ch ++ [cut]]).isEmpty) = !(itW n s (d + 1) [ch]).isEmpty:=by
 have e:itW n s (d + 1) [ch]=((mor n s ch.length).filter (fre ch)).flatMap fun cut=>itW n s d [ch ++ [cut]]:=by
  show itW n s d ([ch].flatMap (stW n s))=_
  rw [List.flatMap_singleton,itW_flat]
  unfold stW ext1
  rw [List.flatMap_map]
 rw [e,Bool.eq_iff_iff,List.any_eq_true]
 simp only [Bool.and_eq_true,decide_eq_true_eq,Bool.not_eq_true',List.isEmpty_eq_false_iff,ne_eq,List.flatMap_eq_nil_iff,List.mem_filter,mor]
 constructor
 ·rintro ⟨cut,h1,⟨h2,h3⟩,h4⟩ h
  exact h4 (h cut ⟨⟨h1,h2⟩,h3⟩)
 ·intro h
  apply Classical.byContradiction
  intro hn
  refine h fun cut ⟨⟨h1,h2⟩,h3⟩=>?_
  apply Classical.byContradiction
  intro h4
  exact hn ⟨cut,h1,⟨h2,h3⟩,h4⟩
theorem ap0_yes {X l:D} {q:Int} {v:Option D} {c:List Cell} (h:lenD [l] c=.ok (.int q) c):(sIf (dBl (dBin eqD (dCB lenD (dCons (dVar 1) dNil)) (dVar 2))) (sRet (dC (.bl true))) sNext) [some X,some l,some (.int q),v] c=.ok (.rt (.bl true)) c:=by simp [h]
theorem ap0_no {X l:D} {q m:Int} {v:Option D} {c:List Cell} (h:lenD [l] c=.ok (.int m) c) (hm:¬ m=q):(sIf (dBl (dBin eqD (dCB lenD (dCons (dVar 1) dNil)) (dVar 2))) (sRet (dC (.bl true))) sNext) [some X,some l,some (.int q),v] c=.ok (.nx [some X,some l,some (.int q),v]) c:=by simp [h,hm]
theorem apart_ok {n:Nat} {s:Nat→Nat→Nat} (h1:1≤n) (h8:n < 8) (c:List Cell):∀ (d k:Nat) (ch:List (List Nat)),ch.length + d=n→d < k→m_law_apart k [.lst ((itC n s n [[]]).map tpD),chD ch,.int (n:Int)] c=.ok (.bl (!(itW n s d [ch]).isEmpty)) c
 | d,0,ch,_,h=>absurd h (Nat.not_lt_zero _)
 | 0,k + 1,ch,hd,_=>by
  have hlen:lenD [chD ch] c=.ok (.int (n:Int)) c:=by unfold chD; rw [x_lenL,List.length_map,show ch.length=n by omega]
  show fnD 4 false (b_law_apart (m_law_apart k)) _ c=_
  have hb:b_law_apart (m_law_apart k)=sSeq (sIf (dBl (dBin eqD (dCB lenD (dCons (dVar 1) dNil)) (dVar 2))) (sRet (dC (.bl true))) sNext) (sSeq (sFor (dSeq (dVar 0)) (gdName 3) (sIf (dAndT (dBl (dBin eqD (dBin ixD (dVar 3) (dC (.int 0))) (dCB lenD (dCons (dVar 1) dNil)))) (dBl (dCall 2 m_law_free (dCons (dVar 3) (dCons (dVar 1) dNil))))) (sIf (dBl (dCall 3 (m_law_apart k) (dCons (dVar 0) (dCons (dBin catD (dVar 1) (dLst (dCons (dVar 3) dNil))) (dCons (dVar 2) dNil))))) (sRet (dC (.bl true))) sNext) sNext)) (sRet (dC (.bl false)))):=rfl
  have es:startD 4 [D.lst ((itC n s n [[]]).map tpD),chD ch,.int (n:Int)]=[some (.lst ((itC n s n [[]]).map tpD)),some (chD ch),some (.int (n:Int)),none]:=rfl
  rw [x_fn,hb,es,seq_rt (ap0_yes hlen)]
  simp [itW]
 | d + 1,k + 1,ch,hd,hk=>by
  have hlen:lenD [chD ch] c=.ok (.int (ch.length:Int)) c:=by unfold chD; rw [x_lenL,List.length_map]
  have e0:=ap0_no (X:=.lst ((itC n s n [[]]).map tpD)) (q:=(n:Int)) (v:=none) hlen (by omega)
  obtain ⟨v',h⟩:=ap_loop (n:=n) (d:=d) (s:=s) (ch:=ch) (X:=.lst ((itC n s n [[]]).map tpD)) (mf:=m_law_apart k) (c:=c) (by omega) (fun cut _ _=>apart_ok h1 h8 c d k (ch ++ [cut]) (by rw [List.length_append,List.length_singleton]; omega) (by omega)) (itC n s n [[]]) none (fun p hp=>by
   have:=(itC_pre n p hp).1
   omega)
  rw [any_it] at h
  show fnD 4 false (b_law_apart (m_law_apart k)) _ c=_
  have hb:b_law_apart (m_law_apart k)=sSeq (sIf (dBl (dBin eqD (dCB lenD (dCons (dVar 1) dNil)) (dVar 2))) (sRet (dC (.bl true))) sNext) (sSeq (sFor (dSeq (dVar 0)) (gdName 3) (sIf (dAndT (dBl (dBin eqD (dBin ixD (dVar 3) (dC (.int 0))) (dCB lenD (dCons (dVar 1) dNil)))) (dBl (dCall 2 m_law_free (dCons (dVar 3) (dCons (dVar 1) dNil))))) (sIf (dBl (dCall 3 (m_law_apart k) (dCons (dVar 0) (dCons (dBin catD (dVar 1) (dLst (dCons (dVar 3) dNil))) (dCons (dVar 2) dNil))))) (sRet (dC (.bl true))) sNext) sNext)) (sRet (dC (.bl false)))):=rfl
  have es:startD 4 [D.lst ((itC n s n [[]]).map tpD),chD ch,.int (n:Int)]=[some (.lst ((itC n s n [[]]).map tpD)),some (chD ch),some (.int (n:Int)),none]:=rfl
  have e1:(sFor (dSeq (dVar 0)) (gdName 3) (sIf (dAndT (dBl (dBin eqD (dBin ixD (dVar 3) (dC (.int 0))) (dCB lenD (dCons (dVar 1) dNil)))) (dBl (dCall 2 m_law_free (dCons (dVar 3) (dCons (dVar 1) dNil))))) (sIf (dBl (dCall 3 (m_law_apart k) (dCons (dVar 0) (dCons (dBin catD (dVar 1) (dLst (dCons (dVar 3) dNil))) (dCons (dVar 2) dNil))))) (sRet (dC (.bl true))) sNext) sNext)) [some (.lst ((itC n s n [[]]).map tpD)),some (chD ch),some (.int (n:Int)),none] c=.ok (if (!(itW n s (d + 1) [ch]).isEmpty)=true then .rt (.bl true) else .nx [some (.lst ((itC n s n [[]]).map tpD)),some (chD ch),some (.int (n:Int)),v']) c:=by
   rw [x_for]
   exact h
  rw [x_fn,hb,es,seq_ok e0]
  cases hW:!(itW n s (d + 1) [ch]).isEmpty with
  | true =>
   rw [hW,if_pos rfl] at e1
   rw [seq_rt e1]
   simp
  | false =>
   rw [hW,if_neg (by decide)] at e1
   rw [seq_ok e1]
   simp
end Ev
namespace Ev
open PySem L2
theorem isx_fn (x y:Str) (b:Bool) (c:List Cell) (h:(decide (x∈xcls∧y∈xcls) && ((x == y) == b))=true):isxD xcls [.exc x,.fn y 0] c=.ok (.bl b) c:=by
 simp only [Bool.and_eq_true,decide_eq_true_eq,beq_iff_eq] at h
 unfold isxD
 simp only
 rw [if_pos h.1,h.2]
theorem isx_ve (x:Str) (c:List Cell) (h:decide (x∈xcls)=true):isxD xcls [.exc x,.ty "ValueError"] c=.ok (.bl true) c:=by
 unfold isxD
 simp only
 rw [if_pos ⟨by simpa using h,by trivial⟩]
theorem kind_ok (c:List Cell):m_law_kind_of [.exc "TooMany"] c=.ok (.str "many") c:=by
 have t8:(8:Nat)≤sizeLine:=by decide
 have t11:(11:Nat)≤sizeLine:=by decide
 have h_NoWeb:=fun c=>isx_fn "TooMany" "NoWeb" false c (by decide +kernel)
 have h_NoText:=fun c=>isx_fn "TooMany" "NoText" false c (by decide +kernel)
 have h_NoNumbers:=fun c=>isx_fn "TooMany" "NoNumbers" false c (by decide +kernel)
 have h_NoField:=fun c=>isx_fn "TooMany" "NoField" false c (by decide +kernel)
 have h_NoThing:=fun c=>isx_fn "TooMany" "NoThing" false c (by decide +kernel)
 have h_NoSquare:=fun c=>isx_fn "TooMany" "NoSquare" false c (by decide +kernel)
 have h_NoPlaces:=fun c=>isx_fn "TooMany" "NoPlaces" false c (by decide +kernel)
 have h_TooMany:=fun c=>isx_fn "TooMany" "TooMany" true c (by decide +kernel)
 have h_NoName:=fun c=>isx_fn "TooMany" "NoName" false c (by decide +kernel)
 have h_NoDeed:=fun c=>isx_fn "TooMany" "NoDeed" false c (by decide +kernel)
 have h_NoRow:=fun c=>isx_fn "TooMany" "NoRow" false c (by decide +kernel)
 have h_ve:=fun c=>isx_ve "TooMany" c (by decide +kernel)
 have hf:List.findIdx? id [false,false,false,false,false,false,false,true,false,false,false]=some 7:=by decide
 have ha:atI [D.str "web",.str "text",.str "numbers",.str "field",.str "thing",.str "square",.str "places",.str "many",.str "name",.str "deed",.str "row"] 7=some (.str "many"):=rfl
 simp [m_law_kind_of,b_law_kind_of,h_NoWeb,h_NoText,h_NoNumbers,h_NoField,h_NoThing,h_NoSquare,h_NoPlaces,h_TooMany,h_NoName,h_NoDeed,h_NoRow,h_ve,dCount,dIndex,catD,lstD,blsD,t8,t11,hf,ha]
theorem in_xcls:("TooMany":Str)∈xcls:=by decide +kernel
theorem told_many {n:Nat} {s:Nat→Nat→Nat} (hL:Latin n s) (h6:5 < n) (h8:n < 8) (c:List Cell):m_law_told [sqD n s] c=.ok (.str "many") c:=by
 obtain ⟨h1,h2⟩:=many_no hL h6 h8 c
 generalize sqD n s=S at *
 simp [m_law_told,b_law_told,sTry,h1,xCall,h2,in_xcls,kind_ok]
theorem acr_exit (n:Nat) (s:Nat→Nat→Nat) (c:List Cell):exitD false c.length (acrD n s) c=.ok (acrD n s) c:=by
 unfold acrD
 cases itW n s n [[]] with
 | nil=>simp
 | cons ch r =>
  show exitD false c.length (sqD n (tS ch)) c=.ok (sqD n (tS ch)) c
  unfold sqD
  rw [q_tup,if_pos (noRefs_sq n _),List.take_length]
theorem told_sq {n:Nat} {s:Nat→Nat→Nat} (hL:Latin n s) (h1:1≤n) (h5:n≤5) (c:List Cell):m_law_told [sqD n s] c=.ok (acrD n s) c:=by
 have h:=some_ok hL h1 h5 c
 have hx:=acr_exit n s c
 generalize acrD n s=Z at *
 generalize sqD n s=S at *
 simp [m_law_told,b_law_told,sTry,h,hx]
theorem eqvAll_self {l:List PyData} (h:∀ p∈l,p.eqv p=true):PyData.eqvAll l l=true:=by
 induction l with
 | nil=>rfl
 | cons p l ih =>
  simp only [PyData.eqvAll,h p (.head _),ih (fun q hq=>h q (.tail _ hq)),Bool.and_self]
theorem depthAll_le {l:List PyData} {n:Nat} (h:∀ p∈l,p.depth≤n):PyData.depthAll l≤n:=by
 induction l with
 | nil=>simp [PyData.depthAll]
 | cons p l ih =>
  have h1:=h p (.head _)
  have h2:=ih (fun q hq=>h q (.tail _ hq))
  simp only [PyData.depthAll]
  omega
noncomputable def datN (l:List Nat):PyData:=.tuple (l.map fun n:Nat=>PyData.int (n:Int))
theorem datN_self (l:List Nat):(datN l).eqv (datN l)=true:=by
 unfold datN
 rw [PyData.eqv]
 exact eqvAll_self fun p hp=>by
  obtain ⟨k,_,rfl⟩:=List.mem_map.mp hp
  simp [PyData.eqv]
theorem datN_depth (l:List Nat):(datN l).depth≤1:=by
 unfold datN
 have:=depthAll_le (l:=l.map fun n:Nat=>PyData.int (n:Int)) (n:=0) (fun p hp=>by
  obtain ⟨k,_,rfl⟩:=List.mem_map.mp hp
  simp [PyData.depth])
 simp only [PyData.depth]
 omega
theorem dat_rows:∀ ls:List (List Nat),datDs (ls.map fun l=>D.tup (nD l))=some (ls.map datN)
 | []=>rfl
 | l :: ls=>by
  show (match datD (.tup (nD l)),datDs (ls.map fun l=>D.tup (nD l)) with | some a,some r=>some (a :: r) | _,_=>none)=_
  rw [dat_rows ls]
  have:datD (.tup (nD l))=some (datN l):=by
   show (match datDs (nD l) with | some r=>some (PyData.tuple r) | none=>none)=_
   rw [dat_nD]
   rfl
  rw [this]
  rfl
theorem nev_sq (n:Nat) (t:Nat→Nat→Nat) (c:List Cell):nevD (sqD n t) (sqD n t) c=.ok (.bl false) c:=by
 have h:datC c (sqD n t)=some (.tuple (((List.range n).map fun i=>(List.range n).map (t i)).map datN)):=by
  show (match datDs ((List.range n).map fun i=>D.tup (nD ((List.range n).map (t i)))) with | some r=>some (PyData.tuple r) | none=>none)=_
  have:=dat_rows ((List.range n).map fun i=>(List.range n).map (t i))
  rw [List.map_map] at this
  rw [show ((List.range n).map fun i=>D.tup (nD ((List.range n).map (t i))))=(List.range n).map ((fun l=>D.tup (nD l)) ∘ fun i=>(List.range n).map (t i)) from rfl,this]
 have hd:(PyData.tuple (((List.range n).map fun i=>(List.range n).map (t i)).map datN)).depth≤64:=by
  have:=depthAll_le (l:=((List.range n).map fun i=>(List.range n).map (t i)).map datN) (n:=1) (fun p hp=>by
   obtain ⟨l,_,rfl⟩:=List.mem_map.mp hp
   exact datN_depth l)
  simp only [PyData.depth]
  omega
 have he:(PyData.tuple (((List.range n).map fun i=>(List.range n).map (t i)).map datN)).eqv (.tuple (((List.range n).map fun i=>(List.range n).map (t i)).map datN))=true:=by
  rw [PyData.eqv]
  exact eqvAll_self fun p hp=>by
   obtain ⟨l,_,rfl⟩:=List.mem_map.mp hp
   exact datN_self l
 unfold nevD
 rw [h]
 dsimp only
 rw [if_pos ⟨hd,hd⟩,he]
 rfl
theorem nev_acr (n:Nat) (s:Nat→Nat→Nat) (c:List Cell):nevD (acrD n s) (acrD n s) c=.ok (.bl false) c:=by
 unfold acrD
 cases itW n s n [[]] with
 | nil=>rfl
 | cons ch r=>exact nev_sq n (tS ch) c
theorem nev_many (c:List Cell):nevD (.str "many") (.str "many") c=.ok (.bl false) c:=by
 unfold nevD
 have h1:datC c (.str "many")=some (.str "many"):=by
  show (if PyData.strOk "many"=true then some (PyData.str "many") else none)=_
  rw [if_pos (by decide +kernel)]
 rw [h1]
 simp [PyData.depth,PyData.eqv]
theorem far_at {y:Int} (y0:0≤y) (y1:y < 6):∃ far:Int,atI [D.int 5,.int 5,.int 5,.int 5,.int 5,.int 7] y=some (.int far)∧0 < far∧far≤7:=by
 have:y=0∨y=1∨y=2∨y=3∨y=4∨y=5:=by omega
 rcases this with rfl | rfl | rfl | rfl | rfl | rfl
 ·exact ⟨5,rfl,by omega,by omega⟩
 ·exact ⟨5,rfl,by omega,by omega⟩
 ·exact ⟨5,rfl,by omega,by omega⟩
 ·exact ⟨5,rfl,by omega,by omega⟩
 ·exact ⟨5,rfl,by omega,by omega⟩
 ·exact ⟨7,rfl,by omega,by omega⟩
noncomputable def st0:Ev→List Cell→R Fl:=(sSet 2 (dCall 1 m_law_pot (dCons (dCall 2 m_law_cell_at (dCons (dVar 0) (dCons (dVar 1) dNil))) dNil)))
noncomputable def st1:Ev→List Cell→R Fl:=(sSet 3 (dCall 2 m_law_square (dCons (dVar 2) (dCons (dBin addD (dC (.int 1)) (dCall 2 m_law_take (dCons (dVar 2) (dCons (dBin ixD (dLst (dInts [5,5,5,5,5,7])) (dCall 2 m_law_take (dCons (dVar 2) (dCons (dC (.int 6)) dNil)))) dNil)))) dNil))))
noncomputable def st2:Ev→List Cell→R Fl:=(sSet 4 (dCall 1 m_law_told (dCons (dVar 3) dNil)))
noncomputable def st3:Ev→List Cell→R Fl:=(sIf (dBl (dBin gtD (dCB lenD (dCons (dVar 3) dNil)) (dC (.int 5)))) (sIf (dBl (dBin nevD (dVar 4) (dC (.str "many")))) (sRet (dC (.bl false))) sNext) (sIf (dNotT (dBl (dCall 3 (m_law_apart 6) (dCons (dCall 4 (m_law_cuts 8) (dCons (dVar 3) (dCons (dC (.int 0)) (dCons (dTup dNil) (dCons (dTup dNil) dNil))))) (dCons (dLst dNil) (dCons (dCB lenD (dCons (dVar 3) dNil)) dNil)))))) (sIf (dBl (dBin isNotD (dVar 4) (dC .non))) (sRet (dC (.bl false))) sNext) (sIf (dOrT (dNotT (dBl (dCall 1 m_law_is_square (dCons (dVar 4) dNil)))) (dOrT (dBl (dBin neD (dCB lenD (dCons (dVar 4) dNil)) (dCB lenD (dCons (dVar 3) dNil)))) (dNotT (dBl (dCall 2 m_law_across (dCons (dVar 3) (dCons (dVar 4) dNil))))))) (sRet (dC (.bl false))) sNext)))
noncomputable def st4:Ev→List Cell→R Fl:=(sIf (dBl (dBin nevD (dCall 1 m_law_told (dCons (dVar 3) dNil)) (dVar 4))) (sRet (dC (.bl false))) sNext)
noncomputable def outerB:Ev→List Cell→R Fl:=(sSeq st0 (sSeq st1 (sSeq st2 (sSeq st3 st4))))
section
variable {x p y far q:Int} {S Z X:D} {j:Nat} {ns:List Int} {c c' c1:List Cell} (a0 a1 v2 v3 v4:Option D)
theorem g0 {i:Int} (hx:m_law_cell_at [.scr ns,.int i] c=.ok (.int x) c) (hp:m_law_pot [.int x] c=.ok (.ref j) c'):st0 [some (.scr ns),some (.int i),v2,v3,v4] c=.ok (.nx [some (.scr ns),some (.int i),some (.ref j),v3,v4]) c':=by simp [st0,hx,hp]
theorem g1 {c2:List Cell} {k:Int} (ht:m_law_take [.ref j,.int 6] c=.ok (.int y) c1) (hf:atI [D.int 5,.int 5,.int 5,.int 5,.int 5,.int 7] y=some (.int far)) (ht2:m_law_take [.ref j,.int far] c1=.ok (.int k) c2) (h:m_law_square [.ref j,.int (1 + k)] c2=.ok S c'):st1 [a0,a1,some (.ref j),v3,v4] c=.ok (.nx [a0,a1,some (.ref j),some S,v4]) c':=by
 have h6:(6:Nat)≤sizeLine:=small_line (by decide)
 simp [st1,ht,hf,ht2,h,h6]
theorem g2 (h:m_law_told [S] c=.ok Z c):st2 [a0,a1,v2,some S,v4] c=.ok (.nx [a0,a1,v2,some S,some Z]) c:=by simp [st2,h]
theorem g3m (hl:lenD [S] c=.ok (.int q) c) (hq:(5:Int) < q):st3 [a0,a1,v2,some S,some (.str "many")] c=.ok (.nx [a0,a1,v2,some S,some (.str "many")]) c:=by
 have:=nev_many c
 simp [st3,hl,hq,this]
theorem g3n (hl:lenD [S] c=.ok (.int q) c) (hq:¬ (5:Int) < q) (h1:m_law_cuts 8 [S,.int 0,.tup [],.tup []] c=.ok X c) (h2:m_law_apart 6 [X,.lst [],.int q] c=.ok (.bl false) c):st3 [a0,a1,v2,some S,some .non] c=.ok (.nx [a0,a1,v2,some S,some .non]) c:=by
 simp [st3,hl,hq,h1,h2]
theorem g3y (hl:lenD [S] c=.ok (.int q) c) (hz:lenD [Z] c=.ok (.int q) c) (hq:¬ (5:Int) < q) (h1:m_law_cuts 8 [S,.int 0,.tup [],.tup []] c=.ok X c) (h2:m_law_apart 6 [X,.lst [],.int q] c=.ok (.bl true) c) (h3:m_law_is_square [Z] c=.ok (.bl true) c) (h4:m_law_across [S,Z] c=.ok (.bl true) c):st3 [a0,a1,v2,some S,some Z] c=.ok (.nx [a0,a1,v2,some S,some Z]) c:=by
 simp [st3,hl,hz,hq,h1,h2,h3,h4]
theorem g4 (h:m_law_told [S] c=.ok Z c) (hn:nevD Z Z c=.ok (.bl false) c):st4 [a0,a1,v2,some S,some Z] c=.ok (.nx [a0,a1,v2,some S,some Z]) c:=by simp [st4,h,hn]
end
theorem outer_ok {ns:List Int} {i:Int} (hi:0≤i) (c:List Cell) (v2 v3 v4:Option D) :
  ∃ e' c',(∃ w1 w2 w3 w4,e'=[some (.scr ns),w1,w2,w3,w4])∧outerB [some (.scr ns),some (.int i),v2,v3,v4] c=.ok (.nx e') c':=by
 obtain ⟨x,hx⟩:=cell_ok ns i hi c
 obtain ⟨p,hp⟩:=pot_ok x c
 obtain ⟨y3,c1,y30,y31,P1,t1⟩:=take_ok (j:=c.length) (n:=c.length + 1) (c:=c ++ [.lst [.int p]]) (far:=6) ⟨by simp,by omega,p,by simp⟩ (by decide) (by decide)
 obtain ⟨far,hfar,f0,f1⟩:=far_at y30 y31
 obtain ⟨y,c2,y0,y1,P2,t2⟩:=take_ok (far:=far) P1 f0 (by omega)
 obtain ⟨n,hn⟩:=nat_of (i:=1 + y) (by omega)
 have n1:1≤n:=by omega
 have n8:n < 8:=by omega
 obtain ⟨s,c3,hL,P3,t3⟩:=drawn_ok P2 n1 n8
 rw [← hn] at t3
 have e0:=g0 (ns:=ns) (i:=i) v2 v3 v4 hx hp
 have e1:=g1 (some (.scr ns)) (some (.int i)) v3 v4 t1 hfar t2 t3
 have hlen:lenD [sqD n s] c3=.ok (.int (n:Int)) c3:=by unfold sqD; rw [x_lenT]; simp
 by_cases h5:n≤5
 ·have ht:=told_sq hL n1 h5 c3
  have e2:=g2 (some (.scr ns)) (some (.int i)) (some (.ref c.length)) v4 ht
  have e4:=g4 (some (.scr ns)) (some (.int i)) (some (.ref c.length)) ht (nev_acr n s c3)
  have hcut:=lcuts_ok (s:=s) n8 c3 n 8 0 [] (by omega) (by omega) ⟨rfl,fun x hx=>nomatch hx⟩
  have hap:=apart_ok (s:=s) n1 n8 c3 n 6 [] (by simp) (by omega)
  have e3:st3 [some (.scr ns),some (.int i),some (.ref c.length),some (sqD n s),some (acrD n s)] c3=.ok (.nx [some (.scr ns),some (.int i),some (.ref c.length),some (sqD n s),some (acrD n s)]) c3:=by
   have hcho:=itW_cho (n:=n) (s:=s) n
   unfold acrD
   cases hW:itW n s n [[]] with
   | nil =>
    rw [hW] at hap
    exact g3n (some (.scr ns)) (some (.int i)) (some (.ref c.length)) hlen (by omega) hcut hap
   | cons ch r =>
    rw [hW] at hap hcho
    have C:=hcho ch (.head _)
    have hz:lenD [sqD n (tS ch)] c3=.ok (.int (n:Int)) c3:=by unfold sqD; rw [x_lenT]; simp
    exact g3y (some (.scr ns)) (some (.int i)) (some (.ref c.length)) hlen hz (by omega) hcut hap (lsquare_ok C.latin n1 (by omega) c3) (lacross_ok n8 (fun _ _ _ _ h1 h2 h3 h4 h5 h6=>C.across h1 h2 h3 h4 h5 h6) c3)
  refine ⟨[some (.scr ns),some (.int i),some (.ref c.length),some (sqD n s),some (acrD n s)],c3,⟨_,_,_,_,rfl⟩,?_⟩
  unfold outerB
  exact (seq_ok e0).trans ((seq_ok e1).trans ((seq_ok e2).trans ((seq_ok e3).trans e4)))
 ·have ht:=told_many hL (by omega) n8 c3
  have e2:=g2 (some (.scr ns)) (some (.int i)) (some (.ref c.length)) v4 ht
  have e3:=g3m (some (.scr ns)) (some (.int i)) (some (.ref c.length)) hlen (by omega)
  have e4:=g4 (some (.scr ns)) (some (.int i)) (some (.ref c.length)) ht (nev_many c3)
  refine ⟨[some (.scr ns),some (.int i),some (.ref c.length),some (sqD n s),some (.str "many")],c3,⟨_,_,_,_,rfl⟩,?_⟩
  unfold outerB
  exact (seq_ok e0).trans ((seq_ok e1).trans ((seq_ok e2).trans ((seq_ok e3).trans e4)))
theorem law_main (ns:List Int) (hl:ns.length≤63):∃ c,m_law [.scr ns] []=.ok (.bl true) c:=by
 obtain ⟨e',c',⟨w1,w2,w3,w4,rfl⟩,hf⟩:=for_any (g:=gdName 1) (s:=outerB)
  (fun e=>∃ w1 w2 w3 w4,e=[some (.scr ns),w1,w2,w3,w4]) (rngD 0 5) [some (.scr ns),none,none,none,none] [] ⟨_,_,_,_,rfl⟩ (fun t ht e c ⟨w1,w2,w3,w4,he⟩=>by
   subst he
   obtain ⟨i,rfl,i0,i1⟩:=mem_rng ht
   obtain ⟨e',c',ie,ho⟩:=outer_ok (ns:=ns) i0 c w2 w3 w4
   exact ⟨_,e',_,c',rfl,ho,ie⟩)
 refine ⟨[],?_⟩
 have hb:b_law=sSeq (sFor (dRng1 (dCons (dC (.int 5)) dNil)) (gdName 1) outerB) (sRet (dC (.bl true))):=rfl
 rw [m_law,hb]
 simp only [x_fn,x_seq,x_for]
 simp
 rw [hf]
 simp
end Ev
namespace Ev
open PySem L2 PyProof.Rows
theorem all_mk {l:PySem.W.OpenLaw} {w:World} {K:PySem.W.Frag} {h:Heap} {mg:Str→Option Value} {fa:Addr} {f_is_whole f_is_whole_within f_holds_each_once f_column_of f_is_square f_require_square f_can_go_on f_cuts f_agree_somewhere f_with_one_more f_signs_where f_square_of_cuts f_some_across f_law_cell_at f_law_pot f_law_take f_law_whole f_law_kind_of f_law_is_square f_law_order f_law_cycled f_law_six f_law_square f_law_across f_law_cuts f_law_free f_law_apart f_law_told f_law:Addr} (X:K.In h) (G:h.Ns mainGlobals mg) (hfa:mg "law"=some (.ref fa))
  {od_is_whole an_is_whole od_is_whole_within an_is_whole_within od_holds_each_once an_holds_each_once od_column_of an_column_of od_is_square an_is_square od_require_square an_require_square od_can_go_on an_can_go_on od_cuts an_cuts od_agree_somewhere an_agree_somewhere od_with_one_more an_with_one_more od_signs_where an_signs_where od_square_of_cuts an_square_of_cuts od_some_across an_some_across od_law_cell_at an_law_cell_at od_law_pot an_law_pot od_law_take an_law_take od_law_whole an_law_whole od_law_kind_of an_law_kind_of od_law_is_square an_law_is_square od_law_order an_law_order od_law_cycled an_law_cycled od_law_six an_law_six od_law_square an_law_square od_law_across an_law_across od_law_cuts an_law_cuts od_law_free an_law_free od_law_apart an_law_apart od_law_told an_law_told od_law an_law:Option Addr} {sl_is_whole sl_is_whole_within sl_holds_each_once sl_column_of sl_is_square sl_require_square sl_can_go_on sl_cuts sl_agree_somewhere sl_with_one_more sl_signs_where sl_square_of_cuts sl_some_across sl_law_cell_at sl_law_pot sl_law_take sl_law_whole sl_law_kind_of sl_law_is_square sl_law_order sl_law_cycled sl_law_six sl_law_square sl_law_across sl_law_cuts sl_law_free sl_law_apart sl_law_told sl_law:Array (Option Value)} {oc_is_whole kV_is_whole dc_is_whole pm_is_whole cd_is_whole ct_is_whole oc_is_whole_within kV_is_whole_within dc_is_whole_within pm_is_whole_within cd_is_whole_within ct_is_whole_within oc_holds_each_once kV_holds_each_once dc_holds_each_once pm_holds_each_once cd_holds_each_once ct_holds_each_once oc_column_of kV_column_of dc_column_of pm_column_of cd_column_of ct_column_of oc_is_square kV_is_square dc_is_square pm_is_square cd_is_square ct_is_square oc_require_square kV_require_square dc_require_square pm_require_square cd_require_square ct_require_square oc_can_go_on kV_can_go_on dc_can_go_on pm_can_go_on cd_can_go_on ct_can_go_on oc_cuts kV_cuts dc_cuts pm_cuts cd_cuts ct_cuts oc_agree_somewhere kV_agree_somewhere dc_agree_somewhere pm_agree_somewhere cd_agree_somewhere ct_agree_somewhere oc_with_one_more kV_with_one_more dc_with_one_more pm_with_one_more cd_with_one_more ct_with_one_more oc_signs_where kV_signs_where dc_signs_where pm_signs_where cd_signs_where ct_signs_where oc_square_of_cuts kV_square_of_cuts dc_square_of_cuts pm_square_of_cuts cd_square_of_cuts ct_square_of_cuts oc_some_across kV_some_across dc_some_across pm_some_across cd_some_across ct_some_across oc_law_cell_at kV_law_cell_at dc_law_cell_at pm_law_cell_at cd_law_cell_at ct_law_cell_at oc_law_pot kV_law_pot dc_law_pot pm_law_pot cd_law_pot ct_law_pot oc_law_take kV_law_take dc_law_take pm_law_take cd_law_take ct_law_take oc_law_whole kV_law_whole dc_law_whole pm_law_whole cd_law_whole ct_law_whole oc_law_kind_of kV_law_kind_of dc_law_kind_of pm_law_kind_of cd_law_kind_of ct_law_kind_of oc_law_is_square kV_law_is_square dc_law_is_square pm_law_is_square cd_law_is_square ct_law_is_square oc_law_order kV_law_order dc_law_order pm_law_order cd_law_order ct_law_order oc_law_cycled kV_law_cycled dc_law_cycled pm_law_cycled cd_law_cycled ct_law_cycled oc_law_six kV_law_six dc_law_six pm_law_six cd_law_six ct_law_six oc_law_square kV_law_square dc_law_square pm_law_square cd_law_square ct_law_square oc_law_across kV_law_across dc_law_across pm_law_across cd_law_across ct_law_across oc_law_cuts kV_law_cuts dc_law_cuts pm_law_cuts cd_law_cuts ct_law_cuts oc_law_free kV_law_free dc_law_free pm_law_free cd_law_free ct_law_free oc_law_apart kV_law_apart dc_law_apart pm_law_apart cd_law_apart ct_law_apart oc_law_told kV_law_told dc_law_told pm_law_told cd_law_told ct_law_told oc_law kV_law dc_law pm_law cd_law ct_law:Value}
  (a_is_whole:PySem.W.nsIn K mainGlobals "is_whole"=some (some (.ref f_is_whole))) (l_is_whole:K.lookup f_is_whole=some ⟨oc_is_whole,od_is_whole,.func (PySem.W.fnOf "is_whole" "is_whole" (defArgs s_is_whole) (defBody s_is_whole) (defScope s_is_whole) .none kV_is_whole dc_is_whole pm_is_whole an_is_whole cd_is_whole ct_is_whole),sl_is_whole⟩) (c_is_whole:PySem.W.codeIn K cd_is_whole "is_whole"=true) (k_is_whole:PySem.W.keepIn K (.ref f_is_whole)=true)
  (a_is_whole_within:PySem.W.nsIn K mainGlobals "is_whole_within"=some (some (.ref f_is_whole_within))) (l_is_whole_within:K.lookup f_is_whole_within=some ⟨oc_is_whole_within,od_is_whole_within,.func (PySem.W.fnOf "is_whole_within" "is_whole_within" (defArgs s_is_whole_within) (defBody s_is_whole_within) (defScope s_is_whole_within) .none kV_is_whole_within dc_is_whole_within pm_is_whole_within an_is_whole_within cd_is_whole_within ct_is_whole_within),sl_is_whole_within⟩) (c_is_whole_within:PySem.W.codeIn K cd_is_whole_within "is_whole_within"=true) (k_is_whole_within:PySem.W.keepIn K (.ref f_is_whole_within)=true)
  (a_holds_each_once:PySem.W.nsIn K mainGlobals "holds_each_once"=some (some (.ref f_holds_each_once))) (l_holds_each_once:K.lookup f_holds_each_once=some ⟨oc_holds_each_once,od_holds_each_once,.func (PySem.W.fnOf "holds_each_once" "holds_each_once" (defArgs s_holds_each_once) (defBody s_holds_each_once) (defScope s_holds_each_once) .none kV_holds_each_once dc_holds_each_once pm_holds_each_once an_holds_each_once cd_holds_each_once ct_holds_each_once),sl_holds_each_once⟩) (c_holds_each_once:PySem.W.codeIn K cd_holds_each_once "holds_each_once"=true) (k_holds_each_once:PySem.W.keepIn K (.ref f_holds_each_once)=true)
  (a_column_of:PySem.W.nsIn K mainGlobals "column_of"=some (some (.ref f_column_of))) (l_column_of:K.lookup f_column_of=some ⟨oc_column_of,od_column_of,.func (PySem.W.fnOf "column_of" "column_of" (defArgs s_column_of) (defBody s_column_of) (defScope s_column_of) .none kV_column_of dc_column_of pm_column_of an_column_of cd_column_of ct_column_of),sl_column_of⟩) (c_column_of:PySem.W.codeIn K cd_column_of "column_of"=true) (k_column_of:PySem.W.keepIn K (.ref f_column_of)=true)
  (a_is_square:PySem.W.nsIn K mainGlobals "is_square"=some (some (.ref f_is_square))) (l_is_square:K.lookup f_is_square=some ⟨oc_is_square,od_is_square,.func (PySem.W.fnOf "is_square" "is_square" (defArgs s_is_square) (defBody s_is_square) (defScope s_is_square) .none kV_is_square dc_is_square pm_is_square an_is_square cd_is_square ct_is_square),sl_is_square⟩) (c_is_square:PySem.W.codeIn K cd_is_square "is_square"=true) (k_is_square:PySem.W.keepIn K (.ref f_is_square)=true)
  (a_require_square:PySem.W.nsIn K mainGlobals "require_square"=some (some (.ref f_require_square))) (l_require_square:K.lookup f_require_square=some ⟨oc_require_square,od_require_square,.func (PySem.W.fnOf "require_square" "require_square" (defArgs s_require_square) (defBody s_require_square) (defScope s_require_square) .none kV_require_square dc_require_square pm_require_square an_require_square cd_require_square ct_require_square),sl_require_square⟩) (c_require_square:PySem.W.codeIn K cd_require_square "require_square"=true) (k_require_square:PySem.W.keepIn K (.ref f_require_square)=true)
  (a_can_go_on:PySem.W.nsIn K mainGlobals "can_go_on"=some (some (.ref f_can_go_on))) (l_can_go_on:K.lookup f_can_go_on=some ⟨oc_can_go_on,od_can_go_on,.func (PySem.W.fnOf "can_go_on" "can_go_on" (defArgs s_can_go_on) (defBody s_can_go_on) (defScope s_can_go_on) .none kV_can_go_on dc_can_go_on pm_can_go_on an_can_go_on cd_can_go_on ct_can_go_on),sl_can_go_on⟩) (c_can_go_on:PySem.W.codeIn K cd_can_go_on "can_go_on"=true) (k_can_go_on:PySem.W.keepIn K (.ref f_can_go_on)=true)
  (a_cuts:PySem.W.nsIn K mainGlobals "cuts"=some (some (.ref f_cuts))) (l_cuts:K.lookup f_cuts=some ⟨oc_cuts,od_cuts,.func (PySem.W.fnOf "cuts" "cuts" (defArgs s_cuts) (defBody s_cuts) (defScope s_cuts) .none kV_cuts dc_cuts pm_cuts an_cuts cd_cuts ct_cuts),sl_cuts⟩) (c_cuts:PySem.W.codeIn K cd_cuts "cuts"=true) (k_cuts:PySem.W.keepIn K (.ref f_cuts)=true)
  (a_agree_somewhere:PySem.W.nsIn K mainGlobals "agree_somewhere"=some (some (.ref f_agree_somewhere))) (l_agree_somewhere:K.lookup f_agree_somewhere=some ⟨oc_agree_somewhere,od_agree_somewhere,.func (PySem.W.fnOf "agree_somewhere" "agree_somewhere" (defArgs s_agree_somewhere) (defBody s_agree_somewhere) (defScope s_agree_somewhere) .none kV_agree_somewhere dc_agree_somewhere pm_agree_somewhere an_agree_somewhere cd_agree_somewhere ct_agree_somewhere),sl_agree_somewhere⟩) (c_agree_somewhere:PySem.W.codeIn K cd_agree_somewhere "agree_somewhere"=true) (k_agree_somewhere:PySem.W.keepIn K (.ref f_agree_somewhere)=true)
  (a_with_one_more:PySem.W.nsIn K mainGlobals "with_one_more"=some (some (.ref f_with_one_more))) (l_with_one_more:K.lookup f_with_one_more=some ⟨oc_with_one_more,od_with_one_more,.func (PySem.W.fnOf "with_one_more" "with_one_more" (defArgs s_with_one_more) (defBody s_with_one_more) (defScope s_with_one_more) .none kV_with_one_more dc_with_one_more pm_with_one_more an_with_one_more cd_with_one_more ct_with_one_more),sl_with_one_more⟩) (c_with_one_more:PySem.W.codeIn K cd_with_one_more "with_one_more"=true) (k_with_one_more:PySem.W.keepIn K (.ref f_with_one_more)=true)
  (a_signs_where:PySem.W.nsIn K mainGlobals "signs_where"=some (some (.ref f_signs_where))) (l_signs_where:K.lookup f_signs_where=some ⟨oc_signs_where,od_signs_where,.func (PySem.W.fnOf "signs_where" "signs_where" (defArgs s_signs_where) (defBody s_signs_where) (defScope s_signs_where) .none kV_signs_where dc_signs_where pm_signs_where an_signs_where cd_signs_where ct_signs_where),sl_signs_where⟩) (c_signs_where:PySem.W.codeIn K cd_signs_where "signs_where"=true) (k_signs_where:PySem.W.keepIn K (.ref f_signs_where)=true)
  (a_square_of_cuts:PySem.W.nsIn K mainGlobals "square_of_cuts"=some (some (.ref f_square_of_cuts))) (l_square_of_cuts:K.lookup f_square_of_cuts=some ⟨oc_square_of_cuts,od_square_of_cuts,.func (PySem.W.fnOf "square_of_cuts" "square_of_cuts" (defArgs s_square_of_cuts) (defBody s_square_of_cuts) (defScope s_square_of_cuts) .none kV_square_of_cuts dc_square_of_cuts pm_square_of_cuts an_square_of_cuts cd_square_of_cuts ct_square_of_cuts),sl_square_of_cuts⟩) (c_square_of_cuts:PySem.W.codeIn K cd_square_of_cuts "square_of_cuts"=true) (k_square_of_cuts:PySem.W.keepIn K (.ref f_square_of_cuts)=true)
  (a_some_across:PySem.W.nsIn K mainGlobals "some_across"=some (some (.ref f_some_across))) (l_some_across:K.lookup f_some_across=some ⟨oc_some_across,od_some_across,.func (PySem.W.fnOf "some_across" "some_across" (defArgs s_some_across) (defBody s_some_across) (defScope s_some_across) .none kV_some_across dc_some_across pm_some_across an_some_across cd_some_across ct_some_across),sl_some_across⟩) (c_some_across:PySem.W.codeIn K cd_some_across "some_across"=true) (k_some_across:PySem.W.keepIn K (.ref f_some_across)=true)
  (a_law_cell_at:PySem.W.nsIn K mainGlobals "_law_cell_at"=some (some (.ref f_law_cell_at))) (l_law_cell_at:K.lookup f_law_cell_at=some ⟨oc_law_cell_at,od_law_cell_at,.func (PySem.W.fnOf "_law_cell_at" "_law_cell_at" (defArgs s_law_cell_at) (defBody s_law_cell_at) (defScope s_law_cell_at) .none kV_law_cell_at dc_law_cell_at pm_law_cell_at an_law_cell_at cd_law_cell_at ct_law_cell_at),sl_law_cell_at⟩) (c_law_cell_at:PySem.W.codeIn K cd_law_cell_at "_law_cell_at"=true) (k_law_cell_at:PySem.W.keepIn K (.ref f_law_cell_at)=true)
  (a_law_pot:PySem.W.nsIn K mainGlobals "_law_pot"=some (some (.ref f_law_pot))) (l_law_pot:K.lookup f_law_pot=some ⟨oc_law_pot,od_law_pot,.func (PySem.W.fnOf "_law_pot" "_law_pot" (defArgs s_law_pot) (defBody s_law_pot) (defScope s_law_pot) .none kV_law_pot dc_law_pot pm_law_pot an_law_pot cd_law_pot ct_law_pot),sl_law_pot⟩) (c_law_pot:PySem.W.codeIn K cd_law_pot "_law_pot"=true) (k_law_pot:PySem.W.keepIn K (.ref f_law_pot)=true)
  (a_law_take:PySem.W.nsIn K mainGlobals "_law_take"=some (some (.ref f_law_take))) (l_law_take:K.lookup f_law_take=some ⟨oc_law_take,od_law_take,.func (PySem.W.fnOf "_law_take" "_law_take" (defArgs s_law_take) (defBody s_law_take) (defScope s_law_take) .none kV_law_take dc_law_take pm_law_take an_law_take cd_law_take ct_law_take),sl_law_take⟩) (c_law_take:PySem.W.codeIn K cd_law_take "_law_take"=true) (k_law_take:PySem.W.keepIn K (.ref f_law_take)=true)
  (a_law_whole:PySem.W.nsIn K mainGlobals "_law_whole"=some (some (.ref f_law_whole))) (l_law_whole:K.lookup f_law_whole=some ⟨oc_law_whole,od_law_whole,.func (PySem.W.fnOf "_law_whole" "_law_whole" (defArgs s_law_whole) (defBody s_law_whole) (defScope s_law_whole) .none kV_law_whole dc_law_whole pm_law_whole an_law_whole cd_law_whole ct_law_whole),sl_law_whole⟩) (c_law_whole:PySem.W.codeIn K cd_law_whole "_law_whole"=true) (k_law_whole:PySem.W.keepIn K (.ref f_law_whole)=true)
  (a_law_kind_of:PySem.W.nsIn K mainGlobals "_law_kind_of"=some (some (.ref f_law_kind_of))) (l_law_kind_of:K.lookup f_law_kind_of=some ⟨oc_law_kind_of,od_law_kind_of,.func (PySem.W.fnOf "_law_kind_of" "_law_kind_of" (defArgs s_law_kind_of) (defBody s_law_kind_of) (defScope s_law_kind_of) .none kV_law_kind_of dc_law_kind_of pm_law_kind_of an_law_kind_of cd_law_kind_of ct_law_kind_of),sl_law_kind_of⟩) (c_law_kind_of:PySem.W.codeIn K cd_law_kind_of "_law_kind_of"=true) (k_law_kind_of:PySem.W.keepIn K (.ref f_law_kind_of)=true)
  (a_law_is_square:PySem.W.nsIn K mainGlobals "_law_is_square"=some (some (.ref f_law_is_square))) (l_law_is_square:K.lookup f_law_is_square=some ⟨oc_law_is_square,od_law_is_square,.func (PySem.W.fnOf "_law_is_square" "_law_is_square" (defArgs s_law_is_square) (defBody s_law_is_square) (defScope s_law_is_square) .none kV_law_is_square dc_law_is_square pm_law_is_square an_law_is_square cd_law_is_square ct_law_is_square),sl_law_is_square⟩) (c_law_is_square:PySem.W.codeIn K cd_law_is_square "_law_is_square"=true) (k_law_is_square:PySem.W.keepIn K (.ref f_law_is_square)=true)
  (a_law_order:PySem.W.nsIn K mainGlobals "_law_order"=some (some (.ref f_law_order))) (l_law_order:K.lookup f_law_order=some ⟨oc_law_order,od_law_order,.func (PySem.W.fnOf "_law_order" "_law_order" (defArgs s_law_order) (defBody s_law_order) (defScope s_law_order) .none kV_law_order dc_law_order pm_law_order an_law_order cd_law_order ct_law_order),sl_law_order⟩) (c_law_order:PySem.W.codeIn K cd_law_order "_law_order"=true) (k_law_order:PySem.W.keepIn K (.ref f_law_order)=true)
  (a_law_cycled:PySem.W.nsIn K mainGlobals "_law_cycled"=some (some (.ref f_law_cycled))) (l_law_cycled:K.lookup f_law_cycled=some ⟨oc_law_cycled,od_law_cycled,.func (PySem.W.fnOf "_law_cycled" "_law_cycled" (defArgs s_law_cycled) (defBody s_law_cycled) (defScope s_law_cycled) .none kV_law_cycled dc_law_cycled pm_law_cycled an_law_cycled cd_law_cycled ct_law_cycled),sl_law_cycled⟩) (c_law_cycled:PySem.W.codeIn K cd_law_cycled "_law_cycled"=true) (k_law_cycled:PySem.W.keepIn K (.ref f_law_cycled)=true)
  (a_law_six:PySem.W.nsIn K mainGlobals "_law_six"=some (some (.ref f_law_six))) (l_law_six:K.lookup f_law_six=some ⟨oc_law_six,od_law_six,.func (PySem.W.fnOf "_law_six" "_law_six" (defArgs s_law_six) (defBody s_law_six) (defScope s_law_six) .none kV_law_six dc_law_six pm_law_six an_law_six cd_law_six ct_law_six),sl_law_six⟩) (c_law_six:PySem.W.codeIn K cd_law_six "_law_six"=true) (k_law_six:PySem.W.keepIn K (.ref f_law_six)=true)
  (a_law_square:PySem.W.nsIn K mainGlobals "_law_square"=some (some (.ref f_law_square))) (l_law_square:K.lookup f_law_square=some ⟨oc_law_square,od_law_square,.func (PySem.W.fnOf "_law_square" "_law_square" (defArgs s_law_square) (defBody s_law_square) (defScope s_law_square) .none kV_law_square dc_law_square pm_law_square an_law_square cd_law_square ct_law_square),sl_law_square⟩) (c_law_square:PySem.W.codeIn K cd_law_square "_law_square"=true) (k_law_square:PySem.W.keepIn K (.ref f_law_square)=true)
  (a_law_across:PySem.W.nsIn K mainGlobals "_law_across"=some (some (.ref f_law_across))) (l_law_across:K.lookup f_law_across=some ⟨oc_law_across,od_law_across,.func (PySem.W.fnOf "_law_across" "_law_across" (defArgs s_law_across) (defBody s_law_across) (defScope s_law_across) .none kV_law_across dc_law_across pm_law_across an_law_across cd_law_across ct_law_across),sl_law_across⟩) (c_law_across:PySem.W.codeIn K cd_law_across "_law_across"=true) (k_law_across:PySem.W.keepIn K (.ref f_law_across)=true)
  (a_law_cuts:PySem.W.nsIn K mainGlobals "_law_cuts"=some (some (.ref f_law_cuts))) (l_law_cuts:K.lookup f_law_cuts=some ⟨oc_law_cuts,od_law_cuts,.func (PySem.W.fnOf "_law_cuts" "_law_cuts" (defArgs s_law_cuts) (defBody s_law_cuts) (defScope s_law_cuts) .none kV_law_cuts dc_law_cuts pm_law_cuts an_law_cuts cd_law_cuts ct_law_cuts),sl_law_cuts⟩) (c_law_cuts:PySem.W.codeIn K cd_law_cuts "_law_cuts"=true) (k_law_cuts:PySem.W.keepIn K (.ref f_law_cuts)=true)
  (a_law_free:PySem.W.nsIn K mainGlobals "_law_free"=some (some (.ref f_law_free))) (l_law_free:K.lookup f_law_free=some ⟨oc_law_free,od_law_free,.func (PySem.W.fnOf "_law_free" "_law_free" (defArgs s_law_free) (defBody s_law_free) (defScope s_law_free) .none kV_law_free dc_law_free pm_law_free an_law_free cd_law_free ct_law_free),sl_law_free⟩) (c_law_free:PySem.W.codeIn K cd_law_free "_law_free"=true) (k_law_free:PySem.W.keepIn K (.ref f_law_free)=true)
  (a_law_apart:PySem.W.nsIn K mainGlobals "_law_apart"=some (some (.ref f_law_apart))) (l_law_apart:K.lookup f_law_apart=some ⟨oc_law_apart,od_law_apart,.func (PySem.W.fnOf "_law_apart" "_law_apart" (defArgs s_law_apart) (defBody s_law_apart) (defScope s_law_apart) .none kV_law_apart dc_law_apart pm_law_apart an_law_apart cd_law_apart ct_law_apart),sl_law_apart⟩) (c_law_apart:PySem.W.codeIn K cd_law_apart "_law_apart"=true) (k_law_apart:PySem.W.keepIn K (.ref f_law_apart)=true)
  (a_law_told:PySem.W.nsIn K mainGlobals "_law_told"=some (some (.ref f_law_told))) (l_law_told:K.lookup f_law_told=some ⟨oc_law_told,od_law_told,.func (PySem.W.fnOf "_law_told" "_law_told" (defArgs s_law_told) (defBody s_law_told) (defScope s_law_told) .none kV_law_told dc_law_told pm_law_told an_law_told cd_law_told ct_law_told),sl_law_told⟩) (c_law_told:PySem.W.codeIn K cd_law_told "_law_told"=true) (k_law_told:PySem.W.keepIn K (.ref f_law_told)=true)
  (a_law:PySem.W.nsIn K mainGlobals "law"=some (some (.ref f_law))) (l_law:K.lookup f_law=some ⟨oc_law,od_law,.func (PySem.W.fnOf "law" "law" (defArgs s_law) (defBody s_law) (defScope s_law) .none kV_law dc_law pm_law an_law cd_law ct_law),sl_law⟩) (c_law:PySem.W.codeIn K cd_law "law"=true) (k_law:PySem.W.keepIn K (.ref f_law)=true)
  (z_ValueError:PySem.W.nsIn K mainGlobals "ValueError"=some none)
  (z_all:PySem.W.nsIn K mainGlobals "all"=some none)
  (z_any:PySem.W.nsIn K mainGlobals "any"=some none)
  (z_bool:PySem.W.nsIn K mainGlobals "bool"=some none)
  (z_int:PySem.W.nsIn K mainGlobals "int"=some none)
  (z_isinstance:PySem.W.nsIn K mainGlobals "isinstance"=some none)
  (z_len:PySem.W.nsIn K mainGlobals "len"=some none)
  (z_list:PySem.W.nsIn K mainGlobals "list"=some none)
  (z_max:PySem.W.nsIn K mainGlobals "max"=some none)
  (z_range:PySem.W.nsIn K mainGlobals "range"=some none)
  (z_set:PySem.W.nsIn K mainGlobals "set"=some none)
  (z_sorted:PySem.W.nsIn K mainGlobals "sorted"=some none)
  (z_tuple:PySem.W.nsIn K mainGlobals "tuple"=some none)
  (z_zip:PySem.W.nsIn K mainGlobals "zip"=some none)
  {tk_MOST_SIGNS:Tok} (y_MOST_SIGNS:PySem.W.nsIn K mainGlobals "MOST_SIGNS"=some (some (.int 7 tk_MOST_SIGNS)))
  {tk_MOST_CROSSED:Tok} (y_MOST_CROSSED:PySem.W.nsIn K mainGlobals "MOST_CROSSED"=some (some (.int 5 tk_MOST_CROSSED)))
  {c_NoWeb:Addr} (p_NoWeb:PySem.W.nsIn K mainGlobals "NoWeb"=some (some (.ref c_NoWeb)))
  {c_NoText:Addr} (p_NoText:PySem.W.nsIn K mainGlobals "NoText"=some (some (.ref c_NoText)))
  {c_NoNumbers:Addr} (p_NoNumbers:PySem.W.nsIn K mainGlobals "NoNumbers"=some (some (.ref c_NoNumbers)))
  {c_NoField:Addr} (p_NoField:PySem.W.nsIn K mainGlobals "NoField"=some (some (.ref c_NoField)))
  {c_NoThing:Addr} (p_NoThing:PySem.W.nsIn K mainGlobals "NoThing"=some (some (.ref c_NoThing)))
  {c_NoSquare:Addr} (p_NoSquare:PySem.W.nsIn K mainGlobals "NoSquare"=some (some (.ref c_NoSquare)))
  {c_NoPlaces:Addr} (p_NoPlaces:PySem.W.nsIn K mainGlobals "NoPlaces"=some (some (.ref c_NoPlaces)))
  {c_TooMany:Addr} (p_TooMany:PySem.W.nsIn K mainGlobals "TooMany"=some (some (.ref c_TooMany)))
  {c_NoName:Addr} (p_NoName:PySem.W.nsIn K mainGlobals "NoName"=some (some (.ref c_NoName)))
  {c_NoDeed:Addr} (p_NoDeed:PySem.W.nsIn K mainGlobals "NoDeed"=some (some (.ref c_NoDeed)))
  {c_NoRow:Addr} (p_NoRow:PySem.W.nsIn K mainGlobals "NoRow"=some (some (.ref c_NoRow)))
  {c_WebError:Addr} (p_WebError:PySem.W.nsIn K mainGlobals "WebError"=some (some (.ref c_WebError)))
  (e_NoSquare:PySem.W.excIn K c_NoSquare veMro "ValueError.__new__"=true)
  (e_TooMany:PySem.W.excIn K c_TooMany veMro "ValueError.__new__"=true)
  (xtab:xtabIn K xcls=true) (xw:xwIn K xcls c_WebError=true)
  : ∃ fd:FuncData,(∀ (s:Shared) (v:Value),BindsTo s fd ⟨[v],[]⟩ [("script",v)])∧∀ base:Heap,K.In base→base.Ns mainGlobals mg→FnOk l.prog w K mg base CX0 10 fa fd ["script"] (spD K 1 m_law):=by
 have e:=hfa.symm.trans (PySem.W.mg_of X G a_law)
 cases e
 have F_is_whole:=fun_mk (st:=s_is_whole) l_is_whole c_is_whole k_is_whole
 have b_is_whole:=F_is_whole.binds (ps:=["thing"]) fun _ _ _ _ _ _ us hl=>match us,hl with | [_],_=>rfl
 have F_is_whole_within:=fun_mk (st:=s_is_whole_within) l_is_whole_within c_is_whole_within k_is_whole_within
 have b_is_whole_within:=F_is_whole_within.binds (ps:=["thing","least","most"]) fun _ _ _ _ _ _ us hl=>match us,hl with | [_,_,_],_=>rfl
 have F_holds_each_once:=fun_mk (st:=s_holds_each_once) l_holds_each_once c_holds_each_once k_holds_each_once
 have b_holds_each_once:=F_holds_each_once.binds (ps:=["thing","many"]) fun _ _ _ _ _ _ us hl=>match us,hl with | [_,_],_=>rfl
 have F_column_of:=fun_mk (st:=s_column_of) l_column_of c_column_of k_column_of
 have b_column_of:=F_column_of.binds (ps:=["rows","y"]) fun _ _ _ _ _ _ us hl=>match us,hl with | [_,_],_=>rfl
 have F_is_square:=fun_mk (st:=s_is_square) l_is_square c_is_square k_is_square
 have b_is_square:=F_is_square.binds (ps:=["thing"]) fun _ _ _ _ _ _ us hl=>match us,hl with | [_],_=>rfl
 have F_require_square:=fun_mk (st:=s_require_square) l_require_square c_require_square k_require_square
 have b_require_square:=F_require_square.binds (ps:=["thing"]) fun _ _ _ _ _ _ us hl=>match us,hl with | [_],_=>rfl
 have F_can_go_on:=fun_mk (st:=s_can_go_on) l_can_go_on c_can_go_on k_can_go_on
 have b_can_go_on:=F_can_go_on.binds (ps:=["square","cut","column"]) fun _ _ _ _ _ _ us hl=>match us,hl with | [_,_,_],_=>rfl
 have F_cuts:=fun_mk (st:=s_cuts) l_cuts c_cuts k_cuts
 have b_cuts:=F_cuts.binds (ps:=["square"]) fun _ _ _ _ _ _ us hl=>match us,hl with | [_],_=>rfl
 have F_agree_somewhere:=fun_mk (st:=s_agree_somewhere) l_agree_somewhere c_agree_somewhere k_agree_somewhere
 have b_agree_somewhere:=F_agree_somewhere.binds (ps:=["one","other"]) fun _ _ _ _ _ _ us hl=>match us,hl with | [_,_],_=>rfl
 have F_with_one_more:=fun_mk (st:=s_with_one_more) l_with_one_more c_with_one_more k_with_one_more
 have b_with_one_more:=F_with_one_more.binds (ps:=["choices","more"]) fun _ _ _ _ _ _ us hl=>match us,hl with | [_,_],_=>rfl
 have F_signs_where:=fun_mk (st:=s_signs_where) l_signs_where c_signs_where k_signs_where
 have b_signs_where:=F_signs_where.binds (ps:=["columns"]) fun _ _ _ _ _ _ us hl=>match us,hl with | [_],_=>rfl
 have F_square_of_cuts:=fun_mk (st:=s_square_of_cuts) l_square_of_cuts c_square_of_cuts k_square_of_cuts
 have b_square_of_cuts:=F_square_of_cuts.binds (ps:=["chosen"]) fun _ _ _ _ _ _ us hl=>match us,hl with | [_],_=>rfl
 have F_some_across:=fun_mk (st:=s_some_across) l_some_across c_some_across k_some_across
 have b_some_across:=F_some_across.binds (ps:=["square"]) fun _ _ _ _ _ _ us hl=>match us,hl with | [_],_=>rfl
 have F_law_cell_at:=fun_mk (st:=s_law_cell_at) l_law_cell_at c_law_cell_at k_law_cell_at
 have b_law_cell_at:=F_law_cell_at.binds (ps:=["script","k"]) fun _ _ _ _ _ _ us hl=>match us,hl with | [_,_],_=>rfl
 have F_law_pot:=fun_mk (st:=s_law_pot) l_law_pot c_law_pot k_law_pot
 have b_law_pot:=F_law_pot.binds (ps:=["cell"]) fun _ _ _ _ _ _ us hl=>match us,hl with | [_],_=>rfl
 have F_law_take:=fun_mk (st:=s_law_take) l_law_take c_law_take k_law_take
 have b_law_take:=F_law_take.binds (ps:=["pot","far"]) fun _ _ _ _ _ _ us hl=>match us,hl with | [_,_],_=>rfl
 have F_law_whole:=fun_mk (st:=s_law_whole) l_law_whole c_law_whole k_law_whole
 have b_law_whole:=F_law_whole.binds (ps:=["found"]) fun _ _ _ _ _ _ us hl=>match us,hl with | [_],_=>rfl
 have F_law_kind_of:=fun_mk (st:=s_law_kind_of) l_law_kind_of c_law_kind_of k_law_kind_of
 have b_law_kind_of:=F_law_kind_of.binds (ps:=["e"]) fun _ _ _ _ _ _ us hl=>match us,hl with | [_],_=>rfl
 have F_law_is_square:=fun_mk (st:=s_law_is_square) l_law_is_square c_law_is_square k_law_is_square
 have b_law_is_square:=F_law_is_square.binds (ps:=["thing"]) fun _ _ _ _ _ _ us hl=>match us,hl with | [_],_=>rfl
 have F_law_order:=fun_mk (st:=s_law_order) l_law_order c_law_order k_law_order
 have b_law_order:=F_law_order.binds (ps:=["pot","many"]) fun _ _ _ _ _ _ us hl=>match us,hl with | [_,_],_=>rfl
 have F_law_cycled:=fun_mk (st:=s_law_cycled) l_law_cycled c_law_cycled k_law_cycled
 have b_law_cycled:=F_law_cycled.binds (ps:=["pot","n"]) fun _ _ _ _ _ _ us hl=>match us,hl with | [_,_],_=>rfl
 have F_law_six:=fun_mk (st:=s_law_six) l_law_six c_law_six k_law_six
 have b_law_six:=F_law_six.binds (ps:=["pot"]) fun _ _ _ _ _ _ us hl=>match us,hl with | [_],_=>rfl
 have F_law_square:=fun_mk (st:=s_law_square) l_law_square c_law_square k_law_square
 have b_law_square:=F_law_square.binds (ps:=["pot","n"]) fun _ _ _ _ _ _ us hl=>match us,hl with | [_,_],_=>rfl
 have F_law_across:=fun_mk (st:=s_law_across) l_law_across c_law_across k_law_across
 have b_law_across:=F_law_across.binds (ps:=["one","other"]) fun _ _ _ _ _ _ us hl=>match us,hl with | [_,_],_=>rfl
 have F_law_cuts:=fun_mk (st:=s_law_cuts) l_law_cuts c_law_cuts k_law_cuts
 have b_law_cuts:=F_law_cuts.binds (ps:=["square","start","columns","signs"]) fun _ _ _ _ _ _ us hl=>match us,hl with | [_,_,_,_],_=>rfl
 have F_law_free:=fun_mk (st:=s_law_free) l_law_free c_law_free k_law_free
 have b_law_free:=F_law_free.binds (ps:=["cut","found"]) fun _ _ _ _ _ _ us hl=>match us,hl with | [_,_],_=>rfl
 have F_law_apart:=fun_mk (st:=s_law_apart) l_law_apart c_law_apart k_law_apart
 have b_law_apart:=F_law_apart.binds (ps:=["some","found","many"]) fun _ _ _ _ _ _ us hl=>match us,hl with | [_,_,_],_=>rfl
 have F_law_told:=fun_mk (st:=s_law_told) l_law_told c_law_told k_law_told
 have b_law_told:=F_law_told.binds (ps:=["square"]) fun _ _ _ _ _ _ us hl=>match us,hl with | [_],_=>rfl
 have F_law:=fun_mk (st:=s_law) l_law c_law k_law
 have b_law:=F_law.binds (ps:=["script"]) fun _ _ _ _ _ _ us hl=>match us,hl with | [_],_=>rfl
 let T:Tx K mg:={
  a_is_whole:=f_is_whole,fd_is_whole:=_,d_is_whole:=⟨F_is_whole,PySem.W.mg_of X G a_is_whole,b_is_whole⟩,n_is_whole:=a_is_whole,
  a_is_whole_within:=f_is_whole_within,fd_is_whole_within:=_,d_is_whole_within:=⟨F_is_whole_within,PySem.W.mg_of X G a_is_whole_within,b_is_whole_within⟩,n_is_whole_within:=a_is_whole_within,
  a_holds_each_once:=f_holds_each_once,fd_holds_each_once:=_,d_holds_each_once:=⟨F_holds_each_once,PySem.W.mg_of X G a_holds_each_once,b_holds_each_once⟩,n_holds_each_once:=a_holds_each_once,
  a_column_of:=f_column_of,fd_column_of:=_,d_column_of:=⟨F_column_of,PySem.W.mg_of X G a_column_of,b_column_of⟩,n_column_of:=a_column_of,
  a_is_square:=f_is_square,fd_is_square:=_,d_is_square:=⟨F_is_square,PySem.W.mg_of X G a_is_square,b_is_square⟩,n_is_square:=a_is_square,
  a_require_square:=f_require_square,fd_require_square:=_,d_require_square:=⟨F_require_square,PySem.W.mg_of X G a_require_square,b_require_square⟩,n_require_square:=a_require_square,
  a_can_go_on:=f_can_go_on,fd_can_go_on:=_,d_can_go_on:=⟨F_can_go_on,PySem.W.mg_of X G a_can_go_on,b_can_go_on⟩,n_can_go_on:=a_can_go_on,
  a_cuts:=f_cuts,fd_cuts:=_,d_cuts:=⟨F_cuts,PySem.W.mg_of X G a_cuts,b_cuts⟩,n_cuts:=a_cuts,
  a_agree_somewhere:=f_agree_somewhere,fd_agree_somewhere:=_,d_agree_somewhere:=⟨F_agree_somewhere,PySem.W.mg_of X G a_agree_somewhere,b_agree_somewhere⟩,n_agree_somewhere:=a_agree_somewhere,
  a_with_one_more:=f_with_one_more,fd_with_one_more:=_,d_with_one_more:=⟨F_with_one_more,PySem.W.mg_of X G a_with_one_more,b_with_one_more⟩,n_with_one_more:=a_with_one_more,
  a_signs_where:=f_signs_where,fd_signs_where:=_,d_signs_where:=⟨F_signs_where,PySem.W.mg_of X G a_signs_where,b_signs_where⟩,n_signs_where:=a_signs_where,
  a_square_of_cuts:=f_square_of_cuts,fd_square_of_cuts:=_,d_square_of_cuts:=⟨F_square_of_cuts,PySem.W.mg_of X G a_square_of_cuts,b_square_of_cuts⟩,n_square_of_cuts:=a_square_of_cuts,
  a_some_across:=f_some_across,fd_some_across:=_,d_some_across:=⟨F_some_across,PySem.W.mg_of X G a_some_across,b_some_across⟩,n_some_across:=a_some_across,
  a_law_cell_at:=f_law_cell_at,fd_law_cell_at:=_,d_law_cell_at:=⟨F_law_cell_at,PySem.W.mg_of X G a_law_cell_at,b_law_cell_at⟩,n_law_cell_at:=a_law_cell_at,
  a_law_pot:=f_law_pot,fd_law_pot:=_,d_law_pot:=⟨F_law_pot,PySem.W.mg_of X G a_law_pot,b_law_pot⟩,n_law_pot:=a_law_pot,
  a_law_take:=f_law_take,fd_law_take:=_,d_law_take:=⟨F_law_take,PySem.W.mg_of X G a_law_take,b_law_take⟩,n_law_take:=a_law_take,
  a_law_whole:=f_law_whole,fd_law_whole:=_,d_law_whole:=⟨F_law_whole,PySem.W.mg_of X G a_law_whole,b_law_whole⟩,n_law_whole:=a_law_whole,
  a_law_kind_of:=f_law_kind_of,fd_law_kind_of:=_,d_law_kind_of:=⟨F_law_kind_of,PySem.W.mg_of X G a_law_kind_of,b_law_kind_of⟩,n_law_kind_of:=a_law_kind_of,
  a_law_is_square:=f_law_is_square,fd_law_is_square:=_,d_law_is_square:=⟨F_law_is_square,PySem.W.mg_of X G a_law_is_square,b_law_is_square⟩,n_law_is_square:=a_law_is_square,
  a_law_order:=f_law_order,fd_law_order:=_,d_law_order:=⟨F_law_order,PySem.W.mg_of X G a_law_order,b_law_order⟩,n_law_order:=a_law_order,
  a_law_cycled:=f_law_cycled,fd_law_cycled:=_,d_law_cycled:=⟨F_law_cycled,PySem.W.mg_of X G a_law_cycled,b_law_cycled⟩,n_law_cycled:=a_law_cycled,
  a_law_six:=f_law_six,fd_law_six:=_,d_law_six:=⟨F_law_six,PySem.W.mg_of X G a_law_six,b_law_six⟩,n_law_six:=a_law_six,
  a_law_square:=f_law_square,fd_law_square:=_,d_law_square:=⟨F_law_square,PySem.W.mg_of X G a_law_square,b_law_square⟩,n_law_square:=a_law_square,
  a_law_across:=f_law_across,fd_law_across:=_,d_law_across:=⟨F_law_across,PySem.W.mg_of X G a_law_across,b_law_across⟩,n_law_across:=a_law_across,
  a_law_cuts:=f_law_cuts,fd_law_cuts:=_,d_law_cuts:=⟨F_law_cuts,PySem.W.mg_of X G a_law_cuts,b_law_cuts⟩,n_law_cuts:=a_law_cuts,
  a_law_free:=f_law_free,fd_law_free:=_,d_law_free:=⟨F_law_free,PySem.W.mg_of X G a_law_free,b_law_free⟩,n_law_free:=a_law_free,
  a_law_apart:=f_law_apart,fd_law_apart:=_,d_law_apart:=⟨F_law_apart,PySem.W.mg_of X G a_law_apart,b_law_apart⟩,n_law_apart:=a_law_apart,
  a_law_told:=f_law_told,fd_law_told:=_,d_law_told:=⟨F_law_told,PySem.W.mg_of X G a_law_told,b_law_told⟩,n_law_told:=a_law_told,
  a_law:=fa,fd_law:=_,d_law:=⟨F_law,PySem.W.mg_of X G a_law,b_law⟩,n_law:=a_law,
  nb_ValueError:=PySem.W.mg_none_of X G z_ValueError,
  nb_all:=PySem.W.mg_none_of X G z_all,
  nb_any:=PySem.W.mg_none_of X G z_any,
  nb_bool:=PySem.W.mg_none_of X G z_bool,
  nb_int:=PySem.W.mg_none_of X G z_int,
  nb_isinstance:=PySem.W.mg_none_of X G z_isinstance,
  nb_len:=PySem.W.mg_none_of X G z_len,
  nb_list:=PySem.W.mg_none_of X G z_list,
  nb_max:=PySem.W.mg_none_of X G z_max,
  nb_range:=PySem.W.mg_none_of X G z_range,
  nb_set:=PySem.W.mg_none_of X G z_set,
  nb_sorted:=PySem.W.mg_none_of X G z_sorted,
  nb_tuple:=PySem.W.mg_none_of X G z_tuple,
  nb_zip:=PySem.W.mg_none_of X G z_zip,
  tk_MOST_SIGNS:=tk_MOST_SIGNS,g_MOST_SIGNS:=PySem.W.mg_of X G y_MOST_SIGNS,
  tk_MOST_CROSSED:=tk_MOST_CROSSED,g_MOST_CROSSED:=PySem.W.mg_of X G y_MOST_CROSSED,
  c_NoWeb:=c_NoWeb,gc_NoWeb:=PySem.W.mg_of X G p_NoWeb,nc_NoWeb:=p_NoWeb,
  c_NoText:=c_NoText,gc_NoText:=PySem.W.mg_of X G p_NoText,nc_NoText:=p_NoText,
  c_NoNumbers:=c_NoNumbers,gc_NoNumbers:=PySem.W.mg_of X G p_NoNumbers,nc_NoNumbers:=p_NoNumbers,
  c_NoField:=c_NoField,gc_NoField:=PySem.W.mg_of X G p_NoField,nc_NoField:=p_NoField,
  c_NoThing:=c_NoThing,gc_NoThing:=PySem.W.mg_of X G p_NoThing,nc_NoThing:=p_NoThing,
  c_NoSquare:=c_NoSquare,gc_NoSquare:=PySem.W.mg_of X G p_NoSquare,nc_NoSquare:=p_NoSquare,
  c_NoPlaces:=c_NoPlaces,gc_NoPlaces:=PySem.W.mg_of X G p_NoPlaces,nc_NoPlaces:=p_NoPlaces,
  c_TooMany:=c_TooMany,gc_TooMany:=PySem.W.mg_of X G p_TooMany,nc_TooMany:=p_TooMany,
  c_NoName:=c_NoName,gc_NoName:=PySem.W.mg_of X G p_NoName,nc_NoName:=p_NoName,
  c_NoDeed:=c_NoDeed,gc_NoDeed:=PySem.W.mg_of X G p_NoDeed,nc_NoDeed:=p_NoDeed,
  c_NoRow:=c_NoRow,gc_NoRow:=PySem.W.mg_of X G p_NoRow,nc_NoRow:=p_NoRow,
  c_WebError:=c_WebError,gc_WebError:=PySem.W.mg_of X G p_WebError,nc_WebError:=p_WebError,
  xc_NoSquare:=XCls.of p_NoSquare (PySem.W.mg_of X G p_NoSquare) e_NoSquare,
  xc_TooMany:=XCls.of p_TooMany (PySem.W.mg_of X G p_TooMany) e_TooMany,
  xtab:=XTab.of xtab,xw:=xw }
 exact ⟨_,fun s v=>.of_eq rfl,fun base _ _=>ok_law T⟩
theorem walk {l:PySem.W.OpenLaw} {q:Program} {loose:List Str} {XP:(Str→Option Value)→Heap→Prop} {YP:World→Heap→Prop} {d:DefRec} {K:Params→PySem.W.Frag} (hn:l.most=some 63) (hdf:d.params.defaults=[])
  (hY:∀ (w:World) (h:Heap),YP w h→(K w.params).In h)
  (F:∀ (w:World) (mg:Str→Option Value) (fa:Addr) (h:Heap),(K w.params).In h→h.Ns mainGlobals mg→mg d.name=some (.ref fa) →
   ∃ fd:FuncData,(∀ (s:Shared) (u:Value),BindsTo s fd ⟨[u],[]⟩ [("script",u)])∧∀ base:Heap,(K w.params).In base→base.Ns mainGlobals mg→FnOk l.prog w (K w.params) mg base CX0 10 fa fd ["script"] (spD (K w.params) 1 m_law)) :
  PySem.W.WalkO q loose XP YP l.row.toRowW d [] (fun f vs=>PySem.call f vs) :=
 L2.walk_of (n:=63) (k:=10) (x:="script") (CX:=fun _=>CX0) (sp:=fun w=>spD (K w.params) 1 m_law) hn (by decide) hdf ⟨rfl,by decide,by decide⟩ hY F (fun _ _ a ns hl hO hS=>law_sp hO hS (law_main ns hl)) fun _ _ _ _ _ z=>z
end Ev
noncomputable def PySem.W.Fast.tw12783678669724769278:Nat:=0
noncomputable def PySem.W.Fast.tw15430886004313961258:Nat:=0
noncomputable def PySem.W.Fast.tw2917419103277535702:Nat:=0
noncomputable def PySem.W.Fast.tw185226026534751886:Nat:=0
noncomputable def PySem.W.Fast.tw15479167862931184559:Nat:=0
noncomputable def PySem.W.Fast.tw2184072725024251803:Nat:=0
noncomputable def PySem.W.Fast.tw2278080003780271108:Nat:=0
noncomputable def PySem.W.Fast.tw18193437798696042612:Nat:=0
noncomputable def PySem.W.Fast.tw8328416433637542714:Nat:=0
noncomputable def PySem.W.Fast.tw16254247287394618448:Nat:=0
noncomputable def PySem.W.Fast.tw17685534443100068783:Nat:=0
noncomputable def PySem.W.Fast.tw11771716558671150769:Nat:=0
noncomputable def PySem.W.Fast.tw9517926730464960896:Nat:=0
noncomputable def PySem.W.Fast.tw13394194382207788084:Nat:=0
noncomputable def PySem.W.Fast.tw4954265338235960045:Nat:=0
noncomputable def PySem.W.Fast.tw16275944255452531332:Nat:=0
noncomputable def PySem.W.Fast.tw18350904164889695126:Nat:=0
noncomputable def PySem.W.Fast.tw12898502974877019839:Nat:=0
noncomputable def PySem.W.Fast.tw3765124491058969557:Nat:=0
noncomputable def PySem.W.Fast.tw10911309909964749469:Nat:=0
noncomputable def PySem.W.Fast.tw14697568905372706821:Nat:=0
noncomputable def PySem.W.Fast.tw15840998532453750521:Nat:=0
noncomputable def PySem.W.Fast.tw12233142369165318740:Nat:=0
noncomputable def PySem.W.Fast.tw13941188584261623202:Nat:=0
noncomputable def PySem.W.Fast.tw14972939249699771849:Nat:=0
noncomputable def PySem.W.Fast.tw12372503056875476521:Nat:=0
noncomputable def PySem.W.Fast.tw13657643187060772397:Nat:=0
noncomputable def PySem.W.Fast.tw3838232460699077197:Nat:=0
noncomputable def PySem.W.Fast.tw7571665299448907030:Nat:=0
noncomputable def PySem.W.Fast.tw14425419728182862425:Nat:=0
noncomputable def PySem.W.Fast.tw10491456945281725106:Nat:=0
noncomputable def PySem.W.Fast.tw11715964335500857770:Nat:=0
noncomputable def PySem.W.Fast.tw357665137665793:Nat:=0
noncomputable def PySem.W.Fast.tw6348132810201667269:Nat:=0
noncomputable def PySem.W.Fast.tw13369226198586418355:Nat:=0
noncomputable def PySem.W.Fast.tw2632152374294337309:Nat:=0
noncomputable def PySem.W.Fast.tw13790122790542916078:Nat:=0
noncomputable def PySem.W.Fast.tw15218445866034448374:Nat:=0
noncomputable def PySem.W.Fast.tw3927003280669595999:Nat:=0
noncomputable def PySem.W.Fast.tw12246393372360407310:Nat:=0
open PySem PySem.W PyProof.Rows
set_option maxRecDepth 100000 in
set_option maxHeartbeats 0 in
theorem PySem.Challenge.cw_evenwebs_k53_some_square_across_holds : PySem.Challenge.rw_evenwebs_k53_some_square_across.Holds := by
  w_on; o_law; k_head; (case hw => w_witness2)
  k_fill
  refine Ev.walk (l := PySem.Challenge.rw_evenwebs_k53_some_square_across) rfl rfl (fun w h Y => PySem.W.kIn_of Y) ?F
  case F =>
    intro w mg fa h KX G hmg
    refine' Ev.all_mk KX G hmg ?a_is_whole ?l_is_whole ?c_is_whole ?k_is_whole ?a_is_whole_within ?l_is_whole_within ?c_is_whole_within ?k_is_whole_within ?a_holds_each_once ?l_holds_each_once ?c_holds_each_once ?k_holds_each_once ?a_column_of ?l_column_of ?c_column_of ?k_column_of ?a_is_square ?l_is_square ?c_is_square ?k_is_square ?a_require_square ?l_require_square ?c_require_square ?k_require_square ?a_can_go_on ?l_can_go_on ?c_can_go_on ?k_can_go_on ?a_cuts ?l_cuts ?c_cuts ?k_cuts ?a_agree_somewhere ?l_agree_somewhere ?c_agree_somewhere ?k_agree_somewhere ?a_with_one_more ?l_with_one_more ?c_with_one_more ?k_with_one_more ?a_signs_where ?l_signs_where ?c_signs_where ?k_signs_where ?a_square_of_cuts ?l_square_of_cuts ?c_square_of_cuts ?k_square_of_cuts ?a_some_across ?l_some_across ?c_some_across ?k_some_across ?a_law_cell_at ?l_law_cell_at ?c_law_cell_at ?k_law_cell_at ?a_law_pot ?l_law_pot ?c_law_pot ?k_law_pot ?a_law_take ?l_law_take ?c_law_take ?k_law_take ?a_law_whole ?l_law_whole ?c_law_whole ?k_law_whole ?a_law_kind_of ?l_law_kind_of ?c_law_kind_of ?k_law_kind_of ?a_law_is_square ?l_law_is_square ?c_law_is_square ?k_law_is_square ?a_law_order ?l_law_order ?c_law_order ?k_law_order ?a_law_cycled ?l_law_cycled ?c_law_cycled ?k_law_cycled ?a_law_six ?l_law_six ?c_law_six ?k_law_six ?a_law_square ?l_law_square ?c_law_square ?k_law_square ?a_law_across ?l_law_across ?c_law_across ?k_law_across ?a_law_cuts ?l_law_cuts ?c_law_cuts ?k_law_cuts ?a_law_free ?l_law_free ?c_law_free ?k_law_free ?a_law_apart ?l_law_apart ?c_law_apart ?k_law_apart ?a_law_told ?l_law_told ?c_law_told ?k_law_told ?a_law ?l_law ?c_law ?k_law ?z_ValueError ?z_all ?z_any ?z_bool ?z_int ?z_isinstance ?z_len ?z_list ?z_max ?z_range ?z_set ?z_sorted ?z_tuple ?z_zip ?y_MOST_SIGNS ?y_MOST_CROSSED ?p_NoWeb ?p_NoText ?p_NoNumbers ?p_NoField ?p_NoThing ?p_NoSquare ?p_NoPlaces ?p_TooMany ?p_NoName ?p_NoDeed ?p_NoRow ?p_WebError ?e_NoSquare ?e_TooMany ?xtab ?xw
    (case a_is_whole => k_is)
    (case l_is_whole => k_is)
    (case c_is_whole => k_is)
    (case k_is_whole => k_is)
    (case a_is_whole_within => k_is)
    (case l_is_whole_within => k_is)
    (case c_is_whole_within => k_is)
    (case k_is_whole_within => k_is)
    (case a_holds_each_once => k_is)
    (case l_holds_each_once => k_is)
    (case c_holds_each_once => k_is)
    (case k_holds_each_once => k_is)
    (case a_column_of => k_is)
    (case l_column_of => k_is)
    (case c_column_of => k_is)
    (case k_column_of => k_is)
    (case a_is_square => k_is)
    (case l_is_square => k_is)
    (case c_is_square => k_is)
    (case k_is_square => k_is)
    (case a_require_square => k_is)
    (case l_require_square => k_is)
    (case c_require_square => k_is)
    (case k_require_square => k_is)
    (case a_can_go_on => k_is)
    (case l_can_go_on => k_is)
    (case c_can_go_on => k_is)
    (case k_can_go_on => k_is)
    (case a_cuts => k_is)
    (case l_cuts => k_is)
    (case c_cuts => k_is)
    (case k_cuts => k_is)
    (case a_agree_somewhere => k_is)
    (case l_agree_somewhere => k_is)
    (case c_agree_somewhere => k_is)
    (case k_agree_somewhere => k_is)
    (case a_with_one_more => k_is)
    (case l_with_one_more => k_is)
    (case c_with_one_more => k_is)
    (case k_with_one_more => k_is)
    (case a_signs_where => k_is)
    (case l_signs_where => k_is)
    (case c_signs_where => k_is)
    (case k_signs_where => k_is)
    (case a_square_of_cuts => k_is)
    (case l_square_of_cuts => k_is)
    (case c_square_of_cuts => k_is)
    (case k_square_of_cuts => k_is)
    (case a_some_across => k_is)
    (case l_some_across => k_is)
    (case c_some_across => k_is)
    (case k_some_across => k_is)
    (case a_law_cell_at => k_is)
    (case l_law_cell_at => k_is)
    (case c_law_cell_at => k_is)
    (case k_law_cell_at => k_is)
    (case a_law_pot => k_is)
    (case l_law_pot => k_is)
    (case c_law_pot => k_is)
    (case k_law_pot => k_is)
    (case a_law_take => k_is)
    (case l_law_take => k_is)
    (case c_law_take => k_is)
    (case k_law_take => k_is)
    (case a_law_whole => k_is)
    (case l_law_whole => k_is)
    (case c_law_whole => k_is)
    (case k_law_whole => k_is)
    (case a_law_kind_of => k_is)
    (case l_law_kind_of => k_is)
    (case c_law_kind_of => k_is)
    (case k_law_kind_of => k_is)
    (case a_law_is_square => k_is)
    (case l_law_is_square => k_is)
    (case c_law_is_square => k_is)
    (case k_law_is_square => k_is)
    (case a_law_order => k_is)
    (case l_law_order => k_is)
    (case c_law_order => k_is)
    (case k_law_order => k_is)
    (case a_law_cycled => k_is)
    (case l_law_cycled => k_is)
    (case c_law_cycled => k_is)
    (case k_law_cycled => k_is)
    (case a_law_six => k_is)
    (case l_law_six => k_is)
    (case c_law_six => k_is)
    (case k_law_six => k_is)
    (case a_law_square => k_is)
    (case l_law_square => k_is)
    (case c_law_square => k_is)
    (case k_law_square => k_is)
    (case a_law_across => k_is)
    (case l_law_across => k_is)
    (case c_law_across => k_is)
    (case k_law_across => k_is)
    (case a_law_cuts => k_is)
    (case l_law_cuts => k_is)
    (case c_law_cuts => k_is)
    (case k_law_cuts => k_is)
    (case a_law_free => k_is)
    (case l_law_free => k_is)
    (case c_law_free => k_is)
    (case k_law_free => k_is)
    (case a_law_apart => k_is)
    (case l_law_apart => k_is)
    (case c_law_apart => k_is)
    (case k_law_apart => k_is)
    (case a_law_told => k_is)
    (case l_law_told => k_is)
    (case c_law_told => k_is)
    (case k_law_told => k_is)
    (case a_law => k_is)
    (case l_law => k_is)
    (case c_law => k_is)
    (case k_law => k_is)
    (case z_ValueError => k_is)
    (case z_all => k_is)
    (case z_any => k_is)
    (case z_bool => k_is)
    (case z_int => k_is)
    (case z_isinstance => k_is)
    (case z_len => k_is)
    (case z_list => k_is)
    (case z_max => k_is)
    (case z_range => k_is)
    (case z_set => k_is)
    (case z_sorted => k_is)
    (case z_tuple => k_is)
    (case z_zip => k_is)
    (case y_MOST_SIGNS => k_is)
    (case y_MOST_CROSSED => k_is)
    (case p_NoWeb => k_is)
    (case p_NoText => k_is)
    (case p_NoNumbers => k_is)
    (case p_NoField => k_is)
    (case p_NoThing => k_is)
    (case p_NoSquare => k_is)
    (case p_NoPlaces => k_is)
    (case p_TooMany => k_is)
    (case p_NoName => k_is)
    (case p_NoDeed => k_is)
    (case p_NoRow => k_is)
    (case p_WebError => k_is)
    (case e_NoSquare => k_exc)
    (case e_TooMany => k_exc)
    (case xtab => kernel_rfl)
    (case xw => kernel_rfl)
