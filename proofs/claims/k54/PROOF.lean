import PyProof.Rows.All
import Wide.All
import OpenK.AllK
import Wide.FinOn
import Lean
import PyProof.EqAt
import PyProof.EqKinds
import PyProof.TupleCall
import PySem.Challenge.RW_evenwebs_k54_squares_of_fields
import PyProof.P3In
import PyProof.EqLayable
import PyProof.SumAny
import PyProof.NoPylong
import PyProof.FitsBits
import PyProof.Rows.Range3
import PyProof.ExcArgsOwn
import PyProof.ExcBaseAll.ValueError
import PyProof.DictRoads
import PyProof.DictKinds
import PyProof.Rows.FactsT2
import KE.KRevIter
import PyProof.SetScanFacts
import PyProof.SetKind
import PyProof.Rows.SetFrom
import KE.KDictSum
import PyProof.SetRoads
import PyProof.MeetsSeq2
import PyProof.WalksMore
import PyProof.ListRange
import PyProof.Rows.SortShell
import PyProof.TupleOfSeq
set_option Elab.async false
set_option linter.all false
set_option maxHeartbeats 4000000
set_option maxRecDepth 100000
set_option bootstrap.genMatcherCode false
set_option genSizeOfSpec false
set_option genSizeOf false
noncomputable section
namespace L2
open PySem PySem.Spec PyProof.Rows
abbrev Key:=Sum Int Str
def keyIs:Key→Value→Bool
  | .inl k,v=>Value.isInt k v
  | .inr x,v=>Value.isStrOf x v
def keyH (w:World):Key→Int
  | .inl k=>hashInt k
  | .inr x=>hashStr w x
theorem qbi:∀ {k:Key} {v:Value},keyIs k v=true→(∃ i t,k=Sum.inl i∧v=Value.int i t)∨(∃ x t,k=Sum.inr x∧v=Value.str x t)
  | .inl i,v,h=>by
    obtain ⟨t,e⟩:=Value.isInt_shape (k:=i) (v:=v) h
    exact .inl ⟨i,t,rfl,e⟩
  | .inr x,v,h=>by
    obtain ⟨t,e⟩:=Value.isStrOf_shape (x:=x) (v:=v) h
    exact .inr ⟨x,t,rfl,e⟩
theorem key_ll (a b:Int):decide ((Sum.inl a:Key)=Sum.inl b)=(a == b):=by
  by_cases e:a=b
  · subst e; simp
  · have h:¬ (Sum.inl a:Key)=Sum.inl b:=fun q=>e (Sum.inl.inj q)
    rw [decide_eq_false h]
    exact (beq_eq_false_iff_ne.mpr e).symm
theorem key_rr (a b:Str):decide ((Sum.inr a:Key)=Sum.inr b)=decide (a=b):=by
  by_cases e:a=b
  · subst e; simp
  · have h:¬ (Sum.inr a:Key)=Sum.inr b:=fun q=>e (Sum.inr.inj q)
    rw [decide_eq_false h,decide_eq_false e]
theorem key_lr (a:Int) (b:Str):decide ((Sum.inl a:Key)=Sum.inr b)=false:=decide_eq_false (fun q=>nomatch q)
theorem key_rl (a:Str) (b:Int):decide ((Sum.inr a:Key)=Sum.inl b)=false:=decide_eq_false (fun q=>nomatch q)
def mixKind (prog:Program) (w:World):PySem.KeyKind prog w Key where
  is:=keyIs
  hash:=keyH w
  inj:=fun v a b ha hb=>by
    rcases qbi ha with ⟨i,t,rfl,rfl⟩ | ⟨x,t,rfl,rfl⟩
    · rcases qbi hb with ⟨j,u,rfl,e⟩ | ⟨y,u,rfl,e⟩
      · injection e with e1 _; rw [e1]
      · exact nomatch e
    · rcases qbi hb with ⟨j,u,rfl,e⟩ | ⟨y,u,rfl,e⟩
      · exact nomatch e
      · injection e with e1 _; rw [e1]
  byValue:=fun k v h=>by
    rcases qbi h with ⟨i,t,rfl,rfl⟩ | ⟨x,t,rfl,rfl⟩ <;> rfl
  pyHash:=fun hv h=>by
    rcases qbi hv with ⟨i,t,rfl,rfl⟩ | ⟨x,t,rfl,rfl⟩
    · exact wpAny_pyHash_int h
    · exact wpAny_pyHash_str h
  eqBool:=fun hu hv h=>by
    rcases qbi hu with ⟨i,t,rfl,rfl⟩ | ⟨x,t,rfl,rfl⟩
    · rcases qbi hv with ⟨j,u,rfl,rfl⟩ | ⟨y,u,rfl,rfl⟩
      · rw [key_ll] at h; exact wpAny_eqBool_int h
      · rw [key_lr] at h; exact SeqAt.EqAt.int_str i t y u _ _ _ _ h
    · rcases qbi hv with ⟨j,u,rfl,rfl⟩ | ⟨y,u,rfl,rfl⟩
      · rw [key_rl] at h; exact SeqAt.EqAt.str_int x t j u _ _ _ _ h
      · rw [key_rr] at h; exact wpAny_eqBool_str h
  «strs»:=fun k x t v h=>by
    rcases qbi h with ⟨i,u,rfl,e⟩ | ⟨y,u,rfl,e⟩
    · exact nomatch e
    · injection e with e1 _
      subst e1
      cases v <;> rfl
end L2
namespace L2
open PySem PySem.Spec PyProof.Rows
inductive V where
  | non | bl (b:Bool) | int (i:Int) | str (x:Str) | byt (b:Array UInt8) | flt (b:UInt64) | ref (a:Addr) | ty (n:String)
  deriving DecidableEq
def RelV:V→Value→Prop
  | .non,u=>u=Value.none
  | .bl b,u=>u=Value.bool b
  | .int i,u=>∃ t,u=Value.int i t
  | .str x,u=>∃ t,u=Value.str x t
  | .byt b,u=>∃ t,u=Value.bytes b t
  | .flt b,u=>∃ t,u=Value.float b t
  | .ref a,u=>u=Value.ref a
  | .ty n,u=>u=Value.type n
abbrev Vals:List V→List Value→Prop:=Paired RelV
theorem Vals.length {xs:List V} {us:List Value} (r:Vals xs us):xs.length=us.length:=Paired.length r
theorem Vals.get:∀ {xs:List V} {us:List Value} {i:Nat} {x:V},Vals xs us→xs[i]? = some x→∃ u,us[i]? = some u∧RelV x u
  | _,_,_,_,.nil,e=>by simp at e
  | _,_,0,_,.cons r _,e=>by simp at e; subst e; exact ⟨_,rfl,r⟩
  | _,_,i + 1,x,.cons _ t,e=>by
    obtain ⟨u,h1,h2⟩:=Vals.get (i:=i) (x:=x) t (by simpa using e)
    exact ⟨u,by simpa using h1,h2⟩
theorem Vals.set {x:V} {u:Value} (r:RelV x u):∀ {xs:List V} {us:List Value} (i:Nat),Vals xs us→Vals (xs.set i x) (us.set i u)
  | _,_,_,.nil=>.nil
  | _,_,0,.cons _ t=>.cons r t
  | _,_,i + 1,.cons q t=>.cons q (Vals.set r i t)
theorem Vals.append:∀ {xs ys:List V} {us ws:List Value},Vals xs us→Vals ys ws→Vals (xs ++ ys) (us ++ ws)
  | _,_,_,_,.nil,s=>s
  | _,_,_,_,.cons r t,s=>.cons r (Vals.append t s)
theorem Vals.take:∀ {xs:List V} {us:List Value} (n:Nat),Vals xs us→Vals (xs.take n) (us.take n)
  | _,_,0,_=>.nil
  | _,_,_ + 1,.nil=>.nil
  | _,_,n + 1,.cons r t=>.cons r (Vals.take n t)
theorem Vals.drop:∀ {xs:List V} {us:List Value} (n:Nat),Vals xs us→Vals (xs.drop n) (us.drop n)
  | _,_,0,r=>r
  | _,_,_ + 1,.nil=>.nil
  | _,_,n + 1,.cons _ t=>Vals.drop n t
def RelO:Option V→Option Value→Prop
  | some v,some u=>RelV v u
  | none,none=>True
  | _,_=>False
def KV {κ:Type}:List (κ×V)→List (κ×Value)→Prop:=Paired fun (p:κ×V) (q:κ×Value)=>p.1=q.1∧RelV p.2 q.2
def kV:Key→V
  | .inl i=>.int i
  | .inr x=>.str x
inductive HO where
  /-- a list -/
  | lst (xs:List V)
  /-- a tuple (never changes) -/
  | tup (xs:List V)
  /-- a dict whose keys are ints and texts; one whose keys are tuples of ints and texts (the empty one is both) -/
  | dK (kvs:List (Key×V)) | dT (kvs:List (List Key×V))
  /-- a set of ints: its members,its size -/
  | set (S:Int→Bool) (n:Nat)
  /-- an instance of the class at C,its dict at dx,its attributes -/
  | ins (C dx:Addr) (fs:List (Str×V))
  /-- the dict of the instance at x -/
  | own (x:Addr)
  /-- the dict of an exception -/
  | xd (fs:List (Str×V))
  /-- a bound method,f of x -/
  | met (f x:Addr)
  /-- a range object lo,lo + 1,.. below hi -/
  | rng (lo hi:Int)
  /-- a thing that is known to the object (the script; a dict while a loop walks it): read,never written while it is so -/
  | frz (o:Obj) (u:HO)
  /-- a code object's table -/
  | tbl (ps:Array Value)
  /-- any other thing,by what is true of its one object (a def of one's own: SetO a S n:=HO.ext fun h=>..) -/
  | ext (φ:Heap→Prop)
abbrev Hp:=Addr→Option HO
def upd (H:Hp) (a:Addr) (o:HO):Hp:=fun b=>if b=a then some o else H b
theorem qbu {H:Hp} {a:Addr} {o:HO}:upd H a o a=some o:=by unfold upd; rw [if_pos rfl]
theorem qao {H:Hp} {a b:Addr} {o:HO} (h:b≠a):upd H a o b=H b:=by unfold upd; rw [if_neg h]
theorem ne_of {H:Hp} {a b:Addr} {o u:HO} (h:H a=some o) (h':H b=some u) (d:o≠u):a≠b:=by
  intro e; subst e; rw [h] at h'; exact d (Option.some.inj h')
theorem qah {H:Hp} {a b:Addr} {o:HO} (h:H a=some o) (h':H b=none):a≠b:=by
  intro e; subst e; rw [h] at h'; cases h'
def TupN (h:Heap) (a:Addr) (items:Array Value):Prop:=∃ o,h.get? a=some o∧o.cls=.type "tuple"∧(∃ n,o.data=.seq items n)∧o.dict=none
theorem TupN.tup {h:Heap} {a:Addr} {items:Array Value}:TupN h a items→IsTup h a items:=fun ⟨o,e,c,d,_⟩=>⟨o,e,c,d⟩
theorem TupN.new (h:Heap) (items:Array Value):TupN (h.push { cls:=.type "tuple",data:=.seq items }) h.objs.size items:=⟨_,Heap.get?_push_size _ rfl,rfl,⟨_,rfl⟩,rfl⟩
section
variable (P:Program) (w:World)
def ObjOk (H:Hp) (h:Heap) (a:Addr):HO→Prop
  | .lst xs=>xs.length≤sizeLine∧∃ (its:List Value) (n:Nat),Vals xs its∧h.get? a=some { cls:=.type "list",data:=.seq its.toArray n }
  | .tup xs=>xs.length≤sizeLine∧∃ its:List Value,Vals xs its∧TupN h a its.toArray
  | .dK kvs=>kvs.length≤sizeLine∧(a == sysModules)=false∧∃ vs,KV kvs vs∧h.DictOf (mixKind P w) a vs
  | .dT kvs=>kvs.length≤sizeLine∧(a == sysModules)=false∧∃ xs:List (List Key×Addr×Value),
      Paired (fun (p:List Key×V) (q:List Key×Addr×Value)=>p.1=q.1∧H q.2.1=some (.tup (p.1.map kV))∧RelV p.2 q.2.2) kvs xs ∧
      ∃ o es ep,h.get? a=some o∧o.ExactDict∧o.data=.dict es ep∧es.toList=xs.map (entryOfKey (tupleKind (mixKind P w)))∧(xs.map (·.1)).Nodup
  | .set S n=>h.SetOf (intKind P w) a S n
  | .ins C dx fs=>H dx=some (.own a)∧fs.length≤1000∧dx≠a∧h.get? a=some (PySem.W.instObj C dx) ∧
      ∃ mA,h.Ns1 dx mA∧(∀ f,RelO (fs.lookup f) (mA f))∧PySem.Within mA (fs.map (·.1))
  | .own _=>∃ o,h.get? a=some o
  | .xd fs=>∃ mA,h.Ns1 a mA∧∀ f,RelO (fs.lookup f) (mA f)
  | .rng lo hi=>∃ t u v,h.get? a=some { cls:=.type "range",data:=.fields #[.int lo t,.int hi u,.int 1 v] }
  | .frz o u=>h.get? a=some o∧ObjOk H h a u
  | .tbl ps=>h.get? a=some { cls:=.none,data:=.fields ps }
  | .met f x=>h.get? a=some (PySem.W.methodObj (.ref f) (.ref x))
  | .ext φ=>φ h∧(∃ o,h.get? a=some o)∧∀ h1 h2:Heap,φ h1→(∀ o,h1.get? a=some o→h2.get? a=some o)→φ h2
def HOk (H:Hp) (h:Heap):Prop:=∀ a o,H a=some o→ObjOk P w H h a o
end
section
variable {P:Program} {w:World} {H H':Hp} {h h':Heap} {a:Addr} {o:HO}
theorem ObjOk.lt (x:ObjOk P w H h a o):a < h.objs.size:=by
  cases o with
  | lst xs=>obtain ⟨_,_,_,_,e⟩:=x; exact Heap.lt_size e
  | tup xs=>obtain ⟨_,_,_,p⟩:=x; exact p.tup.lt
  | dK kvs=>obtain ⟨_,_,_,_,o,_,_,e,_⟩:=x; exact Heap.lt_size e
  | dT kvs=>obtain ⟨_,_,_,_,o,_,_,e,_⟩:=x; exact Heap.lt_size e
  | set S n=>obtain ⟨o,_,_,_,e,_⟩:=x; exact Heap.lt_size e
  | ins C dx fs=>obtain ⟨_,_,_,e,_⟩:=x; exact Heap.lt_size e
  | own y=>obtain ⟨_,e⟩:=x; exact Heap.lt_size e
  | xd fs=>obtain ⟨_,⟨_,_,_,e,_⟩,_⟩:=x; exact Heap.lt_size e
  | rng lo hi=>obtain ⟨_,_,_,e⟩:=x; exact Heap.lt_size e
  | frz ob u=>obtain ⟨e,_⟩:=x; exact Heap.lt_size e
  | tbl ps=>exact Heap.lt_size (show h.get? a=some _ from x)
  | met f y=>exact Heap.lt_size (show h.get? a=some _ from x)
  | ext φ=>obtain ⟨_,⟨_,e⟩,_⟩:=x; exact Heap.lt_size e
theorem Paired.mapP {α β:Type} {F G:α→β→Prop}:∀ {l₁:List α} {l₂:List β},Paired F l₁ l₂→(∀ a b,F a b→G a b)→Paired G l₁ l₂
  | _,_,.nil,_=>.nil
  | _,_,.cons r t,f=>.cons (f _ _ r) (Paired.mapP t f)
theorem ObjOk.stay (x:ObjOk P w H h a o) (k:∀ b u,(b=a∨H b=some (.own a))→h.get? b=some u→h'.get? b=some u)
    (ho:∀ b,H b=some (.own a)→H' b=some (.own a)) (ht:∀ b xs,H b=some (.tup xs)→H' b=some (.tup xs)):ObjOk P w H' h' a o:=by
  induction o with
  | lst xs=>obtain ⟨z,its,n,r,e⟩:=x; exact ⟨z,its,n,r,k _ _ (.inl rfl) e⟩
  | tup xs=>obtain ⟨z,its,r,ob,e,c⟩:=x; exact ⟨z,its,r,ob,k _ _ (.inl rfl) e,c⟩
  | dK kvs=>obtain ⟨z,y,vs,r,ob,es,ep,e,c⟩:=x; exact ⟨z,y,vs,r,ob,es,ep,k _ _ (.inl rfl) e,c⟩
  | dT kvs =>
    obtain ⟨z,y,xs,r,ob,es,ep,e,c⟩:=x
    exact ⟨z,y,xs,Paired.mapP r fun p q z=>⟨z.1,ht _ _ z.2.1,z.2.2⟩,ob,es,ep,k _ _ (.inl rfl) e,c⟩
  | set S n=>obtain ⟨ob,es,ep,t,e,c⟩:=x; exact ⟨ob,es,ep,t,k _ _ (.inl rfl) e,c⟩
  | ins C dx fs =>
    obtain ⟨d,z,ne,e,mA,⟨od,es,ep,e2,c⟩,r⟩:=x
    exact ⟨ho _ d,z,ne,k _ _ (.inl rfl) e,mA,⟨od,es,ep,k _ _ (.inr d) e2,c⟩,r⟩
  | own y=>obtain ⟨ob,e⟩:=x; exact ⟨ob,k _ _ (.inl rfl) e⟩
  | xd fs=>obtain ⟨mA,⟨od,es,ep,e,c⟩,r⟩:=x; exact ⟨mA,⟨od,es,ep,k _ _ (.inl rfl) e,c⟩,r⟩
  | rng lo hi=>obtain ⟨t,u,v,e⟩:=x; exact ⟨t,u,v,k _ _ (.inl rfl) e⟩
  | frz ob u ih=>obtain ⟨e,q⟩:=x; exact ⟨k _ _ (.inl rfl) e,ih q⟩
  | tbl ps =>
    have e:h.get? a=some { cls:=.none,data:=.fields ps }:=x
    show h'.get? a=some { cls:=.none,data:=.fields ps }
    exact k a _ (.inl rfl) e
  | met f y =>
    have e:h.get? a=some (PySem.W.methodObj (.ref f) (.ref y)):=x
    show h'.get? a=some (PySem.W.methodObj (.ref f) (.ref y))
    exact k a _ (.inl rfl) e
  | ext φ=>obtain ⟨p,⟨o,e⟩,st⟩:=x; exact ⟨st _ _ p fun o q=>k _ _ (.inl rfl) q,⟨o,k _ _ (.inl rfl) e⟩,st⟩
theorem HOk.lt (x:HOk P w H h) (e:H a=some o):a < h.objs.size:=(x a o e).lt
theorem HOk.fresh (x:HOk P w H h) (e:h.objs.size≤a):H a=none:=by
  cases q:H a with
  | none=>rfl
  | some u=>exact absurd (Nat.lt_of_lt_of_le (x.lt q) e) (Nat.lt_irrefl _)
theorem HOk.kept (x:HOk P w H h) (k:∀ b u,h.get? b=some u→h'.get? b=some u):HOk P w H h':=fun a o e =>
  (x a o e).stay (fun b u _ q=>k b u q) (fun _ q=>q) fun _ _ q=>q
theorem HOk.laid (x:HOk P w H h) (k:∀ b u,h.get? b=some u→h'.get? b=some u) (hp:h.objs.size≤a) (new:ObjOk P w (upd H a o) h' a o):HOk P w (upd H a o) h':=fun b u e=>by
  have hn:=x.fresh hp
  by_cases hb:b=a
  · subst hb; rw [qbu] at e; cases e; exact new
  · rw [qao hb] at e
    exact (x b u e).stay (fun c v _ q=>k c v q) (fun c q=>by rw [qao (qah q hn)]; exact q) fun c xs q=>by rw [qao (qah q hn)]; exact q
end
def Rd (H:Hp) (a:Addr) (u:HO):Prop:=H a=some u∨∃ o,H a=some (.frz o u)
theorem Rd.ok {P:Program} {w:World} {H:Hp} {h:Heap} {a:Addr} {u:HO} (r:Rd H a u) (x:HOk P w H h):ObjOk P w H h a u:=by
  rcases r with r | ⟨o,r⟩
  · exact x a u r
  · obtain ⟨_,q⟩:=x a _ r
    exact q
def Mut:Option HO→Prop
  | some (.lst _)=>True
  | some (.dK _)=>True
  | some (.dT _)=>True
  | some (.set _ _)=>True
  | some (.ins _ _ _)=>True
  | some (.ext _)=>True
  | _=>False
section
variable {P:Program} {w:World} {H:Hp} {h h':Heap} {x e:Addr} {o':HO}
theorem HOk.write (ok:HOk P w H h) (mu:Mut (H x)) (he:e=x∨H e=some (.own x)) (k:∀ b u,b≠e→h.get? b=some u→h'.get? b=some u) (heo:∃ u,h'.get? e=some u)
    (new:ObjOk P w (upd H x o') h' x o'):HOk P w (upd H x o') h':=fun b u q=>by
  have nown:∀ c y,H c=some (.own y)→c≠x:=fun c y r z=>by subst z; rw [r] at mu; exact mu
  have ntup:∀ c xs,H c=some (.tup xs)→c≠x:=fun c xs r z=>by subst z; rw [r] at mu; exact mu
  by_cases hb:b=x
  · subst hb; rw [qbu] at q; cases q; exact new
  · rw [qao hb] at q
    by_cases hbe:b=e
    · have q':H b=some (.own x):=by
        rcases he with z | z
        · exact absurd (hbe.trans z) hb
        · rw [hbe]; exact z
      rw [q] at q'; cases q'
      obtain ⟨v,hv⟩:=heo
      exact ⟨v,by rw [hbe]; exact hv⟩
    · refine (ok b u q).stay (fun c v hc r=>k c v ?_ r) (fun c r=>by rw [qao (nown c b r)]; exact r) fun c xs r=>by rw [qao (ntup c xs r)]; exact r
      rcases hc with rfl | hc
      · exact hbe
      · rintro rfl
        rcases he with z | z
        · exact nown c b hc z
        · rw [hc] at z; cases z; exact hb rfl
end
structure Un (fs ex:List Addr) (H H':Hp) (h h':Heap):Prop where
  keep:∀ b o,h.get? b=some o→H b=none→b∉fs→b∉ex→h'.get? b=some o
  slot:∀ b o,h.get? b=some o→H b=none→b∈fs→b∉ex→∃ sl,h'.get? b=some { o with slots:=sl }
  free:∀ b o,h.get? b=some o→H b=none→b∉ex→H' b=none
  there:∀ b o,h.get? b=some o→b∉ex→∃ o',h'.get? b=some o'
  tups:∀ b xs,H b=some (.tup xs)→H' b=some (.tup xs)
  frzs:∀ b o u,H b=some (.frz o u)→H' b=some (.frz o u)
  tbls:∀ b ps,H b=some (.tbl ps)→∃ more,H' b=some (.tbl (ps ++ more))
section
variable {fs fs' ex ex':List Addr} {H H1 H2:Hp} {h h1 h2 h':Heap} {a x e:Addr} {o:HO}
theorem Un.any (u:Un fs ex H H1 h h1) {b:Addr} {ob:Obj} (q:h.get? b=some ob) (n:H b=none) (hx:b∉ex):∃ sl,h1.get? b=some { ob with slots:=sl }:=by
  by_cases hb:b∈fs
  · exact u.slot b ob q n hb hx
  · exact ⟨ob.slots,u.keep b ob q n hb hx⟩
theorem Un.kept (k:∀ b u,h.get? b=some u→h'.get? b=some u):Un fs ex H H h h' :=
  ⟨fun b ob q _ _ _=>k b ob q,fun b ob q _ _ _=>⟨ob.slots,k b ob q⟩,fun _ _ _ n _=>n,fun b ob q _=>⟨ob,k b ob q⟩,fun _ _ q=>q,fun _ _ _ q=>q,fun _ ps q=>⟨#[],by rw [q]; simp⟩⟩
theorem Un.refl:Un fs ex H H h h:=Un.kept fun _ _ q=>q
theorem Un.laid (k:∀ b u,h.get? b=some u→h'.get? b=some u) (hp:h.objs.size≤a) (hn:H a=none):Un fs ex H (upd H a o) h h' where
  keep:=fun b u q _ _ _=>k b u q
  slot:=fun b u q _ _ _=>⟨u.slots,k b u q⟩
  free:=fun b u q n _=>by rw [qao (Nat.ne_of_lt (Nat.lt_of_lt_of_le (Heap.lt_size q) hp))]; exact n
  there:=fun b u q _=>⟨u,k b u q⟩
  tups:=fun b xs q=>by rw [qao (qah q hn)]; exact q
  frzs:=fun b u xs q=>by rw [qao (qah q hn)]; exact q
  tbls:=fun b ps q=>⟨#[],by rw [qao (qah q hn),q]; simp⟩
theorem Un.write (mu:Mut (H x)) (he:e=x∨H e=some (.own x)) (k:∀ b u,b≠e→h.get? b=some u→h'.get? b=some u) (heo:∃ u,h'.get? e=some u):Un fs ex H (upd H x o) h h':=by
  have hx:∀ b,H b=none→b≠x:=fun b n z=>by subst z; rw [n] at mu; exact mu
  have hb:∀ b,H b=none→b≠e:=fun b n z=>by
    subst z
    rcases he with r | r
    · exact hx b n r
    · rw [n] at r; cases r
  have hm:∀ b u,H b=some u→¬ Mut (some u)→b≠x:=fun b u q nm z=>by subst z; rw [q] at mu; exact nm mu
  refine ⟨fun b u q n _ _=>k b u (hb b n) q,fun b u q n _ _=>⟨u.slots,k b u (hb b n) q⟩,fun b u q n _=>by rw [qao (hx b n)]; exact n,fun b u q _=>?_,
    fun b xs q=>by rw [qao (hm b _ q fun z=>z)]; exact q,fun b u xs q=>by rw [qao (hm b _ q fun z=>z)]; exact q,fun b ps q=>⟨#[],by rw [qao (hm b _ q fun z=>z),q]; simp⟩⟩
  by_cases hbe:b=e
  · subst hbe; exact heo
  · exact ⟨u,k b u hbe q⟩
end
def trk (h:Heap) (H:Hp):List Addr:=(List.range h.objs.size).filter fun a=>(H a).isSome
def hidT (h:Heap) (H:Hp):Heap:=PySem.W.hideAll h (trk h H)
theorem hidT_size (h:Heap) (H:Hp):(hidT h H).objs.size=h.objs.size:=PySem.W.hideAll_size _ _
theorem hidT_get {h:Heap} {H:Hp} {b:Addr} {o:Obj} (e:h.get? b=some o) (n:H b=none):(hidT h H).get? b=some o :=
  PySem.W.hideAll_get _ e fun hm=>by
    have q:(H b).isSome=true:=(List.mem_filter.mp hm).2
    rw [n] at q; simp at q
theorem of_hidT {h:Heap} {H:Hp} {b:Addr} {o:Obj} (e:(hidT h H).get? b=some o):h.get? b=some o∧H b=none:=by
  have e':h.get? b=some o:=PySem.W.of_hideAll (trk h H) e
  refine ⟨e',?_⟩
  cases q:H b with
  | none=>rfl
  | some x =>
    have hm:b∈trk h H:=List.mem_filter.mpr ⟨List.mem_range.mpr (Heap.lt_size e'),by simp [q]⟩
    have z:(hidT h H).get? b=none:=PySem.W.hideAll_none (trk h H) hm
    rw [z] at e; cases e
end L2
namespace L2
open PySem PySem.Spec PyProof.Rows
structure Mod (K:PySem.W.Frag) (mg:Str→Option Value) (base:Heap):Prop where
  kin:K.In base
  glob:base.Ns mainGlobals mg
  blt:∃ mb,base.Ns builtinsNs mb∧∀ x:Str,x≠"__name__"→mb x=bootBuiltins x
  nolimit:base.NoLimit
  bmod:∃ bm ob,mg "__builtins__"=some (.ref bm)∧bm≠builtinsNs∧base.get? bm=some ob∧ob.cls=.type "module"∧ob.dict=some builtinsNs∧ob.data=.plain
structure Cx where
  prog:Program
  w:World
  K:PySem.W.Frag
  mg:Str→Option Value
  base:Heap
  A:Around
  N:List Str
  s₀:Shared
  H₀:Hp
  env:Env
  outer:List Env
  stack:List Env
  ex:List Addr
  fn:Str→Bool
  calm:Bool
  pn:List (Addr×Obj)
  xe:Value→Shared→Prop
def frs (l:List Env):List Addr:=l.filterMap (·.frame)
abbrev Cx.fs (X:Cx):List Addr:=frs X.outer
def Vis (sc:Scope) (x:Str):Prop:=sc.names.lookup x=some .local∨sc.names.lookup x=some .cell∨sc.names.lookup x=some .free
def Loc (sc:Scope) (x:Str):Prop:=sc.names.lookup x=some .local∨sc.names.lookup x=some .cell
def Look (env:Env) (h:Heap) (m:Str→Option Value) (x:Str) (u:Value):Prop :=
  (env.kindOf x=some .local∧m x=some u)∨((env.kindOf x=some .cell∨env.kindOf x=some .free)∧∃ c,env.cells.lookup x=some c∧h.IsCell c (some u))
structure Cx.Ok (X:Cx):Prop where
  mod:Mod X.K X.mg X.base
  kind:X.env.scope.kind=.function
  glob:X.env.globals=mainGlobals
  blt:X.env.builtins=builtinsNs
  above:X.s₀.heap.objs.size≤X.env.locals
  inj:∀ x y c,X.env.cells.lookup x=some c→X.env.cells.lookup y=some c→x=y
  has:∀ x,(X.env.kindOf x=some .cell∨X.env.kindOf x=some .free)→∃ c,X.env.cells.lookup x=some c
  cab:∀ x c,X.fn x=true→X.env.cells.lookup x=some c→X.s₀.heap.objs.size≤c
  hd:X.calm=true→X.A.handled=none
  frames:X.A.frames=some X.stack
  stk:X.stack=X.outer∨(X.stack=X.env :: X.outer∧X.env.frame=some X.env.locals)
  exf:∀ b∈X.ex,b≠X.env.locals∧∀ x c,X.env.cells.lookup x=some c→c≠b
  bs:∀ b o,X.base.get? b=some o→X.s₀.heap.get? b=some o∧X.H₀ b=none
  bsz:X.base.objs.size≤X.s₀.heap.objs.size
  noex:∀ b o,X.base.get? b=some o→b∉X.ex
  exfs:∀ b∈X.ex,b∉X.fs
  funs:X.s₀.heap.FunFrames X.base X.outer
  frf:∀ b∈X.fs,X.H₀ b=none
structure Inv (X:Cx) (pins:List (Addr×Obj)) (σ:List (Option V)) (H:Hp) (s:Shared):Prop where
  ok:X.Ok
  os:s.os=X.s₀.os
  bare:AllBare s.gens
  base:Un X.fs X.ex X.H₀ H X.s₀.heap s.heap
  loc:∃ m,s.heap.Ns X.env.locals m∧∀ (i:Nat) (x:Str) (v:V),X.N[i]? = some x→σ[i]? = some (some v)→Vis X.env.scope x→∃ u,RelV v u∧Look X.env s.heap m x u
  cell:∀ x c,X.env.cells.lookup x=some c→∃ v,s.heap.IsCell c v
  free:H X.env.locals=none
  freeC:∀ x c,X.env.cells.lookup x=some c→H c=none
  pin:∀ p∈X.pn ++ pins,s.heap.get? p.1=some p.2∧H p.1=none∧p.1≠X.env.locals∧p.1∉X.fs∧∀ v,p.2.data≠.cell v
  hok:HOk X.prog X.w H s.heap
  len:σ.length=X.N.length
section
variable {X:Cx} {pins:List (Addr×Obj)} {σ:List (Option V)} {H H':Hp} {s:Shared} {h':Heap}
theorem Cx.Ok.nofr (ok:X.Ok) {b:Addr} {o:Obj} (e:X.base.get? b=some o):b∉X.fs:=fun hb=>by
  have:=(ok.funs.mem hb).1
  rw [e] at this; cases this
theorem Inv.bs (I:Inv X pins σ H s):∀ b o,X.base.get? b=some o→s.heap.get? b=some o∧H b=none:=fun b o e =>
  ⟨I.base.keep b o (I.ok.bs b o e).1 (I.ok.bs b o e).2 (I.ok.nofr e) (I.ok.noex b o e),I.base.free b o (I.ok.bs b o e).1 (I.ok.bs b o e).2 (I.ok.noex b o e)⟩
theorem Inv.bk (I:Inv X pins σ H s):∀ b o,X.base.get? b=some o→s.heap.get? b=some o:=fun b o e=>(I.bs b o e).1
theorem Inv.mod (I:Inv X pins σ H s):Mod X.K X.mg X.base:=I.ok.mod
theorem Inv.kIn (I:Inv X pins σ H s):X.K.In s.heap:=I.ok.mod.kin.keeps I.bk
theorem Inv.lt (I:Inv X pins σ H s):X.env.locals < s.heap.objs.size:=let ⟨_,hn,_⟩:=I.loc; hn.lt
theorem Inv.sz (I:Inv X pins σ H s):X.s₀.heap.objs.size≤s.heap.objs.size:=Nat.le_trans I.ok.above (Nat.le_of_lt I.lt)
theorem Inv.nofs (I:Inv X pins σ H s) {a:Addr} (h:s.heap.objs.size≤a):a∉X.fs:=fun hb=>by
  obtain ⟨_,o,ho,_⟩:=I.ok.funs.mem hb
  exact absurd (Nat.lt_of_lt_of_le (Heap.lt_size ho) (Nat.le_trans I.sz h)) (Nat.lt_irrefl _)
theorem Inv.cne (I:Inv X pins σ H s):∀ x c,X.env.cells.lookup x=some c→c≠X.env.locals:=fun x c e z=>by
  obtain ⟨v,o,ho,hd⟩:=I.cell x c e
  obtain ⟨m,⟨o',es,ep,ho',hd',_⟩,_⟩:=I.loc
  rw [z,ho'] at ho; cases ho; rw [hd'] at hd; cases hd
theorem Inv.funs (I:Inv X pins σ H s):s.heap.FunFrames X.base X.outer:=by
  have all:∀ (l:List Env),(∀ b∈frs l,b∈X.fs)→X.s₀.heap.FunFrames X.base l→s.heap.FunFrames X.base l:=by
    intro l
    induction l with
    | nil=>intro _ _; trivial
    | cons env r ih =>
      intro hs hl
      obtain ⟨hk,⟨L,o,hf,hn,ho,hd⟩,hr⟩:=hl
      have hL:L∈X.fs:=hs L (by unfold frs; rw [List.filterMap_cons,hf]; exact List.mem_cons_self)
      obtain ⟨sl,e⟩:=I.base.slot L o ho (I.ok.frf L hL) hL fun z=>I.ok.exfs L z hL
      exact ⟨hk,⟨L,_,hf,hn,e,hd⟩,ih (fun b hb=>hs b (by unfold frs; rw [List.filterMap_cons,hf]; exact List.mem_cons_of_mem _ hb)) hr⟩
  exact all X.outer (fun _ hb=>hb) I.ok.funs
theorem Inv.stack (I:Inv X pins σ H s):s.heap.FunFrames X.base X.stack:=by
  rcases I.ok.stk with e | ⟨e,hf⟩
  · rw [e]; exact I.funs
  · rw [e]
    obtain ⟨m,hn,_⟩:=I.loc
    refine .cons (by rw [I.ok.kind]; decide) hf hn ?_ I.funs
    exact Heap.get?_none_of_le (Nat.le_trans I.ok.bsz I.ok.above)
theorem Inv.stkSub (I:Inv X pins σ H s):∀ b∈frs X.stack,b∈X.env.locals :: X.fs:=fun b hb=>by
  rcases I.ok.stk with e | ⟨e,hf⟩
  · rw [e] at hb; exact List.mem_cons_of_mem _ hb
  · rw [e] at hb
    unfold frs at hb
    rw [List.filterMap_cons,hf] at hb
    exact hb
theorem Inv.stkFree (I:Inv X pins σ H s):∀ b∈frs X.stack,H b=none:=fun b hb=>by
  rcases List.mem_cons.mp (I.stkSub b hb) with e | hb
  · rw [e]; exact I.free
  · obtain ⟨_,o,ho,_⟩:=I.ok.funs.mem hb
    exact I.base.free b o ho (I.ok.frf b hb) fun z=>I.ok.exfs b z hb
theorem Inv.step {g':Array GenState} {t':Nat} {d':Drawn} {ch:List Addr} (I:Inv X pins σ H s)
    (hch:∀ b∈ch,(b∈X.ex∨X.s₀.heap.objs.size≤b)∧b≠X.env.locals∧(∀ x c,X.env.cells.lookup x=some c→c≠b)∧∀ p∈X.pn ++ pins,p.1≠b)
    (keep:∀ b o,b≠X.env.locals→b∉X.fs→b∉ch→s.heap.get? b=some o→H b=none→h'.get? b=some o)
    (slot:∀ b o,b≠X.env.locals→b∈X.fs→b∉ch→s.heap.get? b=some o→H b=none→∃ sl,h'.get? b=some { o with slots:=sl }) (free:∀ b o,b∉ch→s.heap.get? b=some o→H b=none→H' b=none)
    (there:∀ b o,b∉ch→s.heap.get? b=some o→∃ o',h'.get? b=some o')
    (tups:∀ b xs,H b=some (.tup xs)→H' b=some (.tup xs)) (frzs:∀ b o u,H b=some (.frz o u)→H' b=some (.frz o u)) (tbls:∀ b ps,H b=some (.tbl ps)→∃ more,H' b=some (.tbl (ps ++ more)))
    (ns:∀ m,s.heap.Ns X.env.locals m→h'.Ns X.env.locals m) (hok:HOk X.prog X.w H' h') (hg:AllBare g') :
    Inv X pins σ H' { s with heap:=h',gens:=g',drawn:=d',toks:=t' }:=by
  have neL:∀ b o,X.s₀.heap.get? b=some o→b≠X.env.locals:=fun b o e=>Nat.ne_of_lt (Nat.lt_of_lt_of_le (Heap.lt_size e) I.ok.above)
  have neC:∀ b o,X.s₀.heap.get? b=some o→b∉X.ex→b∉ch:=fun b o e hx hb=>by
    rcases (hch b hb).1 with z | z
    · exact hx z
    · exact absurd (Nat.lt_of_lt_of_le (Heap.lt_size e) z) (Nat.lt_irrefl _)
  have cellK:∀ x c,X.env.cells.lookup x=some c→∀ v,s.heap.IsCell c v→h'.IsCell c v:=fun x c e v ⟨o,ho,hd⟩=>by
    have nch:c∉ch:=fun z=>(hch c z).2.2.1 x c e rfl
    by_cases hc:c∈X.fs
    · obtain ⟨sl,q⟩:=slot c o (I.cne x c e) hc nch ho (I.freeC x c e)
      exact ⟨_,q,hd⟩
    · exact ⟨o,keep c o (I.cne x c e) hc nch ho (I.freeC x c e),hd⟩
  refine ⟨I.ok,I.os,hg,⟨fun b o e n hb hx=>?_,fun b o e n hb hx=>?_,fun b o e n hx=>?_,fun b o e hx=>?_,fun b xs e=>tups b xs (I.base.tups b xs e),fun b o xs e=>frzs b o xs (I.base.frzs b o xs e),fun b ps e=>?_⟩,?_,fun x c e=>?_,?_,fun x c e=>?_,fun p hp=>?_,hok,I.len⟩
  · exact keep b o (neL b o e) hb (neC b o e hx) (I.base.keep b o e n hb hx) (I.base.free b o e n hx)
  · obtain ⟨sl,e1⟩:=I.base.slot b o e n hb hx
    obtain ⟨sl',e2⟩:=slot b _ (neL b o e) hb (neC b o e hx) e1 (I.base.free b o e n hx)
    exact ⟨sl',e2⟩
  · obtain ⟨o',e1⟩:=I.base.there b o e hx
    exact free b o' (neC b o e hx) e1 (I.base.free b o e n hx)
  · obtain ⟨o',e1⟩:=I.base.there b o e hx
    exact there b o' (neC b o e hx) e1
  · obtain ⟨m1,e1⟩:=I.base.tbls b ps e
    obtain ⟨m2,e2⟩:=tbls b _ e1
    exact ⟨m1 ++ m2,by rw [e2,Array.append_assoc]⟩
  · obtain ⟨m,hn,hl⟩:=I.loc
    refine ⟨m,ns m hn,fun i x v e1 e2 e3=>?_⟩
    obtain ⟨u,r,l⟩:=hl i x v e1 e2 e3
    refine ⟨u,r,?_⟩
    rcases l with l | ⟨k,c,e,z⟩
    · exact .inl l
    · exact .inr ⟨k,c,e,cellK x c e _ z⟩
  · obtain ⟨v,z⟩:=I.cell x c e
    exact ⟨v,cellK x c e v z⟩
  · obtain ⟨m,⟨o,_,_,ho,_⟩,_⟩:=I.loc
    exact free _ o (fun z=>(hch _ z).2.1 rfl) ho I.free
  · obtain ⟨v,o,ho,hd⟩:=I.cell x c e
    exact free c o (fun z=>(hch c z).2.2.1 x c e rfl) ho (I.freeC x c e)
  · obtain ⟨e,n,ne,nf,d⟩:=I.pin p hp
    have nch:p.1∉ch:=fun z=>(hch p.1 z).2.2.2 p hp rfl
    exact ⟨keep p.1 p.2 ne nf nch e n,free p.1 p.2 nch e n,ne,nf,d⟩
theorem Inv.un {t':Nat} (I:Inv X pins σ H s) (u:Un X.fs [] H H' s.heap h') (hok:HOk X.prog X.w H' h'):Inv X pins σ H' { s with heap:=h',toks:=t' }:=by
  obtain ⟨m,⟨o,es,ep,ho,r⟩,_⟩:=id I.loc
  obtain ⟨sl,hL⟩:=u.any ho I.free (by simp)
  exact I.step (g':=s.gens) (d':=s.drawn) (ch:=[]) (fun _ z=>nomatch z) (fun b o _ hb _ e n=>u.keep b o e n hb (by simp)) (fun b o _ hb _ e n=>u.slot b o e n hb (by simp)) (fun b o _ e n=>u.free b o e n (by simp)) (fun b o _ e=>u.there b o e (by simp)) u.tups u.frzs u.tbls (fun m' hm=>by
    obtain ⟨o',es',ep',ho',r'⟩:=hm
    rw [ho] at ho'; cases ho'
    exact ⟨_,es',ep',hL,r'⟩) hok I.bare
theorem Inv.call {g':Array GenState} {t':Nat} {d':Drawn} {ch:List Addr} (I:Inv X pins σ H s) (u:Un (frs X.stack) ch H H' s.heap h') (hok:HOk X.prog X.w H' h') (hg:AllBare g')
    (hch:∀ b∈ch,(b∈X.ex∨X.s₀.heap.objs.size≤b)∧b≠X.env.locals∧(∀ x c,X.env.cells.lookup x=some c→c≠b)∧∀ p∈X.pn ++ pins,p.1≠b) :
    Inv X pins σ H' { s with heap:=h',gens:=g',drawn:=d',toks:=t' }:=by
  obtain ⟨m,⟨o,es,ep,ho,r⟩,_⟩:=id I.loc
  obtain ⟨sl,hL⟩:=u.any ho I.free fun z=>(hch _ z).2.1 rfl
  exact I.step (ch:=ch) hch (fun b o hL hb hc e n=>u.keep b o e n (fun z=>(List.mem_cons.mp (I.stkSub b z)).elim hL hb) hc) (fun b o _ _ hc e n=>u.any e n hc) (fun b o hc e n=>u.free b o e n hc) (fun b o hc e=>u.there b o e hc) u.tups u.frzs u.tbls (fun m' hm=>by
    obtain ⟨o',es',ep',ho',r'⟩:=hm
    rw [ho] at ho'; cases ho'
    exact ⟨_,es',ep',hL,r'⟩) hok hg
theorem Inv.turned {t':Nat} {it:Addr} (I:Inv X pins σ H s) (k:∀ b o,b≠it→s.heap.get? b=some o→h'.get? b=some o) (hn:H it=none) (hL:it≠X.env.locals)
    (h1:it∈X.ex∨X.s₀.heap.objs.size≤it) (h2:∀ x c,X.env.cells.lookup x=some c→c≠it) (h3:∀ p∈X.pn ++ pins,p.1≠it):Inv X pins σ H { s with heap:=h',toks:=t' }:=by
  have nit:∀ b u,H b=some u→b≠it:=fun b u e z=>by rw [z,hn] at e; cases e
  refine I.step (g':=s.gens) (d':=s.drawn) (ch:=[it]) (fun b hb=>?_) (fun b o _ _ hc e _=>k b o (fun z=>hc (by simp [z])) e) (fun b o _ _ hc e _=>⟨o.slots,k b o (fun z=>hc (by simp [z])) e⟩) (fun _ _ _ _ n=>n)
    (fun b o hc e=>⟨o,k b o (fun z=>hc (by simp [z])) e⟩) (fun _ _ e=>e) (fun _ _ _ e=>e) (fun b ps e=>⟨#[],by rw [e]; simp⟩) (fun m hm=>?_) (fun b u e=>?_) I.bare
  · have e:b=it:=by simpa using hb
    subst e
    exact ⟨h1,hL,h2,h3⟩
  · obtain ⟨o,es,ep,ho,r⟩:=hm
    exact ⟨o,es,ep,k _ o (Ne.symm hL) ho,r⟩
  · refine (I.hok b u e).stay (fun c v hc q=>k c v ?_ q) (fun _ q=>q) fun _ _ q=>q
    rcases hc with z | z
    · rw [z]; exact nit b u e
    · exact nit c _ z
theorem Inv.tok (I:Inv X pins σ H s) (t:Nat):Inv X pins σ H { s with toks:=t }:=I.un (h':=s.heap) (t':=t) Un.refl I.hok
theorem Inv.kept {t':Nat} (I:Inv X pins σ H s) (k:∀ b u,s.heap.get? b=some u→h'.get? b=some u):Inv X pins σ H { s with heap:=h',toks:=t' }:=I.un (Un.kept k) (I.hok.kept k)
theorem Inv.laid {a:Addr} {o:HO} {t':Nat} (I:Inv X pins σ H s) (k:∀ b u,s.heap.get? b=some u→h'.get? b=some u) (hp:s.heap.objs.size≤a) (new:ObjOk X.prog X.w (upd H a o) h' a o) :
    Inv X pins σ (upd H a o) { s with heap:=h',toks:=t' }:=I.un (Un.laid k hp (I.hok.fresh hp)) (I.hok.laid k hp new)
theorem Inv.write {x e:Addr} {o:HO} {t':Nat} (I:Inv X pins σ H s) (mu:Mut (H x)) (he:e=x∨H e=some (.own x)) (k:∀ b u,b≠e→s.heap.get? b=some u→h'.get? b=some u) (heo:∃ u,h'.get? e=some u)
    (new:ObjOk X.prog X.w (upd H x o) h' x o):Inv X pins σ (upd H x o) { s with heap:=h',toks:=t' }:=I.un (Un.write mu he k heo) (I.hok.write mu he k heo new)
theorem Inv.pins_of {pins':List (Addr×Obj)} (I:Inv X pins σ H s) (h:∀ p∈pins',s.heap.get? p.1=some p.2∧H p.1=none∧p.1≠X.env.locals∧p.1∉X.fs∧∀ v,p.2.data≠.cell v):Inv X pins' σ H s :=
  ⟨I.ok,I.os,I.bare,I.base,I.loc,I.cell,I.free,I.freeC,fun p hp=>(List.mem_append.mp hp).elim (fun z=>I.pin p (List.mem_append_left _ z)) (h p),I.hok,I.len⟩
theorem nodup_ix {N:List Str} (hN:N.Nodup) {i j:Nat} {x:Str} (a:N[i]? = some x) (b:N[j]? = some x):i=j:=by
  obtain ⟨h1,e1⟩:=List.getElem?_eq_some_iff.mp a
  obtain ⟨h2,e2⟩:=List.getElem?_eq_some_iff.mp b
  exact (List.getElem_inj hN).mp (e1.trans e2.symm)
theorem store_ok2 {M:Model} {A:Around} {E:Value→Shared→Prop} {i:Nat} {x:Str} {v:V} {u:Value} {Q:Unit→Shared→Prop} (I:Inv X pins σ H s) (hN:X.N.Nodup) (hi:X.N[i]? = some x) (hx:Loc X.env.scope x) (r:RelV v u)
    (h:∀ s',Inv X pins (σ.set i (some v)) H s'→(∃ a,Heap.SameBut a s.heap s'.heap∧(a=X.env.locals∨X.env.cells.lookup x=some a))→Q () s') (hf:X.fn x=true∨X.env.scope.names.lookup x=some .local:=by first | exact .inl rfl | exact .inr rfl | assumption):wpAny M A (storeName X.env x u) Q E s:=by
  obtain ⟨m,hn,hl⟩:=id I.loc
  have hcls:(X.env.scope.kind == .class || (X.env.scope.kind == .module && X.env.locals != X.env.globals))=false:=by rw [I.ok.kind]; rfl
  have hiσ:i < σ.length:=by rw [I.len]; exact (List.getElem?_eq_some_iff.mp hi).1
  have cne:=I.cne
  have tracked:∀ {a:Addr} {h':Heap},(∃ o,s.heap.get? a=some o∧H a=none)→Heap.SameBut a s.heap h'→HOk X.prog X.w H h':=fun {a h'} ha hs b ob e=>by
    obtain ⟨_,_,hfree⟩:=ha
    refine (I.hok b ob e).stay (fun c w' hc q=>(hs.2 c ?_).trans q) (fun _ q=>q) fun _ _ q=>q
    rintro rfl
    rcases hc with rfl | hc
    · rw [hfree] at e; cases e
    · rw [hfree] at hc; cases hc
  rcases hx with hk | hk
  · refine wpAny_storeName_local hk hn (fun h' hn' hs=>?_) hcls
    obtain ⟨oL,_,_,hoL,_⟩:=id hn
    refine h _ ⟨I.ok,I.os,I.bare,⟨fun b o e n hb hx=>?_,fun b o e n hb hx=>?_,I.base.free,fun b o e hx=>?_,I.base.tups,I.base.frzs,I.base.tbls⟩,⟨_,hn',fun j y v' e1 e2 e3=>?_⟩,fun y c e=>?_,I.free,I.freeC,fun p hp=>?_,tracked ⟨oL,hoL,I.free⟩ hs,by simpa using I.len⟩ ⟨_,hs,.inl rfl⟩
    · exact (hs.2 b (Nat.ne_of_lt (Nat.lt_of_lt_of_le (Heap.lt_size e) I.ok.above))).trans (I.base.keep b o e n hb hx)
    · obtain ⟨sl,e1⟩:=I.base.slot b o e n hb hx
      exact ⟨sl,(hs.2 b (Nat.ne_of_lt (Nat.lt_of_lt_of_le (Heap.lt_size e) I.ok.above))).trans e1⟩
    · obtain ⟨o',e1⟩:=I.base.there b o e hx
      exact ⟨o',(hs.2 b (Nat.ne_of_lt (Nat.lt_of_lt_of_le (Heap.lt_size e) I.ok.above))).trans e1⟩
    · by_cases hj:j=i
      · subst hj
        rw [hi] at e1; cases e1
        rw [List.getElem?_set_self hiσ] at e2
        cases e2
        exact ⟨u,r,.inl ⟨hk,by simp⟩⟩
      · rw [List.getElem?_set_ne (Ne.symm hj)] at e2
        obtain ⟨u',r',q⟩:=hl j y v' e1 e2 e3
        refine ⟨u',r',?_⟩
        rcases q with ⟨k,e⟩ | ⟨k,c,e,z⟩
        · refine .inl ⟨k,?_⟩
          have:y≠x:=fun e=>hj (nodup_ix hN e1 (e ▸ hi))
          simp [this,e]
        · exact .inr ⟨k,c,e,z.sameBut hs (cne y c e)⟩
    · obtain ⟨w',z⟩:=I.cell y c e
      exact ⟨w',z.sameBut hs (cne y c e)⟩
    · obtain ⟨e,n,ne,nf,d⟩:=I.pin p hp
      exact ⟨(hs.2 p.1 ne).trans e,n,ne,nf,d⟩
  · have hfn:X.fn x=true:=by
      rcases hf with z | z
      · exact z
      · rw [z] at hk; cases hk
    obtain ⟨c,hc⟩:=I.ok.has x (.inl hk)
    obtain ⟨w',z⟩:=I.cell x c hc
    refine wpAny_storeName_cell I.ok.kind hk hc z (fun h' hc' hs=>?_)
    obtain ⟨oc,hoc,hocd⟩:=id z
    refine h { s with heap:=h' } ⟨I.ok,I.os,I.bare,⟨fun b o e n hb hx=>?_,fun b o e n hb hx=>?_,I.base.free,fun b o e hx=>?_,I.base.tups,I.base.frzs,I.base.tbls⟩,⟨m,hn.sameBut hs (Ne.symm (cne x c hc)),fun j y v' e1 e2 e3=>?_⟩,fun y c' e=>?_,I.free,I.freeC,fun p hp=>?_,tracked ⟨oc,hoc,I.freeC x c hc⟩ hs,by simpa using I.len⟩ ⟨c,hs,.inr hc⟩
    · exact (hs.2 b (Nat.ne_of_lt (Nat.lt_of_lt_of_le (Heap.lt_size e) (I.ok.cab x c hfn hc)))).trans (I.base.keep b o e n hb hx)
    · obtain ⟨sl,e1⟩:=I.base.slot b o e n hb hx
      exact ⟨sl,(hs.2 b (Nat.ne_of_lt (Nat.lt_of_lt_of_le (Heap.lt_size e) (I.ok.cab x c hfn hc)))).trans e1⟩
    · obtain ⟨o',e1⟩:=I.base.there b o e hx
      exact ⟨o',(hs.2 b (Nat.ne_of_lt (Nat.lt_of_lt_of_le (Heap.lt_size e) (I.ok.cab x c hfn hc)))).trans e1⟩
    · by_cases hj:j=i
      · subst hj
        rw [hi] at e1; cases e1
        rw [List.getElem?_set_self hiσ] at e2
        cases e2
        exact ⟨u,r,.inr ⟨.inl hk,c,hc,hc'⟩⟩
      · rw [List.getElem?_set_ne (Ne.symm hj)] at e2
        obtain ⟨u',r',q⟩:=hl j y v' e1 e2 e3
        refine ⟨u',r',?_⟩
        rcases q with q | ⟨k,c',e,z'⟩
        · exact .inl q
        · refine .inr ⟨k,c',e,z'.sameBut hs ?_⟩
          rintro rfl
          exact hj (nodup_ix hN e1 (I.ok.inj _ _ _ e hc ▸ hi))
    · by_cases hcc:c'=c
      · subst hcc; exact ⟨_,hc'⟩
      · obtain ⟨w2,z2⟩:=I.cell y c' e
        exact ⟨w2,z2.sameBut hs hcc⟩
    · obtain ⟨e,n,ne,nf,d⟩:=I.pin p hp
      refine ⟨(hs.2 p.1 ?_).trans e,n,ne,nf,d⟩
      intro q
      rw [q,hoc] at e
      have q':oc=p.2:=Option.some.inj e
      exact d w' (by rw [← q']; exact hocd)
theorem qga {M:Model} {A:Around} {E:Value→Shared→Prop} {i:Nat} {x:Str} {v:V} {u:Value} {Q:Unit→Shared→Prop} (I:Inv X pins σ H s) (hN:X.N.Nodup) (hi:X.N[i]? = some x) (hx:Loc X.env.scope x) (r:RelV v u)
    (h:∀ s',Inv X pins (σ.set i (some v)) H s'→Q () s') (hf:X.fn x=true∨X.env.scope.names.lookup x=some .local:=by first | exact .inl rfl | exact .inr rfl | assumption):wpAny M A (storeName X.env x u) Q E s :=
  store_ok2 I hN hi hx r (fun s' I' _=>h s' I') hf
theorem Inv.call' {s':Shared} {ch:List Addr} (I:Inv X pins σ H s) (ho:s'.os=s.os) (u:Un (frs X.stack) ch H H' s.heap s'.heap) (hok:HOk X.prog X.w H' s'.heap) (hg:AllBare s'.gens)
    (hch:∀ b∈ch,(b∈X.ex∨X.s₀.heap.objs.size≤b)∧b≠X.env.locals∧(∀ x c,X.env.cells.lookup x=some c→c≠b)∧∀ p∈X.pn ++ pins,p.1≠b):Inv X pins σ H' s':=by
  obtain ⟨h',g',d',t',o'⟩:=s'
  have e:o'=s.os:=ho
  subst e
  exact I.call (g':=g') (t':=t') (d':=d') u hok hg hch
end
abbrev XK:=Value→Option Addr→Hp→Prop
abbrev St:=List (Option V)
abbrev VK:=V→Hp→Prop
abbrev TE:=St→Hp→VK→Prop
abbrev TT:=St→Hp→(Bool→Hp→Prop)→Prop
abbrev TA:=St→Hp→(List V→Hp→Prop)→Prop
structure Ends where
  nx:St→Hp→Prop
  rt:VK
  bk:St→Hp→Prop:=fun _ _=>False
  ct:St→Hp→Prop:=fun _ _=>False
abbrev TS:=Ends→St→Hp→Prop
def EP (X:Cx) (pins:List (Addr×Obj)) (σ:St) (Q:VK) (u:Value) (s':Shared):Prop:=∃ v H',Inv X pins σ H' s'∧RelV v u∧Q v H'
def TP (X:Cx) (pins:List (Addr×Obj)) (σ:St) (Q:Bool→Hp→Prop) (b:Bool) (s':Shared):Prop:=∃ H',Inv X pins σ H' s'∧Q b H'
def AP (X:Cx) (pins:List (Addr×Obj)) (σ:St) (Q:List V→Hp→Prop) (us:List Value) (s':Shared):Prop:=∃ vs H',Inv X pins σ H' s'∧Vals vs us∧Q vs H'
def SP (X:Cx) (pins:List (Addr×Obj)) (D:Ends) (f:Flow) (s':Shared):Prop :=
  match f with
  | .next=>∃ σ' H',Inv X pins σ' H' s'∧D.nx σ' H'
  | .brk=>∃ σ' H',Inv X pins σ' H' s'∧D.bk σ' H'
  | .cont=>∃ σ' H',Inv X pins σ' H' s'∧D.ct σ' H'
  | .ret u=>∃ v σ' H',Inv X pins σ' H' s'∧RelV v u∧D.rt v H'
def PE (X:Cx) (e:Expr) (t:TE):Prop :=
  ∀ (pins:List (Addr×Obj)) (s:Shared) (σ:St) (H:Hp) (Q:VK),Inv X pins σ H s→t σ H Q→wpAny (model X.prog X.w) X.A (eval e X.env) (EP X pins σ Q) X.xe s
def PT (X:Cx) (e:Expr) (t:TT):Prop :=
  ∀ (pins:List (Addr×Obj)) (s:Shared) (σ:St) (H:Hp) (Q:Bool→Hp→Prop),Inv X pins σ H s→t σ H Q→wpAny (model X.prog X.w) X.A (isTrue e X.env (eval e X.env)) (TP X pins σ Q) X.xe s
def PW (X:Cx) (e:Expr) (t:TT):Prop :=
  ∀ (whole:Sem Value) (pins:List (Addr×Obj)) (s:Shared) (σ:St) (H:Hp) (Q:Bool→Hp→Prop),Inv X pins σ H s→t σ H Q→wpAny (model X.prog X.w) X.A (isTrue e X.env whole) (TP X pins σ Q) X.xe s
theorem PW.pt {X:Cx} {e:Expr} {t:TT} (h:PW X e t):PT X e t:=h _
def PA (X:Cx) (es:List Expr) (t:TA):Prop :=
  ∀ (pos:Pos) (pins:List (Addr×Obj)) (s:Shared) (σ:St) (H:Hp) (Q:List V→Hp→Prop),Inv X pins σ H s→t σ H Q→wpAny (model X.prog X.w) X.A (spliced (backTo pos (starEach es X.env))) (AP X pins σ Q) X.xe s
def PS (X:Cx) (st:Stmt) (t:TS):Prop :=
  ∀ (pins:List (Addr×Obj)) (s:Shared) (σ:St) (H:Hp) (D:Ends),Inv X pins σ H s→t D σ H→wpAny (model X.prog X.w) X.A (exec st X.env) (SP X pins D) X.xe s
def PSs (X:Cx) (st:List Stmt) (t:TS):Prop :=
  ∀ (pins:List (Addr×Obj)) (s:Shared) (σ:St) (H:Hp) (D:Ends),Inv X pins σ H s→t D σ H→wpAny (model X.prog X.w) X.A (execs st X.env) (SP X pins D) X.xe s
theorem thn {α:Type} {t:Sem α} {Q Q':α→Shared→Prop} {M:Model} {A:Around} {E:Value→Shared→Prop} {s:Shared} (h:wpAny M A t Q E s) (hQ:∀ a s,Q a s→Q' a s):wpAny M A t Q' E s:=wpAny_mono h hQ fun _ _ x=>x
end L2
namespace L2
open PySem PySem.Spec PyProof.Rows
section
variable {X:Cx}
theorem bin {a b:Expr} {ta tb:TE} (ha:PE X a ta) (hb:PE X b tb) {pins:List (Addr×Obj)} {s:Shared} {σ:St} {H:Hp} {R:V→V→Hp→Prop} (I:Inv X pins σ H s) (h:ta σ H fun x H1=>tb σ H1 fun y H2=>R x y H2)
    {α:Type} {Q:α→Shared→Prop} {f:Value→Value→Sem α}
    (hf:∀ v u s2 x y H2,Inv X pins σ H2 s2→RelV x v→RelV y u→R x y H2→wpAny (model X.prog X.w) X.A (f v u) Q X.xe s2) :
    wpAny (model X.prog X.w) X.A (eval a X.env) (fun v s₁=>wpAny (model X.prog X.w) X.A (eval b X.env) (fun u s₂=>wpAny (model X.prog X.w) X.A (f v u) Q X.xe s₂) X.xe s₁) X.xe s:=by
  refine thn (ha pins s σ H _ I h) fun v s1 ⟨x,H1,I1,r1,q1⟩=>?_
  refine thn (hb pins s1 σ H1 _ I1 q1) fun u s2 ⟨y,H2,I2,r2,q2⟩=>?_
  exact hf v u s2 x y H2 I2 r1 r2 q2
def tVar (i:Nat):TE:=fun σ H Q=>∃ v,σ[i]? = some (some v)∧Q v H
def tC (v:V):TE:=fun _ H Q=>Q v H
theorem pe_var {i:Nat} {x:Str} {pos:Pos} (hN:X.N[i]? = some x) (hv:Vis X.env.scope x) (hd:(x == ("__debug__":Str))=false:=by decide) (hcd:(x == ("__classdict__":Str))=false:=by decide):PE X (.Name x pos) (tVar i):=by
  intro pins s σ H Q I h
  obtain ⟨v,e,h⟩:=h
  obtain ⟨m,hn,hl⟩:=I.loc
  obtain ⟨u,r,l⟩:=hl i x v hN e hv
  have fin:EP X pins σ Q u s:=⟨v,H,I,r,h⟩
  rcases l with ⟨hk,hm⟩ | ⟨hk,c,hc,hcell⟩
  · exact wpAny_Name (wpAny_loadName_local I.ok.kind hk hn hm fin) hd
  · rcases hk with hk | hk
    · exact wpAny_Name (wpAny_loadName_cell I.ok.kind hk hc hcell fin) hd
    · exact wpAny_Name (wpAny_loadName_free I.ok.kind hk hc hcell fin hcd) hd
theorem pe_int {i j pos}:PE X (.Constant (.int i) j pos) (tC (.int i)):=fun _ _ _ H _ I h=>wpAny_Constant_int ⟨.int i,H,I.tok _,⟨_,rfl⟩,h⟩
theorem pe_bl {b j pos}:PE X (.Constant (.bool b) j pos) (tC (.bl b)):=fun _ _ _ H _ I h=>Constant_bool ⟨.bl b,H,I,rfl,h⟩
theorem pe_non {j pos}:PE X (.Constant .none j pos) (tC .non):=fun _ _ _ H _ I h=>Constant_none ⟨.non,H,I,rfl,h⟩
theorem pe_str {x j pos}:PE X (.Constant (.str x) j pos) (tC (.str x)):=fun _ _ _ H _ I h=>Calls.Constant_str ⟨.str x,H,I.tok _,⟨_,rfl⟩,h⟩
def Gl (X:Cx) (x:Str):Prop:=X.env.kindOf x=some .globalImplicit
theorem qfh {E:Value→Shared→Prop} {pins:List (Addr×Obj)} {s:Shared} {σ:St} {H:Hp} {x:Str} {u:Value} {pos:Pos} {Q:Value→Shared→Prop} (I:Inv X pins σ H s) (hg:Gl X x) (hm:X.mg x=some u) (h:Q u s)
    (hd:(x == ("__debug__":Str))=false:=by decide):wpAny (model X.prog X.w) X.A (eval (.Name x pos) X.env) Q E s :=
  Calls.Name_function_global I.ok.kind hg (Calls.loadGlobal_global (by rw [I.ok.glob]; exact I.mod.glob.keeps I.bk) hm h) hd
theorem qej {E:Value→Shared→Prop} {pins:List (Addr×Obj)} {s:Shared} {σ:St} {H:Hp} {x:Str} {u:Value} {pos:Pos} {Q:Value→Shared→Prop} (I:Inv X pins σ H s) (hg:Gl X x) (hm:X.mg x=none) (hv:bootBuiltins x=some u) (h:Q u s)
    (hn:x≠"__name__":=by decide) (hd:(x == ("__debug__":Str))=false:=by decide):wpAny (model X.prog X.w) X.A (eval (.Name x pos) X.env) Q E s:=by
  obtain ⟨mb,h1,h2⟩:=I.mod.blt
  exact Calls.Name_function_global I.ok.kind hg (Calls.loadGlobal_builtin (by rw [I.ok.glob]; exact I.mod.glob.keeps I.bk) hm (by rw [I.ok.blt]; exact h1.keeps I.bk) ((h2 x hn).trans hv) h) hd
theorem qgk {x:Str} {v:V} {u:Value} {pos:Pos} (hg:Gl X x) (hm:X.mg x=some u) (r:RelV v u) (hd:(x == ("__debug__":Str))=false:=by decide):PE X (.Name x pos) (tC v) :=
  fun _ _ _ H _ I h=>qfh I hg hm ⟨v,H,I,r,h⟩ hd
theorem pe_bltn {x:Str} {v:V} {u:Value} {pos:Pos} (hg:Gl X x) (hm:X.mg x=none) (hv:bootBuiltins x=some u) (r:RelV v u) (hn:x≠"__name__":=by decide) (hd:(x == ("__debug__":Str))=false:=by decide):PE X (.Name x pos) (tC v) :=
  fun _ _ _ H _ I h=>qej I hg hm hv ⟨v,H,I,r,h⟩ hn hd
variable {a b:Expr} {ta tb:TE} {pos:Pos}
def PC (X:Cx) (op:CmpOp) (a b:Expr) (t:TE):Prop :=
  ∀ (pins:List (Addr×Obj)) (s:Shared) (σ:St) (H:Hp) (Q:VK),Inv X pins σ H s→t σ H Q →
    wpAny (model X.prog X.w) X.A (eval a X.env) (fun v s₁=>wpAny (model X.prog X.w) X.A (eval b X.env) (fun u s₂=>wpAny (model X.prog X.w) X.A (compareOp op v u) (EP X pins σ Q) X.xe s₂) X.xe s₁) X.xe s
def tB (t:TE):TT:=fun σ H Q=>t σ H fun x H1=>∃ c,x=.bl c∧Q c H1
theorem pt_cmp {op:CmpOp} {t:TE} (h:PC X op a b t) (h1:behindInMarks op b=false:=by first | exact nobehind _ (by decide) (by decide) | rfl):PT X (.Compare a [op] [b] pos) (tB t):=by
  intro pins s σ H Q I hw
  refine wpAny_isTrue_Compare1 (thn (h pins s σ H _ I hw) fun v s1 h1=>thn h1 fun u s2 h2=>thn h2 fun c s3 ⟨x,H1,I1,r1,q1⟩=>?_) h1
  obtain ⟨d,rfl,q⟩:=q1
  cases r1
  exact wpAny_truthy_bool ⟨H1,I1,q⟩
theorem pt_val {e:Expr} {t:TE} (h:PE X e t) (he:∀ whole,isTrue e X.env whole=(do let v ← whole; standAt e.pos; holding [v] (truthy v)):=by intro _; rfl):PT X e (tB t):=by
  intro pins s σ H Q I hw
  refine isTrue_plain (thn (h pins s σ H _ I hw) fun v s1 ⟨x,H1,I1,r1,q1⟩=>?_) (he _)
  obtain ⟨d,rfl,q⟩:=q1
  cases r1
  exact wpAny_truthy_bool ⟨H1,I1,q⟩
variable {tA tB':TT} {rest:List Expr}
def tAnd (t u:TT):TT:=fun σ H Q=>t σ H fun c H1=>if c=true then u σ H1 Q else Q false H1
def tOr (t u:TT):TT:=fun σ H Q=>t σ H fun c H1=>if c=true then Q true H1 else u σ H1 Q
def tNot (t:TT):TT:=fun σ H Q=>t σ H fun c H1=>Q (!c) H1
theorem pw_and1 (ha:PT X a tA):PW X (.BoolOp .And [a] pos) tA:=by
  intro wh pins s σ H Q I h
  refine isTrue_and (thn (ha pins s σ H Q I h) fun c s1 e=>?_)
  cases c with
  | true=>exact isTrue_and_nil e
  | false=>exact e
theorem pw_or1 (ha:PT X a tA):PW X (.BoolOp .Or [a] pos) tA:=by
  intro wh pins s σ H Q I h
  refine isTrue_or (thn (ha pins s σ H Q I h) fun c s1 e=>?_)
  cases c with
  | false=>exact isTrue_or_nil e
  | true=>exact e
theorem pw_and (ha:PT X a tA) (hb:PW X (.BoolOp .And (b :: rest) pos) tB'):PW X (.BoolOp .And (a :: b :: rest) pos) (tAnd tA tB'):=by
  intro wh pins s σ H Q I h
  refine isTrue_and (thn (ha pins s σ H _ I h) fun c s1 ⟨H1,I1,q1⟩=>?_)
  cases c with
  | true=>exact hb wh pins s1 σ H1 Q I1 q1
  | false=>exact ⟨H1,I1,q1⟩
theorem pw_or (ha:PT X a tA) (hb:PW X (.BoolOp .Or (b :: rest) pos) tB'):PW X (.BoolOp .Or (a :: b :: rest) pos) (tOr tA tB'):=by
  intro wh pins s σ H Q I h
  refine isTrue_or (thn (ha pins s σ H _ I h) fun c s1 ⟨H1,I1,q1⟩=>?_)
  cases c with
  | true=>exact ⟨H1,I1,q1⟩
  | false=>exact hb wh pins s1 σ H1 Q I1 q1
theorem pt_not (ha:PT X a tA):PT X (.UnaryOp .Not a pos) (tNot tA):=by
  intro pins s σ H Q I h
  exact isTrue_not (ha pins s σ H (fun c H1=>Q (!c) H1) I h)
def tAndV (ta tb:TE):TE:=fun σ H Q=>ta σ H fun x H1=>∃ c,x=.bl c∧if c=true then tb σ H1 Q else Q (.bl false) H1
def tNotV (ta:TE):TE:=fun σ H Q=>ta σ H fun x H1=>∃ c,x=.bl c∧Q (.bl (!c)) H1
theorem pe_one {op} {t:TE} (h:PE X a t):PE X (.BoolOp op [a] pos) t:=fun pins s σ H Q I hw=>BoolOp_one (h pins s σ H Q I hw)
theorem pe_and (ha:PE X a ta) (hb:PE X (.BoolOp .And (b :: rest) pos) tb):PE X (.BoolOp .And (a :: b :: rest) pos) (tAndV ta tb):=by
  intro pins s σ H Q I h
  refine BoolOp_and (thn (ha pins s σ H _ I h) fun v s1 ⟨x,H1,I1,r1,q1⟩=>?_)
  obtain ⟨c,rfl,q1⟩:=q1
  cases r1
  refine wpAny_truthy_bool ?_
  cases c with
  | true=>exact hb pins s1 σ H1 Q I1 q1
  | false=>exact ⟨.bl false,H1,I1,rfl,q1⟩
theorem pe_not (ha:PE X a ta):PE X (.UnaryOp .Not a pos) (tNotV ta):=by
  intro pins s σ H Q I h
  refine UnaryOp_ (thn (ha pins s σ H _ I h) fun v s1 ⟨x,H1,I1,r1,q1⟩=>?_)
  obtain ⟨c,rfl,q1⟩:=q1
  cases r1
  exact not_of (wpAny_truthy_bool ⟨.bl (!c),H1,I1,rfl,q1⟩)
end
end L2
namespace L2
open PySem PySem.Spec PyProof.Rows
def SqL (K:PySem.W.Frag) (H:Hp) (a:Addr) (xs:List V):Prop :=
  Rd H a (.lst xs) ∨
    ∃ (o:Obj) (its:Array Value) (n:Nat),K.lookup a=some o∧o.cls=.type "list"∧o.dict=none∧o.data=.seq its n∧its.size≤sizeLine∧Vals xs its.toList
def SqT (K:PySem.W.Frag) (H:Hp) (a:Addr) (xs:List V):Prop :=
  Rd H a (.tup xs) ∨
    ∃ (o:Obj) (its:Array Value) (n:Nat),K.lookup a=some o∧o.cls=.type "tuple"∧o.data=.seq its n∧its.size≤sizeLine∧Vals xs its.toList
def absV:Value→Option V
  | .none=>some .non
  | .bool b=>some (.bl b)
  | .int i _=>some (.int i)
  | .str x _=>some (.str x)
  | .bytes b _=>some (.byt b)
  | .float b _=>some (.flt b)
  | .ref a=>some (.ref a)
  | .type n=>some (.ty n)
  | _=>none
theorem RelV.abs {x:V} {u:Value} (r:RelV x u):absV u=some x:=by
  cases x with
  | non=>cases r; rfl
  | bl _=>cases r; rfl
  | int _=>obtain ⟨t,rfl⟩:=r; rfl
  | str _=>obtain ⟨t,rfl⟩:=r; rfl
  | byt _=>obtain ⟨t,rfl⟩:=r; rfl
  | flt _=>obtain ⟨t,rfl⟩:=r; rfl
  | ref _=>cases r; rfl
  | ty _=>cases r; rfl
theorem RelV.inj {x y:V} {u:Value} (r:RelV x u) (q:RelV y u):x=y:=Option.some.inj (r.abs.symm.trans q.abs)
theorem Vals.inj:∀ {xs ys:List V} {us:List Value},Vals xs us→Vals ys us→xs=ys
  | _,_,_,.nil,.nil=>rfl
  | _,_,_,.cons r t,.cons r' t'=>by rw [r.inj r',Vals.inj t t']
section
variable {X:Cx} {pins:List (Addr×Obj)} {σ:St} {H:Hp} {s:Shared} {a:Addr} {xs ys:List V}
theorem SqL.of {K:PySem.W.Frag} (h:H a=some (.lst xs)):SqL K H a xs:=.inl (.inl h)
theorem SqT.of {K:PySem.W.Frag} (h:H a=some (.tup xs)):SqT K H a xs:=.inl (.inl h)
theorem Inv.list (I:Inv X pins σ H s) (h:SqL X.K H a xs):∃ its:List Value,Vals xs its∧PlainL s.heap a its.toArray∧xs.length≤sizeLine:=by
  rcases h with h | ⟨o,its,n,hk,hc,hd,hs,hz,r⟩
  · obtain ⟨z,its,n,r,e⟩:=h.ok I.hok
    exact ⟨its,r,⟨_,n,e,rfl,rfl,rfl⟩,z⟩
  · refine ⟨its.toList,r,⟨o,n,I.kIn a o hk,hc,hd,by simpa using hs⟩,?_⟩
    have e:=r.length
    simp only [Array.length_toList] at e
    omega
theorem Inv.tuple (I:Inv X pins σ H s) (h:SqT X.K H a xs):∃ its:List Value,Vals xs its∧IsTup s.heap a its.toArray∧xs.length≤sizeLine:=by
  rcases h with h | ⟨o,its,n,hk,hc,hs,hz,r⟩
  · obtain ⟨z,its,r,p⟩:=h.ok I.hok
    exact ⟨its,r,p.tup,z⟩
  · refine ⟨its.toList,r,⟨o,I.kIn a o hk,hc,n,by simpa using hs⟩,?_⟩
    have e:=r.length
    simp only [Array.length_toList] at e
    omega
theorem Inv.list_inj (I:Inv X pins σ H s) (h:SqL X.K H a xs) (h':SqL X.K H a ys):xs=ys:=by
  obtain ⟨its,r,⟨o,n,e,_,_,d⟩,_⟩:=I.list h
  obtain ⟨its',r',⟨o',n',e',_,_,d'⟩,_⟩:=I.list h'
  rw [e] at e'; cases e'
  rw [d] at d'
  injection d' with d1 _
  have:its=its':=by simpa using congrArg Array.toList d1
  subst this
  exact r.inj r'
theorem Inv.tuple_inj (I:Inv X pins σ H s) (h:SqT X.K H a xs) (h':SqT X.K H a ys):xs=ys:=by
  obtain ⟨its,r,⟨o,e,_,n,d⟩,_⟩:=I.tuple h
  obtain ⟨its',r',⟨o',e',_,n',d'⟩,_⟩:=I.tuple h'
  rw [e] at e'; cases e'
  rw [d] at d'
  injection d' with d1 _
  have:its=its':=by simpa using congrArg Array.toList d1
  subst this
  exact r.inj r'
end
abbrev Cx.wish (X:Cx) (E:Value→Shared→Prop):Cx:={ X with xe:=E }
abbrev Cx.nox (X:Cx):Cx:=X.wish fun _ _=>False
theorem Cx.Ok.wish {X:Cx} (ok:X.Ok) (E:Value→Shared→Prop):(X.wish E).Ok :=
  ⟨ok.mod,ok.kind,ok.glob,ok.blt,ok.above,ok.inj,ok.has,ok.cab,ok.hd,ok.frames,ok.stk,ok.exf,ok.bs,ok.bsz,ok.noex,ok.exfs,ok.funs,ok.frf⟩
theorem Cx.Ok.unwish {X:Cx} {E:Value→Shared→Prop} (ok:(X.wish E).Ok):X.Ok :=
  ⟨ok.mod,ok.kind,ok.glob,ok.blt,ok.above,ok.inj,ok.has,ok.cab,ok.hd,ok.frames,ok.stk,ok.exf,ok.bs,ok.bsz,ok.noex,ok.exfs,ok.funs,ok.frf⟩
section
variable {X:Cx} {pins:List (Addr×Obj)} {σ:St} {H:Hp} {s:Shared} {E:Value→Shared→Prop}
theorem Inv.wish (I:Inv X pins σ H s) (E:Value→Shared→Prop):Inv (X.wish E) pins σ H s:=⟨I.ok.wish E,I.os,I.bare,I.base,I.loc,I.cell,I.free,I.freeC,I.pin,I.hok,I.len⟩
theorem Inv.unwish (I:Inv (X.wish E) pins σ H s):Inv X pins σ H s:=⟨I.ok.unwish,I.os,I.bare,I.base,I.loc,I.cell,I.free,I.freeC,I.pin,I.hok,I.len⟩
theorem SP.unwish {D:Ends} {f:Flow} {s':Shared} (h:SP (X.wish E) pins D f s'):SP X pins D f s':=by
  cases f with
  | next=>obtain ⟨σ',H',I,q⟩:=h; exact ⟨σ',H',I.unwish,q⟩
  | brk=>obtain ⟨σ',H',I,q⟩:=h; exact ⟨σ',H',I.unwish,q⟩
  | cont=>obtain ⟨σ',H',I,q⟩:=h; exact ⟨σ',H',I.unwish,q⟩
  | ret u=>obtain ⟨v,σ',H',I,r,q⟩:=h; exact ⟨v,σ',H',I.unwish,r,q⟩
theorem PT.nox {e:Expr} {t:TT} (h:PT X.nox e t):PT X e t:=fun pins s σ H Q I hw =>
  wpAny_mono (h pins s σ H Q (I.wish _) hw) (fun _ _ ⟨H',I',q⟩=>⟨H',I'.unwish,q⟩) fun _ _ z=>False.elim z
theorem PSs.nox {st:List Stmt} {t:TS} (h:PSs X.nox st t):PSs X st t:=fun pins s σ H D I hw =>
  wpAny_mono (h pins s σ H D (I.wish _) hw) (fun _ _ q=>q.unwish) fun _ _ z=>False.elim z
end
section
variable {X:Cx} {st:Stmt} {rest:List Stmt} {t u:TS} {e:Expr} {te:TE} {pos:Pos}
def tNext:TS:=fun D σ H=>D.nx σ H
def tSeq (t u:TS):TS:=fun D σ H=>t { D with nx:=u D } σ H
theorem pss_nil:PSs X [] tNext:=fun _ _ σ H _ I h=>wpAny_execs_nil ⟨σ,H,I,h⟩
theorem pss_cons (h1:PS X st t) (h2:PSs X rest u):PSs X (st :: rest) (tSeq t u):=by
  intro pins s σ H D I h
  refine wpAny_execs_cons (thn (h1 pins s σ H { D with nx:=u D } I h) fun f s1 q=>?_)
  cases f with
  | next =>
    obtain ⟨σ',H',I',q⟩:=q
    exact h2 pins s1 σ' H' D I' q
  | ret v=>exact q
  | brk=>exact q
  | cont=>exact q
theorem pss_one (h1:PS X st t):PSs X [st] t:=by
  intro pins s σ H D I h
  refine wpAny_execs_cons (thn (h1 pins s σ H D I h) fun f s1 q=>?_)
  cases f with
  | next=>exact wpAny_execs_nil q
  | ret v=>exact q
  | brk=>exact q
  | cont=>exact q
theorem Inv.quiet {pins:List (Addr×Obj)} {σ:St} {H:Hp} {s:Shared} (I:Inv X pins σ H s):interactive X.env=false:=by simp [interactive,I.ok.kind]
def tDrop (te:TE):TS:=fun D σ H=>te σ H fun _ H1=>D.nx σ H1
theorem ps_expr (he:PE X e te) (hs:swapsWith e none pos.line X.env=pure false:=by rfl):PS X (.Expr e pos) (tDrop te):=by
  intro pins s σ H D I h
  exact wpAny_Expr_any (thn (he pins s σ H _ I h) fun v s1 ⟨x,H1,I1,r1,q1⟩=>⟨σ,H1,I1,q1⟩) I.quiet hs
def tRet (te:TE):TS:=fun D σ H=>te σ H D.rt
theorem ps_ret (he:PE X e te):PS X (.Return (some e) pos) (tRet te):=by
  intro pins s σ H D I h
  exact wpAny_Return_some (thn (he pins s σ H _ I h) fun v s1 ⟨x,H1,I1,r1,q1⟩=>⟨x,σ,H1,I1,r1,q1⟩)
def tIfS (c:TT) (t u:TS):TS:=fun D σ H=>c σ H fun b H1=>if b=true then t D σ H1 else u D σ H1
theorem ps_if {c:Expr} {a b:List Stmt} {tc:TT} (hc:PT X c tc) (ha:PSs X a t) (hb:PSs X b u):PS X (.If c a b pos) (tIfS tc t u):=by
  intro pins s σ H D I h
  refine wpAny_If (thn (hc pins s σ H _ I h) fun d s1 ⟨H1,I1,q1⟩=>?_)
  cases d with
  | true=>exact ha pins s1 σ H1 D I1 q1
  | false=>exact hb pins s1 σ H1 D I1 q1
end
abbrev TG:=V→St→Hp→(St→Hp→Prop)→Prop
abbrev TGs:=List V→St→Hp→(St→Hp→Prop)→Prop
def PG (X:Cx) (target:Expr) (t:TG):Prop :=
  ∀ (pins:List (Addr×Obj)) (s:Shared) (σ:St) (H:Hp) (v:V) (u:Value) (Q:St→Hp→Prop),Inv X pins σ H s→RelV v u→t v σ H Q →
    wpAny (model X.prog X.w) X.A (assign target X.env u) (fun _ s'=>∃ σ' H',Inv X pins σ' H' s'∧Q σ' H') X.xe s
def PGs (X:Cx) (ts:List Expr) (t:TGs):Prop :=
  ∀ (pins:List (Addr×Obj)) (s:Shared) (σ:St) (H:Hp) (vs:List V) (us:List Value) (Q:St→Hp→Prop),Inv X pins σ H s→Vals vs us→t vs σ H Q →
    wpAny (model X.prog X.w) X.A (assignInOrder ((assignEach ts X.env).map (·.2)) us) (fun _ s'=>∃ σ' H',Inv X pins σ' H' s'∧Q σ' H') X.xe s
abbrev TSet:=V→V→V→Hp→(Hp→Prop)→Prop
def PSet (X:Cx) (t:TSet):Prop :=
  ∀ (pins:List (Addr×Obj)) (s:Shared) (σ:St) (H:Hp) (o i v:V) (ov iv u:Value) (Q:Hp→Prop),Inv X pins σ H s→RelV o ov→RelV i iv→RelV v u→t o i v H Q →
    wpAny (model X.prog X.w) X.A (setItem ov iv u) (fun _ s'=>∃ H',Inv X pins σ H' s'∧Q H') X.xe s
section
variable {X:Cx} {pos:Pos}
def gName (i:Nat):TG:=fun v σ H Q=>Q (σ.set i (some v)) H
theorem pg_name {i:Nat} {x:Str} (hN:X.N.Nodup) (hi:X.N[i]? = some x) (hx:Loc X.env.scope x) (hf:X.fn x=true∨X.env.scope.names.lookup x=some .local:=by first | exact .inl rfl | exact .inr rfl | assumption):PG X (.Name x pos) (gName i):=by
  intro pins s σ H v u Q I r h
  exact wpAny_assign_Name (qga I hN hi hx r (fun s' I'=>⟨_,H,I',h⟩) hf)
def gNil:TGs:=fun vs σ H Q=>vs=[]∧Q σ H
def gCons (t:TG) (u:TGs):TGs:=fun vs σ H Q=>∃ v r,vs=v :: r∧t v σ H fun σ' H'=>u r σ' H' Q
theorem pgs_nil:PGs X [] gNil:=by
  intro pins s σ H vs us Q I r h
  obtain ⟨e,h⟩:=h
  subst e
  cases r
  exact assignInOrder_nil ⟨σ,H,I,h⟩
theorem pgs_cons {e:Expr} {es:List Expr} {t:TG} {u:TGs} (h1:PG X e t) (h2:PGs X es u)
    (hs:(assignEach (e :: es) X.env).map (·.2)=assign e X.env :: (assignEach es X.env).map (·.2):=by rfl):PGs X (e :: es) (gCons t u):=by
  intro pins s σ H vs us Q I r h
  obtain ⟨v,vr,e1,h⟩:=h
  subst e1
  cases r with
  | cons r rr =>
    rw [hs]
    refine assignInOrder_cons (thn (h1 pins s σ H _ _ _ I r h) fun _ s1 ⟨σ1,H1,I1,q1⟩=>?_)
    exact h2 pins s1 σ1 H1 _ _ Q I1 rr q1
def gTup (K:PySem.W.Frag) (n:Nat) (t:TGs):TG:=fun v σ H Q=>∃ a xs,v=.ref a∧SqT K H a xs∧xs.length=n∧t xs σ H Q
theorem pg_tup {es:List Expr} {k:Nat} {t:TGs} {n:Nat} (hc:X.calm=true) (h:PGs X es t)
    (hn:(assignEach es X.env).length=n:=by rfl) (hst:(assignEach es X.env).findIdx? (·.1)=none:=by rfl):PG X (.Tuple es k pos) (gTup X.K n t):=by
  intro pins s σ H v u Q I r hw
  obtain ⟨a,xs,e1,hq,hl,hw⟩:=hw
  subst e1
  cases r
  obtain ⟨its,rv,ht,hz⟩:=I.tuple hq
  refine assign_Tuple_tuple (I.ok.hd hc) ht (by simp [hn,← hl,rv.length]) hst fun h' hx=>?_
  have I1:Inv X pins σ H { s with heap:=h' }:=I.kept (t':=s.toks) fun b o e=>hx b o (Nat.ne_of_lt (Heap.lt_size e)) e
  exact h pins _ σ H xs _ Q I1 (by simpa using rv) hw
def gSub (to ti:TE) (t:TSet):TG:=fun v σ H Q=>to σ H fun o H1=>ti σ H1 fun i H2=>t o i v H2 fun H3=>Q σ H3
theorem pg_sub {o i:Expr} {to ti:TE} {t:TSet} (ho:PE X o to) (hi:PE X i ti) (hs:PSet X t)
    (ha:∀ v,assign (.Subscript o i pos) X.env v=(do
      let ov ← holding [v] (eval o X.env)
      let iv ← holding [v,ov] (eval i X.env)
      standAt pos
      holding [v,ov,iv] (setItem ov iv v)
      release [v,ov,iv] []):=by intro _; rfl):PG X (.Subscript o i pos) (gSub to ti t):=by
  intro pins s σ H v u Q I r h
  rw [ha]
  refine wpAny_bind (wpAny_holding (thn (ho pins s σ H _ I h) fun ov s1 ⟨x,H1,I1,r1,q1⟩=>?_))
  refine wpAny_bind (wpAny_holding (thn (hi pins s1 σ H1 _ I1 q1) fun iv s2 ⟨y,H2,I2,r2,q2⟩=>?_))
  refine wpAny_bind (wpAny_standAt (wpAny_bind (wpAny_holding (thn (hs pins s2 σ H2 x y v ov iv u _ I2 r1 r2 r q2) fun _ s3 ⟨H3,I3,q3⟩=>?_))))
  exact wpAny_release ⟨σ,H3,I3,q3⟩
def tAsg (te:TE) (g:TG):TS:=fun D σ H=>te σ H fun x H1=>g x σ H1 D.nx
theorem ps_asg {tg e:Expr} {te:TE} {g:TG} (he:PE X e te) (hg:PG X tg g) (hs:swapsWithSole [tg] e pos.line X.env=pure false:=by rfl) (hw:swappedStores [tg] e X.env=pure none:=by rfl)
    (h1:(assignEach [tg] X.env).map (·.2)=[assign tg X.env]:=by rfl):PS X (.Assign [tg] e pos) (tAsg te g):=by
  intro pins s σ H D I h
  refine wpAny_Assign_stores (thn (he pins s σ H _ I h) fun v s1 ⟨x,H1,I1,r1,q1⟩=>?_) hs hw
  rw [h1]
  exact thn (hg pins s1 σ H1 x v _ I1 r1 q1) fun _ s2 q=>q
theorem ps_set {i:Nat} {x:Str} {e:Expr} {te:TE} {pos':Pos} (hN:X.N.Nodup) (hi:X.N[i]? = some x) (hx:Loc X.env.scope x) (he:PE X e te) (hs:swapsWith e (some (.Name x pos')) pos.line X.env=pure false:=by rfl) (hf:X.fn x=true∨X.env.scope.names.lookup x=some .local:=by first | exact .inl rfl | exact .inr rfl | assumption) :
    PS X (.Assign [.Name x pos'] e pos) (tAsg te (gName i)):=by
  intro pins s σ H D I h
  refine wpAny_Assign_Name (thn (he pins s σ H _ I h) fun v s1 ⟨y,H1,I1,r1,q1⟩=>?_) hs
  exact qga I1 hN hi hx r1 (fun s2 I2=>⟨_,H1,I2,q1⟩) hf
end
section
variable {X:Cx} {pos:Pos}
def tWhile (c:TT) (tb:TS):TS:=fun D σ H=>∃ W:Nat→St→Hp→Prop,(∃ m,W m σ H)∧∀ m σ H,W m σ H →
  c σ H fun b H1=>if b=true then ∃ N:St→Hp→Prop,(∀ σ' H',N σ' H'→∃ m',m' < m∧W m' σ' H')∧tb { D with nx:=N,ct:=N,bk:=D.nx } σ H1 else D.nx σ H1
theorem ps_while {c:Expr} {body:List Stmt} {tc:TT} {tb:TS} (hp:PassesOwn (model X.prog X.w) X.A X.env X.xe) (hc:PT X c tc) (hb:PSs X body tb):PS X (.While c body [] pos) (tWhile tc tb):=by
  intro pins s σ H D I h
  obtain ⟨W,⟨m0,w0⟩,turn⟩:=h
  refine wpAny_While (codeAny_whileLoop (fun n s'=>∃ σ' H',Inv X pins σ' H' s'∧W n σ' H') ?_ m0 ⟨σ,H,I,w0⟩)
  rintro n s1 ⟨σ1,H1,I1,w1⟩
  refine wpAny_passesOwn hp (thn (hc pins s1 σ1 H1 _ I1 (turn n σ1 H1 w1)) fun b s2 ⟨H2,I2,q2⟩=>?_)
  cases b with
  | true =>
    obtain ⟨N,hN,q2⟩:=q2
    rw [if_pos rfl]
    refine wpAny_passesOwn hp (thn (hb pins s2 σ1 H2 _ I2 q2) fun f s3 q3=>?_)
    cases f with
    | next =>
      obtain ⟨σ3,H3,I3,n3⟩:=q3
      obtain ⟨m',hm,w3⟩:=hN σ3 H3 n3
      exact ⟨m',hm,σ3,H3,I3,w3⟩
    | cont =>
      obtain ⟨σ3,H3,I3,n3⟩:=q3
      obtain ⟨m',hm,w3⟩:=hN σ3 H3 n3
      exact ⟨m',hm,σ3,H3,I3,w3⟩
    | brk=>exact q3
    | ret v=>exact q3
  | false =>
    rw [if_neg Bool.false_ne_true]
    exact wpAny_execs_nil ⟨σ1,H2,I2,q2⟩
end
structure It where
  go:Nat→Hp→Prop
  yld:Nat→Hp→V→Hp→Prop
  stop:Nat→Hp→Prop
def FpOk (X:Cx) (pins:List (Addr×Obj)) (H:Hp) (b:Addr):Prop :=
  H b=none∧b≠X.env.locals∧b∉X.fs∧(b∈X.ex∨X.s₀.heap.objs.size≤b)∧(∀ x c,X.env.cells.lookup x=some c→c≠b)∧∀ p∈X.pn ++ pins,p.1≠b
theorem Inv.fpOk {X:Cx} {pins:List (Addr×Obj)} {σ:St} {H H':Hp} {s:Shared} {b:Addr} (I:Inv X pins σ H s) (hb:s.heap.objs.size≤b) (hn:H' b=none):FpOk X pins H' b:=by
  refine ⟨hn,Nat.ne_of_gt (Nat.lt_of_lt_of_le I.lt hb),I.nofs hb,.inr (Nat.le_trans I.sz hb),fun x c e z=>?_,fun p hp z=>?_⟩
  · obtain ⟨v,q⟩:=I.cell x c e
    exact absurd (Nat.lt_of_lt_of_le q.lt (by rw [z]; exact hb)) (Nat.lt_irrefl _)
  · exact absurd (Nat.lt_of_lt_of_le (Heap.lt_size (I.pin p hp).1) (by rw [z]; exact hb)) (Nat.lt_irrefl _)
structure Turn (P:Program) (w:World) (K:PySem.W.Frag) (tg:Expr) (J:It) (fp:List Addr) (it:Addr) (tn:Nat→Heap→Prop):Prop where
  mem:it∈fp
  obj:∀ i h,tn i h→∀ b∈fp,∃ o,h.get? b=some o∧∀ v,o.data≠.cell v
  keep:∀ i h h',tn i h→(∀ b∈fp,∀ o,h.get? b=some o→h'.get? b=some o)→tn i h'
  item:∀ (X:Cx),X.prog=P→X.w=w→X.K=K→X.calm=true→∀ (i:Nat) (pins:List (Addr×Obj)) (s:Shared) (σ:St) (H:Hp) (E:Value→Shared→Prop),Inv X pins σ H s→(∀ b∈fp,FpOk X pins H b)→tn i s.heap→J.go i H →
    wpAny (model P w) X.A (pyNext (.ref it)) (fun r s1=>∃ u,r=some u ∧
      wpAny (model P w) X.A (letOwnedTupleGo tg (.ref it) u) (fun _ s2=>∃ x H',Inv X pins σ H' s2∧RelV x u∧J.yld i H x H'∧tn (i + 1) s2.heap∧∀ b∈fp,H' b=none) E s1) E s
  done:∀ (X:Cx),X.prog=P→X.w=w→X.K=K→X.calm=true→∀ (i:Nat) (pins:List (Addr×Obj)) (s:Shared) (σ:St) (H:Hp) (E:Value→Shared→Prop),Inv X pins σ H s→(∀ b∈fp,FpOk X pins H b)→tn i s.heap→J.stop i H →
    wpAny (model P w) X.A (pyNext (.ref it)) (fun r s1=>r=none∧Inv X pins σ H s1) E s
  self:∀ (A:Around) (i:Nat) (s:Shared) (Q:Value→Shared→Prop) (E:Value→Shared→Prop),tn i s.heap→Q (.ref it) s→wpAny (model P w) A (pyIter (.ref it)) Q E s
abbrev TI:=St→Hp→(It→Hp→Prop)→Prop
def PIE (X:Cx) (pins:List (Addr×Obj)) (σ:St) (tg:Expr) (R:It→Hp→Prop) (itv:Value) (s2:Shared):Prop :=
  ∃ (it:Addr) (fp:List Addr) (tn:Nat→Heap→Prop) (J:It) (H':Hp),itv=.ref it∧Inv X pins σ H' s2∧Turn X.prog X.w X.K tg J fp it tn∧tn 0 s2.heap∧(∀ b∈fp,FpOk X pins H' b)∧R J H'
def PI (X:Cx) (tg iter:Expr) (wi:TI):Prop :=
  ∀ (pins:List (Addr×Obj)) (s:Shared) (σ:St) (H:Hp) (R:It→Hp→Prop),Inv X pins σ H s→wi σ H R →
    wpAny (model X.prog X.w) X.A (eval iter X.env) (fun v s1=>wpAny (model X.prog X.w) X.A (pyIter v) (PIE X pins σ tg R) X.xe s1) X.xe s
theorem go_of {M:Model} {A:Around} {E:Value→Shared→Prop} {s:Shared} {tg:Expr} {it:Addr} {u:Value} {o:Obj} {n:String} {vs:Array Value} {Q:Unit→Shared→Prop} (ho:s.heap.get? it=some o) (hc:o.cls=.type n) (hd:o.data=.fields vs)
    (hn:["enumerate","zip","dict_itemiterator","dict_reverseitemiterator","odict_iterator","itertools.zip_longest","itertools.pairwise"].contains n=false) (hQ:Q () s):wpAny M A (letOwnedTupleGo tg (.ref it) u) Q E s:=by
  unfold letOwnedTupleGo
  cases tg <;> first
    | exact wpAny_pure hQ
    | (cases u <;> first
        | exact wpAny_pure hQ
        | (refine wpAny_bind (wpAny_load ho ?_)
           rw [hc,hd]
           show wpAny M A (if (["enumerate","zip","dict_itemiterator","dict_reverseitemiterator","odict_iterator","itertools.zip_longest","itertools.pairwise"].contains n && vs[0]? == some (rawInt _))=true then _ else _) Q E s
           rw [if_neg (by intro h; rw [hn,Bool.false_and] at h; cases h)]
           exact wpAny_pure hQ))
def Itl (K:PySem.W.Frag) (a:Addr):It :=
  ⟨fun i H=>∃ xs x,SqL K H a xs∧xs[i]? = some x,fun i H x H'=>H'=H∧∀ xs,SqL K H a xs→xs[i]? = some x,fun i H=>∃ xs,SqL K H a xs∧xs.length≤i⟩
def Itt (K:PySem.W.Frag) (a:Addr):It :=
  ⟨fun i H=>∃ xs x,SqT K H a xs∧xs[i]? = some x,fun i H x H'=>H'=H∧∀ xs,SqT K H a xs→xs[i]? = some x,fun i H=>∃ xs,SqT K H a xs∧xs.length≤i⟩
def Itr (lo:Int) (n:Nat):It:=⟨fun i _=>i < n,fun i H x H'=>H'=H∧x=.int (lo + i),fun i _=>n≤i⟩
theorem turn_list {P:Program} {w:World} {K:PySem.W.Frag} {tg:Expr} (a it:Addr):Turn P w K tg (Itl K a) [it] it (fun i h=>h.IsListIter it a i) where
  mem:=by simp
  obj:=fun i h st b hb=>by
    have e:b=it:=by simpa using hb
    subst e
    obtain ⟨o,e,c,d⟩:=st
    exact ⟨o,e,fun v z=>by rw [d] at z; cases z⟩
  keep:=fun i h h' st k=>st.at fun o e=>k it (by simp) o e
  item:=by
    intro X hP hw hK hc i pins s σ H E I hf st hg
    subst hP hw hK
    obtain ⟨xs,x,hq,hx⟩:=hg
    obtain ⟨its,rv,p,hz⟩:=I.list hq
    obtain ⟨u,hu,ru⟩:=rv.get hx
    obtain ⟨f0,f1,f2,f3,f4,f5⟩:=hf it (by simp)
    refine wpAny_pyNext_list_item st p.isList (x:=u) (by simpa using hu) fun h' st' sb=>?_
    have I1:Inv X pins σ H { s with heap:=h' }:=I.turned (t':=s.toks) (fun b o hb e=>(sb.2 b hb).trans e) f0 f1 f3 f4 f5
    obtain ⟨o,e,c,d⟩:=id st'
    exact ⟨u,rfl,go_of (s:={ s with heap:=h' }) e c d (by decide) ⟨x,H,I1,ru,⟨rfl,fun ys hy=>by rw [I.list_inj hy hq]; exact hx⟩,st',fun b hb=>(hf b hb).1⟩⟩
  done:=by
    intro X hP hw hK hc i pins s σ H E I hf st hg
    subst hP hw hK
    obtain ⟨xs,hq,hx⟩:=hg
    obtain ⟨its,rv,p,hz⟩:=I.list hq
    obtain ⟨f0,f1,f2,f3,f4,f5⟩:=hf it (by simp)
    have hl:=rv.length
    exact wpAny_pyNext_list_end (I.ok.hd hc) st p.isList (by simp; omega) fun h' eb=>⟨rfl,I.turned (t':=s.toks) (fun b o hb e=>eb b o hb e) f0 f1 f3 f4 f5⟩
  self:=fun _ _ _ _ _ st h=>wpAny_pyIter_listiter st h
theorem turn_tuple {P:Program} {w:World} {K:PySem.W.Frag} {tg:Expr} (a it:Addr):Turn P w K tg (Itt K a) [it] it (fun i h=>h.IsTupleIter it a i) where
  mem:=by simp
  obj:=fun i h st b hb=>by
    have e:b=it:=by simpa using hb
    subst e
    obtain ⟨o,e,c,d⟩:=st
    exact ⟨o,e,fun v z=>by rw [d] at z; cases z⟩
  keep:=fun i h h' st k=>st.at fun o e=>k it (by simp) o e
  item:=by
    intro X hP hw hK hc i pins s σ H E I hf st hg
    subst hP hw hK
    obtain ⟨xs,x,hq,hx⟩:=hg
    obtain ⟨its,rv,p,hz⟩:=I.tuple hq
    obtain ⟨u,hu,ru⟩:=rv.get hx
    obtain ⟨f0,f1,f2,f3,f4,f5⟩:=hf it (by simp)
    refine wpAny_pyNext_tuple_item st (show s.heap.IsTuple a its.toArray from p) (x:=u) (by simpa using hu) fun h' st' sb=>?_
    have I1:Inv X pins σ H { s with heap:=h' }:=I.turned (t':=s.toks) (fun b o hb e=>(sb.2 b hb).trans e) f0 f1 f3 f4 f5
    obtain ⟨o,e,c,d⟩:=id st'
    exact ⟨u,rfl,go_of (s:={ s with heap:=h' }) e c d (by decide) ⟨x,H,I1,ru,⟨rfl,fun ys hy=>by rw [I.tuple_inj hy hq]; exact hx⟩,st',fun b hb=>(hf b hb).1⟩⟩
  done:=by
    intro X hP hw hK hc i pins s σ H E I hf st hg
    subst hP hw hK
    obtain ⟨xs,hq,hx⟩:=hg
    obtain ⟨its,rv,p,hz⟩:=I.tuple hq
    obtain ⟨f0,f1,f2,f3,f4,f5⟩:=hf it (by simp)
    have hl:=rv.length
    exact wpAny_pyNext_tuple_end (I.ok.hd hc) st (show s.heap.IsTuple a its.toArray from p) (by simp; omega) fun h' eb=>⟨rfl,I.turned (t':=s.toks) (fun b o hb e=>eb b o hb e) f0 f1 f3 f4 f5⟩
  self:=fun _ _ _ _ _ st h=>wpAny_pyIter_tupleiter st h
theorem turn_range {P:Program} {w:World} {K:PySem.W.Frag} {tg:Expr} (it:Addr) (lo:Int) (n:Nat):Turn P w K tg (Itr lo n) [it] it (fun i h=>IsRangeIter h it (lo + (i:Nat) * 1) ((n:Int) - (i:Nat)) 1) where
  mem:=by simp
  obj:=fun i h st b hb=>by
    have e:b=it:=by simpa using hb
    subst e
    exact ⟨_,st,fun v z=>by
      have z':Data.fields _=Data.cell v:=z
      cases z'⟩
  keep:=fun i h h' st k=>k it (by simp) _ st
  item:=by
    intro X hP hw hK hc i pins s σ H E I hf st hg
    subst hP hw hK
    obtain ⟨f0,f1,f2,f3,f4,f5⟩:=hf it (by simp)
    have W:=Walks.range (prog:=X.prog) (w:=X.w) (I.ok.hd hc) it lo 1 n
    refine W.item i s _ _ hg st fun v h' tk hv st' kk=>?_
    obtain ⟨t,rfl⟩:=hv
    have I1:Inv X pins σ H { s with heap:=h',toks:=tk }:=I.turned (fun b o hb e=>kk b o (by simpa using hb) e) f0 f1 f3 f4 f5
    refine ⟨_,rfl,go_of (s:={ s with heap:=h',toks:=tk }) (n:="range_iterator") st' rfl rfl (by decide) ⟨.int (lo + i),H,I1,⟨t,?_⟩,⟨rfl,rfl⟩,st',fun b hb=>(hf b hb).1⟩⟩
    rw [Int.mul_one]
  done:=by
    intro X hP hw hK hc i pins s σ H E I hf st hg
    subst hP hw hK
    obtain ⟨f0,f1,f2,f3,f4,f5⟩:=hf it (by simp)
    exact wpAny_pyNext_range_end (I.ok.hd hc) st (by have:n≤i:=hg; omega) fun h' eb=>⟨rfl,I.turned (t':=s.toks) (fun b o hb e=>eb b o hb e) f0 f1 f3 f4 f5⟩
  self:=fun _ _ _ _ _ st h=>wpAny_pyIter_rangeiter st h
end L2
namespace L2
open PySem PySem.Spec PyProof.Rows
section
variable {X:Cx} {tg:Expr}
def iList (K:PySem.W.Frag) (tl:TE):TI:=fun σ H R=>tl σ H fun x H1=>∃ a,x=.ref a∧(∃ xs,SqL K H1 a xs)∧R (Itl K a) H1
def iTup (K:PySem.W.Frag) (tl:TE):TI:=fun σ H R=>tl σ H fun x H1=>∃ a,x=.ref a∧(∃ xs,SqT K H1 a xs)∧R (Itt K a) H1
theorem pi_list {l:Expr} {tl:TE} (hl:PE X l tl):PI X tg l (iList X.K tl):=by
  intro pins s σ H R I h
  refine thn (hl pins s σ H _ I h) fun v s1 ⟨x,H1,I1,r1,q1⟩=>?_
  obtain ⟨a,e,⟨xs,hq⟩,q⟩:=q1
  subst e
  cases r1
  obtain ⟨its,rv,p,hz⟩:=I1.list hq
  refine wpAny_pyIter_list p.isList ?_
  refine ⟨s1.heap.objs.size,[s1.heap.objs.size],_,_,H1,rfl,I1.kept (t':=s1.toks) fun b o e=>Heap.get?_push_of_some _ e,turn_list a _,⟨_,Heap.get?_push_size _ rfl,rfl,rfl⟩,fun b hb=>?_,q⟩
  have e:b=s1.heap.objs.size:=by simpa using hb
  subst e
  exact I1.fpOk (Nat.le_refl _) (I1.hok.fresh (Nat.le_refl _))
theorem pi_tup {l:Expr} {tl:TE} (hl:PE X l tl):PI X tg l (iTup X.K tl):=by
  intro pins s σ H R I h
  refine thn (hl pins s σ H _ I h) fun v s1 ⟨x,H1,I1,r1,q1⟩=>?_
  obtain ⟨a,e,⟨xs,hq⟩,q⟩:=q1
  subst e
  cases r1
  obtain ⟨its,rv,p,hz⟩:=I1.tuple hq
  refine wpAny_pyIter_tuple (show s1.heap.IsTuple a its.toArray from p) ?_
  refine ⟨s1.heap.objs.size,[s1.heap.objs.size],_,_,H1,rfl,I1.kept (t':=s1.toks) fun b o e=>Heap.get?_push_of_some _ e,turn_tuple a _,⟨_,Heap.get?_push_size _ rfl,rfl,rfl⟩,fun b hb=>?_,q⟩
  have e:b=s1.heap.objs.size:=by simpa using hb
  subst e
  exact I1.fpOk (Nat.le_refl _) (I1.hok.fresh (Nat.le_refl _))
theorem range_it {pins:List (Addr×Obj)} {σ:St} {H:Hp} {s:Shared} {R:It→Hp→Prop} {E:Value→Shared→Prop} {lo hi:Int} {t u v:Tok} {tk:Nat} (I:Inv X pins σ H s) (h1:-(2 ^ 62)≤lo) (h2:lo < 2 ^ 62) (h3:-(2 ^ 62)≤hi) (h4:hi < 2 ^ 62)
    (q:R (Itr lo (hi - lo).toNat) H):wpAny (model X.prog X.w) X.A (pyIter (.ref s.heap.objs.size)) (PIE X pins σ tg R) E { s with heap:=s.heap.push { cls:=.type "range",data:=.fields #[.int lo t,.int hi u,.int 1 v] },toks:=tk }:=by
  refine wpAny_pyIter_range (IsRange.new ..) (small_one h1 h2 h3 h4) ?_
  have I1:Inv X pins σ H { s with heap:=s.heap.push { cls:=.type "range",data:=.fields #[.int lo t,.int hi u,.int 1 v] },toks:=tk }:=I.kept fun b o e=>Heap.get?_push_of_some _ e
  refine ⟨(s.heap.push { cls:=.type "range",data:=.fields #[.int lo t,.int hi u,.int 1 v] }).objs.size,[(s.heap.push { cls:=.type "range",data:=.fields #[.int lo t,.int hi u,.int 1 v] }).objs.size],_,_,H,rfl,
    I1.kept (t':=tk) fun b o e=>Heap.get?_push_of_some _ e,turn_range _ lo (hi - lo).toNat,?_,fun b hb=>?_,q⟩
  · have e1:lo + ((0:Nat):Int) * 1=lo:=by simp
    have e2:(((hi - lo).toNat:Nat):Int) - ((0:Nat):Int)=Builtin.Range.rangeSize lo hi 1:=by rw [rangeSize_one]; split <;> omega
    show IsRangeIter _ _ (lo + ((0:Nat):Int) * 1) ((((hi - lo).toNat:Nat):Int) - ((0:Nat):Int)) 1
    rw [e1,e2]
    exact Heap.get?_push_size _ rfl
  · have e:b=(s.heap.push { cls:=.type "range",data:=.fields #[.int lo t,.int hi u,.int 1 v] }).objs.size:=by simpa using hb
    subst e
    exact I1.fpOk (Nat.le_refl _) (I1.hok.fresh (Nat.le_refl _))
def iRng1 (ta:TA):TI:=fun σ H R=>ta σ H fun vs H1=>∃ j:Int,vs=[.int j]∧-(2 ^ 62)≤j∧j < 2 ^ 62∧R (Itr 0 j.toNat) H1
def iRng2 (ta:TA):TI:=fun σ H R=>ta σ H fun vs H1=>∃ i j:Int,vs=[.int i,.int j]∧(-(2 ^ 62)≤i∧i < 2 ^ 62∧-(2 ^ 62)≤j∧j < 2 ^ 62)∧R (Itr i (j - i).toNat) H1
theorem pi_range1 {a:Expr} {ta:TA} {p pos:Pos} (hg:Gl X "range") (hm:X.mg "range"=none) (ha:PA X [a] ta) (hs:starEach [a] X.env=[(false,eval a X.env)]:=by rfl):PI X tg (.Call (.Name "range" p) [a] [] pos) (iRng1 ta):=by
  intro pins s σ H R I h
  refine Call_ (qej I hg hm boot_range (PyProof.Rows.callWith_type1 (thn (ha pos pins s σ H _ I h) fun us s1 ⟨vs,H1,I1,r1,q1⟩=>?_) hs rfl))
  obtain ⟨j,e,q1,q2,q⟩:=q1
  subst e
  cases r1 with
  | cons r rr =>
    cases rr
    obtain ⟨t,rfl⟩:=r
    exact call_range_1 (range_it I1 (by omega) (by omega) q1 q2 (by simpa using q))
theorem pi_range2 {a b:Expr} {ta:TA} {p pos:Pos} (hg:Gl X "range") (hm:X.mg "range"=none) (ha:PA X [a,b] ta) (hs:starEach [a,b] X.env=[(false,eval a X.env),(false,eval b X.env)]:=by rfl) (hs2:starEach [b] X.env=[(false,eval b X.env)]:=by rfl) :
    PI X tg (.Call (.Name "range" p) [a,b] [] pos) (iRng2 ta):=by
  intro pins s σ H R I h
  refine Call_ (qej I hg hm boot_range (PyProof.Rows.callWith_type1 (thn (ha pos pins s σ H _ I h) fun us s1 ⟨vs,H1,I1,r1,q1⟩=>?_) (by rw [hs,hs2]) (by rw [hs2]; rfl)))
  obtain ⟨i,j,e,⟨q1,q2,q3,q4⟩,q⟩:=q1
  subst e
  cases r1 with
  | cons r rr =>
    cases rr with
    | cons r' rr =>
      cases rr
      obtain ⟨t,rfl⟩:=r
      obtain ⟨t',rfl⟩:=r'
      exact call_range_2 (range_it I1 q1 q2 q3 q4 q)
def tFor (wi:TI) (g:TG) (tb:TS):TS:=fun D σ H=>wi σ H fun J H1=>∃ W:Nat→Nat→St→Hp→Prop,(∃ m,W 0 m σ H1)∧∀ i m σ H,W i m σ H →
  (J.stop i H∧D.nx σ H)∨(J.go i H∧∃ N:St→Hp→Prop,(∀ σ' H',N σ' H'→∃ m',m' < m∧W (i + 1) m' σ' H')∧∀ x H',J.yld i H x H'→g x σ H' fun σ2 H2=>tb { D with nx:=N,ct:=N,bk:=D.nx } σ2 H2)
def pinsAt (fp:List Addr) (h:Heap):List (Addr×Obj):=fp.filterMap fun b=>(h.get? b).map fun o=>(b,o)
theorem qdM {fp:List Addr} {h:Heap} {b:Addr} {o:Obj} (hb:b∈fp) (e:h.get? b=some o):(b,o)∈pinsAt fp h:=List.mem_filterMap.mpr ⟨b,hb,by rw [e]; rfl⟩
theorem of_pinsAt {fp:List Addr} {h:Heap} {p:Addr×Obj} (hp:p∈pinsAt fp h):p.1∈fp∧h.get? p.1=some p.2:=by
  obtain ⟨b,hb,e⟩:=List.mem_filterMap.mp hp
  cases q:h.get? b with
  | none=>rw [q] at e; cases e
  | some o =>
    rw [q] at e
    have e':(b,o)=p:=Option.some.inj e
    subst e'
    exact ⟨hb,q⟩
theorem Inv.pinned {pins:List (Addr×Obj)} {σ:St} {H:Hp} {s:Shared} {fp:List Addr} (I:Inv X pins σ H s) (hf:∀ b∈fp,FpOk X pins H b) (ho:∀ b∈fp,∃ o,s.heap.get? b=some o∧∀ v,o.data≠.cell v):Inv X (pins ++ pinsAt fp s.heap) σ H s :=
  I.pins_of fun p hp=>(List.mem_append.mp hp).elim (fun z=>I.pin p (List.mem_append_right _ z)) fun z=>by
    obtain ⟨hb,e⟩:=of_pinsAt z
    obtain ⟨f0,f1,f2,_⟩:=hf p.1 hb
    obtain ⟨o,e',d⟩:=ho p.1 hb
    rw [e] at e'; cases e'
    exact ⟨e,f0,f1,f2,d⟩
theorem Inv.unpinned {pins pl:List (Addr×Obj)} {σ:St} {H:Hp} {s:Shared} (I:Inv X (pins ++ pl) σ H s):Inv X pins σ H s:=I.pins_of fun p hp=>I.pin p (List.mem_append_right _ (List.mem_append_left _ hp))
theorem ps_for {iter:Expr} {body:List Stmt} {wi:TI} {g:TG} {tb:TS} {pos:Pos} (hp:PassesOwn (model X.prog X.w) X.A X.env X.xe) (hc:X.calm=true) (hi:PI X tg iter wi) (hg:PG X tg g) (hb:PSs X body tb)
    (hs:∀ x,foldedSetIterable iter X.env x=pure x:=by intro _; rfl):PS X (.For tg iter body [] pos) (tFor wi g tb):=by
  intro pins s σ H D I h
  refine wpAny_For (thn (hi pins s σ H _ I h) fun v s1 h1=>thn h1 fun itv s2 h2=>?_) hs
  obtain ⟨it,fp,tn,J,H2,e,I2,T,st2,f2,W,⟨m0,w0⟩,turn⟩:=h2
  subst e
  -- what stays true of the iterator's objects through the loop
  have stat:∀ {H':Hp},(∀ b∈fp,H' b=none)→∀ b∈fp,FpOk X pins H' b:=fun hn b hb=>⟨hn b hb,(f2 b hb).2⟩
  refine codeAny_forLoop_any (fun n s'=>∃ i σ' H',Inv X pins σ' H' s'∧tn i s'.heap∧(∀ b∈fp,H' b=none)∧W i n σ' H') ?_ m0 ⟨0,σ,H2,I2,st2,fun b hb=>(f2 b hb).1,w0⟩
  rintro n s3 ⟨i,σ3,H3,I3,st3,fr3,w3⟩
  rcases turn i n σ3 H3 w3 with ⟨stop,qn⟩ | ⟨go,N,hN,step⟩
  · refine wpAny_passesOwn hp (thn (T.done X rfl rfl rfl hc i pins s3 σ3 H3 X.xe I3 (stat fr3) st3 stop) fun r s4 ⟨hr,I4⟩=>?_)
    subst hr
    exact wpAny_execs_nil ⟨σ3,H3,I4,qn⟩
  · refine wpAny_passesOwn hp (thn (T.item X rfl rfl rfl hc i pins s3 σ3 H3 X.xe I3 (stat fr3) st3 go) fun r s4 ⟨u,hr,h4⟩=>?_)
    subst hr
    refine wpAny_passesOwn hp (thn h4 fun _ s5 ⟨x,H5,I5,r5,y5,st5,fr5⟩=>?_)
    have I5':=I5.pinned (stat fr5) (T.obj _ _ st5)
    refine wpAny_passesOwn hp (thn (hg _ s5 σ3 H5 x u _ I5' r5 (step x H5 y5)) fun _ s6 ⟨σ6,H6,I6,q6⟩=>?_)
    refine wpAny_passesOwn hp (thn (hb _ s6 σ6 H6 _ I6 q6) fun f s7 q7=>?_)
    have again:∀ {σ7:St} {H7:Hp},Inv X (pins ++ pinsAt fp s5.heap) σ7 H7 s7→N σ7 H7→∃ m,m < n∧∃ i σ' H',Inv X pins σ' H' s7∧tn i s7.heap∧(∀ b∈fp,H' b=none)∧W i m σ' H':=fun {σ7 H7} I7 n7=>by
      obtain ⟨m',hm,w7⟩:=hN σ7 H7 n7
      refine ⟨m',hm,i + 1,σ7,H7,I7.unpinned,T.keep _ _ _ st5 fun b hb o e=>(I7.pin (b,o) (List.mem_append_right _ (List.mem_append_right _ (qdM hb e)))).1,fun b hb=>?_,w7⟩
      obtain ⟨o,e,d⟩:=T.obj _ _ st5 b hb
      exact (I7.pin (b,o) (List.mem_append_right _ (List.mem_append_right _ (qdM hb e)))).2.1
    cases f with
    | next=>obtain ⟨σ7,H7,I7,n7⟩:=q7; exact again I7 n7
    | cont=>obtain ⟨σ7,H7,I7,n7⟩:=q7; exact again I7 n7
    | brk=>obtain ⟨σ7,H7,I7,q7⟩:=q7; exact ⟨σ7,H7,I7.unpinned,q7⟩
    | ret v=>obtain ⟨x7,σ7,H7,I7,r7,q7⟩:=q7; exact ⟨x7,σ7,H7,I7.unpinned,r7,q7⟩
end
end L2
namespace L2
open PySem PySem.Spec PyProof.Rows
abbrev R2:=V→V→Hp→VK→Prop
def OpR (X:Cx) (f:Value→Value→Sem Value) (r:R2):Prop :=
  ∀ (pins:List (Addr×Obj)) (s:Shared) (σ:St) (H:Hp) (x y:V) (v u:Value) (Q:VK),Inv X pins σ H s→RelV x v→RelV y u→r x y H Q →
    wpAny (model X.prog X.w) X.A (f v u) (EP X pins σ Q) X.xe s
def UnR (X:Cx) (f:Value→Sem Value) (r:V→Hp→VK→Prop):Prop :=
  ∀ (pins:List (Addr×Obj)) (s:Shared) (σ:St) (H:Hp) (x:V) (v:Value) (Q:VK),Inv X pins σ H s→RelV x v→r x H Q →
    wpAny (model X.prog X.w) X.A (f v) (EP X pins σ Q) X.xe s
def qd1 (X:Cx) (f:Value) (r:List V→Hp→VK→Prop):Prop :=
  ∀ (pins:List (Addr×Obj)) (s:Shared) (σ:St) (H:Hp) (xs:List V) (us:List Value) (Q:VK),Inv X pins σ H s→Vals xs us→r xs H Q →
    wpAny (model X.prog X.w) X.A (call f us) (EP X pins σ Q) X.xe s
def tOp (r:R2) (ta tb:TE):TE:=fun σ H Q=>ta σ H fun x H1=>tb σ H1 fun y H2=>r x y H2 Q
def tUn (r:V→Hp→VK→Prop) (ta:TE):TE:=fun σ H Q=>ta σ H fun x H1=>r x H1 Q
def rI (C:Int→Int→Prop) (g:Int→Int→V):R2:=fun x y H Q=>∃ i j,x=.int i∧y=.int j∧C i j∧Q (g i j) H
def rI0 (g:Int→Int→V):R2:=fun x y H Q=>∃ i j,x=.int i∧y=.int j∧Q (g i j) H
def rU (g:Int→V):V→Hp→VK→Prop:=fun x H Q=>∃ i,x=.int i∧Q (g i) H
section
variable {X:Cx} {a b c:Expr} {ta tb tc:TE} {pos:Pos}
theorem binT (ha:PE X a ta) (hb:PE X b tb) {pins:List (Addr×Obj)} {s:Shared} {σ:St} {H:Hp} {R:V→V→Hp→Prop} (I:Inv X pins σ H s)
    (h:ta σ H fun x H1=>tb σ H1 fun y H2=>R x y H2) {Q:Value→Shared→Prop} {f:Value→Value→Sem Value}
    (hf:∀ v u s2 x y H2,Inv X pins σ H2 s2→RelV x v→RelV y u→R x y H2→wpAny (model X.prog X.w) X.A (f v u) Q X.xe s2) :
    wpAny (model X.prog X.w) X.A (eval a X.env) (fun v s₁=>wpAny (model X.prog X.w) X.A (eval b X.env) (fun u s₂=>wpAny (model X.prog X.w) X.A (f v u) Q X.xe s₂) X.xe s₁) X.xe s:=by
  refine thn (ha pins s σ H _ I h) fun v s1 ⟨x,H1,I1,r1,q1⟩=>?_
  refine thn (hb pins s1 σ H1 _ I1 q1) fun u s2 ⟨y,H2,I2,r2,q2⟩=>?_
  exact hf v u s2 x y H2 I2 r1 r2 q2
theorem pe_op {op:Operator} {r:R2} (ho:OpR X (binaryOp op) r) (ha:PE X a ta) (hb:PE X b tb):PE X (.BinOp a op b pos) (tOp r ta tb):=by
  intro pins s σ H Q I h
  exact wpAny_BinOp (binT ha hb I h fun v u s2 x y H2 I2 rx ry q=>ho pins s2 σ H2 x y v u Q I2 rx ry q)
theorem pe_un {op:UnaryOp} {r:V→Hp→VK→Prop} (ho:UnR X (unaryOp op) r) (ha:PE X a ta):PE X (.UnaryOp op a pos) (tUn r ta):=by
  intro pins s σ H Q I h
  exact UnaryOp_ (thn (ha pins s σ H _ I h) fun v s1 ⟨x,H1,I1,r1,q1⟩=>ho pins s1 σ H1 x v Q I1 r1 q1)
theorem opI {f:Value→Value→Sem Value} {C:Int→Int→Prop} {g:Int→Int→Int}
    (rule:∀ (i j:Int) (t u:Tok) (s:Shared) (Q:Value→Shared→Prop) (E:Value→Shared→Prop),C i j→Q (.int (g i j) s.toks) { s with toks:=s.toks + 1 }→wpAny (model X.prog X.w) X.A (f (.int i t) (.int j u)) Q E s) :
    OpR X f (rI C fun i j=>.int (g i j)):=by
  intro pins s σ H x y v u Q I rx ry h
  obtain ⟨i,j,rfl,rfl,hc,q⟩:=h
  obtain ⟨t,rfl⟩:=rx
  obtain ⟨t',rfl⟩:=ry
  exact rule i j t t' s _ _ hc ⟨.int (g i j),H,I.tok _,⟨_,rfl⟩,q⟩
theorem opI0 {f:Value→Value→Sem Value} {g:Int→Int→Int}
    (rule:∀ (i j:Int) (t u:Tok) (s:Shared) (Q:Value→Shared→Prop) (E:Value→Shared→Prop),Q (.int (g i j) s.toks) { s with toks:=s.toks + 1 }→wpAny (model X.prog X.w) X.A (f (.int i t) (.int j u)) Q E s) :
    OpR X f (rI0 fun i j=>.int (g i j)):=by
  intro pins s σ H x y v u Q I rx ry h
  obtain ⟨i,j,rfl,rfl,q⟩:=h
  obtain ⟨t,rfl⟩:=rx
  obtain ⟨t',rfl⟩:=ry
  exact rule i j t t' s _ _ ⟨.int (g i j),H,I.tok _,⟨_,rfl⟩,q⟩
theorem opB0 {f:Value→Value→Sem Value} {g:Int→Int→Bool}
    (rule:∀ (i j:Int) (t u:Tok) (s:Shared) (Q:Value→Shared→Prop) (E:Value→Shared→Prop),Q (.bool (g i j)) s→wpAny (model X.prog X.w) X.A (f (.int i t) (.int j u)) Q E s) :
    OpR X f (rI0 fun i j=>.bl (g i j)):=by
  intro pins s σ H x y v u Q I rx ry h
  obtain ⟨i,j,rfl,rfl,q⟩:=h
  obtain ⟨t,rfl⟩:=rx
  obtain ⟨t',rfl⟩:=ry
  exact rule i j t t' s _ _ ⟨.bl (g i j),H,I,rfl,q⟩
def CDiv (i j:Int):Prop:=0 < j∧j < 1073741824
def CPow (i j:Int):Prop:=0≤j∧j≤1000000∧i.natAbs < 2 ^ 64
def CMul (i j:Int):Prop:=(-(2 ^ 64) < i∧i < 2 ^ 64)∨(-(2 ^ 64) < j∧j < 2 ^ 64)
theorem CMul.ok {i j:Int} (h:CMul i j):IntMulOk i j:=by
  rcases h with ⟨h1,h2⟩ | ⟨h1,h2⟩
  · exact .of_left (intBits_le_64 h1 h2)
  · exact .of_right (intBits_le_64 h1 h2)
theorem op_add:OpR X (binaryOp .Add) (rI0 fun i j=>.int (i + j)):=opI0 fun _ _ _ _ _ _ _ q=>add_int q
theorem op_sub:OpR X (binaryOp .Sub) (rI0 fun i j=>.int (i - j)):=opI0 fun _ _ _ _ _ _ _ q=>sub_int q
theorem op_mul:OpR X (binaryOp .Mult) (rI CMul fun i j=>.int (i * j)):=opI fun _ _ _ _ _ _ _ hc q=>mul_int q hc.ok
theorem op_fdiv:OpR X (binaryOp .FloorDiv) (rI CDiv fun i j=>.int (i / j)):=opI fun i j _ _ _ _ _ hc q=>by
  have h1:(0:Int) < j:=hc.1
  have h2:j < 1073741824:=hc.2
  exact floordiv_int (by omega) (by rw [Int.fdiv_eq_ediv_of_nonneg i (by omega)]; exact q) (.inl (PyProof.noPylong_small (by omega)))
theorem op_mod:OpR X (binaryOp .Mod) (rI (fun _ j=>0 < j) fun i j=>.int (i % j)):=opI fun i j _ _ _ _ _ hc q=>by
  have h1:(0:Int) < j:=hc
  exact mod_int' (by omega) (by rw [Int.fmod_eq_emod_of_nonneg i (by omega)]; exact q)
theorem op_pow:OpR X (binaryOp .Pow) (rI CPow fun i j=>.int (i ^ j.toNat)):=opI fun _ _ _ _ _ _ _ hc q=>pow_int_small hc.1 hc.2.1 hc.2.2 q
theorem unI {f:Value→Sem Value} {g:Int→Int}
    (rule:∀ (i:Int) (t:Tok) (s:Shared) (Q:Value→Shared→Prop) (E:Value→Shared→Prop),Q (.int (g i) s.toks) { s with toks:=s.toks + 1 }→wpAny (model X.prog X.w) X.A (f (.int i t)) Q E s) :
    UnR X f (rU fun i=>.int (g i)):=by
  intro pins s σ H x v Q I rx h
  obtain ⟨i,rfl,q⟩:=h
  obtain ⟨t,rfl⟩:=rx
  exact rule i t s _ _ ⟨.int (g i),H,I.tok _,⟨_,rfl⟩,q⟩
theorem un_neg:UnR X (unaryOp .USub) (rU fun i=>.int (-i)):=unI fun _ _ _ _ _ q=>neg_int q
end
def scal:V→V→Bool
  | .non,.non=>true | .non,.int _=>true | .int _,.non=>true | .non,.bl _=>true | .bl _,.non=>true | .non,.str _=>true | .str _,.non=>true
  | .int _,.int _=>true | .bl _,.bl _=>true | .str _,.str _=>true | .byt _,.byt _=>true
  | .int _,.str _=>true | .str _,.int _=>true | .bl _,.str _=>true | .str _,.bl _=>true
  | _,_=>false
def rEq:R2:=fun x y H Q=>scal x y=true∧Q (.bl (decide (x=y))) H
def rNe:R2:=fun x y H Q=>scal x y=true∧Q (.bl (!decide (x=y))) H
theorem dec_int {i j:Int}:decide (V.int i=V.int j)=(i == j):=by
  rw [Bool.eq_iff_iff]
  simp
theorem dec_bl {i j:Bool}:decide (V.bl i=V.bl j)=(i == j):=by
  rw [Bool.eq_iff_iff]
  simp
theorem dec_str {i j:Str}:decide (V.str i=V.str j)=(i == j):=by
  rw [Bool.eq_iff_iff]
  simp
theorem dec_byt {i j:Array UInt8}:decide (V.byt i=V.byt j)=(i.toList == j.toList):=by
  rw [Bool.eq_iff_iff]
  cases i
  cases j
  simp
section
variable {X:Cx} {a b c:Expr} {ta tb tc:TE} {pos:Pos}
theorem qaU {pins:List (Addr×Obj)} {σ:St} {H:Hp} {s:Shared} {Q:VK} {k k':Bool} (I:Inv X pins σ H s) (q:Q (.bl k) H) (e:k=k'):EP X pins σ Q (.bool k') s:=by
  subst e
  exact ⟨.bl k,H,I,rfl,q⟩
theorem op_eq:OpR X (compareOp .Eq) rEq:=by
  intro pins s σ H x y v u Q I rx ry h
  obtain ⟨hs,q⟩:=h
  cases x with
  | non =>
    cases rx
    cases y with
    | non=>cases ry; exact PySem.EqNone.eq_none_none (qaU I q (by simp))
    | bl j=>cases ry; exact PySem.EqNone.eq_none_bool (qaU I q (by simp))
    | int j=>obtain ⟨t',rfl⟩:=ry; exact PySem.EqNone.eq_none_int (qaU I q (by simp))
    | str j=>obtain ⟨t',rfl⟩:=ry; exact PySem.EqNone.eq_none_str (qaU I q (by simp))
    | _=>exact absurd (show false=true from hs) Bool.false_ne_true
  | bl i =>
    cases rx
    cases y with
    | non=>cases ry; exact PySem.EqNone.eq_bool_none (qaU I q (by simp))
    | bl j=>cases ry; exact eq_bool (qaU I q dec_bl)
    | str j=>obtain ⟨t',rfl⟩:=ry; exact PySem.EqMixed.eq_bool_str (qaU I q (by simp))
    | _=>exact absurd (show false=true from hs) Bool.false_ne_true
  | int i =>
    obtain ⟨t,rfl⟩:=rx
    cases y with
    | non=>cases ry; exact PySem.EqNone.eq_int_none (qaU I q (by simp))
    | int j=>obtain ⟨t',rfl⟩:=ry; exact eq_int (qaU I q dec_int)
    | str j=>obtain ⟨t',rfl⟩:=ry; exact PySem.EqMixed.eq_int_str (qaU I q (by simp))
    | _=>exact absurd (show false=true from hs) Bool.false_ne_true
  | str i =>
    obtain ⟨t,rfl⟩:=rx
    cases y with
    | non=>cases ry; exact PySem.EqNone.eq_str_none (qaU I q (by simp))
    | bl j=>cases ry; exact PySem.EqMixed.eq_str_bool (qaU I q (by simp))
    | int j=>obtain ⟨t',rfl⟩:=ry; exact PySem.EqMixed.eq_str_int (qaU I q (by simp))
    | str j=>obtain ⟨t',rfl⟩:=ry; exact eq_str (qaU I q dec_str)
    | _=>exact absurd (show false=true from hs) Bool.false_ne_true
  | byt i =>
    obtain ⟨t,rfl⟩:=rx
    cases y with
    | byt j=>obtain ⟨t',rfl⟩:=ry; exact PySem.W.eq_bytes (qaU I q dec_byt)
    | _=>exact absurd (show false=true from hs) Bool.false_ne_true
  | _=>cases y <;> exact absurd (show false=true from hs) Bool.false_ne_true
theorem op_ne:OpR X (compareOp .NotEq) rNe:=by
  intro pins s σ H x y v u Q I rx ry h
  obtain ⟨hs,q⟩:=h
  cases x with
  | non =>
    cases rx
    cases y with
    | non=>cases ry; exact PySem.EqNone.ne_none_none (qaU I q (by simp))
    | bl j=>cases ry; exact PySem.EqNone.ne_none_bool (qaU I q (by simp))
    | int j=>obtain ⟨t',rfl⟩:=ry; exact PySem.EqNone.ne_none_int (qaU I q (by simp))
    | str j=>obtain ⟨t',rfl⟩:=ry; exact PySem.EqNone.ne_none_str (qaU I q (by simp))
    | _=>exact absurd (show false=true from hs) Bool.false_ne_true
  | bl i =>
    cases rx
    cases y with
    | non=>cases ry; exact PySem.EqNone.ne_bool_none (qaU I q (by simp))
    | bl j=>cases ry; exact ne_bool (qaU I q (congrArg not dec_bl))
    | str j=>obtain ⟨t',rfl⟩:=ry; exact PySem.EqMixed.ne_bool_str (qaU I q (by simp))
    | _=>exact absurd (show false=true from hs) Bool.false_ne_true
  | int i =>
    obtain ⟨t,rfl⟩:=rx
    cases y with
    | non=>cases ry; exact PySem.EqNone.ne_int_none (qaU I q (by simp))
    | int j=>obtain ⟨t',rfl⟩:=ry; exact ne_int (qaU I q (congrArg not dec_int))
    | str j=>obtain ⟨t',rfl⟩:=ry; exact PySem.EqMixed.ne_int_str (qaU I q (by simp))
    | _=>exact absurd (show false=true from hs) Bool.false_ne_true
  | str i =>
    obtain ⟨t,rfl⟩:=rx
    cases y with
    | non=>cases ry; exact PySem.EqNone.ne_str_none (qaU I q (by simp))
    | bl j=>cases ry; exact PySem.EqMixed.ne_str_bool (qaU I q (by simp))
    | int j=>obtain ⟨t',rfl⟩:=ry; exact PySem.EqMixed.ne_str_int (qaU I q (by simp))
    | str j=>obtain ⟨t',rfl⟩:=ry; exact ne_str (qaU I q (congrArg not dec_str))
    | _=>exact absurd (show false=true from hs) Bool.false_ne_true
  | byt i =>
    obtain ⟨t,rfl⟩:=rx
    cases y with
    | byt j=>obtain ⟨t',rfl⟩:=ry; exact PySem.W.ne_bytes (qaU I q (congrArg not dec_byt))
    | _=>exact absurd (show false=true from hs) Bool.false_ne_true
  | _=>cases y <;> exact absurd (show false=true from hs) Bool.false_ne_true
theorem op_lt:OpR X (compareOp .Lt) (rI0 fun i j=>.bl (decide (i < j))):=opB0 fun _ _ _ _ _ _ _ q=>lt_int q
theorem op_le:OpR X (compareOp .LtE) (rI0 fun i j=>.bl (decide (i≤j))):=opB0 fun _ _ _ _ _ _ _ q=>le_int q
theorem op_gt:OpR X (compareOp .Gt) (rI0 fun i j=>.bl (decide (j < i))):=opB0 fun _ _ _ _ _ _ _ q=>gt_int q
theorem op_ge:OpR X (compareOp .GtE) (rI0 fun i j=>.bl (decide (j≤i))):=opB0 fun _ _ _ _ _ _ _ q=>ge_int q
theorem op_isN:OpR X (compareOp .Is) (fun x y H Q=>y=.non∧Q (.bl (decide (x=.non))) H):=by
  intro pins s σ H x y v u Q I rx ry h
  obtain ⟨rfl,q⟩:=h
  cases ry
  refine is_none_gen (qaU I q ?_)
  cases x <;> first
    | (cases rx; rfl)
    | (obtain ⟨t,rfl⟩:=rx; rfl)
theorem nomark (b:Expr) {op:CmpOp} (h:op≠.In:=by decide) (h2:op≠.NotIn:=by decide):behindInMarks op b=false:=by
  have e1:(op == CmpOp.In)=false:=by cases op <;> first | rfl | exact absurd rfl h
  have e2:(op == CmpOp.NotIn)=false:=by cases op <;> first | rfl | exact absurd rfl h2
  cases b <;> simp [behindInMarks,e1,e2]
theorem pe_cmpR {op:CmpOp} {r:R2} (ho:OpR X (compareOp op) r) (ha:PE X a ta) (hb:PE X b tb) (hm:behindInMarks op b=false):PE X (.Compare a [op] [b] pos) (tOp r ta tb):=by
  intro pins s σ H Q I h
  exact wpAny_Compare1 (binT ha hb I h fun v u s2 x y H2 I2 rx ry q=>ho pins s2 σ H2 x y v u Q I2 rx ry q) hm
def tTest (t:TE):TT:=fun σ H Q=>t σ H fun x H'=>∃ k,x=.bl k∧Q k H'
theorem pt_cmpR {op:CmpOp} {r:R2} (ho:OpR X (compareOp op) r) (ha:PE X a ta) (hb:PE X b tb) (hm:behindInMarks op b=false):PT X (.Compare a [op] [b] pos) (tTest (tOp r ta tb)):=by
  intro pins s σ H Q I h
  refine wpAny_isTrue_Compare1 (thn (ha pins s σ H _ I h) fun v s1 ⟨x,H1,I1,r1,q1⟩=>thn (hb pins s1 σ H1 _ I1 q1) fun u s2 ⟨y,H2,I2,r2,q2⟩ =>
    thn (ho pins s2 σ H2 x y v u _ I2 r1 r2 q2) fun c s3 ⟨z,H3,I3,r3,k,e,q3⟩=>?_) hm
  subst e
  cases r3
  exact wpAny_truthy_bool ⟨H3,I3,q3⟩
def tChain (r r':R2) (ta tb tc:TE):TE:=fun σ H Q=>ta σ H fun x H1=>tb σ H1 fun y H2=>r x y H2 fun z H3=>∃ k,z=.bl k ∧
  (if k=true then tc σ H3 fun w' H4=>r' y w' H4 Q else Q (.bl false) H3)
theorem pe_chain {op op':CmpOp} {r r':R2} (ho:OpR X (compareOp op) r) (ho':OpR X (compareOp op') r') (ha:PE X a ta) (hb:PE X b tb) (hc:PE X c tc)
    (hm:lastMarks [op,op'] [b,c]=false:=by with_unfolding_all rfl):PE X (.Compare a [op,op'] [b,c] pos) (tChain r r' ta tb tc):=by
  intro pins s σ H Q I h
  refine Compare_chain (thn (ha pins s σ H _ I h) fun v s1 ⟨x,H1,I1,r1,q1⟩=>chain_link (thn (hb pins s1 σ H1 _ I1 q1) fun u s2 ⟨y,H2,I2,r2,q2⟩ =>
    thn (ho pins s2 σ H2 x y v u _ I2 r1 r2 q2) fun d s3 ⟨z,H3,I3,r3,k,e,q3⟩=>?_)) hm
  subst e
  cases r3
  refine wpAny_truthy_bool ?_
  cases k with
  | false=>exact ite_ff ⟨.bl false,H3,I3,rfl,q3⟩
  | true=>exact ite_tt (chain_last (thn (hc pins s3 σ H3 _ I3 q3) fun w' s4 ⟨z',H4,I4,r4,q4⟩=>ho' pins s4 σ H4 y z' u w' Q I4 r2 r4 q4))
theorem pt_chain {op op':CmpOp} {r r':R2} (ho:OpR X (compareOp op) r) (ho':OpR X (compareOp op') r') (ha:PE X a ta) (hb:PE X b tb) (hc:PE X c tc)
    (hm:lastMarks [op,op'] [b,c]=false:=by with_unfolding_all rfl):PT X (.Compare a [op,op'] [b,c] pos) (tTest (tChain r r' ta tb tc)):=by
  intro pins s σ H Q I h
  refine isTrue_chain (thn (ha pins s σ H _ I h) fun v s1 ⟨x,H1,I1,r1,q1⟩=>test_link (thn (hb pins s1 σ H1 _ I1 q1) fun u s2 ⟨y,H2,I2,r2,q2⟩ =>
    thn (ho pins s2 σ H2 x y v u _ I2 r1 r2 q2) fun d s3 ⟨z,H3,I3,r3,k,e,q3⟩=>?_)) hm
  subst e
  cases r3
  refine wpAny_truthy_bool ?_
  cases k with
  | false =>
    obtain ⟨k',e',q'⟩:=q3
    cases e'
    exact ite_ff ⟨H3,I3,q'⟩
  | true =>
    refine ite_tt (test_last (thn (hc pins s3 σ H3 _ I3 q3) fun w' s4 ⟨z',H4,I4,r4,q4⟩=>thn (ho' pins s4 σ H4 y z' u w' _ I4 r2 r4 q4) fun d' s5 ⟨z2,H5,I5,r5,k2,e2,q5⟩=>?_))
    subst e2
    cases r5
    exact wpAny_truthy_bool ⟨H5,I5,q5⟩
theorem line63:(sizeLine:Nat) < 2 ^ 63:=by rw [sizeLine_eq]; decide
theorem op_add_str:OpR X (binaryOp .Add) (fun x y H Q=>∃ i j,x=.str i∧y=.str j∧i.length + j.length≤sizeLine∧Q (.str (i ++ j)) H):=by
  intro pins s σ H x y v u Q I rx ry h
  obtain ⟨i,j,rfl,rfl,hz,q⟩:=h
  obtain ⟨t,rfl⟩:=rx
  obtain ⟨t',rfl⟩:=ry
  exact add_str (fun t' tk=>⟨.str (i ++ j),H,I.tok _,⟨_,rfl⟩,q⟩) hz
theorem qg8 {x:V} {us:List Value} (r:Vals [x] us):∃ u,us=[u]∧RelV x u:=by
  cases r with
  | cons r1 r2=>cases r2; exact ⟨_,rfl,r1⟩
theorem vals2 {x y:V} {us:List Value} (r:Vals [x,y] us):∃ u w',us=[u,w']∧RelV x u∧RelV y w':=by
  cases r with
  | cons r1 r2 =>
    cases r2 with
    | cons r3 r4=>cases r4; exact ⟨_,_,rfl,r1,r3⟩
theorem call_max2 (hc:X.calm=true):qd1 X (.builtin "max") (fun xs H Q=>∃ i j,xs=[.int i,.int j]∧Q (.int (if j > i then j else i)) H):=by
  intro pins s σ H xs us Q I r h
  obtain ⟨i,j,rfl,q⟩:=h
  obtain ⟨u,w',rfl,⟨t,rfl⟩,⟨t',rfl⟩⟩:=vals2 r
  refine max_two_ints (I.ok.hd hc) fun h' tk k=>⟨_,H,I.kept k,?_,q⟩
  by_cases hj:j > i
  · rw [if_pos hj,if_pos hj]; exact ⟨_,rfl⟩
  · rw [if_neg hj,if_neg hj]; exact ⟨_,rfl⟩
theorem call_min2 (hc:X.calm=true):qd1 X (.builtin "min") (fun xs H Q=>∃ i j,xs=[.int i,.int j]∧Q (.int (if j < i then j else i)) H):=by
  intro pins s σ H xs us Q I r h
  obtain ⟨i,j,rfl,q⟩:=h
  obtain ⟨u,w',rfl,⟨t,rfl⟩,⟨t',rfl⟩⟩:=vals2 r
  refine min_two_ints (I.ok.hd hc) fun h' tk k=>⟨_,H,I.kept k,?_,q⟩
  by_cases hj:j < i
  · rw [if_pos hj,if_pos hj]; exact ⟨_,rfl⟩
  · rw [if_neg hj,if_neg hj]; exact ⟨_,rfl⟩
end
end L2
namespace L2
open PySem PySem.Spec PyProof.Rows
structure ObjM (h:Heap) (x dx C:Addr) (mA:Str→Option Value):Prop where
  obj:h.get? x=some (PySem.W.instObj C dx)
  ns:h.Ns1 dx mA
  ne:dx≠x
theorem lookIn_ns {h:Heap} {dx:Addr} {mA:Str→Option Value} (n:h.Ns1 dx mA):∃ od,h.get? dx=some od∧∀ name,PySem.W.lookIn name od=some (mA name):=by
  obtain ⟨o,es,ep,ho,hd,hk,_,hm⟩:=n
  refine ⟨o,ho,fun name=>?_⟩
  have e:=hm name
  unfold nsFind findBy at e
  rw [← Array.find?_toList] at e
  unfold PySem.W.lookIn
  rw [hd]
  dsimp only
  split
  · rename_i y q
    rw [q] at e
    exact congrArg some e
  · rename_i q
    rw [q] at e
    have a:es.toList.any (·.refKey)=false:=by
      rw [List.any_eq_false]
      intro y hy
      obtain ⟨z,t,hkey⟩:=hk y (Array.mem_toList_iff.mp hy)
      simp [DictEntry.refKey,hkey]
    have a':¬ es.toList.any (·.refKey)=true:=by rw [a]; exact Bool.false_ne_true
    rw [if_neg a']
    exact congrArg some e
theorem ObjM.look {h:Heap} {x dx C:Addr} {mA:Str→Option Value} (I:ObjM h x dx C mA):∃ od,PySem.W.InstAt h x (PySem.W.instObj C dx) C (some od)∧∀ name,PySem.W.lookIn name od=some (mA name) :=
  let ⟨od,ho,hl⟩:=lookIn_ns I.ns
  ⟨od,⟨I.obj,rfl,rfl,ho⟩,hl⟩
section
variable {prog:Program} {w:World} {A:Around} {E:Value→Shared→Prop} {s:Shared} {K:PySem.W.Frag} {x dx C f:Addr} {mA:Str→Option Value} {name:Str} {v:Value}
end
section
variable {P:Program} {w:World} {H H':Hp} {h h':Heap} {a C dx:Addr} {fs fs':List (Str×V)}
theorem ins_get (hok:HOk P w H h) (e:H a=some (.ins C dx fs)):∃ mA,ObjM h a dx C mA∧(∀ f,RelO (fs.lookup f) (mA f))∧PySem.Within mA (fs.map (·.1))∧fs.length≤1000∧H dx=some (.own a):=by
  obtain ⟨d,z,ne,ob,mA,n,r,q⟩:=(show ObjOk P w H h a (.ins C dx fs) from hok a _ e)
  exact ⟨mA,⟨ob,n,ne⟩,r,q,z,d⟩
end
structure Cls (K:PySem.W.Frag) (C:Addr):Prop where
  pg:PySem.W.plainGet K C Str.empty=true
  hd:PySem.W.hasDictIn K C=true
  po:PySem.W.plainOver K C=true
  sa:PySem.W.findIn K (.ref C) "__setattr__"=some (some (.builtin "object.__setattr__"))
theorem Cls.get {K:PySem.W.Frag} {C:Addr} (c:Cls K C) (f:Str):PySem.W.plainGet K C f=true:=c.pg
section
variable {X:Cx} {pins:List (Addr×Obj)} {σ:St} {H:Hp} {s:Shared} {a C dx:Addr} {fs:List (Str×V)} {f:Str} {v:V} {A:Around} {E:Value→Shared→Prop}
end
section
variable {X:Cx} {o e value:Expr} {f:Str} {pos pos' tpos:Pos} {ta tv:TE}
end
section
variable {X:Cx} {pins:List (Addr×Obj)} {σ:St} {H:Hp} {s:Shared} {A:Around} {E:Value→Shared→Prop} {Q:Value→Shared→Prop} {c:Value} {b:Bool}
inductive TyOf (K:PySem.W.Frag) (H:Hp):V→Value→Prop where
  | non:TyOf K H .non (.type "NoneType")
  | bl (x:Bool):TyOf K H (.bl x) (.type "bool")
  | int (i:Int):TyOf K H (.int i) (.type "int")
  | str (x:Str):TyOf K H (.str x) (.type "str")
  | flt (x:UInt64):TyOf K H (.flt x) (.type "float")
  | lst {a:Addr} {xs:List V} (e:H a=some (.lst xs)):TyOf K H (.ref a) (.type "list")
  | frz {a:Addr} {o:Obj} {xs:List V} (e:H a=some (.frz o (.lst xs))):TyOf K H (.ref a) (.type "list")
  | tup {a:Addr} {xs:List V} (e:H a=some (.tup xs)):TyOf K H (.ref a) (.type "tuple")
  | dK {a:Addr} {kvs:List (Key×V)} (e:H a=some (.dK kvs)):TyOf K H (.ref a) (.type "dict")
  | dT {a:Addr} {kvs:List (List Key×V)} (e:H a=some (.dT kvs)):TyOf K H (.ref a) (.type "dict")
  | ins {a C dx:Addr} {fs:List (Str×V)} (e:H a=some (.ins C dx fs)) (cl:Cls K C) (ha:PySem.W.findIn K (.ref C) "__class__"=some (some (.builtin "object.__class__")))
      (hn:PySem.W.specialIn K (.builtin "object.__class__") "__get__"=some (some (.builtin "getset_descriptor.__get__"))) (htk:PySem.W.takesIn K (.builtin "object.__class__")=some true)
      (hm:PySem.W.mroIn K C (.type "object")=some true):TyOf K H (.ref a) (.ref C)
theorem isinst_ok {x:V} {u t:Value} (I:Inv X pins σ H s) (rx:RelV x u) (ty:TyOf X.K H x t) (e:PySem.W.kitOne X.K t c=some b) (h:∀ tk,Q (.bool b) { s with toks:=tk }) :
    wpAny (model X.prog X.w) A (call (.builtin "isinstance") [u,c]) Q E s:=by
  cases ty with
  | non=>cases (show u=Value.none from rx); exact PySem.W.kia_one PySem.W.kitx_none I.kIn True.intro e (fun z=>nomatch z) h
  | bl y=>cases (show u=Value.bool y from rx); exact PySem.W.kia_one PySem.W.kitx_bool I.kIn True.intro e (fun z=>nomatch z) h
  | int i=>obtain ⟨t,q⟩:=(show ∃ t,u=Value.int i t from rx); cases q; exact PySem.W.kia_one PySem.W.kitx_int I.kIn True.intro e (fun z=>nomatch z) h
  | str y=>obtain ⟨t,q⟩:=(show ∃ t,u=Value.str y t from rx); cases q; exact PySem.W.kia_one PySem.W.kitx_str I.kIn True.intro e (fun z=>nomatch z) h
  | flt y=>obtain ⟨t,q⟩:=(show ∃ t,u=Value.float y t from rx); cases q; exact PySem.W.kia_one PySem.W.kitx_float I.kIn True.intro e (fun z=>nomatch z) h
  | @lst a xs ea =>
    cases (show u=Value.ref a from rx)
    obtain ⟨_,_,n,_,h1⟩:=(show ObjOk X.prog X.w H s.heap a (.lst xs) from I.hok a _ ea)
    exact PySem.W.kia_one PySem.W.kitx_list I.kIn ⟨_,h1,rfl⟩ e (fun z=>nomatch z) h
  | @frz a ob xs ea =>
    cases (show u=Value.ref a from rx)
    obtain ⟨_,_,_,n,_,h1⟩:=(show ObjOk X.prog X.w H s.heap a (.frz ob (.lst xs)) from I.hok a _ ea)
    exact PySem.W.kia_one PySem.W.kitx_list I.kIn ⟨_,h1,rfl⟩ e (fun z=>nomatch z) h
  | @tup a xs ea =>
    cases (show u=Value.ref a from rx)
    obtain ⟨_,_,_,p⟩:=(show ObjOk X.prog X.w H s.heap a (.tup xs) from I.hok a _ ea)
    obtain ⟨o,h1,h2,_⟩:=p
    exact PySem.W.kia_one PySem.W.kitx_tuple I.kIn ⟨o,h1,h2⟩ e (fun z=>nomatch z) h
  | @dK a kvs ea =>
    cases (show u=Value.ref a from rx)
    obtain ⟨_,_,vs,_,p⟩:=(show ObjOk X.prog X.w H s.heap a (.dK kvs) from I.hok a _ ea)
    obtain ⟨o,es,ep,h1,h2,_⟩:=p
    exact PySem.W.kia_one PySem.W.kitx_dict I.kIn ⟨o,h1,h2.1⟩ e (fun z=>nomatch z) h
  | @dT a kvs ea =>
    cases (show u=Value.ref a from rx)
    obtain ⟨_,_,xs,_,o,es,ep,h1,h2,_⟩:=(show ObjOk X.prog X.w H s.heap a (.dT kvs) from I.hok a _ ea)
    exact PySem.W.kia_one PySem.W.kitx_dict I.kIn ⟨o,h1,h2.1⟩ e (fun z=>nomatch z) h
  | @ins a C dx fs ea cl ha hn htk hm =>
    cases (show u=Value.ref a from rx)
    obtain ⟨mA,O,_⟩:=ins_get I.hok ea
    obtain ⟨od,J,_⟩:=O.look
    exact PySem.W.kia_one (PySem.W.kitx_own (cl.get _) cl.hd ha hn htk hm) I.kIn J e (fun z=>nomatch z) h
end
end L2
namespace L2
open PySem PySem.Spec PyProof.Rows
structure Room (k:Nat) (A:Around):Prop where
  hd:A.handled=none
  dp:A.depth + 3 * k + 5 < recursionLimit
  un:A.units + 16 * k + 200 < cLine
theorem Room.mono {j k:Nat} {A:Around} (r:Room k A) (h:j≤k):Room j A:=⟨r.hd,by have:=r.dp; omega,by have:=r.un; omega⟩
theorem Room.deeper {k:Nat} {A:Around} (r:Room (k + 1) A) (env:Env):Room k (A.deeper env) :=
  ⟨r.hd,by have:=r.dp; show A.depth + 1 + 3 * k + 5 < _; omega,by have:=r.un; show A.units + 3 + 16 * k + 200 < _; omega⟩
theorem Room.depth {k:Nat} {A:Around} (r:Room k A):A.depth < recursionLimit:=by have:=r.dp; omega
theorem Room.units {k:Nat} {A:Around} (r:Room k A):A.units + 64 < cLine:=by have:=r.un; omega
def tNil:TA:=fun _ H Q=>Q [] H
def tCons (ta:TE) (tr:TA):TA:=fun σ H Q=>ta σ H fun x H1=>tr σ H1 fun xs H2=>Q (x :: xs) H2
section
variable {X:Cx} {e:Expr} {es:List Expr} {te:TE} {t:TA} {pos:Pos}
theorem pa_nil:PA X [] tNil:=fun _ _ _ _ H Q I h=>Calls.spliced_nil ⟨[],H,I,.nil,h⟩
theorem qe0 (ha:PE X e te) (hr:PA X es t) (hs:starEach (e :: es) X.env=(false,eval e X.env) :: starEach es X.env:=by rfl):PA X (e :: es) (tCons te t):=by
  intro pos pins s σ H Q I h
  rw [hs]
  show wpAny _ _ (spliced ((false,eval e X.env) :: backTo pos (starEach es X.env))) _ _ s
  refine Calls.spliced_cons (thn (ha pins s σ H _ I h) fun u s1 ⟨x,H1,I1,r1,q1⟩=>?_)
  exact thn (hr pos pins s1 σ H1 _ I1 q1) fun us s2 ⟨xs,H2,I2,r2,q2⟩=>⟨x :: xs,H2,I2,.cons r1 r2,q2⟩
def tTup (t:TA):TE:=fun σ H Q=>t σ H fun xs H1=>xs.length≤sizeLine∧∀ p,H1 p=none→Q (.ref p) (upd H1 p (.tup xs))
def tLst (t:TA):TE:=fun σ H Q=>t σ H fun xs H1=>xs.length≤sizeLine∧∀ p,H1 p=none→Q (.ref p) (upd H1 p (.lst xs))
theorem pe_tup {x1} (h:PA X es t):PE X (.Tuple es x1 pos) (tTup t):=by
  intro pins s σ H Q I hq
  refine wpAny_Tuple_spliced (thn (h pos pins s σ H _ I hq) fun us s1 ⟨xs,H1,I1,r,z,q⟩=>⟨by rw [← r.length]; exact z,?_⟩)
  have hf:H1 s1.heap.objs.size=none:=I1.hok.fresh (Nat.le_refl _)
  refine ⟨.ref s1.heap.objs.size,upd H1 s1.heap.objs.size (.tup xs),I1.laid (t':=s1.toks) (fun b u e=>Heap.get?_push_of_some _ e) (Nat.le_refl _) ?_,rfl,q _ hf⟩
  exact ⟨z,us,r,⟨_,Heap.get?_push_size _ rfl,rfl,⟨_,rfl⟩,rfl⟩⟩
theorem pe_lst (h:PA X es t):PE X (.List es pos) (tLst t):=by
  intro pins s σ H Q I hq
  refine wpAny_List_spliced (thn (h pos pins s σ H _ I hq) fun us s1 ⟨xs,H1,I1,r,z,q⟩=>⟨by rw [← r.length]; exact z,?_⟩)
  have hf:H1 s1.heap.objs.size=none:=I1.hok.fresh (Nat.le_refl _)
  refine ⟨.ref s1.heap.objs.size,upd H1 s1.heap.objs.size (.lst xs),I1.laid (t':=s1.toks) (fun b u e=>Heap.get?_push_of_some _ e) (Nat.le_refl _) ?_,rfl,q _ hf⟩
  exact ⟨z,us,0,r,Heap.get?_push_size _ rfl⟩
end
abbrev Sp:=List V→Hp→VK→XK→Prop
abbrev CXT:=List Env→Hp→Shared→XK→Value→Shared→Prop
structure Env0 (P:Program) (w:World) (K:PySem.W.Frag) (mg:Str→Option Value) (base:Heap) (A:Around) (outer:List Env) (s:Shared) (H:Hp):Prop where
  frames:A.frames=some outer
  mod:Mod K mg base
  bs:∀ b o,base.get? b=some o→s.heap.get? b=some o∧H b=none
  bsz:base.objs.size≤s.heap.objs.size
  funs:s.heap.FunFrames base outer
  frf:∀ b∈frs outer,H b=none
  hok:HOk P w H s.heap
  bare:AllBare s.gens
def CE (outer:List Env) (P:Program) (w:World) (H:Hp) (s:Shared) (Q:VK) (u:Value) (s':Shared):Prop :=
  ∃ v H',s'.os=s.os∧AllBare s'.gens∧Un (frs outer) [] H H' s.heap s'.heap∧HOk P w H' s'.heap∧RelV v u∧Q v H'
def CR (CX:CXT) (outer:List Env) (P:Program) (w:World) (H:Hp) (s:Shared) (Q:VK) (E:XK) (r:Result) (s':Shared):Prop :=
  match r with
  | .ok (.ret u)=>CE outer P w H s Q u s'
  | .ok _=>False
  | .error e=>CX outer H s E e s'
structure FnOk (P:Program) (w:World) (K:PySem.W.Frag) (mg:Str→Option Value) (base:Heap) (CX:CXT) (k:Nat) (f:Addr) (fd:FuncData) (ps:List Str) (sp:Sp):Prop where
  len:∀ vs H Q E,sp vs H Q E→vs.length=ps.length
  run:∀ (A:Around) (outer:List Env) (s:Shared) (H:Hp) (args:Args) (us:List Value) (vs:List V) (Q:VK) (E:XK),Room k A→Env0 P w K mg base A outer s H→BindsTo s fd args (ps.zip us)→Vals vs us→sp vs H Q E →
    codeAny (model P w) A (.call (.ref f) args) (CR CX outer P w H s Q E) s
section
variable {X:Cx} {pins:List (Addr×Obj)} {σ:St} {H:Hp} {s s':Shared}
theorem Inv.env0 (I:Inv X pins σ H s):Env0 X.prog X.w X.K X.mg X.base X.A X.stack s H :=
  ⟨I.ok.frames,I.ok.mod,I.bs,Nat.le_trans I.ok.bsz I.sz,I.stack,I.stkFree,I.hok,I.bare⟩
theorem Inv.after {Q:VK} {u:Value} (I:Inv X pins σ H s) (h:CE X.stack X.prog X.w H s Q u s'):EP X pins σ Q u s':=by
  obtain ⟨v,H',os,bare,un,hok,r,q⟩:=h
  obtain ⟨hh,g,d,t,os'⟩:=s'
  obtain rfl:os'=s.os:=os
  exact ⟨v,H',I.call (h':=hh) (g':=g) (d':=d) (t':=t) (ch:=[]) un hok bare (fun b z=>absurd z (by simp)),r,q⟩
end
def tCall (sp:Sp) (dvs:List V) (E:XK) (t:TA):TE:=fun σ H Q=>t σ H fun vs H1=>sp (vs ++ dvs) H1 Q E
def Binds (K:PySem.W.Frag) (fd:FuncData) (ps:List Str) (ds:List Value):Prop :=
  ∀ (s:Shared) (us:List Value),K.In s.heap→(us ++ ds).length=ps.length→BindsTo s fd ⟨us,[]⟩ (ps.zip (us ++ ds))
theorem Binds.all {K:PySem.W.Frag} {fd:FuncData} {ps:List Str} (h:∀ us:List Value,us.length=ps.length→bindArgs fd ⟨us,[]⟩=pure (ps.zip us)):Binds K fd ps []:=fun s us _ hl=>by
  rw [List.append_nil] at hl ⊢
  exact .of_eq (h us hl)
def Passes (CX:CXT) (X:Cx) (E:XK):Prop:=∀ (pins:List (Addr×Obj)) (σ:St) (H:Hp) (s:Shared) (e:Value) (s':Shared),Inv X pins σ H s→CX X.stack H s E e s'→X.xe e s'
section
variable {X:Cx} {CX:CXT} {k:Nat} {f C:Addr} {fd:FuncData} {ps:List Str} {sp:Sp} {dvs:List V} {ds:List Value} {E:XK} {x m:Str} {p pos apos:Pos} {e o:Expr} {es:List Expr} {ta:TE} {t:TA}
theorem run_fn {pins:List (Addr×Obj)} {σ:St} {H:Hp} {s:Shared} {Q:VK} {us:List Value} {vs:List V} (F:FnOk X.prog X.w X.K X.mg X.base CX k f fd ps sp) (hr:Room k X.A) (hb:Binds X.K fd ps ds) (hd:Vals dvs ds) (hx:Passes CX X E)
    (I:Inv X pins σ H s) (r:Vals vs us) (h:sp (vs ++ dvs) H Q E):wpAny (model X.prog X.w) X.A (call (.ref f) us) (EP X pins σ Q) X.xe s:=by
  have r2:Vals (vs ++ dvs) (us ++ ds):=r.append hd
  have hl:(us ++ ds).length=ps.length:=by rw [← r2.length]; exact F.len _ _ _ _ h
  refine wpAny_call (codeAny_mono (F.run X.A X.stack s H ⟨us,[]⟩ (us ++ ds) (vs ++ dvs) Q E hr I.env0 (hb s us I.kIn hl) r2 h) fun r s' hq=>?_)
  cases r with
  | error e=>exact hx pins σ H s e s' I hq
  | ok fl =>
    cases fl with
    | ret u=>exact I.after hq
    | next=>exact False.elim hq
    | brk=>exact False.elim hq
    | cont=>exact False.elim hq
theorem pe_call (F:FnOk X.prog X.w X.K X.mg X.base CX k f fd ps sp) (hr:Room k X.A) (hg:Gl X x) (hm:X.mg x=some (.ref f)) (hk:PySem.W.keepIn X.K (.ref f)=true) (hb:Binds X.K fd ps ds) (hd:Vals dvs ds) (hx:Passes CX X E)
    (ha:PA X (e :: es) t) (hdb:(x == ("__debug__":Str))=false:=by decide) (he:starEach (e :: es) X.env=(false,eval e X.env) :: starEach es X.env:=by rfl) (hpl:(backTo pos (starEach es X.env)).any (·.1)=false:=by rfl) :
    PE X (.Call (.Name x p) (e :: es) [] pos) (tCall sp dvs E t):=by
  intro pins s σ H Q I h
  refine wpAny_Call_Name_kw (qfh I hg hm ?_ hdb)
  refine PySem.W.callWith_K (h₀:=X.base) I.ok.mod.kin hk (thn (ha pos pins s σ H _ I h) fun us s1 ⟨vs,H1,I1,r,q⟩=>⟨I1.kIn,?_⟩) he hpl
  exact run_fn F hr hb hd hx I1 r q
end
section
variable {X:Cx} {CX:CXT} {k:Nat} {f C:Addr} {fd:FuncData} {ps ks:List Str} {sp:Sp} {E:XK} {x m:Str} {p pos apos kpos:Pos} {e o:Expr} {es:List Expr} {kws:List Keyword} {te ta:TE} {t tk:TA} {nm:Option Str}
variable {g:List Value→List Value→List Value} {gV:List V→List V→List V}
end
structure qag (N P:List Str) (sc:Scope):Prop where
  kind:sc.kind=.function
  co:sc.isCoroutine=false
  gen:sc.isGenerator=false
  nd:N.Nodup
  pre:N.take P.length=P
  par:∀ x∈P,sc.names.lookup x=some .local∨sc.names.lookup x=some .cell
  nofree:∀ y∈sc.names,y.2≠.free
theorem bindL_out {kindOf:Str→Option NameKind} {x:Str}:∀ {binds:List (Str×Value)} {m:Str→Option Value},(∀ v,(x,v)∉binds)→bindL kindOf binds m x=m x
  | [],_,_=>rfl
  | (n,v) :: r,m,h=>by
    unfold bindL
    rw [bindL_out fun w hw=>h w (List.mem_cons_of_mem _ hw)]
    split
    · have:x≠n:=by rintro rfl; exact h v List.mem_cons_self
      simp [this]
    · rfl
theorem bindC_out {kindOf:Str→Option NameKind} {x:Str}:∀ {binds:List (Str×Value)} {m:Str→Option Value},(∀ v,(x,v)∉binds)→bindC kindOf binds m x=m x
  | [],_,_=>rfl
  | (n,v) :: r,m,h=>by
    unfold bindC
    rw [bindC_out fun w hw=>h w (List.mem_cons_of_mem _ hw)]
    split
    · rfl
    · have:x≠n:=by rintro rfl; exact h v List.mem_cons_self
      simp [this]
theorem bindL_get {kindOf:Str→Option NameKind} {x:Str} {v:Value}:∀ {P:List Str} {vs:List Value} {i:Nat} {m:Str→Option Value},P.Nodup→P[i]? = some x→vs[i]? = some v→kindOf x=some .local →
    bindL kindOf (P.zip vs) m x=some v
  | [],_,_,_,_,h,_,_=>by simp at h
  | _ :: _,[],_,_,_,_,h,_=>by simp at h
  | p :: P,w :: vs,0,m,nd,h1,h2,hk=>by
    simp at h1 h2; subst h1; subst h2
    show bindL kindOf ((p,w) :: P.zip vs) m p=_
    unfold bindL
    rw [bindL_out fun v hv=>(List.nodup_cons.mp nd).1 (List.of_mem_zip hv).1,if_pos hk]
    simp
  | p :: P,w :: vs,i + 1,m,nd,h1,h2,hk=>by
    show bindL kindOf ((p,w) :: P.zip vs) m x=_
    unfold bindL
    exact bindL_get (i:=i) (List.nodup_cons.mp nd).2 (by simpa using h1) (by simpa using h2) hk
theorem bindC_get {kindOf:Str→Option NameKind} {x:Str} {v:Value}:∀ {P:List Str} {vs:List Value} {i:Nat} {m:Str→Option Value},P.Nodup→P[i]? = some x→vs[i]? = some v→kindOf x≠some .local →
    bindC kindOf (P.zip vs) m x=some v
  | [],_,_,_,_,h,_,_=>by simp at h
  | _ :: _,[],_,_,_,_,h,_=>by simp at h
  | p :: P,w :: vs,0,m,nd,h1,h2,hk=>by
    simp at h1 h2; subst h1; subst h2
    show bindC kindOf ((p,w) :: P.zip vs) m p=_
    unfold bindC
    rw [bindC_out fun v hv=>(List.nodup_cons.mp nd).1 (List.of_mem_zip hv).1,if_neg hk]
    simp
  | p :: P,w :: vs,i + 1,m,nd,h1,h2,hk=>by
    show bindC kindOf ((p,w) :: P.zip vs) m x=_
    unfold bindC
    exact bindC_get (i:=i) (List.nodup_cons.mp nd).2 (by simpa using h1) (by simpa using h2) hk
def start (N:List Str) (vs:List V):St:=vs.map some ++ List.replicate (N.length - vs.length) none
def cxOf (CX:CXT) (P:Program) (w:World) (K:PySem.W.Frag) (mg:Str→Option Value) (base:Heap) (N:List Str) (qual:Str) (scope:Scope) (f:Addr) (cd:Value) (A:Around) (outer:List Env) (s:Shared) (H:Hp) (E:XK):Cx where
  prog:=P
  w:=w
  K:=K
  mg:=mg
  base:=base
  A:=A.deeper (envOfC qual scope s.heap.objs.size f cd)
  N:=N
  s₀:=s
  H₀:=H
  env:=envOfC qual scope s.heap.objs.size f cd
  outer:=outer
  stack:=envOfC qual scope s.heap.objs.size f cd :: outer
  ex:=[]
  calm:=true
  fn:=fun _=>true
  pn:=[]
  xe:=fun e s'=>wpAny (model P w) (A.deeper (envOfC qual scope s.heap.objs.size f cd)) (leaving (envOfC qual scope s.heap.objs.size f cd) e) (fun _ s''=>CX outer H s E e s'') (fun e' s''=>CX outer H s E e' s'') s'
theorem cell_has {sc:Scope} {n:Nat} {x:Str} (h:sc.names.lookup x=some .cell):∃ c,(cellsFrom n sc.names []).lookup x=some c:=by
  have q:=PySem.W.cellsFrom_some sc.names n [] (.inl h)
  exact Option.isSome_iff_exists.mp q
theorem inv_start {CX:CXT} {P:Program} {w:World} {K:PySem.W.Frag} {mg:Str→Option Value} {base:Heap} {N ps:List Str} {qual:Str} {scope:Scope} {f:Addr} {cd:Value} {A:Around} {outer:List Env} {s s1:Shared} {H:Hp} {E:XK} {us:List Value} {vs:List V}
    (S:qag N ps scope) (hd:A.handled=none) (e0:Env0 P w K mg base A outer s H) (hl:vs.length=ps.length) (r:Vals vs us)
    (x:InCallC s s.heap.objs.size (bindL (envOfC qual scope s.heap.objs.size f cd).kindOf (ps.zip us) fun _=>none) (cellsFrom (s.heap.objs.size + 1) scope.names []) (bindC (envOfC qual scope s.heap.objs.size f cd).kindOf (ps.zip us) fun _=>none) s1) :
    Inv (cxOf CX P w K mg base N qual scope f cd A outer s H E) [] (start N vs) H s1:=by
  have hpl:ps.length≤N.length:=by have:=congrArg List.length S.pre; rw [List.length_take] at this; omega
  obtain ⟨h1,tk,rfl,hk⟩:=x.done
  have noA:∀ b:Addr,b∉(cxOf CX P w K mg base N qual scope f cd A outer s H E).ex:=fun b z=>absurd (show b∈([]:List Addr) from z) (by simp)
  refine ⟨⟨e0.mod,S.kind,rfl,rfl,Nat.le_refl _,fun y z c h1 h2=>?_,fun y hy=>?_,fun y c _ h=>?_,fun _=>hd,Around.frames_deeper e0.frames,.inr ⟨rfl,rfl⟩,fun b z=>absurd z (noA b),e0.bs,e0.bsz,fun b _ _=>noA b,fun b z=>absurd z (noA b),e0.funs,e0.frf⟩,
    rfl,e0.bare,Un.kept hk,⟨_,x.toInCall.ns,fun i y v h1 h2 h3=>?_⟩,fun y c h=>⟨_,x.cell y c h⟩,e0.hok.fresh (Nat.le_refl _),fun y c h=>?_,fun p hp=>absurd (show p∈([]:List (Addr×Obj)) from hp) (by simp),e0.hok.kept hk,?_⟩
  · exact name_of_addr x.apart (PySem.mem_of_lookup h1) (PySem.mem_of_lookup h2)
  · have hy:scope.names.lookup y=some .cell∨scope.names.lookup y=some .free:=hy
    rcases hy with hy | hy
    · exact cell_has hy
    · exact absurd rfl (S.nofree _ (PySem.mem_of_lookup hy))
  · exact Nat.le_of_lt (x.above y c (PySem.mem_of_lookup h))
  · have hi:i < vs.length:=by
      unfold start at h2
      by_cases hi:i < vs.length
      · exact hi
      · rw [List.getElem?_append_right (by simpa using hi)] at h2
        rw [List.getElem?_replicate] at h2
        split at h2 <;> cases h2
    have ha:vs[i]? = some v:=by
      unfold start at h2
      rw [List.getElem?_append_left (by simpa using hi),List.getElem?_map] at h2
      cases e:vs[i]? with
      | none=>rw [e] at h2; cases h2
      | some a=>rw [e] at h2; cases h2; rfl
    obtain ⟨u,hu,rv⟩:=r.get ha
    have hp:ps[i]? = some y:=by
      rw [← S.pre,List.getElem?_take_of_lt (by omega)]; exact h1
    have ndP:ps.Nodup:=by rw [← S.pre]; exact S.nd.sublist (List.take_sublist _ _)
    refine ⟨u,rv,?_⟩
    rcases S.par y (List.mem_of_getElem? hp) with k | k
    · exact .inl ⟨k,bindL_get ndP hp hu k⟩
    · obtain ⟨c,e⟩:=cell_has (n:=s.heap.objs.size + 1) k
      refine .inr ⟨.inl k,c,e,?_⟩
      have q:=x.cell y c e
      rw [bindC_get ndP hp hu (by show scope.names.lookup y≠_; rw [k]; decide)] at q
      exact q
  · exact e0.hok.fresh (Nat.le_of_lt (x.above y c (PySem.mem_of_lookup h)))
  · unfold start
    show _=N.length
    rw [List.length_append,List.length_map,List.length_replicate]
    omega
theorem fn_of {CX:CXT} {P:Program} {w:World} {K:PySem.W.Frag} {mg:Str→Option Value} {base:Heap} {k:Nat} {f:Addr} {name qual:Str} {params:Arguments} {body:List Stmt} {scope:Scope} {dV kV doc pm cdv ct oc:Value} {an od:Option Addr}
    {osl:Array (Option Value)} {N ps:List Str} {sp:Sp} (lk:K.lookup f=some ⟨oc,od,.func (PySem.W.fnOf name qual params body scope dV kV doc pm an cdv ct),osl⟩) (hcd:PySem.W.codeIn K cdv qual=true) (S:qag N ps scope)
    (len:∀ vs H Q E,sp vs H Q E→vs.length=ps.length)
    (hbody:∀ (A:Around) (outer:List Env) (s:Shared) (H:Hp) (vs:List V) (Q:VK) (E:XK),Room k (A.deeper (envOfC qual scope s.heap.objs.size f cdv))→sp vs H Q E →
      ∃ t,PSs (cxOf CX P w K mg base N qual scope f cdv A outer s H E) body t∧t { nx:=fun _ H'=>Q .non H',rt:=Q } (start N vs) H) :
    FnOk P w K mg base CX (k + 1) f (PySem.W.fnOf name qual params body scope dV kV doc pm an cdv ct) ps sp:=by
  refine ⟨len,fun A outer s H args us vs Q E hr e0 hb r hsp=>?_⟩
  have hl:=len _ _ _ _ hsp
  have KX:K.In s.heap:=e0.mod.kin.keeps fun b o e=>(e0.bs b o e).1
  have lim:s.heap.NoLimit:=e0.mod.nolimit.keeps fun b o e=>(e0.bs b o e).1
  have hkind:∀ y∈ps.zip us,scope.names.lookup y.1=some .local∨(scope.names.lookup y.1=some .cell∧((cellsFrom (s.heap.objs.size + 1) scope.names []).lookup y.1).isSome=true):=fun ⟨n,v⟩ hy=>by
    rcases S.par n (List.of_mem_zip hy).1 with q | q
    · exact .inl q
    · exact .inr ⟨q,PySem.W.cellsFrom_some _ _ _ (.inl q)⟩
  refine codeAny_call_function hr.depth (KX _ _ lk) rfl S.co S.gen rfl (PySem.W.codeRec_of KX hcd) (hb _ _ _ _ ?_)
  refine wpAny_newFunctionEnv_cells S.kind hkind fun env he s1 x=>?_
  subst he
  refine ⟨lim.keeps x.toInCall.keep,codeAny_func ?_⟩
  obtain ⟨t,ht,hq⟩:=hbody A outer s H vs Q E (hr.deeper _) hsp
  have I:Inv (cxOf CX P w K mg base N qual scope f cdv A outer s H E) [] (start N vs) H s1:=inv_start S hr.hd e0 hl r x
  refine wpAny_mono (ht [] s1 (start N vs) H _ I hq) (fun fl s' hs=>?_) fun e s' hs=>hs
  have fin:∀ {σ':St} {H':Hp} {v:V} {u:Value},Inv (cxOf CX P w K mg base N qual scope f cdv A outer s H E) [] σ' H' s'→RelV v u→Q v H'→CE outer P w H s Q u s' :=
    fun {σ' H' v u} J rv q=>⟨v,H',J.os,J.bare,J.base,J.hok,rv,q⟩
  cases fl with
  | ret u =>
    obtain ⟨v,σ',H',J,rv,q⟩:=hs
    exact fin J rv q
  | next =>
    obtain ⟨σ',H',J,q⟩:=hs
    exact fin (v:=V.non) (u:=Value.none) J rfl q
  | brk =>
    obtain ⟨_,_,_,q⟩:=hs
    exact False.elim q
  | cont =>
    obtain ⟨_,_,_,q⟩:=hs
    exact False.elim q
end L2
namespace L2
open PySem PySem.Spec PyProof.Rows
section
variable {X:Cx} {x:Str} {p pos:Pos} {e:Expr} {es:List Expr} {t:TA} {id T:String} {r:List V→Hp→VK→Prop}
def tCB (r:List V→Hp→VK→Prop) (t:TA):TE:=fun σ H Q=>t σ H fun vs H1=>r vs H1 Q
theorem qgl (hc:qd1 X (.builtin id) r) (hg:Gl X x) (hm:X.mg x=none) (hv:bootBuiltins x=some (.builtin id)) (ha:PA X (e :: es) t) (hn:x≠"__name__":=by decide) (hdb:(x == ("__debug__":Str))=false:=by decide)
    (he:starEach (e :: es) X.env=(false,eval e X.env) :: starEach es X.env:=by rfl) (hpl:(backTo pos (starEach es X.env)).any (·.1)=false:=by rfl):PE X (.Call (.Name x p) (e :: es) [] pos) (tCB r t):=by
  intro pins s σ H Q I h
  refine wpAny_Call_Name_kw (qej I hg hm hv ?_ hn hdb)
  exact PyProof.Rows.callWith_builtin1 (thn (ha pos pins s σ H _ I h) fun us s1 ⟨vs,H1,I1,r1,q1⟩=>hc pins s1 σ H1 vs us Q I1 r1 q1) he hpl
theorem qf5 (hc:qd1 X (.type T) r) (hg:Gl X x) (hm:X.mg x=none) (hv:bootBuiltins x=some (.type T)) (ha:PA X (e :: es) t) (hn:x≠"__name__":=by decide) (hdb:(x == ("__debug__":Str))=false:=by decide)
    (he:starEach (e :: es) X.env=(false,eval e X.env) :: starEach es X.env:=by rfl) (hpl:(backTo pos (starEach es X.env)).any (·.1)=false:=by rfl):PE X (.Call (.Name x p) (e :: es) [] pos) (tCB r t):=by
  intro pins s σ H Q I h
  refine wpAny_Call_Name_kw (qej I hg hm hv ?_ hn hdb)
  exact PyProof.Rows.callWith_type1 (thn (ha pos pins s σ H _ I h) fun us s1 ⟨vs,H1,I1,r1,q1⟩=>hc pins s1 σ H1 vs us Q I1 r1 q1) he hpl
end
end L2
namespace HT
open PySem PyProof.Rows
section
open PySem.SeqAt
open PySem.AutoSeq1 (wpAny_loadPart')
open PySem.MeetsSeq PySem.MeetsSeq2 PySem.MeetsSeq3
end
section
variable {prog:Program} {w:World} {A:Around} {E:Value→Shared→Prop} {s:Shared}
theorem cat_tup {t b:Addr} {vs ws:List Value} {Q:Value→Shared→Prop} (ht:IsTup s.heap t vs.toArray) (hb:IsTup s.heap b ws.toArray) (hv:vs≠[])
    (h1:ws=[]→Q (.ref t) s) (h2:ws≠[]→Q (.ref s.heap.objs.size) { s with heap:=s.heap.push { cls:=.type "tuple",data:=.seq (vs ++ ws).toArray } })
    (hsz:vs.length + ws.length≤sizeLine):wpAny (model prog w) A (binaryOp .Add (.ref t) (.ref b)) Q E s:=by
  obtain ⟨⟨cls,dd,data,sl⟩,ho,hc,n,hd⟩:=id ht
  obtain ⟨⟨cls2,dd2,data2,sl2⟩,ho2,hc2,n2,hd2⟩:=id hb
  simp only at hc hd hc2 hd2
  subst hc hd hc2 hd2
  have e:vs.toArray ++ ws.toArray=(vs ++ ws).toArray:=by simp
  by_cases hw:ws=[]
  · exact concat_meets ⟨_,ho,rfl⟩ ⟨_,ho2,rfl⟩ noFill_tuple_add seq_tuple_add PySem.F.slot_tuple_add PySem.F.entry_tuple_add (PySem.F.args_tuple_add_2 _ _)
      (tuple_addW1 t b vs.toArray ws.toArray n n2 dd dd2 sl sl2 (by simpa using hv) (by simp [hw])) ⟨ho,ho2,h1 hw⟩
  · refine concat_meets ⟨_,ho,rfl⟩ ⟨_,ho2,rfl⟩ noFill_tuple_add seq_tuple_add PySem.F.slot_tuple_add PySem.F.entry_tuple_add (PySem.F.args_tuple_add_2 _ _)
      (tuple_addW2 t b vs.toArray ws.toArray n n2 dd dd2 sl sl2 (by simpa using hv) (by simpa using hw) (by rw [List.size_toArray,List.size_toArray]; exact hsz)) ⟨ho,ho2,?_⟩
    rw [e]
    exact h2 hw
def sIx (n d:Nat):Option Int→Nat
  | none=>d
  | some v=>if v < 0 then (v + (n:Int)).toNat else min v.toNat n
theorem sIx_nat (n d k:Nat):sIx n d (some (k:Int))=min k n:=by
  show (if (k:Int) < 0 then ((k:Int) + (n:Int)).toNat else min (k:Int).toNat n)=min k n
  rw [if_neg (by omega),Int.toNat_natCast]
end
end HT
namespace L2
open PySem PySem.Spec PyProof.Rows
abbrev TO:=St→Hp→(Option Int→Hp→Prop)→Prop
def PO (X:Cx) (e:Option Expr) (t:TO):Prop :=
  ∀ (pins:List (Addr×Obj)) (s:Shared) (σ:St) (H:Hp) (Q:Option Int→Hp→Prop),Inv X pins σ H s→t σ H Q →
    wpAny (model X.prog X.w) X.A (evalPart e X.env) (fun u s'=>∃ o H',Inv X pins σ H' s'∧IsPart u o∧Q o H') X.xe s
def tNoPart:TO:=fun _ H Q=>Q none H
def tPart (t:TE):TO:=fun σ H Q=>t σ H fun x H1=>∃ i,x=.int i∧Q (some i) H1
section
variable {X:Cx} {e:Expr} {te:TE} {lo hi:Option Expr} {tl th:TO} {pos p2:Pos}
theorem po_none:PO X none tNoPart:=by
  intro pins s σ H Q I h
  rw [evalPart_none]
  exact wpAny_pure ⟨none,H,I,.none,h⟩
theorem po_some (h:PE X e te):PO X (some e) (tPart te):=by
  intro pins s σ H Q I hw
  rw [evalPart_some]
  refine thn (h pins s σ H _ I hw) fun u s1 ⟨x,H1,I1,r1,q1⟩=>?_
  obtain ⟨i,rfl,q⟩:=q1
  obtain ⟨t,rfl⟩:=r1
  exact ⟨some i,H1,I1,.int i t,q⟩
def SlR (X:Cx) (r:V→Option Int→Option Int→Hp→VK→Prop):Prop :=
  ∀ (pins:List (Addr×Obj)) (s:Shared) (σ:St) (H:Hp) (x:V) (v vl vu:Value) (lo hi:Option Int) (sl:Addr) (Q:VK),Inv X pins σ H s→RelV x v→s.heap.IsSliceOf sl vl vu .none→IsPart vl lo→IsPart vu hi→r x lo hi H Q →
    ∃ T id,typeLookup (.type T) "__getitem__"=pure (some (.builtin id))∧s.TypeIs v T∧wpAny (model X.prog X.w) X.A (getItem v (.ref sl)) (EP X pins σ Q) X.xe s
def tSl (r:V→Option Int→Option Int→Hp→VK→Prop) (te:TE) (tl th:TO):TE:=fun σ H Q=>te σ H fun x H1=>tl σ H1 fun l H2=>th σ H2 fun u H3=>r x l u H3 Q
theorem pe_slice {r:V→Option Int→Option Int→Hp→VK→Prop} (hr:SlR X r) (he:PE X e te) (hl:PO X lo tl) (hu:PO X hi th):PE X (.Subscript e (.Slice lo hi none p2) pos) (tSl r te tl th):=by
  intro pins s σ H Q I h
  refine Subscript_ (thn (he pins s σ H _ I h) fun v s1 ⟨x,H1,I1,r1,q1⟩=>?_)
  refine wpAny_Slice (thn (hl pins s1 σ H1 _ I1 q1) fun vl s2 ⟨l,H2,I2,pl,q2⟩=>thn (hu pins s2 σ H2 _ I2 q2) fun vu s3 ⟨u,H3,I3,pu,q3⟩=>?_)
  rw [evalPart_none]
  refine wpAny_pure ?_
  have I4:Inv X pins σ H3 { s3 with heap:=s3.heap.push { cls:=.type "slice",data:=.fields #[vl,vu,.none] } }:=I3.kept (t':=s3.toks) fun b ob q=>Heap.get?_push_of_some _ q
  obtain ⟨T,id,hT,ht,hg⟩:=hr pins { s3 with heap:=s3.heap.push { cls:=.type "slice",data:=.fields #[vl,vu,.none] } } σ H3 x v vl vu l u s3.heap.objs.size Q I4 r1 (Heap.IsSliceOf.new ..) pl pu q3
  show wpAny (model X.prog X.w) X.A (subscriptTail e (.Slice lo hi none p2) v (.ref s3.heap.objs.size)) (EP X pins σ Q) X.xe { s3 with heap:=s3.heap.push { cls:=.type "slice",data:=.fields #[vl,vu,.none] } }
  exact tail_any (ops:=[.ref s3.heap.objs.size,v]) ht hT hg (by with_unfolding_all rfl)
def cutV (xs:List V) (lo hi:Option Int):List V:=(xs.drop (HT.sIx xs.length 0 lo)).take (HT.sIx xs.length xs.length hi - HT.sIx xs.length 0 lo)
theorem cutV_length (xs:List V) (lo hi:Option Int):(cutV xs lo hi).length≤xs.length:=by
  unfold cutV
  rw [List.length_take,List.length_drop]
  omega
def rCatT (K:PySem.W.Frag):R2:=fun x y H Q=>∃ a b xs ys,x=.ref a∧y=.ref b∧SqT K H a xs∧SqT K H b ys∧xs≠[]∧xs.length + ys.length≤sizeLine ∧
  (ys=[]→Q (.ref a) H)∧(ys≠[]→∀ p,H p=none→Q (.ref p) (upd H p (.tup (xs ++ ys))))
theorem Vals.nil_iff {xs:List V} {us:List Value} (r:Vals xs us):us=[]↔xs=[]:=by
  cases r with
  | nil=>simp
  | cons _ _=>simp
theorem op_catT:OpR X (binaryOp .Add) (rCatT X.K):=by
  intro pins s σ H x y v u Q I rx ry h
  obtain ⟨a,b,xs,ys,rfl,rfl,ha,hb,hx,hz,q1,q2⟩:=h
  cases rx
  cases ry
  obtain ⟨its,r1,p1,_⟩:=I.tuple ha
  obtain ⟨its2,r2,p2,_⟩:=I.tuple hb
  refine HT.cat_tup p1 p2 (fun z=>hx (r1.nil_iff.mp z)) (fun z=>⟨.ref a,H,I,rfl,q1 (r2.nil_iff.mp z)⟩) (fun z=>?_) (by rw [← r1.length,← r2.length]; exact hz)
  refine ⟨.ref s.heap.objs.size,_,I.laid (t':=s.toks) (o:=.tup (xs ++ ys)) (fun b ob q=>Heap.get?_push_of_some _ q) (Nat.le_refl _) ?_,rfl,q2 (fun w=>z (r2.nil_iff.mpr w)) _ (I.hok.fresh (Nat.le_refl _))⟩
  exact ⟨by rw [List.length_append]; exact hz,_,r1.append r2,TupN.new _ _⟩
end
end L2
namespace L2
open PySem PySem.Spec PyProof.Rows
def ixN (n:Nat) (i:Int):Option Nat:=if 0≤i then (if i < n then some i.toNat else none) else if -(n:Int)≤i then some (i + n).toNat else none
def atI {α:Type} (xs:List α) (i:Int):Option α:=(ixN xs.length i).bind fun j=>xs[j]?
theorem ixN_seq {n:Nat} {i:Int} {j:Nat} (h:ixN n i=some j):seqIndex? i n=some j∧j < n∧-(n:Int)≤i∧i < n:=by
  unfold ixN at h
  by_cases h0:0≤i
  · rw [if_pos h0] at h
    by_cases h1:i < n
    · rw [if_pos h1] at h
      have e:i.toNat=j:=Option.some.inj h
      exact ⟨by rw [seqIndex_of h0 h1,e],by omega,by omega,h1⟩
    · rw [if_neg h1] at h; cases h
  · rw [if_neg h0] at h
    by_cases h1:-(n:Int)≤i
    · rw [if_pos h1] at h
      have e:(i + n).toNat=j:=Option.some.inj h
      exact ⟨by rw [seqIndex_neg (by omega) h1,e],by omega,h1,by omega⟩
    · rw [if_neg h1] at h; cases h
theorem atI_get {α:Type} {xs:List α} {i:Int} {v:α} (h:atI xs i=some v):∃ j,seqIndex? i xs.length=some j∧xs[j]? = some v∧j < xs.length∧-(xs.length:Int)≤i∧i < xs.length:=by
  unfold atI at h
  cases e:ixN xs.length i with
  | none=>rw [e] at h; cases h
  | some j =>
    rw [e] at h
    obtain ⟨h1,h2,h3,h4⟩:=ixN_seq e
    exact ⟨j,h1,h,h2,h3,h4⟩
theorem qdw {α:Type} {xs:List α} {j:Nat} {v:α} (h:xs[j]? = some v):atI xs (j:Int)=some v:=by
  have hj:j < xs.length:=(List.getElem?_eq_some_iff.mp h).1
  have e:ixN xs.length (j:Int)=some j:=by
    unfold ixN
    rw [if_pos (by omega),if_pos (by omega)]; simp
  unfold atI; rw [e]; exact h
def PlainIx (b:Expr):Prop:=∀ o i,subscripted b false o i=operate [o,i] (getItem o i)
def IxR (X:Cx) (r:R2):Prop :=
  ∀ (value slice:Expr) (pins:List (Addr×Obj)) (s:Shared) (σ:St) (H:Hp) (x y:V) (v u:Value) (Q:VK),Inv X pins σ H s→RelV x v→RelV y u→r x y H Q →
    subscripted slice false v u=operate [v,u] (getItem v u)→wpAny (model X.prog X.w) X.A (subscriptTail value slice v u) (EP X pins σ Q) X.xe s
def MtR (X:Cx) (id:String) (r:V→List V→Hp→VK→Prop):Prop :=
  ∀ (pins:List (Addr×Obj)) (s:Shared) (σ:St) (H:Hp) (x:V) (xs:List V) (v:Value) (us:List Value) (Q:VK),Inv X pins σ H s→RelV x v→Vals xs us→r x xs H Q →
    wpAny (model X.prog X.w) X.A (call (.builtin id) (v :: us)) (EP X pins σ Q) X.xe s
section
variable {X:Cx} {a b:Expr} {ta tb:TE} {pos:Pos}
theorem pe_ix {r:R2} (hr:IxR X r) (ha:PE X a ta) (hb:PE X b tb) (hs:PlainIx b):PE X (.Subscript a b pos) (tOp r ta tb):=by
  intro pins s σ H Q I h
  exact Subscript_ (binT ha hb I h fun v u s2 x y H2 I2 rx ry q=>hr a b pins s2 σ H2 x y v u Q I2 rx ry q (hs _ _))
def rIxL (K:PySem.W.Frag):R2:=fun x y H Q=>∃ p xs i v,x=.ref p∧y=.int i∧SqL K H p xs∧atI xs i=some v∧Q v H
def rIxT (K:PySem.W.Frag):R2:=fun x y H Q=>∃ p xs i v,x=.ref p∧y=.int i∧SqT K H p xs∧atI xs i=some v∧Q v H
theorem ix_list:IxR X (rIxL X.K):=by
  intro value slice pins s σ H x y v u Q I rx ry h hs
  obtain ⟨p,xs,i,z,rfl,rfl,hq,he,q⟩:=h
  cases rx
  obtain ⟨t,rfl⟩:=ry
  obtain ⟨its,r,pl,hz⟩:=I.list hq
  obtain ⟨j,h1,h2,h3,h4,h5⟩:=atI_get he
  obtain ⟨w,ew,rw'⟩:=r.get h2
  have hl:=r.length
  have hn:=line63
  have fin:EP X pins σ Q w s:=⟨z,H,I,rw',q⟩
  by_cases h0:0≤i
  · have hj:i.toNat=j:=by
      rw [seqIndex_of h0 h5] at h1
      exact Option.some.inj h1
    exact item_listR pl.isList h0 (by omega) (by rw [hj]; simpa using ew) fin hs
  · have hj:(i + (its.toArray.size:Int)).toNat=j:=by
      rw [seqIndex_neg (by omega) h4] at h1
      rw [List.size_toArray,← hl]
      exact Option.some.inj h1
    exact subscriptTail_builtinR (x:=w) pl.isList.typeIs slot_list_getitem.lookup
      (wpAny_getItem_list_neg (Q:=fun r s'=>r=w∧EP X pins σ Q r s') pl.isList (by omega) (by rw [List.size_toArray] <;> omega) (by omega) (by rw [hj]; simpa using ew) ⟨rfl,fin⟩) hs
theorem ix_tup:IxR X (rIxT X.K):=by
  intro value slice pins s σ H x y v u Q I rx ry h hs
  obtain ⟨p,xs,i,z,rfl,rfl,hq,he,q⟩:=h
  cases rx
  obtain ⟨t,rfl⟩:=ry
  obtain ⟨its,r,pl,hz⟩:=I.tuple hq
  obtain ⟨j,h1,h2,h3,h4,h5⟩:=atI_get he
  obtain ⟨w,ew,rw'⟩:=r.get h2
  have hl:=r.length
  have hn:=line63
  have fin:EP X pins σ Q w s:=⟨z,H,I,rw',q⟩
  exact subscriptTail_builtinR (x:=w) pl.typeIs slot_tuple_getitem.lookup
    (getItem_tuple (j:=j) (Q:=fun r s'=>r=w∧EP X pins σ Q r s') pl (by omega) (by omega) (by rw [List.size_toArray,← hl]; exact h1) (by simpa using ew) ⟨rfl,fin⟩) hs
theorem mapSeq_set (its:List Value) (n j:Nat) (u:Value):Obj.mapSeq (·.setIfInBounds j u) { cls:=.type "list",data:=.seq its.toArray n }={ cls:=.type "list",data:=.seq (its.set j u).toArray n }:=by
  simp [Obj.mapSeq]
theorem Inv.lst {pins:List (Addr×Obj)} {σ:St} {H:Hp} {s:Shared} {p:Addr} {xs:List V} (I:Inv X pins σ H s) (h:H p=some (.lst xs)) :
    ∃ (its:List Value) (n:Nat),Vals xs its∧s.heap.get? p=some { cls:=.type "list",data:=.seq its.toArray n }∧xs.length≤sizeLine:=by
  obtain ⟨z,its,n,r,e⟩:=I.hok p _ h
  exact ⟨its,n,r,e,z⟩
theorem Inv.lstUpd {pins:List (Addr×Obj)} {σ:St} {H:Hp} {s:Shared} {p:Addr} {xs ys:List V} {its its':List Value} {n n':Nat} {f:Obj→Obj} (I:Inv X pins σ H s) (h:H p=some (.lst xs))
    (ho:s.heap.get? p=some { cls:=.type "list",data:=.seq its.toArray n }) (hf:f { cls:=.type "list",data:=.seq its.toArray n }={ cls:=.type "list",data:=.seq its'.toArray n' }) (r:Vals ys its') (hz:ys.length≤sizeLine) (t:Nat) :
    Inv X pins σ (upd H p (.lst ys)) { s with heap:=s.heap.update p f,toks:=t }:=by
  have e:(s.heap.update p f).get? p=some { cls:=.type "list",data:=.seq its'.toArray n' }:=by
    rw [Heap.get?_update_self f ho (by rw [hf] <;> rfl),hf]
  refine I.write (x:=p) (e:=p) (by rw [h]; trivial) (.inl rfl) (fun b u hb q=>(Heap.get?_update_other _ _ (Ne.symm hb)).trans q) ⟨_,e⟩ ?_
  exact ⟨hz,its',n',r,e⟩
def rSetL:V→V→V→Hp→(Hp→Prop)→Prop:=fun o i v H Q=>∃ p xs k j,o=.ref p∧i=.int k∧H p=some (.lst xs)∧ixN xs.length k=some j∧Q (upd H p (.lst (xs.set j v)))
theorem set_list:PSet X rSetL:=by
  intro pins s σ H o i v ov iv u Q I ro ri rv h
  obtain ⟨p,xs,k,j,rfl,rfl,hp,hj,q⟩:=h
  cases ro
  obtain ⟨t,rfl⟩:=ri
  obtain ⟨its,n,r,ho,hz⟩:=I.lst hp
  obtain ⟨h1,h2,h3,h4⟩:=ixN_seq hj
  have hl:=r.length
  have hn:=line63
  have I':Inv X pins σ (upd H p (.lst (xs.set j v))) { s with heap:=s.heap.update p (Obj.mapSeq (·.setIfInBounds j u)) } :=
    I.lstUpd hp ho (mapSeq_set its n j u) (r.set rv j) (by rw [List.length_set]; exact hz) s.toks
  by_cases h0:0≤k
  · have hk:k.toNat=j:=by
      rw [seqIndex_of h0 h4] at h1
      exact Option.some.inj h1
    exact PySem.W.ki_setAt ho h0 (by omega) (by rw [List.size_toArray,← hl]; exact h4) (by rw [hk]; exact ⟨_,I',q⟩)
  · have hk:(k + (its.toArray.size:Int)).toNat=j:=by
      rw [seqIndex_neg (by omega) h3] at h1
      rw [List.size_toArray,← hl]
      exact Option.some.inj h1
    exact PySem.W.ki_setBack ho (by omega) (by rw [List.size_toArray,← hl]; exact h3) (by omega) (by rw [hk]; exact ⟨_,I',q⟩)
theorem slice_bounds (lo hi:Option Int) (n:Nat):(sliceBounds lo hi none n).1=((HT.sIx n 0 lo:Nat):Int)∧(sliceBounds lo hi none n).2.1=((HT.sIx n n hi:Nat):Int)∧(sliceBounds lo hi none n).2.2=1:=by
  refine ⟨?_,?_,rfl⟩
  · cases lo with
    | none=>simp [sliceBounds,HT.sIx]
    | some i =>
      simp only [sliceBounds,HT.sIx,Option.getD_none,show (1:Int) > 0 by decide,if_true]
      by_cases h:i < 0
      · simp only [h,if_true] <;> omega
      · simp only [h,if_false] <;> omega
  · cases hi with
    | none=>simp [sliceBounds,HT.sIx]
    | some i =>
      simp only [sliceBounds,HT.sIx,Option.getD_none,show (1:Int) > 0 by decide,if_true]
      by_cases h:i < 0
      · simp only [h,if_true] <;> omega
      · simp only [h,if_false] <;> omega
theorem qge (its:List Value) (lo hi:Option Int):slicePick its.toArray lo hi none=((its.drop (HT.sIx its.length 0 lo)).take (HT.sIx its.length its.length hi - HT.sIx its.length 0 lo)).toArray:=by
  obtain ⟨h1,h2,h3⟩:=slice_bounds lo hi its.toArray.size
  unfold slicePick
  rw [h1,h2,h3]
  simp only [sliceRange_one,pick_run,List.size_toArray] <;> rfl
def rSlL (K:PySem.W.Frag):V→Option Int→Option Int→Hp→VK→Prop:=fun x lo hi H Q=>∃ a xs,x=.ref a∧SqL K H a xs∧∀ p,H p=none→Q (.ref p) (upd H p (.lst (cutV xs lo hi)))
theorem sl_list:SlR X (rSlL X.K):=by
  intro pins s σ H x v vl vu lo hi sl Q I rx hs pl pu h
  obtain ⟨a,xs,rfl,hx,q⟩:=h
  cases rx
  obtain ⟨its,r,ht,hz⟩:=I.list hx
  have hlen:=r.length
  refine ⟨"list",_,slot_list_getitem.lookup,ht.isList.typeIs,?_⟩
  refine wpAny_getItem_list_slice ht.isList hs pl pu .none (by simp) ?_ (by rw [List.size_toArray] <;> omega)
  rw [qge,← hlen]
  refine ⟨.ref s.heap.objs.size,_,I.laid (t':=s.toks) (o:=.lst (cutV xs lo hi)) (fun b ob q=>Heap.get?_push_of_some _ q) (Nat.le_refl _) ?_,rfl,q _ (I.hok.fresh (Nat.le_refl _))⟩
  exact ⟨Nat.le_trans (cutV_length xs lo hi) hz,_,0,(r.drop (HT.sIx xs.length 0 lo)).take (HT.sIx xs.length xs.length hi - HT.sIx xs.length 0 lo),Heap.get?_push_size _ rfl⟩
theorem call_len_seq:qd1 X (.builtin "len") (fun xs H Q=>∃ p ys,xs=[.ref p]∧(SqL X.K H p ys∨SqT X.K H p ys)∧Q (.int ys.length) H):=by
  intro pins s σ H xs us Q I r h
  obtain ⟨p,ys,rfl,hq,q⟩:=h
  obtain ⟨u,rfl,rx⟩:=qg8 r
  cases rx
  have hn:=line63
  rcases hq with hq | hq
  · obtain ⟨its,r',pl,hz⟩:=I.list hq
    have hlen:=r'.length
    exact Calls.call_len_list pl.isList (by simp only [List.size_toArray] <;> omega) ⟨.int ys.length,H,I.tok _,⟨s.toks + 1,by rw [List.size_toArray,hlen]⟩,q⟩
  · obtain ⟨its,r',pl,hz⟩:=I.tuple hq
    have hlen:=r'.length
    exact len_tuple pl (by simp only [List.size_toArray] <;> omega) ⟨.int ys.length,H,I.tok _,⟨s.toks + 1,by rw [List.size_toArray,hlen]⟩,q⟩
theorem call_len_str:qd1 X (.builtin "len") (fun xs H Q=>∃ z,xs=[.str z]∧z.length≤sizeLine∧Q (.int z.length) H):=by
  intro pins s σ H xs us Q I r h
  obtain ⟨z,rfl,hz,q⟩:=h
  obtain ⟨u,rfl,t,rfl⟩:=qg8 r
  have hn:=line63
  exact len_str (by omega) ⟨.int z.length,H,I.tok _,⟨_,rfl⟩,q⟩
theorem qgH:qd1 X (.type "tuple") (fun xs H Q=>∃ p ys,xs=[.ref p]∧((SqL X.K H p ys∧∀ l,H l=none→Q (.ref l) (upd H l (.tup ys)))∨(SqT X.K H p ys∧Q (.ref p) H))):=by
  intro pins s σ H xs us Q I r h
  obtain ⟨p,ys,rfl,h⟩:=h
  obtain ⟨u,rfl,rx⟩:=qg8 r
  cases rx
  rcases h with ⟨hq,q⟩ | ⟨hq,q⟩
  · obtain ⟨its,r',pl,hz⟩:=I.list hq
    have hlen:=r'.length
    refine call_tuple_list pl.isList (fun h' kp=>?_) (by simp only [List.size_toArray] <;> omega)
    have I1:Inv X pins σ H { s with heap:=h' }:=I.kept (t':=s.toks) kp
    have I2:Inv X pins σ (upd H h'.objs.size (.tup ys)) { s with heap:=h'.push { cls:=.type "tuple",data:=.seq its.toArray } } :=
      I1.laid (t':=s.toks) (fun b o e=>Heap.get?_push_of_some _ e) (Nat.le_refl _) (show ObjOk X.prog X.w _ _ _ (.tup ys) from ⟨hz,its,r',TupN.new _ _⟩)
    exact ⟨.ref h'.objs.size,_,I2,rfl,q _ (I1.hok.fresh (Nat.le_refl _))⟩
  · obtain ⟨its,r',pl,hz⟩:=I.tuple hq
    exact call_tuple_same pl ⟨.ref p,H,I,rfl,q⟩
def tyV (K:PySem.W.Frag) (T:String) (x:V) (H:Hp):Prop:=match x with
  | .str _=>T="str"
  | .int _=>T="int"
  | .ref p=>(T="list"∧∃ xs,SqL K H p xs)∨(T="tuple"∧((∃ xs,H p=some (.tup xs))∨∃ o,K.lookup p=some o∧o.cls=.type "tuple"∧o.dict=none)) ∨
      (T="dict"∧((∃ kvs,H p=some (.dK kvs))∨∃ kvs,H p=some (.dT kvs)))∨(T="set"∧∃ S n,H p=some (.set S n))
  | _=>False
theorem tyV_is {pins:List (Addr×Obj)} {σ:St} {H:Hp} {s:Shared} {T:String} {x:V} {v:Value} (I:Inv X pins σ H s) (r:RelV x v) (ty:tyV X.K T x H) :
    s.TypeIs v T∧∀ a,v=.ref a→∃ ob,s.heap.get? a=some ob∧ob.dict=none:=by
  cases x with
  | str z =>
    obtain ⟨t,rfl⟩:=r
    cases (show T="str" from ty)
    exact ⟨typeIs_str s z t,fun _ e=>nomatch e⟩
  | int i =>
    obtain ⟨t,rfl⟩:=r
    cases (show T="int" from ty)
    exact ⟨typeIs_int s i t,fun _ e=>nomatch e⟩
  | ref p =>
    cases r
    rcases ty with ⟨rfl,xs,hq⟩ | ⟨rfl,⟨xs,hk⟩ | ⟨o,hk,hc,hd⟩⟩ | ⟨rfl,hk⟩ | ⟨rfl,S,n,hk⟩
    · obtain ⟨its,_,pl,_⟩:=I.list hq
      refine ⟨pl.isList.typeIs,fun a e=>?_⟩
      cases e
      obtain ⟨o,n,e,c,hd,_⟩:=pl
      exact ⟨o,e,hd⟩
    · obtain ⟨_,its,_,o,e,c,_,hd⟩:=(show ObjOk X.prog X.w H s.heap p (.tup xs) from I.hok p _ hk)
      refine ⟨⟨o,e,c⟩,fun a e2=>?_⟩
      cases e2
      exact ⟨o,e,hd⟩
    · refine ⟨⟨o,I.kIn p o hk,hc⟩,fun a e=>?_⟩
      cases e
      exact ⟨o,I.kIn _ o hk,hd⟩
    · have z:∃ o,s.heap.get? p=some o∧o.ExactDict:=by
        rcases hk with ⟨kvs,hk⟩ | ⟨kvs,hk⟩
        · obtain ⟨_,_,_,_,o,_,_,e,ex,_⟩:=I.hok p _ hk
          exact ⟨o,e,ex⟩
        · obtain ⟨_,_,_,_,o,_,_,e,ex,_⟩:=I.hok p _ hk
          exact ⟨o,e,ex⟩
      obtain ⟨o,e,ex⟩:=z
      refine ⟨⟨o,e,ex.1⟩,fun a e2=>?_⟩
      cases e2
      exact ⟨o,e,ex.2.1⟩
    · obtain ⟨o,_,_,_,e,ex,_⟩:=I.hok p _ hk
      refine ⟨⟨o,e,ex.1⟩,fun a e2=>?_⟩
      cases e2
      exact ⟨o,e,ex.2.1⟩
  | _=>exact False.elim ty
def tBM (K:PySem.W.Frag) (T:String) (r:V→List V→Hp→VK→Prop) (to:TE) (t:TA):TE:=fun σ H Q=>to σ H fun x H1=>tyV K T x H1∧t σ H1 fun xs H2=>r x xs H2 Q
variable {o e:Expr} {es:List Expr} {to:TE} {t:TA} {name:Str} {apos cpos:Pos} {T id:String} {r:V→List V→Hp→VK→Prop}
theorem pe_bm (pa:PlainAttrs T) (slot:Slot T name id) (hty:typeOf (.builtin id)=pure (.type "method_descriptor")) (hm:MtR X id r) (ho:PE X o to) (ha:PA X (e :: es) t)
    (hbase:attributeBase o name X.env (eval o X.env)=eval o X.env:=by rfl)
    (hfew:((backTo cpos (starEach (e :: es) X.env)).all (fun x=>!x.1) && (backToKw cpos (keywordEach [] X.env)).all (fun x=>x.1.isSome)
      && decide ((e :: es).length + ([]:List Keyword).length + (if ([]:List Keyword).isEmpty then 0 else 1) < 30))=true:=by rfl)
    (hline:(apos.endLine == cpos.line)=true:=by rfl) (hs:starEach (e :: es) X.env=(false,eval e X.env) :: starEach es X.env:=by rfl) (hplain:(backTo cpos (starEach es X.env)).any (·.1)=false:=by rfl) :
    PE X (.Call (.Attribute o name apos) (e :: es) [] cpos) (tBM X.K T r to t):=by
  intro pins s σ H Q I h
  refine wpAny_Call_method_late hbase hfew hline rfl (thn (ho pins s σ H _ I h) fun v s1 ⟨x,H1,I1,r1,ty,q1⟩=>?_)
  obtain ⟨h1,h2⟩:=tyV_is I1 r1 ty
  refine ⟨T,id,pa,slot,hty,h1,h2,?_⟩
  have hA:=ha cpos pins s1 σ H1 _ I1 q1
  rw [hs] at hA ⊢
  refine Calls.callWith_builtin (by show (false || (backTo cpos (starEach es X.env)).any (·.1))=false; rw [hplain] <;> rfl) (Calls.evalArgs_plain ?_)
  exact thn hA fun us s2 ⟨vs,H2,I2,r2,q2⟩=>hm pins s2 σ H2 x vs v us Q I2 r1 r2 q2
end
end L2
namespace L2
open PySem PySem.Spec PyProof.Rows
def MtM (X:Cx) (id:String) (r:V→List V→Hp→VK→Prop):Prop :=
  ∀ (pins:List (Addr×Obj)) (s:Shared) (σ:St) (H:Hp) (x:V) (xs:List V) (v:Value) (us:List Value) (Q:VK),Inv X pins σ H s→RelV x v→Vals xs us→r x xs H Q →
    wpAny (model X.prog X.w) X.A (call (.builtin id) (v :: us)) (EP X pins σ Q) X.xe s
theorem Vals.one:∀ {x:V} {us:List Value},Vals [x] us→∃ u,us=[u]∧RelV x u
  | _,_,.cons r .nil=>⟨_,rfl,r⟩
theorem Vals.two:∀ {x y:V} {us:List Value},Vals [x,y] us→∃ u v,us=[u,v]∧RelV x u∧RelV y v
  | _,_,_,.cons r (.cons q .nil)=>⟨_,_,rfl,r,q⟩
theorem Vals.rep {xs:List V} {us:List Value} (h:Vals xs us):∀ k:Nat,Vals (List.replicate k xs).flatten (List.replicate k us).flatten
  | 0=>.nil
  | k + 1=>by
    rw [List.replicate_succ,List.replicate_succ,List.flatten_cons,List.flatten_cons]
    exact Vals.append h (Vals.rep h k)
theorem foldl_rep (its:List Value):∀ (k:Nat) (acc:List Value),
    List.foldl (fun x1 x2=>x1 ++ x2) acc.toArray (List.replicate k its.toArray)=(acc ++ (List.replicate k its).flatten).toArray
  | 0,acc=>by simp
  | k + 1,acc=>by
    have e:acc.toArray ++ its.toArray=(acc ++ its).toArray:=by simp
    have e2:(acc ++ its) ++ (List.replicate k its).flatten=acc ++ (List.replicate (k + 1) its).flatten:=by
      rw [List.replicate_succ,List.flatten_cons,List.append_assoc]
    rw [← e2,← foldl_rep its k (acc ++ its),← e,List.replicate_succ,List.foldl_cons]
section
variable {X:Cx} {pins:List (Addr×Obj)} {σ:St} {H:Hp} {s:Shared} {l b:Addr} {xs ys zs:List V}
theorem Inv.lset {its its':List Value} {n:Nat} {f:Array Value→Array Value} {t':Nat} (I:Inv X pins σ H s) (hH:H l=some (.lst xs))
    (e:s.heap.get? l=some { cls:=.type "list",data:=.seq its.toArray n }) (hf:f its.toArray=its'.toArray) (hv:Vals ys its') (hz:ys.length≤sizeLine) :
    Inv X pins σ (upd H l (.lst ys)) { s with heap:=s.heap.update l (Obj.mapSeq f),toks:=t' }:=by
  have q:=PySem.IsL.update e f
  rw [hf] at q
  refine I.write (x:=l) (e:=l) (by rw [hH]; exact trivial) (.inl rfl) (fun b' u hb hu=>(Heap.get?_update_other s.heap (Obj.mapSeq f) (Ne.symm hb)).trans hu) ⟨_,q⟩ ?_
  exact ⟨hz,its',_,hv,q⟩
theorem Inv.lnew {its:List Value} {t':Nat} (I:Inv X pins σ H s) (hv:Vals ys its) (hz:ys.length≤sizeLine) :
    Inv X pins σ (upd H s.heap.objs.size (.lst ys)) { s with heap:=s.heap.push { cls:=.type "list",data:=.seq its.toArray },toks:=t' } :=
  I.laid (fun _ _ q=>Heap.get?_push_of_some _ q) (Nat.le_refl _) ⟨hz,its,0,hv,Heap.get?_push_size _ rfl⟩
theorem Inv.fresh (I:Inv X pins σ H s):H s.heap.objs.size=none:=I.hok.fresh (Nat.le_refl _)
theorem Inv.lstM (I:Inv X pins σ H s) (hH:H l=some (.lst xs)):xs.length≤sizeLine∧∃ (its:List Value) (n:Nat),Vals xs its∧xs.length=its.length∧s.heap.get? l=some { cls:=.type "list",data:=.seq its.toArray n }:=by
  obtain ⟨z,its,n,r,e⟩:=I.hok l _ hH
  exact ⟨z,its,n,r,r.length,e⟩
theorem notLongL {n:Nat} (h:n≤sizeLine):Builtin.List.listTooLong n=false:=by
  unfold Builtin.List.listTooLong
  exact decide_eq_false (by omega)
end
section
variable {X:Cx}
def rAppend:V→List V→Hp→VK→Prop:=fun x vs H Q=>∃ l xs y,x=.ref l∧vs=[y]∧H l=some (.lst xs)∧xs.length < sizeLine∧Q .non (upd H l (.lst (xs ++ [y])))
theorem mt_append:MtM X "list.append" rAppend:=by
  intro pins s σ H x vs v us Q I rx rv h
  obtain ⟨l,xs,y,rfl,rfl,hH,hz,q⟩:=h
  cases rx
  obtain ⟨u,rfl,ru⟩:=rv.one
  obtain ⟨z,its,n,r,hl,e⟩:=I.lstM hH
  refine call_meets F.slot_list_append ⟨_,e,rfl⟩ F.entry_list_append (F.args_list_append_2 _ _) (PySem.list_append l its.toArray n u (by rw [List.size_toArray]; omega)) ⟨e,?_⟩
  refine ⟨.non,_,I.lset (its':=its ++ [u]) hH e (by simp) (r.append (.cons ru .nil)) ?_,rfl,q⟩
  rw [List.length_append,List.length_singleton]
  omega
def rExtend:V→List V→Hp→VK→Prop:=fun x vs H Q=>∃ l b xs zs,x=.ref l∧vs=[.ref b]∧H l=some (.lst xs)∧H b=some (.lst zs)∧xs.length + zs.length≤sizeLine∧Q .non (upd H l (.lst (xs ++ zs)))
theorem mt_extend:MtM X "list.extend" rExtend:=by
  intro pins s σ H x vs v us Q I rx rv h
  obtain ⟨l,b,xs,zs,rfl,rfl,hH,hB,hz,q⟩:=h
  cases rx
  obtain ⟨u,rfl,ru⟩:=rv.one
  cases ru
  obtain ⟨z,its,n,r,hl,e⟩:=I.lstM hH
  obtain ⟨z2,its2,n2,r2,hl2,e2⟩:=I.lstM hB
  have hsz:its.toArray.size + its2.toArray.size≤sizeLine:=by rw [List.size_toArray,List.size_toArray]; omega
  have hlong:¬ (!its.toArray.isEmpty && Builtin.List.listTooLong (its.toArray.size + its2.toArray.size))=true:=by
    rw [notLongL hsz,Bool.and_false]
    exact Bool.false_ne_true
  refine call_meets F.slot_list_extend ⟨_,e,rfl⟩ F.entry_list_extend (F.args_list_extend_2 _ _)
    (AutoSeq1.list_extend_list_list_0 l its.toArray n b its2.toArray n2 hlong (by rw [List.size_toArray]; omega) (by omega)) ⟨e,e2,?_⟩
  refine ⟨.non,_,I.lset (its':=its ++ its2) hH e (by simp) (r.append r2) ?_,rfl,q⟩
  rw [List.length_append]
  omega
def rCat:R2:=fun x y H Q=>∃ l b xs zs,x=.ref l∧y=.ref b∧H l=some (.lst xs)∧H b=some (.lst zs)∧xs.length + zs.length≤sizeLine∧∀ p,H p=none→Q (.ref p) (upd H p (.lst (xs ++ zs)))
theorem op_cat:OpR X (binaryOp .Add) rCat:=by
  intro pins s σ H x y v u Q I rx ry h
  obtain ⟨l,b,xs,zs,rfl,rfl,hH,hB,hz,q⟩:=h
  cases rx
  cases ry
  obtain ⟨z,its,n,r,hl,e⟩:=I.lstM hH
  obtain ⟨z2,its2,n2,r2,hl2,e2⟩:=I.lstM hB
  refine PySem.P.add_list e e2 ?_ (by rw [List.size_toArray,List.size_toArray]; omega)
  have ea:its.toArray ++ its2.toArray=(its ++ its2).toArray:=by simp
  rw [ea]
  exact ⟨.ref _,_,I.lnew (t':=s.toks) (r.append r2) (by rw [List.length_append]; omega),rfl,q _ I.fresh⟩
def rRep:R2:=fun x y H Q=>∃ l k xs,x=.ref l∧y=.int k∧H l=some (.lst xs)∧-(2 ^ 63)≤k∧k < 2 ^ 63∧xs.length * k.toNat≤sizeLine ∧
  ∀ p,H p=none→Q (.ref p) (upd H p (.lst (List.replicate k.toNat xs).flatten))
theorem len_rep {α:Type} (xs:List α) (k:Nat):(List.replicate k xs).flatten.length=k * xs.length:=by
  induction k with
  | zero=>simp
  | succ k ih=>rw [List.replicate_succ,List.flatten_cons,List.length_append,ih,Nat.succ_mul,Nat.add_comm]
theorem op_rep:OpR X (binaryOp .Mult) rRep:=by
  intro pins s σ H x y v u Q I rx ry h
  obtain ⟨l,k,xs,rfl,rfl,hH,h1,h2,hz,q⟩:=h
  cases rx
  obtain ⟨t,rfl⟩:=ry
  obtain ⟨z,its,n,r,hl,e⟩:=I.lstM hH
  have hlen:its.toArray.size * k.toNat≤sizeLine:=by rw [List.size_toArray,← hl]; exact hz
  have hcap:¬ its.toArray.size * k.toNat > (2 ^ 63 - 1) / 8:=by
    have:(sizeLine:Nat)≤(2 ^ 63 - 1) / 8:=by decide
    omega
  have hfit:¬ (!Builtin.List.listFitsIndex k)=true:=by
    rw [fitsIndex_both h1 h2]
    exact Bool.false_ne_true
  have hlong:¬ Builtin.List.listTooLong (its.toArray.size * k.toNat)=true:=by
    rw [notLongL hlen]
    exact Bool.false_ne_true
  have hnew:List.foldl (fun x1 x2=>x1 ++ x2) #[] (List.replicate (if its.toArray.isEmpty=true then 0 else k.toNat) its.toArray)=(List.replicate k.toNat its).flatten.toArray:=by
    have f0:∀ m:Nat,List.foldl (fun x1 x2=>x1 ++ x2) #[] (List.replicate m its.toArray)=(List.replicate m its).flatten.toArray:=fun m=>by
      have:=foldl_rep its m []
      rw [List.nil_append] at this
      exact this
    rw [f0]
    cases its with
    | nil=>simp
    | cons a r'=>rw [if_neg (by simp)]
  refine wpAny_binaryOp_repeat_ref (T:="list") (U:="int") (by decide) ⟨_,e,rfl⟩ (fun s'=>typeIs_int s' k t) noFill_list_mul F.fills_int_mul F.slot_int_rmul repeat_list F.slot_int_index.lookup
    (call_meets F.slot_int_rmul (typeIs_int s k t) F.entry_int_rmul (F.args_int_rmul_2 _ _) (int___rmul___int_list k t l its.toArray n)
      ⟨e,rfl,⟨_,e,rfl⟩,call_meets F.slot_list_mul ⟨_,e,rfl⟩ F.entry_list_mul (F.args_list_mul_2 _ _) (AutoListH.list___mul___list_int_3 l its.toArray n k t hfit hcap hlong) ⟨e,?_⟩⟩)
  rw [hnew]
  exact ⟨.ref _,_,I.lnew (t':=s.toks) (r.rep k.toNat) (by rw [len_rep,Nat.mul_comm]; exact hz),rfl,q _ I.fresh⟩
end
section
variable {prog:Program} {w:World} {A:Around} {E:Value→Shared→Prop} {s:Shared}
set_option maxRecDepth 100000 in
end
section
variable {X:Cx}
end
end L2
namespace Att
open PySem PySem.W PySem.Calls PyProof.Rows
theorem qfk {P:Params} {h:Heap}:∀ (ns:List Int) (vs:List Value),WellAll P h vs (ns.map WData.int)→IntsAre vs ns:=by
  intro ns
  induction ns with
  | nil =>
    intro vs w
    rw [List.map_nil] at w
    cases w
    exact .nil
  | cons n ns ih =>
    intro vs w
    rw [List.map_cons] at w
    cases w with
    | cons a b =>
      cases a
      exact .cons _ _ (ih _ b)
theorem script_of {l:OpenLaw} {n:Nat} (hn:l.most=some n) {P:Params} {h:Heap} {args:List WData} {vals:List Value}
    (hpre:l.row.toRowW.claim.pre args=true) (hwl:WellAll P h vals args) :
    ∃ a vs ns,vals=[Value.ref a]∧args=[WData.list (ns.map WData.int)]∧h.get? a=some { cls:=.type "list",data:=.seq vs.toArray }∧IntsAre vs ns∧ns.length≤n:=by
  have hsh:WShape.hasAll [] args [.list .int]=true:=(pre_splitW hpre).1
  have hc:l.pre.holds [] { args:=args }=true:=(pre_splitW hpre).2
  obtain ⟨d,r,rfl,h1,h2⟩:=hasAllW_cons hsh
  obtain rfl:=hasAllW_nil h2
  obtain ⟨xs,rfl,h3⟩:=hasW_list h1
  obtain ⟨ns,rfl⟩:=items_int h3
  have hlen:ns.length≤n:=by
    unfold OpenLaw.pre at hc
    have h4:(WTm.not (.lt (.lit (.int (n:Int))) (.len (.arg 0)))).holds [] { args:=[.list (ns.map .int)] }=true:=by
      have h4:=(holds_andW hc).1
      rw [hn] at h4
      exact h4
    have h5:=condW_of h4 (w_not (w_lt w_lit (w_len_list (w_arg rfl))))
    rw [List.length_map] at h5
    refine Nat.le_of_not_lt fun q=>?_
    have q':(n:Int) < ((ns.length:Nat):Int):=by omega
    first
      | (rw [decide_eq_true q'] at h5; exact absurd h5 (by decide))
      | (simp at h5; omega)
  cases hwl with
  | cons w1 w2 =>
    cases w2
    cases w1 with
    | list ho hall=>exact ⟨_,_,ns,rfl,rfl,ho,qfk ns _ hall,hlen⟩
theorem post_true (l:OpenLaw) (args:List WData):l.row.toRowW.claim.post args (.bool true) args=true :=
  postW_of (r:=l.row.toRowW) (X:=(true == true))
    (show WShape.has [] (.bool true) .bool=true by first | rfl | decide | simp [WShape.has,WShape.arms,WShape.armsAll])
    (show (WTm.eq .res (.lit (.bool true))).value [] { args:=args,res:=some (.bool true),after:=args }=some (.bool (true == true)) from w_eq_bool (w_res rfl) w_lit) rfl
theorem attach_call {l:OpenLaw} {n:Nat} {q:Program} {loose:List Str} {XP:(Str→Option Value)→Heap→Prop} {YP:World→Heap→Prop} {d:DefRec}
    (hn:l.most=some n) (hdf:d.params.defaults=[])
    (call:∀ (w:World) (s₀ s₁:Shared) (mg mb:Str→Option Value) (fa:Addr) (o:Obj) (pm cd doc:Value) (a:Addr) (vs:List Value) (ns:List Int),
      Ground q loose [] XP w s₀ mg mb s₁.heap→YP w s₁.heap →
      s₁.heap.get? fa=some o→o.data=.func (docDef d.name d.params d.body d.scope pm cd doc)→s₁.heap.CodeRec cd d.name→mg d.name=some (.ref fa) →
      s₁.heap.get? a=some { cls:=.type "list",data:=.seq vs.toArray }→IntsAre vs ns→ns.length≤n→s₁.gens=#[] →
      codeAny (model l.prog w) callerA (.call (.ref fa) ⟨[.ref a],[]⟩) (fun r s'=>r=.ok (.ret (.bool true))∧OldK s₁.heap s'.heap∧s'.os=s₁.os∧AllBare s'.gens) s₁) :
    WalkO q loose XP YP l.row.toRowW d [] (fun f vs=>PySem.call f vs):=by
  intro w s₀ s₁ mg mb G Y fa o pm cd doc dV kV ho hd hcd hD hmg hg args vals as hpre hlay hrd hwl hlo
  obtain rfl:dV=.none:=Dflts.none hD hdf
  obtain rfl:kV=.none:=Dflts.noKw hD
  obtain ⟨a,vs,ns,rfl,rfl,hobj,hints,hlen⟩:=script_of hn hpre hwl
  refine enter_call (codeAny_mono (call w s₀ s₁ mg mb fa o pm cd doc a vs ns G Y ho (fd_plain hd) hcd hmg hobj hints hlen hg) fun r s' hq=>?_)
  obtain ⟨rfl,h2,h3,h4⟩:=hq
  exact ⟨.inl ⟨.bool true,.bool true,[],rfl,fun _=>rfl,.bool true,post_true l _,fun _=>⟨List.Pairwise.nil,fun _ hm=>(nomatch hm)⟩⟩,h2,h3,h4⟩
section
variable {prog:Program} {w:World} {A:Around} {E:Value→Shared→Prop} {s:Shared} {K:Frag}
end
end Att
namespace L2
open PySem PySem.Spec PyProof.Rows
theorem vals_ints:∀ {vs:List Value} {ns:List Int},IntsAre vs ns→Vals (ns.map V.int) vs
  | _,_,.nil=>.nil
  | _,_,.cons n t h=>.cons ⟨t,rfl⟩ (vals_ints h)
end L2
namespace L2
open PySem PySem.Spec PyProof.Rows
end L2
namespace L2
open PySem PySem.Spec PyProof.Rows
def qaj (s:Stmt):Arguments:=match s with
  | .FunctionDef _ a _ _ _ _ _ _ _ _=>a
  | _=>{ posonlyargs:=[],args:=[],vararg:=none,kwonlyargs:=[],kw_defaults:=[],kwarg:=none,defaults:=[] }
def qaf (s:Stmt):List Stmt:=match s with
  | .FunctionDef _ _ b _ _ _ _ _ _ _=>b
  | _=>[]
def qa4 (s:Stmt):Scope:=match s with
  | .FunctionDef _ _ _ _ _ _ sc _ _ _=>sc
  | _=>{ kind:=.function,names:=[],isGenerator:=false,isCoroutine:=false }
abbrev CX0:CXT:=fun _ _ _ _ _ _=>False
abbrev E0:XK:=fun _ _ _=>False
theorem pass0 {X:Cx}:Passes CX0 X E0:=fun _ _ _ _ _ _ _ h=>h.elim
structure Fun (K:PySem.W.Frag) (x qual:Str) (st:Stmt) (f:Addr) (fd:FuncData):Prop where
  ex:∃ (oc:Value) (od:Option Addr) (kV doc pm:Value) (an:Option Addr) (cdv ct:Value) (osl:Array (Option Value)),
    fd=PySem.W.fnOf x qual (qaj st) (qaf st) (qa4 st) .none kV doc pm an cdv ct∧K.lookup f=some ⟨oc,od,.func fd,osl⟩∧PySem.W.codeIn K cdv qual=true
  kp:PySem.W.keepIn K (.ref f)=true
section
variable {P:Program} {w:World} {K:PySem.W.Frag} {mg:Str→Option Value} {base:Heap}
theorem Fun.ok {x qual:Str} {st:Stmt} {f:Addr} {fd:FuncData} {N ps:List Str} {k:Nat} {sp:Sp} (F:Fun K x qual st f fd) (S:qag N ps (qa4 st)) (len:∀ vs H Q E,sp vs H Q E→vs.length=ps.length)
    (hbody:∀ (cdv:Value) (A:Around) (outer:List Env) (s:Shared) (H:Hp) (vs:List V) (Q:VK) (E:XK),Room k (A.deeper (envOfC qual (qa4 st) s.heap.objs.size f cdv))→sp vs H Q E →
      ∃ t,PSs (cxOf CX0 P w K mg base N qual (qa4 st) f cdv A outer s H E).nox (qaf st) t∧t { nx:=fun _ H'=>Q .non H',rt:=Q } (start N vs) H):FnOk P w K mg base CX0 (k + 1) f fd ps sp:=by
  obtain ⟨oc,od,kV,doc,pm,an,cdv,ct,osl,rfl,lk,hcd⟩:=F.ex
  refine fn_of lk hcd S len fun A outer s H vs Q E hr hsp=>?_
  obtain ⟨t,h,q⟩:=hbody cdv A outer s H vs Q E hr hsp
  exact ⟨t,h.nox,q⟩
theorem Fun.binds {x qual:Str} {st:Stmt} {f:Addr} {fd:FuncData} {ps:List Str} (F:Fun K x qual st f fd)
    (h:∀ (kV doc pm:Value) (an:Option Addr) (cdv ct:Value) (us:List Value),us.length=ps.length→bindArgs (PySem.W.fnOf x qual (qaj st) (qaf st) (qa4 st) .none kV doc pm an cdv ct) ⟨us,[]⟩=pure (ps.zip us)):Binds K fd ps []:=by
  obtain ⟨oc,od,kV,doc,pm,an,cdv,ct,osl,rfl,lk,hcd⟩:=F.ex
  exact .all (h kV doc pm an cdv ct)
theorem qay {x qual:Str} {st:Stmt} {f:Addr} {oc:Value} {od an:Option Addr} {osl:Array (Option Value)} {kV doc pm cdv ct:Value} (l:K.lookup f=some ⟨oc,od,.func (PySem.W.fnOf x qual (qaj st) (qaf st) (qa4 st) .none kV doc pm an cdv ct),osl⟩)
    (c:PySem.W.codeIn K cdv qual=true) (k:PySem.W.keepIn K (.ref f)=true):Fun K x qual st f (PySem.W.fnOf x qual (qaj st) (qaf st) (qa4 st) .none kV doc pm an cdv ct):=⟨⟨oc,od,kV,doc,pm,an,cdv,ct,osl,rfl,l,c⟩,k⟩
end
theorem hu_of {A:Around} {k:Nat} (hr:Room k A):A.units + 1 < cLine:=Nat.lt_of_le_of_lt (Nat.add_le_add_left (by decide:1≤64) _) hr.units
section
variable {X:Cx}
end
theorem iteF {A B:Prop} (h:B):if false=true then A else B:=by
  rw [if_neg Bool.false_ne_true]
  exact h
theorem iteT {A B:Prop} (h:A):if true=true then A else B:=by
  rw [if_pos rfl]
  exact h
end L2
namespace L2
open PySem PySem.Spec PyProof.Rows
def qbD (X:Cx) (N':List Str) (scope:Scope) (cl:List (Str×Addr)) (C:Addr) (s₀:Shared) (H₀:Hp) (ex:List Addr) (pn:List (Addr×Obj)):Cx where
  prog:=X.prog
  w:=X.w
  K:=X.K
  mg:=X.mg
  base:=X.base
  A:=X.A
  N:=N'
  s₀:=s₀
  H₀:=H₀
  env:=compEnvC scope cl C X.env
  outer:=X.stack
  stack:=X.stack
  ex:=ex
  fn:=fun x=>scope.names.lookup x == some NameKind.cell
  calm:=X.calm
  pn:=pn
  xe:=fun _ _=>False
structure CompScope (X:Cx) (N':List Str) (pick:List (Option Nat)) (scope:Scope):Prop where
  kind:scope.kind=.function
  nd:N'.Nodup
  names:∀ x∈scope.names,x.2=.local→scope.names.lookup x.1=some .local
  uniq:(scope.names.map (·.1)).Nodup
  len:pick.length=N'.length
  got:∀ (i j:Nat) (x:Str),pick[i]? = some (some j)→N'[i]? = some x→scope.names.lookup x=some .free∧X.N[j]? = some x
  free:∀ x∈scope.names,x.2=.free→X.env.kindOf x.1=some .cell∨X.env.kindOf x.1=some .free
def qgc (pick:List (Option Nat)) (σ:St):St:=pick.map fun o=>o.bind fun j=>(σ[j]?).bind id
def PIfs (X:Cx) (ifs:List Expr) (t:TT):Prop :=
  ∀ (pins:List (Addr×Obj)) (s:Shared) (σ:St) (H:Hp) (Q:Bool→Hp→Prop),Inv X pins σ H s→t σ H Q →
    wpAny (model X.prog X.w) X.A (forIn ifs true fun c r=>if r=true then do let ok ← isTrue c X.env (eval c X.env); pure (ForInStep.yield ok) else pure (ForInStep.yield r)) (TP X pins σ Q) X.xe s
def tYes:TT:=fun _ H Q=>Q true H
theorem pifs_nil {X:Cx}:PIfs X [] tYes:=fun pins s σ H Q I h=>wpAny_tests_nil ⟨H,I,h⟩
theorem pifs_one {X:Cx} {c:Expr} {t:TT} (h:PT X c t):PIfs X [c] t:=fun pins s σ H Q I q=>wpAny_tests_one (h pins s σ H Q I q)
def CompW (J:It) (g:TG) (tt:TT) (te:TE) (Q:VK) (σ:St) (H:Hp):Prop:=∃ W:Nat→Nat→St→List V→Hp→Prop,(∃ m,W 0 m σ [] H) ∧
  ∀ i m σ' ys H,W i m σ' ys H→ys.length < sizeLine ∧
    ((J.stop i H∧∀ p,H p=none→Q (.ref p) (upd H p (.lst ys))) ∨
     (J.go i H∧∃ N:St→List V→Hp→Prop,(∀ σ2 zs H2,N σ2 zs H2→∃ m',m' < m∧W (i + 1) m' σ2 zs H2)∧∀ x H',J.yld i H x H'→g x σ' H' fun σ2 H2=>tt σ2 H2 fun b H3 =>
        if b=true then te σ2 H3 fun y H4=>N σ2 (ys ++ [y]) H4 else N σ2 ys H3))
def tComp (wi:TI) (pick:List (Option Nat)) (g:TG) (tt:TT) (te:TE):TE:=fun σ H Q=>wi σ H fun J H1=>CompW J g tt te Q (qgc pick σ) H1
def qbl (env:Env):List (Str×NameKind)→List (Str×Addr)→List (Str×Addr)
  | [],acc=>acc
  | (n,k) :: r,acc=>qbl env r (if (k == NameKind.free)=true then (n,(env.cells.lookup n).getD 0) :: acc else acc)
theorem qeB {env:Env}:∀ (names:List (Str×NameKind)) (acc:List (Str×Addr)),(∀ x∈names,x.2=.free→∃ c,env.cells.lookup x.1=some c) →
    (forIn names acc fun (x:Str×NameKind) cs=>(if (x.2 == NameKind.free)=true then do let a ← cellOf env x.1; pure (ForInStep.yield ((x.1,a) :: cs)) else pure (ForInStep.yield cs):Sem (ForInStep (List (Str×Addr)))))=pure (qbl env names acc)
  | [],acc,_=>rfl
  | (n,k) :: r,acc,h=>by
    rw [List.forIn_cons]
    by_cases hk:(k == NameKind.free)=true
    · obtain ⟨c,hc⟩:=h (n,k) List.mem_cons_self (by simpa using hk)
      have e1:cellOf env n=pure c:=by unfold cellOf; rw [show env.cells.lookup n=some c from hc]
      simp only [hk,if_true,e1,pure_bind]
      rw [qeB r _ fun x hx=>h x (List.mem_cons_of_mem _ hx)]
      show _=pure (qbl env r (if (k == NameKind.free)=true then _ else _))
      rw [if_pos hk,show env.cells.lookup n=some c from hc]
      rfl
    · simp only [hk,Bool.false_eq_true,if_false,pure_bind]
      rw [qeB r _ fun x hx=>h x (List.mem_cons_of_mem _ hx)]
      show _=pure (qbl env r (if (k == NameKind.free)=true then _ else _))
      rw [if_neg hk]
theorem qeJ {env:Env} {x:Str} {c:Addr}:∀ (names:List (Str×NameKind)) (acc:List (Str×Addr)),(qbl env names acc).lookup x=some c →
    ((x,NameKind.free)∈names∧c=(env.cells.lookup x).getD 0)∨acc.lookup x=some c
  | [],acc,h=>.inr h
  | (n,k) :: r,acc,h=>by
    unfold qbl at h
    rcases qeJ r _ h with ⟨a,b⟩ | q
    · exact .inl ⟨List.mem_cons_of_mem _ a,b⟩
    · by_cases hk:(k == NameKind.free)=true
      · rw [if_pos hk,List.lookup_cons] at q
        cases hx:x == n with
        | true =>
          rw [hx] at q
          have e1:x=n:=by simpa using hx
          have e2:k=.free:=by simpa using hk
          subst e1; subst e2
          exact .inl ⟨List.mem_cons_self,(Option.some.inj q).symm⟩
        | false=>rw [hx] at q; exact .inr q
      · rw [if_neg hk] at q; exact .inr q
theorem qfx {env:Env} {x:Str}:∀ (names:List (Str×NameKind)) (acc:List (Str×Addr)),(acc.lookup x).isSome=true∨(x,NameKind.free)∈names→((qbl env names acc).lookup x).isSome=true
  | [],acc,h=>h.elim id fun z=>by cases z
  | (n,k) :: r,acc,h=>by
    unfold qbl
    refine qfx r _ ?_
    by_cases hk:(k == NameKind.free)=true
    · rw [if_pos hk,List.lookup_cons]
      cases hx:x == n with
      | true=>exact .inl rfl
      | false =>
        refine h.imp id fun z=>?_
        rcases List.mem_cons.mp z with e | z
        · exact absurd (show (x == n)=true by cases e; simp) (by rw [hx]; simp)
        · exact z
    · rw [if_neg hk]
      refine h.imp id fun z=>?_
      rcases List.mem_cons.mp z with e | z
      · exact absurd (show (k == NameKind.free)=true by cases e; rfl) hk
      · exact z
theorem cf_from {x:Str} {c:Addr}:∀ (names:List (Str×NameKind)) (n:Nat) (acc:List (Str×Addr)),(cellsFrom n names acc).lookup x=some c→(n≤c∧(x,NameKind.cell)∈names)∨acc.lookup x=some c
  | [],_,_,h=>.inr h
  | (y,k) :: r,n,acc,h=>by
    unfold cellsFrom at h
    by_cases hk:(k == NameKind.cell)=true
    · rw [if_pos hk] at h
      rcases cf_from r _ _ h with ⟨a,b⟩ | q
      · exact .inl ⟨Nat.le_trans (Nat.le_succ _) a,List.mem_cons_of_mem _ b⟩
      · rw [List.lookup_cons] at q
        cases hx:x == y with
        | true =>
          rw [hx] at q
          have e1:x=y:=by simpa using hx
          have e2:k=.cell:=by simpa using hk
          subst e1; subst e2
          exact .inl ⟨Nat.le_of_eq (Option.some.inj q),List.mem_cons_self⟩
        | false=>rw [hx] at q; exact .inr q
    · rw [if_neg hk] at h
      rcases cf_from r _ _ h with ⟨a,b⟩ | q
      · exact .inl ⟨a,List.mem_cons_of_mem _ b⟩
      · exact .inr q
theorem cf_inj:∀ (names:List (Str×NameKind)) (n:Nat) (acc:List (Str×Addr)),(∀ x y c,acc.lookup x=some c→acc.lookup y=some c→x=y)→(∀ x c,acc.lookup x=some c→c < n) →
    ∀ x y c,(cellsFrom n names acc).lookup x=some c→(cellsFrom n names acc).lookup y=some c→x=y
  | [],_,_,hi,_,x,y,c,h1,h2=>hi x y c h1 h2
  | (z,k) :: r,n,acc,hi,hl,x,y,c,h1,h2=>by
    unfold cellsFrom at h1 h2
    by_cases hk:(k == NameKind.cell)=true
    · rw [if_pos hk] at h1 h2
      refine cf_inj r (n + 1) ((z,n) :: acc) (fun x y c e1 e2=>?_) (fun x c e=>?_) x y c h1 h2
      · rw [List.lookup_cons] at e1 e2
        cases hx:x == z with
        | true =>
          rw [hx] at e1
          cases hy:y == z with
          | true=>exact (by simpa using hx:x=z).trans (by simpa using hy:y=z).symm
          | false =>
            rw [hy] at e2
            have e3:n=c:=Option.some.inj e1
            exact absurd (e3 ▸ hl y c e2) (Nat.lt_irrefl _)
        | false =>
          rw [hx] at e1
          cases hy:y == z with
          | true =>
            rw [hy] at e2
            have e3:n=c:=Option.some.inj e2
            exact absurd (e3 ▸ hl x c e1) (Nat.lt_irrefl _)
          | false=>rw [hy] at e2; exact hi x y c e1 e2
      · rw [List.lookup_cons] at e
        cases hx:x == z with
        | true=>rw [hx] at e; have e3:n=c:=Option.some.inj e; exact e3 ▸ Nat.lt_succ_self n
        | false=>rw [hx] at e; exact Nat.lt_succ_of_lt (hl x c e)
    · rw [if_neg hk] at h1 h2
      exact cf_inj r n acc hi hl x y c h1 h2
theorem cf_cell {x:Str} {c:Addr}:∀ (names:List (Str×NameKind)) (h:Heap) (acc:List (Str×Addr)),(cellsFrom h.objs.size names acc).lookup x=some c→acc.lookup x=some c∨(h.objs.size≤c∧(pushCells h names).IsCell c none)
  | [],_,_,e=>.inl e
  | (y,k) :: r,h,acc,e=>by
    unfold cellsFrom at e
    unfold pushCells
    by_cases hk:(k == NameKind.cell)=true
    · rw [if_pos hk] at e ⊢
      have e':=e
      rw [show h.objs.size + 1=(h.push { cls:=.type "cell",data:=.cell none }).objs.size from (Heap.size_push ..).symm] at e'
      rcases cf_cell r _ _ e' with q | ⟨a,q⟩
      · rw [List.lookup_cons] at q
        cases hx:x == y with
        | true =>
          rw [hx] at q
          have e3:h.objs.size=c:=Option.some.inj q
          subst e3
          exact .inr ⟨Nat.le_refl _,_,pushCells_keeps _ _ _ _ (Heap.get?_push_size _ rfl),rfl⟩
        | false=>rw [hx] at q; exact .inl q
      · refine .inr ⟨?_,q⟩
        rw [Heap.size_push] at a
        omega
    · rw [if_neg hk] at e ⊢
      exact cf_cell r h acc e
theorem qfB {M:Model} {A:Around} {E:Value→Shared→Prop} {s:Shared} {scope:Scope} {globals:Addr} {cl:List (Str×Addr)} {qual:Str} {env:Env} {Q:Env→Shared→Prop}
    (hQ:∀ h',(∀ b o,s.heap.get? b=some o→h'.get? b=some o)→h'.Ns s.heap.objs.size (fun _=>none) →
      (∀ x c,(cellsFrom (s.heap.objs.size + 1) scope.names cl).lookup x=some c→cl.lookup x=some c∨(s.heap.objs.size < c∧h'.IsCell c none)) →
      Q { scope,locals:=s.heap.objs.size,globals,cells:=cellsFrom (s.heap.objs.size + 1) scope.names cl,qual,func:=none,code:=env.code,frame:=env.frame,builtins:=env.builtins } { s with heap:=h' }) :
    wpAny M A (newFunctionEnv scope globals cl [] qual none .none (some env)) Q E s:=by
  simp only [newFunctionEnv,Option.isSome_some,if_true]
  refine wpAny_bind (wpAny_alloc ?_)
  refine wpAny_bind (wpAny_layCells _ (fun name kind cells=>by cases hkc:kind == NameKind.cell <;> simp [hkc]) _ _ _ _ ?_)
  rw [show ({ s with heap:=s.heap.push { cls:=.type "dict",data:=.dict #[] } }:Shared).heap.objs.size=s.heap.objs.size + 1 from Heap.size_push ..]
  refine wpAny_bind (wpAny_pure (wpAny_pure ?_))
  refine hQ _ (fun b o e=>pushCells_keeps _ _ b o (Heap.get?_push_of_some _ e)) ((Heap.Ns.new s.heap (.type "dict")).keeps (pushCells_keeps _ _)) fun x c e=>?_
  have e':=e
  rw [show s.heap.objs.size + 1=(s.heap.push { cls:=.type "dict",data:=.dict #[] }).objs.size from (Heap.size_push ..).symm] at e'
  rcases cf_cell scope.names (s.heap.push { cls:=.type "dict",data:=.dict #[] }) cl e' with q | ⟨a,q⟩
  · exact .inl q
  · refine .inr ⟨?_,q⟩
    rw [Heap.size_push] at a
    omega
end L2
namespace L2
open PySem PySem.Spec PyProof.Rows
theorem qgi {env:Env} {x:Str} {k':NameKind}:∀ {names:List (Str×NameKind)},(names.map fun (n,k)=>if (k == NameKind.free && env.scope.kind == .function && env.kindOf n == some .cell) then (n,NameKind.cell) else (n,k)).lookup x=some k' →
  ∃ k,names.lookup x=some k∧(k'=k∨(k=.free∧k'=.cell))
 | [],h=>by cases h
 | (n,k) :: r,h=>by
  rw [List.map_cons] at h
  by_cases hc:(k == NameKind.free && env.scope.kind == .function && env.kindOf n == some .cell)=true
  ·have e:(match ((n,k):Str×NameKind) with | (n,k)=>if (k == NameKind.free && env.scope.kind == .function && env.kindOf n == some .cell) then (n,NameKind.cell) else (n,k))=(n,NameKind.cell):=if_pos hc
   rw [e,List.lookup_cons] at h
   rw [List.lookup_cons]
   cases hx:x == n with
   | true =>
    rw [hx] at h
    have hk:k=.free:=by
     simp only [Bool.and_eq_true] at hc
     simpa using hc.1.1
    exact ⟨k,rfl,.inr ⟨hk,(Option.some.inj h).symm⟩⟩
   | false=>rw [hx] at h; exact qgi h
  ·have e:(match ((n,k):Str×NameKind) with | (n,k)=>if (k == NameKind.free && env.scope.kind == .function && env.kindOf n == some .cell) then (n,NameKind.cell) else (n,k))=(n,k):=if_neg hc
   rw [e,List.lookup_cons] at h
   rw [List.lookup_cons]
   cases hx:x == n with
   | true=>rw [hx] at h; exact ⟨k,rfl,.inl (Option.some.inj h).symm⟩
   | false=>rw [hx] at h; exact qgi h
theorem rl_to {env:Env} {x:Str} {k:NameKind}:∀ {names:List (Str×NameKind)},names.lookup x=some k →
  ∃ k',(names.map fun (n,k)=>if (k == NameKind.free && env.scope.kind == .function && env.kindOf n == some .cell) then (n,NameKind.cell) else (n,k)).lookup x=some k'∧(k'=k∨(k=.free∧k'=.cell))
 | [],h=>by cases h
 | (n,j) :: r,h=>by
  rw [List.map_cons]
  rw [List.lookup_cons] at h
  by_cases hc:(j == NameKind.free && env.scope.kind == .function && env.kindOf n == some .cell)=true
  ·have e:(match ((n,j):Str×NameKind) with | (n,k)=>if (k == NameKind.free && env.scope.kind == .function && env.kindOf n == some .cell) then (n,NameKind.cell) else (n,k))=(n,NameKind.cell):=if_pos hc
   rw [e,List.lookup_cons]
   cases hx:x == n with
   | true =>
    rw [hx] at h
    have hk:j=.free:=by
     simp only [Bool.and_eq_true] at hc
     simpa using hc.1.1
    exact ⟨.cell,rfl,.inr ⟨(Option.some.inj h).symm.trans hk,rfl⟩⟩
   | false=>rw [hx] at h; exact rl_to h
  ·have e:(match ((n,j):Str×NameKind) with | (n,k)=>if (k == NameKind.free && env.scope.kind == .function && env.kindOf n == some .cell) then (n,NameKind.cell) else (n,k))=(n,j):=if_neg hc
   rw [e,List.lookup_cons]
   cases hx:x == n with
   | true=>rw [hx] at h; exact ⟨j,rfl,.inl (Option.some.inj h)⟩
   | false=>rw [hx] at h; exact rl_to h
theorem qdG {x:Str} {k:NameKind}:∀ {names:List (Str×NameKind)},(names.map (·.1)).Nodup→(x,k)∈names→names.lookup x=some k
 | [],_,h=>by cases h
 | (n,j) :: r,nd,h=>by
  have nd:(n :: r.map (·.1)).Nodup:=nd
  obtain ⟨n1,n2⟩:=List.nodup_cons.mp nd
  rw [List.lookup_cons]
  rcases List.mem_cons.mp h with e | h2
  ·cases e; simp
  ·have hx:(x == n)=false:=by
    have:x≠n:=by
     intro e
     exact n1 (List.mem_map.mpr ⟨(x,k),h2,e⟩)
    simpa using this
   rw [hx]; exact qdG n2 h2
theorem compLoop_gen {prog:Program} {w:World} {A:Around} {R:Result→Shared→Prop} {s:Shared} {elt target iter:Expr} {ifs:List Expr} {scope:Scope} {pos:Pos} {it acc:Value} {env:Env} (I:Nat→Shared→Prop)
  (turn:∀ n s,I n s→wpAny (model prog w) A (pyNext it) (fun r s₁=>match r with
   | none=>R (.ok .next) s₁
   | some v=>wpAny (model prog w) A (letOwnedTupleGo target it v) (fun _ s₁'=>wpAny (model prog w) A (assign target env v) (fun _ s₂ =>
     wpAny (model prog w) A (forIn ifs true fun c r=>if r=true then do let ok ← isTrue c env (eval c env); pure (ForInStep.yield ok) else pure (ForInStep.yield r)) (fun ok s₃ =>
      if ok=true then wpAny (model prog w) A (eval elt env) (fun x s₄ =>
       wpAny (model prog w) A (call (.builtin "list.append") [acc,x]) (fun _ s₅=>∃ m,m < n∧I m s₅) (fun _ _=>False) s₄) (fun _ _=>False) s₃
      else ∃ m,m < n∧I m s₃) (fun _ _=>False) s₂) (fun _ _=>False) s₁') (fun _ _=>False) s₁) (fun _ _=>False) s)
  (n:Nat) (h:I n s) :
  codeAny (model prog w) A (.compLoop (.ListComp elt [⟨target,iter,ifs,0⟩] scope pos) 0 it acc env) R s:=by
 refine codeAny_loop rfl I (fun n s hI=>?_) n h
 show wpAny _ A ((compTurn (.ListComp elt [⟨target,iter,ifs,0⟩] scope pos) 0 it acc env).onRaise (fun x=>do noteFrame x env; theTreesLotGoes x)) _ _ s
 refine wpAny_noted ?_
 rw [compTurn_list]
 refine wpAny_bind (wpAny_standAt (wpAny_bind (wpAny_mono (turn n s hI) (fun r s₁ h₁=>?_) fun _ _ h'=>h'.elim)))
 cases r with
 | none=>exact wpAny_pure h₁
 | some v =>
  refine wpAny_bind (wpAny_mono h₁ (fun _ s₁' h₁'=>?_) fun _ _ h'=>h'.elim)
  refine wpAny_bind (wpAny_mono h₁' (fun _ s₂ h₂=>wpAny_bind (wpAny_mono h₂ (fun ok s₃ h₃=>?_) fun _ _ h'=>h'.elim)) fun _ _ h'=>h'.elim)
  cases ok with
  | false=>exact wpAny_pure ⟨rfl,h₃⟩
  | true =>
   exact wpAny_bind (wpAny_bind (wpAny_mono h₃ (fun x s₄ h₄=>wpAny_bind (wpAny_mono h₄ (fun _ s₅ h₅=>wpAny_pure (wpAny_pure ⟨rfl,h₅⟩)) fun _ _ h'=>h'.elim)) fun _ _ h'=>h'.elim))
section
variable {X:Cx} {N':List Str} {pick:List (Option Nat)} {scope:Scope} {pins:List (Addr×Obj)} {σ:St} {H₂:Hp} {s₂:Shared} {tg:Expr} {J:It} {fp:List Addr} {it:Addr} {tn:Nat→Heap→Prop}
theorem clos_of (S:CompScope X N' pick scope) (I:Inv X pins σ H₂ s₂):closureFor scope X.env=pure (qbl X.env scope.names []):=by
 have e:=qeB (env:=X.env) scope.names [] fun x hx hk=>I.ok.has x.1 (S.free x hx hk)
 show ((forIn scope.names ([]:List (Str×Addr)) fun (x:Str×NameKind) cs=>(if (x.2 == NameKind.free)=true then do let a ← cellOf X.env x.1; pure (ForInStep.yield ((x.1,a) :: cs)) else pure (ForInStep.yield cs):Sem (ForInStep (List (Str×Addr))))) >>= fun cs=>pure cs)=_
 rw [e,pure_bind]
theorem cap_of (S:CompScope X N' pick scope) (I:Inv X pins σ H₂ s₂) {x:Str} {c:Addr} (h:(qbl X.env scope.names []).lookup x=some c):(x,NameKind.free)∈scope.names∧X.env.cells.lookup x=some c:=by
 rcases qeJ _ _ h with ⟨a,b⟩ | q
 ·refine ⟨a,?_⟩
  obtain ⟨c',hc⟩:=I.ok.has x (S.free _ a rfl)
  rw [hc] at b ⊢
  rw [b]; rfl
 ·cases q
theorem qeo (S:CompScope X N' pick scope) (I:Inv X pins σ H₂ s₂) {n:Nat} {x:Str} {c:Addr} (h:(cellsFrom n scope.names (qbl X.env scope.names [])).lookup x=some c) :
  (n≤c∧scope.names.lookup x=some .cell)∨(scope.names.lookup x=some .free∧X.env.cells.lookup x=some c):=by
 rcases cf_from _ _ _ h with ⟨a,b⟩ | q
 ·exact .inl ⟨a,qdG S.uniq b⟩
 ·obtain ⟨a,b⟩:=cap_of S I q
  exact .inr ⟨qdG S.uniq a,b⟩
theorem qg3 (S:CompScope X N' pick scope) (I:Inv X pins σ H₂ s₂) {n:Nat} {x:Str} {c:Addr} (hx:scope.names.lookup x=some .free) (hc:X.env.cells.lookup x=some c) :
  (cellsFrom n scope.names (qbl X.env scope.names [])).lookup x=some c:=by
 have h1:((qbl X.env scope.names []).lookup x).isSome=true:=qfx _ _ (.inr (PySem.mem_of_lookup hx))
 obtain ⟨c',h2⟩:=Option.isSome_iff_exists.mp (PySem.W.cellsFrom_some scope.names n _ (.inr h1))
 rcases qeo S I h2 with ⟨_,z⟩ | ⟨_,z⟩
 ·rw [hx] at z; cases z
 ·rw [hc] at z; cases z; exact h2
theorem frs_old (I:Inv X pins σ H₂ s₂) {b:Addr} (hb:b∈frs X.stack):b < s₂.heap.objs.size:=by
 rcases List.mem_cons.mp (I.stkSub b hb) with e | hb
 ·rw [e]; exact I.lt
 ·by_cases q:b < s₂.heap.objs.size
  ·exact q
  ·exact absurd hb (I.nofs (Nat.not_lt.mp q))
theorem comp_start (S:CompScope X N' pick scope) (I:Inv X pins σ H₂ s₂) (hf:∀ b∈fp,FpOk X pins H₂ b) (hfo:∀ b∈fp,b < s₂.heap.objs.size) {n:Nat} {C:Addr} {s₄:Shared} (hn:s₂.heap.objs.size≤n) (hC:s₂.heap.objs.size≤C) (hCn:C < n)
  (hos:s₄.os=s₂.os) (hge:s₄.gens=s₂.gens) (kp:∀ b o,s₂.heap.get? b=some o→s₄.heap.get? b=some o) (ns:s₄.heap.Ns C fun _=>none)
  (ce:∀ x c,(cellsFrom n scope.names (qbl X.env scope.names [])).lookup x=some c→(qbl X.env scope.names []).lookup x=some c∨(n≤c∧s₄.heap.IsCell c none)) :
  Inv (qbD X N' scope (cellsFrom n scope.names (qbl X.env scope.names [])) C s₂ H₂ fp (X.pn ++ pins)) [] (qgc pick σ) H₂ s₄:=by
 have fr:∀ {a:Addr},s₂.heap.objs.size≤a→H₂ a=none:=fun h=>I.hok.fresh h
 have old:∀ {x:Str} {c:Addr},X.env.cells.lookup x=some c→c < s₂.heap.objs.size:=fun {x c} e=>let ⟨v,z⟩:=I.cell x c e; z.lt
 have pold:∀ p∈X.pn ++ pins,p.1 < s₂.heap.objs.size:=fun p hp=>Heap.lt_size (I.pin p hp).1
 refine ⟨⟨I.ok.mod,S.kind,I.ok.glob,I.ok.blt,hC,?inj,?has,?cab,I.ok.hd,I.ok.frames,.inl rfl,?exf,I.bs,Nat.le_trans I.ok.bsz I.sz,?noex,?exfs,I.stack,I.stkFree⟩,
  hos,by rw [hge]; exact I.bare,Un.kept kp,⟨_,ns,?loc⟩,?cell,fr hC,?freeC,?pin,I.hok.kept kp,?len⟩
 case inj =>
  refine cf_inj _ _ _ (fun x y c h1 h2=>?_) fun x c h=>?_
  ·exact I.ok.inj x y c (cap_of S I h1).2 (cap_of S I h2).2
  ·exact Nat.lt_of_lt_of_le (old (cap_of S I h).2) hn
 case has =>
  intro x hx
  have hx:(relabel scope X.env).names.lookup x=some .cell∨(relabel scope X.env).names.lookup x=some .free:=hx
  have go:∀ k,scope.names.lookup x=some k→k=.cell∨k=.free→∃ c,(cellsFrom n scope.names (qbl X.env scope.names [])).lookup x=some c:=fun k hk hq=>by
   rcases hq with rfl | rfl
   ·exact Option.isSome_iff_exists.mp (PySem.W.cellsFrom_some _ _ _ (.inl hk))
   ·obtain ⟨c,hc⟩:=I.ok.has x (S.free _ (PySem.mem_of_lookup hk) rfl)
    exact ⟨c,qg3 S I hk hc⟩
  rcases hx with hx | hx
  ·obtain ⟨k,hk,e | ⟨e,_⟩⟩:=qgi hx
   ·exact go k hk (.inl e.symm)
   ·exact go k hk (.inr e)
  ·obtain ⟨k,hk,e | ⟨_,e⟩⟩:=qgi hx
   ·exact go k hk (.inr e.symm)
   ·cases e
 case cab =>
  intro x c hx hc
  have hx:scope.names.lookup x=some .cell:=by simpa [qbD] using hx
  rcases qeo S I hc with ⟨a,_⟩ | ⟨a,_⟩
  ·exact Nat.le_trans hn a
  ·rw [hx] at a; cases a
 case exf =>
  intro b hb
  refine ⟨Nat.ne_of_lt (Nat.lt_of_lt_of_le (hfo b hb) hC),fun x c hc=>?_⟩
  rcases qeo S I hc with ⟨a,_⟩ | ⟨_,a⟩
  ·exact Nat.ne_of_gt (Nat.lt_of_lt_of_le (hfo b hb) (Nat.le_trans hn a))
  ·exact (hf b hb).2.2.2.2.1 x c a
 case noex =>
  intro b o e hb
  rcases (hf b hb).2.2.2.1 with z | z
  ·exact I.ok.noex b o e z
  ·exact absurd (Nat.lt_of_lt_of_le (Heap.lt_size e) (Nat.le_trans I.ok.bsz z)) (Nat.lt_irrefl _)
 case exfs =>
  intro b hb hs
  rcases List.mem_cons.mp (I.stkSub b hs) with e | e
  ·exact (hf b hb).2.1 e
  ·exact (hf b hb).2.2.1 e
 case loc =>
  intro i x v h1 h2 h3
  have h1:N'[i]? = some x:=h1
  have hp:∃ j,pick[i]? = some (some j)∧σ[j]? = some (some v):=by
   unfold qgc at h2
   rw [List.getElem?_map] at h2
   cases e:pick[i]? with
   | none=>rw [e] at h2; cases h2
   | some o =>
    rw [e] at h2
    cases o with
    | none=>cases h2
    | some j =>
     refine ⟨j,rfl,?_⟩
     have h2':(σ[j]?).bind id=some v:=Option.some.inj h2
     cases e2:σ[j]? with
     | none=>rw [e2] at h2'; cases h2'
     | some q=>rw [e2] at h2'; exact congrArg some h2'
  obtain ⟨j,hj,hv⟩:=hp
  obtain ⟨hfr,hN⟩:=S.got i j x hj h1
  have hk:=S.free _ (PySem.mem_of_lookup hfr) rfl
  obtain ⟨m,hm,hl⟩:=I.loc
  obtain ⟨u,ru,lk⟩:=hl j x v hN hv (.inr hk)
  refine ⟨u,ru,?_⟩
  rcases lk with ⟨z,_⟩ | ⟨_,c,hc,hcell⟩
  ·rcases hk with q | q <;> (rw [show X.env.kindOf x=_ from z] at q; cases q)
  ·refine .inr ⟨?_,c,qg3 S I hfr hc,hcell.keeps kp⟩
   show (relabel scope X.env).names.lookup x=some .cell∨(relabel scope X.env).names.lookup x=some .free
   obtain ⟨k',hk',e | ⟨_,e⟩⟩:=rl_to (env:=X.env) hfr
   ·exact .inr (by rw [← e]; exact hk')
   ·exact .inl (by rw [← e]; exact hk')
 case cell =>
  intro x c hc
  rcases ce x c hc with z | ⟨_,z⟩
  ·obtain ⟨v,q⟩:=I.cell x c (cap_of S I z).2
   exact ⟨v,q.keeps kp⟩
  ·exact ⟨none,z⟩
 case freeC =>
  intro x c hc
  rcases qeo S I hc with ⟨a,_⟩ | ⟨_,a⟩
  ·exact fr (Nat.le_trans hn a)
  ·exact I.freeC x c a
 case pin =>
  intro p hp
  have hp:p∈X.pn ++ pins:=by simpa [qbD] using hp
  obtain ⟨e,n0,ne,nf,d⟩:=I.pin p hp
  refine ⟨kp _ _ e,n0,Nat.ne_of_lt (Nat.lt_of_lt_of_le (pold p hp) hC),fun z=>?_,d⟩
  rcases List.mem_cons.mp (I.stkSub _ z) with e | e
  ·exact ne e
  ·exact nf e
 case len =>
  unfold qgc
  rw [List.length_map]
  exact S.len
end
end L2
namespace L2
open PySem PySem.Spec PyProof.Rows
section
variable {X:Cx} {N':List Str} {pick:List (Option Nat)} {scope:Scope} {pins:List (Addr×Obj)} {σ:St} {H₂:Hp} {s₂:Shared} {tg:Expr} {J:It} {fp:List Addr} {it:Addr} {tn:Nat→Heap→Prop}
  {elt iter:Expr} {ifs:List Expr} {pos:Pos} {g:TG} {tt:TT} {te:TE}
theorem qg2 {E:Value→Shared→Prop} {RR:Value→Addr→Result→Shared→Prop} {Qv:V→Hp→Prop} (S:CompScope X N' pick scope) (hc:X.calm=true) (I₂:Inv X pins σ H₂ s₂) (T:Turn X.prog X.w X.K tg J fp it tn) (st:tn 0 s₂.heap) (hf:∀ b∈fp,FpOk X pins H₂ b)
    (hg:∀ cl C s₀ H₀ ex pn,PG (qbD X N' scope cl C s₀ H₀ ex pn) tg g) (hi:∀ cl C s₀ H₀ ex pn,PIfs (qbD X N' scope cl C s₀ H₀ ex pn) ifs tt) (he:∀ cl C s₀ H₀ ex pn,PE (qbD X N' scope cl C s₀ H₀ ex pn) elt te)
    {W:Nat→Nat→St→List V→Hp→Prop} {m0:Nat} (h0:W 0 m0 (qgc pick σ) [] H₂)
    (turn:∀ i m σ' ys H,W i m σ' ys H→ys.length < sizeLine ∧
      ((J.stop i H∧∀ p,H p=none→Qv (.ref p) (upd H p (.lst ys))) ∨
       (J.go i H∧∃ N:St→List V→Hp→Prop,(∀ σ2 zs H2,N σ2 zs H2→∃ m',m' < m∧W (i + 1) m' σ2 zs H2)∧∀ x H',J.yld i H x H'→g x σ' H' fun σ2 H2=>tt σ2 H2 fun b H3 =>
          if b=true then te σ2 H3 fun y H4=>N σ2 (ys ++ [y]) H4 else N σ2 ys H3)))
    (fin:∀ (D C:Addr) (H':Hp) (s':Shared) (m:Str→Option Value),Inv X pins σ H' s'→FpOk X pins H' C→s'.heap.Ns C m→Qv (.ref D) H'→RR (.ref D) C (.ok .next) s') :
    wpAny (model X.prog X.w) X.A (newList []) (fun acc s₃=>wpAny (model X.prog X.w) X.A (newFunctionEnv scope X.env.globals (qbl X.env scope.names []) [] X.env.qual none .none (some X.env)) (fun cenv s₄ =>
      codeAny (model X.prog X.w) X.A (.compStart (.ListComp elt [⟨tg,iter,ifs,0⟩] scope pos) 0 (.ref it) acc { cenv with scope:=relabel scope X.env }) (RR acc cenv.locals) s₄) E s₃) E s₂:=by
  have hfo:∀ b∈fp,b < s₂.heap.objs.size:=fun b hb=>let ⟨o,e,_⟩:=T.obj 0 _ st b hb; Heap.lt_size e
  refine wpAny_newObj_type (qfB fun h₄ kp ns ce=>?_)
  generalize hH3:s₂.heap.push { cls:=.type "list",dict:=none,data:=.seq ([]:List Value).toArray }=H3 at kp ns ce ⊢
  have hC:H3.objs.size=s₂.heap.objs.size + 1:=by rw [← hH3,Heap.size_push]
  have kp2:∀ b o,s₂.heap.get? b=some o→h₄.get? b=some o:=fun b o e=>kp b o (hH3 ▸ Heap.get?_push_of_some _ e)
  have hD:h₄.get? s₂.heap.objs.size=some { cls:=.type "list",data:=.seq ([]:List Value).toArray }:=kp _ _ (hH3 ▸ Heap.get?_push_size _ rfl)
  have hCle:s₂.heap.objs.size≤H3.objs.size:=by rw [hC]; exact Nat.le_succ _
  have hDC:s₂.heap.objs.size≠H3.objs.size:=by rw [hC]; exact Nat.ne_of_lt (Nat.lt_succ_self _)
  -- names for the block
  generalize hcl:cellsFrom (H3.objs.size + 1) scope.names (qbl X.env scope.names [])=cl at ce
  have I₄:Inv (qbD X N' scope cl H3.objs.size s₂ H₂ fp (X.pn ++ pins)) [] (qgc pick σ) H₂ { s₂ with heap:=h₄ }:=by
    subst hcl
    exact comp_start S I₂ hf hfo (n:=H3.objs.size + 1) (Nat.le_trans hCle (Nat.le_succ _)) hCle (Nat.lt_succ_self _) rfl rfl kp2 ns fun x c e=>ce x c e
  have hcells:∀ x c,cl.lookup x=some c→c≠s₂.heap.objs.size:=fun x c e=>by
    subst hcl
    rcases qeo S I₂ e with ⟨a,_⟩ | ⟨_,a⟩
    · refine Nat.ne_of_gt (Nat.lt_of_lt_of_le ?_ a)
      rw [hC]
      exact Nat.lt_succ_of_lt (Nat.lt_succ_self _)
    · obtain ⟨v,z⟩:=I₂.cell x c a
      exact Nat.ne_of_lt z.lt
  have hcellsC:∀ x c,X.env.cells.lookup x=some c→c≠H3.objs.size:=fun x c e=>by
    obtain ⟨v,z⟩:=I₂.cell x c e
    exact Nat.ne_of_lt (Nat.lt_of_lt_of_le z.lt hCle)
  generalize hX':qbD X N' scope cl H3.objs.size s₂ H₂ fp (X.pn ++ pins)=X' at I₄
  have xprog:X'.prog=X.prog:=by subst hX'; rfl
  have xw:X'.w=X.w:=by subst hX'; rfl
  have xK:X'.K=X.K:=by subst hX'; rfl
  have xA:X'.A=X.A:=by subst hX'; rfl
  have xcalm:X'.calm=true:=by subst hX'; exact hc
  have xloc:X'.env.locals=H3.objs.size:=by subst hX'; rfl
  have xcells:X'.env.cells=cl:=by subst hX'; rfl
  have xenv:X'.env=compEnvC scope cl H3.objs.size X.env:=by subst hX'; rfl
  have xfs:X'.fs=frs X.stack:=by subst hX'; rfl
  have xex:X'.ex=fp:=by subst hX'; rfl
  have xs0:X'.s₀=s₂:=by subst hX'; rfl
  have xpn:X'.pn=X.pn ++ pins:=by subst hX'; rfl
  have xxe:X'.xe=fun _ _=>False:=by subst hX'; rfl
  have xH0:X'.H₀=H₂:=by subst hX'; rfl
  have hg':PG X' tg g:=by subst hX'; exact hg _ _ _ _ _ _
  have hi':PIfs X' ifs tt:=by subst hX'; exact hi _ _ _ _ _ _
  have he':PE X' elt te:=by subst hX'; exact he _ _ _ _ _ _
  -- the records of the iterator,within the block
  have stat:∀ {H':Hp} {pl:List (Addr×Obj)},(∀ b∈fp,H' b=none)→(∀ p∈pl,s₂.heap.objs.size≤p.1)→∀ b∈fp,FpOk X' pl H' b:=fun {H' pl} hn hp b hb=>by
    have hlt:=hfo b hb
    obtain ⟨_,f1,f2,f3,f4,f5⟩:=hf b hb
    refine ⟨hn b hb,by rw [xloc]; exact Nat.ne_of_lt (Nat.lt_of_lt_of_le hlt hCle),?_,.inl (by rw [xex]; exact hb),fun x c e=>?_,fun p hp'=>?_⟩
    · rw [xfs]
      intro z
      rcases List.mem_cons.mp (I₂.stkSub b z) with e | e
      · exact f1 e
      · exact f2 e
    · have:=I₄.ok.exf b (by rw [xex]; exact hb)
      exact this.2 x c e
    · rcases List.mem_append.mp hp' with z | z
      · rw [xpn] at z; exact f5 p z
      · exact Nat.ne_of_gt (Nat.lt_of_lt_of_le hlt (hp p z))
  -- the list's pin
  have pinD:∀ {H':Hp} {s':Shared} {σ':St} {o:Obj},Inv X' [] σ' H' s'→s'.heap.get? s₂.heap.objs.size=some o→H' s₂.heap.objs.size=none→(∀ v,o.data≠.cell v)→Inv X' [(s₂.heap.objs.size,o)] σ' H' s':=fun {H' s' σ' o} I e hn hnc =>
    I.pins_of fun p hp=>by
      obtain rfl:p=(s₂.heap.objs.size,o):=by simpa using hp
      refine ⟨e,hn,by rw [xloc]; exact hDC,?_,hnc⟩
      rw [xfs]
      intro z
      exact absurd (frs_old I₂ z) (Nat.lt_irrefl _)
  have HD0:H₂ s₂.heap.objs.size=none:=I₂.hok.fresh (Nat.le_refl _)
  -- the invariant
  let Iv:Nat→Shared→Prop:=fun n s'=>∃ (i:Nat) (σ':St) (ys:List V) (H':Hp) (its:List Value) (k:Nat),Inv X' [(s₂.heap.objs.size,{ cls:=.type "list",data:=.seq its.toArray k })] σ' H' s'∧Vals ys its∧tn i s'.heap∧(∀ b∈fp,H' b=none)∧W i n σ' ys H'
  have loop:codeAny (model X.prog X.w) X.A (.compLoop (.ListComp elt [⟨tg,iter,ifs,0⟩] scope pos) 0 (.ref it) (.ref s₂.heap.objs.size) X'.env) (RR (.ref s₂.heap.objs.size) H3.objs.size) { s₂ with heap:=h₄ }:=by
    refine compLoop_gen Iv ?_ m0 ⟨0,_,[],H₂,[],_,pinD I₄ hD HD0 (fun v q=>nomatch q),.nil,T.keep _ _ _ st fun b _ o e=>kp2 b o e,fun b hb=>(hf b hb).1,h0⟩
    rintro n s5 ⟨i,σ5,ys,H5,its,k,I5,rv,st5,fr5,w5⟩
    obtain ⟨hlen,tr⟩:=turn i n σ5 ys H5 w5
    have p5:∀ {o:Obj},∀ p∈[(s₂.heap.objs.size,o)],s₂.heap.objs.size≤p.1:=fun {o} p hp=>by
      obtain rfl:p=(s₂.heap.objs.size,o):=by simpa using hp
      exact Nat.le_refl _
    rw [← xA]
    rcases tr with ⟨stop,qf⟩ | ⟨go,N,hN,step⟩
    · have dn:=T.done X' xprog xw xK xcalm i _ s5 σ5 H5 (fun _ _=>False) I5 (stat fr5 p5) st5 stop
      rw [xA] at dn ⊢
      refine wpAny_mono dn (fun r s6 h6=>?_) fun _ _ z=>z
      obtain ⟨rfl,I6⟩:=h6
      show RR (.ref s₂.heap.objs.size) H3.objs.size (.ok .next) s6
      obtain ⟨eD,nD,_⟩:=I6.pin _ (List.mem_append_right _ List.mem_cons_self)
      have un0:Un (frs X.stack) fp H₂ H5 s₂.heap s6.heap:=by
        have:=I6.base
        rw [xfs,xex,xs0,xH0] at this
        exact this
      have lt:∀ {b:Addr} {o:Obj},s₂.heap.get? b=some o→b≠s₂.heap.objs.size:=fun e=>Nat.ne_of_lt (Heap.lt_size e)
      have un1:Un (frs X.stack) fp H₂ (upd H5 s₂.heap.objs.size (.lst ys)) s₂.heap s6.heap :=
        ⟨un0.keep,un0.slot,fun b o e n hx=>by rw [qao (lt e)]; exact un0.free b o e n hx,un0.there,fun b xs e=>by rw [qao (qah e HD0)]; exact un0.tups b xs e,
          fun b o u e=>by rw [qao (qah e HD0)]; exact un0.frzs b o u e,fun b ps e=>by rw [qao (qah e HD0)]; exact un0.tbls b ps e⟩
      have hok1:HOk X.prog X.w (upd H5 s₂.heap.objs.size (.lst ys)) s6.heap:=fun b u e=>by
        by_cases hb:b=s₂.heap.objs.size
        · subst hb
          rw [qbu] at e; cases e
          exact ⟨Nat.le_of_lt hlen,its,k,rv,eD⟩
        · rw [qao hb] at e
          have:=I6.hok b u e
          rw [xprog,xw] at this
          exact this.stay (fun _ _ _ q=>q) (fun c q=>by rw [qao (qah q nD)]; exact q) fun c xs q=>by rw [qao (qah q nD)]; exact q
      have I7:Inv X pins σ (upd H5 s₂.heap.objs.size (.lst ys)) s6:=by
        refine I₂.call' (ch:=fp) ?_ un1 hok1 I6.bare fun b hb=>?_
        · have:=I6.os; rw [xs0] at this; exact this
        · obtain ⟨_,f1,f2,f3,f4,f5⟩:=hf b hb
          exact ⟨f3,f1,f4,f5⟩
      obtain ⟨m6,n6,_⟩:=I6.loc
      rw [xloc] at n6
      have hC6:H5 H3.objs.size=none:=by have:=I6.free; rw [xloc] at this; exact this
      refine fin _ _ _ s6 m6 I7 ⟨by rw [qao (Ne.symm hDC)]; exact hC6,?_,?_,.inr (Nat.le_trans I₂.sz hCle),hcellsC,fun p hp=>?_⟩ n6 (qf _ nD)
      · exact Nat.ne_of_gt (Nat.lt_of_lt_of_le I₂.lt hCle)
      · intro z
        exact absurd z (I₂.nofs hCle)
      · exact Nat.ne_of_lt (Nat.lt_of_lt_of_le (Heap.lt_size (I₂.pin p hp).1) hCle)
    · have itm:=T.item X' xprog xw xK xcalm i _ s5 σ5 H5 (fun _ _=>False) I5 (stat fr5 p5) st5 go
      refine wpAny_mono itm (fun r s6 h6=>?_) fun _ _ z=>z
      obtain ⟨u,rfl,h6⟩:=h6
      refine wpAny_mono h6 (fun _ s7 h7=>?_) fun _ _ z=>z
      obtain ⟨x,H7,I7,rx,y7,st7,fr7⟩:=h7
      have I7':=I7.pinned (stat fr7 p5) (T.obj _ _ st7)
      have mp:∀ {α:Type} {t:Sem α} {Q:α→Shared→Prop} {s:Shared},wpAny (model X'.prog X'.w) X'.A t Q X'.xe s→wpAny (model X.prog X.w) X'.A t Q (fun _ _=>False) s:=fun {α t Q s} h=>by
        rw [xprog,xw,xxe] at h; exact h
      refine wpAny_mono (mp (hg' _ s7 σ5 H7 x u _ I7' rx (step x H7 y7))) (fun _ s8 h8=>?_) fun _ _ z=>z
      obtain ⟨σ8,H8,I8,q8⟩:=h8
      refine wpAny_mono (mp (hi' _ s8 σ8 H8 _ I8 q8)) (fun ok s9 h9=>?_) fun _ _ z=>z
      obtain ⟨H9,I9,q9⟩:=h9
      have keepT:∀ {σ':St} {H':Hp} {s':Shared},Inv X' ([(s₂.heap.objs.size,{ cls:=.type "list",data:=.seq its.toArray k })] ++ pinsAt fp s7.heap) σ' H' s'→tn (i + 1) s'.heap∧∀ b∈fp,H' b=none:=fun {σ' H' s'} I=>by
        refine ⟨T.keep _ _ _ st7 fun b hb o e=>(I.pin (b,o) (List.mem_append_right _ (List.mem_append_right _ (qdM hb e)))).1,fun b hb=>?_⟩
        obtain ⟨o,e,d⟩:=T.obj _ _ st7 b hb
        exact (I.pin (b,o) (List.mem_append_right _ (List.mem_append_right _ (qdM hb e)))).2.1
      cases ok with
      | false =>
        rw [if_neg Bool.false_ne_true] at q9 ⊢
        obtain ⟨m',hm,w9⟩:=hN _ _ _ q9
        obtain ⟨t9,f9⟩:=keepT I9
        exact ⟨m',hm,i + 1,σ8,ys,H9,its,k,I9.unpinned,rv,t9,f9,w9⟩
      | true =>
        rw [if_pos rfl] at q9 ⊢
        refine wpAny_mono (mp (he' _ s9 σ8 H9 _ I9 q9)) (fun v s10 h10=>?_) fun _ _ z=>z
        obtain ⟨y,H10,I10,ry,n10⟩:=h10
        obtain ⟨m',hm,w10⟩:=hN _ _ _ n10
        obtain ⟨t10,f10⟩:=keepT I10
        have I10':=I10.unpinned
        obtain ⟨eD,nD,neD,nfD,dD⟩:=I10'.pin _ (List.mem_append_right _ List.mem_cons_self)
        have hl:=rv.length
        refine call_meets F.slot_list_append ⟨_,eD,rfl⟩ F.entry_list_append (F.args_list_append_2 _ _) (PySem.list_append s₂.heap.objs.size its.toArray k v (by rw [List.size_toArray]; omega)) ⟨eD,?_⟩
        have q:=PySem.IsL.update eD (·.push v)
        have I11:Inv X' [] σ8 H10 { s10 with heap:=s10.heap.update s₂.heap.objs.size (Obj.mapSeq (·.push v)) }:=by
          refine (I10'.pins_of (pins':=[]) fun p hp=>by cases hp).turned (t':=s10.toks) (it:=s₂.heap.objs.size) (fun b o hb e=>(Heap.get?_update_other s10.heap (Obj.mapSeq (·.push v)) (Ne.symm hb)).trans e) nD neD (.inr (by rw [xs0]; exact Nat.le_refl _)) (fun x c hc=>hcells x c (by rw [← xcells]; exact hc)) fun p hp=>?_
          have hp:p∈X.pn ++ pins:=by rw [List.append_nil,xpn] at hp; exact hp
          exact Nat.ne_of_lt (Heap.lt_size (I₂.pin p hp).1)
        rw [show its.toArray.push v=(its ++ [v]).toArray by simp] at q
        refine ⟨m',hm,i + 1,σ8,ys ++ [y],H10,its ++ [v],_,pinD I11 q nD (fun v q=>nomatch q),rv.append (.cons ry .nil),?_,f10,w10⟩
        refine T.keep _ _ _ t10 fun b hb o e=>(Heap.get?_update_other s10.heap (Obj.mapSeq (·.push v)) ?_).trans e
        exact Nat.ne_of_gt (hfo b hb)
  have e4:({ scope:=relabel scope X.env,locals:=H3.objs.size,globals:=X.env.globals,cells:=cl,qual:=X.env.qual,func:=none,code:=X.env.code,frame:=X.env.frame,builtins:=X.env.builtins }:Env)=X'.env:=by rw [xenv]; rfl
  have st4:tn 0 h₄:=T.keep _ _ _ st fun b _ o e=>kp2 b o e
  have goal:codeAny (model X.prog X.w) X.A (.compStart (.ListComp elt [⟨tg,iter,ifs,0⟩] scope pos) 0 (.ref it) (.ref s₂.heap.objs.size) X'.env) (RR (.ref s₂.heap.objs.size) H3.objs.size) { s₂ with heap:=h₄ } :=
    codeAny_compStart_list loop (T.self _ 0 _ _ _ st4 loop)
  rw [← e4] at goal
  exact goal
theorem Inv.gone {H':Hp} {s':Shared} {h':Heap} {C:Addr} (I:Inv X pins σ H' s') (f:FpOk X pins H' C) (hs:Heap.SameBut C s'.heap h'):Inv X pins σ H' { s' with heap:=h' }:=by
  obtain ⟨f0,f1,f2,f3,f4,f5⟩:=f
  exact I.turned (t':=s'.toks) (fun b o hb e=>(hs.2 b hb).trans e) f0 f1 f3 f4 f5
theorem pe_comp {wi:TI} (S:CompScope X N' pick scope) (hc:X.calm=true) (hit:PI X tg iter wi)
    (hg:∀ cl C s₀ H₀ ex pn,PG (qbD X N' scope cl C s₀ H₀ ex pn) tg g) (hi:∀ cl C s₀ H₀ ex pn,PIfs (qbD X N' scope cl C s₀ H₀ ex pn) ifs tt) (he:∀ cl C s₀ H₀ ex pn,PE (qbD X N' scope cl C s₀ H₀ ex pn) elt te)
    (hs:∀ x,foldedSetIterable iter X.env x=pure x:=by intro _; rfl) :
    PE X (.ListComp elt [⟨tg,iter,ifs,0⟩] scope pos) (tComp wi pick g tt te):=by
  intro pins s σ H Q I h
  rw [eval_ListComp]
  refine wpAny_comprehension_free (use:=none) rfl hs (clos_of S I) S.kind S.names (thn (hit pins s σ H _ I h) fun v s1 h1=>thn h1 fun itv s2 h2=>?_)
  obtain ⟨it,fp,tn,J,H2,rfl,I2,T,st2,f2,W,⟨m0,w0⟩,turn⟩:=h2
  refine qg2 (RR:=fun acc C=>compPost (model X.prog X.w) X.A X.xe none (EP X pins σ Q) acc C) (Qv:=Q) S hc I2 T st2 f2 hg hi he w0 turn ?_
  intro D C H' s' m I' f' n' q'
  exact ⟨m,n',fun h' hs'=>⟨.ref D,H',I'.gone f' hs',rfl,q'⟩⟩
def tSetComp (i:Nat) (t:TE):TS:=fun D σ H=>t σ H fun v H1=>D.nx (σ.set i (some v)) H1
theorem ps_setComp {wi:TI} {i:Nat} {y:Str} {py spos:Pos} (hsw:swapsWith (.ListComp elt [⟨tg,iter,ifs,0⟩] scope pos) (some (.Name y py)) spos.line X.env=pure true) (hN:X.N.Nodup) (hy:X.N[i]? = some y) (hl:X.env.scope.names.lookup y=some .local)
    (S:CompScope X N' pick scope) (hc:X.calm=true) (hit:PI X tg iter wi)
    (hg:∀ cl C s₀ H₀ ex pn,PG (qbD X N' scope cl C s₀ H₀ ex pn) tg g) (hi:∀ cl C s₀ H₀ ex pn,PIfs (qbD X N' scope cl C s₀ H₀ ex pn) ifs tt) (he:∀ cl C s₀ H₀ ex pn,PE (qbD X N' scope cl C s₀ H₀ ex pn) elt te)
    (hs:∀ x,foldedSetIterable iter X.env x=pure x:=by intro _; rfl) :
    PS X (.Assign [.Name y py] (.ListComp elt [⟨tg,iter,ifs,0⟩] scope pos) spos) (tSetComp i (tComp wi pick g tt te)):=by
  intro pins s σ H D I h
  rw [exec_Assign_Name_used _ _ _ _ hsw]
  refine wpAny_bind (wpAny_standAt (wpAny_bind ?_))
  show wpAny _ X.A (do let _ ← comprehension (.ListComp elt [⟨tg,iter,ifs,0⟩] scope pos) scope X.env _ (newList []) false (eval iter X.env) (some (assign (.Name y py) X.env))) _ _ s
  refine wpAny_bind (wpAny_mono (wpAny_comprehension_free (use:=some (assign (.Name y py) X.env)) (Q:=fun _ s'=>SP X pins D .next s') rfl hs (clos_of S I) S.kind S.names
    (thn (hit pins s σ H _ I h) fun v s1 h1=>thn h1 fun itv s2 h2=>?_)) (fun _ s' hq=>wpAny_pure (wpAny_pure hq)) fun _ _ e=>e)
  obtain ⟨it,fp,tn,J,H2,rfl,I2,T,st2,f2,W,⟨m0,w0⟩,turn⟩:=h2
  refine qg2 (RR:=fun acc C=>compPost (model X.prog X.w) X.A X.xe (some (assign (.Name y py) X.env)) (fun _ s'=>SP X pins D .next s') acc C) (Qv:=fun v H1=>D.nx (σ.set i (some v)) H1) S hc I2 T st2 f2 hg hi he w0 turn ?_
  intro Da C H' s' m I' f' n' q'
  show wpAny _ X.A (assign (.Name y py) X.env (.ref Da)) _ _ _
  refine wpAny_assign_Name (store_ok2 I' hN hy (.inl hl) (v:=.ref Da) rfl (fun s'' I'' ⟨a,sb,ha⟩=>?_) (.inr hl))
  have hCa:C≠a:=by
    rcases ha with e | e
    · rw [e]; exact f'.2.1
    · exact Ne.symm (f'.2.2.2.2.1 _ _ e)
  exact ⟨m,n'.sameBut sb hCa,fun h' hs'=>⟨_,H',I''.gone f' hs',q'⟩⟩
end
def compB (XN:List Str) (xn:List (Str×NameKind)) (N':List Str) (pick:List (Option Nat)) (names:List (Str×NameKind)):Bool :=
  decide N'.Nodup && names.all (fun x=>decide (names.lookup x.1=some x.2)) && decide ((names.map (·.1)).Nodup) && (pick.length == N'.length) &&
  (pick.zip N').all (fun q=>match q.1 with | none=>true | some j=>decide (names.lookup q.2=some NameKind.free) && decide (XN[j]? = some q.2)) &&
  names.all (fun x=>decide (x.2≠NameKind.free) || (decide (xn.lookup x.1=some NameKind.cell) || decide (xn.lookup x.1=some NameKind.free)))
theorem CompScope.of {X:Cx} {N':List Str} {pick:List (Option Nat)} {scope:Scope} (hk:scope.kind=.function) (h:compB X.N X.env.scope.names N' pick scope.names=true):CompScope X N' pick scope:=by
  unfold compB at h
  simp only [Bool.and_eq_true,List.all_eq_true,decide_eq_true_eq,beq_iff_eq,Bool.or_eq_true] at h
  obtain ⟨⟨⟨⟨⟨h1,h2⟩,h3⟩,h4⟩,h5⟩,h6⟩:=h
  refine ⟨hk,h1,fun x hx e=>by rw [← e]; exact h2 x hx,h3,h4,fun i j x hp hN=>?_,fun x hx e=>?_⟩
  · have hm:(some j,x)∈pick.zip N':=by
      have:(pick.zip N')[i]? = some (some j,x):=by rw [List.getElem?_zip_eq_some]; exact ⟨hp,hN⟩
      exact List.mem_of_getElem? this
    exact h5 _ hm |> fun z=>by simpa using z
  · rcases h6 x hx with z | z | z
    · exact absurd e z
    · exact .inl z
    · exact .inr z
end L2
namespace PySem
open Sem (wp)
section
variable {prog:Program} {w:World} {A:Around} {E:Value→Shared→Prop} {s:Shared}
theorem qex {it l:Addr} {i:Nat} {items:Array Value} {x:Value} {Q:Value→Shared→Prop} (hit:s.heap.IsTupleIter it l i)
  (hl:s.heap.IsTuple l items) (hx:items[i]? = some x)
  (hQ:∀ h',h'.IsTupleIter it l (i + 1)→Heap.SameBut it s.heap h'→Q x { s with heap:=h' }) :
  wpAny (model prog w) A (Builtin.SmallTypes.nextOf (.ref it)) Q E s:=by
 obtain ⟨o,ho,hc,hd⟩:=id hit
 obtain ⟨ol,hol,_,nl,hdl⟩:=hl
 unfold Builtin.SmallTypes.nextOf
 refine wpAny_bind (wpAny_callSpecial?_slot (name:=Str.ofString "__next__") hit.typeIs F.slot_tuple_iterator_next
  (wpAny_call_entry F.slot_tuple_iterator_next hit.typeIs F.entry_tuple_iterator_next ?_ (F.args_tuple_iterator_next_1 _)))
 show wpAny _ _ (field (.ref it) 0 >>= _) _ _ s
 refine wpAny_bind (wpAny_field ho hd (x:=.ref l) rfl ?_)
 show wpAny _ _ (if (Value.ref l == Value.none)=true then _ else _) _ _ s
 rw [if_neg (show ¬ ((Value.ref l == Value.none)=true) from Bool.false_ne_true)]
 show wpAny _ _ (field (.ref it) 1 >>= _) _ _ s
 refine wpAny_bind (wpAny_field ho hd (x:=.int i 0) rfl ?_)
 show wpAny _ _ (seqItems? (.ref l) >>= _) _ _ s
 refine wpAny_bind (wpAny_seqItems hol hdl ?_)
 simp only [Int.toNat_natCast,hx]
 refine wpAny_bind (wpAny_setField ho hd (by simp) (wpAny_pure ⟨x,rfl,wpAny_pure (hQ _ ?_ (Heap.SameBut.update ..))⟩))
 exact ⟨_,Heap.get?_update_self _ ho (Obj.isFreed_of_fields (Obj.data_mapFields hd _)),(Obj.cls_mapFields ..).trans hc,by
  rw [Obj.data_mapFields hd]; simp [rawInt]⟩
theorem qeP {it l:Addr} {i:Nat} {items:Array Value} {Q:Value→Shared→Prop} (hh:A.handled=none)
  (hit:s.heap.IsTupleIter it l i) (hl:s.heap.IsTuple l items) (hx:items[i]? = none)
  (hE:∀ h' e,Heap.ExtBut it s.heap h'→(∃ o,h'.get? e=some o∧o.cls=.type "StopIteration")→E (.ref e) { s with heap:=h' }) :
  wpAny (model prog w) A (Builtin.SmallTypes.nextOf (.ref it)) Q E s:=by
 obtain ⟨o,ho,hc,hd⟩:=id hit
 obtain ⟨ol,hol,_,nl,hdl⟩:=hl
 unfold Builtin.SmallTypes.nextOf
 refine wpAny_bind (wpAny_callSpecial?_slot (name:=Str.ofString "__next__") hit.typeIs F.slot_tuple_iterator_next
  (wpAny_call_entry F.slot_tuple_iterator_next hit.typeIs F.entry_tuple_iterator_next ?_ (F.args_tuple_iterator_next_1 _)))
 show wpAny _ _ (field (.ref it) 0 >>= _) _ _ s
 refine wpAny_bind (wpAny_field ho hd (x:=.ref l) rfl ?_)
 show wpAny _ _ (if (Value.ref l == Value.none)=true then _ else _) _ _ s
 rw [if_neg (show ¬ ((Value.ref l == Value.none)=true) from Bool.false_ne_true)]
 show wpAny _ _ (field (.ref it) 1 >>= _) _ _ s
 refine wpAny_bind (wpAny_field ho hd (x:=.int i 0) rfl ?_)
 show wpAny _ _ (seqItems? (.ref l) >>= _) _ _ s
 refine wpAny_bind (wpAny_seqItems hol hdl ?_)
 simp only [Int.toNat_natCast,hx]
 refine wpAny_bind (wpAny_rule (wpAny_bind (wpAny_setField ho hd (by simp) ?_)))
 show wpAny _ _ (newExc (.type "StopIteration") [] >>= _) _ _ _
 refine wpAny_bind ?_
 simp only [newExc,newTuple]
 refine wpAny_bind (wpAny_newObj_type ?_ (by size_fits))
 refine wpAny_bind (m:=firstArgMember _ _) (wpAny_of_eq (a:=Value.none) (by first | rfl | (simp only [firstArgMember]; rfl)) ?_)
 refine wpAny_newObj_type ?_ (by size_fits)
 simp only [raiseNew]
 refine wpAny_bind (wpAny_handled ?_)
 first | rw [show A.in1.handled=none from hh] | rw [hh]
 refine wpAny_bind (wpAny_pure (wpAny_throw ?_))
 exact hE _ _ (((Heap.SameBut.update ..).extBut.push _).push _) ⟨_,Heap.get?_push_size _ rfl,rfl⟩
theorem Draws.tuple {prog:Program} {w:World} {A:Around} (hh:A.handled=none) (it l:Addr) (hne:l≠it) (items:Array Value) :
  Draws prog w A it [it,l] items.size (fun i v=>items[i]? = some v) (fun i h=>h.IsTupleIter it l i∧h.IsTuple l items) where
 live:=fun _ _ st=>let ⟨o,ho,_⟩:=st.1; ⟨o,ho⟩
 frame:=fun _ _ _ st hk=>⟨st.1.at fun o e=>hk it (by simp) o e,let ⟨o,e,r⟩:=st.2; ⟨o,hk l (by simp) o e,r⟩⟩
 item:=fun i s Q E hi st hQ=>by
  refine qex st.1 st.2 (x:=items[i]) (by simp [hi]) fun h' hit' hs'=>?_
  exact hQ _ h' s.toks (by simp [hi]) ⟨hit',let ⟨o,e,r⟩:=st.2; ⟨o,hs'.extBut _ _ hne e,r⟩⟩ hs'
 done:=fun s Q E st hE=>qeP hh st.1 st.2 (by simp) hE
structure ZA (z TI TO i1 i2:Addr) (f1 f2:List Addr):Prop where
 TIz:TI≠z
 TOz:TO≠z
 TITO:TI≠TO
 TIi1:TI≠i1
 TIi2:TI≠i2
 m1:i1∈f1
 m2:i2∈f2
 z1:z∉f1
 z2:z∉f2
 o1:TO∉f1
 o2:TO∉f2
 x1:i1∉f2
 x2:i2∉f1
theorem zipD_item {z TI TO i1 i2:Addr} {f1 f2:List Addr} {n1 n2 k:Nat} {P1 P2:Nat→Value→Prop} {S1 S2:Nat→Heap→Prop} {a b:Value} {Q:Value→Shared→Prop} (D:ZA z TI TO i1 i2 f1 f2) (D1:Draws prog w A i1 f1 n1 P1 S1) (D2:Draws prog w A i2 f2 n2 P2 S2)
  (hz:IsZip s.heap z TI TO .none) (hTI:IsPair s.heap TI (.ref i1) (.ref i2)) (hTO:IsPair s.heap TO a b)
  (h1:S1 k s.heap) (h2:S2 k s.heap) (hx:k < n1) (hy:k < n2)
  (hQ:∀ x y h' tk,P1 k x→P2 k y→IsZip h' z TI TO (rawInt s.heap.objs.size)→IsPair h' TO x y→S1 (k + 1) h'→S2 (k + 1) h'→IsPair h' s.heap.objs.size x y →
   (∀ c o,c≠z→c≠TO→c≠i1→c≠i2→s.heap.get? c=some o→h'.get? c=some o)→Q (.ref s.heap.objs.size) { s with heap:=h',toks:=tk }) :
  wpAny (model prog w) A (Builtin.«zip.__next__» ⟨[.ref z],[]⟩) (fun fin s'=>∃ v,fin=.done (.ret v)∧Q v s') E s:=by
 have nz1:i1≠z:=fun e=>D.z1 (e ▸ D.m1)
 have nz2:i2≠z:=fun e=>D.z2 (e ▸ D.m2)
 have no1:TO≠i1:=fun e=>D.o1 (e ▸ D.m1)
 have no2:TO≠i2:=fun e=>D.o2 (e ▸ D.m2)
 have n12:i1≠i2:=fun e=>D.x1 (e ▸ D.m2)
 show wpAny _ _ (field (.ref z) 2 >>= _) _ _ _
 refine wpAny_bind (wpAny_field hz rfl (x:=.bool false) rfl ?_)
 show wpAny _ _ (field (.ref z) 3 >>= _) _ _ _
 refine wpAny_bind (wpAny_field hz rfl (x:=.ref TI) rfl ?_)
 refine wpAny_bind (wpAny_seqItems hTI rfl ?_)
 show wpAny _ _ (Builtin.SmallTypes.ownedTupleIsFree (.ref z) >>= _) _ _ _
 refine wpAny_bind ?_
 unfold Builtin.SmallTypes.ownedTupleIsFree
 refine wpAny_bind (wpAny_field hz rfl (x:=.none) rfl (wpAny_pure ?_))
 simp only [if_true]
 refine wpAny_bind (wpAny_rule ?_)
 refine wpAny_bind (wpAny_field hz rfl (x:=.ref TO) rfl ?_)
 refine wpAny_bind (wpAny_setField_rec hz (by simp) fun h₁ hz₁ hs₁=>?_)
 replace hz₁:IsZip h₁ z TI TO .ellipsis:=hz₁
 refine wpAny_bind ?_
 simp only [List.zipIdx_cons,List.zipIdx_nil,List.forIn_cons,List.forIn_nil]
 refine wpAny_bind (wpAny_bind (wpAny_onRaise ?_))
 show wpAny _ _ (Builtin.SmallTypes.nextOf (.ref i1) >>= _) _ _ _
 refine wpAny_bind (D1.item k _ _ _ hx (D1.frame _ _ _ h1 fun c hc o e=>hs₁.extBut _ _ (fun q=>D.z1 (q ▸ hc)) e) fun x h₂ tk₂ px h1₂ hs₂=>wpAny_pure ?_)
 have hTO₂:IsPair h₂ TO a b:=hs₂.extBut _ _ no1 (hs₁.extBut _ _ D.TOz hTO)
 refine wpAny_bind (wpAny_seqItems hTO₂ rfl ?_)
 refine wpAny_bind (wpAny_updateSeq_pair hTO₂ fun h₃ hTO₃ hs₃=>?_)
 replace hTO₃:IsPair h₃ TO x b:=hTO₃
 refine wpAny_bind (wpAny_letGo (wpAny_pure ?_))
 refine wpAny_bind (wpAny_bind (wpAny_onRaise ?_))
 show wpAny _ _ (Builtin.SmallTypes.nextOf (.ref i2) >>= _) _ _ _
 refine wpAny_bind (D2.item k _ _ _ hy (D2.frame _ _ _ h2 fun c hc o e=>hs₃.extBut _ _ (fun q=>D.o2 (q ▸ hc)) (hs₂.extBut _ _ (fun q=>D.x1 (q ▸ hc)) (hs₁.extBut _ _ (fun q=>D.z2 (q ▸ hc)) e))) fun y h₄ tk₄ py h2₄ hs₄=>wpAny_pure ?_)
 have hTO₄:IsPair h₄ TO x b:=hs₄.extBut _ _ no2 hTO₃
 refine wpAny_bind (wpAny_seqItems hTO₄ rfl ?_)
 refine wpAny_bind (wpAny_updateSeq_pair hTO₄ fun h₅ hTO₅ hs₅=>?_)
 replace hTO₅:IsPair h₅ TO x y:=hTO₅
 refine wpAny_bind (wpAny_letGo (wpAny_pure (wpAny_pure ?_)))
 refine wpAny_bind (wpAny_seqItems hTO₅ rfl ?_)
 refine wpAny_bind (wpAny_newTuple ?_)
 have hsz:h₅.objs.size=s.heap.objs.size:=by rw [hs₅.1,hs₄.1,hs₃.1,hs₂.1,hs₁.1]
 have hz₅:IsZip h₅ z TI TO .ellipsis:=hs₅.extBut _ _ D.TOz.symm (hs₄.extBut _ _ nz2.symm (hs₃.extBut _ _ D.TOz.symm (hs₂.extBut _ _ nz1.symm hz₁)))
 have hk₅:∀ c o,c≠z→c≠TO→c≠i1→c≠i2→s.heap.get? c=some o→h₅.get? c=some o:=fun c o c1 c2 c3 c4 e =>
  hs₅.extBut _ _ c2 (hs₄.extBut _ _ c4 (hs₃.extBut _ _ c2 (hs₂.extBut _ _ c3 (hs₁.extBut _ _ c1 e))))
 have h1₅:S1 (k + 1) h₅:=D1.frame _ _ _ h1₂ fun c hc o e=>hs₅.extBut _ _ (fun q=>D.o1 (q ▸ hc)) (hs₄.extBut _ _ (fun q=>D.x2 (q ▸ hc)) (hs₃.extBut _ _ (fun q=>D.o1 (q ▸ hc)) e))
 have h2₅:S2 (k + 1) h₅:=D2.frame _ _ _ h2₄ fun c hc o e=>hs₅.extBut _ _ (fun q=>D.o2 (q ▸ hc)) e
 have hzlt:z < h₅.objs.size:=Heap.lt_size hz₅
 show wpAny _ _ (Builtin.SmallTypes.ownedTupleHandOut (.ref z) (.ref h₅.objs.size) >>= _) _ _ _
 refine wpAny_bind ?_
 unfold Builtin.SmallTypes.ownedTupleHandOut
 have hz₆:IsZip (h₅.push { cls:=.type "tuple",data:=.seq #[x,y] }) z TI TO .ellipsis:=Heap.get?_push_of_some _ hz₅
 refine wpAny_bind (wpAny_setField_rec hz₆ (by simp) fun h₇ hz₇ hs₇=>?_)
 replace hz₇:IsZip h₇ z TI TO (rawInt h₅.objs.size):=hz₇
 refine wpAny_setField_rec hz₇ (by simp) fun h₈ hz₈ hs₈=>?_
 replace hz₈:IsZip h₈ z TI TO (rawInt h₅.objs.size):=hz₈
 have up:∀ c o,c≠z→h₅.get? c=some o→h₈.get? c=some o:=fun c o c1 e=>hs₈.extBut _ _ c1 (hs₇.extBut _ _ c1 (Heap.get?_push_of_some _ e))
 have hT₈:IsPair h₈ h₅.objs.size x y:=hs₈.extBut _ _ (Nat.ne_of_gt hzlt) (hs₇.extBut _ _ (Nat.ne_of_gt hzlt) (Heap.get?_push_size _ rfl))
 rw [hsz] at hz₈ hT₈
 refine wpAny_pure ⟨_,rfl,?_⟩
 show Q (.ref h₅.objs.size) _
 rw [hsz]
 exact hQ x y h₈ _ px py hz₈ (up _ _ D.TOz hTO₅) (D1.frame _ _ _ h1₅ fun c hc o e=>up c o (fun q=>D.z1 (q ▸ hc)) e) (D2.frame _ _ _ h2₅ fun c hc o e=>up c o (fun q=>D.z2 (q ▸ hc)) e) hT₈ fun c o c1 c2 c3 c4 e=>up c o c1 (hk₅ c o c1 c2 c3 c4 e)
theorem zipD_end {z TI TO i1 i2:Addr} {f1 f2:List Addr} {n1 n2 k:Nat} {P1 P2:Nat→Value→Prop} {S1 S2:Nat→Heap→Prop} {a b:Value} {Q:Fin→Shared→Prop} (D:ZA z TI TO i1 i2 f1 f2) (D1:Draws prog w A i1 f1 n1 P1 S1) (D2:Draws prog w A i2 f2 n2 P2 S2)
  (hz:IsZip s.heap z TI TO .none) (hTI:IsPair s.heap TI (.ref i1) (.ref i2)) (hTO:IsPair s.heap TO a b)
  (h1:S1 k s.heap) (h2:S2 k s.heap) (hend:k=n1∨(k < n1∧k=n2))
  (hE:∀ h' tk e,(∀ c o,c≠z→c≠TO→c≠i1→c≠i2→s.heap.get? c=some o→h'.get? c=some o)→(∃ o,h'.get? e=some o∧o.cls=.type "StopIteration")→E (.ref e) { s with heap:=h',toks:=tk }) :
  wpAny (model prog w) A (Builtin.«zip.__next__» ⟨[.ref z],[]⟩) Q E s:=by
 have nz1:i1≠z:=fun e=>D.z1 (e ▸ D.m1)
 have nz2:i2≠z:=fun e=>D.z2 (e ▸ D.m2)
 have no1:TO≠i1:=fun e=>D.o1 (e ▸ D.m1)
 have no2:TO≠i2:=fun e=>D.o2 (e ▸ D.m2)
 show wpAny _ _ (field (.ref z) 2 >>= _) _ _ _
 refine wpAny_bind (wpAny_field hz rfl (x:=.bool false) rfl ?_)
 show wpAny _ _ (field (.ref z) 3 >>= _) _ _ _
 refine wpAny_bind (wpAny_field hz rfl (x:=.ref TI) rfl ?_)
 refine wpAny_bind (wpAny_seqItems hTI rfl ?_)
 show wpAny _ _ (Builtin.SmallTypes.ownedTupleIsFree (.ref z) >>= _) _ _ _
 refine wpAny_bind ?_
 unfold Builtin.SmallTypes.ownedTupleIsFree
 refine wpAny_bind (wpAny_field hz rfl (x:=.none) rfl (wpAny_pure ?_))
 simp only [if_true]
 refine wpAny_bind (wpAny_rule ?_)
 refine wpAny_bind (wpAny_field hz rfl (x:=.ref TO) rfl ?_)
 refine wpAny_bind (wpAny_setField_rec hz (by simp) fun h₁ hz₁ hs₁=>?_)
 replace hz₁:IsZip h₁ z TI TO .ellipsis:=hz₁
 refine wpAny_bind ?_
 simp only [List.zipIdx_cons,List.zipIdx_nil,List.forIn_cons,List.forIn_nil]
 refine wpAny_bind (wpAny_bind (wpAny_onRaise ?_))
 show wpAny _ _ (Builtin.SmallTypes.nextOf (.ref i1) >>= _) _ _ _
 have h1₁:S1 k h₁:=D1.frame _ _ _ h1 fun c hc o e=>hs₁.extBut _ _ (fun q=>D.z1 (q ▸ hc)) e
 rcases hend with rfl | ⟨hlt,rfl⟩
 ·refine wpAny_bind (D1.done _ _ _ h1₁ fun h₂ e hs₂ he=>?_)
  obtain ⟨oe,hoe,hce⟩:=he
  have hz₂:IsZip h₂ z TI TO .ellipsis:=hs₂ _ _ nz1.symm hz₁
  have hez:e≠z:=fun x=>by subst x; rw [hz₂] at hoe; cases hoe; simp at hce
  refine wpAny_setField_rec hz₂ (by simp) fun h₃ _ hs₃=>hE h₃ _ e (fun c o c1 _ c3 _ x=>hs₃.extBut _ _ c1 (hs₂ _ _ c3 (hs₁.extBut _ _ c1 x))) ⟨oe,hs₃.extBut _ _ hez hoe,hce⟩
 ·refine wpAny_bind (D1.item k _ _ _ hlt h1₁ fun x h₂ tk₂ px h1₂ hs₂=>wpAny_pure ?_)
  have hTO₂:IsPair h₂ TO a b:=hs₂.extBut _ _ no1 (hs₁.extBut _ _ D.TOz hTO)
  refine wpAny_bind (wpAny_seqItems hTO₂ rfl ?_)
  refine wpAny_bind (wpAny_updateSeq_pair hTO₂ fun h₃ hTO₃ hs₃=>?_)
  refine wpAny_bind (wpAny_letGo (wpAny_pure ?_))
  refine wpAny_bind (wpAny_bind (wpAny_onRaise ?_))
  show wpAny _ _ (Builtin.SmallTypes.nextOf (.ref i2) >>= _) _ _ _
  refine wpAny_bind (D2.done _ _ _ (D2.frame _ _ _ h2 fun c hc o e=>hs₃.extBut _ _ (fun q=>D.o2 (q ▸ hc)) (hs₂.extBut _ _ (fun q=>D.x1 (q ▸ hc)) (hs₁.extBut _ _ (fun q=>D.z2 (q ▸ hc)) e))) fun h₄ e hs₄ he=>?_)
  obtain ⟨oe,hoe,hce⟩:=he
  have hz₄:IsZip h₄ z TI TO .ellipsis:=hs₄ _ _ nz2.symm (hs₃.extBut _ _ D.TOz.symm (hs₂.extBut _ _ nz1.symm hz₁))
  have hez:e≠z:=fun x=>by subst x; rw [hz₄] at hoe; cases hoe; simp at hce
  refine wpAny_setField_rec hz₄ (by simp) fun h₅ _ hs₅=>hE h₅ _ e (fun c o c1 c2 c3 c4 x=>hs₅.extBut _ _ c1 (hs₄ _ _ c4 (hs₃.extBut _ _ c2 (hs₂.extBut _ _ c3 (hs₁.extBut _ _ c1 x))))) ⟨oe,hs₅.extBut _ _ hez hoe,hce⟩
theorem qeM {z TI TO i1 i2:Addr} {f1 f2:List Addr} {n1 n2 k:Nat} {P1 P2:Nat→Value→Prop} {S1 S2:Nat→Heap→Prop} {a b:Value} {Q:Option Value→Shared→Prop} (D:ZA z TI TO i1 i2 f1 f2) (D1:Draws prog w A.in1 i1 f1 n1 P1 S1) (D2:Draws prog w A.in1 i2 f2 n2 P2 S2)
  (hz:IsZip s.heap z TI TO .none) (hTI:IsPair s.heap TI (.ref i1) (.ref i2)) (hTO:IsPair s.heap TO a b)
  (h1:S1 k s.heap) (h2:S2 k s.heap) (hx:k < n1) (hy:k < n2)
  (hQ:∀ x y h' tk,P1 k x→P2 k y→IsZip h' z TI TO (rawInt s.heap.objs.size)→IsPair h' TO x y→S1 (k + 1) h'→S2 (k + 1) h'→IsPair h' s.heap.objs.size x y →
   (∀ c o,c≠z→c≠TO→c≠i1→c≠i2→s.heap.get? c=some o→h'.get? c=some o)→Q (some (.ref s.heap.objs.size)) { s with heap:=h',toks:=tk }) :
  wpAny (model prog w) A (pyNext (.ref z)) Q E s:=by
 have hT:s.TypeIs (.ref z) "zip":=⟨_,hz,rfl⟩
 unfold pyNext
 exact wpAny_bind (wpAny_attempt (wpAny_callSpecial?_slot (name:=Str.ofString "__next__") hT F.slot_zip_next
  (wpAny_call_entry F.slot_zip_next hT F.entry_zip_next
   (zipD_item D D1 D2 hz hTI hTO h1 h2 hx hy fun x y h' tk a0 b0 a1 a2 a3 a4 a5 a7=>wpAny_pure (hQ x y h' tk a0 b0 a1 a2 a3 a4 a5 a7)) (F.args_zip_next_1 _))))
theorem qf4 {z TI TO i1 i2:Addr} {f1 f2:List Addr} {n1 n2 k:Nat} {P1 P2:Nat→Value→Prop} {S1 S2:Nat→Heap→Prop} {a b:Value} {Q:Option Value→Shared→Prop} (D:ZA z TI TO i1 i2 f1 f2) (D1:Draws prog w A.in1 i1 f1 n1 P1 S1) (D2:Draws prog w A.in1 i2 f2 n2 P2 S2)
  (hz:IsZip s.heap z TI TO .none) (hTI:IsPair s.heap TI (.ref i1) (.ref i2)) (hTO:IsPair s.heap TO a b)
  (h1:S1 k s.heap) (h2:S2 k s.heap) (hend:k=n1∨(k < n1∧k=n2))
  (hQ:∀ h' tk,(∀ c o,c≠z→c≠TO→c≠i1→c≠i2→s.heap.get? c=some o→h'.get? c=some o)→Q none { s with heap:=h',toks:=tk }):wpAny (model prog w) A (pyNext (.ref z)) Q E s:=by
 have hT:s.TypeIs (.ref z) "zip":=⟨_,hz,rfl⟩
 unfold pyNext
 refine wpAny_bind (wpAny_attempt (wpAny_callSpecial?_slot (name:=Str.ofString "__next__") hT F.slot_zip_next
  (wpAny_call_entry F.slot_zip_next hT F.entry_zip_next (zipD_end D D1 D2 hz hTI hTO h1 h2 hend fun h' tk e hk he=>?_) (F.args_zip_next_1 _))))
 obtain ⟨o,ho,hc⟩:=he
 refine wpAny_bind (wpAny_isInstance (T:="StopIteration") (b:=true) ⟨o,ho,hc⟩ isSubtype_stop ?_)
 exact wpAny_pure (hQ _ _ hk)
abbrev zipT1 (h:Heap) (l1:Addr):Heap:=h.push { cls:=.type "tuple_iterator",data:=.fields #[.ref l1,.int 0 0] }
abbrev zipT2 (h:Heap) (l1 l2:Addr):Heap:=(zipT1 h l1).push { cls:=.type "tuple_iterator",data:=.fields #[.ref l2,.int 0 0] }
abbrev zipT3 (h:Heap) (l1 l2:Addr):Heap:=(zipT2 h l1 l2).push { cls:=.type "tuple",data:=.seq #[.ref h.objs.size,.ref (zipT1 h l1).objs.size] }
abbrev zipT4 (h:Heap) (l1 l2:Addr):Heap:=(zipT3 h l1 l2).push { cls:=.type "tuple",data:=.seq #[.none,.none] }
abbrev zipT5 (h:Heap) (l1 l2:Addr):Heap:=(zipT4 h l1 l2).push { cls:=.type "zip",data:=.fields #[.none,.bool false,.bool false,.ref (zipT2 h l1 l2).objs.size,.ref (zipT3 h l1 l2).objs.size] }
theorem IsTuple_push {h:Heap} {a:Addr} {xs:Array Value} (x:h.IsTuple a xs) (o:Obj):(h.push o).IsTuple a xs:=let ⟨q,e,r⟩:=x; ⟨q,Heap.get?_push_of_some _ e,r⟩
theorem qfH (l1 l2:Addr) (xs ys:Array Value) :
  Meets (Builtin.«zip.__new__» ⟨[.type "zip",.ref l1,.ref l2],[]⟩) (fun _ R s=>s.heap.IsTuple l1 xs∧s.heap.IsTuple l2 ys ∧
   R (.ok (.ret (.ref (zipT4 s.heap l1 l2).objs.size))) { s with heap:=zipT5 s.heap l1 l2 }) :=
 .of_wp fun prog w A R s h=>by
  obtain ⟨hp,g,d,tk,os⟩:=s; obtain ⟨hl1,hl2,h⟩:=h
  have hsub:=sub_zip
  have hL1:Heap.IsTuple (Shared.heap ⟨hp,g,d,tk,os⟩) l1 xs:=hl1
  have hL2:Heap.IsTuple (Shared.heap ⟨hp.push { cls:=.type "tuple_iterator",data:=.fields #[.ref l1,.int 0 0] },g,d,tk,os⟩) l2 ys:=IsTuple_push hl2 _
  wp_walk using wpAny_pyIter_tuple hL1,wpAny_pyIter_tuple hL2
  exact ⟨_,rfl,h⟩
theorem call_zip_2T {l1 l2:Addr} {xs ys:Array Value} {Q:Value→Shared→Prop} (hl1:s.heap.IsTuple l1 xs) (hl2:s.heap.IsTuple l2 ys)
  (h:∀ h',IsZip h' (s.heap.objs.size + 4) (s.heap.objs.size + 2) (s.heap.objs.size + 3) .none→IsPair h' (s.heap.objs.size + 2) (.ref s.heap.objs.size) (.ref (s.heap.objs.size + 1)) →
   IsPair h' (s.heap.objs.size + 3) .none .none→h'.IsTupleIter s.heap.objs.size l1 0→h'.IsTupleIter (s.heap.objs.size + 1) l2 0 →
   (∀ c o,s.heap.get? c=some o→h'.get? c=some o)→Q (.ref (s.heap.objs.size + 4)) { s with heap:=h' }) :
  wpAny (model prog w) A (call (.type "zip") [.ref l1,.ref l2]) Q E s:=by
 refine callType_new F.called_zip (by decide) (F.typeCall_zip_2 _ _) (F.newCall_zip_2 _ _) (fun obj=>F.args_object_init_3 obj _ _) F.entry_zip_new
  (qfH l1 l2 xs ys) ⟨hl1,hl2,?_⟩
 have z1:(zipT1 s.heap l1).objs.size=s.heap.objs.size + 1:=Heap.size_push ..
 have z2:(zipT2 s.heap l1 l2).objs.size=s.heap.objs.size + 2:=by rw [Heap.size_push,z1]
 have z3:(zipT3 s.heap l1 l2).objs.size=s.heap.objs.size + 3:=by rw [Heap.size_push,z2]
 have z4:(zipT4 s.heap l1 l2).objs.size=s.heap.objs.size + 4:=by rw [Heap.size_push,z3]
 have g5:(zipT5 s.heap l1 l2).get? (zipT4 s.heap l1 l2).objs.size=some _:=Heap.get?_push_size _ rfl
 have g4:(zipT5 s.heap l1 l2).get? (zipT3 s.heap l1 l2).objs.size=some _:=Heap.get?_push_of_some _ (Heap.get?_push_size _ rfl)
 have g3:(zipT5 s.heap l1 l2).get? (zipT2 s.heap l1 l2).objs.size=some _:=Heap.get?_push_of_some _ (Heap.get?_push_of_some _ (Heap.get?_push_size _ rfl))
 have g2:(zipT5 s.heap l1 l2).get? (zipT1 s.heap l1).objs.size=some _:=Heap.get?_push_of_some _ (Heap.get?_push_of_some _ (Heap.get?_push_of_some _ (Heap.get?_push_size _ rfl)))
 have g1:(zipT5 s.heap l1 l2).get? s.heap.objs.size=some _:=Heap.get?_push_of_some _ (Heap.get?_push_of_some _ (Heap.get?_push_of_some _ (Heap.get?_push_of_some _ (Heap.get?_push_size _ rfl))))
 show _∧_
 rw [z2,z3,z4] at g5
 rw [z1,z2] at g3
 rw [z3] at g4
 rw [z1] at g2
 rw [z4]
 exact ⟨⟨_,g5,rfl⟩,h _ g5 g3 g4 ⟨_,g1,rfl,rfl⟩ ⟨_,g2,rfl,rfl⟩ fun c o x =>
  Heap.get?_push_of_some _ (Heap.get?_push_of_some _ (Heap.get?_push_of_some _ (Heap.get?_push_of_some _ (Heap.get?_push_of_some _ x))))⟩
open AutoSeq1 (wpAny_loadPart')
end
end PySem
namespace L2
open PySem PySem.Spec PyProof.Rows
section
variable {X:Cx} {pins:List (Addr×Obj)} {σ:St} {H:Hp} {s:Shared} {K:PySem.W.Frag}
theorem fp_neT {a b:Addr} {xs:List V} (I:Inv X pins σ H s) (f:FpOk X pins H b) (q:SqT X.K H a xs):a≠b:=by
  rintro rfl
  rcases q with (q | ⟨o,q⟩) | ⟨o,its,n,q,_⟩
  · rw [f.1] at q; cases q
  · rw [f.1] at q; cases q
  · have e:=I.ok.mod.kin a o q
    rcases f.2.2.2.1 with z | z
    · exact I.ok.noex _ _ e z
    · exact absurd (Nat.lt_of_lt_of_le (Heap.lt_size e) (Nat.le_trans I.ok.bsz z)) (Nat.lt_irrefl _)
theorem fp_neL {a b:Addr} {xs:List V} (I:Inv X pins σ H s) (f:FpOk X pins H b) (q:SqL X.K H a xs):a≠b:=by
  rintro rfl
  rcases q with (q | ⟨o,q⟩) | ⟨o,its,n,q,_⟩
  · rw [f.1] at q; cases q
  · rw [f.1] at q; cases q
  · have e:=I.ok.mod.kin a o q
    rcases f.2.2.2.1 with z | z
    · exact I.ok.noex _ _ e z
    · exact absurd (Nat.lt_of_lt_of_le (Heap.lt_size e) (Nat.le_trans I.ok.bsz z)) (Nat.lt_irrefl _)
theorem Inv.turnedNew {h':Heap} {t':Nat} {ch:List Addr} {T:Addr} {vs:List V} {us:List Value} (I:Inv X pins σ H s) (hf:∀ b∈ch,FpOk X pins H b) (k:∀ b o,b∉ch→s.heap.get? b=some o→h'.get? b=some o)
    (hT:s.heap.objs.size≤T) (th:∀ b∈ch,∃ o,h'.get? b=some o) (rv:Vals vs us) (hz:vs.length≤sizeLine) (tup:TupN h' T us.toArray):Inv X pins σ (upd H T (.tup vs)) { s with heap:=h',toks:=t' }:=by
  have hn:H T=none:=I.hok.fresh hT
  have nch:∀ b u,H b=some u→b∉ch:=fun b u e z=>by rw [(hf b z).1] at e; cases e
  refine I.step (g':=s.gens) (d':=s.drawn) (ch:=ch) (fun b hb=>?_) (fun b o _ _ hc e _=>k b o hc e) (fun b o _ _ hc e _=>⟨o.slots,k b o hc e⟩) (fun b o _ e n=>?_)
    (fun b o hc e=>⟨o,k b o hc e⟩) (fun b xs e=>by rw [qao (qah e hn)]; exact e) (fun b o u e=>by rw [qao (qah e hn)]; exact e) (fun b ps e=>⟨#[],by rw [qao (qah e hn),e]; simp⟩) (fun m hm=>?_) (fun b u e=>?_) I.bare
  · obtain ⟨f0,f1,f2,f3,f4,f5⟩:=hf b hb
    exact ⟨f3,f1,f4,f5⟩
  · rw [qao (Nat.ne_of_lt (Nat.lt_of_lt_of_le (Heap.lt_size e) hT))]; exact n
  · obtain ⟨o,es,ep,ho,r⟩:=hm
    exact ⟨o,es,ep,k _ o (fun z=>(hf _ z).2.1 rfl) ho,r⟩
  · by_cases hb:b=T
    · subst hb
      rw [qbu] at e; cases e
      exact ⟨hz,us,rv,tup⟩
    · rw [qao hb] at e
      refine (I.hok b u e).stay (fun c v hc q=>k c v ?_ q) (fun c q=>by rw [qao (qah q hn)]; exact q) fun c xs q=>by rw [qao (qah q hn)]; exact q
      rcases hc with z | z
      · rw [z]; exact nch b u e
      · exact nch c _ z
theorem Inv.turnedMany {h':Heap} {t':Nat} {ch:List Addr} (I:Inv X pins σ H s) (hf:∀ b∈ch,FpOk X pins H b) (k:∀ b o,b∉ch→s.heap.get? b=some o→h'.get? b=some o):Inv X pins σ H { s with heap:=h',toks:=t' }:=by
  have nch:∀ b u,H b=some u→b∉ch:=fun b u e z=>by rw [(hf b z).1] at e; cases e
  refine I.step (g':=s.gens) (d':=s.drawn) (ch:=ch) (fun b hb=>?_) (fun b o _ _ hc e _=>k b o hc e) (fun b o _ _ hc e _=>⟨o.slots,k b o hc e⟩) (fun b o _ e n=>n)
    (fun b o hc e=>⟨o,k b o hc e⟩) (fun b xs e=>e) (fun b o u e=>e) (fun b ps e=>⟨#[],by rw [e]; simp⟩) (fun m hm=>?_) (fun b u e=>?_) I.bare
  · obtain ⟨f0,f1,f2,f3,f4,f5⟩:=hf b hb
    exact ⟨f3,f1,f4,f5⟩
  · obtain ⟨o,es,ep,ho,r⟩:=hm
    exact ⟨o,es,ep,k _ o (fun z=>(hf _ z).2.1 rfl) ho,r⟩
  · refine (I.hok b u e).stay (fun c v hc q=>k c v ?_ q) (fun c q=>q) fun c xs q=>q
    rcases hc with z | z
    · rw [z]; exact nch b u e
    · exact nch c _ z
end
structure SeqK (P:Program) (w:World) (K:PySem.W.Frag) (Sq:Hp→Addr→List V→Prop) (IsIt:Heap→Addr→Addr→Nat→Prop) (IsSeq:Heap→Addr→Array Value→Prop):Prop where
  get:∀ {X:Cx} {pins:List (Addr×Obj)} {σ:St} {H:Hp} {s:Shared} {a:Addr} {xs:List V},X.K=K→Inv X pins σ H s→Sq H a xs→∃ its:List Value,Vals xs its∧IsSeq s.heap a its.toArray∧xs.length≤sizeLine
  inj:∀ {X:Cx} {pins:List (Addr×Obj)} {σ:St} {H:Hp} {s:Shared} {a:Addr} {xs ys:List V},X.K=K→Inv X pins σ H s→Sq H a xs→Sq H a ys→xs=ys
  ne:∀ {X:Cx} {pins:List (Addr×Obj)} {σ:St} {H:Hp} {s:Shared} {a b:Addr} {xs:List V},X.K=K→Inv X pins σ H s→FpOk X pins H b→Sq H a xs→a≠b
  drw:∀ (A:Around) (it l:Addr) (items:Array Value),A.handled=none→l≠it→Draws P w A it [it,l] items.size (fun i v=>items[i]? = some v) (fun i h=>IsIt h it l i∧IsSeq h l items)
  obj:∀ {h:Heap} {it l:Addr} {i:Nat},IsIt h it l i→∃ o,h.get? it=some o∧∀ v,o.data≠.cell v
  at':∀ {h h':Heap} {it l:Addr} {i:Nat},IsIt h it l i→(∀ o,h.get? it=some o→h'.get? it=some o)→IsIt h' it l i
theorem seqK_tup {P:Program} {w:World} {K:PySem.W.Frag}:SeqK P w K (SqT K) (fun h it l i=>h.IsTupleIter it l i) (fun h a xs=>h.IsTuple a xs) where
  get:=fun e I q=>by subst e; obtain ⟨its,r,p,z⟩:=I.tuple q; exact ⟨its,r,p,z⟩
  inj:=fun e I q q'=>by subst e; exact I.tuple_inj q q'
  ne:=fun e I f q=>by subst e; exact fp_neT I f q
  drw:=fun A it l items hh hne=>Draws.tuple hh it l hne items
  obj:=fun st=>by obtain ⟨o,e,c,d⟩:=st; exact ⟨o,e,fun v z=>by rw [d] at z; cases z⟩
  at':=fun st k=>st.at k
theorem seqK_lst {P:Program} {w:World} {K:PySem.W.Frag}:SeqK P w K (SqL K) (fun h it l i=>h.IsListIter it l i) (fun h a xs=>h.IsList a xs) where
  get:=fun e I q=>by subst e; obtain ⟨its,r,p,z⟩:=I.list q; exact ⟨its,r,p.isList,z⟩
  inj:=fun e I q q'=>by subst e; exact I.list_inj q q'
  ne:=fun e I f q=>by subst e; exact fp_neL I f q
  drw:=fun A it l items hh hne=>Draws.list hh it l hne items
  obj:=fun st=>by obtain ⟨o,e,c,d⟩:=st; exact ⟨o,e,fun v z=>by rw [d] at z; cases z⟩
  at':=fun st k=>st.at k
def Itz (Sq:Hp→Addr→List V→Prop) (a1 a2:Addr):It :=
  ⟨fun i H=>∃ xs ys x y,Sq H a1 xs∧Sq H a2 ys∧xs[i]? = some x∧ys[i]? = some y,
   fun i H v H'=>∃ t x y,v=.ref t∧H t=none∧H'=upd H t (.tup [x,y])∧∀ xs ys,Sq H a1 xs→Sq H a2 ys→xs[i]? = some x∧ys[i]? = some y,
   fun i H=>∃ xs ys,Sq H a1 xs∧Sq H a2 ys∧(i=xs.length∨(i < xs.length∧i=ys.length))⟩
theorem qg7 {xs:List V} {us:List Value} {i:Nat} {u:Value} (r:Vals xs us) (h:us.toArray[i]? = some u):∃ x,xs[i]? = some x∧RelV x u:=by
  have h':us[i]? = some u:=by simpa using h
  have hi:i < xs.length:=by rw [r.length]; exact (List.getElem?_eq_some_iff.mp h').1
  obtain ⟨u',e,q⟩:=r.get (i:=i) (x:=xs[i]) (List.getElem?_eq_getElem hi)
  rw [h'] at e; cases e
  exact ⟨xs[i],List.getElem?_eq_getElem hi,q⟩
theorem turn_zip {P:Program} {w:World} {K:PySem.W.Frag} {Sq:Hp→Addr→List V→Prop} {IsIt:Heap→Addr→Addr→Nat→Prop} {IsSeq:Heap→Addr→Array Value→Prop} (S:SeqK P w K Sq IsIt IsSeq) {es:List Expr} {k:Nat} {pt:Pos} (a1 a2 z TI TO i1 i2:Addr)
    (n1:TI≠z) (n2:TO≠z) (n3:TI≠TO) (n4:TI≠i1) (n5:TI≠i2) (n6:TO≠i1) (n7:TO≠i2) (n8:i1≠z) (n9:i2≠z) (n10:i1≠i2) :
    Turn P w K (.Tuple es k pt) (Itz Sq a1 a2) [z,TI,TO,i1,i2] z (fun i h=>IsZip h z TI TO .none∧IsPair h TI (.ref i1) (.ref i2)∧(∃ a b,IsPair h TO a b)∧IsIt h i1 a1 i∧IsIt h i2 a2 i) where
  mem:=by simp
  obj:=fun i h st b hb=>by
    obtain ⟨hz,hTI,⟨a,b',hTO⟩,h1,h2⟩:=st
    simp only [List.mem_cons,List.not_mem_nil,or_false] at hb
    rcases hb with rfl | rfl | rfl | rfl | rfl
    · exact ⟨_,hz,fun v q=>nomatch q⟩
    · exact ⟨_,hTI,fun v q=>nomatch q⟩
    · exact ⟨_,hTO,fun v q=>nomatch q⟩
    · exact S.obj h1
    · exact S.obj h2
  keep:=fun i h h' st kp=>by
    obtain ⟨hz,hTI,⟨a,b,hTO⟩,h1,h2⟩:=st
    exact ⟨kp _ (by simp) _ hz,kp _ (by simp) _ hTI,⟨a,b,kp _ (by simp) _ hTO⟩,S.at' h1 fun o e=>kp _ (by simp) o e,S.at' h2 fun o e=>kp _ (by simp) o e⟩
  item:=by
    intro X hP hw hK hc i pins s σ H E I hf st hg
    subst hP hw
    obtain ⟨xs,ys,x,y,q1,q2,hx,hy⟩:=hg
    obtain ⟨hz,hTI,⟨a,b,hTO⟩,h1,h2⟩:=st
    obtain ⟨us,r1,p1,l1⟩:=S.get hK I q1
    obtain ⟨vs,r2,p2,l2⟩:=S.get hK I q2
    have ne1:∀ {b:Addr},b∈[z,TI,TO,i1,i2]→a1≠b:=fun hb=>S.ne hK I (hf _ hb) q1
    have ne2:∀ {b:Addr},b∈[z,TI,TO,i1,i2]→a2≠b:=fun hb=>S.ne hK I (hf _ hb) q2
    have hx':i < us.toArray.size:=by have:=(List.getElem?_eq_some_iff.mp hx).1; have:=r1.length; simp; omega
    have hy':i < vs.toArray.size:=by have:=(List.getElem?_eq_some_iff.mp hy).1; have:=r2.length; simp; omega
    have D:ZA z TI TO i1 i2 [i1,a1] [i2,a2]:=⟨n1,n2,n3,n4,n5,by simp,by simp,by simp only [List.mem_cons,List.not_mem_nil,or_false,not_or]; exact ⟨n8.symm,(ne1 (by simp)).symm⟩,by simp only [List.mem_cons,List.not_mem_nil,or_false,not_or]; exact ⟨n9.symm,(ne2 (by simp)).symm⟩,
      by simp only [List.mem_cons,List.not_mem_nil,or_false,not_or]; exact ⟨n6,(ne1 (by simp)).symm⟩,by simp only [List.mem_cons,List.not_mem_nil,or_false,not_or]; exact ⟨n7,(ne2 (by simp)).symm⟩,
      by simp only [List.mem_cons,List.not_mem_nil,or_false,not_or]; exact ⟨n10,(ne2 (by simp)).symm⟩,by simp only [List.mem_cons,List.not_mem_nil,or_false,not_or]; exact ⟨n10.symm,(ne1 (by simp)).symm⟩⟩
    refine qeM D (S.drw X.A.in1 i1 a1 us.toArray (I.ok.hd hc) (ne1 (by simp))) (S.drw X.A.in1 i2 a2 vs.toArray (I.ok.hd hc) (ne2 (by simp))) hz hTI hTO ⟨h1,p1⟩ ⟨h2,p2⟩ hx' hy' fun u v h' tk pu pv hz' hTO' s1 s2 hT kp=>?_
    refine ⟨_,rfl,?_⟩
    refine wpAny_letOwnedTupleGo_zip (s:={ s with heap:=h',toks:=tk }) hz' fun h'' hz'' hs''=>?_
    obtain ⟨x',ex,rx⟩:=qg7 r1 pu
    obtain ⟨y',ey,ry⟩:=qg7 r2 pv
    have lt:∀ {c:Addr} {o:Obj},s.heap.get? c=some o→c≠s.heap.objs.size:=fun e=>Nat.ne_of_lt (Heap.lt_size e)
    have kp2:∀ c o,c∉[z,TO,i1,i2]→s.heap.get? c=some o→h''.get? c=some o:=fun c o hcn e=>by
      simp only [List.mem_cons,List.not_mem_nil,or_false,not_or] at hcn
      exact hs''.extBut _ _ hcn.1 (kp c o hcn.1 hcn.2.1 hcn.2.2.1 hcn.2.2.2 e)
    have hT2:TupN h'' s.heap.objs.size [u,v].toArray:=⟨_,hs''.extBut _ _ (lt hz).symm hT,rfl,⟨_,rfl⟩,rfl⟩
    have I2:Inv X pins σ (upd H s.heap.objs.size (.tup [x',y'])) { s with heap:=h'',toks:=tk }:=by
      refine I.turnedNew (ch:=[z,TO,i1,i2]) (us:=[u,v]) (fun b hb=>hf b ?_) kp2 (Nat.le_refl _) (fun b hb=>?_) (.cons rx (.cons ry .nil)) (by show 2≤sizeLine; decide) hT2
      · simp only [List.mem_cons,List.not_mem_nil,or_false] at hb ⊢
        rcases hb with rfl | rfl | rfl | rfl <;> simp
      · simp only [List.mem_cons,List.not_mem_nil,or_false] at hb
        rcases hb with rfl | rfl | rfl | rfl
        · exact ⟨_,hz''⟩
        · exact ⟨_,hs''.extBut _ _ n2 hTO'⟩
        · obtain ⟨o,e,_⟩:=S.obj s1.1; exact ⟨_,hs''.extBut _ _ n8 e⟩
        · obtain ⟨o,e,_⟩:=S.obj s2.1; exact ⟨_,hs''.extBut _ _ n9 e⟩
    refine ⟨.ref s.heap.objs.size,_,I2,rfl,⟨_,x',y',rfl,I.hok.fresh (Nat.le_refl _),rfl,fun xs' ys' w1 w2=>?_⟩,⟨hz'',?_,⟨_,_,hs''.extBut _ _ n2 hTO'⟩,S.at' s1.1 fun o e=>hs''.extBut _ _ n8 e,S.at' s2.1 fun o e=>hs''.extBut _ _ n9 e⟩,fun b hb=>?_⟩
    · rw [S.inj hK I w1 q1,S.inj hK I w2 q2]; exact ⟨ex,ey⟩
    · exact hs''.extBut _ _ n1 (kp _ _ n1 n3 n4 n5 hTI)
    · have hb':b≠s.heap.objs.size:=by
        simp only [List.mem_cons,List.not_mem_nil,or_false] at hb
        rcases hb with rfl | rfl | rfl | rfl | rfl
        · exact lt hz
        · exact lt hTI
        · exact lt hTO
        · obtain ⟨o,e,_⟩:=S.obj h1; exact lt e
        · obtain ⟨o,e,_⟩:=S.obj h2; exact lt e
      rw [qao hb']; exact (hf b hb).1
  done:=by
    intro X hP hw hK hc i pins s σ H E I hf st hg
    subst hP hw
    obtain ⟨xs,ys,q1,q2,hend⟩:=hg
    obtain ⟨hz,hTI,⟨a,b,hTO⟩,h1,h2⟩:=st
    obtain ⟨us,r1,p1,l1⟩:=S.get hK I q1
    obtain ⟨vs,r2,p2,l2⟩:=S.get hK I q2
    have ne1:∀ {b:Addr},b∈[z,TI,TO,i1,i2]→a1≠b:=fun hb=>S.ne hK I (hf _ hb) q1
    have ne2:∀ {b:Addr},b∈[z,TI,TO,i1,i2]→a2≠b:=fun hb=>S.ne hK I (hf _ hb) q2
    have D:ZA z TI TO i1 i2 [i1,a1] [i2,a2]:=⟨n1,n2,n3,n4,n5,by simp,by simp,by simp only [List.mem_cons,List.not_mem_nil,or_false,not_or]; exact ⟨n8.symm,(ne1 (by simp)).symm⟩,by simp only [List.mem_cons,List.not_mem_nil,or_false,not_or]; exact ⟨n9.symm,(ne2 (by simp)).symm⟩,
      by simp only [List.mem_cons,List.not_mem_nil,or_false,not_or]; exact ⟨n6,(ne1 (by simp)).symm⟩,by simp only [List.mem_cons,List.not_mem_nil,or_false,not_or]; exact ⟨n7,(ne2 (by simp)).symm⟩,
      by simp only [List.mem_cons,List.not_mem_nil,or_false,not_or]; exact ⟨n10,(ne2 (by simp)).symm⟩,by simp only [List.mem_cons,List.not_mem_nil,or_false,not_or]; exact ⟨n10.symm,(ne1 (by simp)).symm⟩⟩
    have e1:=r1.length
    have e2:=r2.length
    refine qf4 D (S.drw X.A.in1 i1 a1 us.toArray (I.ok.hd hc) (ne1 (by simp))) (S.drw X.A.in1 i2 a2 vs.toArray (I.ok.hd hc) (ne2 (by simp))) hz hTI hTO (k:=i) ⟨h1,p1⟩ ⟨h2,p2⟩ (by simp only [List.size_toArray]; omega) fun h' tk kp=>?_
    refine ⟨rfl,I.turnedMany (ch:=[z,TO,i1,i2]) (fun b hb=>hf b ?_) fun c o hcn e=>?_⟩
    · simp only [List.mem_cons,List.not_mem_nil,or_false] at hb ⊢
      rcases hb with rfl | rfl | rfl | rfl <;> simp
    · simp only [List.mem_cons,List.not_mem_nil,or_false,not_or] at hcn
      exact kp c o hcn.1 hcn.2.1 hcn.2.2.1 hcn.2.2.2 e
  self:=fun A i s Q E st h=>wpAny_pyIter_zip st.1 h
section
variable {X:Cx} {es':List Expr} {kt:Nat} {pt:Pos}
def iZip (Sq:Hp→Addr→List V→Prop) (ta:TA):TI:=fun σ H R=>ta σ H fun vs H1=>∃ a b,vs=[.ref a,.ref b]∧(∃ xs ys,Sq H1 a xs∧Sq H1 b ys)∧R (Itz Sq a b) H1
theorem zip_fp {pins:List (Addr×Obj)} {σ:St} {H:Hp} {s:Shared} {n:Nat} (I:Inv X pins σ H s) (hn:s.heap.objs.size=n):∀ b∈[n + 4,n + 2,n + 3,n,n + 1],FpOk X pins H b:=fun b hb=>by
  have:s.heap.objs.size≤b:=by
    simp only [List.mem_cons,List.not_mem_nil,or_false] at hb
    rcases hb with rfl | rfl | rfl | rfl | rfl <;> rw [hn]
    · exact Nat.le_add_right _ _
    · exact Nat.le_add_right _ _
    · exact Nat.le_add_right _ _
    · exact Nat.le_refl _
    · exact Nat.le_add_right _ _
  exact I.fpOk this (I.hok.fresh this)
theorem pi_zipT {a b:Expr} {ta:TA} {p pos:Pos} (hg:Gl X "zip") (hm:X.mg "zip"=none) (ha:PA X [a,b] ta) (hs:starEach [a,b] X.env=[(false,eval a X.env),(false,eval b X.env)]:=by rfl) (hs2:starEach [b] X.env=[(false,eval b X.env)]:=by rfl) :
    PI X (.Tuple es' kt pt) (.Call (.Name "zip" p) [a,b] [] pos) (iZip (SqT X.K) ta):=by
  intro pins s σ H R I h
  refine Call_ (qej I hg hm boot_zip (PyProof.Rows.callWith_type1 (thn (ha pos pins s σ H _ I h) fun us s1 ⟨vs,H1,I1,r1,q1⟩=>?_) (by rw [hs,hs2]) (by rw [hs2]; rfl)))
  obtain ⟨a1,a2,e,⟨xs,ys,q1,q2⟩,q⟩:=q1
  subst e
  cases r1 with
  | cons r rr =>
    cases rr with
    | cons r' rr =>
      cases rr
      cases r
      cases r'
      obtain ⟨us,ru,pu,lu⟩:=I1.tuple q1
      obtain ⟨vs,rv,pv,lv⟩:=I1.tuple q2
      refine call_zip_2T pu pv fun h' hz hTI hTO t1 t2 kp=>wpAny_pyIter_zip hz ?_
      generalize hn:s1.heap.objs.size=n at hz hTI hTO t1 t2
      have ne:∀ {i j:Nat},i≠j→n + i≠n + j:=fun h e=>h (Nat.add_left_cancel e)
      have ne0:∀ {i:Nat},i≠0→n + i≠n:=fun h e=>h (Nat.add_left_cancel (e.trans (Nat.add_zero n).symm))
      refine ⟨n + 4,_,_,_,H1,rfl,I1.kept (t':=s1.toks) kp,turn_zip seqK_tup a1 a2 (n + 4) (n + 2) (n + 3) n (n + 1) (ne (by decide)) (ne (by decide)) (ne (by decide)) (ne0 (by decide)) (ne (by decide)) (ne0 (by decide)) (ne (by decide)) (ne0 (by decide)).symm (ne (by decide)) (ne0 (by decide)).symm,⟨hz,hTI,⟨_,_,hTO⟩,t1,t2⟩,zip_fp I1 hn,q⟩
theorem pi_zipL {a b:Expr} {ta:TA} {p pos:Pos} (hg:Gl X "zip") (hm:X.mg "zip"=none) (ha:PA X [a,b] ta) (hs:starEach [a,b] X.env=[(false,eval a X.env),(false,eval b X.env)]:=by rfl) (hs2:starEach [b] X.env=[(false,eval b X.env)]:=by rfl) :
    PI X (.Tuple es' kt pt) (.Call (.Name "zip" p) [a,b] [] pos) (iZip (SqL X.K) ta):=by
  intro pins s σ H R I h
  refine Call_ (qej I hg hm boot_zip (PyProof.Rows.callWith_type1 (thn (ha pos pins s σ H _ I h) fun us s1 ⟨vs,H1,I1,r1,q1⟩=>?_) (by rw [hs,hs2]) (by rw [hs2]; rfl)))
  obtain ⟨a1,a2,e,⟨xs,ys,q1,q2⟩,q⟩:=q1
  subst e
  cases r1 with
  | cons r rr =>
    cases rr with
    | cons r' rr =>
      cases rr
      cases r
      cases r'
      obtain ⟨us,ru,pu,lu⟩:=I1.list q1
      obtain ⟨vs,rv,pv,lv⟩:=I1.list q2
      refine call_zip_2 pu.isList pv.isList fun h' hz hTI hTO t1 t2 _ kp=>wpAny_pyIter_zip hz ?_
      generalize hn:s1.heap.objs.size=n at hz hTI hTO t1 t2
      have ne:∀ {i j:Nat},i≠j→n + i≠n + j:=fun h e=>h (Nat.add_left_cancel e)
      have ne0:∀ {i:Nat},i≠0→n + i≠n:=fun h e=>h (Nat.add_left_cancel (e.trans (Nat.add_zero n).symm))
      refine ⟨n + 4,_,_,_,H1,rfl,I1.kept (t':=s1.toks) kp,turn_zip seqK_lst a1 a2 (n + 4) (n + 2) (n + 3) n (n + 1) (ne (by decide)) (ne (by decide)) (ne (by decide)) (ne0 (by decide)) (ne (by decide)) (ne0 (by decide)) (ne (by decide)) (ne0 (by decide)).symm (ne (by decide)) (ne0 (by decide)).symm,⟨hz,hTI,⟨_,_,hTO⟩,t1,t2⟩,zip_fp I1 hn,q⟩
end
end L2
namespace L2
open PySem PySem.Spec PyProof.Rows
section
variable {X:Cx}
theorem truth_bools {A:Around} {bs:List Bool} {its:List Value} (r:Vals (bs.map V.bl) its):TruthOf X.prog X.w A (fun i v=>its.toArray[i]? = some v) (fun i=>bs.getD i false):=by
 intro i v s Q E hP hQ
 obtain ⟨x,ex,rx⟩:=qg7 r hP
 rw [List.getElem?_map] at ex
 cases e:bs[i]? with
 | none=>rw [e] at ex; cases ex
 | some b =>
  rw [e] at ex
  cases ex
  cases rx
  refine wpAny_truthy_bool ?_
  have:bs.getD i false=b:=by rw [List.getD_eq_getElem?_getD,e]; rfl
  have hQ:Q (bs.getD i false) s:=hQ
  rw [this] at hQ
  exact hQ
theorem range_all (bs:List Bool):((List.range bs.length).all fun i=>bs.getD i false)=bs.all id:=by
 rw [Bool.eq_iff_iff,List.all_eq_true,List.all_eq_true]
 constructor
 ·intro h b hb
  obtain ⟨i,hi,e⟩:=List.mem_iff_getElem.mp hb
  have:=h i (List.mem_range.mpr hi)
  rw [List.getD_eq_getElem?_getD,List.getElem?_eq_getElem hi] at this
  rw [← e]; exact this
 ·intro h i hi
  have hi:=List.mem_range.mp hi
  rw [List.getD_eq_getElem?_getD,List.getElem?_eq_getElem hi]
  exact h _ (List.getElem_mem hi)
theorem after_walk {pins:List (Addr×Obj)} {σ:St} {H:Hp} {s:Shared} {h':Heap} {tk:Nat} {o:Obj} (I:Inv X pins σ H s) (kp:∀ b q,b∉[s.heap.objs.size]→(s.heap.push o).get? b=some q→h'.get? b=some q):Inv X pins σ H { s with heap:=h',toks:=tk } :=
 I.kept fun b q e=>kp b q (by simp only [List.mem_cons,List.not_mem_nil,or_false]; exact Nat.ne_of_lt (Heap.lt_size e)) (Heap.get?_push_of_some _ e)
theorem call_allB (hc:X.calm=true):qd1 X (.builtin "all") (fun xs H Q=>∃ (p:Addr) (bs:List Bool),xs=[.ref p]∧SqL X.K H p (bs.map V.bl)∧Q (.bl (bs.all id)) H):=by
 intro pins s σ H xs us Q I r h
 obtain ⟨p,bs,rfl,hp,q⟩:=h
 obtain ⟨u,rfl,ru⟩:=qg8 r
 cases ru
 obtain ⟨its,rv,pl,hz⟩:=I.list hp
 have hL:=pl.isList
 have hpn:p≠s.heap.objs.size:=by obtain ⟨o,e,_⟩:=hL; exact Nat.ne_of_lt (Heap.lt_size e)
 refine call_all_walk (wpAny_pyIter_list hL ⟨s.heap.objs.size,_,_,its.toArray.size,_,_,fun i=>bs.getD i false,rfl,Walks.list (A:=X.A.in1) (I.ok.hd hc) s.heap.objs.size p hpn its.toArray,⟨⟨_,Heap.get?_push_size _ rfl,rfl,rfl⟩,hL.push _⟩,truth_bools rv,fun h' tk kp=>?_⟩)
 have hl:=rv.length
 rw [List.length_map] at hl
 have I1:Inv X pins σ H { s with heap:=h',toks:=tk }:=after_walk I kp
 refine ⟨.bl (bs.all id),H,I1,?_,q⟩
 show Value.bool _=Value.bool _
 rw [List.size_toArray,← hl,range_all]
def tyName (H:Hp):V→String→Prop
 | .non,n=>n="NoneType"
 | .bl _,n=>n="bool"
 | .int _,n=>n="int"
 | .str _,n=>n="str"
 | .ref a,n=>(n="list"∧((∃ xs,H a=some (.lst xs))∨∃ o xs,H a=some (.frz o (.lst xs))))∨(n="tuple"∧∃ xs,H a=some (.tup xs))∨(n="dict"∧((∃ k,H a=some (.dK k))∨∃ k,H a=some (.dT k)))
 | _,_=>False
theorem tyOf_name {K:PySem.W.Frag} {H:Hp} {x:V} {n:String} (h:tyName H x n):TyOf K H x (.type n):=by
 cases x with
 | non=>cases (show n="NoneType" from h); exact .non
 | bl b=>cases (show n="bool" from h); exact .bl b
 | int b=>cases (show n="int" from h); exact .int b
 | str b=>cases (show n="str" from h); exact .str b
 | ref a =>
  rcases h with ⟨rfl,⟨xs,e⟩ | ⟨o,xs,e⟩⟩ | ⟨rfl,xs,e⟩ | ⟨rfl,⟨k,e⟩ | ⟨k,e⟩⟩
  ·exact .lst e
  ·exact .frz e
  ·exact .tup e
  ·exact .dK e
  ·exact .dT e
 | _=>exact False.elim h
def subT (n T:String):Bool:=n == T || (n == "bool" && T == "int")
def kitG (n T:String):Option Bool:=if (Value.type n == Value.type T)=true then some true else if PySem.W.kitMeta T=true then (fastBuiltinMro n).map (·.contains (Value.type T)) else none
theorem kit_sub {K:PySem.W.Frag} {n T:String} (hn:n∈["NoneType","bool","int","str","list","tuple","dict"]) (hT:T∈["bool","int","str","list","tuple","dict"]):PySem.W.kitOne K (.type n) (.type T)=some (subT n T):=by
 show kitG n T=some (subT n T)
 simp only [List.mem_cons,List.not_mem_nil,or_false] at hn hT
 rcases hn with rfl | rfl | rfl | rfl | rfl | rfl | rfl <;> rcases hT with rfl | rfl | rfl | rfl | rfl | rfl <;> decide +kernel
theorem tyName_mem {H:Hp} {x:V} {n:String} (h:tyName H x n):n∈["NoneType","bool","int","str","list","tuple","dict"]:=by
 cases x with
 | non=>cases (show n="NoneType" from h); simp
 | bl b=>cases (show n="bool" from h); simp
 | int b=>cases (show n="int" from h); simp
 | str b=>cases (show n="str" from h); simp
 | ref a=>rcases h with ⟨rfl,_⟩ | ⟨rfl,_⟩ | ⟨rfl,_⟩ <;> simp
 | _=>exact False.elim h
theorem call_isinst:qd1 X (.builtin "isinstance") (fun xs H Q=>∃ x n T,xs=[x,.ty T]∧tyName H x n∧T∈["bool","int","str","list","tuple","dict"]∧Q (.bl (subT n T)) H):=by
 intro pins s σ H xs us Q I r h
 obtain ⟨x,n,T,rfl,hx,hT,q⟩:=h
 obtain ⟨u,v,rfl,ru,rv⟩:=Vals.two r
 cases (show v=Value.type T from rv)
 exact isinst_ok I ru (tyOf_name hx) (kit_sub (tyName_mem hx) hT) fun tk=>⟨.bl _,H,I.tok tk,rfl,q⟩
end
end L2
namespace L2
open PySem PySem.Spec PyProof.Rows
def excP (ea C:Addr):Heap→Prop:=fun h=>∃ o,h.get? ea=some o∧o.cls=.ref C
def dicP (a:Addr):Heap→Prop:=PySem.W.KitAt a "dict"
structure Def (K:PySem.W.Frag) (mg:Str→Option Value) (x:Str) (st:Stmt) (ps:List Str) (f:Addr) (fd:FuncData):Prop where
 fn:Fun K x x st f fd
 at':mg x=some (.ref f)
 bd:Binds K fd ps []
section
variable {X:Cx}
theorem pe_fn {x:Str} {st:Stmt} {ps:List Str} {f:Addr} {fd:FuncData} {k:Nat} {sp:Sp} {e:Expr} {es:List Expr} {t:TA} {p pos:Pos} (D:Def X.K X.mg x st ps f fd) (G:FnOk X.prog X.w X.K X.mg X.base CX0 k f fd ps sp) (hr:Room k X.A) (ha:PA X (e :: es) t) (hg:Gl X x:=by rfl)
  (hdb:(x == ("__debug__":Str))=false:=by decide) (he:starEach (e :: es) X.env=(false,eval e X.env) :: starEach es X.env:=by rfl) (hpl:(backTo pos (starEach es X.env)).any (·.1)=false:=by rfl) :
  PE X (.Call (.Name x p) (e :: es) [] pos) (tCall sp [] E0 t):=pe_call G hr hg D.at' D.fn.kp D.bd .nil pass0 ha hdb he hpl
theorem pe_ty {x:Str} {n:String} {pos:Pos} (hg:Gl X x) (hm:X.mg x=none) (hv:bootBuiltins x=some (.type n)) (hn:x≠"__name__":=by decide) (hd:(x == ("__debug__":Str))=false:=by decide):PE X (.Name x pos) (tC (.ty n)):=pe_bltn hg hm hv rfl hn hd
end
end L2
namespace L2
open PySem PySem.Spec PyProof.Rows
def qfj:Expr→Bool
 | .Starred _ _=>true
 | _=>false
theorem qaQ {a:Expr} {es:List Expr} {env:Env} (h:qfj a=false):starEach (a :: es) env=(false,eval a env) :: starEach es env:=by
 cases a <;> first | (cases h; done) | (simp only [starEach]; done)
def noStar (es:List Expr):Bool:=es.all fun a=>!qfj a
theorem qbV {es:List Expr} {env:Env} {pos:Pos} (h:noStar es=true):(backTo pos (starEach es env)).any (·.1)=false:=by
 induction es with
 | nil=>simp only [starEach]; rfl
 | cons a es ih =>
  have h:(!qfj a && noStar es)=true:=h
  rw [Bool.and_eq_true] at h
  rw [qaQ (by simpa using h.1)]
  have:=ih h.2
  simpa [backTo] using this
theorem star1 {a:Expr} {env:Env} (h:qfj a=false):starEach [a] env=[(false,eval a env)]:=by
 rw [qaQ h]; simp only [starEach]
theorem star2 {a b:Expr} {env:Env} (h:qfj a=false) (g:qfj b=false):starEach [a,b] env=[(false,eval a env),(false,eval b env)]:=by
 rw [qaQ h,star1 g]
theorem qgb {a:Expr} {env:Env} {pos:Pos} (h:qfj a=false):((backTo pos (starEach [a] env)).all (fun x=>!x.1) && (backToKw pos (keywordEach [] env)).all (fun x=>x.1.isSome)
   && decide ([a].length + ([]:List Keyword).length + (if ([]:List Keyword).isEmpty then 0 else 1) < 30))=true:=by
 rw [star1 h]; simp [backTo,backToKw,keywordEach]
inductive D where
 | non | bl (b:Bool) | int (i:Int) | str (x:Str) | ty (n:String) | tup (l:List D) | lst (l:List D) | ref (k:Nat) | scr (l:List Int) | fn (x:Str) (n:Nat) | exc (x:Str) | dic | dct (ks:List (Int×Int)) | lam (k:Nat) (e:Expr) (ns:List Str) (l:List D)
inductive Cell where
 | lst (l:List D)
mutual
def qbT:D→Bool
 | .tup l=>qam l
 | .lst l=>qam l
 | .ref _=>false
 | .non=>true
 | .bl _=>true
 | .int _=>true
 | .str _=>true
 | .ty _=>true
 | .scr _=>true
 | .fn _ _=>true
 | .exc _=>true
 | .dic=>true
 | .dct _=>true
 | .lam _ _ _ _=>false
def qam:List D→Bool
 | []=>true
 | d :: l=>qbT d && qam l
end
mutual
def noLam:D→Bool
 | .tup l=>noLams l
 | .lst l=>noLams l
 | .lam _ _ _ _=>false
 | .ref _=>true
 | .non=>true
 | .bl _=>true
 | .int _=>true
 | .str _=>true
 | .ty _=>true
 | .scr _=>true
 | .fn _ _=>true
 | .exc _=>true
 | .dic=>true
 | .dct _=>true
def noLams:List D→Bool
 | []=>true
 | d :: l=>noLam d && noLams l
end
theorem qcE:∀ {l m:List D},qam (l ++ m)=(qam l && qam m)
 | [],m=>by simp [qam]
 | d :: l,m=>by simp [qam,qcE (l:=l),Bool.and_assoc]
theorem qfU:∀ {l:List D} {i:Nat} {d:D},qam l=true→qbT d=true→qam (l.set i d)=true
 | [],i,d,h,g=>h
 | b :: l,0,d,h,g=>by simp_all [qam]
 | b :: l,i + 1,d,h,g=>by
  simp only [qam,Bool.and_eq_true] at h
  simp only [List.set_cons_succ,qam,Bool.and_eq_true]
  exact ⟨h.1,qfU h.2 g⟩
theorem noRefs_iff:∀ {l:List D},qam l=true↔∀ d∈l,qbT d=true
 | []=>by simp [qam]
 | d :: l=>by simp [qam,noRefs_iff (l:=l)]
theorem qco {l:List Int}:qam (l.map D.int)=true:=noRefs_iff.mpr fun d h=>by
 obtain ⟨i,_,rfl⟩:=List.mem_map.mp h
 rfl
inductive R (α:Type) where
 | ok (a:α) (c:List Cell)
 | bad
def R.bind {α β:Type} (r:R α) (f:α→List Cell→R β):R β:=match r with
 | .ok a c=>f a c
 | .bad=>.bad
@[simp] theorem R.bind_ok {α β:Type} {a:α} {c:List Cell} {f:α→List Cell→R β}:(R.ok a c).bind f=f a c:=rfl
@[simp] theorem R.bind_bad {α β:Type} {f:α→List Cell→R β}:(R.bad:R α).bind f=.bad:=rfl
def lamNames:List Str:=["greatest_among","web_of","other_web","turned_at","pairs_web","field_web","net_web"]
def lamQ (x:Str):Str:=x ++ ".<locals>." ++ "<lambda>"
def codeP (c:Addr) (q:Str):Heap→Prop:=fun h=>h.CodeRec (.ref c) q
def lamP (a:Addr) (o:Obj):Heap→Prop:=fun h=>h.get? a=some o
def LamObj (e:Expr) (o:Obj) (q:Str) (c:Addr) (cl:List (Str×Addr)):Prop:=match e with
 | .Lambda params body scope _=>∃ pm ctv,o=PySem.W.kla_obj "<lambda>" q params body scope cl pm c ctv
 | _=>False
def isTbl:HO→Bool
 | .tbl _=>true
 | _=>false
def CellsAt (H:Hp) (cl:List (Str×Addr)):List Str→List V→Prop
 | [],xs=>xs=[]
 | x :: ns,xs=>∃ v r c oc u,xs=v :: r∧cl.lookup x=some c∧H c=some (.frz oc (.own 0))∧oc.data=.cell (some u)∧RelV v u∧CellsAt H cl ns r
def ClOk (cl:List (Str×Addr)) (ns:List Str):Prop:=(∀ x y c,cl.lookup x=some c→cl.lookup y=some c→x=y)∧∀ x c,cl.lookup x=some c→x∈ns
def TabAt (H:Hp) (P:Addr) (q:Str):Prop:=∃ ps,H P=some (.tbl ps)∧TriplesOk ps.toList∧∀ pos cv,codeAmong pos ps.toList=some cv→∃ c,cv=.ref c∧H c=some (.ext (codeP c q))
def TabOk (K:PySem.W.Frag) (H:Hp):Prop:=∀ x∈lamNames,∀ c P,PySem.W.tabIn K x=some (c,P)→TabAt H P (lamQ x)
theorem CellsAt.mono {H H':Hp} {cl:List (Str×Addr)}:∀ {ns:List Str} {xs:List V},(∀ c o,H c=some (.frz o (.own 0))→H' c=some (.frz o (.own 0)))→CellsAt H cl ns xs→CellsAt H' cl ns xs
 | [],_,_,h=>h
 | x :: ns,xs,k,h=>by
  obtain ⟨v,r,c,oc,u,e,h0,h1,h2,h3,h4⟩:=h
  exact ⟨v,r,c,oc,u,e,h0,k _ _ h1,h2,h3,CellsAt.mono k h4⟩
theorem TabAt.mono {H H':Hp} {P:Addr} {q:Str} (h:TabAt H P q) (k1:∀ ps,H P=some (.tbl ps)→H' P=some (.tbl ps)) (k2:∀ c φ,H c=some (.ext φ)→H' c=some (.ext φ)):TabAt H' P q:=by
 obtain ⟨ps,h1,h2,h3⟩:=h
 exact ⟨ps,k1 ps h1,h2,fun pos cv e=>let ⟨c,e1,e2⟩:=h3 pos cv e; ⟨c,e1,k2 _ _ e2⟩⟩
theorem TabOk.mono {K:PySem.W.Frag} {H H':Hp} (h:TabOk K H) (k1:∀ P ps,H P=some (.tbl ps)→H' P=some (.tbl ps)) (k2:∀ c φ,H c=some (.ext φ)→H' c=some (.ext φ)):TabOk K H':=fun x hx c P e=>(h x hx c P e).mono (k1 P) k2
def SqP (K:PySem.W.Frag) (ρ:List Addr) (H:Hp) (a:Addr) (xs:List V):Prop:=(Rd H a (.lst xs)∧a∉ρ)∨SqL K (fun _=>none) a xs
mutual
def Rel (K:PySem.W.Frag) (ρ:List Addr) (H:Hp):D→V→Prop
 | .non,v=>v=.non
 | .bl b,v=>v=.bl b
 | .int i,v=>v=.int i
 | .str x,v=>v=.str x
 | .ty n,v=>v=.ty n
 | .tup l,v=>∃ a xs,v=.ref a∧H a=some (.tup xs)∧Rels K ρ H l xs
 | .lst l,v=>∃ a xs,v=.ref a∧(H a=some (.lst xs)∧a∉ρ)∧Rels K ρ H l xs
 | .ref k,v=>∃ a,v=.ref a∧ρ[k]? = some a
 | .scr l,v=>∃ a,v=.ref a∧SqP K ρ H a (l.map V.int)
 | .fn x n,v=>∃ a,v=.ref a∧PySem.W.nsIn K mainGlobals x=some (some (.ref a))
 | .dic,v=>∃ a,v=.ref a∧H a=some (.ext (dicP a))
 | .dct ks,v=>∃ a kvs,v=.ref a∧H a=some (.dT kvs)∧∀ p:Int×Int,((kvs.any fun kv=>decide (kv.1=[Sum.inl p.1,Sum.inl p.2]))=decide (p∈ks))
 | .exc x,v=>∃ a C,v=.ref a∧PySem.W.nsIn K mainGlobals x=some (some (.ref C))∧H a=some (.ext (excP a C))
 | .lam _ e ns l,v=>∃ a o q c cl xs,v=.ref a∧H a=some (.ext (lamP a o))∧LamObj e o q c cl∧H c=some (.ext (codeP c q))∧ClOk cl ns∧CellsAt H cl ns xs∧Rels K ρ H l xs
def Rels (K:PySem.W.Frag) (ρ:List Addr) (H:Hp):List D→List V→Prop
 | [],xs=>xs=[]
 | d :: l,xs=>∃ x r,xs=x :: r∧Rel K ρ H d x∧Rels K ρ H l r
end
theorem SqP.sql {K:PySem.W.Frag} {ρ:List Addr} {H:Hp} {a:Addr} {xs:List V} (h:SqP K ρ H a xs):SqL K H a xs:=by
 rcases h with ⟨h,_⟩ | (h | h)
 ·exact .inl h
 ·rcases h with h | ⟨o,h⟩ <;> cases h
 ·exact .inr h
def CellOk (K:PySem.W.Frag) (ρ:List Addr) (H:Hp) (a:Addr):Cell→Prop
 | .lst l=>qam l=true∧∃ xs,H a=some (.lst xs)∧Rels K ρ H l xs
structure Wd (K:PySem.W.Frag) (ρ:List Addr) (H:Hp) (c:List Cell):Prop where
 nd:ρ.Nodup
 len:ρ.length=c.length
 cel:∀ (k:Nat) (a:Addr) (cl:Cell),ρ[k]? = some a→c[k]? = some cl→CellOk K ρ H a cl
 tab:TabOk K H
structure Ext (ρ:List Addr) (H:Hp) (ρ':List Addr) (H':Hp):Prop where
 pre:∀ (k:Nat) (a:Addr),ρ[k]? = some a→ρ'[k]? = some a
 keep:∀ a o,H a=some o→a∉ρ→isTbl o=false→H' a=some o∧a∉ρ'
theorem Ext.refl {ρ:List Addr} {H:Hp}:Ext ρ H ρ H:=⟨fun _ _ h=>h,fun _ _ h n _=>⟨h,n⟩⟩
theorem Ext.trans {ρ ρ1 ρ2:List Addr} {H H1 H2:Hp} (x:Ext ρ H ρ1 H1) (y:Ext ρ1 H1 ρ2 H2):Ext ρ H ρ2 H2 :=
 ⟨fun k a h=>y.pre k a (x.pre k a h),fun a o h n t=>let ⟨h1,n1⟩:=x.keep a o h n t; y.keep a o h1 n1 t⟩
section
variable {K:PySem.W.Frag} {ρ ρ':List Addr} {H H':Hp} {c c':List Cell}
theorem Wd.at' (W:Wd K ρ H c) {a:Addr} (h:a∈ρ):∃ xs,H a=some (.lst xs):=by
 obtain ⟨k,hk,e⟩:=List.mem_iff_getElem.mp h
 have hc:k < c.length:=by rw [← W.len]; exact hk
 have q:=W.cel k a c[k] (by rw [List.getElem?_eq_getElem hk,e]) (List.getElem?_eq_getElem hc)
 cases hcl:c[k] with
 | lst l=>rw [hcl] at q; obtain ⟨_,xs,h,_⟩:=q; exact ⟨xs,h⟩
theorem Wd.noT (W:Wd K ρ H c) {a:Addr} {xs:List V} (h:H a=some (.tup xs)):a∉ρ:=fun m=>by
 obtain ⟨ys,e⟩:=W.at' m
 rw [e] at h; cases h
theorem Wd.nil (W:Wd K ρ H c) {a:Addr} (h:H a=none):a∉ρ:=fun m=>by
 obtain ⟨ys,e⟩:=W.at' m
 rw [e] at h; cases h
theorem qeT (W:Wd K ρ H c) (x:Ext ρ H ρ' H') {a:Addr} {xs:List V} (h:H a=some (.tup xs)):H' a=some (.tup xs):=(x.keep a _ h (W.noT h) rfl).1
theorem qgt (x:Ext ρ H ρ' H') {a:Addr} {xs:List V} (h:H a=some (.lst xs)∧a∉ρ):H' a=some (.lst xs)∧a∉ρ':=x.keep a _ h.1 h.2 rfl
theorem sqP_mono (x:Ext ρ H ρ' H') {a:Addr} {xs:List V} (h:SqP K ρ H a xs):SqP K ρ' H' a xs:=by
 rcases h with ⟨h,n⟩ | h
 ·rcases h with h | ⟨o,h⟩
  ·exact .inl ⟨.inl (x.keep a _ h n rfl).1,(x.keep a _ h n rfl).2⟩
  ·exact .inl ⟨.inr ⟨o,(x.keep a _ h n rfl).1⟩,(x.keep a _ h n rfl).2⟩
 ·exact .inr h
mutual
theorem Rel.mono (W:Wd K ρ H c) (x:Ext ρ H ρ' H'):∀ (d:D) (v:V),Rel K ρ H d v→Rel K ρ' H' d v
 | .non,v,h=>h
 | .bl b,v,h=>h
 | .int i,v,h=>h
 | .str y,v,h=>h
 | .ty n,v,h=>h
 | .tup l,v,h=>by
  obtain ⟨a,xs,e,s,r⟩:=h
  exact ⟨a,xs,e,qeT W x s,Rels.mono W x l xs r⟩
 | .lst l,v,h=>by
  obtain ⟨a,xs,e,s,r⟩:=h
  exact ⟨a,xs,e,qgt x s,Rels.mono W x l xs r⟩
 | .ref k,v,h=>by
  obtain ⟨a,e,s⟩:=h
  exact ⟨a,e,x.pre k a s⟩
 | .scr l,v,h=>by
  obtain ⟨a,e,s⟩:=h
  exact ⟨a,e,sqP_mono x s⟩
 | .fn a n,v,h=>h
 | .dic,v,h=>by
  obtain ⟨a,e,q⟩:=h
  exact ⟨a,e,(x.keep a _ q (fun m=>by obtain ⟨ys,z⟩:=W.at' m; rw [z] at q; cases q) rfl).1⟩
 | .dct ks,v,h=>by
  obtain ⟨a,kvs,e,q,z⟩:=h
  exact ⟨a,kvs,e,(x.keep a _ q (fun m=>by obtain ⟨ys,z⟩:=W.at' m; rw [z] at q; cases q) rfl).1,z⟩
 | .exc y,v,h=>by
  obtain ⟨a,C,e,n,q⟩:=h
  exact ⟨a,C,e,n,(x.keep a _ q (fun m=>by obtain ⟨ys,z⟩:=W.at' m; rw [z] at q; cases q) rfl).1⟩
 | .lam _ y ns l,v,h=>by
  obtain ⟨a,o,q,c,cl,xs,e,h1,h2,h3,h4,h5,h6⟩:=h
  have nr:∀ (b:Addr) (u:HO),H b=some u→(∀ ys,u≠.lst ys)→b∉ρ:=fun b u q n m=>by obtain ⟨ys,z⟩:=W.at' m; rw [z] at q; exact n ys (Option.some.inj q).symm
  exact ⟨a,o,q,c,cl,xs,e,(x.keep a _ h1 (nr a _ h1 fun _ z=>nomatch z) rfl).1,h2,(x.keep c _ h3 (nr c _ h3 fun _ z=>nomatch z) rfl).1,h4,h5.mono (fun b o z=>(x.keep b _ z (nr b _ z fun _ z=>nomatch z) rfl).1),Rels.mono W x l xs h6⟩
theorem Rels.mono (W:Wd K ρ H c) (x:Ext ρ H ρ' H'):∀ (l:List D) (xs:List V),Rels K ρ H l xs→Rels K ρ' H' l xs
 | [],xs,h=>h
 | d :: l,xs,h=>by
  obtain ⟨y,r,e,h1,h2⟩:=h
  exact ⟨y,r,e,Rel.mono W x d y h1,Rels.mono W x l r h2⟩
end
theorem Rels.length:∀ {l:List D} {xs:List V},Rels K ρ H l xs→xs.length=l.length
 | [],xs,h=>by cases (show xs=[] from h); rfl
 | d :: l,xs,h=>by
  obtain ⟨y,r,rfl,h1,h2⟩:=h
  simp only [List.length_cons,Rels.length h2]
theorem Rels.get:∀ {l:List D} {xs:List V} {i:Nat} {d:D},Rels K ρ H l xs→l[i]? = some d→∃ x,xs[i]? = some x∧Rel K ρ H d x
 | [],_,_,_,_,e=>by cases e
 | _ :: l,_,0,_,h,e=>by
  obtain ⟨y,r,rfl,h1,h2⟩:=h
  cases e
  exact ⟨y,rfl,h1⟩
 | _ :: l,_,i + 1,_,h,e=>by
  obtain ⟨y,r,rfl,h1,h2⟩:=h
  exact Rels.get (i:=i) h2 e
theorem Rels.append:∀ {l m:List D} {xs ys:List V},Rels K ρ H l xs→Rels K ρ H m ys→Rels K ρ H (l ++ m) (xs ++ ys)
 | [],m,xs,ys,h,g=>by cases (show xs=[] from h); exact g
 | d :: l,m,xs,ys,h,g=>by
  obtain ⟨y,r,rfl,h1,h2⟩:=h
  exact ⟨y,r ++ ys,rfl,h1,Rels.append h2 g⟩
theorem Rels.set:∀ {l:List D} {xs:List V} {d:D} {x:V} (i:Nat),Rels K ρ H l xs→Rel K ρ H d x→Rels K ρ H (l.set i d) (xs.set i x)
 | [],xs,d,x,i,h,g=>by cases (show xs=[] from h); exact rfl
 | b :: l,xs,d,x,0,h,g=>by
  obtain ⟨y,r,rfl,h1,h2⟩:=h
  exact ⟨x,r,rfl,g,h2⟩
 | b :: l,xs,d,x,i + 1,h,g=>by
  obtain ⟨y,r,rfl,h1,h2⟩:=h
  exact ⟨y,r.set i x,rfl,h1,Rels.set i h2 g⟩
theorem Rels.take:∀ {l:List D} {xs:List V} (n:Nat),Rels K ρ H l xs→Rels K ρ H (l.take n) (xs.take n)
 | l,xs,0,h=>by simp only [List.take_zero]; exact rfl
 | [],xs,n + 1,h=>by cases (show xs=[] from h); exact rfl
 | d :: l,xs,n + 1,h=>by
  obtain ⟨y,r,rfl,h1,h2⟩:=h
  exact ⟨y,r.take n,rfl,h1,Rels.take n h2⟩
theorem Rels.drop:∀ {l:List D} {xs:List V} (n:Nat),Rels K ρ H l xs→Rels K ρ H (l.drop n) (xs.drop n)
 | l,xs,0,h=>h
 | [],xs,n + 1,h=>by cases (show xs=[] from h); exact rfl
 | d :: l,xs,n + 1,h=>by
  obtain ⟨y,r,rfl,h1,h2⟩:=h
  exact Rels.drop n h2
theorem Rels.ints {l:List Int}:Rels K ρ H (l.map D.int) (l.map V.int):=by
 induction l with
 | nil=>exact rfl
 | cons a l ih=>exact ⟨_,_,rfl,rfl,ih⟩
theorem Rels.ints_inv:∀ {l:List Int} {xs:List V},Rels K ρ H (l.map D.int) xs→xs=l.map V.int
 | [],xs,h=>h
 | a :: l,xs,h=>by
  obtain ⟨y,r,rfl,h1,h2⟩:=h
  cases (show y=V.int a from h1)
  rw [Rels.ints_inv h2]; rfl
theorem Rels.bls_inv:∀ {l:List Bool} {xs:List V},Rels K ρ H (l.map D.bl) xs→xs=l.map V.bl
 | [],xs,h=>h
 | a :: l,xs,h=>by
  obtain ⟨y,r,rfl,h1,h2⟩:=h
  cases (show y=V.bl a from h1)
  rw [Rels.bls_inv h2]; rfl
theorem Ext.fresh {p:Addr} {o:HO} (W:Wd K ρ H c) (h:H p=none):Ext ρ H ρ (upd H p o) :=
 ⟨fun _ _ e=>e,fun a u e n _=>⟨by rw [qao (qah e h)]; exact e,n⟩⟩
theorem Wd.fresh {p:Addr} {o:HO} (W:Wd K ρ H c) (h:H p=none):Wd K ρ (upd H p o) c :=
 ⟨W.nd,W.len,fun k a cl e1 e2=>by
  have q:=W.cel k a cl e1 e2
  cases cl with
  | lst l =>
   obtain ⟨nr,xs,e,r⟩:=q
   exact ⟨nr,xs,by rw [qao (qah e h)]; exact e,Rels.mono W (Ext.fresh W h) l xs r⟩,
  W.tab.mono (fun P ps e=>by rw [qao (qah e h)]; exact e) (fun b φ e=>by rw [qao (qah e h)]; exact e)⟩
theorem Ext.cell {p:Addr} {o:HO} (W:Wd K ρ H c) (h:H p=none):Ext ρ H (ρ ++ [p]) (upd H p o) :=
 ⟨fun k a e=>by rw [List.getElem?_append_left (List.getElem?_eq_some_iff.mp e).1]; exact e,fun a u e n _=>⟨by rw [qao (qah e h)]; exact e,by
  rw [List.mem_append]
  rintro (z | z)
  ·exact n z
  ·exact qah e h (by simpa using z)⟩⟩
theorem Wd.cell {p:Addr} {l:List D} {xs:List V} (W:Wd K ρ H c) (h:H p=none) (nr:qam l=true) (r:Rels K ρ H l xs):Wd K (ρ ++ [p]) (upd H p (.lst xs)) (c ++ [.lst l]):=by
 have X:=Ext.cell (o:=.lst xs) W h
 refine ⟨?_,by simp [W.len],fun k a cl e1 e2=>?_,W.tab.mono (fun P ps e=>by rw [qao (qah e h)]; exact e) (fun b φ e=>by rw [qao (qah e h)]; exact e)⟩
 ·rw [List.nodup_append]
  refine ⟨W.nd,by simp,?_⟩
  intro a ha b hb
  rw [List.mem_singleton] at hb
  subst hb
  exact fun z=>W.nil h (z ▸ ha)
 ·by_cases hk:k < c.length
  ·rw [List.getElem?_append_left hk] at e2
   rw [List.getElem?_append_left (by rw [W.len]; exact hk)] at e1
   have q:=W.cel k a cl e1 e2
   cases cl with
   | lst l' =>
    obtain ⟨nr',ys,e,r'⟩:=q
    exact ⟨nr',ys,by rw [qao (qah e h)]; exact e,Rels.mono W X l' ys r'⟩
  ·have hk':k=c.length:=by
    have:=(List.getElem?_eq_some_iff.mp e2).1
    simp at this
    omega
   subst hk'
   rw [List.getElem?_append_right (Nat.le_refl _),Nat.sub_self] at e2
   rw [List.getElem?_append_right (by rw [W.len]; exact Nat.le_refl _),W.len,Nat.sub_self] at e1
   cases e1; cases e2
   exact ⟨nr,xs,qbu,Rels.mono W X l xs r⟩
theorem Ext.write {k:Nat} {p:Addr} {o:HO} (h:ρ[k]? = some p):Ext ρ H ρ (upd H p o) :=
 ⟨fun _ _ e=>e,fun a u e n _=>⟨by rw [qao (fun z=>n (by rw [z]; exact List.mem_of_getElem? h))]; exact e,n⟩⟩
theorem Wd.write {k:Nat} {p:Addr} {l:List D} {xs:List V} (W:Wd K ρ H c) (h:ρ[k]? = some p) (nr:qam l=true) (r:Rels K ρ H l xs):Wd K ρ (upd H p (.lst xs)) (c.set k (.lst l)):=by
 have X:=Ext.write (H:=H) (o:=.lst xs) h
 obtain ⟨ys,hy⟩:=W.at' (List.mem_of_getElem? h)
 refine ⟨W.nd,by simp [W.len],fun j a cl e1 e2=>?_,W.tab.mono (fun P ps e=>by rw [qao (ne_of e hy fun z=>nomatch z)]; exact e) (fun b φ e=>by rw [qao (ne_of e hy fun z=>nomatch z)]; exact e)⟩
 by_cases hj:j=k
 ·subst hj
  rw [h] at e1; cases e1
  have hl:j < c.length:=by rw [← W.len]; exact (List.getElem?_eq_some_iff.mp h).1
  rw [List.getElem?_set_self hl] at e2
  cases e2
  exact ⟨nr,xs,qbu,Rels.mono W X l xs r⟩
 ·rw [List.getElem?_set_ne (Ne.symm hj)] at e2
  have q:=W.cel j a cl e1 e2
  have hap:a≠p:=by
   intro e
   subst e
   have h1:=(List.getElem?_eq_some_iff.mp h)
   have h2:=(List.getElem?_eq_some_iff.mp e1)
   exact hj ((List.getElem_inj W.nd (h₀:=h2.1) (h₁:=h1.1)).mp (h2.2.trans h1.2.symm))
  cases cl with
  | lst l' =>
   obtain ⟨nr',ys,e,r'⟩:=q
   exact ⟨nr',ys,by rw [qao hap]; exact e,Rels.mono W X l' ys r'⟩
mutual
theorem Rel.low (h:∀ a,a∈ρ'→a∈ρ):∀ (d:D) (v:V),qbT d=true→Rel K ρ H d v→Rel K ρ' H d v
 | .non,v,_,r=>r
 | .bl b,v,_,r=>r
 | .int i,v,_,r=>r
 | .str y,v,_,r=>r
 | .ty n,v,_,r=>r
 | .tup l,v,n,r=>by
  obtain ⟨a,xs,e,s,r⟩:=r
  exact ⟨a,xs,e,s,Rels.low h l xs n r⟩
 | .lst l,v,n,r=>by
  obtain ⟨a,xs,e,s,r⟩:=r
  exact ⟨a,xs,e,⟨s.1,fun q=>s.2 (h a q)⟩,Rels.low h l xs n r⟩
 | .ref k,v,n,r=>by cases n
 | .scr l,v,n,r=>by
  obtain ⟨a,e,s⟩:=r
  refine ⟨a,e,?_⟩
  rcases s with ⟨s,z⟩ | s
  ·exact .inl ⟨s,fun q=>z (h a q)⟩
  ·exact .inr s
 | .fn a m,v,n,r=>r
 | .exc y,v,n,r=>r
 | .dic,v,n,r=>r
 | .dct _,v,n,r=>r
 | .lam _ _ _ _,v,n,r=>by cases n
theorem Rels.low (h:∀ a,a∈ρ'→a∈ρ):∀ (l:List D) (xs:List V),qam l=true→Rels K ρ H l xs→Rels K ρ' H l xs
 | [],xs,_,r=>r
 | d :: l,xs,n,r=>by
  obtain ⟨y,ys,e,h1,h2⟩:=r
  have n:(qbT d && qam l)=true:=n
  rw [Bool.and_eq_true] at n
  exact ⟨y,ys,e,Rel.low h d y n.1 h1,Rels.low h l ys n.2 h2⟩
end
theorem Wd.cut {n:Nat} (W:Wd K ρ H c) (hn:n≤c.length):Wd K (ρ.take n) H (c.take n):=by
 have sub:∀ a,a∈ρ.take n→a∈ρ:=fun a h=>List.mem_of_mem_take h
 refine ⟨W.nd.sublist (List.take_sublist _ _),by simp [W.len],fun k a cl e1 e2=>?_,W.tab⟩
 rw [List.getElem?_take] at e1 e2
 split at e1
 ·rename_i hk
  rw [if_pos hk] at e2
  have q:=W.cel k a cl e1 e2
  cases cl with
  | lst l =>
   obtain ⟨nr,xs,e,r⟩:=q
   exact ⟨nr,xs,e,Rels.low sub l xs nr r⟩
 ·cases e1
theorem Ext.cut {n:Nat} (x:Ext ρ H ρ' H') (hn:ρ.length≤n):Ext ρ H (ρ'.take n) H' :=
 ⟨fun k a e=>by rw [List.getElem?_take,if_pos (Nat.lt_of_lt_of_le (List.getElem?_eq_some_iff.mp e).1 hn)]; exact x.pre k a e,fun a o e z t=>let ⟨h1,h2⟩:=x.keep a o e z t; ⟨h1,fun q=>h2 (List.mem_of_mem_take q)⟩⟩
theorem Ext.len (W:Wd K ρ H c) (W':Wd K ρ' H' c') (x:Ext ρ H ρ' H'):c.length≤c'.length:=by
 rw [← W.len,← W'.len]
 by_cases h:ρ.length≤ρ'.length
 ·exact h
 ·exfalso
  have h':ρ'.length < ρ.length:=Nat.lt_of_not_le h
  have e:=x.pre ρ'.length ρ[ρ'.length] (List.getElem?_eq_getElem h')
  rw [List.getElem?_eq_none (Nat.le_refl _)] at e
  cases e
end
abbrev Ev:=List (Option D)
def post {α β:Type} (K:PySem.W.Frag) (Rl:List Addr→Hp→α→β→Prop) (r:R α) (ρ:List Addr) (H:Hp) (Q:β→Hp→Prop):Prop:=match r with
 | .ok a c=>∀ ρ' H' b,Wd K ρ' H' c→Ext ρ H ρ' H'→Rl ρ' H' a b→Q b H'
 | .bad=>False
structure REnv (K:PySem.W.Frag) (ρ:List Addr) (H:Hp) (e:Ev) (σ:St):Prop where
 get:∀ (i:Nat) (d:D),e[i]? = some (some d)→∃ v,σ[i]? = some (some v)∧Rel K ρ H d v
 len:e.length=σ.length
def tD {α β:Type} (K:PySem.W.Frag) (Rl:List Addr→Hp→α→β→Prop) (d:Ev→List Cell→R α):St→Hp→(β→Hp→Prop)→Prop :=
 fun σ H Q=>∃ ρ e c,Wd K ρ H c∧REnv K ρ H e σ∧post K Rl (d e c) ρ H Q
section
variable {α β γ δ:Type} {K:PySem.W.Frag} {ρ ρ':List Addr} {H H':Hp} {c:List Cell} {e:Ev} {σ:St} {Rl:List Addr→Hp→α→β→Prop} {Rm:List Addr→Hp→γ→δ→Prop}
theorem REnv.mono (V:REnv K ρ H e σ) (W:Wd K ρ H c) (x:Ext ρ H ρ' H'):REnv K ρ' H' e σ :=
 ⟨fun i d h=>let ⟨v,h1,h2⟩:=V.get i d h; ⟨v,h1,Rel.mono W x d v h2⟩,V.len⟩
theorem REnv.set (V:REnv K ρ H e σ) {d:D} {v:L2.V} (r:Rel K ρ H d v) (i:Nat):REnv K ρ H (e.set i (some d)) (σ.set i (some v)):=by
 refine ⟨fun j b h=>?_,by simp [V.len]⟩
 by_cases hj:j=i
 ·subst hj
  have hl:j < e.length:=by
   have:=(List.getElem?_eq_some_iff.mp h).1
   simpa using this
  rw [List.getElem?_set_self hl] at h
  cases h
  exact ⟨v,by rw [List.getElem?_set_self (by rw [← V.len]; exact hl)],r⟩
 ·rw [List.getElem?_set_ne (Ne.symm hj)] at h ⊢
  exact V.get j b h
theorem post.ext {r:R α} {Q:β→Hp→Prop} (p:post K Rl r ρ H Q) (x:Ext ρ H ρ' H'):post K Rl r ρ' H' Q:=by
 cases r with
 | ok a c=>exact fun ρ2 H2 b W y r=>p ρ2 H2 b W (x.trans y) r
 | bad=>exact p
theorem post.mono {r:R α} {Q Q':β→Hp→Prop} (p:post K Rl r ρ H Q) (h:∀ b H,Q b H→Q' b H):post K Rl r ρ H Q':=by
 cases r with
 | ok a c=>exact fun ρ2 H2 b W y r=>h _ _ (p ρ2 H2 b W y r)
 | bad=>exact p
theorem post.bind {r:R α} {f:α→List Cell→R γ} {Q:δ→Hp→Prop} {S:β→Hp→Prop} (p:post K Rm (r.bind f) ρ H Q)
  (h:∀ a c1 ρ' H' b,r=.ok a c1→Wd K ρ' H' c1→Ext ρ H ρ' H'→Rl ρ' H' a b→post K Rm (f a c1) ρ' H' Q→S b H'):post K Rl r ρ H S:=by
 cases r with
 | ok a c1=>exact fun ρ' H' b W x r=>h a c1 ρ' H' b rfl W x r (post.ext (r:=f a c1) p x)
 | bad=>exact p
theorem post.here {a:α} {b:β} {Q:β→Hp→Prop} (p:post K Rl (.ok a c) ρ H Q) (W:Wd K ρ H c) (r:Rl ρ H a b):Q b H:=p ρ H b W Ext.refl r
end
abbrev PEd (X:Cx) (e:Expr) (d:Ev→List Cell→R D):Prop:=PE X e (tD X.K (Rel X.K) d)
abbrev PTd (X:Cx) (e:Expr) (d:Ev→List Cell→R Bool):Prop:=PT X e (tD X.K (fun _ _ a b=>a=b) d)
abbrev PWd (X:Cx) (e:Expr) (d:Ev→List Cell→R Bool):Prop:=PW X e (tD X.K (fun _ _ a b=>a=b) d)
abbrev PAd (X:Cx) (es:List Expr) (d:Ev→List Cell→R (List D)):Prop:=PA X es (tD X.K (Rels X.K) d)
section
variable {X:Cx} {e:Expr} {es:List Expr} {st:Stmt} {sts:List Stmt}
theorem PE.imp {t t':TE} (h:PE X e t) (i:∀ σ H Q,t' σ H Q→t σ H Q):PE X e t':=fun pins s σ H Q I q=>h pins s σ H Q I (i _ _ _ q)
theorem PT.imp {t t':TT} (h:PT X e t) (i:∀ σ H Q,t' σ H Q→t σ H Q):PT X e t':=fun pins s σ H Q I q=>h pins s σ H Q I (i _ _ _ q)
theorem PW.imp {t t':TT} (h:PW X e t) (i:∀ σ H Q,t' σ H Q→t σ H Q):PW X e t':=fun wh pins s σ H Q I q=>h wh pins s σ H Q I (i _ _ _ q)
theorem PA.imp {t t':TA} (h:PA X es t) (i:∀ σ H Q,t' σ H Q→t σ H Q):PA X es t':=fun pos pins s σ H Q I q=>h pos pins s σ H Q I (i _ _ _ q)
theorem PS.imp {t t':TS} (h:PS X st t) (i:∀ D σ H,t' D σ H→t D σ H):PS X st t':=fun pins s σ H D I q=>h pins s σ H D I (i _ _ _ q)
theorem PSs.imp {t t':TS} (h:PSs X sts t) (i:∀ D σ H,t' D σ H→t D σ H):PSs X sts t':=fun pins s σ H D I q=>h pins s σ H D I (i _ _ _ q)
end
def dVar (i:Nat):Ev→List Cell→R D:=fun e c=>match e[i]? with
 | some (some d)=>.ok d c
 | _=>.bad
def dC (d:D):Ev→List Cell→R D:=fun _ c=>.ok d c
section
variable {X:Cx}
theorem qa2 (i:Nat) {x:Str} {pos:Pos} (hN:X.N[i]? = some x:=by rfl) (hv:Vis X.env.scope x:=by first | exact Or.inl rfl | exact Or.inr (Or.inl rfl) | exact Or.inr (Or.inr rfl)) (hd:(x == ("__debug__":Str))=false:=by decide)
  (hcd:(x == ("__classdict__":Str))=false:=by decide):PEd X (.Name x pos) (dVar i):=(pe_var hN hv hd hcd).imp fun σ H Q h=>by
 obtain ⟨ρ,e,c,W,V,p⟩:=h
 unfold dVar at p
 cases q:e[i]? with
 | none=>rw [q] at p; exact p.elim
 | some o =>
  rw [q] at p
  cases o with
  | none=>exact p.elim
  | some d =>
   obtain ⟨v,hv,r⟩:=V.get i d q
   exact ⟨v,hv,p.here W r⟩
theorem qd6 {e:Expr} {v:V} {d:D} (h:PE X e (tC v)) (r:∀ ρ H,Rel X.K ρ H d v):PEd X e (dC d):=h.imp fun σ H Q h=>by
 obtain ⟨ρ,e,c,W,V,p⟩:=h
 exact post.here (r:=r ρ H) p W
theorem qac {i j pos}:PEd X (.Constant (.int i) j pos) (dC (.int i)):=qd6 pe_int fun _ _=>rfl
theorem qf6 {b j pos}:PEd X (.Constant (.bool b) j pos) (dC (.bl b)):=qd6 pe_bl fun _ _=>rfl
theorem pd_non {j pos}:PEd X (.Constant .none j pos) (dC .non):=qd6 pe_non fun _ _=>rfl
theorem qcU {x j pos}:PEd X (.Constant (.str x) j pos) (dC (.str x)):=qd6 pe_str fun _ _=>rfl
theorem qdR {x:Str} {n:String} {pos:Pos} (hg:Gl X x) (hm:X.mg x=none) (hv:bootBuiltins x=some (.type n)) (hn:x≠"__name__":=by decide) (hd:(x == ("__debug__":Str))=false:=by decide):PEd X (.Name x pos) (dC (.ty n)):=qd6 (pe_ty hg hm hv hn hd) fun _ _=>rfl
theorem pd_gint {x:Str} {i:Int} {t:Tok} {pos:Pos} (hg:Gl X x) (hm:X.mg x=some (.int i t)) (hd:(x == ("__debug__":Str))=false:=by decide):PEd X (.Name x pos) (dC (.int i)):=qd6 (qgk (v:=.int i) hg hm ⟨t,rfl⟩ hd) fun _ _=>rfl
end
end L2
namespace L2
open PySem PySem.Spec PyProof.Rows
def dBin (f:D→D→List Cell→R D) (a b:Ev→List Cell→R D):Ev→List Cell→R D:=fun e c=>(a e c).bind fun x c=>(b e c).bind fun y c=>f x y c
def dUn (f:D→List Cell→R D) (a:Ev→List Cell→R D):Ev→List Cell→R D:=fun e c=>(a e c).bind fun x c=>f x c
def r2 (K:PySem.W.Frag) (f:D→D→List Cell→R D):R2:=fun v u H Q=>∃ ρ x y c,Wd K ρ H c∧Rel K ρ H x v∧Rel K ρ H y u∧post K (Rel K) (f x y c) ρ H Q
def r1 (K:PySem.W.Frag) (f:D→List Cell→R D):V→Hp→VK→Prop:=fun v H Q=>∃ ρ x c,Wd K ρ H c∧Rel K ρ H x v∧post K (Rel K) (f x c) ρ H Q
def rN (K:PySem.W.Frag) (f:List D→List Cell→R D):List V→Hp→VK→Prop:=fun vs H Q=>∃ ρ xs c,Wd K ρ H c∧Rels K ρ H xs vs∧post K (Rel K) (f xs c) ρ H Q
def dCB (f:List D→List Cell→R D) (a:Ev→List Cell→R (List D)):Ev→List Cell→R D:=fun e c=>(a e c).bind fun xs c=>f xs c
section
variable {X:Cx} {a b:Expr} {da db dd:Ev→List Cell→R D} {pos:Pos} {K:PySem.W.Frag} {σ:St} {H:Hp} {Q:VK} {f:D→D→List Cell→R D}
theorem t_bin (h:tD K (Rel K) (dBin f da db) σ H Q):tD K (Rel K) da σ H fun v H1=>tD K (Rel K) db σ H1 fun u H2=>r2 K f v u H2 Q:=by
 obtain ⟨ρ,e,c,W,V,p⟩:=h
 refine ⟨ρ,e,c,W,V,post.bind p fun x c1 ρ1 H1 v _ W1 X1 r1 p1=>⟨ρ1,e,c1,W1,V.mono W X1,post.bind p1 fun y c2 ρ2 H2 u _ W2 X2 r2 p2=>⟨ρ2,x,y,c2,W2,Rel.mono W1 X2 _ _ r1,r2,p2⟩⟩⟩
theorem t_un {g:D→List Cell→R D} (h:tD K (Rel K) (dUn g da) σ H Q):tD K (Rel K) da σ H fun v H1=>r1 K g v H1 Q:=by
 obtain ⟨ρ,e,c,W,V,p⟩:=h
 exact ⟨ρ,e,c,W,V,post.bind p fun x c1 ρ1 H1 v _ W1 X1 r1 p1=>⟨ρ1,x,c1,W1,r1,p1⟩⟩
theorem t_cb {g:List D→List Cell→R D} {ds:Ev→List Cell→R (List D)} (h:tD K (Rel K) (dCB g ds) σ H Q):tD K (Rels K) ds σ H fun vs H1=>rN K g vs H1 Q:=by
 obtain ⟨ρ,e,c,W,V,p⟩:=h
 exact ⟨ρ,e,c,W,V,post.bind p fun x c1 ρ1 H1 v _ W1 X1 r1 p1=>⟨ρ1,x,c1,W1,r1,p1⟩⟩
theorem qab {op:Operator} (ho:OpR X (binaryOp op) (r2 X.K f)) (ha:PEd X a da) (hb:PEd X b db):PEd X (.BinOp a op b pos) (dBin f da db):=(pe_op ho ha hb).imp fun σ H Q h=>t_bin h
theorem qeF {op:CmpOp} (ho:OpR X (compareOp op) (r2 X.K f)) (ha:PEd X a da) (hb:PEd X b db) (hm:behindInMarks op b=false:=by first | exact nomark _ | rfl):PEd X (.Compare a [op] [b] pos) (dBin f da db):=(pe_cmpR ho ha hb hm).imp fun σ H Q h=>t_bin h
theorem pd_un {op:UnaryOp} {g:D→List Cell→R D} (ho:UnR X (unaryOp op) (r1 X.K g)) (ha:PEd X a da):PEd X (.UnaryOp op a pos) (dUn g da):=(pe_un ho ha).imp fun σ H Q h=>t_un h
theorem qce (hr:IxR X (r2 X.K f)) (ha:PEd X a da) (hb:PEd X b db) (hs:PlainIx b:=by exact fun _ _=>rfl):PEd X (.Subscript a b pos) (dBin f da db):=(pe_ix hr ha hb hs).imp fun σ H Q h=>t_bin h
def qft (f g:D→D→List Cell→R D) (a b d:Ev→List Cell→R D):Ev→List Cell→R D:=fun e c=>(a e c).bind fun x c=>(b e c).bind fun y c=>(f x y c).bind fun z c=>match z with
 | .bl true=>(d e c).bind fun u c=>g y u c
 | .bl false=>.ok (.bl false) c
 | _=>.bad
end
def dNil:Ev→List Cell→R (List D):=fun _ c=>.ok [] c
def qa0 (a:Ev→List Cell→R D) (r:Ev→List Cell→R (List D)):Ev→List Cell→R (List D):=fun e c=>(a e c).bind fun x c=>(r e c).bind fun xs c=>.ok (x :: xs) c
def dTup (a:Ev→List Cell→R (List D)):Ev→List Cell→R D:=fun e c=>(a e c).bind fun xs c=>if xs.length≤sizeLine then .ok (.tup xs) c else .bad
def dLst (a:Ev→List Cell→R (List D)):Ev→List Cell→R D:=fun e c=>(a e c).bind fun xs c=>if xs.length≤sizeLine then .ok (.lst xs) c else .bad
def qdV (a:Ev→List Cell→R (List D)):Ev→List Cell→R D:=fun e c=>(a e c).bind fun xs c=>if xs.length≤sizeLine∧qam xs=true then .ok (.ref c.length) (c ++ [.lst xs]) else .bad
section
variable {X:Cx} {a:Expr} {es:List Expr} {da:Ev→List Cell→R D} {ds:Ev→List Cell→R (List D)} {pos:Pos} {K:PySem.W.Frag} {ρ:List Addr} {H:Hp} {c:List Cell} {Q:VK} {xs:List D} {vs:List V}
theorem qa3:PAd X [] dNil:=pa_nil.imp fun σ H Q h=>by
 obtain ⟨ρ,e,c,W,V,p⟩:=h
 exact post.here (b:=[]) p W rfl
theorem qa1 (ha:PEd X a da) (hr:PAd X es ds) (hs:starEach (a :: es) X.env=(false,eval a X.env) :: starEach es X.env:=by exact qaQ rfl):PAd X (a :: es) (qa0 da ds):=(qe0 ha hr hs).imp fun σ H Q h=>by
 obtain ⟨ρ,e,c,W,V,p⟩:=h
 refine ⟨ρ,e,c,W,V,post.bind p fun x c1 ρ1 H1 v _ W1 X1 r1 p1=>⟨ρ1,e,c1,W1,V.mono W X1,post.bind p1 fun y c2 ρ2 H2 u _ W2 X2 r2 p2=>?_⟩⟩
 exact p2.here W2 ⟨v,u,rfl,Rel.mono W1 X2 _ _ r1,r2⟩
theorem new_tup (W:Wd K ρ H c) (r:Rels K ρ H xs vs) (p:post K (Rel K) (.ok (.tup xs) c) ρ H Q):∀ q,H q=none→Q (.ref q) (upd H q (.tup vs)):=fun q hq =>
 p ρ _ _ (W.fresh hq) (Ext.fresh W hq) ⟨q,vs,rfl,qbu,Rels.mono W (Ext.fresh W hq) _ _ r⟩
theorem qfg (W:Wd K ρ H c) (r:Rels K ρ H xs vs) (p:post K (Rel K) (.ok (.lst xs) c) ρ H Q):∀ q,H q=none→Q (.ref q) (upd H q (.lst vs)):=fun q hq =>
 p ρ _ _ (W.fresh hq) (Ext.fresh W hq) ⟨q,vs,rfl,⟨qbu,W.nil hq⟩,Rels.mono W (Ext.fresh W hq) _ _ r⟩
theorem qgp (W:Wd K ρ H c) (nr:qam xs=true) (r:Rels K ρ H xs vs) (p:post K (Rel K) (.ok (.ref c.length) (c ++ [.lst xs])) ρ H Q):∀ q,H q=none→Q (.ref q) (upd H q (.lst vs)):=fun q hq =>
 p (ρ ++ [q]) _ _ (W.cell hq nr r) (Ext.cell W hq) ⟨q,rfl,by rw [List.getElem?_append_right (by rw [W.len]; exact Nat.le_refl _),W.len,Nat.sub_self]; rfl⟩
theorem qfN {x1} (h:PAd X es ds):PEd X (.Tuple es x1 pos) (dTup ds):=(pe_tup h).imp fun σ H Q h=>by
 obtain ⟨ρ,e,c,W,V,p⟩:=h
 refine ⟨ρ,e,c,W,V,post.bind p fun x c1 ρ1 H1 v _ W1 X1 r1 p1=>?_⟩
 split at p1
 ·rename_i hl
  exact ⟨by rw [r1.length]; exact hl,new_tup W1 r1 p1⟩
 ·exact p1.elim
theorem qcf (h:PAd X es ds):PEd X (.List es pos) (dLst ds):=(pe_lst h).imp fun σ H Q h=>by
 obtain ⟨ρ,e,c,W,V,p⟩:=h
 refine ⟨ρ,e,c,W,V,post.bind p fun x c1 ρ1 H1 v _ W1 X1 r1 p1=>?_⟩
 split at p1
 ·rename_i hl
  exact ⟨by rw [r1.length]; exact hl,qfg W1 r1 p1⟩
 ·exact p1.elim
theorem qdA (h:PAd X es ds):PEd X (.List es pos) (qdV ds):=(pe_lst h).imp fun σ H Q h=>by
 obtain ⟨ρ,e,c,W,V,p⟩:=h
 refine ⟨ρ,e,c,W,V,post.bind p fun x c1 ρ1 H1 v _ W1 X1 r1 p1=>?_⟩
 split at p1
 ·rename_i hl
  exact ⟨by rw [r1.length]; exact hl.1,qgp W1 hl.2 r1 p1⟩
 ·exact p1.elim
end
def addD:D→D→List Cell→R D:=fun x y c=>match x,y with
 | .int i,.int j=>.ok (.int (i + j)) c
 | .str a,.str b=>if a.length + b.length≤sizeLine then .ok (.str (a ++ b)) c else .bad
 | .tup l,.tup m=>if l.length≠0∧l.length + m.length≤sizeLine then .ok (.tup (l ++ m)) c else .bad
 | _,_=>.bad
def subD:D→D→List Cell→R D:=fun x y c=>match x,y with
 | .int i,.int j=>.ok (.int (i - j)) c
 | _,_=>.bad
def mulD:D→D→List Cell→R D:=fun x y c=>match x,y with
 | .int i,.int j=>if (-(2 ^ 64) < i∧i < 2 ^ 64)∨(-(2 ^ 64) < j∧j < 2 ^ 64) then .ok (.int (i * j)) c else .bad
 | _,_=>.bad
def divD:D→D→List Cell→R D:=fun x y c=>match x,y with
 | .int i,.int j=>if 0 < j∧j < 1073741824 then .ok (.int (i / j)) c else .bad
 | _,_=>.bad
def modD:D→D→List Cell→R D:=fun x y c=>match x,y with
 | .int i,.int j=>if 0 < j then .ok (.int (i % j)) c else .bad
 | _,_=>.bad
def powD:D→D→List Cell→R D:=fun x y c=>match x,y with
 | .int i,.int j=>if 0≤j∧j≤1000000∧i.natAbs < 2 ^ 64 then .ok (.int (i ^ j.toNat)) c else .bad
 | _,_=>.bad
def negD:D→List Cell→R D:=fun x c=>match x with
 | .int i=>.ok (.int (-i)) c
 | _=>.bad
def cmpD (p:Int→Int→Bool):D→D→List Cell→R D:=fun x y c=>match x,y with
 | .int i,.int j=>.ok (.bl (p i j)) c
 | _,_=>.bad
section
variable {X:Cx}
theorem qby:OpR X (binaryOp .Add) (r2 X.K addD):=by
 intro pins s σ H v u vv uu Q I rv ru h
 obtain ⟨ρ,x,y,c,W,rx,ry,p⟩:=h
 unfold addD at p
 split at p
 ·cases rx; cases ry
  exact op_add pins s σ H _ _ vv uu Q I rv ru ⟨_,_,rfl,rfl,p.here W rfl⟩
 ·split at p
  ·rename_i hl
   cases rx; cases ry
   exact op_add_str pins s σ H _ _ vv uu Q I rv ru ⟨_,_,rfl,rfl,hl,p.here W rfl⟩
  ·exact p.elim
 ·split at p
  ·rename_i hl
   obtain ⟨a,xs,rfl,sa,ra⟩:=rx
   obtain ⟨b,ys,rfl,sb,rb⟩:=ry
   refine op_catT pins s σ H _ _ vv uu Q I rv ru ⟨a,b,xs,ys,rfl,rfl,SqT.of sa,SqT.of sb,fun z=>hl.1 ?_,by rw [ra.length,rb.length]; exact hl.2,fun z=>?_,fun _=>new_tup W (ra.append rb) p⟩
   ·rw [← ra.length,z]; rfl
   ·refine p.here W ⟨a,xs ++ ys,rfl,by rw [z,List.append_nil]; exact sa,ra.append rb⟩
  ·exact p.elim
 ·exact p.elim
theorem qcB:OpR X (binaryOp .Sub) (r2 X.K subD):=by
 intro pins s σ H v u vv uu Q I rv ru h
 obtain ⟨ρ,x,y,c,W,rx,ry,p⟩:=h
 unfold subD at p
 split at p
 ·cases rx; cases ry
  exact op_sub pins s σ H _ _ vv uu Q I rv ru ⟨_,_,rfl,rfl,p.here W rfl⟩
 ·exact p.elim
theorem qda:OpR X (binaryOp .Mult) (r2 X.K mulD):=by
 intro pins s σ H v u vv uu Q I rv ru h
 obtain ⟨ρ,x,y,c,W,rx,ry,p⟩:=h
 unfold mulD at p
 split at p
 ·split at p
  ·rename_i hl
   cases rx; cases ry
   exact op_mul pins s σ H _ _ vv uu Q I rv ru ⟨_,_,rfl,rfl,hl,p.here W rfl⟩
  ·exact p.elim
 ·exact p.elim
theorem qfT:OpR X (binaryOp .FloorDiv) (r2 X.K divD):=by
 intro pins s σ H v u vv uu Q I rv ru h
 obtain ⟨ρ,x,y,c,W,rx,ry,p⟩:=h
 unfold divD at p
 split at p
 ·split at p
  ·rename_i hl
   cases rx; cases ry
   exact op_fdiv pins s σ H _ _ vv uu Q I rv ru ⟨_,_,rfl,rfl,hl,p.here W rfl⟩
  ·exact p.elim
 ·exact p.elim
theorem qdk:OpR X (binaryOp .Mod) (r2 X.K modD):=by
 intro pins s σ H v u vv uu Q I rv ru h
 obtain ⟨ρ,x,y,c,W,rx,ry,p⟩:=h
 unfold modD at p
 split at p
 ·split at p
  ·rename_i hl
   cases rx; cases ry
   exact op_mod pins s σ H _ _ vv uu Q I rv ru ⟨_,_,rfl,rfl,hl,p.here W rfl⟩
  ·exact p.elim
 ·exact p.elim
theorem od_pow:OpR X (binaryOp .Pow) (r2 X.K powD):=by
 intro pins s σ H v u vv uu Q I rv ru h
 obtain ⟨ρ,x,y,c,W,rx,ry,p⟩:=h
 unfold powD at p
 split at p
 ·split at p
  ·rename_i hl
   cases rx; cases ry
   exact op_pow pins s σ H _ _ vv uu Q I rv ru ⟨_,_,rfl,rfl,hl,p.here W rfl⟩
  ·exact p.elim
 ·exact p.elim
theorem ud_neg:UnR X (unaryOp .USub) (r1 X.K negD):=by
 intro pins s σ H v vv Q I rv h
 obtain ⟨ρ,x,c,W,rx,p⟩:=h
 unfold negD at p
 split at p
 ·cases rx
  exact un_neg pins s σ H _ vv Q I rv ⟨_,rfl,p.here W rfl⟩
 ·exact p.elim
theorem od_cmp {f:Value→Value→Sem Value} {q:Int→Int→Bool} (h:OpR X f (rI0 fun i j=>.bl (q i j))):OpR X f (r2 X.K (cmpD q)):=by
 intro pins s σ H v u vv uu Q I rv ru hh
 obtain ⟨ρ,x,y,c,W,rx,ry,p⟩:=hh
 unfold cmpD at p
 split at p
 ·cases rx; cases ry
  exact h pins s σ H _ _ vv uu Q I rv ru ⟨_,_,rfl,rfl,p.here W rfl⟩
 ·exact p.elim
abbrev ltD:=cmpD fun i j=>decide (i < j)
abbrev leD:=cmpD fun i j=>decide (i≤j)
abbrev gtD:=cmpD fun i j=>decide (j < i)
abbrev geD:=cmpD fun i j=>decide (j≤i)
theorem od_lt:OpR X (compareOp .Lt) (r2 X.K ltD):=od_cmp op_lt
theorem od_le:OpR X (compareOp .LtE) (r2 X.K leD):=od_cmp op_le
theorem od_gt:OpR X (compareOp .Gt) (r2 X.K gtD):=od_cmp op_gt
theorem od_ge:OpR X (compareOp .GtE) (r2 X.K geD):=od_cmp op_ge
end
def eqS:D→D→Option Bool
 | .non,.non=>some true | .non,.int _=>some false | .int _,.non=>some false | .non,.bl _=>some false | .bl _,.non=>some false | .non,.str _=>some false | .str _,.non=>some false
 | .int i,.int j=>some (decide (i=j)) | .bl a,.bl b=>some (decide (a=b)) | .str x,.str y=>some (decide (x=y))
 | .int _,.str _=>some false | .str _,.int _=>some false | .bl _,.str _=>some false | .str _,.bl _=>some false
 | _,_=>none
def eqD:D→D→List Cell→R D:=fun x y c=>match eqS x y with
 | some b=>.ok (.bl b) c
 | none=>.bad
def neD:D→D→List Cell→R D:=fun x y c=>match eqS x y with
 | some b=>.ok (.bl (!b)) c
 | none=>.bad
def isN:D→Bool
 | .non=>true
 | _=>false
def isD:D→D→List Cell→R D:=fun x y c=>match y with
 | .non=>.ok (.bl (isN x)) c
 | _=>.bad
def isNotD:D→D→List Cell→R D:=fun x y c=>match y with
 | .non=>.ok (.bl (!isN x)) c
 | _=>.bad
section
variable {X:Cx} {K:PySem.W.Frag} {ρ:List Addr} {H:Hp} {c:List Cell}
theorem eqS_ok {x y:D} {v u:V} {b:Bool} (rx:Rel K ρ H x v) (ry:Rel K ρ H y u) (h:eqS x y=some b):scal v u=true∧decide (v=u)=b:=by
 cases x <;> cases y <;> first
  | (cases rx; cases ry; cases h; refine ⟨rfl,?_⟩; simp; done)
  | (cases h; done)
theorem od_eq:OpR X (compareOp .Eq) (r2 X.K eqD):=by
 intro pins s σ H v u vv uu Q I rv ru h
 obtain ⟨ρ,x,y,c,W,rx,ry,p⟩:=h
 unfold eqD at p
 split at p
 ·rename_i b hb
  obtain ⟨h1,h2⟩:=eqS_ok rx ry hb
  exact op_eq pins s σ H _ _ vv uu Q I rv ru ⟨h1,by rw [h2]; exact p.here W rfl⟩
 ·exact p.elim
theorem od_ne:OpR X (compareOp .NotEq) (r2 X.K neD):=by
 intro pins s σ H v u vv uu Q I rv ru h
 obtain ⟨ρ,x,y,c,W,rx,ry,p⟩:=h
 unfold neD at p
 split at p
 ·rename_i b hb
  obtain ⟨h1,h2⟩:=eqS_ok rx ry hb
  exact op_ne pins s σ H _ _ vv uu Q I rv ru ⟨h1,by rw [h2]; exact p.here W rfl⟩
 ·exact p.elim
theorem isN_ok {x:D} {v:V} (rx:Rel K ρ H x v):decide (v=.non)=isN x:=by
 cases x <;> first
  | (cases rx; rfl; done)
  | (cases rx; simp [isN]; done)
  | (obtain ⟨a,xs,rfl,_⟩:=rx; simp [isN]; done)
  | (obtain ⟨a,rfl,_⟩:=rx; simp [isN]; done)
  | (obtain ⟨a,o,q,c,cl,xs,rfl,_⟩:=rx; simp [isN]; done)
theorem od_is:OpR X (compareOp .Is) (r2 X.K isD):=by
 intro pins s σ H v u vv uu Q I rv ru h
 obtain ⟨ρ,x,y,c,W,rx,ry,p⟩:=h
 unfold isD at p
 split at p
 ·cases ry
  exact op_isN pins s σ H _ _ vv uu Q I rv ru ⟨rfl,by rw [isN_ok rx]; exact p.here W rfl⟩
 ·exact p.elim
theorem pd_chain {a b d:Expr} {da db dd:Ev→List Cell→R D} {pos:Pos} {op op':CmpOp} {f g:D→D→List Cell→R D} (ho:OpR X (compareOp op) (r2 X.K f)) (ho':OpR X (compareOp op') (r2 X.K g)) (ha:PEd X a da) (hb:PEd X b db) (hd:PEd X d dd)
  (h1:lastMarks [op,op'] [b,d]=false:=by with_unfolding_all rfl) :
  PEd X (.Compare a [op,op'] [b,d] pos) (qft f g da db dd):=(pe_chain ho ho' ha hb hd h1).imp fun σ H Q h=>by
 obtain ⟨ρ,e,c,W,V,p⟩:=h
 refine ⟨ρ,e,c,W,V,post.bind p fun x c1 ρ1 H1 v _ W1 X1 r1 p1=>⟨ρ1,e,c1,W1,V.mono W X1,post.bind p1 fun y c2 ρ2 H2 u _ W2 X2 r2 p2=>⟨ρ2,x,y,c2,W2,Rel.mono W1 X2 _ _ r1,r2,post.bind p2 fun z c3 ρ3 H3 w _ W3 X3 r3 p3=>?_⟩⟩⟩
 have V3:=(V.mono W X1).mono W1 (X2.trans X3)
 cases z with
 | bl k =>
  cases r3
  refine ⟨k,rfl,?_⟩
  cases k with
  | true =>
   refine iteT ⟨ρ3,e,c3,W3,V3,post.bind p3 fun t c4 ρ4 H4 w4 _ W4 X4 r4 p4=>⟨ρ4,y,t,c4,W4,Rel.mono W2 (X3.trans X4) _ _ r2,r4,p4⟩⟩
  | false=>exact iteF (p3.here W3 rfl)
 | _=>exact p3.elim
end
def seqD (c:List Cell):D→Option (List D)
 | .tup l=>some l
 | .lst l=>some l
 | .scr l=>some (l.map D.int)
 | .ref k=>match c[k]? with
  | some (.lst l)=>some l
  | none=>none
 | _=>none
def ixD:D→D→List Cell→R D:=fun x y c=>match y with
 | .int i=>match seqD c x with
  | some l=>match atI l i with
   | some d=>.ok d c
   | none=>.bad
  | none=>.bad
 | _=>.bad
section
variable {X:Cx} {K:PySem.W.Frag} {ρ:List Addr} {H:Hp} {c:List Cell}
theorem seqD_ok {x:D} {v:V} {l:List D} (W:Wd K ρ H c) (rx:Rel K ρ H x v) (h:seqD c x=some l):∃ a xs,v=.ref a∧(SqL K H a xs∨SqT K H a xs)∧Rels K ρ H l xs:=by
 cases x with
 | tup m =>
  cases h
  obtain ⟨a,xs,e,s,r⟩:=rx
  exact ⟨a,xs,e,.inr (SqT.of s),r⟩
 | lst m =>
  cases h
  obtain ⟨a,xs,e,s,r⟩:=rx
  exact ⟨a,xs,e,.inl (SqL.of s.1),r⟩
 | scr m =>
  cases h
  obtain ⟨a,e,s⟩:=rx
  exact ⟨a,_,e,.inl s.sql,Rels.ints⟩
 | ref k =>
  obtain ⟨a,e,s⟩:=rx
  unfold seqD at h
  dsimp only at h
  cases hc:c[k]? with
  | none=>rw [hc] at h; cases h
  | some cl =>
   cases cl with
   | lst m =>
    rw [hc] at h; cases h
    obtain ⟨_,xs,hx,r⟩:=W.cel k a _ s hc
    exact ⟨a,xs,e,.inl (SqL.of hx),r⟩
 | _=>cases h
theorem atI_rel {l:List D} {xs:List V} {i:Int} {d:D} (r:Rels K ρ H l xs) (h:atI l i=some d):∃ v,atI xs i=some v∧Rel K ρ H d v:=by
 unfold atI at h ⊢
 rw [r.length]
 cases e:ixN l.length i with
 | none=>rw [e] at h; cases h
 | some j =>
  rw [e] at h
  exact r.get (i:=j) h
theorem qbb:IxR X (r2 X.K ixD):=by
 intro value slice pins s σ H v u vv uu Q I rv ru h hs
 obtain ⟨ρ,x,y,c,W,rx,ry,p⟩:=h
 unfold ixD at p
 split at p
 ·split at p
  ·rename_i l hl
   split at p
   ·rename_i d hd
    cases ry
    obtain ⟨a,xs,rfl,sq,r⟩:=seqD_ok W rx hl
    obtain ⟨w,hw,rw'⟩:=atI_rel r hd
    rcases sq with sq | sq
    ·exact ix_list value slice pins s σ H _ _ vv uu Q I rv ru ⟨a,xs,_,w,rfl,rfl,sq,hw,p.here W rw'⟩ hs
    ·exact ix_tup value slice pins s σ H _ _ vv uu Q I rv ru ⟨a,xs,_,w,rfl,rfl,sq,hw,p.here W rw'⟩ hs
   ·exact p.elim
  ·exact p.elim
 ·exact p.elim
end
end L2
namespace L2
open PySem PySem.Spec PyProof.Rows
def truD (c:List Cell):D→Option Bool
 | .non=>some false
 | .bl b=>some b
 | .int i=>some (i != 0)
 | .tup l=>some (!l.isEmpty)
 | .lst l=>some (!l.isEmpty)
 | .ref k=>match c[k]? with
  | some (.lst l)=>some (!l.isEmpty)
  | none=>none
 | _=>none
def dTru (a:Ev→List Cell→R D):Ev→List Cell→R Bool:=fun e c=>(a e c).bind fun x c=>match truD c x with
 | some b=>.ok b c
 | none=>.bad
def dBl (a:Ev→List Cell→R D):Ev→List Cell→R Bool:=fun e c=>(a e c).bind fun x c=>match x with
 | .bl b=>.ok b c
 | _=>.bad
def dAndT (a b:Ev→List Cell→R Bool):Ev→List Cell→R Bool:=fun e c=>(a e c).bind fun x c=>if x=true then b e c else .ok false c
def dOrT (a b:Ev→List Cell→R Bool):Ev→List Cell→R Bool:=fun e c=>(a e c).bind fun x c=>if x=true then .ok true c else b e c
def qca (a:Ev→List Cell→R Bool):Ev→List Cell→R Bool:=fun e c=>(a e c).bind fun x c=>.ok (!x) c
def qen (a b:Ev→List Cell→R D):Ev→List Cell→R D:=fun e c=>(a e c).bind fun x c=>match x with
 | .bl k=>if k=true then b e c else .ok (.bl false) c
 | _=>.bad
def dOrV (a b:Ev→List Cell→R D):Ev→List Cell→R D:=fun e c=>(a e c).bind fun x c=>match x with
 | .bl k=>if k=true then .ok (.bl true) c else b e c
 | _=>.bad
def dNotV (a:Ev→List Cell→R D):Ev→List Cell→R D:=fun e c=>(a e c).bind fun x c=>match x with
 | .bl k=>.ok (.bl (!k)) c
 | _=>.bad
def dIfE (t:Ev→List Cell→R Bool) (a b:Ev→List Cell→R D):Ev→List Cell→R D:=fun e c=>(t e c).bind fun x c=>if x=true then a e c else b e c
section
variable {X:Cx} {a b c':Expr} {da db:Ev→List Cell→R D} {ta tb:Ev→List Cell→R Bool} {pos:Pos} {rest:List Expr}
theorem blT (h:tD X.K (fun _ _ a b=>a=b) (dBl da) σ H Q):tD X.K (Rel X.K) da σ H fun x H'=>∃ k,x=.bl k∧Q k H':=by
 obtain ⟨ρ,e,c,W,V,p⟩:=h
 refine ⟨ρ,e,c,W,V,post.bind p fun x c1 ρ1 H1 v _ W1 X1 r1 p1=>?_⟩
 cases x with
 | bl k=>cases r1; exact ⟨k,rfl,p1.here W1 rfl⟩
 | _=>exact p1.elim
theorem qbR (ha:PEd X a da) (he:∀ whole,isTrue a X.env whole=(do let v ← whole; standAt a.pos; holding [v] (truthy v)):=by intro _; rfl):PTd X a (dBl da):=(pt_val ha he).imp fun σ H Q h=>blT h
theorem qbQ {op:CmpOp} {f:D→D→List Cell→R D} (ho:OpR X (compareOp op) (r2 X.K f)) (ha:PEd X a da) (hb:PEd X b db) (hm:behindInMarks op b=false:=by first | exact nomark _ | rfl):PTd X (.Compare a [op] [b] pos) (dBl (dBin f da db)) :=
 (pt_cmpR ho ha hb hm).imp fun σ H Q h=>t_bin (Q:=fun x H'=>∃ k,x=.bl k∧Q k H') (blT h)
theorem pd_chainT {d:Expr} {dd:Ev→List Cell→R D} {op op':CmpOp} {f g:D→D→List Cell→R D} (ho:OpR X (compareOp op) (r2 X.K f)) (ho':OpR X (compareOp op') (r2 X.K g)) (ha:PEd X a da) (hb:PEd X b db) (hd:PEd X d dd)
  (h1:lastMarks [op,op'] [b,d]=false:=by with_unfolding_all rfl):PTd X (.Compare a [op,op'] [b,d] pos) (dBl (qft f g da db dd)):=(pt_chain ho ho' ha hb hd h1).imp fun σ H Q h=>by
 obtain ⟨ρ,e,c,W,V,p⟩:=blT h
 refine ⟨ρ,e,c,W,V,post.bind p fun x c1 ρ1 H1 v _ W1 X1 r1 p1=>⟨ρ1,e,c1,W1,V.mono W X1,post.bind p1 fun y c2 ρ2 H2 u _ W2 X2 r2 p2=>⟨ρ2,x,y,c2,W2,Rel.mono W1 X2 _ _ r1,r2,post.bind p2 fun z c3 ρ3 H3 w _ W3 X3 r3 p3=>?_⟩⟩⟩
 have V3:=(V.mono W X1).mono W1 (X2.trans X3)
 cases z with
 | bl k =>
  cases r3
  refine ⟨k,rfl,?_⟩
  cases k with
  | true =>
   refine iteT ⟨ρ3,e,c3,W3,V3,post.bind p3 fun t c4 ρ4 H4 w4 _ W4 X4 r4 p4=>⟨ρ4,y,t,c4,W4,Rel.mono W2 (X3.trans X4) _ _ r2,r4,p4⟩⟩
  | false=>exact iteF (p3.here W3 rfl)
 | _=>exact p3.elim
theorem pd_and1 (ha:PTd X a ta):PWd X (.BoolOp .And [a] pos) ta:=pw_and1 ha
theorem qfP (ha:PTd X a ta):PWd X (.BoolOp .Or [a] pos) ta:=pw_or1 ha
theorem pd_andT (ha:PTd X a ta) (hb:PWd X (.BoolOp .And (b :: rest) pos) tb):PWd X (.BoolOp .And (a :: b :: rest) pos) (dAndT ta tb):=(pw_and ha hb).imp fun σ H Q h=>by
 obtain ⟨ρ,e,c,W,V,p⟩:=h
 refine ⟨ρ,e,c,W,V,post.bind p fun x c1 ρ1 H1 v _ W1 X1 r1 p1=>?_⟩
 cases r1
 cases x with
 | true=>exact iteT ⟨ρ1,e,c1,W1,V.mono W X1,p1⟩
 | false=>exact iteF (post.here (a:=false) p1 W1 rfl)
theorem qfO (ha:PTd X a ta) (hb:PWd X (.BoolOp .Or (b :: rest) pos) tb):PWd X (.BoolOp .Or (a :: b :: rest) pos) (dOrT ta tb):=(pw_or ha hb).imp fun σ H Q h=>by
 obtain ⟨ρ,e,c,W,V,p⟩:=h
 refine ⟨ρ,e,c,W,V,post.bind p fun x c1 ρ1 H1 v _ W1 X1 r1 p1=>?_⟩
 cases r1
 cases x with
 | true=>exact iteT (post.here (a:=true) p1 W1 rfl)
 | false=>exact iteF ⟨ρ1,e,c1,W1,V.mono W X1,p1⟩
theorem qcn (ha:PTd X a ta):PTd X (.UnaryOp .Not a pos) (qca ta):=(pt_not ha).imp fun σ H Q h=>by
 obtain ⟨ρ,e,c,W,V,p⟩:=h
 refine ⟨ρ,e,c,W,V,post.bind p fun x c1 ρ1 H1 v _ W1 X1 r1 p1=>?_⟩
 cases r1
 exact p1.here W1 rfl
theorem qed {op} (h:PEd X a da):PEd X (.BoolOp op [a] pos) da:=pe_one h
theorem qee (ha:PEd X a da) (hb:PEd X (.BoolOp .And (b :: rest) pos) db):PEd X (.BoolOp .And (a :: b :: rest) pos) (qen da db):=(pe_and ha hb).imp fun σ H Q h=>by
 obtain ⟨ρ,e,c,W,V,p⟩:=h
 refine ⟨ρ,e,c,W,V,post.bind p fun x c1 ρ1 H1 v _ W1 X1 r1 p1=>?_⟩
 cases x with
 | bl k =>
  cases r1
  refine ⟨k,rfl,?_⟩
  cases k with
  | true=>exact iteT ⟨ρ1,e,c1,W1,V.mono W X1,p1⟩
  | false=>exact iteF (post.here (a:=D.bl false) p1 W1 rfl)
 | _=>exact p1.elim
theorem pd_not (ha:PEd X a da):PEd X (.UnaryOp .Not a pos) (dNotV da):=(pe_not ha).imp fun σ H Q h=>by
 obtain ⟨ρ,e,c,W,V,p⟩:=h
 refine ⟨ρ,e,c,W,V,post.bind p fun x c1 ρ1 H1 v _ W1 X1 r1 p1=>?_⟩
 cases x with
 | bl k=>cases r1; exact ⟨k,rfl,p1.here W1 rfl⟩
 | _=>exact p1.elim
end
inductive Fl where
 | nx (e:Ev) | rt (d:D) | bk (e:Ev) | ct (e:Ev)
abbrev LC:=List Cell
abbrev yD:=Ev→List Cell→R D
abbrev dF:=Ev→List Cell→R Fl
abbrev dB:=Ev→List Cell→R Bool
abbrev dS:=Ev→List Cell→R (List D)
inductive FV where
 | nx (σ:St) | rt (v:V) | bk (σ:St) | ct (σ:St)
def RelF (K:PySem.W.Frag) (ρ:List Addr) (H:Hp):Fl→FV→Prop
 | .nx e,f=>∃ σ,f=.nx σ∧REnv K ρ H e σ
 | .rt d,f=>∃ v,f=.rt v∧Rel K ρ H d v
 | .bk e,f=>∃ σ,f=.bk σ∧REnv K ρ H e σ
 | .ct e,f=>∃ σ,f=.ct σ∧REnv K ρ H e σ
def En (Z:Ends):FV→Hp→Prop
 | .nx σ,H=>Z.nx σ H
 | .rt v,H=>Z.rt v H
 | .bk σ,H=>Z.bk σ H
 | .ct σ,H=>Z.ct σ H
def tSD (K:PySem.W.Frag) (d:dF):TS:=fun Z σ H=>tD K (RelF K) d σ H (En Z)
abbrev PSd (X:Cx) (st:Stmt) (d:dF):Prop:=PS X st (tSD X.K d)
abbrev PSsd (X:Cx) (st:List Stmt) (d:dF):Prop:=PSs X st (tSD X.K d)
def qb5:dF:=fun e c=>.ok (.nx e) c
def sSeq (a b:dF):dF:=fun e c=>(a e c).bind fun f c=>match f with
 | .nx e=>b e c
 | f=>.ok f c
def sRet (a:yD):dF:=fun e c=>(a e c).bind fun x c=>.ok (.rt x) c
def qc9 (a:yD):dF:=fun e c=>(a e c).bind fun _ c=>.ok (.nx e) c
def sIf (t:dB) (a b:dF):dF:=fun e c=>(t e c).bind fun x c=>if x=true then a e c else b e c
def sSet (i:Nat) (a:yD):dF:=fun e c=>(a e c).bind fun x c=>.ok (.nx (e.set i (some x))) c
def sBad:dF:=fun _ _=>.bad
def sBreak:dF:=fun e c=>.ok (.bk e) c
def sCont:dF:=fun e c=>.ok (.ct e) c
section
variable {X:Cx} {st:Stmt} {rest:List Stmt} {t u:dF} {e:Expr} {da:yD} {pos:Pos}
theorem qbP:PSsd X [] qb5:=pss_nil.imp fun Z σ H h=>by
 obtain ⟨ρ,e,c,W,V,p⟩:=h
 exact p.here W ⟨σ,rfl,V⟩
theorem qa6 (h1:PSd X st t) (h2:PSsd X rest u):PSsd X (st :: rest) (sSeq t u):=(pss_cons h1 h2).imp fun Z σ H h=>by
 obtain ⟨ρ,e,c,W,V,p⟩:=h
 refine ⟨ρ,e,c,W,V,post.bind p fun f c1 ρ1 H1 b _ W1 X1 r1 p1=>?_⟩
 cases f with
 | nx e1=>obtain ⟨σ1,rfl,V1⟩:=r1; exact ⟨ρ1,e1,c1,W1,V1,p1⟩
 | rt d=>obtain ⟨v,rfl,V1⟩:=r1; exact post.here (Q:=En Z) (show post X.K (RelF X.K) (.ok (Fl.rt d) c1) ρ1 H1 (En Z) from p1) W1 ⟨_,rfl,V1⟩
 | bk e1=>obtain ⟨σ1,rfl,V1⟩:=r1; exact post.here (Q:=En Z) (show post X.K (RelF X.K) (.ok (Fl.bk e1) c1) ρ1 H1 (En Z) from p1) W1 ⟨_,rfl,V1⟩
 | ct e1=>obtain ⟨σ1,rfl,V1⟩:=r1; exact post.here (Q:=En Z) (show post X.K (RelF X.K) (.ok (Fl.ct e1) c1) ρ1 H1 (En Z) from p1) W1 ⟨_,rfl,V1⟩
theorem qaa (h1:PSd X st t):PSsd X [st] t:=pss_one h1
theorem qe9:PSd X st sBad:=fun _ _ _ _ _ _ h=>by
 obtain ⟨ρ,e,c,W,V,p⟩:=h
 exact p.elim
theorem qal (he:PEd X e da):PSd X (.Return (some e) pos) (sRet da):=(ps_ret he).imp fun Z σ H h=>by
 obtain ⟨ρ,e,c,W,V,p⟩:=h
 refine ⟨ρ,e,c,W,V,post.bind p fun x c1 ρ1 H1 v _ W1 X1 r1 p1=>p1.here W1 ⟨v,rfl,r1⟩⟩
theorem qcy (he:PEd X e da) (hs:swapsWith e none pos.line X.env=pure false:=by rfl):PSd X (.Expr e pos) (qc9 da):=(ps_expr he hs).imp fun Z σ H h=>by
 obtain ⟨ρ,e,c,W,V,p⟩:=h
 refine ⟨ρ,e,c,W,V,post.bind p fun x c1 ρ1 H1 v _ W1 X1 r1 p1=>p1.here W1 ⟨σ,rfl,V.mono W X1⟩⟩
theorem qd2 {c':Expr} {a b:List Stmt} {tc:dB} (hc:PTd X c' tc) (ha:PSsd X a t) (hb:PSsd X b u):PSd X (.If c' a b pos) (sIf tc t u):=(ps_if hc ha hb).imp fun Z σ H h=>by
 obtain ⟨ρ,e,c,W,V,p⟩:=h
 refine ⟨ρ,e,c,W,V,post.bind p fun x c1 ρ1 H1 v _ W1 X1 r1 p1=>?_⟩
 cases r1
 cases x with
 | true=>exact iteT ⟨ρ1,e,c1,W1,V.mono W X1,p1⟩
 | false=>exact iteF ⟨ρ1,e,c1,W1,V.mono W X1,p1⟩
theorem qak {i:Nat} {x:Str} {pos':Pos} (he:PEd X e da) (hN:X.N.Nodup:=by decide +kernel) (hi:X.N[i]? = some x:=by rfl) (hx:Loc X.env.scope x:=by first | exact Or.inl rfl | exact Or.inr rfl) (hs:swapsWith e (some (.Name x pos')) pos.line X.env=pure false:=by rfl)
  (hf:X.fn x=true∨X.env.scope.names.lookup x=some .local:=by first | exact .inl rfl | exact .inr rfl):PSd X (.Assign [.Name x pos'] e pos) (sSet i da):=(ps_set hN hi hx he hs).imp fun Z σ H h=>by
 obtain ⟨ρ,e,c,W,V,p⟩:=h
 refine ⟨ρ,e,c,W,V,post.bind p fun x c1 ρ1 H1 v _ W1 X1 r1 p1=>p1.here W1 ⟨_,rfl,(V.mono W X1).set r1 i⟩⟩
end
abbrev Gd:=D→Ev→LC→R Ev
def tGD (K:PySem.W.Frag) (g:Gd):TG:=fun v σ H Q=>∃ ρ x e c,Wd K ρ H c∧REnv K ρ H e σ∧Rel K ρ H x v∧post K (fun ρ H e σ=>REnv K ρ H e σ) (g x e c) ρ H Q
def tGsD (K:PySem.W.Frag) (g:List D→Ev→LC→R Ev):TGs:=fun vs σ H Q=>∃ ρ xs e c,Wd K ρ H c∧REnv K ρ H e σ∧Rels K ρ H xs vs∧post K (fun ρ H e σ=>REnv K ρ H e σ) (g xs e c) ρ H Q
abbrev PGd (X:Cx) (e:Expr) (g:Gd):Prop:=PG X e (tGD X.K g)
abbrev PGsd (X:Cx) (es:List Expr) (g:List D→Ev→LC→R Ev):Prop:=PGs X es (tGsD X.K g)
def qa5 (i:Nat):Gd:=fun x e c=>.ok (e.set i (some x)) c
def qfm:List D→Ev→LC→R Ev:=fun xs e c=>match xs with
 | []=>.ok e c
 | _=>.bad
def qc4 (g:Gd) (r:List D→Ev→LC→R Ev):List D→Ev→LC→R Ev:=fun xs e c=>match xs with
 | x :: xs=>(g x e c).bind fun e c=>r xs e c
 | _=>.bad
def qeR (n:Nat) (g:List D→Ev→LC→R Ev):Gd:=fun x e c=>match x with
 | .tup l=>if l.length=n then g l e c else .bad
 | _=>.bad
theorem PG.imp {X:Cx} {e:Expr} {t t':TG} (h:PG X e t) (i:∀ v σ H Q,t' v σ H Q→t v σ H Q):PG X e t':=fun pins s σ H x u Q I r q=>h pins s σ H x u Q I r (i _ _ _ _ q)
theorem PGs.imp {X:Cx} {es:List Expr} {t t':TGs} (h:PGs X es t) (i:∀ v σ H Q,t' v σ H Q→t v σ H Q):PGs X es t':=fun pins s σ H x u Q I r q=>h pins s σ H x u Q I r (i _ _ _ _ q)
section
variable {X:Cx} {pos:Pos}
theorem qai {i:Nat} {x:Str} (hN:X.N.Nodup:=by decide +kernel) (hi:X.N[i]? = some x:=by rfl) (hx:Loc X.env.scope x:=by first | exact Or.inl rfl | exact Or.inr rfl) (hf:X.fn x=true∨X.env.scope.names.lookup x=some .local:=by first | exact .inl rfl | exact .inr rfl):PGd X (.Name x pos) (qa5 i) :=
 (pg_name hN hi hx hf).imp fun v σ H Q h=>by
  obtain ⟨ρ,x,e,c,W,V,r,p⟩:=h
  exact p.here W (V.set r i)
theorem qgC:PGsd X [] qfm:=pgs_nil.imp fun v σ H Q h=>by
 obtain ⟨ρ,xs,e,c,W,V,r,p⟩:=h
 cases xs with
 | nil=>exact ⟨r,p.here W V⟩
 | cons x xs=>exact p.elim
theorem qdb {e:Expr} {es:List Expr} {g:Gd} {u:List D→Ev→LC→R Ev} (h1:PGd X e g) (h2:PGsd X es u) (hs:(assignEach (e :: es) X.env).map (·.2)=assign e X.env :: (assignEach es X.env).map (·.2):=by rfl):PGsd X (e :: es) (qc4 g u) :=
 (pgs_cons h1 h2 hs).imp fun v σ H Q h=>by
  obtain ⟨ρ,xs,e,c,W,V,r,p⟩:=h
  cases xs with
  | nil=>exact p.elim
  | cons x xs =>
   obtain ⟨y,ys,rfl,rx,rs⟩:=r
   exact ⟨y,ys,rfl,ρ,x,e,c,W,V,rx,post.bind p fun e1 c1 ρ1 H1 σ1 _ W1 X1 V1 p1=>⟨ρ1,xs,e1,c1,W1,V1,Rels.mono W X1 _ _ rs,p1⟩⟩
theorem gd_tup {es:List Expr} {k:Nat} {g:List D→Ev→LC→R Ev} {n:Nat} (h:PGsd X es g) (hc:X.calm=true:=by rfl) (hn:(assignEach es X.env).length=n:=by rfl) (hst:(assignEach es X.env).findIdx? (·.1)=none:=by rfl):PGd X (.Tuple es k pos) (qeR n g) :=
 (pg_tup hc h hn hst).imp fun v σ H Q h=>by
  obtain ⟨ρ,x,e,c,W,V,r,p⟩:=h
  cases x with
  | tup l =>
   obtain ⟨a,xs,rfl,s,rs⟩:=r
   unfold qeR at p
   dsimp only at p
   split at p
   ·rename_i hl
    exact ⟨a,xs,rfl,SqT.of s,rs.length.trans hl,ρ,l,e,c,W,V,rs,p⟩
   ·exact p.elim
  | _=>exact p.elim
def sAsg (a:yD) (g:Gd):dF:=fun e c=>(a e c).bind fun x c=>(g x e c).bind fun e c=>.ok (.nx e) c
theorem sd_asg {tg e:Expr} {da:yD} {g:Gd} (he:PEd X e da) (hg:PGd X tg g) (hs:swapsWithSole [tg] e pos.line X.env=pure false:=by rfl) (hw:swappedStores [tg] e X.env=pure none:=by rfl)
  (h1:(assignEach [tg] X.env).map (·.2)=[assign tg X.env]:=by rfl):PSd X (.Assign [tg] e pos) (sAsg da g):=(ps_asg he hg hs hw h1).imp fun Z σ H h=>by
 obtain ⟨ρ,e,c,W,V,p⟩:=h
 refine ⟨ρ,e,c,W,V,post.bind p fun x c1 ρ1 H1 v _ W1 X1 r1 p1=>⟨ρ1,x,e,c1,W1,V.mono W X1,r1,post.bind p1 fun e2 c2 ρ2 H2 σ2 _ W2 X2 V2 p2=>p2.here W2 ⟨σ2,rfl,V2⟩⟩⟩
def setD:D→D→D→LC→R Unit:=fun o i v c=>match o,i with
 | .ref k,.int i=>match c[k]? with
  | some (.lst l)=>match ixN l.length i with
   | some j=>if qbT v=true then .ok () (c.set k (.lst (l.set j v))) else .bad
   | none=>.bad
  | none=>.bad
 | _,_=>.bad
def qgD (o i:yD):Gd:=fun x e c=>(o e c).bind fun o c=>(i e c).bind fun i c=>(setD o i x c).bind fun _ c=>.ok e c
theorem gd_sub {o i:Expr} {dO di:yD} (ho:PEd X o dO) (hi:PEd X i di)
  (ha:∀ v,assign (.Subscript o i pos) X.env v=(do
   let ov ← holding [v] (eval o X.env)
   let iv ← holding [v,ov] (eval i X.env)
   standAt pos
   holding [v,ov,iv] (setItem ov iv v)
   release [v,ov,iv] []):=by intro _; rfl):PGd X (.Subscript o i pos) (qgD dO di):=(pg_sub ho hi set_list ha).imp fun v σ H Q h=>by
 obtain ⟨ρ,x,e,c,W,V,rx,p⟩:=h
 refine ⟨ρ,e,c,W,V,post.bind p fun o c1 ρ1 H1 ov _ W1 X1 r1 p1=>⟨ρ1,e,c1,W1,V.mono W X1,post.bind p1 fun i c2 ρ2 H2 iv _ W2 X2 r2 p2=>?_⟩⟩
 have V2:=(V.mono W X1).mono W1 X2
 have rx2:=Rel.mono W (X1.trans X2) _ _ rx
 have ro:=Rel.mono W1 X2 _ _ r1
 unfold setD at p2
 split at p2
 ·rename_i k i _ _
  split at p2
  ·rename_i l hl
   split at p2
   ·rename_i j hj
    split at p2
    ·rename_i hv
     obtain ⟨a,rfl,ha⟩:=ro
     cases r2
     obtain ⟨nr,ys,hy,rl⟩:=W2.cel k a _ ha hl
     refine ⟨a,ys,i,j,rfl,rfl,hy,by rw [rl.length]; exact hj,?_⟩
     exact p2 ρ2 _ σ (W2.write ha (qfU nr hv) (rl.set j rx2)) (Ext.write ha) (V2.mono W2 (Ext.write ha))
    ·exact p2.elim
   ·exact p2.elim
  ·exact p2.elim
 ·exact p2.elim
end
end L2
namespace L2
open PySem PySem.Spec PyProof.Rows
structure Src where
 items:List D
 stays:LC→Prop
def JS (K:PySem.W.Frag) (ρ:List Addr) (H:Hp) (s:Src) (J:It):Prop :=
 ∀ ρ' H' c',Wd K ρ' H' c'→Ext ρ H ρ' H'→s.stays c'→∀ i:Nat,
  (∀ d,s.items[i]? = some d→J.go i H'∧∀ x H2,J.yld i H' x H2→Wd K ρ' H2 c'∧Ext ρ' H' ρ' H2∧Rel K ρ' H2 d x)∧(i=s.items.length→J.stop i H')
def tID (K:PySem.W.Frag) (d:Ev→LC→R Src):TI:=tD K (JS K) d
abbrev PId (X:Cx) (tg iter:Expr) (d:Ev→LC→R Src):Prop:=PI X tg iter (tID X.K d)
theorem PI.imp {X:Cx} {tg iter:Expr} {t t':TI} (h:PI X tg iter t) (i:∀ σ H Q,t' σ H Q→t σ H Q):PI X tg iter t':=fun pins s σ H Q I q=>h pins s σ H Q I (i _ _ _ q)
def dSeq (a:yD):Ev→LC→R Src:=fun e c=>(a e c).bind fun x c=>match x with
 | .lst l=>.ok ⟨l,fun _=>True⟩ c
 | .scr l=>.ok ⟨l.map D.int,fun _=>True⟩ c
 | .ref k=>match c[k]? with
  | some (.lst l)=>.ok ⟨l,fun c=>c[k]? = some (.lst l)⟩ c
  | none=>.bad
 | _=>.bad
def qem (a:yD):Ev→LC→R Src:=fun e c=>(a e c).bind fun x c=>match x with
 | .tup l=>.ok ⟨l,fun _=>True⟩ c
 | _=>.bad
def rngD (lo hi:Int):List D:=(List.range (hi - lo).toNat).map fun (i:Nat)=>D.int (lo + (i:Int))
def qaD (a:dS):Ev→LC→R Src:=fun e c=>(a e c).bind fun xs c=>match xs with
 | [.int j]=>if -(2 ^ 62)≤j∧j < 2 ^ 62 then .ok ⟨rngD 0 j,fun _=>True⟩ c else .bad
 | _=>.bad
def qfs (a:dS):Ev→LC→R Src:=fun e c=>(a e c).bind fun xs c=>match xs with
 | [.int i,.int j]=>if -(2 ^ 62)≤i∧i < 2 ^ 62∧-(2 ^ 62)≤j∧j < 2 ^ 62 then .ok ⟨rngD i j,fun _=>True⟩ c else .bad
 | _=>.bad
def dZip (a:dS):Ev→LC→R Src:=fun e c=>(a e c).bind fun xs c=>match xs with
 | [.tup l,.tup m]=>.ok ⟨List.zipWith (fun x y=>.tup [x,y]) l m,fun _=>True⟩ c
 | _=>.bad
def dEnum (a:dS):Ev→LC→R Src:=fun e c=>(a e c).bind fun xs c=>match xs with
 | [.tup l]=>.ok ⟨l.mapIdx fun i x=>.tup [.int i,x],fun _=>True⟩ c
 | _=>.bad
section
variable {X:Cx} {tg:Expr} {K:PySem.W.Frag} {ρ:List Addr} {H:Hp}
theorem js_list {l:List D} {a:Addr} {st:LC→Prop} (h:∀ ρ' H' c',Wd K ρ' H' c'→Ext ρ H ρ' H'→st c'→∃ xs,SqL K H' a xs∧Rels K ρ' H' l xs):JS K ρ H ⟨l,st⟩ (Itl K a):=by
 intro ρ' H' c' W E s i
 obtain ⟨xs,q,r⟩:=h ρ' H' c' W E s
 refine ⟨fun d hd=>?_,fun e=>⟨xs,q,by rw [r.length]; exact Nat.le_of_eq e.symm⟩⟩
 obtain ⟨x,hx,rx⟩:=r.get hd
 refine ⟨⟨xs,x,q,hx⟩,fun y H2 hy=>?_⟩
 obtain ⟨rfl,hy⟩:=hy
 have:=hy xs q
 rw [hx] at this; cases this
 exact ⟨W,Ext.refl,rx⟩
theorem js_tup {l:List D} {a:Addr} {st:LC→Prop} (h:∀ ρ' H' c',Wd K ρ' H' c'→Ext ρ H ρ' H'→st c'→∃ xs,SqT K H' a xs∧Rels K ρ' H' l xs):JS K ρ H ⟨l,st⟩ (Itt K a):=by
 intro ρ' H' c' W E s i
 obtain ⟨xs,q,r⟩:=h ρ' H' c' W E s
 refine ⟨fun d hd=>?_,fun e=>⟨xs,q,by rw [r.length]; exact Nat.le_of_eq e.symm⟩⟩
 obtain ⟨x,hx,rx⟩:=r.get hd
 refine ⟨⟨xs,x,q,hx⟩,fun y H2 hy=>?_⟩
 obtain ⟨rfl,hy⟩:=hy
 have:=hy xs q
 rw [hx] at this; cases this
 exact ⟨W,Ext.refl,rx⟩
theorem rng_get {lo hi:Int} {i:Nat} {d:D} (h:(rngD lo hi)[i]? = some d):i < (hi - lo).toNat∧d=.int (lo + i):=by
 unfold rngD at h
 rw [List.getElem?_map] at h
 cases q:(List.range (hi - lo).toNat)[i]? with
 | none=>rw [q] at h; cases h
 | some j =>
  rw [q] at h
  have h1:=(List.getElem?_eq_some_iff.mp q)
  obtain ⟨h2,h3⟩:=h1
  rw [List.getElem_range] at h3
  subst h3
  cases h
  exact ⟨by simpa using h2,rfl⟩
theorem js_rng {lo hi:Int} {st:LC→Prop}:JS K ρ H ⟨rngD lo hi,st⟩ (Itr lo (hi - lo).toNat):=by
 intro ρ' H' c' W E s i
 refine ⟨fun d hd=>?_,fun e=>?_⟩
 ·obtain ⟨h1,rfl⟩:=rng_get hd
  refine ⟨h1,fun x H2 hy=>?_⟩
  obtain ⟨rfl,rfl⟩:=hy
  exact ⟨W,Ext.refl,rfl⟩
 ·have:(rngD lo hi).length=(hi - lo).toNat:=by simp [rngD]
  show (hi - lo).toNat≤i
  rw [e]
  exact Nat.le_of_eq this.symm
theorem qfl {l:Expr} {dl:yD} (hl:PEd X l dl):PId X tg l (dSeq dl):=(pi_list hl).imp fun σ H Q h=>by
 obtain ⟨ρ,e,c,W,V,p⟩:=h
 refine ⟨ρ,e,c,W,V,post.bind p fun x c1 ρ1 H1 v _ W1 X1 r1 p1=>?_⟩
 cases x with
 | lst l =>
  obtain ⟨a,xs,rfl,s,rs⟩:=r1
  exact ⟨a,rfl,⟨xs,SqL.of s.1⟩,p1.here W1 (js_list fun ρ' H' c' W' E _=>⟨xs,SqL.of (qgt E s).1,Rels.mono W1 E _ _ rs⟩)⟩
 | scr l =>
  obtain ⟨a,rfl,s⟩:=r1
  exact ⟨a,rfl,⟨_,s.sql⟩,p1.here W1 (js_list fun ρ' H' c' W' E _=>⟨_,(sqP_mono E s).sql,Rels.ints⟩)⟩
 | ref k =>
  obtain ⟨a,rfl,ha⟩:=r1
  dsimp only at p1
  split at p1
  ·rename_i l hl
   obtain ⟨_,xs,hx,rs⟩:=W1.cel k a _ ha hl
   refine ⟨a,rfl,⟨xs,SqL.of hx⟩,p1.here W1 (js_list fun ρ' H' c' W' E st=>?_)⟩
   obtain ⟨_,ys,hy,rs'⟩:=W'.cel k a _ (E.pre k a ha) st
   exact ⟨ys,SqL.of hy,rs'⟩
  ·exact p1.elim
 | _=>exact p1.elim
theorem id_tup {l:Expr} {dl:yD} (hl:PEd X l dl):PId X tg l (qem dl):=(pi_tup hl).imp fun σ H Q h=>by
 obtain ⟨ρ,e,c,W,V,p⟩:=h
 refine ⟨ρ,e,c,W,V,post.bind p fun x c1 ρ1 H1 v _ W1 X1 r1 p1=>?_⟩
 cases x with
 | tup l =>
  obtain ⟨a,xs,rfl,s,rs⟩:=r1
  exact ⟨a,rfl,⟨xs,SqT.of s⟩,p1.here W1 (js_tup fun ρ' H' c' W' E _=>⟨xs,SqT.of (qeT W1 E s),Rels.mono W1 E _ _ rs⟩)⟩
 | _=>exact p1.elim
theorem qaT {a:Expr} {da:dS} {p pos:Pos} (ha:PAd X [a] da) (hm:X.mg "range"=none) (hg:Gl X "range":=by rfl) (hs:starEach [a] X.env=[(false,eval a X.env)]:=by exact star1 rfl):PId X tg (.Call (.Name "range" p) [a] [] pos) (qaD da) :=
 (pi_range1 hg hm ha hs).imp fun σ H Q h=>by
  obtain ⟨ρ,e,c,W,V,p⟩:=h
  refine ⟨ρ,e,c,W,V,post.bind p fun x c1 ρ1 H1 v _ W1 X1 r1 p1=>?_⟩
  split at p1
  ·rename_i j _
   split at p1
   ·rename_i hj
    obtain ⟨y,ys,rfl,ry,rs⟩:=r1
    cases ry; cases rs
    refine ⟨j,rfl,hj.1,hj.2,p1.here W1 ?_⟩
    have:=js_rng (K:=X.K) (ρ:=ρ1) (H:=H1) (lo:=0) (hi:=j) (st:=fun _=>True)
    rw [Int.sub_zero] at this
    exact this
   ·exact p1.elim
  ·exact p1.elim
theorem id_rng2 {a b:Expr} {da:dS} {p pos:Pos} (ha:PAd X [a,b] da) (hm:X.mg "range"=none) (hg:Gl X "range":=by rfl) (hs:starEach [a,b] X.env=[(false,eval a X.env),(false,eval b X.env)]:=by exact star2 rfl rfl) (hs2:starEach [b] X.env=[(false,eval b X.env)]:=by exact star1 rfl):PId X tg (.Call (.Name "range" p) [a,b] [] pos) (qfs da) :=
 (pi_range2 hg hm ha hs hs2).imp fun σ H Q h=>by
  obtain ⟨ρ,e,c,W,V,p⟩:=h
  refine ⟨ρ,e,c,W,V,post.bind p fun x c1 ρ1 H1 v _ W1 X1 r1 p1=>?_⟩
  split at p1
  ·rename_i i j _
   split at p1
   ·rename_i hj
    obtain ⟨y,ys,rfl,ry,z,zs,rfl,rz,rs⟩:=r1
    cases ry; cases rz; cases rs
    exact ⟨i,j,rfl,hj,p1.here W1 js_rng⟩
   ·exact p1.elim
  ·exact p1.elim
theorem js_zip {l m:List D} {a b:Addr} {st:LC→Prop} (h:∀ ρ' H' c',Wd K ρ' H' c'→Ext ρ H ρ' H'→st c'→∃ xs ys,SqT K H' a xs∧SqT K H' b ys∧Rels K ρ' H' l xs∧Rels K ρ' H' m ys):JS K ρ H ⟨List.zipWith (fun x y=>.tup [x,y]) l m,st⟩ (Itz (SqT K) a b):=by
 intro ρ' H' c' W E s i
 obtain ⟨xs,ys,q1,q2,r1,r2⟩:=h ρ' H' c' W E s
 refine ⟨fun d hd=>?_,fun e=>⟨xs,ys,q1,q2,?_⟩⟩
 ·have hd:(List.zipWith (fun x y=>D.tup [x,y]) l m)[i]? = some d:=hd
  rw [List.getElem?_zipWith] at hd
  cases e1:l[i]? with
  | none=>rw [e1] at hd; cases hd
  | some x =>
   cases e2:m[i]? with
   | none=>rw [e1,e2] at hd; cases hd
   | some y =>
    rw [e1,e2] at hd
    cases hd
    obtain ⟨v,hv,rv⟩:=r1.get e1
    obtain ⟨u,hu,ru⟩:=r2.get e2
    refine ⟨⟨xs,ys,v,u,q1,q2,hv,hu⟩,fun z H2 hz=>?_⟩
    obtain ⟨t,v',u',rfl,ht,rfl,hz⟩:=hz
    obtain ⟨z1,z2⟩:=hz xs ys q1 q2
    rw [hv] at z1; rw [hu] at z2
    cases z1; cases z2
    exact ⟨W.fresh ht,Ext.fresh W ht,t,[v,u],rfl,qbu,v,[u],rfl,Rel.mono W (Ext.fresh W ht) _ _ rv,u,[],rfl,Rel.mono W (Ext.fresh W ht) _ _ ru,rfl⟩
 ·have e:i=(List.zipWith (fun x y=>D.tup [x,y]) l m).length:=e
  rw [List.length_zipWith] at e
  rw [r1.length,r2.length]
  omega
open Classical in
def forD (st:LC→Prop) (g:Gd) (b:dF):List D→dF
 | [],e,c=>if st c then .ok (.nx e) c else .bad
 | x :: xs,e,c=>if st c then (g x e c).bind fun e c=>(b e c).bind fun f c=>match f with
   | .nx e=>forD st g b xs e c
   | .ct e=>forD st g b xs e c
   | .bk e=>.ok (.nx e) c
   | .rt d=>.ok (.rt d) c
  else .bad
def sFor (s:Ev→LC→R Src) (g:Gd) (b:dF):dF:=fun e c=>(s e c).bind fun s c=>forD s.stays g b s.items e c
theorem qbS {iter:Expr} {body:List Stmt} {ds:Ev→LC→R Src} {g:Gd} {db:dF} {pos:Pos} (hi:PId X tg iter ds) (hg:PGd X tg g) (hb:PSsd X body db) (hp:PassesOwn (model X.prog X.w) X.A X.env X.xe:=by exact PassesOwn.never) (hc:X.calm=true:=by rfl)
  (hs:∀ x,foldedSetIterable iter X.env x=pure x:=by intro _; rfl):PSd X (.For tg iter body [] pos) (sFor ds g db):=(ps_for hp hc hi hg hb hs).imp fun Z σ H h=>by
 obtain ⟨ρ,e,c,W,V,p⟩:=h
 refine ⟨ρ,e,c,W,V,post.bind p fun s c1 ρ1 H1 J _ W1 X1 j1 p1=>?_⟩
 refine ⟨fun i m σ H=>∃ ρ e c,Wd X.K ρ H c∧Ext ρ1 H1 ρ H∧REnv X.K ρ H e σ∧i≤s.items.length∧m=s.items.length - i∧post X.K (RelF X.K) (forD s.stays g db (s.items.drop i) e c) ρ H (En Z),
  ⟨_,ρ1,e,c1,W1,Ext.refl,V.mono W X1,Nat.zero_le _,rfl,p1⟩,?_⟩
 rintro i m σ2 H2 ⟨ρ2,e2,c2,W2,X2,V2,hi2,rfl,p2⟩
 by_cases hl:i < s.items.length
 ·rw [List.drop_eq_getElem_cons hl] at p2
  unfold forD at p2
  split at p2
  ·rename_i hst
   obtain ⟨go,yl⟩:=(j1 ρ2 H2 c2 W2 X2 hst i).1 _ (List.getElem?_eq_getElem hl)
   refine .inr ⟨go,fun σ' H'=>∃ ρ e c,Wd X.K ρ H' c∧Ext ρ1 H1 ρ H'∧REnv X.K ρ H' e σ'∧i + 1≤s.items.length∧post X.K (RelF X.K) (forD s.stays g db (s.items.drop (i + 1)) e c) ρ H' (En Z),?_,fun x H3 hy=>?_⟩
   ·rintro σ' H' ⟨ρ,e,c,w,x,v,l,q⟩
    exact ⟨s.items.length - (i + 1),by omega,ρ,e,c,w,x,v,l,rfl,q⟩
   ·obtain ⟨W3,X3,r3⟩:=yl x H3 hy
    refine ⟨ρ2,_,e2,c2,W3,V2.mono W2 X3,r3,post.bind (post.ext p2 X3) fun e4 c4 ρ4 H4 σ4 _ W4 X4 V4 p4=>?_⟩
    refine ⟨ρ4,e4,c4,W4,V4,post.bind p4 fun f c5 ρ5 H5 b _ W5 X5 r5 p5=>?_⟩
    have X15:=((X2.trans X3).trans X4).trans X5
    cases f with
    | nx e1=>obtain ⟨σ1,rfl,V1⟩:=r5; exact ⟨ρ5,e1,c5,W5,X15,V1,hl,p5⟩
    | ct e1=>obtain ⟨σ1,rfl,V1⟩:=r5; exact ⟨ρ5,e1,c5,W5,X15,V1,hl,p5⟩
    | bk e1=>obtain ⟨σ1,rfl,V1⟩:=r5; exact post.here (Q:=En Z) (show post X.K (RelF X.K) (.ok (Fl.nx e1) c5) ρ5 H5 (En Z) from p5) W5 ⟨_,rfl,V1⟩
    | rt d=>obtain ⟨v,rfl,V1⟩:=r5; exact post.here (Q:=En Z) (show post X.K (RelF X.K) (.ok (Fl.rt d) c5) ρ5 H5 (En Z) from p5) W5 ⟨_,rfl,V1⟩
  ·exact p2.elim
 ·obtain rfl:i=s.items.length:=by omega
  rw [List.drop_eq_nil_of_le (Nat.le_refl _)] at p2
  unfold forD at p2
  split at p2
  ·rename_i hst
   exact .inl ⟨(j1 ρ2 H2 c2 W2 X2 hst _).2 rfl,post.here (Q:=En Z) p2 W2 ⟨σ2,rfl,V2⟩⟩
  ·exact p2.elim
def qcA (t:dB) (b:dF):Nat→dF
 | 0,_,_=>.bad
 | n + 1,e,c=>(t e c).bind fun k c=>if k=true then (b e c).bind fun f c=>match f with
   | .nx e=>qcA t b n e c
   | .ct e=>qcA t b n e c
   | .bk e=>.ok (.nx e) c
   | .rt d=>.ok (.rt d) c
  else .ok (.nx e) c
theorem sd_while {n:Nat} {c':Expr} {body:List Stmt} {dt:dB} {db:dF} {pos:Pos} (ht:PTd X c' dt) (hb:PSsd X body db) (hp:PassesOwn (model X.prog X.w) X.A X.env X.xe:=by exact PassesOwn.never):PSd X (.While c' body [] pos) (qcA dt db n):=(ps_while hp ht hb).imp fun Z σ H h=>by
 obtain ⟨ρ,e,c,W,V,p⟩:=h
 refine ⟨fun m σ H=>∃ ρ e c,Wd X.K ρ H c∧REnv X.K ρ H e σ∧post X.K (RelF X.K) (qcA dt db m e c) ρ H (En Z),⟨n,ρ,e,c,W,V,p⟩,?_⟩
 rintro m σ2 H2 ⟨ρ2,e2,c2,W2,V2,p2⟩
 cases m with
 | zero=>exact p2.elim
 | succ m =>
  unfold qcA at p2
  refine ⟨ρ2,e2,c2,W2,V2,post.bind p2 fun k c3 ρ3 H3 b _ W3 X3 r3 p3=>?_⟩
  cases r3
  cases k with
  | true =>
   refine iteT ⟨fun σ H=>∃ ρ e c,Wd X.K ρ H c∧REnv X.K ρ H e σ∧post X.K (RelF X.K) (qcA dt db m e c) ρ H (En Z),fun σ' H' q=>⟨m,Nat.lt_succ_self _,q⟩,?_⟩
   refine ⟨ρ3,e2,c3,W3,V2.mono W2 X3,post.bind p3 fun f c5 ρ5 H5 b _ W5 X5 r5 p5=>?_⟩
   cases f with
   | nx e1=>obtain ⟨σ1,rfl,V1⟩:=r5; exact ⟨ρ5,e1,c5,W5,V1,p5⟩
   | ct e1=>obtain ⟨σ1,rfl,V1⟩:=r5; exact ⟨ρ5,e1,c5,W5,V1,p5⟩
   | bk e1=>obtain ⟨σ1,rfl,V1⟩:=r5; exact post.here (Q:=En Z) (show post X.K (RelF X.K) (.ok (Fl.nx e1) c5) ρ5 H5 (En Z) from p5) W5 ⟨_,rfl,V1⟩
   | rt d=>obtain ⟨v,rfl,V1⟩:=r5; exact post.here (Q:=En Z) (show post X.K (RelF X.K) (.ok (Fl.rt d) c5) ρ5 H5 (En Z) from p5) W5 ⟨_,rfl,V1⟩
  | false=>exact iteF (post.here (Q:=En Z) (show post X.K (RelF X.K) (.ok (Fl.nx e2) c3) ρ3 H3 (En Z) from p3) W3 ⟨_,rfl,V2.mono W2 X3⟩)
end
end L2
namespace L2
open PySem PySem.Spec PyProof.Rows
def qd3 (pick:List (Option Nat)) (e:Ev):Ev:=pick.map fun o=>o.bind fun j=>(e[j]?).bind id
open Classical in
def qb4 (st:LC→Prop) (g:Gd) (t:dB) (el:yD):List D→Ev→List D→LC→R (List D)
 | [],e,acc,c=>if st c then .ok acc c else .bad
 | x :: xs,e,acc,c=>if st c then (g x e c).bind fun e c=>(t e c).bind fun k c=>if k=true then (el e c).bind fun y c=>qb4 st g t el xs e (acc ++ [y]) c else qb4 st g t el xs e acc c else .bad
def qaO (s:Ev→LC→R Src) (pick:List (Option Nat)) (g:Gd) (t:dB) (el:yD):yD:=fun e c=>(s e c).bind fun s c =>
 if s.items.length < sizeLine then (qb4 s.stays g t el s.items (qd3 pick e) [] c).bind fun l c=>.ok (.lst l) c else .bad
def dYes:dB:=fun _ c=>.ok true c
abbrev PIfd (X:Cx) (ifs:List Expr) (t:dB):Prop:=PIfs X ifs (tD X.K (fun _ _ a b=>a=b) t)
section
variable {X:Cx} {N':List Str} {pick:List (Option Nat)} {scope:Scope} {tg elt iter:Expr} {ifs:List Expr} {pos:Pos} {ds:Ev→LC→R Src} {g:Gd} {dt:dB} {de:yD}
theorem qaG:PIfd X [] dYes:=fun pins s σ H Q I h=>by
 obtain ⟨ρ,e,c,W,V,p⟩:=h
 exact pifs_nil pins s σ H Q I (post.here (b:=true) p W rfl)
theorem pifd_one {c':Expr} (h:PTd X c' dt):PIfd X [c'] dt:=pifs_one h
theorem REnv.picked {K:PySem.W.Frag} {ρ:List Addr} {H:Hp} {e:Ev} {σ:St} (V:REnv K ρ H e σ):REnv K ρ H (qd3 pick e) (qgc pick σ):=by
 refine ⟨fun i d h=>?_,by simp [qd3,qgc]⟩
 unfold qd3 at h
 unfold qgc
 rw [List.getElem?_map] at h ⊢
 cases q:pick[i]? with
 | none=>rw [q] at h; cases h
 | some o =>
  rw [q] at h
  cases o with
  | none=>cases h
  | some j =>
   have h':(e[j]?).bind id=some d:=Option.some.inj h
   cases q2:e[j]? with
   | none=>rw [q2] at h'; cases h'
   | some z =>
    rw [q2] at h'
    have h'':z=some d:=h'
    subst h''
    obtain ⟨v,hv,r⟩:=V.get j d q2
    exact ⟨v,by simp [hv],r⟩
theorem compW_of {K:PySem.W.Frag} {ρ1:List Addr} {H1:Hp} {c1:LC} {e:Ev} {σ:St} {s:Src} {J:It} {Q:VK} (W1:Wd K ρ1 H1 c1) (V1:REnv K ρ1 H1 e σ) (j1:JS K ρ1 H1 s J) (hn:s.items.length < sizeLine)
  (p1:post K (Rel K) ((qb4 s.stays g dt de s.items e [] c1).bind fun l c=>.ok (.lst l) c) ρ1 H1 Q):CompW J (tGD K g) (tD K (fun _ _ a b=>a=b) dt) (tD K (Rel K) de) Q σ H1:=by
 refine ⟨fun i m σ ys H=>∃ ρ e acc c,Wd K ρ H c∧Ext ρ1 H1 ρ H∧REnv K ρ H e σ∧Rels K ρ H acc ys∧acc.length≤i∧i≤s.items.length∧m=s.items.length - i∧post K (Rel K) ((qb4 s.stays g dt de (s.items.drop i) e acc c).bind fun l c=>.ok (.lst l) c) ρ H Q,
  ⟨_,ρ1,e,[],c1,W1,Ext.refl,V1,rfl,Nat.le_refl _,Nat.zero_le _,rfl,p1⟩,?_⟩
 rintro i m σ2 ys H2 ⟨ρ2,e2,acc,c2,W2,X2,V2,r2,ha,hi2,rfl,p2⟩
 refine ⟨by rw [r2.length]; omega,?_⟩
 by_cases hl:i < s.items.length
 ·rw [List.drop_eq_getElem_cons hl] at p2
  unfold qb4 at p2
  split at p2
  ·rename_i hst
   obtain ⟨go,yl⟩:=(j1 ρ2 H2 c2 W2 X2 hst i).1 _ (List.getElem?_eq_getElem hl)
   refine .inr ⟨go,fun σ' ys' H'=>∃ ρ e acc c,Wd K ρ H' c∧Ext ρ1 H1 ρ H'∧REnv K ρ H' e σ'∧Rels K ρ H' acc ys'∧acc.length≤i + 1∧i + 1≤s.items.length∧post K (Rel K) ((qb4 s.stays g dt de (s.items.drop (i + 1)) e acc c).bind fun l c=>.ok (.lst l) c) ρ H' Q,?_,fun x H3 hy=>?_⟩
   ·rintro σ' ys' H' ⟨ρ,e,acc,c,w,x,v,r,a,l,q⟩
    exact ⟨s.items.length - (i + 1),by omega,ρ,e,acc,c,w,x,v,r,a,l,rfl,q⟩
   ·obtain ⟨W3,X3,r3⟩:=yl x H3 hy
    have assoc:∀ {α β γ:Type} (r:R α) (f:α→LC→R β) (g:β→LC→R γ),(r.bind f).bind g=r.bind fun a c=>(f a c).bind g:=fun r f g=>by cases r <;> rfl
    rw [assoc] at p2
    refine ⟨ρ2,_,e2,c2,W3,V2.mono W2 X3,r3,post.bind (post.ext p2 X3) fun e4 c4 ρ4 H4 σ4 _ W4 X4 V4 p4=>?_⟩
    rw [assoc] at p4
    refine ⟨ρ4,e4,c4,W4,V4,post.bind p4 fun k c5 ρ5 H5 b _ W5 X5 r5 p5=>?_⟩
    cases r5
    have X15:=((X2.trans X3).trans X4).trans X5
    have r25:=Rels.mono W2 ((X3.trans X4).trans X5) _ _ r2
    cases k with
    | true =>
     refine iteT ?_
     rw [if_pos rfl,assoc] at p5
     refine ⟨ρ5,e4,c5,W5,V4.mono W4 X5,post.bind p5 fun y c6 ρ6 H6 v _ W6 X6 r6 p6=>?_⟩
     refine ⟨ρ6,e4,acc ++ [y],c6,W6,X15.trans X6,(V4.mono W4 X5).mono W5 X6,(Rels.mono W5 X6 _ _ r25).append ⟨v,[],rfl,r6,rfl⟩,by simp; exact ha,hl,p6⟩
    | false =>
     refine iteF ?_
     rw [if_neg Bool.false_ne_true] at p5
     exact ⟨ρ5,e4,acc,c5,W5,X15,V4.mono W4 X5,r25,Nat.le_succ_of_le ha,hl,p5⟩
  ·exact p2.elim
 ·obtain rfl:i=s.items.length:=by omega
  rw [List.drop_eq_nil_of_le (Nat.le_refl _)] at p2
  unfold qb4 at p2
  split at p2
  ·rename_i hst
   exact .inl ⟨(j1 ρ2 H2 c2 W2 X2 hst _).2 rfl,qfg W2 r2 p2⟩
  ·exact p2.elim
theorem comp_T {σ:St} {H:Hp} {Q:VK} {K:PySem.W.Frag} (h:tD K (Rel K) (qaO ds pick g dt de) σ H Q):tComp (tID K ds) pick (tGD K g) (tD K (fun _ _ a b=>a=b) dt) (tD K (Rel K) de) σ H Q:=by
 obtain ⟨ρ,e,c,W,V,p⟩:=h
 refine ⟨ρ,e,c,W,V,post.bind p fun s c1 ρ1 H1 J _ W1 X1 j1 p1=>?_⟩
 split at p1
 ·rename_i hn
  exact compW_of W1 (V.mono W X1).picked j1 hn p1
 ·exact p1.elim
theorem qbh (S:CompScope X N' pick scope) (hit:PId X tg iter ds)
  (hg:∀ cl C s₀ H₀ ex pn,PGd (qbD X N' scope cl C s₀ H₀ ex pn) tg g) (hi:∀ cl C s₀ H₀ ex pn,PIfd (qbD X N' scope cl C s₀ H₀ ex pn) ifs dt) (he:∀ cl C s₀ H₀ ex pn,PEd (qbD X N' scope cl C s₀ H₀ ex pn) elt de)
  (hc:X.calm=true:=by rfl) (hs:∀ x,foldedSetIterable iter X.env x=pure x:=by intro _; rfl) :
  PEd X (.ListComp elt [⟨tg,iter,ifs,0⟩] scope pos) (qaO ds pick g dt de):=(pe_comp S hc hit hg hi he hs).imp fun σ H Q h=>comp_T h
theorem sd_setComp {i:Nat} {y:Str} {py spos:Pos} (S:CompScope X N' pick scope) (hit:PId X tg iter ds)
  (hg:∀ cl C s₀ H₀ ex pn,PGd (qbD X N' scope cl C s₀ H₀ ex pn) tg g) (hi:∀ cl C s₀ H₀ ex pn,PIfd (qbD X N' scope cl C s₀ H₀ ex pn) ifs dt) (he:∀ cl C s₀ H₀ ex pn,PEd (qbD X N' scope cl C s₀ H₀ ex pn) elt de)
  (hsw:swapsWith (.ListComp elt [⟨tg,iter,ifs,0⟩] scope pos) (some (.Name y py)) spos.line X.env=pure true:=by rfl) (hN:X.N.Nodup:=by decide +kernel) (hy:X.N[i]? = some y:=by rfl) (hl:X.env.scope.names.lookup y=some .local:=by rfl)
  (hc:X.calm=true:=by rfl) (hs:∀ x,foldedSetIterable iter X.env x=pure x:=by intro _; rfl) :
  PSd X (.Assign [.Name y py] (.ListComp elt [⟨tg,iter,ifs,0⟩] scope pos) spos) (sSet i (qaO ds pick g dt de)):=(ps_setComp (g:=tGD X.K g) (tt:=tD X.K (fun _ _ a b=>a=b) dt) (te:=tD X.K (Rel X.K) de) hsw hN hy hl S hc hit hg hi he hs).imp fun Z σ H h=>by
 refine comp_T (g:=g) (dt:=dt) (de:=de) ?_
 obtain ⟨ρ,e,c,W,V,p⟩:=h
 refine ⟨ρ,e,c,W,V,post.bind p fun x c1 ρ1 H1 v _ W1 X1 r1 p1=>p1.here W1 ⟨_,rfl,(V.mono W X1).set r1 i⟩⟩
end
def spD (K:PySem.W.Frag) (n:Nat) (m:List D→LC→R D):Sp:=fun vs H Q _=>∃ ρ xs c,Wd K ρ H c∧Rels K ρ H xs vs∧xs.length=n∧post K (Rel K) (m xs c) ρ H Q
def qa7 (n:Nat) (m:List D→LC→R D) (a:dS):yD:=fun e c=>(a e c).bind fun xs c=>if xs.length=n then m xs c else .bad
def qbx (n:Nat) (xs:List D):Ev:=xs.map some ++ List.replicate (n - xs.length) none
def qcG (own:Bool) (n:Nat) (v:D) (c:LC):R D:=match v with
 | .ref k=>match c[k]? with
  | some (.lst l)=>if n≤k then (if own=true then .ok (.ref n) (c.take n ++ [.lst l]) else .ok (.lst l) (c.take n)) else .bad
  | none=>.bad
 | v=>if qbT v=true then .ok v (c.take n) else .bad
def fnD (n:Nat) (own:Bool) (d:dF):List D→LC→R D:=fun xs c=>(d (qbx n xs) c).bind fun f c'=>match f with
 | .rt v=>qcG own c.length v c'
 | .nx _=>qcG own c.length .non c'
 | _=>.bad
section
variable {P:Program} {w:World} {K:PySem.W.Frag} {mg:Str→Option Value} {base:Heap}
theorem qgF {own:Bool} {ρ ρ1:List Addr} {H H1:Hp} {c c1:LC} {v:D} {x:V} {Q:VK} (W:Wd K ρ H c) (W1:Wd K ρ1 H1 c1) (X1:Ext ρ H ρ1 H1) (r:Rel K ρ1 H1 v x) (p:post K (Rel K) (qcG own c.length v c1) ρ H Q):Q x H1:=by
 have hn:=Ext.len W W1 X1
 have Wc:=W1.cut hn
 have Xc:=X1.cut (n:=c.length) (Nat.le_of_eq W.len)
 unfold qcG at p
 split at p
 ·rename_i k
  split at p
  ·rename_i l hl
   split at p
   ·rename_i hk
    obtain ⟨a,rfl,ha⟩:=r
    obtain ⟨nr,xs,hx,rl⟩:=W1.cel k a _ ha hl
    have na:a∉ρ1.take c.length:=by
     intro h
     obtain ⟨j,hj,e⟩:=List.mem_iff_getElem.mp h
     have hj2:j < c.length:=by simp at hj; omega
     rw [List.getElem_take] at e
     have hk1:=List.getElem?_eq_some_iff.mp ha
     have hjl:j < ρ1.length:=by simp at hj; omega
     have:=(List.getElem_inj W1.nd (h₀:=hjl) (h₁:=hk1.1)).mp (e.trans hk1.2.symm)
     omega
    have sub:∀ b,b∈ρ1.take c.length→b∈ρ1:=fun b h=>List.mem_of_mem_take h
    split at p
    ·have lr:(ρ1.take c.length).length=c.length:=by simp [W1.len]; omega
     refine p (ρ1.take c.length ++ [a]) H1 (.ref a) ?_ ?_ ⟨a,rfl,?_⟩
     ·refine ⟨?_,by simp [W1.len],fun j b cl e1 e2=>?_,W1.tab⟩
      ·rw [List.nodup_append]
       refine ⟨Wc.nd,by simp,?_⟩
       intro y hy z hz
       rw [List.mem_singleton] at hz
       subst hz
       exact fun q=>na (q ▸ hy)
      ·by_cases hj:j < c.length
       ·rw [List.getElem?_append_left (by rw [lr]; exact hj)] at e1
        rw [List.getElem?_append_left (by simp; omega)] at e2
        have q:=Wc.cel j b cl e1 e2
        cases cl with
        | lst l' =>
         obtain ⟨nr',ys,hy,r'⟩:=q
         refine ⟨nr',ys,hy,Rels.low (ρ:=ρ1) (fun z hz=>?_) l' ys nr' ?_⟩
         ·rcases List.mem_append.mp hz with hz | hz
          ·exact sub z hz
          ·rw [List.mem_singleton] at hz; subst hz; exact List.mem_of_getElem? ha
         ·have e1':ρ1[j]? = some b:=by rw [List.getElem?_take,if_pos hj] at e1; exact e1
          have e2':c1[j]? = some (.lst l'):=by rw [List.getElem?_take,if_pos hj] at e2; exact e2
          obtain ⟨_,zs,hz,rz⟩:=W1.cel j b _ e1' e2'
          rw [hy] at hz; cases hz
          exact rz
       ·have hj':j=c.length:=by
         have:=(List.getElem?_eq_some_iff.mp e1).1
         rw [List.length_append,lr] at this
         simp at this
         omega
        subst hj'
        rw [List.getElem?_append_right (by rw [lr]; exact Nat.le_refl _),lr,Nat.sub_self] at e1
        rw [List.getElem?_append_right (by simp; omega),show c.length - (List.take c.length c1).length=0 by simp; omega] at e2
        cases e1; cases e2
        refine ⟨nr,xs,hx,Rels.low (ρ:=ρ1) (fun z hz=>?_) l xs nr rl⟩
        rcases List.mem_append.mp hz with hz | hz
        ·exact sub z hz
        ·rw [List.mem_singleton] at hz; subst hz; exact List.mem_of_getElem? ha
     ·refine ⟨fun j b e=>?_,fun b o e z t=>?_⟩
      ·have q:=Xc.pre j b e
       rw [List.getElem?_append_left (List.getElem?_eq_some_iff.mp q).1]; exact q
      ·obtain ⟨h1,h2⟩:=X1.keep b o e z t
       refine ⟨h1,fun q=>h2 ?_⟩
       rcases List.mem_append.mp q with q | q
       ·exact sub b q
       ·rw [List.mem_singleton] at q; subst q; exact List.mem_of_getElem? ha
     ·rw [List.getElem?_append_right (by rw [lr]; exact Nat.le_refl _),lr,Nat.sub_self]; rfl
    ·exact p (ρ1.take c.length) H1 (.ref a) Wc Xc ⟨a,xs,rfl,⟨hx,na⟩,Rels.low sub l xs nr rl⟩
   ·exact p.elim
  ·exact p.elim
 ·split at p
  ·rename_i hv
   exact p _ H1 x Wc Xc (Rel.low (fun b h=>List.mem_of_mem_take h) _ _ hv r)
  ·exact p.elim
theorem REnv.start {ρ:List Addr} {H:Hp} {xs:List D} {vs:List V} {N:List Str} (r:Rels K ρ H xs vs):REnv K ρ H (qbx N.length xs) (start N vs):=by
 have hl:=r.length
 refine ⟨fun i d h=>?_,by simp [qbx,L2.start,hl]⟩
 unfold qbx at h
 unfold L2.start
 by_cases hi:i < xs.length
 ·rw [List.getElem?_append_left (by simpa using hi),List.getElem?_map] at h
  cases q:xs[i]? with
  | none=>rw [q] at h; cases h
  | some x =>
   rw [q] at h
   cases h
   obtain ⟨v,hv,rv⟩:=r.get q
   exact ⟨v,by rw [List.getElem?_append_left (by simp [hl]; exact hi),List.getElem?_map,hv]; rfl,rv⟩
 ·rw [List.getElem?_append_right (by simpa using Nat.le_of_not_lt hi)] at h
  have:=List.mem_of_getElem? h
  rw [List.mem_replicate] at this
  cases this.2
theorem qbj {x qual:Str} {st:Stmt} {f:Addr} {fd:FuncData} {N ps:List Str} {k n m:Nat} {own:Bool} {d:dF} (F:Fun K x qual st f fd) (S:qag N ps (qa4 st)) (hN:N.length=n) (hm:ps.length=m)
  (hb:∀ (cdv:Value) (A:Around) (outer:List Env) (s:Shared) (H:Hp) (E:XK),Room k (A.deeper (envOfC qual (qa4 st) s.heap.objs.size f cdv))→PSsd (cxOf CX0 P w K mg base N qual (qa4 st) f cdv A outer s H E).nox (qaf st) d) :
  FnOk P w K mg base CX0 (k + 1) f fd ps (spD K m (fnD n own d)):=by
 subst hN; subst hm
 refine F.ok S (fun vs H Q E h=>?_) (fun cdv A outer s H vs Q E hr h=>⟨_,hb cdv A outer s H E hr,?_⟩)
 ·obtain ⟨ρ,xs,c,W,r,hl,p⟩:=h
  exact r.length.trans hl
 ·obtain ⟨ρ,xs,c,W,r,hl,p⟩:=h
  refine ⟨ρ,qbx N.length xs,c,W,REnv.start r,post.bind p fun fl c1 ρ1 H1 b _ W1 X1 r1 p1=>?_⟩
  cases fl with
  | nx e1 =>
   obtain ⟨σ1,rfl,V1⟩:=r1
   exact qgF (v:=.non) (x:=.non) (H1:=H1) W W1 X1 rfl (by
    unfold fnD at p; exact id (α:=post K (Rel K) (qcG own c.length .non c1) ρ H Q) (by
     rename_i he; rw [he] at p; exact p))
  | rt d =>
   obtain ⟨v,rfl,V1⟩:=r1
   exact qgF (v:=d) (x:=v) (H1:=H1) W W1 X1 V1 (by
    unfold fnD at p; rename_i he; rw [he] at p; exact p)
  | bk e1=>exact p1.elim
  | ct e1=>exact p1.elim
end
end L2
namespace L2
open PySem PySem.Spec PyProof.Rows
section
variable {X:Cx}
theorem qat {x:Str} {st:Stmt} {ps:List Str} {f:Addr} {fd:FuncData} {k n:Nat} {m:List D→LC→R D} {e:Expr} {es:List Expr} {da:dS} {p pos:Pos} (D:Def X.K X.mg x st ps f fd) (G:FnOk X.prog X.w X.K X.mg X.base CX0 k f fd ps (spD X.K n m)) (hr:Room k X.A) (ha:PAd X (e :: es) da) (hg:Gl X x:=by rfl)
  (hdb:(x == ("__debug__":Str))=false:=by decide) (he:starEach (e :: es) X.env=(false,eval e X.env) :: starEach es X.env:=by exact qaQ rfl) (hpl:(backTo pos (starEach es X.env)).any (·.1)=false:=by exact qbV rfl) :
  PEd X (.Call (.Name x p) (e :: es) [] pos) (qa7 n m da):=(pe_fn D G hr ha hg hdb he hpl).imp fun σ H Q h=>by
 obtain ⟨ρ,e,c,W,V,q⟩:=h
 refine ⟨ρ,e,c,W,V,post.bind q fun xs c1 ρ1 H1 vs _ W1 X1 r1 p1=>?_⟩
 split at p1
 ·rename_i hl
  exact ⟨ρ1,xs,c1,W1,by rw [List.append_nil]; exact r1,hl,p1⟩
 ·exact p1.elim
theorem qa8 {id:String} {x:Str} {p pos:Pos} {e:Expr} {es:List Expr} {da:dS} {f:List D→LC→R D} (hc:qd1 X (.builtin id) (rN X.K f)) (hm:X.mg x=none) (hv:bootBuiltins x=some (.builtin id)) (ha:PAd X (e :: es) da) (hg:Gl X x:=by rfl) (hn:x≠"__name__":=by decide) (hdb:(x == ("__debug__":Str))=false:=by decide)
  (he:starEach (e :: es) X.env=(false,eval e X.env) :: starEach es X.env:=by exact qaQ rfl) (hpl:(backTo pos (starEach es X.env)).any (·.1)=false:=by exact qbV rfl):PEd X (.Call (.Name x p) (e :: es) [] pos) (dCB f da):=(qgl hc hg hm hv ha hn hdb he hpl).imp fun σ H Q h=>t_cb h
theorem qdC {T:String} {x:Str} {p pos:Pos} {e:Expr} {es:List Expr} {da:dS} {f:List D→LC→R D} (hc:qd1 X (.type T) (rN X.K f)) (hm:X.mg x=none) (hv:bootBuiltins x=some (.type T)) (ha:PAd X (e :: es) da) (hg:Gl X x:=by rfl) (hn:x≠"__name__":=by decide) (hdb:(x == ("__debug__":Str))=false:=by decide)
  (he:starEach (e :: es) X.env=(false,eval e X.env) :: starEach es X.env:=by exact qaQ rfl) (hpl:(backTo pos (starEach es X.env)).any (·.1)=false:=by exact qbV rfl):PEd X (.Call (.Name x p) (e :: es) [] pos) (dCB f da):=(qf5 hc hg hm hv ha hn hdb he hpl).imp fun σ H Q h=>t_cb h
end
def lenD:List D→LC→R D:=fun xs c=>match xs with
 | [x]=>match seqD c x with
  | some l=>.ok (.int l.length) c
  | none=>match x with
   | .str z=>if z.length≤sizeLine then .ok (.int z.length) c else .bad
   | _=>.bad
 | _=>.bad
def tyD:D→Option String
 | .non=>some "NoneType"
 | .bl _=>some "bool"
 | .int _=>some "int"
 | .str _=>some "str"
 | .tup _=>some "tuple"
 | .lst _=>some "list"
 | .ref _=>some "list"
 | _=>none
def isiD:List D→LC→R D:=fun xs c=>match xs with
 | [.dic,.ty T]=>if T∈["bool","int","str","list","tuple","dict"] then .ok (.bl (subT "dict" T)) c else .bad
 | [x,.ty T]=>match tyD x with
  | some n=>if T∈["bool","int","str","list","tuple","dict"] then .ok (.bl (subT n T)) c else .bad
  | none=>.bad
 | _=>.bad
def blsD:List D→Option (List Bool)
 | []=>some []
 | .bl b :: l=>(blsD l).map (b :: ·)
 | _=>none
def qez:List D→Option (List Int)
 | []=>some []
 | .int i :: l=>(qez l).map (i :: ·)
 | _=>none
theorem blsD_map (l:List Bool):blsD (l.map D.bl)=some l:=by
 induction l with
 | nil=>rfl
 | cons a l ih=>simp [blsD,ih]
theorem qek (l:List Int):qez (l.map D.int)=some l:=by
 induction l with
 | nil=>rfl
 | cons a l ih=>simp [qez,ih]
theorem qgI:∀ {l:List D} {bs:List Bool},blsD l=some bs→l=bs.map D.bl
 | [],bs,h=>by cases h; rfl
 | d :: l,bs,h=>by
  cases d with
  | bl b =>
   unfold blsD at h
   cases q:blsD l with
   | none=>rw [q] at h; cases h
   | some r=>rw [q] at h; cases h; rw [qgI q]; rfl
  | _=>cases h
theorem intsD_eq:∀ {l:List D} {bs:List Int},qez l=some bs→l=bs.map D.int
 | [],bs,h=>by cases h; rfl
 | d :: l,bs,h=>by
  cases d with
  | int b =>
   unfold qez at h
   cases q:qez l with
   | none=>rw [q] at h; cases h
   | some r=>rw [q] at h; cases h; rw [intsD_eq q]; rfl
  | _=>cases h
def quantD (f:List Bool→Bool):List D→LC→R D:=fun xs c=>match xs with
 | [.lst l]=>match blsD l with
  | some bs=>.ok (.bl (f bs)) c
  | none=>.bad
 | _=>.bad
def allD:=quantD fun bs=>bs.all id
def anyD:=quantD fun bs=>bs.any id
def max2D:List D→LC→R D:=fun xs c=>match xs with
 | [.int i,.int j]=>.ok (.int (if j > i then j else i)) c
 | _=>.bad
def min2D:List D→LC→R D:=fun xs c=>match xs with
 | [.int i,.int j]=>.ok (.int (if j < i then j else i)) c
 | _=>.bad
def absD:List D→LC→R D:=fun xs c=>match xs with
 | [.int i]=>.ok (.int (if i < 0 then -i else i)) c
 | _=>.bad
def minL:Int→List Int→Int
 | a,[]=>a
 | a,b :: l=>minL (if b < a then b else a) l
def min1D:List D→LC→R D:=fun xs c=>match xs with
 | [.tup l]=>match qez l with
  | some (a :: r)=>.ok (.int (minL a r)) c
  | _=>.bad
 | _=>.bad
def qcu:List D→LC→R D:=fun xs c=>match xs with
 | [x]=>match seqD c x with
  | some l=>.ok (.tup l) c
  | none=>.bad
 | _=>.bad
def listD:List D→LC→R D:=fun xs c=>match xs with
 | [x]=>match seqD c x with
  | some l=>.ok (.lst l) c
  | none=>.bad
 | _=>.bad
section
variable {X:Cx} {K:PySem.W.Frag} {ρ:List Addr} {H:Hp} {c:LC}
theorem qbe:qd1 X (.builtin "len") (rN X.K lenD):=by
 intro pins s σ H vs us Q I rv h
 obtain ⟨ρ,xs,c,W,rx,p⟩:=h
 unfold lenD at p
 split at p
 ·rename_i x
  obtain ⟨v,r,rfl,hx,hr⟩:=rx
  cases hr
  split at p
  ·rename_i l hl
   obtain ⟨a,ys,rfl,sq,r⟩:=seqD_ok W hx hl
   exact call_len_seq pins s σ H _ us Q I rv ⟨a,ys,rfl,sq,by rw [r.length]; exact p.here W rfl⟩
  ·split at p
   ·split at p
    ·rename_i hz
     cases hx
     exact call_len_str pins s σ H _ us Q I rv ⟨_,rfl,hz,p.here W rfl⟩
    ·exact p.elim
   ·exact p.elim
 ·exact p.elim
theorem tyD_ok {x:D} {v:V} {n:String} (W:Wd K ρ H c) (rx:Rel K ρ H x v) (h:tyD x=some n):tyName H v n:=by
 cases x with
 | non=>cases rx; cases h; exact rfl
 | bl b=>cases rx; cases h; exact rfl
 | int b=>cases rx; cases h; exact rfl
 | str b=>cases rx; cases h; exact rfl
 | tup l=>obtain ⟨a,xs,rfl,s,r⟩:=rx; cases h; exact .inr (.inl ⟨rfl,xs,s⟩)
 | lst l=>obtain ⟨a,xs,rfl,s,r⟩:=rx; cases h; exact .inl ⟨rfl,.inl ⟨xs,s.1⟩⟩
 | ref k =>
  obtain ⟨a,rfl,s⟩:=rx
  cases h
  obtain ⟨xs,e⟩:=W.at' (List.mem_of_getElem? s)
  exact .inl ⟨rfl,.inl ⟨xs,e⟩⟩
 | _=>cases h
theorem qcY:qd1 X (.builtin "isinstance") (rN X.K isiD):=by
 intro pins s σ H vs us Q I rv h
 obtain ⟨ρ,xs,c,W,rx,p⟩:=h
 unfold isiD at p
 split at p
 ·split at p
  ·rename_i hT
   obtain ⟨v,r,rfl,⟨a,rfl,hH⟩,u,r',rfl,hu,hr⟩:=rx
   cases hr
   cases hu
   obtain ⟨u1,u2,rfl,r1,r2⟩:=Vals.two rv
   cases r1; cases r2
   obtain ⟨hp,_,_⟩:=I.hok a _ hH
   exact PySem.W.kia_one PySem.W.kitx_dict I.kIn hp (kit_sub (n:="dict") (by simp) hT) (fun z=>nomatch z) fun tk=>⟨.bl _,H,I.tok _,rfl,p.here W rfl⟩
  ·exact p.elim
 ·split at p
  ·rename_i n hn
   split at p
   ·rename_i hT
    obtain ⟨v,r,rfl,hx,u,r',rfl,hu,hr⟩:=rx
    cases hr
    cases hu
    exact call_isinst pins s σ H _ us Q I rv ⟨v,n,_,rfl,tyD_ok W hx hn,hT,p.here W rfl⟩
   ·exact p.elim
  ·exact p.elim
 ·exact p.elim
theorem cd_all (hc:X.calm=true:=by rfl):qd1 X (.builtin "all") (rN X.K allD):=by
 intro pins s σ H vs us Q I rv h
 obtain ⟨ρ,xs,c,W,rx,p⟩:=h
 unfold allD quantD at p
 split at p
 ·split at p
  ·rename_i bs hb
   obtain ⟨v,r,rfl,⟨a,ys,rfl,s1,r1⟩,hr⟩:=rx
   cases hr
   rw [qgI hb] at r1
   cases r1.bls_inv
   exact call_allB hc pins s σ H _ us Q I rv ⟨a,bs,rfl,SqL.of s1.1,p.here W rfl⟩
  ·exact p.elim
 ·exact p.elim
theorem cd_max2 (hc:X.calm=true:=by rfl):qd1 X (.builtin "max") (rN X.K max2D):=by
 intro pins s σ H vs us Q I rv h
 obtain ⟨ρ,xs,c,W,rx,p⟩:=h
 unfold max2D at p
 split at p
 ·obtain ⟨v,r,rfl,hx,u,r',rfl,hu,hr⟩:=rx
  cases hr; cases hx; cases hu
  exact call_max2 hc pins s σ H _ us Q I rv ⟨_,_,rfl,p.here W rfl⟩
 ·exact p.elim
theorem cd_min2 (hc:X.calm=true:=by rfl):qd1 X (.builtin "min") (rN X.K min2D):=by
 intro pins s σ H vs us Q I rv h
 obtain ⟨ρ,xs,c,W,rx,p⟩:=h
 unfold min2D at p
 split at p
 ·obtain ⟨v,r,rfl,hx,u,r',rfl,hu,hr⟩:=rx
  cases hr; cases hx; cases hu
  exact call_min2 hc pins s σ H _ us Q I rv ⟨_,_,rfl,p.here W rfl⟩
 ·exact p.elim
theorem qep:qd1 X (.type "tuple") (rN X.K qcu):=by
 intro pins s σ H vs us Q I rv h
 obtain ⟨ρ,xs,c,W,rx,p⟩:=h
 unfold qcu at p
 split at p
 ·rename_i x
  obtain ⟨v,r,rfl,hx,hr⟩:=rx
  cases hr
  split at p
  ·rename_i l hl
   obtain ⟨a,ys,rfl,sq,r⟩:=seqD_ok W hx hl
   refine qgH pins s σ H _ us Q I rv ⟨a,ys,rfl,?_⟩
   rcases sq with sq | sq
   ·exact .inl ⟨sq,new_tup W r p⟩
   ·refine .inr ⟨sq,?_⟩
    cases x with
    | tup m=>cases hl; exact p.here W hx
    | lst m =>
     obtain ⟨b,zs,e,s1,_⟩:=hx
     cases e
     exfalso
     rcases sq with sq | ⟨o,its,n,hk,hcl,_⟩
     ·rcases sq with sq | ⟨o,sq⟩ <;> (rw [s1.1] at sq; cases sq)
     ·have:=I.bs a o (I.ok.mod.kin a o hk)
      rw [s1.1] at this
      cases this.2
    | scr m =>
     exfalso
     obtain ⟨b,e,s1⟩:=hx
     cases e
     obtain ⟨i1,_,pl,_⟩:=I.list s1.sql
     obtain ⟨i2,_,pt,_⟩:=I.tuple sq
     obtain ⟨o1,e1,c1,_⟩:=pl.isList
     obtain ⟨o2,e2,c2,_⟩:=pt
     rw [e1] at e2; cases e2
     rw [c1] at c2
     exact absurd c2 (by decide)
    | ref k =>
     exfalso
     obtain ⟨b,e,s1⟩:=hx
     cases e
     obtain ⟨zs,hz⟩:=W.at' (List.mem_of_getElem? s1)
     rcases sq with sq | ⟨o,its,n,hk,hcl,_⟩
     ·rcases sq with sq | ⟨o,sq⟩ <;> (rw [hz] at sq; cases sq)
     ·have:=I.bs a o (I.ok.mod.kin a o hk)
      rw [hz] at this
      cases this.2
    | _=>cases hl
  ·exact p.elim
 ·exact p.elim
end
def qbC (o a:yD):yD:=fun e c=>(o e c).bind fun x c=>match x with
 | .ref k=>(a e c).bind fun y c=>match c[k]? with
  | some (.lst l)=>if l.length < sizeLine∧qbT y=true then .ok .non (c.set k (.lst (l ++ [y]))) else .bad
  | none=>.bad
 | _=>.bad
theorem qdD {X:Cx} {o e:Expr} {dO da:yD} {apos cpos:Pos} (ho:PEd X o dO) (ha:PEd X e da)
  (hbase:attributeBase o "append" X.env (eval o X.env)=eval o X.env:=by rfl)
  (hfew:((backTo cpos (starEach [e] X.env)).all (fun x=>!x.1) && (backToKw cpos (keywordEach [] X.env)).all (fun x=>x.1.isSome)
   && decide ([e].length + ([]:List Keyword).length + (if ([]:List Keyword).isEmpty then 0 else 1) < 30))=true:=by exact qgb rfl)
  (hline:(apos.endLine == cpos.line)=true:=by rfl) (hs:starEach [e] X.env=(false,eval e X.env) :: starEach [] X.env:=by exact qaQ rfl) (hplain:(backTo cpos (starEach [] X.env)).any (·.1)=false:=by exact qbV rfl) :
  PEd X (.Call (.Attribute o "append" apos) [e] [] cpos) (qbC dO da) :=
 (pe_bm PySem.F.plainAttrs_list PySem.F.slot_list_append PySem.F.type_list_append mt_append ho (qe0 ha pa_nil hs) hbase hfew hline hs hplain).imp fun σ H Q h=>by
  obtain ⟨ρ,e,c,W,V,p⟩:=h
  refine ⟨ρ,e,c,W,V,post.bind p fun x c1 ρ1 H1 v _ W1 X1 r1 p1=>?_⟩
  cases x with
  | ref k =>
   obtain ⟨a,rfl,ha⟩:=r1
   obtain ⟨xs,hx⟩:=W1.at' (List.mem_of_getElem? ha)
   refine ⟨.inl ⟨rfl,xs,SqL.of hx⟩,ρ1,e,c1,W1,V.mono W X1,post.bind p1 fun y c2 ρ2 H2 u _ W2 X2 r2 p2=>?_⟩
   split at p2
   ·rename_i l hl
    split at p2
    ·rename_i hh
     obtain ⟨nr,ys,hy,rl⟩:=W2.cel k a _ (X2.pre k a ha) hl
     refine ⟨a,ys,u,rfl,rfl,hy,by rw [rl.length]; exact hh.1,?_⟩
     refine p2 ρ2 _ .non (W2.write (X2.pre k a ha) (by rw [qcE,nr]; simp [qam,hh.2]) (rl.append ⟨u,[],rfl,r2,rfl⟩)) (Ext.write (X2.pre k a ha)) rfl
    ·exact p2.elim
   ·exact p2.elim
  | _=>exact p1.elim
end L2
namespace L2
open PySem PySem.Spec PyProof.Rows
def FnW (P:Program) (w:World) (K:PySem.W.Frag) (mg:Str→Option Value) (base:Heap) (A:Around) (n:Nat) (m:List D→LC→R D) (f:Addr):Prop :=
 ∃ k fd ps,FnOk P w K mg base CX0 k f fd ps (spD K n m)∧Room k A∧PySem.W.keepIn K (.ref f)=true∧Binds K fd ps []
abbrev FnV (X:Cx) (n:Nat) (m:List D→LC→R D) (f:Addr):Prop:=FnW X.prog X.w X.K X.mg X.base X.A n m f
def fnsD (xs:List Str):Ev→LC→R Src:=fun _ c=>.ok ⟨xs.mapIdx fun i x=>.fn x i,fun _=>True⟩ c
def dCallV (i n:Nat) (tbl:List (Str×(List D→LC→R D))) (a:dS):yD:=fun e c=>match e[i]? with
 | some (some (.fn x j))=>match tbl[j]? with
  | some (y,m)=>if x=y then (a e c).bind fun xs c=>if xs.length=n then m xs c else .bad else .bad
  | none=>.bad
 | _=>.bad
section
variable {X:Cx} {tg:Expr}
end
def eqE:D→D→LC→R D:=fun x y c=>match x,y with
 | .lst l,.lst []=>.ok (.bl l.isEmpty) c
 | _,_=>.bad
end L2
namespace L2
open PySem
section
variable (e:Ev) (c:LC) (a b d:yD) (ta tb:dB) (s t:dF) (l:dS) (g:Gd) (gs:List D→Ev→LC→R Ev)
@[simp] theorem qcC (i:Nat):dVar i e c=match e[i]? with | some (some d)=>.ok d c | _=>.bad:=rfl
@[simp] theorem x_c (d:D):dC d e c=.ok d c:=rfl
@[simp] theorem qfA (f:D→D→LC→R D):dBin f a b e c=(a e c).bind fun x c=>(b e c).bind fun y c=>f x y c:=rfl
@[simp] theorem x_un (f:D→LC→R D):dUn f a e c=(a e c).bind fun x c=>f x c:=rfl
@[simp] theorem x_cb (f:List D→LC→R D):dCB f l e c=(l e c).bind fun xs c=>f xs c:=rfl
@[simp] theorem x_chain (f g:D→D→LC→R D):qft f g a b d e c=(a e c).bind fun x c=>(b e c).bind fun y c=>(f x y c).bind fun z c=>match z with
 | .bl true=>(d e c).bind fun u c=>g y u c
 | .bl false=>.ok (.bl false) c
 | _=>.bad:=rfl
@[simp] theorem qcd:dNil e c=.ok [] c:=rfl
@[simp] theorem qba:qa0 a l e c=(a e c).bind fun x c=>(l e c).bind fun xs c=>.ok (x :: xs) c:=rfl
@[simp] theorem x_tup:dTup l e c=(l e c).bind fun xs c=>if xs.length≤sizeLine then .ok (.tup xs) c else .bad:=rfl
@[simp] theorem x_lst:dLst l e c=(l e c).bind fun xs c=>if xs.length≤sizeLine then .ok (.lst xs) c else .bad:=rfl
@[simp] theorem x_lstM:qdV l e c=(l e c).bind fun xs c=>if xs.length≤sizeLine∧qam xs=true then .ok (.ref c.length) (c ++ [.lst xs]) else .bad:=rfl
@[simp] theorem x_bl:dBl a e c=(a e c).bind fun x c=>match x with | .bl b=>.ok b c | _=>.bad:=rfl
@[simp] theorem x_tru:dTru a e c=(a e c).bind fun x c=>match truD c x with | some b=>.ok b c | none=>.bad:=rfl
@[simp] theorem x_andT:dAndT ta tb e c=(ta e c).bind fun x c=>if x=true then tb e c else .ok false c:=rfl
@[simp] theorem x_orT:dOrT ta tb e c=(ta e c).bind fun x c=>if x=true then .ok true c else tb e c:=rfl
@[simp] theorem x_notT:qca ta e c=(ta e c).bind fun x c=>.ok (!x) c:=rfl
@[simp] theorem x_andV:qen a b e c=(a e c).bind fun x c=>match x with | .bl k=>if k=true then b e c else .ok (.bl false) c | _=>.bad:=rfl
@[simp] theorem x_orV:dOrV a b e c=(a e c).bind fun x c=>match x with | .bl k=>if k=true then .ok (.bl true) c else b e c | _=>.bad:=rfl
@[simp] theorem x_notV:dNotV a e c=(a e c).bind fun x c=>match x with | .bl k=>.ok (.bl (!k)) c | _=>.bad:=rfl
@[simp] theorem x_ifE:dIfE ta a b e c=(ta e c).bind fun x c=>if x=true then a e c else b e c:=rfl
@[simp] theorem qeD (n:Nat) (m:List D→LC→R D):qa7 n m l e c=(l e c).bind fun xs c=>if xs.length=n then m xs c else .bad:=rfl
@[simp] theorem x_next:qb5 e c=.ok (.nx e) c:=rfl
@[simp] theorem x_bad:sBad e c=.bad:=rfl
@[simp] theorem x_break:sBreak e c=.ok (.bk e) c:=rfl
@[simp] theorem x_cont:sCont e c=.ok (.ct e) c:=rfl
@[simp] theorem qfy:sSeq s t e c=(s e c).bind fun f c=>match f with | .nx e=>t e c | f=>.ok f c:=rfl
@[simp] theorem x_ret:sRet a e c=(a e c).bind fun x c=>.ok (.rt x) c:=rfl
@[simp] theorem qe7:qc9 a e c=(a e c).bind fun _ c=>.ok (.nx e) c:=rfl
@[simp] theorem x_if:sIf ta s t e c=(ta e c).bind fun x c=>if x=true then s e c else t e c:=rfl
@[simp] theorem x_set (i:Nat):sSet i a e c=(a e c).bind fun x c=>.ok (.nx (e.set i (some x))) c:=rfl
@[simp] theorem x_asg:sAsg a g e c=(a e c).bind fun x c=>(g x e c).bind fun e c=>.ok (.nx e) c:=rfl
@[simp] theorem qg6 (i:Nat) (x:D):qa5 i x e c=.ok (e.set i (some x)) c:=rfl
@[simp] theorem x_gnil:qfm [] e c=.ok e c:=rfl
@[simp] theorem x_gcons (x:D) (xs:List D):qc4 g gs (x :: xs) e c=(g x e c).bind fun e c=>gs xs e c:=rfl
@[simp] theorem x_gtup (n:Nat) (xs:List D):qeR n gs (.tup xs) e c=if xs.length=n then gs xs e c else .bad:=rfl
@[simp] theorem x_gsub (x:D):qgD a b x e c=(a e c).bind fun o c=>(b e c).bind fun i c=>(setD o i x c).bind fun _ c=>.ok e c:=rfl
@[simp] theorem qfz (sr:Ev→LC→R Src):sFor sr g s e c=(sr e c).bind fun q c=>forD q.stays g s q.items e c:=rfl
@[simp] theorem x_fn (n:Nat) (own:Bool) (xs:List D):fnD n own s xs c=(s (qbx n xs) c).bind fun f c'=>match f with
 | .rt v=>qcG own c.length v c'
 | .nx _=>qcG own c.length .non c'
 | _=>.bad:=rfl
@[simp] theorem x_start (n:Nat) (xs:List D):qbx n xs=xs.map some ++ List.replicate (n - xs.length) none:=rfl
@[simp] theorem qeC (sr:Ev→LC→R Src) (pick:List (Option Nat)):qaO sr pick g ta a e c=(sr e c).bind fun q c =>
 if q.items.length < sizeLine then (qb4 q.stays g ta a q.items (qd3 pick e) [] c).bind fun l c=>.ok (.lst l) c else .bad:=rfl
@[simp] theorem x_yes:dYes e c=.ok true c:=rfl
@[simp] theorem x_add (i j:Int):addD (.int i) (.int j) c=.ok (.int (i + j)) c:=rfl
@[simp] theorem x_addT (x y:List D):addD (.tup x) (.tup y) c=if x.length≠0∧x.length + y.length≤sizeLine then .ok (.tup (x ++ y)) c else .bad:=rfl
@[simp] theorem x_sub (i j:Int):subD (.int i) (.int j) c=.ok (.int (i - j)) c:=rfl
theorem x_mul (i j:Int):mulD (.int i) (.int j) c=if (-(2 ^ 64) < i∧i < 2 ^ 64)∨(-(2 ^ 64) < j∧j < 2 ^ 64) then .ok (.int (i * j)) c else .bad:=rfl
theorem x_div (i j:Int):divD (.int i) (.int j) c=if 0 < j∧j < 1073741824 then .ok (.int (i / j)) c else .bad:=rfl
theorem x_mod (i j:Int):modD (.int i) (.int j) c=if 0 < j then .ok (.int (i % j)) c else .bad:=rfl
theorem x_pow (i j:Int):powD (.int i) (.int j) c=if 0≤j∧j≤1000000∧i.natAbs < 2 ^ 64 then .ok (.int (i ^ j.toNat)) c else .bad:=rfl
@[simp] theorem x_neg (i:Int):negD (.int i) c=.ok (.int (-i)) c:=rfl
@[simp] theorem x_cmp (p:Int→Int→Bool) (i j:Int):cmpD p (.int i) (.int j) c=.ok (.bl (p i j)) c:=rfl
@[simp] theorem x_eqi (i j:Int):eqD (.int i) (.int j) c=.ok (.bl (decide (i=j))) c:=rfl
@[simp] theorem x_nei (i j:Int):neD (.int i) (.int j) c=.ok (.bl (!decide (i=j))) c:=rfl
@[simp] theorem x_eqb (i j:Bool):eqD (.bl i) (.bl j) c=.ok (.bl (decide (i=j))) c:=rfl
@[simp] theorem x_neb (i j:Bool):neD (.bl i) (.bl j) c=.ok (.bl (!decide (i=j))) c:=rfl
@[simp] theorem x_eqs (i j:Str):eqD (.str i) (.str j) c=.ok (.bl (decide (i=j))) c:=rfl
@[simp] theorem x_nes (i j:Str):neD (.str i) (.str j) c=.ok (.bl (!decide (i=j))) c:=rfl
@[simp] theorem x_is (x:D):isD x .non c=.ok (.bl (isN x)) c:=rfl
@[simp] theorem x_isnot (x:D):isNotD x .non c=.ok (.bl (!isN x)) c:=rfl
@[simp] theorem n_non:isN .non=true:=rfl
@[simp] theorem n_bl (b:Bool):isN (.bl b)=false:=rfl
@[simp] theorem n_int (b:Int):isN (.int b)=false:=rfl
@[simp] theorem n_str (b:Str):isN (.str b)=false:=rfl
@[simp] theorem n_tup (b:List D):isN (.tup b)=false:=rfl
@[simp] theorem n_lst (b:List D):isN (.lst b)=false:=rfl
@[simp] theorem x_ixT (xs:List D) (i:Int):ixD (.tup xs) (.int i) c=match atI xs i with | some d=>.ok d c | none=>.bad:=rfl
@[simp] theorem x_ixL (xs:List D) (i:Int):ixD (.lst xs) (.int i) c=match atI xs i with | some d=>.ok d c | none=>.bad:=rfl
@[simp] theorem x_lenT (xs:List D):lenD [.tup xs] c=.ok (.int xs.length) c:=rfl
@[simp] theorem x_lenL (xs:List D):lenD [.lst xs] c=.ok (.int xs.length) c:=rfl
@[simp] theorem x_lenS (xs:List Int):lenD [.scr xs] c=.ok (.int xs.length) c:=by
 show R.ok (D.int ((xs.map D.int).length:Nat)) c=_
 rw [List.length_map]
@[simp] theorem x_max2 (i j:Int):max2D [.int i,.int j] c=.ok (.int (if j > i then j else i)) c:=rfl
@[simp] theorem x_min2 (i j:Int):min2D [.int i,.int j] c=.ok (.int (if j < i then j else i)) c:=rfl
@[simp] theorem x_abs (i:Int):absD [.int i] c=.ok (.int (if i < 0 then -i else i)) c:=rfl
@[simp] theorem r_non:qbT .non=true:=rfl
@[simp] theorem r_bl (b:Bool):qbT (.bl b)=true:=rfl
@[simp] theorem r_int (b:Int):qbT (.int b)=true:=rfl
@[simp] theorem r_str (b:Str):qbT (.str b)=true:=rfl
@[simp] theorem r_tup (b:List D):qbT (.tup b)=qam b:=by simp [qbT]
@[simp] theorem r_lst (b:List D):qbT (.lst b)=qam b:=by simp [qbT]
@[simp] theorem r_nil:qam []=true:=by simp [qam]
@[simp] theorem r_cons (d:D) (b:List D):qam (d :: b)=(qbT d && qam b):=by simp [qam]
@[simp] theorem q_bl (own:Bool) (n:Nat) (b:Bool):qcG own n (.bl b) c=.ok (.bl b) (c.take n):=rfl
@[simp] theorem q_non (own:Bool) (n:Nat):qcG own n .non c=.ok .non (c.take n):=rfl
@[simp] theorem q_int (own:Bool) (n:Nat) (b:Int):qcG own n (.int b) c=.ok (.int b) (c.take n):=rfl
@[simp] theorem q_str (own:Bool) (n:Nat) (b:Str):qcG own n (.str b) c=.ok (.str b) (c.take n):=rfl
@[simp] theorem q_tup (own:Bool) (n:Nat) (b:List D):qcG own n (.tup b) c=if qam b=true then .ok (.tup b) (c.take n) else .bad:=by
 show (if qbT (.tup b)=true then R.ok (D.tup b) (c.take n) else R.bad)=_
 rw [r_tup]
@[simp] theorem q_lst (own:Bool) (n:Nat) (b:List D):qcG own n (.lst b) c=if qam b=true then .ok (.lst b) (c.take n) else .bad:=by
 show (if qbT (.lst b)=true then R.ok (D.lst b) (c.take n) else R.bad)=_
 rw [r_lst]
@[simp] theorem qfK:qaD l e c=(l e c).bind fun xs c=>match xs with
 | [.int j]=>if -(2 ^ 62)≤j∧j < 2 ^ 62 then .ok ⟨rngD 0 j,fun _=>True⟩ c else .bad
 | _=>.bad:=rfl
@[simp] theorem x_rng2:qfs l e c=(l e c).bind fun xs c=>match xs with
 | [.int i,.int j]=>if -(2 ^ 62)≤i∧i < 2 ^ 62∧-(2 ^ 62)≤j∧j < 2 ^ 62 then .ok ⟨rngD i j,fun _=>True⟩ c else .bad
 | _=>.bad:=rfl
@[simp] theorem x_seqS:dSeq a e c=(a e c).bind fun x c=>match x with
 | .lst l=>.ok ⟨l,fun _=>True⟩ c
 | .scr l=>.ok ⟨l.map D.int,fun _=>True⟩ c
 | .ref k=>match c[k]? with
  | some (.lst l)=>.ok ⟨l,fun c=>c[k]? = some (.lst l)⟩ c
  | none=>.bad
 | _=>.bad:=rfl
@[simp] theorem x_seqT:qem a e c=(a e c).bind fun x c=>match x with
 | .tup l=>.ok ⟨l,fun _=>True⟩ c
 | _=>.bad:=rfl
@[simp] theorem x_zip:dZip l e c=(l e c).bind fun xs c=>match xs with
 | [.tup l,.tup m]=>.ok ⟨List.zipWith (fun x y=>.tup [x,y]) l m,fun _=>True⟩ c
 | _=>.bad:=rfl
@[simp] theorem x_callV (i n:Nat) (tbl:List (Str×(List D→LC→R D))):dCallV i n tbl l e c=match e[i]? with
 | some (some (.fn x j))=>match tbl[j]? with
  | some (y,m)=>if x=y then (l e c).bind fun xs c=>if xs.length=n then m xs c else .bad else .bad
  | none=>.bad
 | _=>.bad:=rfl
end
section
variable (g:Gd) (s:dF) (t:dB) (a:yD) (e:Ev) (c:LC)
@[simp] theorem for_nil:forD (fun _=>True) g s [] e c=.ok (.nx e) c:=by simp [forD]
@[simp] theorem qdt (x:D) (xs:List D):forD (fun _=>True) g s (x :: xs) e c=(g x e c).bind fun e c=>(s e c).bind fun f c=>match f with
   | .nx e=>forD (fun _=>True) g s xs e c
   | .ct e=>forD (fun _=>True) g s xs e c
   | .bk e=>.ok (.nx e) c
   | .rt d=>.ok (.rt d) c:=by
 conv=>lhs; unfold forD
 exact if_pos trivial
@[simp] theorem comp_nil (acc:List D):qb4 (fun _=>True) g t a [] e acc c=.ok acc c:=by simp [qb4]
@[simp] theorem qdn (x:D) (xs acc:List D):qb4 (fun _=>True) g t a (x :: xs) e acc c=(g x e c).bind fun e c=>(t e c).bind fun k c=>if k=true then (a e c).bind fun y c=>qb4 (fun _=>True) g t a xs e (acc ++ [y]) c else qb4 (fun _=>True) g t a xs e acc c:=by
 conv=>lhs; unfold qb4
 exact if_pos trivial
end
@[simp] theorem gz {α:Type} (a:α) (l:List α):(a :: l)[0]? = some a:=rfl
@[simp] theorem gs {α:Type} (a:α) (l:List α) (n:Nat):(a :: l)[n + 1]? = l[n]?:=rfl
@[simp] theorem at0 {α:Type} (a:α) (l:List α):atI (a :: l) 0=some a:=by simp [atI,ixN]
@[simp] theorem at1 {α:Type} (a b:α) (l:List α):atI (a :: b :: l) 1=some b:=by
 unfold atI ixN
 rw [if_pos (by decide),if_pos (by simp; omega)]
 rfl
@[simp] theorem at2 {α:Type} (a b d:α) (l:List α):atI (a :: b :: d :: l) 2=some d:=by
 unfold atI ixN
 rw [if_pos (by decide),if_pos (by simp; omega)]
 rfl
@[simp] theorem at3 {α:Type} (a b d f:α) (l:List α):atI (a :: b :: d :: f :: l) 3=some f:=by
 unfold atI ixN
 rw [if_pos (by decide),if_pos (by simp; omega)]
 rfl
@[simp] theorem at4 {α:Type} (a b d f h:α) (l:List α):atI (a :: b :: d :: f :: h :: l) 4=some h:=by
 unfold atI ixN
 rw [if_pos (by decide),if_pos (by simp; omega)]
 rfl
theorem qav {n:Nat} (h:n≤1000):n≤sizeLine:=Nat.le_trans h (by decide)
@[simp] theorem sl0:(0:Nat)≤sizeLine:=Nat.zero_le _
@[simp] theorem sl1:(1:Nat)≤sizeLine:=by decide
@[simp] theorem sl2:(2:Nat)≤sizeLine:=by decide
@[simp] theorem sl3:(3:Nat)≤sizeLine:=by decide
@[simp] theorem sl4:(4:Nat)≤sizeLine:=by decide
@[simp] theorem sl5:(5:Nat)≤sizeLine:=by decide
@[simp] theorem sl6:(6:Nat)≤sizeLine:=by decide
@[simp] theorem st0:(0:Nat) < sizeLine:=by decide
@[simp] theorem st1:(1:Nat) < sizeLine:=by decide
@[simp] theorem st2:(2:Nat) < sizeLine:=by decide
@[simp] theorem st3:(3:Nat) < sizeLine:=by decide
@[simp] theorem st4:(4:Nat) < sizeLine:=by decide
@[simp] theorem st5:(5:Nat) < sizeLine:=by decide
@[simp] theorem i_int_int (i:Int) (c:LC):isiD [.int i,.ty "int"] c=.ok (.bl true) c:=rfl
@[simp] theorem i_int_bool (i:Int) (c:LC):isiD [.int i,.ty "bool"] c=.ok (.bl false) c:=rfl
@[simp] theorem i_int_str (i:Int) (c:LC):isiD [.int i,.ty "str"] c=.ok (.bl false) c:=rfl
@[simp] theorem i_int_tuple (i:Int) (c:LC):isiD [.int i,.ty "tuple"] c=.ok (.bl false) c:=rfl
@[simp] theorem i_int_list (i:Int) (c:LC):isiD [.int i,.ty "list"] c=.ok (.bl false) c:=rfl
@[simp] theorem i_bl_int (i:Bool) (c:LC):isiD [.bl i,.ty "int"] c=.ok (.bl true) c:=rfl
@[simp] theorem i_bl_bool (i:Bool) (c:LC):isiD [.bl i,.ty "bool"] c=.ok (.bl true) c:=rfl
@[simp] theorem i_bl_str (i:Bool) (c:LC):isiD [.bl i,.ty "str"] c=.ok (.bl false) c:=rfl
@[simp] theorem i_bl_tuple (i:Bool) (c:LC):isiD [.bl i,.ty "tuple"] c=.ok (.bl false) c:=rfl
@[simp] theorem i_bl_list (i:Bool) (c:LC):isiD [.bl i,.ty "list"] c=.ok (.bl false) c:=rfl
@[simp] theorem i_str_int (i:Str) (c:LC):isiD [.str i,.ty "int"] c=.ok (.bl false) c:=rfl
@[simp] theorem i_str_bool (i:Str) (c:LC):isiD [.str i,.ty "bool"] c=.ok (.bl false) c:=rfl
@[simp] theorem i_str_str (i:Str) (c:LC):isiD [.str i,.ty "str"] c=.ok (.bl true) c:=rfl
@[simp] theorem i_str_tuple (i:Str) (c:LC):isiD [.str i,.ty "tuple"] c=.ok (.bl false) c:=rfl
@[simp] theorem i_str_list (i:Str) (c:LC):isiD [.str i,.ty "list"] c=.ok (.bl false) c:=rfl
@[simp] theorem i_non_int (c:LC):isiD [.non,.ty "int"] c=.ok (.bl false) c:=rfl
@[simp] theorem i_non_bool (c:LC):isiD [.non,.ty "bool"] c=.ok (.bl false) c:=rfl
@[simp] theorem i_non_str (c:LC):isiD [.non,.ty "str"] c=.ok (.bl false) c:=rfl
@[simp] theorem i_non_tuple (c:LC):isiD [.non,.ty "tuple"] c=.ok (.bl false) c:=rfl
@[simp] theorem i_non_list (c:LC):isiD [.non,.ty "list"] c=.ok (.bl false) c:=rfl
@[simp] theorem i_tup_int (i:List D) (c:LC):isiD [.tup i,.ty "int"] c=.ok (.bl false) c:=rfl
@[simp] theorem i_tup_bool (i:List D) (c:LC):isiD [.tup i,.ty "bool"] c=.ok (.bl false) c:=rfl
@[simp] theorem i_tup_str (i:List D) (c:LC):isiD [.tup i,.ty "str"] c=.ok (.bl false) c:=rfl
@[simp] theorem i_tup_tuple (i:List D) (c:LC):isiD [.tup i,.ty "tuple"] c=.ok (.bl true) c:=rfl
@[simp] theorem i_tup_list (i:List D) (c:LC):isiD [.tup i,.ty "list"] c=.ok (.bl false) c:=rfl
@[simp] theorem i_lst_int (i:List D) (c:LC):isiD [.lst i,.ty "int"] c=.ok (.bl false) c:=rfl
@[simp] theorem i_lst_bool (i:List D) (c:LC):isiD [.lst i,.ty "bool"] c=.ok (.bl false) c:=rfl
@[simp] theorem i_lst_str (i:List D) (c:LC):isiD [.lst i,.ty "str"] c=.ok (.bl false) c:=rfl
@[simp] theorem i_lst_tuple (i:List D) (c:LC):isiD [.lst i,.ty "tuple"] c=.ok (.bl false) c:=rfl
@[simp] theorem i_lst_list (i:List D) (c:LC):isiD [.lst i,.ty "list"] c=.ok (.bl true) c:=rfl
section
variable (c:LC) {i j:Int}
theorem mul_l (h1:-18446744073709551616 < i) (h2:i < 18446744073709551616):mulD (.int i) (.int j) c=.ok (.int (i * j)) c:=by
 rw [x_mul,if_pos]; exact .inl ⟨by omega,by omega⟩
theorem mul_r (h1:-18446744073709551616 < j) (h2:j < 18446744073709551616):mulD (.int i) (.int j) c=.ok (.int (i * j)) c:=by
 rw [x_mul,if_pos]; exact .inr ⟨by omega,by omega⟩
theorem div_c (h1:0 < j) (h2:j < 1073741824):divD (.int i) (.int j) c=.ok (.int (i / j)) c:=by
 rw [x_div,if_pos ⟨h1,h2⟩]
theorem qfG (h1:0 < j):modD (.int i) (.int j) c=.ok (.int (i % j)) c:=by
 rw [x_mod,if_pos h1]
theorem pow_c (h1:0≤j) (h2:j≤1000000) (h3:i.natAbs < 18446744073709551616):powD (.int i) (.int j) c=.ok (.int (i ^ j.toNat)) c:=by
 rw [x_pow,if_pos ⟨h1,h2,h3⟩]
end
section
variable {g:Gd} {s:dF} {t:dB} {a:yD}
theorem qcX {c:LC} (inv:Ev→Prop) (F:D→Bool) (G:D→D):∀ (items:List D) (e:Ev) (acc:List D),inv e →
  (∀ x∈items,∀ e,inv e→∃ e',g x e c=.ok e' c∧inv e'∧t e' c=.ok (F x) c∧(F x=true→a e' c=.ok (G x) c)) →
  qb4 (fun _=>True) g t a items e acc c=.ok (acc ++ (items.filter F).map G) c
 | [],e,acc,_,_=>by simp
 | x :: xs,e,acc,hi,h=>by
  obtain ⟨e',h1,h2,h3,h4⟩:=h x List.mem_cons_self e hi
  rw [qdn,h1,R.bind_ok,h3,R.bind_ok]
  cases hF:F x with
  | true =>
   rw [if_pos rfl,h4 hF,R.bind_ok,qcX inv F G xs e' _ h2 fun y hy=>h y (List.mem_cons_of_mem _ hy)]
   simp [hF]
  | false =>
   rw [if_neg Bool.false_ne_true,qcX inv F G xs e' _ h2 fun y hy=>h y (List.mem_cons_of_mem _ hy)]
   simp [hF]
theorem for_find {c:LC} (inv:Ev→Prop) (P:D→Option D):∀ (items:List D) (e:Ev),inv e →
  (∀ x∈items,∀ e,inv e→∃ e' e'',g x e c=.ok e' c∧inv e''∧s e' c=match P x with | none=>.ok (.nx e'') c | some v=>.ok (.rt v) c) →
  match items.findSome? P with | none=>∃ e',inv e'∧forD (fun _=>True) g s items e c=.ok (.nx e') c | some v=>forD (fun _=>True) g s items e c=.ok (.rt v) c
 | [],e,hi,_=>⟨e,hi,by simp⟩
 | x :: xs,e,hi,h=>by
  obtain ⟨e',e'',h1,h2,h3⟩:=h x List.mem_cons_self e hi
  have ih:=for_find inv P xs e'' h2 fun y hy=>h y (List.mem_cons_of_mem _ hy)
  rw [List.findSome?_cons,qdt,h1,R.bind_ok,h3]
  cases hP:P x with
  | some v=>simp
  | none=>simpa using ih
theorem for_any (inv:Ev→Prop):∀ (items:List D) (e:Ev) (c:LC),inv e →
  (∀ x∈items,∀ e c,inv e→∃ e' e'' c' c'',g x e c=.ok e' c'∧s e' c'=.ok (.nx e'') c''∧inv e'') →
  ∃ e' c',inv e'∧forD (fun _=>True) g s items e c=.ok (.nx e') c'
 | [],e,c,hi,_=>⟨e,c,hi,by simp⟩
 | x :: xs,e,c,hi,h=>by
  obtain ⟨e',e'',c',c'',h1,h2,h3⟩:=h x List.mem_cons_self e c hi
  obtain ⟨e3,c3,i3,h4⟩:=for_any inv xs e'' c'' h3 fun y hy=>h y (List.mem_cons_of_mem _ hy)
  exact ⟨e3,c3,i3,by rw [qdt,h1,R.bind_ok,h2]; exact h4⟩
theorem for_inv (inv:Ev→LC→Prop):∀ (items:List D) (e:Ev) (c:LC),inv e c →
  (∀ x∈items,∀ e c,inv e c→∃ e' e'' c' c'',g x e c=.ok e' c'∧s e' c'=.ok (.nx e'') c''∧inv e'' c'') →
  ∃ e' c',inv e' c'∧forD (fun _=>True) g s items e c=.ok (.nx e') c'
 | [],e,c,hi,_=>⟨e,c,hi,by simp⟩
 | x :: xs,e,c,hi,h=>by
  obtain ⟨e',e'',c',c'',h1,h2,h3⟩:=h x List.mem_cons_self e c hi
  obtain ⟨e3,c3,i3,h4⟩:=for_inv inv xs e'' c'' h3 fun y hy=>h y (List.mem_cons_of_mem _ hy)
  exact ⟨e3,c3,i3,by rw [qdt,h1,R.bind_ok,h2]; exact h4⟩
end
theorem qgs {lo hi:Int} {d:D} (h:d∈rngD lo hi):∃ i:Int,d=.int i∧lo≤i∧i < hi:=by
 unfold rngD at h
 obtain ⟨k,hk,rfl⟩:=List.mem_map.mp h
 have:=List.mem_range.mp hk
 exact ⟨lo + k,rfl,by omega,by omega⟩
theorem rng_mem {lo hi i:Int} (h1:lo≤i) (h2:i < hi):D.int i∈rngD lo hi:=by
 unfold rngD
 refine List.mem_map.mpr ⟨(i - lo).toNat,List.mem_range.mpr (by omega),?_⟩
 congr 1
 omega
theorem qcT {lo hi:Int}:(rngD lo hi).length=(hi - lo).toNat:=by simp [rngD]
end L2
namespace L2
open PySem PySem.Spec PyProof.Rows
def lstD (c:LC):D→Option (List D)
 | .lst l=>some l
 | .ref k=>match c[k]? with
  | some (.lst l)=>some l
  | none=>none
 | _=>none
def qfC (c:LC):D→LC→Prop
 | .ref k=>fun c'=>c'[k]? = c[k]?
 | _=>fun _=>True
def catD:D→D→LC→R D:=fun x y c=>match lstD c x,lstD c y with
 | some l,some m=>if l.length + m.length≤sizeLine then .ok (.lst (l ++ m)) c else .bad
 | _,_=>.bad
def cutD (xs:List D) (lo hi:Option Int):List D:=(xs.drop (HT.sIx xs.length 0 lo)).take (HT.sIx xs.length xs.length hi - HT.sIx xs.length 0 lo)
def dSl (a:yD) (lo hi:Ev→LC→R (Option Int)):yD:=fun e c=>(a e c).bind fun x c=>(lo e c).bind fun l c=>(hi e c).bind fun u c=>match lstD c x with
 | some xs=>.ok (.lst (cutD xs l u)) c
 | none=>.bad
def dNoP:Ev→LC→R (Option Int):=fun _ c=>.ok none c
def dPart (a:yD):Ev→LC→R (Option Int):=fun e c=>(a e c).bind fun x c=>match x with
 | .int i=>.ok (some i) c
 | _=>.bad
def qfJ (a:dS):Ev→LC→R Src:=fun e c=>(a e c).bind fun xs c=>match xs with
 | [.tup l,.tup m]=>.ok ⟨List.zipWith (fun x y=>.tup [x,y]) l m,fun _=>True⟩ c
 | [x,y]=>match lstD c x,lstD c y with
  | some l,some m=>.ok ⟨List.zipWith (fun x y=>.tup [x,y]) l m,fun c'=>qfC c x c'∧qfC c y c'⟩ c
  | _,_=>.bad
 | _=>.bad
section
variable {X:Cx} {K:PySem.W.Frag} {ρ ρ':List Addr} {H H':Hp} {c c':LC}
theorem qdF {x:D} {v:V} {l:List D} (W:Wd K ρ H c) (rx:Rel K ρ H x v) (h:lstD c x=some l):∃ a xs,v=.ref a∧H a=some (.lst xs)∧Rels K ρ H l xs:=by
 cases x with
 | lst m =>
  cases h
  obtain ⟨a,xs,e,s,r⟩:=rx
  exact ⟨a,xs,e,s.1,r⟩
 | ref k =>
  obtain ⟨a,e,s⟩:=rx
  unfold lstD at h
  dsimp only at h
  cases hc:c[k]? with
  | none=>rw [hc] at h; cases h
  | some cl =>
   cases cl with
   | lst m =>
    rw [hc] at h; cases h
    obtain ⟨_,xs,hx,r⟩:=W.cel k a _ s hc
    exact ⟨a,xs,e,hx,r⟩
 | _=>cases h
theorem qfW {x:D} {v:V} {l:List D} (W:Wd K ρ H c) (W':Wd K ρ' H' c') (E:Ext ρ H ρ' H') (rx:Rel K ρ H x v) (h:lstD c x=some l) (st:qfC c x c') {a:Addr} (e:v=.ref a):∃ xs,SqL K H' a xs∧Rels K ρ' H' l xs:=by
 have rx':=Rel.mono W E x v rx
 have h':lstD c' x=some l:=by
  cases x with
  | lst m=>exact h
  | ref k =>
   have st:c'[k]? = c[k]?:=st
   unfold lstD at h ⊢
   dsimp only at h ⊢
   rw [st]; exact h
  | _=>cases h
 obtain ⟨b,xs,e2,hx,r⟩:=qdF W' rx' h'
 rw [e] at e2; cases e2
 exact ⟨xs,SqL.of hx,r⟩
theorem qff:OpR X (binaryOp .Add) (r2 X.K catD):=by
 intro pins s σ H v u vv uu Q I rv ru h
 obtain ⟨ρ,x,y,c,W,rx,ry,p⟩:=h
 unfold catD at p
 split at p
 ·rename_i l m hl hm
  split at p
  ·rename_i hz
   obtain ⟨a,xs,rfl,ha,ra⟩:=qdF W rx hl
   obtain ⟨b,ys,rfl,hb,rb⟩:=qdF W ry hm
   exact op_cat pins s σ H _ _ vv uu Q I rv ru ⟨a,b,xs,ys,rfl,rfl,ha,hb,by rw [ra.length,rb.length]; exact hz,qfg W (ra.append rb) p⟩
  ·exact p.elim
 ·exact p.elim
abbrev POd (X:Cx) (e:Option Expr) (d:Ev→LC→R (Option Int)):Prop:=PO X e (tD X.K (fun _ _ a b=>a=b) d)
theorem PO.imp {e:Option Expr} {t t':TO} (h:PO X e t) (i:∀ σ H Q,t' σ H Q→t σ H Q):PO X e t':=fun pins s σ H Q I q=>h pins s σ H Q I (i _ _ _ q)
theorem pod_none:POd X none dNoP:=po_none.imp fun σ H Q h=>by
 obtain ⟨ρ,e,c,W,Vv,p⟩:=h
 exact p.here W rfl
theorem pod_some {e:Expr} {d:yD} (h:PEd X e d):POd X (some e) (dPart d):=(po_some h).imp fun σ H Q h=>by
 obtain ⟨ρ,e,c,W,Vv,p⟩:=h
 refine ⟨ρ,e,c,W,Vv,post.bind p fun x c1 ρ1 H1 v _ W1 X1 r1 p1=>?_⟩
 cases x with
 | int i=>cases r1; exact ⟨i,rfl,p1.here W1 rfl⟩
 | _=>exact p1.elim
theorem cut_rel {l:List D} {xs:List V} {lo hi:Option Int} (r:Rels K ρ H l xs):Rels K ρ H (cutD l lo hi) (cutV xs lo hi):=by
 unfold cutD cutV
 rw [r.length]
 exact (r.drop _).take _
theorem pd_sl {e:Expr} {lo hi:Option Expr} {p2 pos:Pos} {da:yD} {dl dh:Ev→LC→R (Option Int)} (he:PEd X e da) (hl:POd X lo dl) (hh:POd X hi dh):PEd X (.Subscript e (.Slice lo hi none p2) pos) (dSl da dl dh) :=
 (pe_slice sl_list he hl hh).imp fun σ H Q h=>by
  obtain ⟨ρ,e,c,W,Vv,p⟩:=h
  refine ⟨ρ,e,c,W,Vv,post.bind p fun x c1 ρ1 H1 v _ W1 X1 r1 p1=>⟨ρ1,e,c1,W1,Vv.mono W X1,post.bind p1 fun l c2 ρ2 H2 l' _ W2 X2 r2 p2=>⟨ρ2,e,c2,W2,(Vv.mono W X1).mono W1 X2,post.bind p2 fun u c3 ρ3 H3 u' _ W3 X3 r3 p3=>?_⟩⟩⟩
  cases r2; cases r3
  have rx:=Rel.mono W1 (X2.trans X3) _ _ r1
  split at p3
  ·rename_i xs hs
   obtain ⟨a,ys,rfl,ha,r⟩:=qdF W3 rx hs
   exact ⟨a,ys,rfl,SqL.of ha,qfg W3 (cut_rel r) p3⟩
  ·exact p3.elim
theorem PI.or {tg iter:Expr} {t t':TI} (h:PI X tg iter t) (h':PI X tg iter t'):PI X tg iter (fun σ H R=>t σ H R∨t' σ H R):=fun pins s σ H R I q=>q.elim (h pins s σ H R I) (h' pins s σ H R I)
theorem js_zipL {l m:List D} {a b:Addr} {st:LC→Prop} (h:∀ ρ' H' c',Wd K ρ' H' c'→Ext ρ H ρ' H'→st c'→∃ xs ys,SqL K H' a xs∧SqL K H' b ys∧Rels K ρ' H' l xs∧Rels K ρ' H' m ys):JS K ρ H ⟨List.zipWith (fun x y=>.tup [x,y]) l m,st⟩ (Itz (SqL K) a b):=by
 intro ρ' H' c' W E s i
 obtain ⟨xs,ys,q1,q2,r1,r2⟩:=h ρ' H' c' W E s
 refine ⟨fun d hd=>?_,fun e=>⟨xs,ys,q1,q2,?_⟩⟩
 ·have hd:(List.zipWith (fun x y=>D.tup [x,y]) l m)[i]? = some d:=hd
  rw [List.getElem?_zipWith] at hd
  cases e1:l[i]? with
  | none=>rw [e1] at hd; cases hd
  | some x =>
   cases e2:m[i]? with
   | none=>rw [e1,e2] at hd; cases hd
   | some y =>
    rw [e1,e2] at hd
    cases hd
    obtain ⟨v,hv,rv⟩:=r1.get e1
    obtain ⟨u,hu,ru⟩:=r2.get e2
    refine ⟨⟨xs,ys,v,u,q1,q2,hv,hu⟩,fun z H2 hz=>?_⟩
    obtain ⟨t,v',u',rfl,ht,rfl,hz⟩:=hz
    obtain ⟨z1,z2⟩:=hz xs ys q1 q2
    rw [hv] at z1; rw [hu] at z2
    cases z1; cases z2
    exact ⟨W.fresh ht,Ext.fresh W ht,t,[v,u],rfl,qbu,v,[u],rfl,Rel.mono W (Ext.fresh W ht) _ _ rv,u,[],rfl,Rel.mono W (Ext.fresh W ht) _ _ ru,rfl⟩
 ·have e:i=(List.zipWith (fun x y=>D.tup [x,y]) l m).length:=e
  rw [List.length_zipWith] at e
  rw [r1.length,r2.length]
  omega
theorem qgz {es:List Expr} {k:Nat} {pt:Pos} {a b:Expr} {da:dS} {p pos:Pos} (ha:PAd X [a,b] da) (hm:X.mg "zip"=none) (hg:Gl X "zip":=by rfl) (hs:starEach [a,b] X.env=[(false,eval a X.env),(false,eval b X.env)]:=by exact star2 rfl rfl) (hs2:starEach [b] X.env=[(false,eval b X.env)]:=by exact star1 rfl) :
  PId X (.Tuple es k pt) (.Call (.Name "zip" p) [a,b] [] pos) (qfJ da):=((pi_zipT hg hm ha hs hs2).or (pi_zipL hg hm ha hs hs2)).imp fun σ H Q h=>by
 obtain ⟨ρ,e,c,W,Vv,p⟩:=h
 cases hd:da e c with
 | bad=>unfold qfJ at p; rw [hd] at p; exact p.elim
 | ok xs c1 =>
  have p0:=p
  unfold qfJ at p0
  rw [hd,R.bind_ok] at p0
  split at p0
  ·left
   refine ⟨ρ,e,c,W,Vv,?_⟩
   rw [hd]
   intro ρ1 H1 vs W1 X1 r1
   obtain ⟨y,ys,rfl,ry,z,zs,rfl,rz,rs⟩:=r1
   cases rs
   obtain ⟨a1,xs,rfl,s1,t1⟩:=ry
   obtain ⟨a2,ys,rfl,s2,t2⟩:=rz
   exact ⟨a1,a2,rfl,⟨xs,ys,SqT.of s1,SqT.of s2⟩,post.here (post.ext p0 X1) W1 (js_zip fun ρ' H' c' W' E _=>⟨xs,ys,SqT.of (qeT W1 E s1),SqT.of (qeT W1 E s2),Rels.mono W1 E _ _ t1,Rels.mono W1 E _ _ t2⟩)⟩
  ·rename_i x y _
   split at p0
   ·rename_i l m hl hm'
    right
    refine ⟨ρ,e,c,W,Vv,?_⟩
    rw [hd]
    intro ρ1 H1 vs W1 X1 r1
    obtain ⟨v,ys,rfl,ry,u,zs,rfl,rz,rs⟩:=r1
    cases rs
    obtain ⟨a1,xs,rfl,s1,t1⟩:=qdF W1 ry hl
    obtain ⟨a2,ys,rfl,s2,t2⟩:=qdF W1 rz hm'
    refine ⟨a1,a2,rfl,⟨xs,ys,SqL.of s1,SqL.of s2⟩,post.here (post.ext p0 X1) W1 (js_zipL fun ρ' H' c' W' E st=>?_)⟩
    obtain ⟨xs',q1,q2⟩:=qfW W1 W' E ry hl st.1 rfl
    obtain ⟨ys',q3,q4⟩:=qfW W1 W' E rz hm' st.2 rfl
    exact ⟨xs',ys',q1,q3,q2,q4⟩
   ·exact p0.elim
  ·exact p0.elim
end
section
variable (e:Ev) (c:LC) (a:yD) (lo hi:Ev→LC→R (Option Int)) (l:dS)
@[simp] theorem x_sl:dSl a lo hi e c=(a e c).bind fun x c=>(lo e c).bind fun l c=>(hi e c).bind fun u c=>match lstD c x with
 | some xs=>.ok (.lst (cutD xs l u)) c
 | none=>.bad:=rfl
@[simp] theorem x_nop:dNoP e c=.ok none c:=rfl
@[simp] theorem x_part:dPart a e c=(a e c).bind fun x c=>match x with
 | .int i=>.ok (some i) c
 | _=>.bad:=rfl
@[simp] theorem x_zip2:qfJ l e c=(l e c).bind fun xs c=>match xs with
 | [.tup l,.tup m]=>.ok ⟨List.zipWith (fun x y=>.tup [x,y]) l m,fun _=>True⟩ c
 | [x,y]=>match lstD c x,lstD c y with
  | some l,some m=>.ok ⟨List.zipWith (fun x y=>.tup [x,y]) l m,fun c'=>qfC c x c'∧qfC c y c'⟩ c
  | _,_=>.bad
 | _=>.bad:=rfl
@[simp] theorem l_lst (x:List D):lstD c (.lst x)=some x:=rfl
end
section
variable {g:Gd} {s:dF} {t:dB} {a:yD}
theorem qdm {c:LC} (st:LC→Prop) (hst:st c) (inv:Ev→Prop) (F:D→Bool) (G:D→D):∀ (items:List D) (e:Ev) (acc:List D),inv e →
  (∀ x∈items,∀ e,inv e→∃ e',g x e c=.ok e' c∧inv e'∧t e' c=.ok (F x) c∧(F x=true→a e' c=.ok (G x) c)) →
  qb4 st g t a items e acc c=.ok (acc ++ (items.filter F).map G) c
 | [],e,acc,_,_=>by
  unfold qb4
  rw [if_pos hst]; simp
 | x :: xs,e,acc,hi,h=>by
  obtain ⟨e',h1,h2,h3,h4⟩:=h x List.mem_cons_self e hi
  unfold qb4
  rw [if_pos hst,h1,R.bind_ok,h3,R.bind_ok]
  cases hF:F x with
  | true =>
   rw [if_pos rfl,h4 hF,R.bind_ok,qdm st hst inv F G xs e' _ h2 fun y hy=>h y (List.mem_cons_of_mem _ hy)]
   simp [hF]
  | false =>
   rw [if_neg Bool.false_ne_true,qdm st hst inv F G xs e' _ h2 fun y hy=>h y (List.mem_cons_of_mem _ hy)]
   simp [hF]
theorem qe6 {dO da:yD} {e:Ev} {c:LC} {acc:List D} {y:D} (ho:dO e (c ++ [.lst acc])=.ok (.ref c.length) (c ++ [.lst acc])) (ha:da e (c ++ [.lst acc])=.ok y (c ++ [.lst acc])) (hy:qbT y=true) (hl:acc.length + 1≤1000000) :
  qbC dO da e (c ++ [.lst acc])=.ok .non (c ++ [.lst (acc ++ [y])]):=by
 have h1:acc.length < sizeLine:=Nat.lt_of_lt_of_le (by omega:acc.length < 1000000) (by decide)
 unfold qbC
 rw [ho,R.bind_ok]
 dsimp only
 rw [ha,R.bind_ok]
 have e1:(c ++ [Cell.lst acc])[c.length]? = some (.lst acc):=by simp
 have e2:(c ++ [Cell.lst acc]).set c.length (.lst (acc ++ [y]))=c ++ [.lst (acc ++ [y])]:=by simp
 rw [e1]
 dsimp only
 rw [if_pos ⟨h1,hy⟩,e2]
end
end L2
namespace L2
open PySem PySem.Spec PyProof.Rows
mutual
def datD:D→Option PyData
 | .non=>some .none
 | .bl b=>some (.bool b)
 | .int i=>some (.int i)
 | .str x=>if PyData.strOk x=true then some (.str x) else none
 | .tup l=>match qdU l with
  | some r=>some (.tuple r)
  | none=>none
 | .lst l=>match qdU l with
  | some r=>some (.list r)
  | none=>none
 | .ty _=>none
 | .ref _=>none
 | .scr _=>none
 | .fn _ _=>none
 | .exc _=>none
 | .dic=>none
 | .dct _=>none
 | .lam _ _ _ _=>none
def qdU:List D→Option (List PyData)
 | []=>some []
 | d :: l=>match datD d,qdU l with
  | some a,some r=>some (a :: r)
  | _,_=>none
end
def datC (c:LC):D→Option PyData
 | .ref k=>match c[k]? with
  | some (.lst l)=>match qdU l with
   | some r=>some (.list r)
   | none=>none
  | none=>none
 | d=>datD d
def eqvD:D→D→LC→R D:=fun x y c=>match datC c x,datC c y with
 | some p,some q=>if p.depth≤64∧q.depth≤64 then .ok (.bl (p.eqv q)) c else .bad
 | _,_=>.bad
def nevD:D→D→LC→R D:=fun x y c=>match datC c x,datC c y with
 | some p,some q=>if p.depth≤64∧q.depth≤64 then .ok (.bl (!p.eqv q)) c else .bad
 | _,_=>.bad
def inD:D→D→LC→R D:=fun x y c=>match datC c x,datC c y with
 | some p,some (.list ys)=>if p.depth≤62 then .ok (.bl (ys.any fun z=>z.eqv p)) c else .bad
 | some p,some (.tuple ys)=>if p.depth≤62 then .ok (.bl (ys.any fun z=>z.eqv p)) c else .bad
 | _,_=>.bad
def notInD:D→D→LC→R D:=fun x y c=>match datC c x,datC c y with
 | some p,some (.list ys)=>if p.depth≤62 then .ok (.bl (!ys.any fun z=>z.eqv p)) c else .bad
 | some p,some (.tuple ys)=>if p.depth≤62 then .ok (.bl (!ys.any fun z=>z.eqv p)) c else .bad
 | _,_=>.bad
section
variable {X:Cx} {pins:List (Addr×Obj)} {σ:St} {ρ:List Addr} {H:Hp} {s:Shared} {c:LC}
mutual
theorem qb2 (I:Inv X pins σ H s):∀ (d:D) (v:V) (u:Value) (p:PyData),Rel X.K ρ H d v→RelV v u→datD d=some p→(∃ as,Reads s.heap u p as)∧p.canLay0=true
 | .non,v,u,p,r,ru,e=>by
  cases r; cases ru; cases e
  exact ⟨⟨_,.none⟩,by simp [PyData.canLay0]⟩
 | .bl b,v,u,p,r,ru,e=>by
  cases r; cases ru; cases e
  exact ⟨⟨_,.bool b⟩,by simp [PyData.canLay0]⟩
 | .int i,v,u,p,r,ru,e=>by
  cases r; obtain ⟨t,rfl⟩:=ru; cases e
  exact ⟨⟨_,.int i t⟩,by simp [PyData.canLay0]⟩
 | .str x,v,u,p,r,ru,e=>by
  cases r; obtain ⟨t,rfl⟩:=ru
  unfold datD at e
  split at e
  ·rename_i hx
   cases e
   exact ⟨⟨_,.str x t⟩,by simpa [PyData.canLay0] using hx⟩
  ·cases e
 | .tup l,v,u,p,r,ru,e=>by
  obtain ⟨a,xs,rfl,ha,rs⟩:=r
  cases ru
  unfold datD at e
  split at e
  ·rename_i q hq
   cases e
   obtain ⟨its,vs,⟨o,h1,h2,n,h3⟩,_⟩:=I.tuple (SqT.of ha)
   obtain ⟨⟨as,ra⟩,hc⟩:=qdL I l xs its q rs vs hq
   exact ⟨⟨_,.tuple h1 h2 h3 (by simpa using ra)⟩,by simpa [PyData.canLay0] using hc⟩
  ·cases e
 | .lst l,v,u,p,r,ru,e=>by
  obtain ⟨a,xs,rfl,ha,rs⟩:=r
  cases ru
  unfold datD at e
  split at e
  ·rename_i q hq
   cases e
   obtain ⟨its,vs,pl,_⟩:=I.list (SqL.of ha.1)
   obtain ⟨o,h1,h2,n,h3⟩:=pl.isList
   obtain ⟨⟨as,ra⟩,hc⟩:=qdL I l xs its q rs vs hq
   exact ⟨⟨_,.list h1 h2 h3 (by simpa using ra)⟩,by simpa [PyData.canLay0] using hc⟩
  ·cases e
 | .ty _,v,u,p,r,ru,e=>by simp [datD] at e
 | .ref _,v,u,p,r,ru,e=>by simp [datD] at e
 | .scr _,v,u,p,r,ru,e=>by simp [datD] at e
 | .fn _ _,v,u,p,r,ru,e=>by simp [datD] at e
 | .exc _,v,u,p,r,ru,e=>by simp [datD] at e
 | .dic,v,u,p,r,ru,e=>by simp [datD] at e
 | .dct _,v,u,p,r,ru,e=>by simp [datD] at e
 | .lam _ _ _ _,v,u,p,r,ru,e=>by simp [datD] at e
theorem qdL (I:Inv X pins σ H s):∀ (l:List D) (vs:List V) (us:List Value) (ps:List PyData),Rels X.K ρ H l vs→Vals vs us→qdU l=some ps→(∃ as,ReadsAll s.heap us ps as)∧PyData.canLayAll0 ps=true
 | [],vs,us,ps,r,ru,e=>by
  cases r; cases ru; cases e
  exact ⟨⟨_,.nil⟩,by simp [PyData.canLayAll0]⟩
 | d :: l,vs,us,ps,r,ru,e=>by
  obtain ⟨x,xs,rfl,r1,r2⟩:=r
  cases ru with
  | cons q1 q2 =>
   unfold qdU at e
   split at e
   ·rename_i a r e1 e2
    cases e
    obtain ⟨⟨as,ra⟩,ca⟩:=qb2 I d x _ a r1 q1 e1
    obtain ⟨⟨bs,rb⟩,cb⟩:=qdL I l xs _ r r2 q2 e2
    exact ⟨⟨_,.cons ra rb⟩,by simp [PyData.canLayAll0,ca,cb]⟩
   ·cases e
end
theorem qcN (I:Inv X pins σ H s) (W:Wd X.K ρ H c) {d:D} {v:V} {u:Value} {p:PyData} (r:Rel X.K ρ H d v) (ru:RelV v u) (e:datC c d=some p):(∃ as,Reads s.heap u p as)∧p.canLay0=true:=by
 cases d with
 | ref k =>
  unfold datC at e
  dsimp only at e
  cases hc:c[k]? with
  | none=>rw [hc] at e; cases e
  | some cl =>
   cases cl with
   | lst l =>
    rw [hc] at e
    dsimp only at e
    split at e
    ·rename_i q hq
     cases e
     obtain ⟨a,rfl,s1⟩:=r
     cases ru
     obtain ⟨_,xs,hx,rs⟩:=W.cel k a _ s1 hc
     obtain ⟨its,vs,pl,_⟩:=I.list (SqL.of hx)
     obtain ⟨o,h1,h2,n,h3⟩:=pl.isList
     obtain ⟨⟨as,ra⟩,hc⟩:=qdL I l xs its q rs vs hq
     exact ⟨⟨_,.list h1 h2 h3 (by simpa using ra)⟩,by simpa [PyData.canLay0] using hc⟩
    ·cases e
 | non=>exact qb2 I _ v u p r ru e
 | bl b=>exact qb2 I _ v u p r ru e
 | int b=>exact qb2 I _ v u p r ru e
 | str b=>exact qb2 I _ v u p r ru e
 | tup b=>exact qb2 I _ v u p r ru e
 | lst b=>exact qb2 I _ v u p r ru e
 | ty b=>exact qb2 I _ v u p r ru e
 | scr b=>exact qb2 I _ v u p r ru e
 | fn b n=>exact qb2 I _ v u p r ru e
 | exc b=>exact qb2 I _ v u p r ru e
 | dct b=>exact qb2 I _ v u p r ru e
 | dic=>exact qb2 I _ v u p r ru e
 | lam k y ns l=>exact qb2 I _ v u p r ru e
theorem od_nev (hu:X.A.units + 64 < cLine):OpR X (compareOp .NotEq) (r2 X.K nevD):=by
 intro pins s σ H v u vv uu Q I rv ru h
 obtain ⟨ρ,x,y,c,W,rx,ry,p⟩:=h
 unfold nevD at p
 split at p
 ·rename_i a b ha hb
  split at p
  ·rename_i hd
   obtain ⟨⟨as,ra⟩,ca⟩:=qcN I W rx rv ha
   obtain ⟨⟨bs,rb⟩,cb⟩:=qcN I W ry ru hb
   exact PySem.SeqAt.compareNe_shaped ra rb (by simp [PySem.SeqAt.shaped,ca,hd.1]) (by simp [PySem.SeqAt.shaped,cb,hd.2]) hu ⟨.bl _,H,I,rfl,p.here W rfl⟩
  ·exact p.elim
 ·exact p.elim
theorem in_room {A:Around} {p:PyData} {ys:List PyData} (hu:A.units + 64 < cLine) (hd:p.depth≤62):A.units + 1 + min (PyData.depthAll ys) p.depth < cLine:=by
 have:=Nat.min_le_right (PyData.depthAll ys) p.depth
 omega
theorem od_in (hu:X.A.units + 64 < cLine):OpR X (compareOp .In) (r2 X.K inD):=by
 intro pins s σ H v u vv uu Q I rv ru h
 obtain ⟨ρ,x,y,c,W,rx,ry,p⟩:=h
 unfold inD at p
 split at p
 ·rename_i a ys ha hb
  split at p
  ·rename_i hd
   obtain ⟨⟨as,ra⟩,ca⟩:=qcN I W rx rv ha
   obtain ⟨⟨bs,rb⟩,cb⟩:=qcN I W ry ru hb
   exact PySem.SeqAt.in_list_reads rb ra (by simpa [PyData.canLay0] using cb) ca (in_room hu hd) ⟨.bl _,H,I,rfl,p.here W rfl⟩
  ·exact p.elim
 ·rename_i a ys ha hb
  split at p
  ·rename_i hd
   obtain ⟨⟨as,ra⟩,ca⟩:=qcN I W rx rv ha
   obtain ⟨⟨bs,rb⟩,cb⟩:=qcN I W ry ru hb
   exact PySem.SeqAt.in_tuple_reads rb ra (by simpa [PyData.canLay0] using cb) ca (in_room hu hd) ⟨.bl _,H,I,rfl,p.here W rfl⟩
  ·exact p.elim
 ·exact p.elim
end
theorem hu64 {A:Around} {k:Nat} (hr:Room k A):A.units + 64 < cLine:=by have:=hr.un; omega
section
variable (c:LC)
@[simp] theorem dat_non:datD .non=some .none:=by simp only [datD]
@[simp] theorem dat_bl (b:Bool):datD (.bl b)=some (.bool b):=by simp only [datD]
@[simp] theorem dat_int (i:Int):datD (.int i)=some (.int i):=by simp only [datD]
@[simp] theorem dats_nil:qdU []=some []:=by simp only [qdU]
theorem dats_ints (l:List Int):qdU (l.map D.int)=some (l.map PyData.int):=by
 induction l with
 | nil=>simp
 | cons a l ih=>simp [qdU,ih]
end
end L2
namespace L2
open PySem PySem.Spec PyProof.Rows
section
variable {X:Cx}
end
def sumD:List D→LC→R D:=fun xs c=>match xs with
 | [.lst l]=>match qez l with
  | some is=>.ok (.int is.sum) c
  | none=>.bad
 | _=>.bad
def zip3D:List D→LC→R D:=fun xs c=>match xs with
 | [.tup [x0,x1,x2],.tup [y0,y1,y2],.tup [z0,z1,z2]]=>.ok (.lst [.tup [x0,y0,z0],.tup [x1,y1,z1],.tup [x2,y2,z2]]) c
 | _=>.bad
theorem vals3 {a b c:V} {us:List Value} (h:Vals [a,b,c] us):∃ u v w,us=[u,v,w]∧RelV a u∧RelV b v∧RelV c w:=by
 cases h with
 | cons h1 h =>
  cases h with
  | cons h2 h =>
   cases h with
   | cons h3 h=>cases h; exact ⟨_,_,_,rfl,h1,h2,h3⟩
theorem rels3 {K:PySem.W.Frag} {ρ:List Addr} {H:Hp} {a b c:D} {vs:List V} (h:Rels K ρ H [a,b,c] vs):∃ u v w,vs=[u,v,w]∧Rel K ρ H a u∧Rel K ρ H b v∧Rel K ρ H c w:=by
 obtain ⟨u,r,rfl,h1,v,r',rfl,h2,w,r'',rfl,h3,h4⟩:=h
 cases h4
 exact ⟨u,v,w,rfl,h1,h2,h3⟩
def mulB:D→D→LC→R D:=fun x y c=>match x,y with
 | .int i,.int j=>if ((-(2 ^ 64) < i∧i < 2 ^ 64)∨(-(2 ^ 64) < j∧j < 2 ^ 64))∨(i.natAbs < 2 ^ 2000∧j.natAbs < 2 ^ 2000) then .ok (.int (i * j)) c else .bad
 | _,_=>.bad
def divB:D→D→LC→R D:=fun x y c=>match x,y with
 | .int i,.int j=>if 0 < j∧j < 2 ^ 100 then .ok (.int (i / j)) c else .bad
 | _,_=>.bad
def shrD:D→D→LC→R D:=fun x y c=>match x,y with
 | .int i,.int j=>if 0≤j then .ok (.int (i / 2 ^ j.toNat)) c else .bad
 | _,_=>.bad
def andD:D→D→LC→R D:=fun x y c=>match x,y with
 | .int i,.int j=>.ok (.int (Builtin.bitAnd i j)) c
 | _,_=>.bad
section
variable {X:Cx}
end
section
variable (c:LC)
@[simp] theorem sum_ints (l:List Int):sumD [.lst (l.map D.int)] c=.ok (.int l.sum) c:=by
 unfold sumD
 simp [qek]
@[simp] theorem zip3_ok (x0 x1 x2 y0 y1 y2 z0 z1 z2:D):zip3D [.tup [x0,x1,x2],.tup [y0,y1,y2],.tup [z0,z1,z2]] c=.ok (.lst [.tup [x0,y0,z0],.tup [x1,y1,z1],.tup [x2,y2,z2]]) c:=rfl
end
end L2
namespace L2
open PySem PySem.Spec PyProof.Rows
def Itd (hi:Int) (n:Nat):It:=⟨fun i _=>i < n,fun i H x H'=>H'=H∧x=.int (hi - i),fun i _=>n≤i⟩
theorem turn_down {P:Program} {w:World} {K:PySem.W.Frag} {tg:Expr} (it:Addr) (hi:Int) (n:Nat):Turn P w K tg (Itd hi n) [it] it (fun i h=>IsRangeIter h it (hi + (i:Nat) * (-1)) ((n:Int) - (i:Nat)) (-1)) where
 mem:=by simp
 obj:=fun i h st b hb=>by
  have e:b=it:=by simpa using hb
  subst e
  exact ⟨_,st,fun v z=>by
   have z':Data.fields _=Data.cell v:=z
   cases z'⟩
 keep:=fun i h h' st k=>k it (by simp) _ st
 item:=by
  intro X hP hw hK hc i pins s σ H E I hf st hg
  subst hP hw hK
  obtain ⟨f0,f1,f2,f3,f4,f5⟩:=hf it (by simp)
  have W:=Walks.range (prog:=X.prog) (w:=X.w) (I.ok.hd hc) it hi (-1) n
  refine W.item i s _ _ hg st fun v h' tk hv st' kk=>?_
  obtain ⟨t,rfl⟩:=hv
  have I1:Inv X pins σ H { s with heap:=h',toks:=tk }:=I.turned (fun b o hb e=>kk b o (by simpa using hb) e) f0 f1 f3 f4 f5
  refine ⟨_,rfl,go_of (s:={ s with heap:=h',toks:=tk }) (n:="range_iterator") st' rfl rfl (by decide) ⟨.int (hi - i),H,I1,⟨t,?_⟩,⟨rfl,rfl⟩,st',fun b hb=>(hf b hb).1⟩⟩
  congr 1
  omega
 done:=by
  intro X hP hw hK hc i pins s σ H E I hf st hg
  subst hP hw hK
  obtain ⟨f0,f1,f2,f3,f4,f5⟩:=hf it (by simp)
  exact wpAny_pyNext_range_end (I.ok.hd hc) st (by have:n≤i:=hg; omega) fun h' eb=>⟨rfl,I.turned (t':=s.toks) (fun b o hb e=>eb b o hb e) f0 f1 f3 f4 f5⟩
 self:=fun _ _ _ _ _ st h=>wpAny_pyIter_rangeiter st h
theorem qdW (a b:Int):Builtin.Range.rangeSize a b (-1)=if b < a then a - b else 0:=by
 unfold Builtin.Range.rangeSize
 rw [if_neg (by decide)]
 simp only [show (-(-1):Int)=1 by decide,Int.ediv_one]
 split <;> omega
theorem small_down {hi lo:Int} (h1:-(2 ^ 62)≤lo) (h2:lo < 2 ^ 62) (h3:-(2 ^ 62)≤hi) (h4:hi < 2 ^ 62):Builtin.Range.small hi lo (-1)=true:=by
 unfold Builtin.Range.small
 rw [qdW]
 simp only [Builtin.Range.rangeFitsLong,Bool.and_eq_true,Bool.or_eq_true,decide_eq_true_eq,beq_iff_eq,show ¬ ((-1:Int) > 0) by decide,if_false]
 split <;> omega
def dnD (hi lo:Int):List D:=(List.range (hi - lo).toNat).map fun (i:Nat)=>D.int (hi - (i:Int))
def dRng3 (a:dS):Ev→LC→R Src:=fun e c=>(a e c).bind fun xs c=>match xs with
 | [.int i,.int j,.int s]=>if s = -1∧-(2 ^ 62)≤i∧i < 2 ^ 62∧-(2 ^ 62)≤j∧j < 2 ^ 62 then .ok ⟨dnD i j,fun _=>True⟩ c else .bad
 | _=>.bad
section
variable {X:Cx} {tg:Expr} {K:PySem.W.Frag} {ρ:List Addr} {H:Hp}
theorem down_it {pins:List (Addr×Obj)} {σ:St} {H:Hp} {s:Shared} {R:It→Hp→Prop} {E:Value→Shared→Prop} {lo hi:Int} {t u v:Tok} {tk:Nat} (I:Inv X pins σ H s) (h1:-(2 ^ 62)≤lo) (h2:lo < 2 ^ 62) (h3:-(2 ^ 62)≤hi) (h4:hi < 2 ^ 62)
  (q:R (Itd hi (hi - lo).toNat) H):wpAny (model X.prog X.w) X.A (pyIter (.ref s.heap.objs.size)) (PIE X pins σ tg R) E { s with heap:=s.heap.push { cls:=.type "range",data:=.fields #[.int hi t,.int lo u,.int (-1) v] },toks:=tk }:=by
 refine wpAny_pyIter_range (IsRange.new ..) (small_down h1 h2 h3 h4) ?_
 have I1:Inv X pins σ H { s with heap:=s.heap.push { cls:=.type "range",data:=.fields #[.int hi t,.int lo u,.int (-1) v] },toks:=tk }:=I.kept fun b o e=>Heap.get?_push_of_some _ e
 refine ⟨(s.heap.push { cls:=.type "range",data:=.fields #[.int hi t,.int lo u,.int (-1) v] }).objs.size,[(s.heap.push { cls:=.type "range",data:=.fields #[.int hi t,.int lo u,.int (-1) v] }).objs.size],_,_,H,rfl,
  I1.kept (t':=tk) fun b o e=>Heap.get?_push_of_some _ e,turn_down _ hi (hi - lo).toNat,?_,fun b hb=>?_,q⟩
 ·have e1:hi + ((0:Nat):Int) * (-1)=hi:=by simp
  have e2:(((hi - lo).toNat:Nat):Int) - ((0:Nat):Int)=Builtin.Range.rangeSize hi lo (-1):=by rw [qdW]; split <;> omega
  show IsRangeIter _ _ (hi + ((0:Nat):Int) * (-1)) ((((hi - lo).toNat:Nat):Int) - ((0:Nat):Int)) (-1)
  rw [e1,e2]
  exact Heap.get?_push_size _ rfl
 ·have e:b=(s.heap.push { cls:=.type "range",data:=.fields #[.int hi t,.int lo u,.int (-1) v] }).objs.size:=by simpa using hb
  subst e
  exact I1.fpOk (Nat.le_refl _) (I1.hok.fresh (Nat.le_refl _))
theorem js_down {lo hi:Int} {st:LC→Prop}:JS K ρ H ⟨dnD hi lo,st⟩ (Itd hi (hi - lo).toNat):=by
 intro ρ' H' c' W E s i
 refine ⟨fun d hd=>?_,fun e=>?_⟩
 ·have hd:(dnD hi lo)[i]? = some d:=hd
  unfold dnD at hd
  rw [List.getElem?_map,Option.map_eq_some_iff] at hd
  obtain ⟨k,hk,rfl⟩:=hd
  obtain ⟨h1,h2⟩:=List.getElem?_eq_some_iff.mp hk
  rw [List.getElem_range] at h2
  subst h2
  have h1:i < (hi - lo).toNat:=by simpa using h1
  refine ⟨h1,fun x H2 hy=>?_⟩
  obtain ⟨rfl,rfl⟩:=hy
  exact ⟨W,Ext.refl,rfl⟩
 ·have:(dnD hi lo).length=(hi - lo).toNat:=by simp [dnD]
  show (hi - lo).toNat≤i
  rw [e]
  exact Nat.le_of_eq this.symm
def iRng3 (ta:TA):TI:=fun σ H R=>ta σ H fun vs H1=>∃ i j:Int,vs=[.int i,.int j,.int (-1)]∧(-(2 ^ 62)≤i∧i < 2 ^ 62∧-(2 ^ 62)≤j∧j < 2 ^ 62)∧R (Itd i (i - j).toNat) H1
theorem pi_range3 {a b c:Expr} {ta:TA} {p pos:Pos} (hg:Gl X "range") (hm:X.mg "range"=none) (ha:PA X [a,b,c] ta) (hs:starEach [a,b,c] X.env=(false,eval a X.env) :: starEach [b,c] X.env:=by exact qaQ rfl) (hs2:(backTo pos (starEach [b,c] X.env)).any (·.1)=false:=by exact qbV rfl) :
  PI X tg (.Call (.Name "range" p) [a,b,c] [] pos) (iRng3 ta):=by
 intro pins s σ H R I h
 refine Call_ (qej I hg hm boot_range (PyProof.Rows.callWith_type1 (thn (ha pos pins s σ H _ I h) fun us s1 ⟨vs,H1,I1,r1,q1⟩=>?_) hs hs2))
 obtain ⟨i,j,e,⟨q1,q2,q3,q4⟩,q⟩:=q1
 subst e
 obtain ⟨u,v,w,rfl,⟨t1,rfl⟩,⟨t2,rfl⟩,⟨t3,rfl⟩⟩:=vals3 r1
 exact call_range_3 (by decide) (down_it I1 q3 q4 q1 q2 q) (.inl (PyProof.noPylong_small (by decide)))
theorem id_rng3 {a b c:Expr} {da:dS} {p pos:Pos} (ha:PAd X [a,b,c] da) (hm:X.mg "range"=none) (hg:Gl X "range":=by rfl) (hs:starEach [a,b,c] X.env=(false,eval a X.env) :: starEach [b,c] X.env:=by exact qaQ rfl) (hs2:(backTo pos (starEach [b,c] X.env)).any (·.1)=false:=by exact qbV rfl):PId X tg (.Call (.Name "range" p) [a,b,c] [] pos) (dRng3 da) :=
 (pi_range3 hg hm ha hs hs2).imp fun σ H Q h=>by
  obtain ⟨ρ,e,c,W,V,p⟩:=h
  refine ⟨ρ,e,c,W,V,post.bind p fun x c1 ρ1 H1 v _ W1 X1 r1 p1=>?_⟩
  split at p1
  ·rename_i i j s _
   split at p1
   ·rename_i hj
    obtain ⟨rfl,hj⟩:=hj
    obtain ⟨u,v,w,rfl,ru,rv,rw'⟩:=rels3 r1
    cases ru; cases rv; cases rw'
    exact ⟨i,j,rfl,hj,p1.here W1 js_down⟩
   ·exact p1.elim
  ·exact p1.elim
end
section
variable (e:Ev) (c:LC) (l:dS)
@[simp] theorem x_rng3:dRng3 l e c=(l e c).bind fun xs c=>match xs with
 | [.int i,.int j,.int s]=>if s = -1∧-(2 ^ 62)≤i∧i < 2 ^ 62∧-(2 ^ 62)≤j∧j < 2 ^ 62 then .ok ⟨dnD i j,fun _=>True⟩ c else .bad
 | _=>.bad:=rfl
end
def lowD (m:Nat):D→Bool
 | .ref k=>decide (k < m)
 | d=>qbT d
def lowE (m:Nat) (e:Ev):Bool:=e.all fun o=>match o with
 | some d=>lowD m d
 | none=>true
def sFrz (o x:Nat) (a b:dF):dF:=fun e c=>(a e c).bind fun f c1=>match f with
 | .nx e1=>(b e1 c1).bind fun f c2=>match f with
  | .nx e2=>match e2[o]?,e2[x]? with
   | some (some (.ref k)),some (some (.ref m))=>match c2[k]?,c2[m]? with
    | some (.lst l),some (.lst y)=>if m=c.length∧c2.length=c.length + 1∧k < m∧l.length < sizeLine∧lowE m (e2.set x none)=true then .ok (.nx (e2.set x none)) ((c2.take m).set k (.lst (l ++ [.lst y]))) else .bad
    | _,_=>.bad
   | _,_=>.bad
  | _=>.bad
 | _=>.bad
section
variable (e:Ev) (c:LC)
@[simp] theorem x_frz (o x:Nat) (a b:dF):sFrz o x a b e c=(a e c).bind fun f c1=>match f with
 | .nx e1=>(b e1 c1).bind fun f c2=>match f with
  | .nx e2=>match e2[o]?,e2[x]? with
   | some (some (.ref k)),some (some (.ref m))=>match c2[k]?,c2[m]? with
    | some (.lst l),some (.lst y)=>if m=c.length∧c2.length=c.length + 1∧k < m∧l.length < sizeLine∧lowE m (e2.set x none)=true then .ok (.nx (e2.set x none)) ((c2.take m).set k (.lst (l ++ [.lst y]))) else .bad
    | _,_=>.bad
   | _,_=>.bad
  | _=>.bad
 | _=>.bad:=rfl
end
end L2
namespace L2
open PySem PySem.Spec PyProof.Rows
def Flies (K:PySem.W.Frag) (H:Hp) (l:List Env) (x:Str) (h₀:Heap) (H₀:Hp) (e:Value) (h:Heap):Prop :=
 ∃ ea C t B,e=.ref ea∧PySem.W.nsIn K mainGlobals x=some (some (.ref C))∧Heap.FlyingW B l ea (.ref C) (.ref t) h∧(∀ b u,H b=some u→∃ o,B.get? b=some o) ∧
  (∀ b o,h₀.get? b=some o→b∉frs l→∃ o',B.get? b=some o')∧∀ b o,h₀.get? b=some o→H₀ b=none→b∉frs l→B.get? b=some o
def CXE (P:Program) (w:World) (K:PySem.W.Frag):CXT:=fun outer H s E e s'=>∃ x H',s'.os=s.os∧AllBare s'.gens∧Un (frs outer) [] H H' s.heap s'.heap∧HOk P w H' s'.heap∧Flies K H' outer x s.heap H e s'.heap∧E (.str x 0) none H'
def AccA (X:Cx) (x:Str) (H2:Hp):Prop :=
 ∀ pins σ H1 s1 e s2,Inv X pins σ H1 s1→s2.os=s1.os→AllBare s2.gens→Un (frs X.stack) [] H1 H2 s1.heap s2.heap→HOk X.prog X.w H2 s2.heap→Flies X.K H2 X.stack x s1.heap H1 e s2.heap→X.xe e s2
def AccX (X:Cx) (x:Str) (H2:Hp):Prop:=AccA X x H2 ∧
 (∀ pins σ s ea C args h',Inv X pins σ H2 s→PySem.W.nsIn X.K mainGlobals x=some (some (.ref C))→Heap.MadeExcOf s.heap h' ea (.ref C) args→X.xe (.ref ea) { s with heap:=h' })
theorem pass_accA {X:Cx}:Passes (CXE X.prog X.w X.K) X fun v _ H'=>∀ x,v=.str x 0→AccA X x H':=by
 intro pins σ H s e s' I h
 obtain ⟨x,H',h1,h2,h3,h4,h5,h6⟩:=h
 exact h6 x rfl pins σ H s e s' I h1 h2 h3 h4 h5
theorem objOk_get {P:Program} {w:World} {H:Hp} {h:Heap} {a:Addr} {o:HO} (x:ObjOk P w H h a o):∃ u,h.get? a=some u:=by
 cases o with
 | lst xs=>obtain ⟨_,_,_,_,e⟩:=x; exact ⟨_,e⟩
 | tup xs=>obtain ⟨_,_,_,_,e,_⟩:=x; exact ⟨_,e⟩
 | dK kvs=>obtain ⟨_,_,_,_,o,_,_,e,_⟩:=x; exact ⟨_,e⟩
 | dT kvs=>obtain ⟨_,_,_,_,o,_,_,e,_⟩:=x; exact ⟨_,e⟩
 | set S n=>obtain ⟨o,_,_,_,e,_⟩:=x; exact ⟨_,e⟩
 | ins C dx fs=>obtain ⟨_,_,_,e,_⟩:=x; exact ⟨_,e⟩
 | own y=>obtain ⟨_,e⟩:=x; exact ⟨_,e⟩
 | xd fs=>obtain ⟨_,⟨_,_,_,e,_⟩,_⟩:=x; exact ⟨_,e⟩
 | rng lo hi=>obtain ⟨_,_,_,e⟩:=x; exact ⟨_,e⟩
 | frz ob u=>obtain ⟨e,_⟩:=x; exact ⟨_,e⟩
 | tbl ps=>exact ⟨_,(show h.get? a=some _ from x)⟩
 | met f y=>exact ⟨_,(show h.get? a=some _ from x)⟩
 | ext φ=>obtain ⟨_,⟨_,e⟩,_⟩:=x; exact ⟨_,e⟩
section
variable {P:Program} {w:World} {K:PySem.W.Frag} {mg:Str→Option Value} {base:Heap} {N:List Str} {qual:Str} {scope:Scope} {f:Addr} {cd:Value} {A:Around} {outer:List Env} {s:Shared} {H:Hp} {E:XK}
theorem qgA {H:Hp} {h h' B:Heap} (x:HOk P w H h) (st:B.StaysIn h') (sh:∀ b o,B.get? b=some o→h.get? b=some o) (trk:∀ b u,H b=some u→∃ o,B.get? b=some o):HOk P w H h':=fun a o e=>by
 refine (x a o e).stay (fun b u hb q=>?_) (fun _ q=>q) fun _ _ q=>q
 have hb':∃ u',H b=some u':=by
  rcases hb with rfl | hb
  ·exact ⟨_,e⟩
  ·exact ⟨_,hb⟩
 obtain ⟨u',hu⟩:=hb'
 obtain ⟨o',ho⟩:=trk b u' hu
 have:=sh b o' ho
 rw [q] at this
 cases this
 exact st b _ ho
theorem leave_made {pins:List (Addr×Obj)} {σ:St} {H1:Hp} {s1:Shared} {x:Str} {C ea:Addr} {args:List Value} {h':Heap} (I:Inv (cxOf (CXE P w K) P w K mg base N qual scope f cd A outer s H E) pins σ H1 s1) (hn:PySem.W.nsIn K mainGlobals x=some (some (.ref C)))
  (hx:Heap.MadeExcOf s1.heap h' ea (.ref C) args) (hE:E (.str x 0) none H1):(cxOf (CXE P w K) P w K mg base N qual scope f cd A outer s H E).xe (.ref ea) { s1 with heap:=h' }:=by
 have hfr:(A.deeper (envOfC qual scope s.heap.objs.size f cd)).frames=some (envOfC qual scope s.heap.objs.size f cd :: outer):=I.ok.frames
 have hst:=I.stack
 have hsF:=I.stkFree
 have hb:=I.base
 have hfs:frs (envOfC qual scope s.heap.objs.size f cd :: outer)=s.heap.objs.size :: frs outer:=rfl
 have nex:∀ b:Addr,b∉(cxOf (CXE P w K) P w K mg base N qual scope f cd A outer s H E).ex:=fun b z=>absurd (show b∈([]:List Addr) from z) (by simp)
 let as:=frs (envOfC qual scope s.heap.objs.size f cd :: outer)
 have hin:∀ env∈(envOfC qual scope s.heap.objs.size f cd :: outer),∀ a,env.frame=some a→a∈as:=fun env he b hb=>List.mem_filterMap.mpr ⟨env,he,hb⟩
 have hF:s1.heap.FunFrames (PySem.W.hideAll s1.heap as) (envOfC qual scope s.heap.objs.size f cd :: outer):=PySem.W.funFrames_hide hst hin
 show wpAny (model P w) (A.deeper (envOfC qual scope s.heap.objs.size f cd)) (leaving (envOfC qual scope s.heap.objs.size f cd) (.ref ea)) _ _ _
 refine wpAny_leaves_madeW (base:=PySem.W.hideAll s1.heap as) hfr rfl (fun b o q=>PySem.W.of_hideAll _ q) hF hx fun h'' t fl _ _ up=>?_
 have inB:∀ b o,s1.heap.get? b=some o→b∉as→(PySem.W.hideAll s1.heap as).get? b=some o:=fun b o q n=>PySem.W.hideAll_get _ q n
 have st:(PySem.W.hideAll s1.heap as).StaysIn h'':=fl.1
 have old:∀ b o,s.heap.get? b=some o→b∉frs outer→b∉as:=fun b o q n m=>by
  have m:b∈s.heap.objs.size :: frs outer:=m
  rcases List.mem_cons.mp m with e | m
  ·exact absurd (Heap.lt_size q) (by rw [e]; exact Nat.lt_irrefl _)
  ·exact n m
 have trk:∀ b u,H1 b=some u→∃ o,(PySem.W.hideAll s1.heap as).get? b=some o:=fun b u e=>by
  have hna:b∉as:=fun m=>by rw [hsF b m] at e; cases e
  have hlt:=(I.hok b u e).lt
  obtain ⟨o,ho⟩:∃ o,s1.heap.get? b=some o:=by
   have:=(I.hok b u e)
   exact objOk_get this
  exact ⟨o,inB b o ho hna⟩
 refine ⟨x,H1,I.os,I.bare,⟨fun b o q n nf _=>?_,fun b o q n hf _=>?_,fun b o q n hx'=>hb.free b o q n hx',fun b o q hx'=>?_,hb.tups,hb.frzs,hb.tbls⟩,qgA I.hok st (fun b o q=>PySem.W.of_hideAll _ q) trk,⟨ea,C,t,_,rfl,hn,fl,trk,fun b o q n=>?_,fun b o q n nf=>?_⟩,hE⟩
 ·exact st b o (inB b o (hb.keep b o q n nf (nex b)) (old b o q nf))
 ·obtain ⟨sl,e1⟩:=hb.slot b o q n hf (nex b)
  have hm:b∈as:=List.mem_cons_of_mem _ hf
  obtain ⟨_,o2,ho2,hd2⟩:=hst.mem hm
  rw [e1] at ho2; cases ho2
  obtain ⟨sl2,e2⟩:=up b _ (hx.keeps _ _ e1) hd2
  exact ⟨sl2,e2⟩
 ·obtain ⟨o1,e1⟩:=hb.there b o q (nex b)
  by_cases hm:b∈as
  ·obtain ⟨_,o2,ho2,hd2⟩:=hst.mem hm
   obtain ⟨sl2,e2⟩:=up b _ (hx.keeps _ _ ho2) hd2
   exact ⟨_,e2⟩
  ·exact ⟨_,st b _ (inB b _ e1 hm)⟩
 ·obtain ⟨o1,e1⟩:=hb.there b o q (nex b)
  exact ⟨o1,inB b o1 e1 (old b o q n)⟩
 ·exact inB b o (hb.keep b o q n nf (nex b)) (old b o q nf)
theorem leave_on {pins:List (Addr×Obj)} {σ:St} {H1 H2:Hp} {s1 s2:Shared} {x:Str} {e:Value} (I:Inv (cxOf (CXE P w K) P w K mg base N qual scope f cd A outer s H E) pins σ H1 s1) (hos:s2.os=s1.os) (hba:AllBare s2.gens)
  (un:Un (frs (envOfC qual scope s.heap.objs.size f cd :: outer)) [] H1 H2 s1.heap s2.heap) (hok:HOk P w H2 s2.heap) (fly:Flies K H2 (envOfC qual scope s.heap.objs.size f cd :: outer) x s1.heap H1 e s2.heap) (hE:E (.str x 0) none H2) :
  (cxOf (CXE P w K) P w K mg base N qual scope f cd A outer s H E).xe e s2:=by
 obtain ⟨ea,C,t,B,rfl,hn,fl,trk,old,eq⟩:=fly
 have hfr:(A.deeper (envOfC qual scope s.heap.objs.size f cd)).frames=some (envOfC qual scope s.heap.objs.size f cd :: outer):=I.ok.frames
 have hst:=I.stack
 have hb:=I.base
 have nex:∀ b:Addr,b∉(cxOf (CXE P w K) P w K mg base N qual scope f cd A outer s H E).ex:=fun b z=>absurd (show b∈([]:List Addr) from z) (by simp)
 let as:=frs (envOfC qual scope s.heap.objs.size f cd :: outer)
 have olds:∀ b o,s.heap.get? b=some o→b∉frs outer→b∉as:=fun b o q n m=>by
  have m:b∈s.heap.objs.size :: frs outer:=m
  rcases List.mem_cons.mp m with e | m
  ·exact absurd (Heap.lt_size q) (by rw [e]; exact Nat.lt_irrefl _)
  ·exact n m
 have sh:∀ b o,B.get? b=some o→s2.heap.get? b=some o:=fl.1
 have fr2:=fl.2.2.1
 show wpAny (model P w) (A.deeper (envOfC qual scope s.heap.objs.size f cd)) (leaving (envOfC qual scope s.heap.objs.size f cd) (.ref ea)) _ _ _
 refine wpAny_leaves_onW hfr rfl fl fun h'' fl2 up=>?_
 have st:B.StaysIn h'':=fl2.1
 have I':s2.os=s.os:=hos.trans I.os
 have frame:∀ b,b∈as→∃ o,s2.heap.get? b=some o∧∀ vs,o.data≠.fields vs:=fun b hm=>(fr2.mem hm).2
 refine ⟨x,H2,I',hba,⟨fun b o q n nf _=>?_,fun b o q n hf _=>?_,fun b o q n _=>?_,fun b o q _=>?_,fun b xs q=>un.tups b xs (hb.tups b xs q),fun b o u q=>un.frzs b o u (hb.frzs b o u q),fun b ps q=>?_⟩,qgA hok st sh trk,⟨ea,C,t,B,rfl,hn,fl2,trk,fun b o q n=>?_,fun b o q n nf=>?_⟩,hE⟩
 ·exact st b o (eq b o (hb.keep b o q n nf (nex b)) (hb.free b o q n (nex b)) (olds b o q nf))
 ·obtain ⟨sl,e1⟩:=hb.slot b o q n hf (nex b)
  have hm:b∈as:=List.mem_cons_of_mem _ hf
  obtain ⟨sl2,e2⟩:=un.slot b _ e1 (hb.free b o q n (nex b)) hm (by simp)
  obtain ⟨o3,ho3,hd3⟩:=frame b hm
  rw [e2] at ho3; cases ho3
  obtain ⟨sl4,e4⟩:=up b _ e2 hd3
  exact ⟨sl4,e4⟩
 ·obtain ⟨o1,e1⟩:=hb.there b o q (nex b)
  exact un.free b o1 e1 (hb.free b o q n (nex b)) (by simp)
 ·obtain ⟨o1,e1⟩:=hb.there b o q (nex b)
  by_cases hm:b∈as
  ·obtain ⟨o3,ho3,hd3⟩:=frame b hm
   obtain ⟨sl4,e4⟩:=up b _ ho3 hd3
   exact ⟨_,e4⟩
  ·obtain ⟨o2,e2⟩:=old b o1 e1 hm
   exact ⟨_,st b _ e2⟩
 ·obtain ⟨m1,q1⟩:=hb.tbls b ps q
  obtain ⟨m2,q2⟩:=un.tbls b _ q1
  exact ⟨m1 ++ m2,by rw [q2,Array.append_assoc]⟩
 ·obtain ⟨o1,e1⟩:=hb.there b o q (nex b)
  exact old b o1 e1 (olds b o q n)
 ·exact eq b o (hb.keep b o q n nf (nex b)) (hb.free b o q n (nex b)) (olds b o q nf)
theorem acc_def {x:Str} {H2:Hp} (hE:E (.str x 0) none H2):AccX (cxOf (CXE P w K) P w K mg base N qual scope f cd A outer s H E) x H2 :=
 ⟨fun pins σ H1 s1 e s2 I h1 h2 h3 h4 h5=>leave_on I h1 h2 h3 h4 h5 hE,fun pins σ s1 ea C args h' I hn hx=>leave_made I hn hx hE⟩
end
section
variable {X:Cx}
theorem ps_raise {x:Str} {C:Addr} {B newId initId:String} {bm:List Value} {txt:Str} {j:Nat} {np cpos pos tpos:Pos} {t:TS} (hn:PySem.W.nsIn X.K mainGlobals x=some (some (.ref C))) (hm:X.mg x=some (.ref C)) (hO:∀ h,X.K.In h→OwnCls x C bm newId X.mg h) (FB:ExcBaseFacts B newId initId bm) (hc:X.calm=true)
  (ht:∀ D σ H,t D σ H→AccX X x H) (hg:Gl X x:=by rfl) (hd:(x == ("__debug__":Str))=false:=by decide):PS X (.Raise (some (.Call (.Name x np) [.Constant (.str txt) j tpos] [] cpos)) none pos) t:=by
 intro pins s σ H D I h
 have acc:=ht D σ H h
 obtain ⟨tl,N,nm,q,bs,hdct,sn,sub,ab,col,dd,k0,k1,k2,k3,k5,mN,hC,hN,hni,T⟩:=(hO s.heap I.kIn).obj
 refine wpAny_Raise_call_subT (C:=C) (nm:=nm) (q:=q) (N:=N) (bs:=bs) (bm:=tl) (hdct:=hdct) (sn:=sn) (sub:=sub) (ab:=ab) (col:=col) (dd:=dd) (k0:=k0) (k1:=k1) (k2:=k2) (k3:=k3) (k5:=k5)
  FB (mN:=mN) (T.hasType FB.hasBase) (I.ok.hd hc) (by rfl) hni (qfh I hg hm ⟨rfl,?_⟩ hd)
 have hs:starEach [Expr.Constant (.str txt) j tpos] X.env=[(false,eval (.Constant (.str txt) j tpos) X.env)]:=by simp only [starEach]
 rw [hs]
 refine Calls.evalArgs_plain ?_
 show wpAny _ _ (spliced ((false,eval (Expr.Constant (.str txt) j tpos) X.env) :: [])) _ _ _
 refine Calls.spliced_cons (Calls.Constant_str ?_)
 refine Calls.spliced_nil ?_
 refine ⟨rfl,by show 1≤sizeLine; decide,hC,hN,T,fun h' e hx=>?_⟩
 exact acc.2 pins σ _ e C _ h' (I.tok _) hn hx
end
end L2
namespace L2
open PySem PySem.Spec PyProof.Rows
abbrev Xd:=Ev→LC→R Str
def tXD (X:Cx) (P:Str→Hp→Prop) (d:Xd):St→Hp→Prop:=fun σ H=>tD X.K (fun _ _ a b=>a=b) d σ H P
abbrev PSx (X:Cx) (P:Str→Hp→Prop) (st:Stmt) (d:Xd):Prop:=PS X st fun _ σ H=>tXD X P d σ H
abbrev PSsx (X:Cx) (P:Str→Hp→Prop) (st:List Stmt) (d:Xd):Prop:=PSs X st fun _ σ H=>tXD X P d σ H
abbrev PEx (X:Cx) (P:Str→Hp→Prop) (e:Expr) (d:Xd):Prop:=PE X e fun σ H _=>tXD X P d σ H
def spX (K:PySem.W.Frag) (n:Nat) (m:List D→LC→R Str):Sp:=fun vs H _ E=>∃ ρ xs c,Wd K ρ H c∧Rels K ρ H xs vs∧xs.length=n∧post K (fun _ _ a b=>a=b) (m xs c) ρ H fun x H'=>E (.str x 0) none H'
def fnX (n:Nat) (d:Xd):List D→LC→R Str:=fun xs c=>(d (qbx n xs) c).bind fun x c'=>.ok x (c'.take c.length)
def xOr (a b:Xd):Xd:=fun e c=>match a e c with
 | .ok x c'=>.ok x c'
 | .bad=>b e c
def xSeq (t:dF) (u:Xd):Xd:=fun e c=>(t e c).bind fun f c=>match f with
 | .nx e=>u e c
 | _=>.bad
def xIf (t:dB) (a b:Xd):Xd:=fun e c=>(t e c).bind fun k c=>if k=true then a e c else b e c
def xCls (x:Str):Xd:=fun _ c=>.ok x c
def xBad:Xd:=fun _ _=>.bad
def xCall (n:Nat) (m:List D→LC→R Str) (a:dS):Xd:=fun e c=>(a e c).bind fun xs c=>if xs.length=n then m xs c else .bad
section
variable {X:Cx} {P:Str→Hp→Prop} {st:Stmt} {sts rest:List Stmt} {e:Expr} {a b d u:Xd} {t:dF} {pos:Pos}
theorem PA.nox {es:List Expr} {t:TA} (h:PA X.nox es t):PA X es t:=fun pos pins s σ H Q I hw =>
 wpAny_mono (h pos pins s σ H Q (I.wish _) hw) (fun _ _ ⟨v,H',I',r,q⟩=>⟨v,H',I'.unwish,r,q⟩) fun _ _ z=>False.elim z
theorem xd_none:PSsx X P sts xBad:=fun pins s σ H D I h=>by
 obtain ⟨ρ,e,c,W,V,p⟩:=h
 exact p.elim
theorem pss_false:PSs X sts fun _ _ _=>False:=fun _ _ _ _ _ _ h=>h.elim
theorem xd_here (h:PSx X P st d):PSsx X P (st :: rest) d:=(pss_cons h (pss_false (sts:=rest))).imp fun Z σ H q=>q
theorem xd_if {c':Expr} {A B:List Stmt} {tc:dB} (hc:PTd X.nox c' tc) (ha:PSsx X P A a) (hb:PSsx X P B b):PSx X P (.If c' A B pos) (xIf tc a b):=(ps_if (PT.nox hc) ha hb).imp fun Z σ H h=>by
 obtain ⟨ρ,e,c,W,V,p⟩:=h
 refine ⟨ρ,e,c,W,V,post.bind p fun x c1 ρ1 H1 v _ W1 X1 r1 p1=>?_⟩
 cases r1
 cases x with
 | true=>exact iteT ⟨ρ1,e,c1,W1,V.mono W X1,p1⟩
 | false=>exact iteF ⟨ρ1,e,c1,W1,V.mono W X1,p1⟩
theorem xd_ret (he:PEx X P e d):PSx X P (.Return (some e) pos) d:=(ps_ret he).imp fun Z σ H h=>h
structure XCls (K:PySem.W.Frag) (mg:Str→Option Value) (x:Str) (bm:List Value) (newId:String):Prop where
 ex:∃ C,PySem.W.nsIn K mainGlobals x=some (some (.ref C))∧mg x=some (.ref C)∧∀ h,K.In h→OwnCls x C bm newId mg h
theorem xd_raise {x:Str} {B newId initId:String} {bm:List Value} {txt:Str} {j:Nat} {np cpos tpos:Pos} (hC:XCls X.K X.mg x bm newId) (FB:ExcBaseFacts B newId initId bm) (hc:X.calm=true:=by rfl) (hg:Gl X x:=by rfl) (hd:(x == ("__debug__":Str))=false:=by decide) :
  PSx X (AccX X) (.Raise (some (.Call (.Name x np) [.Constant (.str txt) j tpos] [] cpos)) none pos) (xCls x):=by
 obtain ⟨C,hn,hm,hO⟩:=hC.ex
 refine ps_raise hn hm hO FB hc (fun Z σ H h=>?_) hg hd
 obtain ⟨ρ,e,c,W,V,p⟩:=h
 exact p.here W rfl
theorem xd_call {x:Str} {st:Stmt} {ps:List Str} {f:Addr} {fd:FuncData} {k n:Nat} {m:List D→LC→R Str} {e:Expr} {es:List Expr} {da:dS} {p:Pos} (D:Def X.K X.mg x st ps f fd) (G:FnOk X.prog X.w X.K X.mg X.base (CXE X.prog X.w X.K) k f fd ps (spX X.K n m)) (hr:Room k X.A) (ha:PAd X.nox (e :: es) da) (hx:∀ x H',P x H'→AccA X x H':=by first | exact fun _ _ h=>h.1 | exact fun _ _ h=>h) (hg:Gl X x:=by rfl)
  (hdb:(x == ("__debug__":Str))=false:=by decide) (he:starEach (e :: es) X.env=(false,eval e X.env) :: starEach es X.env:=by exact qaQ rfl) (hpl:(backTo pos (starEach es X.env)).any (·.1)=false:=by exact qbV rfl) :
  PEx X P (.Call (.Name x p) (e :: es) [] pos) (xCall n m da) :=
 (pe_call G hr hg D.at' D.fn.kp D.bd .nil (pass_accA (X:=X)) (PA.nox ha) hdb he hpl).imp fun σ H Q h=>by
  obtain ⟨ρ,e,c,W,V,q⟩:=h
  refine ⟨ρ,e,c,W,V,post.bind q fun xs c1 ρ1 H1 vs _ W1 X1 r1 p1=>?_⟩
  split at p1
  ·rename_i hl
   refine ⟨ρ1,xs,c1,W1,by rw [List.append_nil]; exact r1,hl,post.mono p1 fun x H' acc y hy=>?_⟩
   cases hy
   exact hx _ _ acc
  ·exact p1.elim
end
section
variable {P:Program} {w:World} {K:PySem.W.Frag} {mg:Str→Option Value} {base:Heap}
theorem fn_raises {x qual:Str} {st:Stmt} {f:Addr} {fd:FuncData} {N ps:List Str} {k n m:Nat} {d:Xd} (F:Fun K x qual st f fd) (S:qag N ps (qa4 st)) (hN:N.length=n) (hm:ps.length=m)
  (hb:∀ (cdv:Value) (A:Around) (outer:List Env) (s:Shared) (H:Hp) (E:XK),Room k (A.deeper (envOfC qual (qa4 st) s.heap.objs.size f cdv))→PSsx (cxOf (CXE P w K) P w K mg base N qual (qa4 st) f cdv A outer s H E) (AccX (cxOf (CXE P w K) P w K mg base N qual (qa4 st) f cdv A outer s H E)) (qaf st) d) :
  FnOk P w K mg base (CXE P w K) (k + 1) f fd ps (spX K m (fnX n d)):=by
 subst hN; subst hm
 obtain ⟨oc,od,kV,doc,pm,an,cdv,ct,osl,rfl,lk,hcd⟩:=F.ex
 refine fn_of lk hcd S (fun vs H Q E h=>?_) fun A outer s H vs Q E hr h=>⟨_,hb cdv A outer s H E hr,?_⟩
 ·obtain ⟨ρ,xs,c,W,r,hl,p⟩:=h
  exact r.length.trans hl
 ·obtain ⟨ρ,xs,c,W,r,hl,p⟩:=h
  refine ⟨ρ,qbx N.length xs,c,W,REnv.start r,post.bind p fun y c1 ρ1 H1 b _ W1 X1 r1 p1=>?_⟩
  cases r1
  refine acc_def ?_
  have hn:=Ext.len W W1 X1
  have p0:=p
  unfold fnX at p0
  rename_i he
  rw [he,R.bind_ok] at p0
  exact p0 (ρ1.take c.length) H1 _ (W1.cut hn) (X1.cut (Nat.le_of_eq W.len)) rfl
end
end L2
namespace L2
open PySem PySem.Spec PyProof.Rows
abbrev Cx.held (X:Cx) (e:Value):Cx:={ X with A:=X.A.mark (some e),calm:=false,xe:=fun _ _=>False }
abbrev Cx.tried (X:Cx) (W:Value→Shared→Prop) (pn:List (Addr×Obj)):Cx:={ X with xe:=W,pn:=pn }
section
variable {X:Cx} {pins pins':List (Addr×Obj)} {σ:St} {H H1 H2:Hp} {s s1 s2:Shared}
theorem Cx.Ok.held (ok:X.Ok) (e:Value):(X.held e).Ok :=
 ⟨ok.mod,ok.kind,ok.glob,ok.blt,ok.above,ok.inj,ok.has,ok.cab,(fun z=>by cases z),ok.frames,ok.stk,ok.exf,ok.bs,ok.bsz,ok.noex,ok.exfs,ok.funs,ok.frf⟩
theorem Cx.Ok.tried (ok:X.Ok) (W:Value→Shared→Prop) (pn:List (Addr×Obj)):(X.tried W pn).Ok :=
 ⟨ok.mod,ok.kind,ok.glob,ok.blt,ok.above,ok.inj,ok.has,ok.cab,ok.hd,ok.frames,ok.stk,ok.exf,ok.bs,ok.bsz,ok.noex,ok.exfs,ok.funs,ok.frf⟩
theorem Cx.Ok.untried {W:Value→Shared→Prop} {pn:List (Addr×Obj)} (ok:(X.tried W pn).Ok):X.Ok :=
 ⟨ok.mod,ok.kind,ok.glob,ok.blt,ok.above,ok.inj,ok.has,ok.cab,ok.hd,ok.frames,ok.stk,ok.exf,ok.bs,ok.bsz,ok.noex,ok.exfs,ok.funs,ok.frf⟩
theorem Inv.held (I:Inv X pins σ H s) (e:Value):Inv (X.held e) pins σ H s:=⟨I.ok.held e,I.os,I.bare,I.base,I.loc,I.cell,I.free,I.freeC,I.pin,I.hok,I.len⟩
theorem Inv.unheld {e:Value} (I:Inv (X.held e) pins σ H s) (ok:X.Ok):Inv X pins σ H s:=⟨ok,I.os,I.bare,I.base,I.loc,I.cell,I.free,I.freeC,I.pin,I.hok,I.len⟩
theorem Inv.tried (I:Inv X pins σ H s) (W:Value→Shared→Prop):Inv (X.tried W (X.pn ++ pins)) [] σ H s:=⟨I.ok.tried W _,I.os,I.bare,I.base,I.loc,I.cell,I.free,I.freeC,fun p hp=>I.pin p (by simpa using hp),I.hok,I.len⟩
theorem Inv.untried {W:Value→Shared→Prop} (I:Inv (X.tried W (X.pn ++ pins)) pins' σ H s):Inv X pins σ H s:=⟨I.ok.untried,I.os,I.bare,I.base,I.loc,I.cell,I.free,I.freeC,fun p hp=>I.pin p (List.mem_append_left _ hp),I.hok,I.len⟩
theorem fs_stack (ok:X.Ok) {b:Addr} (h:b∈X.fs):b∈frs X.stack:=by
 rcases ok.stk with e | ⟨e,hf⟩
 ·rw [e]; exact h
 ·rw [e]
  unfold frs
  rw [List.filterMap_cons,hf]
  exact List.mem_cons_of_mem _ h
theorem land {ea C:Addr} {t:Addr} {B h':Heap} (I:Inv X pins σ H1 s1) (hos:s2.os=s1.os) (hba:AllBare s2.gens) (un:Un (frs X.stack) [] H1 H2 s1.heap s2.heap) (hok:HOk X.prog X.w H2 s2.heap)
  (fl0:Heap.FlyingW B X.stack ea (.ref C) (.ref t) s2.heap) (fl:Heap.FlyingW B X.stack ea (.ref C) (.ref t) h') (up:s2.heap.UpToSlots h') (trk:∀ b u,H2 b=some u→∃ o,B.get? b=some o)
  (old:∀ b o,s1.heap.get? b=some o→b∉frs X.stack→∃ o',B.get? b=some o') (eq:∀ b o,s1.heap.get? b=some o→H1 b=none→b∉frs X.stack→B.get? b=some o) :
  H2 ea=none∧Inv X pins σ (upd H2 ea (.ext (excP ea C))) { s2 with heap:=h' }:=by
 have st:B.StaysIn h':=fl.1
 have hne:B.get? ea=none:=fl.2.1
 have hfree:H2 ea=none:=by
  cases q:H2 ea with
  | none=>rfl
  | some u=>obtain ⟨o,ho⟩:=trk ea u q; rw [hne] at ho; cases ho
 obtain ⟨oe,he,hc⟩:=fl.there
 have hfld:∃ vs,oe.data=.fields vs:=by
  obtain ⟨ob,ws,h1,h2,h3,_⟩:=fl.first
  rw [he] at h1; cases h1
  exact ⟨_,h3⟩
 have hstk:∀ b∈frs X.stack,b≠ea:=fun b hb e=>by
  subst e
  obtain ⟨_,o,ho,hd⟩:=fl.2.2.1.mem hb
  rw [he] at ho; cases ho
  obtain ⟨vs,q⟩:=hfld
  exact hd vs q
 have hs1:s1.heap.get? ea=none:=by
  cases q:s1.heap.get? ea with
  | none=>rfl
  | some o =>
   obtain ⟨o',ho'⟩:=old ea o q fun m=>hstk ea m rfl
   rw [hne] at ho'; cases ho'
 have ne1:∀ b o,s1.heap.get? b=some o→b≠ea:=fun b o q e=>by subst e; rw [hs1] at q; cases q
 have neT:∀ b u,H1 b=some u→b≠ea:=fun b u q=>by
  obtain ⟨o,ho⟩:=objOk_get (I.hok b u q)
  exact ne1 b o ho
 have hok':HOk X.prog X.w H2 h':=qgA hok st fl0.1 trk
 have hokN:HOk X.prog X.w (upd H2 ea (.ext (excP ea C))) h':=fun a o e=>by
  by_cases ha:a=ea
  ·subst ha
   rw [qbu] at e; cases e
   exact ⟨⟨oe,he,hc⟩,⟨oe,he⟩,fun h1 h2 ⟨o,ho,hoc⟩ k=>⟨o,k o ho,hoc⟩⟩
  ·rw [qao ha] at e
   refine (hok' a o e).stay (fun b u _ q=>q) (fun b q=>?_) fun b xs q=>?_
   ·rw [qao (qah q hfree)]; exact q
   ·rw [qao (qah q hfree)]; exact q
 refine ⟨hfree,?_⟩
 have key:=I.step (h':=h') (H':=upd H2 ea (.ext (excP ea C))) (g':=s2.gens) (t':=s2.toks) (d':=s2.drawn) (ch:=[]) (fun _ z=>nomatch z)
  (fun b o hb hf _ q n=>st b o (eq b o q n fun m=>by
   rcases List.mem_cons.mp (I.stkSub b m) with z | z
   ·exact hb z
   ·exact hf z))
  (fun b o hb hf _ q n=>by
   have hm:=fs_stack I.ok hf
   obtain ⟨sl,e1⟩:=un.slot b o q n hm (by simp)
   obtain ⟨_,o2,ho2,hd2⟩:=fl0.2.2.1.mem hm
   rw [e1] at ho2; cases ho2
   obtain ⟨sl2,e2⟩:=up b _ e1 hd2
   exact ⟨sl2,e2⟩)
  (fun b o _ q n=>by rw [qao (ne1 b o q)]; exact un.free b o q n (by simp))
  (fun b o _ q=>by
   by_cases hm:b∈frs X.stack
   ·obtain ⟨_,o2,ho2,hd2⟩:=fl0.2.2.1.mem hm
    obtain ⟨sl2,e2⟩:=up b _ ho2 hd2
    exact ⟨_,e2⟩
   ·obtain ⟨o',ho'⟩:=old b o q hm
    exact ⟨o',st b o' ho'⟩)
  (fun b xs q=>by rw [qao (neT b _ q)]; exact un.tups b xs q) (fun b o u q=>by rw [qao (neT b _ q)]; exact un.frzs b o u q) (fun b ps q=>by
   obtain ⟨m,e⟩:=un.tbls b ps q
   exact ⟨m,by rw [qao (neT b _ q)]; exact e⟩)
  (fun m hn=>by
   by_cases hm:X.env.locals∈frs X.stack
   ·obtain ⟨o,es,ep,ho,hd,r⟩:=hn
    obtain ⟨sl,e1⟩:=un.slot _ o ho I.free hm (by simp)
    exact up.ns ⟨_,es,ep,e1,hd,r⟩
   ·obtain ⟨o,es,ep,ho,hd,r⟩:=hn
    exact ⟨o,es,ep,st _ _ (eq _ o ho I.free hm),hd,r⟩) hokN hba
 obtain ⟨h2,g2,d2,t2,o2⟩:=s2
 have e:o2=s1.os:=hos
 subst e
 exact key
theorem name_gone {n:Str} {hpos:Pos} {E:Value→Shared→Prop} {Q:Unit→Shared→Prop} (I:Inv X pins σ H s) (hl:X.env.kindOf n=some .local) (h:∀ s',Inv X pins (List.replicate X.N.length none) H s'→Q () s') :
  wpAny (model X.prog X.w) X.A (do bindName X.env n .none; unbindBehindTheSuite X.env n hpos) Q E s:=by
 obtain ⟨m,hn,_⟩:=I.loc
 refine wpAny_nameGoes hl hn (by rw [I.ok.kind]; rfl) fun h' m' hn' sb=>?_
 have oth:∀ b o,b≠X.env.locals→s.heap.get? b=some o→h'.get? b=some o:=fun b o hb e=>(sb.2 b hb).trans e
 have neL:∀ b o,X.s₀.heap.get? b=some o→b≠X.env.locals:=fun b o e=>Nat.ne_of_lt (Nat.lt_of_lt_of_le (Heap.lt_size e) I.ok.above)
 have B:=I.base
 refine h _ ⟨I.ok,I.os,I.bare,⟨fun b o q n f x=>oth b o (neL b o q) (B.keep b o q n f x),fun b o q n f x=>?_,B.free,fun b o q x=>?_,B.tups,B.frzs,B.tbls⟩,⟨m',hn',fun i x v _ h _=>?_⟩,fun x c e=>?_,I.free,I.freeC,fun p hp=>?_,fun a o e=>?_,by simp⟩
 ·obtain ⟨sl,e⟩:=B.slot b o q n f x
  exact ⟨sl,oth b _ (neL b o q) e⟩
 ·obtain ⟨o',e⟩:=B.there b o q x
  exact ⟨o',oth b _ (neL b o q) e⟩
 ·rw [List.getElem?_replicate] at h
  split at h <;> cases h
 ·obtain ⟨v,o,ho,hd⟩:=I.cell x c e
  refine ⟨v,o,oth c o (fun z=>?_) ho,hd⟩
  obtain ⟨o',es,ep,ho',hd',_⟩:=hn
  rw [z,ho'] at ho; cases ho
  rw [hd'] at hd; cases hd
 ·obtain ⟨p1,p2,p3,p4,p5⟩:=I.pin p hp
  exact ⟨oth _ _ p3 p1,p2,p3,p4,p5⟩
 ·refine (I.hok a o e).stay (fun b u hb q=>oth b u (fun z=>?_) q) (fun _ q=>q) fun _ _ q=>q
  subst z
  rcases hb with rfl | hb
  ·rw [I.free] at e; cases e
  ·rw [I.free] at hb; cases hb
theorem ps_try {i:Nat} {n cn:Str} {Cn:Addr} {body:List Stmt} {b₀:Stmt} {suite:List Stmt} {np hpos pos:Pos} {tb:(Str→Hp→Prop)→St→Hp→Prop} {th:Addr→TS}
  (hB:∀ W pn,PSs (X.tried W pn) body fun _ σ H=>tb (AccA (X.tried W pn)) σ H) (mono:∀ (A A':Str→Hp→Prop) σ H,(∀ x H',A x H'→A' x H')→tb A σ H→tb A' σ H) (hS:∀ ea,PSs (X.held (.ref ea)) (b₀ :: suite) (th ea))
  (hN:X.N.Nodup) (hi:X.N[i]? = some n) (hl:X.env.scope.names.lookup n=some .local) (hg:Gl X cn) (hm:X.mg cn=some (.ref Cn)) (hstk:X.stack=X.env :: X.outer∧X.env.frame=some X.env.locals) (hd:(cn == ("__debug__":Str))=false:=by decide) :
  PS X (.Try body [.ExceptHandler (some (.Name cn np)) (some n) (b₀ :: suite) hpos] [] [] pos) fun D σ H=>tb (fun x H2=>∃ C,PySem.W.nsIn X.K mainGlobals x=some (some (.ref C))∧PySem.W.exmOne X.K (.ref C) (.ref Cn)=some true ∧
   ∀ (ea:Addr) (σ':St),σ'.length=X.N.length→H2 ea=none→th ea { nx:=fun _ _=>False,rt:=D.rt } (σ'.set i (some (.ref ea))) (upd H2 ea (.ext (excP ea C)))) σ H:=by
 intro pins s σ H D I h
 refine wpAny_Try_except ?_
 refine wpAny_mono (hB (fun e s₁=>wpAny (model X.prog X.w) X.A (noteFrame e X.env) (fun _ s₂=>wpAny (model X.prog X.w) X.A (setFlight e none) (fun _ s₃=>wpAny (model X.prog X.w) X.A (handleBy e X.env [.ExceptHandler (some (.Name cn np)) (some n) (b₀ :: suite) hpos]) (SP X pins D) X.xe s₃) X.xe s₂) X.xe s₁) (X.pn ++ pins)
  [] s σ H { nx:=fun _ _=>False,rt:=fun _ _=>False } (I.tried _) (mono _ _ σ H (fun x H2 acc=>?_) h)) (fun f s' q=>?_) fun _ _ z=>z
 ·obtain ⟨C,hn,hx,hth⟩:=acc
  intro pins' σ' H1 s1 e s2 I1 hos hba un hok fly
  obtain ⟨ea,C',t,B,rfl,hn',fl,trk,old,eq⟩:=fly
  have hn'':PySem.W.nsIn X.K mainGlobals x=some (some (.ref C')):=hn'
  rw [hn] at hn''
  cases hn''
  have ok:X.Ok:=I.ok
  have hfr:X.A.frames=some (X.env :: X.outer):=by rw [ok.frames,hstk.1]
  have fl:Heap.FlyingW B (X.env :: X.outer) ea (.ref C) (.ref t) s2.heap:=by
   have z:Heap.FlyingW B X.stack ea (.ref C) (.ref t) s2.heap:=fl
   rw [hstk.1] at z; exact z
  show wpAny (model X.prog X.w) X.A (noteFrame (.ref ea) X.env) _ _ s2
  refine wpAny_looks_onW hfr hstk.2 fl fun h3 held up3=>?_
  refine wpAny_landsW held fun h4 fl4 up4=>?_
  have up24:s2.heap.UpToSlots h4:=up3.trans up4
  have L4:=land (X:=X.tried _ _) I1 hos hba un hok (by show Heap.FlyingW B X.stack _ _ _ _; rw [hstk.1]; exact fl) (by show Heap.FlyingW B X.stack _ _ _ _; rw [hstk.1]; exact fl4) up24 trk old eq
  have I4:Inv X pins σ' (upd H2 ea (.ext (excP ea C))) { s2 with heap:=h4 }:=L4.2.untried
  refine wpAny_handleBy_cons (codeAny_handlers_test ?_) (by intro q; cases q)
  refine qfh (X:=X.held (.ref ea)) (I4.held _) hg hm ?_ hd
  have LT:PySem.W.Looks (model X.prog X.w) h4 (typeOf (.ref ea)) (.ref C):=by
   obtain ⟨ob,hob,hc⟩:=fl4.there
   rw [← hc]
   exact (PySem.W.Looks.ld hob).andThen .now
  refine (PySem.W.exm_one I4.kIn LT hx).here ?_
  dsimp only
  refine codeAny_handlers_suite_as ?_
  refine lands_againW fl4 fun h5 fl5 up5=>?_
  have L5:=land (X:=X.tried _ _) I1 hos hba un hok (by show Heap.FlyingW B X.stack _ _ _ _; rw [hstk.1]; exact fl) (by show Heap.FlyingW B X.stack _ _ _ _; rw [hstk.1]; exact fl5) (up24.trans up5) trk old eq
  have I5:Inv X pins σ' (upd H2 ea (.ext (excP ea C))) { s2 with heap:=h5 }:=L5.2.untried
  refine qga (X:=X.held (.ref ea)) (v:=.ref ea) (I5.held _) hN hi (.inl hl) rfl (fun s6 I6=>?_) (.inr hl)
  refine wpAny_mono (hS ea pins s6 _ _ { nx:=fun _ _=>False,rt:=D.rt } I6 (hth ea σ' (by rw [I5.len]) L5.1)) (fun f s7 q=>?_) fun _ _ z=>z.elim
  cases f with
  | next=>obtain ⟨_,_,_,z⟩:=q; exact z.elim
  | brk=>obtain ⟨_,_,_,z⟩:=q; exact z.elim
  | cont=>obtain ⟨_,_,_,z⟩:=q; exact z.elim
  | ret u =>
   obtain ⟨v,σ7,H7,I7,rv,q7⟩:=q
   exact name_gone (X:=X) (I7.unheld ok) hl fun s8 I8=>⟨v,_,H7,I8,rv,q7⟩
 ·cases f with
  | next=>obtain ⟨_,_,_,z⟩:=q; exact z.elim
  | brk=>obtain ⟨_,_,_,z⟩:=q; exact z.elim
  | cont=>obtain ⟨_,_,_,z⟩:=q; exact z.elim
  | ret u=>obtain ⟨_,_,_,_,_,z⟩:=q; exact z.elim
end
end L2
namespace PySem.W
open PySem PySem.Spec PySem.Calls PyProof.Rows Builtin Builtin.ObjectAttr Builtin.Getset_descriptor
structure ExcIn (K:Frag) (C:Addr):Prop where
 ga:findIn K (.ref C) "__getattribute__"=some (some (.builtin "BaseException.__getattribute__"))
 gn:findIn K (.ref C) "__getattr__"=some none
 cl:findIn K (.ref C) "__class__"=some (some (.builtin "object.__class__"))
 ob:mroIn K C (.type "object")=some true
 be:subIn K (.ref C) (.type "BaseException")=some true
 cc:(clsIn K C).isSome=true
def excIn' (K:Frag) (C:Addr):Bool:=findIn K (.ref C) "__getattribute__" == some (some (.builtin "BaseException.__getattribute__")) && findIn K (.ref C) "__getattr__" == some none && findIn K (.ref C) "__class__" == some (some (.builtin "object.__class__")) &&
 mroIn K C (.type "object") == some true && subIn K (.ref C) (.type "BaseException") == some true && (clsIn K C).isSome
theorem ExcIn.of {K:Frag} {C:Addr} (h:excIn' K C=true):ExcIn K C:=by
 unfold excIn' at h
 simp only [Bool.and_eq_true,beq_iff_eq] at h
 exact ⟨h.1.1.1.1.1,h.1.1.1.1.2,h.1.1.1.2,h.1.1.2,h.1.2,h.2⟩
section
variable {prog:Program} {w:World} {A:Around} {E:Value→Shared→Prop} {K:Frag} {h:Heap} {g:Array GenState} {d:Drawn} {t:Nat} {os:OsState} {a C:Addr} {o:Obj}
theorem qgG {R:Result→Shared→Prop} {tp:Value} (Z:ExcIn K C) (X:K.In h) (hx:h.get? a=some o) (hc:o.cls=.ref C) (hq:R (.ok (.ret (.ref C))) ⟨h,g,d,t,os⟩) :
  codeAny (model prog w) A (.call (.builtin "getset_descriptor.__get__") ⟨[.builtin "object.__class__",.ref a,tp],[]⟩) R ⟨h,g,d,t,os⟩:=by
 have L0:Looks (model prog w) h (typeOf (.ref a)) (.ref C):=hc ▸ (Looks.ld hx).andThen .now
 have L1:=looks_mroIn (M:=model prog w) X Z.ob
 refine codeAny_call_builtin KF.slot_gs.plain KF.entry_gs (KF.slot_gs.check _ _ _ _ _ _ _ _ KF.type_class (KF.args_gs _ _ _) ?_)
 unfold Builtin.«getset_descriptor.__get__» descrGet
 rw [dga_obj]
 refine wpAny_bind (wpAny_pure ?_)
 unfold descrGetter descrCheckInstance descrNameAndClass isInstance
 simp only [KF.owner_class]
 repeat lk
 refine ⟨Code.quiet_builtin _ (by decide +kernel),codeAny_builtin KF.entry_class ?_⟩
 unfold Builtin.«object.__class__» shownTypeOf
 repeat lk
 exact hq
theorem qfq {tk:Tok} {Q:Fin→Shared→Prop} (Z:ExcIn K C) (X:K.In h) (hx:h.get? a=some o) (hc:o.cls=.ref C) (hq:Q (.done (.ret (.ref C))) ⟨h,g,d,t,os⟩) :
  wpAny (model prog w) A (Builtin.«object.__getattribute__» ⟨[.ref a,.str "__class__" tk],[]⟩) Q E ⟨h,g,d,t,os⟩:=by
 have hT5:(⟨h,g,d,t,os⟩:Shared).TypeIs (.builtin "object.__class__") "getset_descriptor":=F.typeOf_object_class
 have f5:=F.typeOf_object_class
 have f6:=F.slot_gs_get.lookup
 have f7:=F.slot_gs_set.lookup
 have L1:=looks_findIn (M:=model prog w) X Z.cl
 repeat (any_goals (first | assumption | (with_reducible refine wpAny_loadPart_at hx ?_; rw [hc]) | with_reducible refine L1.at ?_ | wp_step))
 refine qgG Z X hx hc ?_
 repeat (any_goals (first | assumption | wp_step))
theorem exc_check {nameV:Value} {Q:Unit→Shared→Prop} (Z:ExcIn K C) (X:K.In h) (hx:h.get? a=some o) (hc:o.cls=.ref C) (hq:Q () ⟨h,g,d,t,os⟩) :
  wpAny (model prog w) A (checkBuiltinCall "BaseException.__getattribute__" ⟨[.ref a,nameV],[]⟩) Q E ⟨h,g,d,t,os⟩:=by
 have hk:builtinKind "BaseException.__getattribute__"=some .slot:=by decide +kernel
 have hsplit:splitId "BaseException.__getattribute__"=some ("BaseException","__getattribute__"):=by decide +kernel
 have ha:=F.args_bexc_ga (.ref a) nameV
 have L1:=looks_subIn (M:=model prog w) X Z.be
 simp only [checkBuiltinCall,hk,hsplit]
 refine wpAny_bind ?_
 ·unfold isInstance
  repeat (first | (with_reducible refine wpAny_loadPart_at hx ?_; rw [hc]) | with_reducible refine L1.at ?_ | wp_step)
  exact hq
theorem qfI {tk:Tok} {R:Result→Shared→Prop} (Z:ExcIn K C) (X:K.In h) (hx:h.get? a=some o) (hc:o.cls=.ref C) (hq:R (.ok (.ret (.ref C))) ⟨h,g,d,t,os⟩) :
  codeAny (model prog w) A (.call (.builtin "BaseException.__getattribute__") ⟨[.ref a,.str "__class__" tk],[]⟩) R ⟨h,g,d,t,os⟩ :=
 codeAny_call_builtin F.excAttr_ValueError.ga.plain F.entry_bexc_ga (exc_check Z X hx hc (qfq Z X hx hc hq))
theorem exc_class_by {tk:Tok} {Q:Value→Shared→Prop} (Z:ExcIn K C) (X:K.In h) (hx:h.get? a=some o) (hc:o.cls=.ref C) (hq:Q (.ref C) ⟨h,g,d,t,os⟩):wpAny (model prog w) A (getAttrBy (.ref a) (.str "__class__" tk) false) Q E ⟨h,g,d,t,os⟩:=by
 have f3:=F.excAttr_ValueError.ga.bind (.ref a)
 have hx2:(Value.builtin "BaseException.__getattribute__" == Value.builtin "object.__getattribute__")=false:=by decide +kernel
 have hx1:(onTheHeap (Value.ref C) && Value.builtin "BaseException.__getattribute__" == Value.builtin "object.__getattribute__")=false:=by rw [hx2]; rfl
 have L1:=looks_findIn (M:=model prog w) X Z.ga
 have L2:=looks_findIn (M:=model prog w) X Z.gn
 repeat (any_goals (first | assumption | (with_reducible refine wpAny_loadPart_at hx ?_; rw [hc]) | with_reducible refine L1.at ?_ | with_reducible refine L2.at ?_ | wp_step))
 refine qfI Z X hx hc ?_
 repeat (any_goals (first | assumption | wp_step))
theorem exc_class {Q:Option Value→Shared→Prop} (Z:ExcIn K C) (X:K.In h) (hx:h.get? a=some o) (hc:o.cls=.ref C) (hq:Q (some (.ref C)) ⟨h,g,d,t + 1,os⟩):wpAny (model prog w) A (getAttr? (.ref a) "__class__") Q E ⟨h,g,d,t,os⟩:=by
 unfold getAttr? getAttrBy?
 repeat (any_goals (first | assumption | with_reducible apply exc_class_by Z X hx hc | wp_step))
theorem kitx_exc (Z:ExcIn K C):KitX K (.ref a) (.ref C) (L2.excP a C) where
 ty:=fun M h _ ⟨o,hx,hc⟩=>hc ▸ (Looks.ld hx).andThen .now
 it:=fun _ _ X _=>by
  have hcD:=Z.cc
  unfold clsIn at hcD
  split at hcD
  ·rename_i c' d' cd' sl' ho
   intro A' Q' E' s' k q
   unfold isType loadHead
   exact wpAny_bind (wpAny_loadPart (k _ _ (X _ _ ho)) (wpAny_pure q))
  ·cases hcD
 ne:=fun h tp dd its n sl X htp=>by
  have hcD:=Z.cc
  refine Bool.eq_false_iff.mpr fun q=>?_
  have e:C=tp:=Value.ref.inj (beq_iff_eq.mp q)
  subst e
  unfold clsIn at hcD
  split at hcD
  ·rename_i c' d' cd' sl' ho
   have z:=(X _ _ ho).symm.trans htp
   cases z
  ·cases hcD
 ca:=fun {_ _ _ _ _ s} X ⟨o,hx,hc⟩ k=>by obtain ⟨h,g,d,t,os⟩:=s; exact exc_class Z X hx hc k
end
end PySem.W
namespace L2
open PySem PySem.Spec PyProof.Rows
structure RoomH (k:Nat) (A:Around):Prop where
 dp:A.depth + 3 * k + 5 < recursionLimit
 un:A.units + 16 * k + 200 < cLine
theorem RoomH.deeper {k:Nat} {A:Around} (r:RoomH (k + 1) A) (env:Env):RoomH k (A.deeper env) :=
 ⟨by have:=r.dp; show A.depth + 1 + 3 * k + 5 < _; omega,by have:=r.un; show A.units + 3 + 16 * k + 200 < _; omega⟩
theorem RoomH.depth {k:Nat} {A:Around} (r:RoomH k A):A.depth < recursionLimit:=by have:=r.dp; omega
structure FnOkH (P:Program) (w:World) (K:PySem.W.Frag) (mg:Str→Option Value) (base:Heap) (k:Nat) (f:Addr) (fd:FuncData) (ps:List Str) (sp:Sp):Prop where
 len:∀ vs H Q E,sp vs H Q E→vs.length=ps.length
 run:∀ (A:Around) (outer:List Env) (s:Shared) (H:Hp) (args:Args) (us:List Value) (vs:List V) (Q:VK) (E:XK),RoomH k A→Env0 P w K mg base A outer s H→BindsTo s fd args (ps.zip us)→Vals vs us→sp vs H Q E →
  codeAny (model P w) A (.call (.ref f) args) (CR CX0 outer P w H s Q E) s
abbrev cxH (P:Program) (w:World) (K:PySem.W.Frag) (mg:Str→Option Value) (base:Heap) (N:List Str) (qual:Str) (scope:Scope) (f:Addr) (cd:Value) (A:Around) (outer:List Env) (s:Shared) (H:Hp) (E:XK):Cx :=
 { cxOf CX0 P w K mg base N qual scope f cd A outer s H E with calm:=false }
section
variable {P:Program} {w:World} {K:PySem.W.Frag} {mg:Str→Option Value} {base:Heap}
theorem inv_startH {N ps:List Str} {qual:Str} {scope:Scope} {f:Addr} {cd:Value} {A:Around} {outer:List Env} {s s1:Shared} {H:Hp} {E:XK} {us:List Value} {vs:List V}
  (S:qag N ps scope) (e0:Env0 P w K mg base A outer s H) (hl:vs.length=ps.length) (r:Vals vs us)
  (x:InCallC s s.heap.objs.size (bindL (envOfC qual scope s.heap.objs.size f cd).kindOf (ps.zip us) fun _=>none) (cellsFrom (s.heap.objs.size + 1) scope.names []) (bindC (envOfC qual scope s.heap.objs.size f cd).kindOf (ps.zip us) fun _=>none) s1) :
  Inv (cxH P w K mg base N qual scope f cd A outer s H E) [] (start N vs) H s1:=by
 have I:Inv (cxOf CX0 P w K mg base N qual scope f cd { A with handled:=none } outer s H E) [] (start N vs) H s1:=inv_start S rfl ⟨e0.frames,e0.mod,e0.bs,e0.bsz,e0.funs,e0.frf,e0.hok,e0.bare⟩ hl r x
 have ok:=I.ok
 exact ⟨⟨ok.mod,ok.kind,ok.glob,ok.blt,ok.above,ok.inj,ok.has,ok.cab,(fun z=>by cases z),Around.frames_deeper e0.frames,ok.stk,ok.exf,ok.bs,ok.bsz,ok.noex,ok.exfs,ok.funs,ok.frf⟩,I.os,I.bare,I.base,I.loc,I.cell,I.free,I.freeC,I.pin,I.hok,I.len⟩
theorem fn_ofH {k:Nat} {f:Addr} {name qual:Str} {params:Arguments} {body:List Stmt} {scope:Scope} {dV kV doc pm cdv ct oc:Value} {an od:Option Addr}
  {osl:Array (Option Value)} {N ps:List Str} {sp:Sp} (lk:K.lookup f=some ⟨oc,od,.func (PySem.W.fnOf name qual params body scope dV kV doc pm an cdv ct),osl⟩) (hcd:PySem.W.codeIn K cdv qual=true) (S:qag N ps scope)
  (len:∀ vs H Q E,sp vs H Q E→vs.length=ps.length)
  (hbody:∀ (A:Around) (outer:List Env) (s:Shared) (H:Hp) (vs:List V) (Q:VK) (E:XK),RoomH k (A.deeper (envOfC qual scope s.heap.objs.size f cdv))→sp vs H Q E →
   ∃ t,PSs (cxH P w K mg base N qual scope f cdv A outer s H E) body t∧t { nx:=fun _ H'=>Q .non H',rt:=Q } (start N vs) H) :
  FnOkH P w K mg base (k + 1) f (PySem.W.fnOf name qual params body scope dV kV doc pm an cdv ct) ps sp:=by
 refine ⟨len,fun A outer s H args us vs Q E hr e0 hb r hsp=>?_⟩
 have hl:=len _ _ _ _ hsp
 have KX:K.In s.heap:=e0.mod.kin.keeps fun b o e=>(e0.bs b o e).1
 have lim:s.heap.NoLimit:=e0.mod.nolimit.keeps fun b o e=>(e0.bs b o e).1
 have hkind:∀ y∈ps.zip us,scope.names.lookup y.1=some .local∨(scope.names.lookup y.1=some .cell∧((cellsFrom (s.heap.objs.size + 1) scope.names []).lookup y.1).isSome=true):=fun ⟨n,v⟩ hy=>by
  rcases S.par n (List.of_mem_zip hy).1 with q | q
  ·exact .inl q
  ·exact .inr ⟨q,PySem.W.cellsFrom_some _ _ _ (.inl q)⟩
 refine codeAny_call_function hr.depth (KX _ _ lk) rfl S.co S.gen rfl (PySem.W.codeRec_of KX hcd) (hb _ _ _ _ ?_)
 refine wpAny_newFunctionEnv_cells S.kind hkind fun env he s1 x=>?_
 subst he
 refine ⟨lim.keeps x.toInCall.keep,codeAny_func ?_⟩
 obtain ⟨t,ht,hq⟩:=hbody A outer s H vs Q E (hr.deeper _) hsp
 have I:Inv (cxH P w K mg base N qual scope f cdv A outer s H E) [] (start N vs) H s1:=inv_startH S e0 hl r x
 refine wpAny_mono (ht [] s1 (start N vs) H _ I hq) (fun fl s' hs=>?_) fun e s' hs=>hs
 have fin:∀ {σ':St} {H':Hp} {v:V} {u:Value},Inv (cxH P w K mg base N qual scope f cdv A outer s H E) [] σ' H' s'→RelV v u→Q v H'→CE outer P w H s Q u s' :=
  fun {σ' H' v u} J rv q=>⟨v,H',J.os,J.bare,J.base,J.hok,rv,q⟩
 cases fl with
 | ret u =>
  obtain ⟨v,σ',H',J,rv,q⟩:=hs
  exact fin J rv q
 | next =>
  obtain ⟨σ',H',J,q⟩:=hs
  exact fin (v:=V.non) (u:=Value.none) J rfl q
 | brk =>
  obtain ⟨_,_,_,q⟩:=hs
  exact False.elim q
 | cont =>
  obtain ⟨_,_,_,q⟩:=hs
  exact False.elim q
theorem fn_okH {x qual:Str} {st:Stmt} {f:Addr} {fd:FuncData} {N ps:List Str} {k n m:Nat} {own:Bool} {d:dF} (F:Fun K x qual st f fd) (S:qag N ps (qa4 st)) (hN:N.length=n) (hm:ps.length=m)
  (hb:∀ (cdv:Value) (A:Around) (outer:List Env) (s:Shared) (H:Hp) (E:XK),RoomH k (A.deeper (envOfC qual (qa4 st) s.heap.objs.size f cdv))→PSsd (cxH P w K mg base N qual (qa4 st) f cdv A outer s H E).nox (qaf st) d) :
  FnOkH P w K mg base (k + 1) f fd ps (spD K m (fnD n own d)):=by
 subst hN; subst hm
 obtain ⟨oc,od,kV,doc,pm,an,cdv,ct,osl,rfl,lk,hcd⟩:=F.ex
 refine fn_ofH lk hcd S (fun vs H Q E h=>?_) fun A outer s H vs Q E hr h=>⟨_,(hb cdv A outer s H E hr).nox,?_⟩
 ·obtain ⟨ρ,xs,c,W,r,hl,p⟩:=h
  exact r.length.trans hl
 ·obtain ⟨ρ,xs,c,W,r,hl,p⟩:=h
  refine ⟨ρ,qbx N.length xs,c,W,REnv.start r,post.bind p fun fl c1 ρ1 H1 b _ W1 X1 r1 p1=>?_⟩
  cases fl with
  | nx e1 =>
   obtain ⟨σ1,rfl,V1⟩:=r1
   exact qgF (v:=.non) (x:=.non) (H1:=H1) W W1 X1 rfl (by
    unfold fnD at p; exact id (α:=post K (Rel K) (qcG own c.length .non c1) ρ H Q) (by
     rename_i he; rw [he] at p; exact p))
  | rt d =>
   obtain ⟨v,rfl,V1⟩:=r1
   exact qgF (v:=d) (x:=v) (H1:=H1) W W1 X1 V1 (by
    unfold fnD at p; rename_i he; rw [he] at p; exact p)
  | bk e1=>exact p1.elim
  | ct e1=>exact p1.elim
end
section
variable {X:Cx}
theorem pd_fnH {x:Str} {st:Stmt} {ps:List Str} {f:Addr} {fd:FuncData} {k n:Nat} {m:List D→LC→R D} {e:Expr} {es:List Expr} {da:dS} {p pos:Pos} (D:Def X.K X.mg x st ps f fd) (G:FnOkH X.prog X.w X.K X.mg X.base k f fd ps (spD X.K n m)) (hr:RoomH k X.A) (ha:PAd X (e :: es) da) (hg:Gl X x:=by rfl)
  (hdb:(x == ("__debug__":Str))=false:=by decide) (he:starEach (e :: es) X.env=(false,eval e X.env) :: starEach es X.env:=by exact qaQ rfl) (hpl:(backTo pos (starEach es X.env)).any (·.1)=false:=by exact qbV rfl) :
  PEd X (.Call (.Name x p) (e :: es) [] pos) (qa7 n m da):=by
 intro pins s σ H Q I h
 obtain ⟨ρ,e',c,W,V,q⟩:=h
 refine wpAny_Call_Name_kw (qfh I hg D.at' ?_ hdb)
 refine PySem.W.callWith_K (h₀:=X.base) I.ok.mod.kin D.fn.kp (thn (ha pos pins s σ H (fun vs H1=>spD X.K n m vs H1 Q E0) I ⟨ρ,e',c,W,V,post.bind q fun xs c1 ρ1 H1 vs _ W1 X1 r1 p1=>?_⟩) fun us s1 ⟨vs,H1,I1,r,q⟩=>⟨I1.kIn,?_⟩) he hpl
 ·split at p1
  ·rename_i hl
   exact ⟨ρ1,xs,c1,W1,r1,hl,p1⟩
  ·exact p1.elim
 ·have hl:us.length=ps.length:=by rw [← r.length]; exact G.len _ _ _ E0 q
  have hb:=D.bd s1 us I1.kIn (by simpa using hl)
  rw [List.append_nil] at hb
  refine wpAny_call (codeAny_mono (G.run X.A X.stack s1 H1 ⟨us,[]⟩ us vs Q E0 hr I1.env0 hb r q) fun r s' hq=>?_)
  cases r with
  | error e=>exact False.elim hq
  | ok fl =>
   cases fl with
   | ret u=>exact I1.after hq
   | next=>exact False.elim hq
   | brk=>exact False.elim hq
   | cont=>exact False.elim hq
end
structure XTab (K:PySem.W.Frag) (T:List Str):Prop where
 cls:∀ x∈T,∀ C,PySem.W.nsIn K mainGlobals x=some (some (.ref C))→PySem.W.ExcIn K C∧PySem.W.kitOne K (.ref C) (.type "ValueError")=some true
 two:∀ x∈T,∀ y∈T,∀ C C',PySem.W.nsIn K mainGlobals x=some (some (.ref C))→PySem.W.nsIn K mainGlobals y=some (some (.ref C'))→PySem.W.kitOne K (.ref C) (.ref C')=some (x == y)
def xcIn (K:PySem.W.Frag) (x:Str):Bool:=match PySem.W.nsIn K mainGlobals x with
 | some (some (.ref C))=>PySem.W.excIn' K C && PySem.W.kitOne K (.ref C) (.type "ValueError") == some true
 | _=>true
def x2In (K:PySem.W.Frag) (x y:Str):Bool:=match PySem.W.nsIn K mainGlobals x,PySem.W.nsIn K mainGlobals y with
 | some (some (.ref C)),some (some (.ref C'))=>PySem.W.kitOne K (.ref C) (.ref C') == some (x == y)
 | _,_=>true
def xtabIn (K:PySem.W.Frag) (T:List Str):Bool:=T.all fun x=>xcIn K x && T.all fun y=>x2In K x y
theorem XTab.of {K:PySem.W.Frag} {T:List Str} (h:xtabIn K T=true):XTab K T:=by
 unfold xtabIn at h
 rw [List.all_eq_true] at h
 refine ⟨fun x hx C e=>?_,fun x hx y hy C C' e e'=>?_⟩
 ·have q:=h x hx
  rw [Bool.and_eq_true] at q
  have q:=q.1
  unfold xcIn at q
  rw [e] at q
  simp only [Bool.and_eq_true,beq_iff_eq] at q
  exact ⟨.of q.1,q.2⟩
 ·have q:=h x hx
  rw [Bool.and_eq_true,List.all_eq_true] at q
  have q:=q.2 y hy
  unfold x2In at q
  rw [e,e'] at q
  simpa using q
def isxD (T:List Str):List D→LC→R D:=fun xs c=>match xs with
 | [.exc x,.fn y _]=>if x∈T∧y∈T then .ok (.bl (x == y)) c else .bad
 | [.exc x,.ty n]=>if x∈T∧n="ValueError" then .ok (.bl true) c else .bad
 | _=>.bad
section
variable {X:Cx} {T:List Str}
theorem qdz (Z:XTab X.K T):qd1 X (.builtin "isinstance") (rN X.K (isxD T)):=by
 intro pins s σ H vs us Q I rv h
 obtain ⟨ρ,xs,c,W,rx,p⟩:=h
 unfold isxD at p
 split at p
 ·split at p
  ·rename_i hT
   obtain ⟨v,r,rfl,⟨a,C,rfl,hC,hH⟩,u,r',rfl,⟨a',rfl,hC'⟩,hr⟩:=rx
   cases hr
   obtain ⟨u1,u2,rfl,r1,r2⟩:=rv.two
   cases r1; cases r2
   obtain ⟨hp,_,_⟩:=I.hok a _ hH
   exact PySem.W.kia_one (PySem.W.kitx_exc (Z.cls _ hT.1 C hC).1) I.kIn hp (Z.two _ hT.1 _ hT.2 C a' hC hC') (fun z=>nomatch z) fun tk=>⟨.bl _,H,I.tok _,rfl,p.here W rfl⟩
  ·exact p.elim
 ·split at p
  ·rename_i hT
   obtain ⟨v,r,rfl,⟨a,C,rfl,hC,hH⟩,u,r',rfl,hu,hr⟩:=rx
   cases hr
   cases hu
   obtain ⟨u1,u2,rfl,r1,r2⟩:=rv.two
   cases r1; cases r2
   obtain ⟨hp,_,_⟩:=I.hok a _ hH
   obtain ⟨_,rfl⟩:=hT
   rename_i hx
   exact PySem.W.kia_one (PySem.W.kitx_exc (Z.cls _ hx C hC).1) I.kIn hp (Z.cls _ hx C hC).2 (fun z=>nomatch z) fun tk=>⟨.bl true,H,I.tok _,rfl,p.here W rfl⟩
  ·exact p.elim
 ·exact p.elim
theorem qdB {x:Str} {C:Addr} {pos:Pos} (hm:X.mg x=some (.ref C)) (hn:PySem.W.nsIn X.K mainGlobals x=some (some (.ref C))) (hg:Gl X x:=by rfl) (hd:(x == ("__debug__":Str))=false:=by decide):PEd X (.Name x pos) (dC (.fn x 0)) :=
 qd6 (qgk (v:=.ref C) hg hm rfl hd) fun _ _=>⟨C,rfl,hn⟩
end
open PySem.SeqAt
section
variable {X:Cx}
def rCount:V→List V→Hp→VK→Prop:=fun x vs H Q=>∃ l,∃ bs:List Bool,x=.ref l∧vs=[.bl true]∧H l=some (.lst (bs.map V.bl))∧Q (.int (bs.countP id:Nat)) H
def rIndex:V→List V→Hp→VK→Prop:=fun x vs H Q=>∃ l,∃ bs:List Bool,∃ j,x=.ref l∧vs=[.bl true]∧H l=some (.lst (bs.map V.bl))∧bs.findIdx? id=some j∧Q (.int (j:Nat)) H
theorem Vals.bls:∀ {bs:List Bool} {us:List Value},Vals (bs.map V.bl) us→us=bs.map Value.bool
 | [],_,.nil=>rfl
 | b :: bs,_,.cons r t=>by cases r; rw [Vals.bls t]; rfl
def eqT:Value→Bool
 | .bool b=>b
 | _=>false
theorem eqT_bls (bs:List Bool):(bs.map Value.bool).countP eqT=bs.countP id:=by
 induction bs with
 | nil=>rfl
 | cons b bs ih=>rw [List.map_cons,List.countP_cons,List.countP_cons,ih]; rfl
theorem eqT_at {A:Around} {s:Shared} (bs:List Bool):∀ y,y∈(bs.map Value.bool).toArray→EqAt A s y (.bool true) (eqT y):=fun y hy=>by
 rw [List.mem_toArray,List.mem_map] at hy
 obtain ⟨b,_,rfl⟩:=hy
 have:=EqAt.bool_bool (A:=A) (s:=s) b true
 cases b <;> exact this
theorem mt_count:MtM X "list.count" rCount:=by
 intro pins s σ H x vs v us Q I rx rv h
 obtain ⟨l,bs,rfl,rfl,hH,q⟩:=h
 cases rx
 obtain ⟨u,rfl,ru⟩:=rv.one
 cases ru
 obtain ⟨z,its,n,r,hl,e⟩:=I.lstM hH
 cases r.bls
 refine call_meets F.slot_list_count ⟨_,e,rfl⟩ F.entry_list_count (F.args_list_count_2 _ _) (list_countAt l (bs.map Value.bool).toArray n none #[] (.bool true) eqT) ⟨e,eqT_at bs,?_⟩
 refine ⟨.int (bs.countP id:Nat),H,I.tok _,⟨s.toks,?_⟩,q⟩
 rw [List.toList_toArray,eqT_bls]
theorem mt_index:MtM X "list.index" rIndex:=by
 intro pins s σ H x vs v us Q I rx rv h
 obtain ⟨l,bs,j,rfl,rfl,hH,hj,q⟩:=h
 cases rx
 obtain ⟨u,rfl,ru⟩:=rv.one
 cases ru
 obtain ⟨z,its,n,r,hl,e⟩:=I.lstM hH
 cases r.bls
 rw [List.findIdx?_eq_some_iff_getElem] at hj
 obtain ⟨h1,h2,h3⟩:=hj
 have hz:bs.length≤sizeLine:=by simpa using z
 have hs:(j:Int) < 2 ^ 63 - 1:=by
  have:sizeLine < 2 ^ 62:=by decide
  omega
 refine call_meets F.slot_list_index ⟨_,e,rfl⟩ F.entry_list_index (F.args_list_index_2 _ _) (list_indexAt l (bs.map Value.bool).toArray n none #[] (.bool true) eqT j (by simpa using h1) hs (by simpa [eqT] using h2) (fun m hm hlt=>by have:=h3 m hlt; simpa [eqT] using this)) ⟨e,eqT_at bs,?_⟩
 exact ⟨.int (j:Nat),H,I.tok _,⟨s.toks,rfl⟩,q⟩
end
end L2
namespace L2
open PySem PySem.Spec PyProof.Rows
def dCount (o a:yD):yD:=fun e c=>(o e c).bind fun x c=>match x with
 | .lst l=>(a e c).bind fun y c=>match y,blsD l with
  | .bl true,some bs=>.ok (.int (bs.countP id:Nat)) c
  | _,_=>.bad
 | _=>.bad
def dIndex (o a:yD):yD:=fun e c=>(o e c).bind fun x c=>match x with
 | .lst l=>(a e c).bind fun y c=>match y,blsD l with
  | .bl true,some bs=>match bs.findIdx? id with
   | some j=>.ok (.int (j:Nat)) c
   | none=>.bad
  | _,_=>.bad
 | _=>.bad
theorem Rels.bls_eq {K:PySem.W.Frag} {ρ:List Addr} {H:Hp}:∀ {bs:List Bool} {xs:List V},Rels K ρ H (bs.map D.bl) xs→xs=bs.map V.bl
 | [],_,h=>h
 | b :: bs,_,h=>by
  obtain ⟨x,r,rfl,h1,h2⟩:=h
  cases h1
  rw [Rels.bls_eq h2]; rfl
section
variable {X:Cx}
theorem pd_count {o e:Expr} {dO da:yD} {apos cpos:Pos} (ho:PEd X o dO) (ha:PEd X e da)
  (hbase:attributeBase o "count" X.env (eval o X.env)=eval o X.env:=by rfl)
  (hfew:((backTo cpos (starEach [e] X.env)).all (fun x=>!x.1) && (backToKw cpos (keywordEach [] X.env)).all (fun x=>x.1.isSome)
   && decide ([e].length + ([]:List Keyword).length + (if ([]:List Keyword).isEmpty then 0 else 1) < 30))=true:=by exact qgb rfl)
  (hline:(apos.endLine == cpos.line)=true:=by rfl) (hs:starEach [e] X.env=(false,eval e X.env) :: starEach [] X.env:=by exact qaQ rfl) (hplain:(backTo cpos (starEach [] X.env)).any (·.1)=false:=by exact qbV rfl) :
  PEd X (.Call (.Attribute o "count" apos) [e] [] cpos) (dCount dO da) :=
 (pe_bm PySem.F.plainAttrs_list PySem.F.slot_list_count PySem.F.type_list_count mt_count ho (qe0 ha pa_nil hs) hbase hfew hline hs hplain).imp fun σ H Q h=>by
  obtain ⟨ρ,e,c,W,V,p⟩:=h
  refine ⟨ρ,e,c,W,V,post.bind p fun x c1 ρ1 H1 v _ W1 X1 r1 p1=>?_⟩
  cases x with
  | lst l =>
   obtain ⟨a,xs,rfl,hx,rl⟩:=r1
   refine ⟨.inl ⟨rfl,xs,SqL.of hx.1⟩,ρ1,e,c1,W1,V.mono W X1,post.bind p1 fun y c2 ρ2 H2 u _ W2 X2 r2 p2=>?_⟩
   split at p2
   ·rename_i bs hb _
    cases r2
    rw [qgI hb] at rl
    cases rl.bls_eq
    exact ⟨a,bs,rfl,rfl,(X2.keep a _ hx.1 hx.2 rfl).1,p2.here W2 rfl⟩
   ·exact p2.elim
  | _=>exact p1.elim
theorem pd_index {o e:Expr} {dO da:yD} {apos cpos:Pos} (ho:PEd X o dO) (ha:PEd X e da)
  (hbase:attributeBase o "index" X.env (eval o X.env)=eval o X.env:=by rfl)
  (hfew:((backTo cpos (starEach [e] X.env)).all (fun x=>!x.1) && (backToKw cpos (keywordEach [] X.env)).all (fun x=>x.1.isSome)
   && decide ([e].length + ([]:List Keyword).length + (if ([]:List Keyword).isEmpty then 0 else 1) < 30))=true:=by exact qgb rfl)
  (hline:(apos.endLine == cpos.line)=true:=by rfl) (hs:starEach [e] X.env=(false,eval e X.env) :: starEach [] X.env:=by exact qaQ rfl) (hplain:(backTo cpos (starEach [] X.env)).any (·.1)=false:=by exact qbV rfl) :
  PEd X (.Call (.Attribute o "index" apos) [e] [] cpos) (dIndex dO da) :=
 (pe_bm PySem.F.plainAttrs_list PySem.F.slot_list_index PySem.F.type_list_index mt_index ho (qe0 ha pa_nil hs) hbase hfew hline hs hplain).imp fun σ H Q h=>by
  obtain ⟨ρ,e,c,W,V,p⟩:=h
  refine ⟨ρ,e,c,W,V,post.bind p fun x c1 ρ1 H1 v _ W1 X1 r1 p1=>?_⟩
  cases x with
  | lst l =>
   obtain ⟨a,xs,rfl,hx,rl⟩:=r1
   refine ⟨.inl ⟨rfl,xs,SqL.of hx.1⟩,ρ1,e,c1,W1,V.mono W X1,post.bind p1 fun y c2 ρ2 H2 u _ W2 X2 r2 p2=>?_⟩
   split at p2
   ·rename_i bs hb _
    cases r2
    rw [qgI hb] at rl
    cases rl.bls_eq
    split at p2
    ·rename_i j hj
     exact ⟨a,bs,j,rfl,rfl,(X2.keep a _ hx.1 hx.2 rfl).1,hj,p2.here W2 rfl⟩
    ·exact p2.elim
   ·exact p2.elim
  | _=>exact p1.elim
def sTry (T:List Str) (i n:Nat) (b:dF) (x:Xd) (h:yD):dF:=fun e c=>match b e c with
 | .ok f c=>.ok f c
 | .bad=>(x e c).bind fun y c=>if y∈T then (h ((List.replicate n none).set i (some (.exc y))) c).bind fun v c=>.ok (.rt v) c else .bad
theorem ps_try0 {body:List Stmt} {h₀:ExceptHandler} {pos:Pos} {t:TS} (hb:PSs X.nox body t):PS X (.Try body [h₀] [] [] pos) t:=fun pins s σ H D I h=>by
 refine wpAny_Try_except (wpAny_mono (hb pins s σ H D (I.wish _) h) (fun f s' q=>?_) fun _ _ z=>z.elim)
 have q:=q.unwish
 cases f with
 | next=>exact wpAny_execs_nil q
 | brk=>exact q
 | cont=>exact q
 | ret u=>exact q
theorem sd_try {T:List Str} {i m:Nat} {n cn:Str} {Cn:Addr} {body:List Stmt} {he:Expr} {rpos np hpos pos:Pos} {b:dF} {x:Xd} {h:yD}
  (hb:PSsd X.nox body b) (hx:∀ W pn,PSsx (X.tried W pn) (AccA (X.tried W pn)) body x) (hS:∀ ea,PEd (X.held (.ref ea)) he h)
  (hm:X.mg cn=some (.ref Cn)) (hT:∀ y∈T,∃ C,PySem.W.nsIn X.K mainGlobals y=some (some (.ref C))∧PySem.W.exmOne X.K (.ref C) (.ref Cn)=some true)
  (hN:X.N.Nodup:=by decide +kernel) (hi:X.N[i]? = some n:=by rfl) (hlen:X.N.length=m:=by rfl) (hl:X.env.scope.names.lookup n=some .local:=by rfl) (hg:Gl X cn:=by rfl) (hstk:X.stack=X.env :: X.outer∧X.env.frame=some X.env.locals:=by exact ⟨rfl,rfl⟩) (hd:(cn == ("__debug__":Str))=false:=by decide) :
  PSd X (.Try body [.ExceptHandler (some (.Name cn np)) (some n) [.Return (some he) rpos] hpos] [] [] pos) (sTry T i m b x h):=by
 intro pins s σ H D I hh
 obtain ⟨ρ,e,c,W,V,p⟩:=hh
 unfold sTry at p
 cases q:b e c with
 | ok f c1 =>
  rw [q] at p
  exact ps_try0 hb pins s σ H D I ⟨ρ,e,c,W,V,by rw [q]; exact p⟩
 | bad =>
  rw [q] at p
  dsimp only at p
  refine ps_try (X:=X) (th:=fun ea=>tSD X.K (sRet h)) (tb:=fun A σ H=>tD X.K (fun _ _ a b=>a=b) x σ H A) hx (fun A A' σ H hA ⟨ρ,e,c,W,V,p⟩=>⟨ρ,e,c,W,V,p.mono hA⟩)
   (fun ea=>qaa (qal (hS ea))) hN hi hl hg hm hstk hd pins s σ H D I ⟨ρ,e,c,W,V,post.bind p fun y c1 ρ1 H1 b _ W1 X1 r1 p1=>?_⟩
  cases r1
  split at p1
  ·rename_i hy
   obtain ⟨C,hC,hC2⟩:=hT y hy
   refine ⟨C,hC,hC2,fun ea σ' hl' hf=>?_⟩
   refine ⟨ρ1,(List.replicate m none).set i (some (.exc y)),c1,W1.fresh hf,⟨fun j d hj=>?_,by simp [hl',hlen]⟩,?_⟩
   ·by_cases e1:j=i
    ·subst e1
     have hlt:j < m:=by
      have:=(List.getElem?_eq_some_iff.mp hj).1
      simpa using this
     rw [List.getElem?_set_self (by simpa using hlt)] at hj
     cases hj
     refine ⟨.ref ea,by rw [List.getElem?_set_self (by rw [hl',hlen]; exact hlt)],ea,C,rfl,hC,qbu⟩
    ·rw [List.getElem?_set_ne (Ne.symm e1),List.getElem?_replicate] at hj
     split at hj <;> cases hj
   ·have p2:=p1.ext (Ext.fresh (p:=ea) (o:=.ext (excP ea C)) W1 hf)
    unfold sRet
    cases qh:h ((List.replicate m none).set i (some (.exc y))) c1 with
    | bad=>rw [qh] at p2; exact p2.elim
    | ok v c2 =>
     rw [qh] at p2
     exact fun ρ2 H2 f W2 X2 r2=>by
      have z:=p2 ρ2 H2 f W2 X2 r2
      obtain ⟨v',rfl,_⟩:=r2
      exact z
  ·exact p1.elim
end
theorem RoomH.held {k:Nat} {A:Around} {h:Option Value} (r:Room k A):RoomH k (A.mark h):=⟨r.dp,r.un⟩
theorem bootVE:bootBuiltins "ValueError"=some (.type "ValueError"):=by decide +kernel
abbrev veMro:List Value:=[.type "ValueError",.type "Exception",.type "BaseException",.type "object"]
theorem own_of {K:PySem.W.Frag} {h:Heap} {mg:Str→Option Value} {x:Str} {C:Addr} {bmB:List Value} {newId:String} (X:K.In h) (e:mg x=some (.ref C)) (q:PySem.W.excIn K C bmB newId=true):OwnCls x C bmB newId mg h:=by
 refine ⟨e,?_⟩
 unfold PySem.W.excIn at q
 split at q
 ·rename_i dd cd sl ho
  split at q
  ·rename_i C' bm k0 k1 k2 k3 n k5 hm hs
   simp only [Bool.and_eq_true,beq_iff_eq,Bool.not_eq_true'] at q
   obtain ⟨⟨⟨⟨⟨rfl,rfl⟩,hdel⟩,ht⟩,hok⟩,hni⟩:=q
   obtain ⟨nm,bs,mro,ns,qn,hd,sn,sub,ab,col,del⟩:=cd
   dsimp only at hm hdel hok hni
   subst hm hdel
   have hsl:sl=#[k0,k1,k2,k3,some (.builtin n),k5]:=by
    obtain ⟨l⟩:=sl
    simp only at hs
    rw [hs]
   subst hsl
   exact ⟨bm,ns,nm,qn,bs,hd,sn,sub,ab,col,dd,k0,k1,k2,k3,k5,_,X _ _ ho,.of_isNs (PySem.W.isNs_of_in X hok),PySem.W.nsMap_none_of_in X hok hni,PySem.W.tail_of_in X ht⟩
  ·cases q
 ·cases q
theorem XCls.of {K:PySem.W.Frag} {mg:Str→Option Value} {x:Str} {C:Addr} (n:PySem.W.nsIn K mainGlobals x=some (some (.ref C))) (m:mg x=some (.ref C)) (q:PySem.W.excIn K C veMro "ValueError.__new__"=true):XCls K mg x veMro "ValueError.__new__" :=
 ⟨C,n,m,fun _ X=>own_of X m q⟩
def xwIn (K:PySem.W.Frag) (T:List Str) (Cn:Addr):Bool:=T.all fun y=>match PySem.W.nsIn K mainGlobals y with
 | some (some (.ref C))=>PySem.W.exmOne K (.ref C) (.ref Cn) == some true
 | _=>false
theorem xw_of {K:PySem.W.Frag} {T:List Str} {Cn:Addr} (h:xwIn K T Cn=true):∀ y∈T,∃ C,PySem.W.nsIn K mainGlobals y=some (some (.ref C))∧PySem.W.exmOne K (.ref C) (.ref Cn)=some true:=fun y hy=>by
 have q:=List.all_eq_true.mp h y hy
 split at q
 ·rename_i C e
  exact ⟨C,e,by simpa using q⟩
 ·cases q
end L2
namespace L2
open PySem PySem.Spec PyProof.Rows
def tabF (t:List (Int×List Int)) (k:Int):Option (List Int):=match t with
 | []=>none
 | p :: r=>if k=p.1 then some p.2 else tabF r k
def intsIn:List Value→List Int→Bool
 | [],[]=>true
 | .int i _ :: vs,j :: l=>(i == j) && intsIn vs l
 | _,_=>false
def tupIn (K:PySem.W.Frag) (b:Addr) (l:List Int):Bool:=match K.lookup b with
 | some ⟨c,_,.seq its _,_⟩=>(c == .type "tuple") && intsIn its.toList l && decide (its.size≤sizeLine)
 | _=>false
def entIn (K:PySem.W.Frag) (e:DictEntry) (k:Int) (l:List Int):Bool:=match e with
 | ⟨h,.int i _,.ref b⟩=>(i == k) && (h == hashInt k) && tupIn K b l
 | _=>false
def qg1 (K:PySem.W.Frag):List DictEntry→List (Int×List Int)→Bool
 | [],[]=>true
 | e :: es,p :: t=>entIn K e p.1 p.2 && qg1 K es t
 | _,_=>false
def qfr (K:PySem.W.Frag) (a:Addr) (t:List (Int×List Int)):Bool:=!(a == sysModules) && match K.lookup a with
 | some ⟨c,none,.dict es _,sl⟩=>(c == .type "dict") && sl.isEmpty && qg1 K es.toList t
 | _=>false
theorem ints_vals:∀ {vs:List Value} {l:List Int},intsIn vs l=true→Vals (l.map V.int) vs
 | [],[],_=>.nil
 | v :: vs,[],h=>by cases v <;> cases h
 | [],j :: l,h=>by cases h
 | v :: vs,j :: l,h=>by
  cases v with
  | int i t =>
   have h:((i == j) && intsIn vs l)=true:=h
   rw [Bool.and_eq_true,beq_iff_eq] at h
   obtain ⟨rfl,h'⟩:=h
   exact .cons ⟨t,rfl⟩ (ints_vals h')
  | _=>cases h
theorem tup_in {K:PySem.W.Frag} {H:Hp} {b:Addr} {l:List Int} (h:tupIn K b l=true):SqT K H b (l.map V.int):=by
 unfold tupIn at h
 split at h
 ·rename_i c d its n sl e
  rw [Bool.and_eq_true,Bool.and_eq_true,beq_iff_eq,decide_eq_true_iff] at h
  obtain ⟨⟨rfl,h1⟩,h2⟩:=h
  exact .inr ⟨_,its,n,e,rfl,rfl,h2,ints_vals h1⟩
 ·cases h
theorem ent_in {K:PySem.W.Frag} {e:DictEntry} {k:Int} {l:List Int} (h:entIn K e k l=true):∃ t b,e=⟨hashInt k,.int k t,.ref b⟩∧tupIn K b l=true:=by
 unfold entIn at h
 split at h
 ·rename_i hh i t b
  rw [Bool.and_eq_true,Bool.and_eq_true,beq_iff_eq,beq_iff_eq] at h
  obtain ⟨⟨rfl,rfl⟩,h⟩:=h
  exact ⟨t,b,rfl,h⟩
 ·cases h
theorem ents_keys {K:PySem.W.Frag}:∀ {es:List DictEntry} {t:List (Int×List Int)},qg1 K es t=true→∀ e∈es,∃ k t,e.key=.int k t∧e.hash=hashInt k
 | [],_,_=>fun e he=>by cases he
 | e :: es,[],h=>by cases h
 | e :: es,p :: t,h=>fun x hx=>by
  have h:(entIn K e p.1 p.2 && qg1 K es t)=true:=h
  rw [Bool.and_eq_true] at h
  rcases List.mem_cons.mp hx with rfl | hx
  ·obtain ⟨tk,b,rfl,_⟩:=ent_in h.1
   exact ⟨_,tk,rfl,rfl⟩
  ·exact ents_keys h.2 x hx
theorem ents_find {K:PySem.W.Frag} (k:Int):∀ {es:List DictEntry} {t:List (Int×List Int)},qg1 K es t=true→(match tabF t k with
  | none=>es.find? (fun e=>Value.isInt k e.key)=none
  | some l=>∃ e b,es.find? (fun e=>Value.isInt k e.key)=some e∧e.val=.ref b∧tupIn K b l=true)
 | [],[],_=>by unfold tabF; rfl
 | [],p :: t,h=>by cases h
 | e :: es,[],h=>by cases h
 | e :: es,p :: t,h=>by
  have h:(entIn K e p.1 p.2 && qg1 K es t)=true:=h
  rw [Bool.and_eq_true] at h
  obtain ⟨tk,b,rfl,hb⟩:=ent_in h.1
  have ih:=ents_find k h.2
  unfold tabF
  by_cases hk:k=p.1
  ·rw [if_pos hk]
   refine ⟨⟨hashInt p.1,.int p.1 tk,.ref b⟩,b,?_,rfl,hb⟩
   rw [List.find?_cons_of_pos]
   subst hk
   simp [Value.isInt]
  ·rw [if_neg hk,List.find?_cons_of_neg]
   ·exact ih
   ·simp only [Value.isInt,beq_iff_eq]
    exact fun z=>hk z.symm
theorem dict_map {K:PySem.W.Frag} {h:Heap} {a:Addr} {t:List (Int×List Int)} {prog:Program} {w:World} (hk:K.In h) (hd:qfr K a t=true):(a == sysModules)=false∧∃ f,h.MapOf (intKind prog w) a f∧∀ k,(match tabF t k with
  | none=>f k=none
  | some l=>∃ b,f k=some (.ref b)∧tupIn K b l=true):=by
 unfold qfr at hd
 rw [Bool.and_eq_true] at hd
 obtain ⟨h0,h1⟩:=hd
 refine ⟨by simpa using h0,?_⟩
 split at h1
 ·rename_i c es n sl e
  rw [Bool.and_eq_true,Bool.and_eq_true,beq_iff_eq] at h1
  obtain ⟨⟨rfl,h2⟩,h3⟩:=h1
  have hs:sl=#[]:=by simpa using h2
  refine ⟨findBy Value.isInt es,Heap.IntMap.mapOf ⟨_,es,n,hk a _ e,rfl,rfl,fun x hx=>ents_keys h3 x (by simpa using hx),fun _=>rfl⟩ (fun o ho=>?_),fun k=>?_⟩
  ·rw [hk a _ e] at ho
   cases ho
   exact ⟨rfl,hs⟩
  ·have q:=ents_find k h3
   have ef:findBy Value.isInt es k=(es.toList.find? fun e=>Value.isInt k e.key).map (·.val):=by unfold findBy; rw [Array.find?_toList]
   cases z:tabF t k with
   | none =>
    rw [z] at q
    show findBy Value.isInt es k=none
    rw [ef,q]; rfl
   | some l =>
    rw [z] at q
    obtain ⟨e,b,q1,q2,q3⟩:=q
    refine ⟨b,?_,q3⟩
    rw [ef,q1,← q2]; rfl
 ·cases h1
def fldD (t:List (Int×List Int)) (i:Int):D→LC→R D:=fun x c=>match x with
 | .int k=>match tabF t k with
  | some l=>match atI l i with
   | some z=>.ok (.int z) c
   | none=>.bad
  | none=>.bad
 | _=>.bad
def inF (x:Str) (t:List (Int×List Int)):D→D→LC→R D:=fun a b c=>match a,b with
 | .int k,.fn y _=>if y=x then .ok (.bl (tabF t k).isSome) c else .bad
 | _,_=>.bad
section
variable {X:Cx} {x:Str} {ad:Addr} {t:List (Int×List Int)}
def rDict (K:PySem.W.Frag) (ad:Addr) (t:List (Int×List Int)):R2:=fun x y H Q=>∃ k l,x=.ref ad∧y=.int k∧tabF t k=some l∧∀ b,SqT K H b (l.map V.int)→Q (.ref b) H
theorem ix_dict (ht:qfr X.K ad t=true):IxR X (rDict X.K ad t):=by
 intro value slice pins s σ H x y v u Q I rx ry h hs
 obtain ⟨k,l,rfl,rfl,hl,q⟩:=h
 cases rx
 obtain ⟨tk,rfl⟩:=ry
 obtain ⟨_,f,hm,hf⟩:=dict_map (prog:=X.prog) (w:=X.w) I.kIn ht
 have hk:=hf k
 rw [hl] at hk
 obtain ⟨b,hb,tb⟩:=hk
 have fin:EP X pins σ Q (.ref b) { s with toks:=s.toks + 1 }:=⟨.ref b,H,I.tok _,rfl,q b (tup_in tb)⟩
 exact subscriptTail_builtinR (x:=.ref b) hm.typeIs slot_dict_getitem.lookup (wpAny_getItem_of (key:=.int k tk) (by simp [intKind,Value.isInt]) hm hb ⟨rfl,fin⟩) hs
theorem pd_fld {a:Expr} {da:yD} {i:Int} {j p1 p2 p3 p4} (hm:X.mg x=some (.ref ad)) (ht:qfr X.K ad t=true) (ha:PEd X a da) (hg:Gl X x:=by rfl) (hd:(x == ("__debug__":Str))=false:=by decide) (hs:PlainIx a:=by exact fun _ _=>rfl) :
  PEd X (.Subscript (.Subscript (.Name x p1) a p2) (.Constant (.int i) j p3) p4) (dUn (fldD t i) da) :=
 (pe_ix ix_tup (pe_ix (ix_dict ht) (qgk (v:=.ref ad) hg hm rfl hd) ha hs) pe_int (fun _ _=>rfl)).imp fun σ H Q h=>by
  obtain ⟨ρ,e,c,W,V,p⟩:=h
  refine ⟨ρ,e,c,W,V,post.bind p fun x c1 ρ1 H1 v ex W1 X1 r1 p1=>?_⟩
  clear ex
  unfold fldD at p1
  split at p1
  ·rename_i k
   cases r1
   split at p1
   ·rename_i l hl
    split at p1
    ·rename_i z hz
     refine ⟨k,l,rfl,rfl,hl,fun b hb=>⟨b,_,i,.int z,rfl,rfl,hb,?_,p1.here W1 rfl⟩⟩
     unfold atI at hz ⊢
     rw [List.length_map]
     cases e:ixN l.length i with
     | none=>rw [e] at hz; cases hz
     | some j =>
      rw [e] at hz
      have hz:l[j]? = some z:=hz
      show (l.map L2.V.int)[j]? = _
      rw [List.getElem?_map,hz]; rfl
    ·exact p1.elim
   ·exact p1.elim
  ·exact p1.elim
theorem pd_gname {y:Str} {C:Addr} {pos:Pos} (hm:X.mg y=some (.ref C)) (hn:PySem.W.nsIn X.K mainGlobals y=some (some (.ref C))) (hg:Gl X y:=by rfl) (hd:(y == ("__debug__":Str))=false:=by decide):PEd X (.Name y pos) (dC (.fn y 0)) :=
 qd6 (qgk (v:=.ref C) hg hm rfl hd) fun _ _=>⟨C,rfl,hn⟩
theorem od_inF (hn:PySem.W.nsIn X.K mainGlobals x=some (some (.ref ad))) (ht:qfr X.K ad t=true):OpR X (compareOp .In) (r2 X.K (inF x t)):=by
 intro pins s σ H v u vv uu Q I rv ru h
 obtain ⟨ρ,a,b,c,W,rx,ry,p⟩:=h
 unfold inF at p
 split at p
 ·split at p
  ·rename_i k y n hy
   subst hy
   cases rx
   obtain ⟨a,rfl,hb⟩:=ry
   rw [hn] at hb
   cases hb
   obtain ⟨tk,rfl⟩:=rv
   cases ru
   obtain ⟨h0,f,hm,hf⟩:=dict_map (prog:=X.prog) (w:=X.w) I.kIn ht
   refine wpAny_in_of (key:=.int k tk) (k:=k) (by simp [intKind,Value.isInt]) h0 hm ?_
   have e:(f k).isSome=(tabF t k).isSome:=by
    have:=hf k
    cases z:tabF t k with
    | none=>rw [z] at this; have this:f k=none:=this; rw [this]; rfl
    | some l=>rw [z] at this; obtain ⟨b,hb,_⟩:=this; rw [hb]; rfl
   rw [e]
   exact ⟨.bl _,H,I.tok _,rfl,p.here W rfl⟩
  ·exact p.elim
 ·exact p.elim
end
def repD:D→D→LC→R D:=fun x y c=>match x,y with
 | .lst l,.int k=>if -(2 ^ 63)≤k∧k < 2 ^ 63∧l.length * k.toNat≤sizeLine then .ok (.lst (List.replicate k.toNat l).flatten) c else .bad
 | _,_=>.bad
theorem Rels.rep {K:PySem.W.Frag} {ρ:List Addr} {H:Hp} {l:List D} {xs:List V} (r:Rels K ρ H l xs):∀ n:Nat,Rels K ρ H (List.replicate n l).flatten (List.replicate n xs).flatten
 | 0=>rfl
 | n + 1=>by
  rw [List.replicate_succ,List.replicate_succ,List.flatten_cons,List.flatten_cons]
  exact Rels.append r (Rels.rep r n)
theorem od_rep {X:Cx}:OpR X (binaryOp .Mult) (r2 X.K repD):=by
 intro pins s σ H v u vv uu Q I rv ru h
 obtain ⟨ρ,x,y,c,W,rx,ry,p⟩:=h
 unfold repD at p
 split at p
 ·split at p
  ·rename_i hl
   obtain ⟨a,xs,rfl,sa,ra⟩:=rx
   cases ry
   exact op_rep pins s σ H _ _ vv uu Q I rv ru ⟨a,_,xs,rfl,rfl,sa.1,hl.1,hl.2.1,by rw [ra.length]; exact hl.2.2,qfg W (Rels.rep ra _) p⟩
  ·exact p.elim
 ·exact p.elim
def Itv (K:PySem.W.Frag) (a:Addr) (n:Nat):It :=
 ⟨fun i H=>i < n∧∃ xs x,SqL K H a xs∧xs[n - 1 - i]? = some x,fun i H x H'=>H'=H∧∀ xs,SqL K H a xs→xs[n - 1 - i]? = some x,fun i H=>i=n⟩
theorem turn_rev {P:Program} {w:World} {K:PySem.W.Frag} {tg:Expr} (a it:Addr) (n:Nat):Turn P w K tg (Itv K a n) [it] it (fun i h=>h.IsRevIter it a ((n:Int) - 1 - (i:Nat))) where
 mem:=by simp
 obj:=fun i h st b hb=>by
  have e:b=it:=by simpa using hb
  subst e
  obtain ⟨o,e,c,d⟩:=st
  exact ⟨o,e,fun v z=>by rw [d] at z; cases z⟩
 keep:=fun i h h' st k=>st.at fun o e=>k it (by simp) o e
 item:=by
  intro X hP hw hK hc i pins s σ H E I hf st hg
  subst hP hw hK
  obtain ⟨hi,xs,x,hq,hx⟩:=hg
  obtain ⟨its,rv,p,hz⟩:=I.list hq
  obtain ⟨u,hu,ru⟩:=rv.get hx
  obtain ⟨f0,f1,f2,f3,f4,f5⟩:=hf it (by simp)
  have e1:(n:Int) - 1 - (i:Nat)=((n - 1 - i:Nat):Int):=by omega
  rw [e1] at st
  refine wpAny_pyNext_rev_item st p.isList (x:=u) (by simpa using hu) fun h' st' sb=>?_
  have e2:((n - 1 - i:Nat):Int) - 1=(n:Int) - 1 - ((i + 1:Nat):Int):=by omega
  rw [e2] at st'
  have I1:Inv X pins σ H { s with heap:=h' }:=I.turned (t':=s.toks) (fun b o hb e=>(sb.2 b hb).trans e) f0 f1 f3 f4 f5
  obtain ⟨o,e,c,d⟩:=id st'
  exact ⟨u,rfl,go_of (s:={ s with heap:=h' }) e c d (by decide) ⟨x,H,I1,ru,⟨rfl,fun ys hy=>by rw [I.list_inj hy hq]; exact hx⟩,st',fun b hb=>(hf b hb).1⟩⟩
 done:=by
  intro X hP hw hK hc i pins s σ H E I hf st hg
  subst hP hw hK
  have hi:i=n:=hg
  subst hi
  obtain ⟨f0,f1,f2,f3,f4,f5⟩:=hf it (by simp)
  have e1:(i:Int) - 1 - (i:Nat) = -1:=by omega
  rw [e1] at st
  exact wpAny_pyNext_rev_end (I.ok.hd hc) st fun h' eb=>⟨rfl,I.turned (t':=s.toks) (fun b o hb e=>eb b o hb e) f0 f1 f3 f4 f5⟩
 self:=fun _ _ _ _ _ st h=>wpAny_pyIter_revIter st h
section
variable {X:Cx} {tg:Expr}
def iRev (K:PySem.W.Frag) (ta:TA):TI:=fun σ H R=>ta σ H fun vs H1=>∃ a xs,vs=[.ref a]∧SqL K H1 a xs∧R (Itv K a xs.length) H1
theorem pi_rev {a:Expr} {ta:TA} {p pos:Pos} (hg:Gl X "reversed") (hm:X.mg "reversed"=none) (ha:PA X [a] ta) (hs:starEach [a] X.env=[(false,eval a X.env)]:=by rfl):PI X tg (.Call (.Name "reversed" p) [a] [] pos) (iRev X.K ta):=by
 intro pins s σ H R I h
 refine Call_ (qej I hg hm boot_reversed (PyProof.Rows.callWith_type1 (thn (ha pos pins s σ H _ I h) fun us s1 ⟨vs,H1,I1,r1,q1⟩=>?_) hs rfl))
 obtain ⟨b,xs,e,hq,q⟩:=q1
 subst e
 cases r1 with
 | cons r rr =>
  cases rr
  cases r
  obtain ⟨its,rv,pl,hz⟩:=I1.list hq
  refine call_reversed_list pl.isList ?_
  have I2:Inv X pins σ H1 { s1 with heap:=s1.heap.push (revObj b ((its.toArray.size:Int) - 1)) }:=I1.kept (t':=s1.toks) fun b o e=>Heap.get?_push_of_some _ e
  have hl:=rv.length
  have st:(s1.heap.push (revObj b ((its.toArray.size:Int) - 1))).IsRevIter s1.heap.objs.size b ((xs.length:Int) - 1 - ((0:Nat):Int)):=⟨_,Heap.get?_push_size _ rfl,rfl,by
   have e:(xs.length:Int) - 1 - ((0:Nat):Int)=(its.toArray.size:Int) - 1:=by rw [List.size_toArray,← hl]; omega
   rw [e]; rfl⟩
  refine wpAny_pyIter_revIter st ?_
  refine ⟨s1.heap.objs.size,[s1.heap.objs.size],_,_,H1,rfl,I2,turn_rev b _ xs.length,st,fun c hb=>?_,q⟩
  have e:c=s1.heap.objs.size:=by simpa using hb
  subst e
  exact I1.fpOk (Nat.le_refl _) (I1.hok.fresh (Nat.le_refl _))
def dRev (a:dS):Ev→LC→R Src:=fun e c=>(a e c).bind fun xs c=>match xs with
 | [.lst l]=>.ok ⟨l.reverse,fun _=>True⟩ c
 | _=>.bad
theorem id_rev {a:Expr} {da:dS} {p pos:Pos} (ha:PAd X [a] da) (hm:X.mg "reversed"=none) (hg:Gl X "reversed":=by rfl) (hs:starEach [a] X.env=[(false,eval a X.env)]:=by exact star1 rfl):PId X tg (.Call (.Name "reversed" p) [a] [] pos) (dRev da) :=
 (pi_rev hg hm ha hs).imp fun σ H Q h=>by
  obtain ⟨ρ,e,c,W,V,p⟩:=h
  refine ⟨ρ,e,c,W,V,post.bind p fun x c1 ρ1 H1 v ex W1 X1 r1 p1=>?_⟩
  clear ex
  split at p1
  ·rename_i l
   obtain ⟨y,ys,rfl,ry,rs⟩:=r1
   cases rs
   obtain ⟨a,xs,rfl,s,rl⟩:=ry
   refine ⟨a,xs,rfl,SqL.of s.1,p1.here W1 ?_⟩
   intro ρ' H' c' W' E _ i
   have sq:SqL X.K H' a xs:=SqL.of (qgt E s).1
   have rl':=Rels.mono W1 E _ _ rl
   have hln:=rl.length
   refine ⟨fun d hd=>?_,fun e=>?_⟩
   ·have hd:l.reverse[i]? = some d:=hd
    have hi:i < l.length:=by
     have:=(List.getElem?_eq_some_iff.mp hd).1
     simpa using this
    rw [List.getElem?_reverse hi] at hd
    obtain ⟨x,hx,rx⟩:=rl'.get hd
    rw [← hln] at hx
    refine ⟨⟨by rw [hln]; exact hi,xs,x,sq,hx⟩,fun y H2 hy=>?_⟩
    obtain ⟨rfl,hy⟩:=hy
    have:=hy xs sq
    rw [hx] at this; cases this
    exact ⟨W',Ext.refl,rx⟩
   ·have e:i=l.reverse.length:=e
    show i=xs.length
    rw [e,List.length_reverse,hln]
  ·exact p1.elim
end
section
variable (e:Ev) (c:LC) (l:dS)
@[simp] theorem x_rev:dRev l e c=(l e c).bind fun xs c=>match xs with
 | [.lst l]=>.ok ⟨l.reverse,fun _=>True⟩ c
 | _=>.bad:=rfl
@[simp] theorem x_fld (t:List (Int×List Int)) (i k:Int):fldD t i (.int k) c=match tabF t k with
 | some l=>match atI l i with
  | some z=>.ok (.int z) c
  | none=>.bad
 | none=>.bad:=rfl
@[simp] theorem x_inF (x:Str) (t:List (Int×List Int)) (k:Int) (n:Nat):inF x t (.int k) (.fn x n) c=.ok (.bl (tabF t k).isSome) c:=by
 unfold inF; simp
@[simp] theorem x_rep (m:List D) (k:Int):repD (.lst m) (.int k) c=if -(2 ^ 63)≤k∧k < 2 ^ 63∧m.length * k.toNat≤sizeLine then .ok (.lst (List.replicate k.toNat m).flatten) c else .bad:=rfl
end
theorem qeZ {st:LC→Prop} {c:LC} (hst:st c) {a:yD} (h:Int→Int→Int) (rest:Ev):∀ (rx ry:List Int) (v0 v1:Option D) (acc:List D),
  (∀ x∈rx,∀ y∈ry,a (some (.int x) :: some (.int y) :: rest) c=.ok (.int (h x y)) c) →
  qb4 st (qeR 2 (qc4 (qa5 0) (qc4 (qa5 1) qfm))) dYes a (List.zipWith (fun x y=>D.tup [x,y]) (rx.map D.int) (ry.map D.int)) (v0 :: v1 :: rest) acc c=.ok (acc ++ (List.zipWith h rx ry).map D.int) c
 | [],ry,v0,v1,acc,_=>by simp [qb4,hst]
 | x :: rx,[],v0,v1,acc,_=>by simp [qb4,hst]
 | x :: rx,y :: ry,v0,v1,acc,hb=>by
  have ih:=qeZ hst h rest rx ry (some (.int x)) (some (.int y)) (acc ++ [.int (h x y)]) fun u hu v hv=>hb u (List.mem_cons_of_mem _ hu) v (List.mem_cons_of_mem _ hv)
  have hxy:=hb x List.mem_cons_self y List.mem_cons_self
  simp only [List.map_cons,List.zipWith_cons_cons]
  unfold qb4
  rw [if_pos hst]
  simp at ih
  simp [hxy,ih]
end L2
namespace L2
open PySem PySem.Spec PyProof.Rows
def repM:D→D→LC→R D:=fun x y c=>match x,y with
 | .lst l,.int k=>if -(2 ^ 63)≤k∧k < 2 ^ 63∧l.length * k.toNat≤sizeLine∧qam l=true then .ok (.ref c.length) (c ++ [.lst (List.replicate k.toNat l).flatten]) else .bad
 | _,_=>.bad
theorem qfV {l:List D} (h:qam l=true):∀ n:Nat,qam (List.replicate n l).flatten=true
 | 0=>by simp
 | n + 1=>by rw [List.replicate_succ,List.flatten_cons,qcE,h,qfV h n]; rfl
theorem od_repM {X:Cx}:OpR X (binaryOp .Mult) (r2 X.K repM):=by
 intro pins s σ H v u vv uu Q I rv ru h
 obtain ⟨ρ,x,y,c,W,rx,ry,p⟩:=h
 unfold repM at p
 split at p
 ·split at p
  ·rename_i hl
   obtain ⟨a,xs,rfl,sa,ra⟩:=rx
   cases ry
   exact op_rep pins s σ H _ _ vv uu Q I rv ru ⟨a,_,xs,rfl,rfl,sa.1,hl.1,hl.2.1,by rw [ra.length]; exact hl.2.2.1,qgp W (qfV hl.2.2.2 _) (Rels.rep ra _) p⟩
  ·exact p.elim
 ·exact p.elim
def qdu (o a:yD):yD:=fun e c=>(o e c).bind fun x c=>match x with
 | .ref k=>(a e c).bind fun y c=>match y with
  | .lst m=>match c[k]? with
   | some (.lst l)=>if l.length + m.length≤sizeLine∧qam m=true then .ok .non (c.set k (.lst (l ++ m))) else .bad
   | none=>.bad
  | _=>.bad
 | _=>.bad
theorem pd_extend {X:Cx} {o e:Expr} {dO da:yD} {apos cpos:Pos} (ho:PEd X o dO) (ha:PEd X e da)
  (hbase:attributeBase o "extend" X.env (eval o X.env)=eval o X.env:=by rfl)
  (hfew:((backTo cpos (starEach [e] X.env)).all (fun x=>!x.1) && (backToKw cpos (keywordEach [] X.env)).all (fun x=>x.1.isSome)
   && decide ([e].length + ([]:List Keyword).length + (if ([]:List Keyword).isEmpty then 0 else 1) < 30))=true:=by exact qgb rfl)
  (hline:(apos.endLine == cpos.line)=true:=by rfl) (hs:starEach [e] X.env=(false,eval e X.env) :: starEach [] X.env:=by exact qaQ rfl) (hplain:(backTo cpos (starEach [] X.env)).any (·.1)=false:=by exact qbV rfl) :
  PEd X (.Call (.Attribute o "extend" apos) [e] [] cpos) (qdu dO da) :=
 (pe_bm PySem.F.plainAttrs_list PySem.F.slot_list_extend PySem.F.type_list_extend mt_extend ho (qe0 ha pa_nil hs) hbase hfew hline hs hplain).imp fun σ H Q h=>by
  obtain ⟨ρ,e,c,W,V,p⟩:=h
  refine ⟨ρ,e,c,W,V,post.bind p fun x c1 ρ1 H1 v _ W1 X1 r1 p1=>?_⟩
  cases x with
  | ref k =>
   obtain ⟨a,rfl,ha⟩:=r1
   obtain ⟨xs,hx⟩:=W1.at' (List.mem_of_getElem? ha)
   refine ⟨.inl ⟨rfl,xs,SqL.of hx⟩,ρ1,e,c1,W1,V.mono W X1,post.bind p1 fun y c2 ρ2 H2 u _ W2 X2 r2 p2=>?_⟩
   cases y with
   | lst m =>
    obtain ⟨b,zs,rfl,sb,rb⟩:=r2
    dsimp only at p2
    split at p2
    ·rename_i l hl
     split at p2
     ·rename_i hh
      obtain ⟨nr,ys,hy,rl⟩:=W2.cel k a _ (X2.pre k a ha) hl
      refine ⟨a,b,ys,zs,rfl,rfl,hy,sb.1,by rw [rl.length,rb.length]; exact hh.1,?_⟩
      refine p2 ρ2 _ .non (W2.write (X2.pre k a ha) (by rw [qcE,nr,hh.2]; rfl) (rl.append rb)) (Ext.write (X2.pre k a ha)) rfl
     ·exact p2.elim
    ·exact p2.elim
   | _=>exact p2.elim
  | _=>exact p1.elim
section
variable (e:Ev) (c:LC) (o a:yD)
@[simp] theorem x_repM (m:List D) (k:Int):repM (.lst m) (.int k) c=if -(2 ^ 63)≤k∧k < 2 ^ 63∧m.length * k.toNat≤sizeLine∧qam m=true then .ok (.ref c.length) (c ++ [.lst (List.replicate k.toNat m).flatten]) else .bad:=rfl
end
theorem qe5 {α:Type} {st:LC→Prop} {g:Gd} {s:dF} (C:Nat→LC) (E:Nat→α→Ev):∀ (items:List D) (k:Nat) (v:α),(∀ i,i≤items.length→st (C (k + i))) →
  (∀ i x,items[i]? = some x→∀ v,∃ e',g x (E (k + i) v) (C (k + i))=.ok e' (C (k + i))∧∃ v',s e' (C (k + i))=.ok (.nx (E (k + i + 1) v')) (C (k + i + 1))) →
  ∃ v',forD st g s items (E k v) (C k)=.ok (.nx (E (k + items.length) v')) (C (k + items.length))
 | [],k,v,hst,_=>⟨v,by
   have:=hst 0 (Nat.le_refl _)
   rw [Nat.add_zero] at this
   unfold forD
   rw [if_pos this]; rfl⟩
 | x :: xs,k,v,hst,h=>by
  obtain ⟨e',h1,v',h2⟩:=h 0 x rfl v
  obtain ⟨v2,h3⟩:=qe5 C E xs (k + 1) v' (fun i hi=>by
   have:=hst (i + 1) (by simp only [List.length_cons]; omega)
   rwa [show k + (i + 1)=k + 1 + i by omega] at this) (fun i y hy v=>by
   have:=h (i + 1) y (by simpa using hy) v
   rwa [show k + (i + 1)=k + 1 + i by omega] at this)
  refine ⟨v2,?_⟩
  unfold forD
  rw [if_pos (by have:=hst 0 (Nat.zero_le _); exact this)]
  rw [Nat.add_zero] at h1 h2
  rw [h1,R.bind_ok,h2]
  simp only [R.bind_ok]
  rw [h3,List.length_cons,show k + (xs.length + 1)=k + 1 + xs.length by omega]
theorem qe4 {α:Type} {g:Gd} {s:dF} (C:Nat→LC) (E:Nat→α→Ev) {N:Int} {n:Nat} (hN:N=n) (v:α)
  (h:∀ i,i < n→∀ v,∃ e',g (.int (i:Nat)) (E i v) (C i)=.ok e' (C i)∧∃ v',s e' (C i)=.ok (.nx (E (i + 1) v')) (C (i + 1))) :
  ∃ v',forD (fun _=>True) g s (rngD 0 N) (E 0 v) (C 0)=.ok (.nx (E n v')) (C n):=by
 have hl:(rngD 0 N).length=n:=by rw [qcT]; omega
 have:=qe5 (st:=fun _=>True) C E (rngD 0 N) 0 v (fun _ _=>trivial) (fun i x hx v=>by
  obtain ⟨h1,rfl⟩:=rng_get hx
  rw [Nat.zero_add,Int.zero_add]
  exact h i (by omega) v)
 rwa [hl,Nat.zero_add] at this
theorem ix_end {c:LC} {l:List D} {i:Int} {j:Nat} {d:D} (hi:i=j) (h:l[j]? = some d):ixD (.ref c.length) (.int i) (c ++ [.lst l])=.ok d (c ++ [.lst l]):=by
 subst hi
 unfold ixD seqD
 simp only [List.getElem?_concat_length]
 have:=qdw (xs:=l) (j:=j) (v:=d) h
 rw [this]
theorem set_end {c:LC} {l:List D} {i:Int} {j:Nat} {d:D} (hi:i=j) (h:j < l.length) (hd:qbT d=true):setD (.ref c.length) (.int i) d (c ++ [.lst l])=.ok () (c ++ [.lst (l.set j d)]):=by
 subst hi
 unfold setD
 simp [ixN,h,hd]
def qgL:List Expr→Option (List Int)
 | []=>some []
 | e :: r=>match e with
  | .Constant (.int i) _ _=>(qgL r).map (i :: ·)
  | _=>none
def dInts (l:List Int):dS:=fun _ c=>.ok (l.map D.int) c
theorem pd_ints {X:Cx}:∀ {es:List Expr} {l:List Int},qgL es=some l→PAd X es (dInts l)
 | [],l,h=>by cases h; exact qa3
 | e :: es,l,h=>by
  unfold qgL at h
  split at h
  ·rename_i i j pos
   cases q:qgL es with
   | none=>rw [q] at h; cases h
   | some r =>
    rw [q] at h
    cases h
    exact qa1 qac (pd_ints q) (qaQ rfl)
  ·cases h
@[simp] theorem x_ints (l:List Int) (e:Ev) (c:LC):dInts l e c=.ok (l.map D.int) c:=rfl
end L2
namespace L2
open PySem
abbrev Up (l:List Nat):Prop:=l.Pairwise (· < ·)
theorem getD_list (xs:Array Nat) (i d:Nat):xs.getD i d=xs.toList.getD i d:=by
 simp [Array.getD_eq_getD_getElem?,List.getD_eq_getElem?_getD]
theorem up_lt {l:List Nat} (h:Up l) {i k:Nat} (hik:i < k) (hk:k < l.length):l.getD i 0 < l.getD k 0:=by
 have:=List.pairwise_iff_getElem.mp h i k (by omega) hk hik
 simpa [List.getD_eq_getElem?_getD,List.getElem?_eq_getElem hk,List.getElem?_eq_getElem (show i < l.length by omega)] using this
def Parts (l:List Nat) (j p:Nat):Prop:=p≤l.length∧(∀ i,i < p→l.getD i 0 < j)∧∀ i,p≤i→i < l.length→j≤l.getD i 0
theorem qgJ {xs:Array Nat} {j:Nat} (h:Up xs.toList):∀ fuel lo hi,lo≤hi→hi≤xs.toList.length→hi - lo≤fuel→(∀ i,i < lo→xs.toList.getD i 0 < j)→(∀ i,hi≤i→i < xs.toList.length→j≤xs.toList.getD i 0) →
  Parts xs.toList j (SetTable.below.go xs j fuel lo hi)
 | 0,lo,hi,h1,h2,h3,h4,h5=>⟨by unfold SetTable.below.go; omega,fun i hi'=>h4 i (by unfold SetTable.below.go at hi'; exact hi'),fun i hi'=>h5 i (by unfold SetTable.below.go at hi'; omega)⟩
 | fuel + 1,lo,hi,h1,h2,h3,h4,h5=>by
  unfold SetTable.below.go
  by_cases hl:lo < hi
  ·rw [if_pos hl]
   dsimp only
   have hm:(lo + hi) / 2 < xs.toList.length:=by omega
   have he:xs.getD ((lo + hi) / 2) j=xs.toList.getD ((lo + hi) / 2) 0:=by
    rw [getD_list]; simp [List.getD_eq_getElem?_getD,List.getElem?_eq_getElem hm]
   rw [he]
   by_cases hc:xs.toList.getD ((lo + hi) / 2) 0 < j
   ·rw [if_pos hc]
    refine qgJ h fuel _ _ (by omega) h2 (by omega) (fun i hi'=>?_) h5
    by_cases hq:i=(lo + hi) / 2
    ·rw [hq]; exact hc
    ·exact Nat.lt_trans (up_lt h (show i < (lo + hi) / 2 by omega) hm) hc
   ·rw [if_neg hc]
    refine qgJ h fuel _ _ (by omega) (by omega) (by omega) h4 (fun i hi' hl'=>?_)
    by_cases hq:i=(lo + hi) / 2
    ·rw [hq]; omega
    ·exact Nat.le_trans (by omega) (Nat.le_of_lt (up_lt h (show (lo + hi) / 2 < i by omega) hl'))
  ·rw [if_neg hl]
   exact ⟨by omega,h4,fun i hi'=>h5 i (by omega)⟩
theorem qfv {xs:Array Nat} (h:Up xs.toList) (j:Nat):Parts xs.toList j (SetTable.below xs j):=by
 unfold SetTable.below
 exact qgJ h _ _ _ (Nat.zero_le _) (by simp) (by simp) (fun i hi=>absurd hi (Nat.not_lt_zero _)) (fun i h1 h2=>by simp at h2; omega)
theorem qfw {xs:Array Nat} (h:Up xs.toList) {j:Nat} (hj:j∈xs.toList):xs[SetTable.below xs j]? = some j:=by
 obtain ⟨i,hi,e⟩:=List.getElem_of_mem hj
 obtain ⟨h1,h2,h3⟩:=qfv h j
 have e':xs.toList.getD i 0=j:=by rw [List.getD_eq_getElem?_getD,List.getElem?_eq_getElem hi]; exact e
 have hp:SetTable.below xs j=i:=by
  rcases Nat.lt_trichotomy (SetTable.below xs j) i with q | q | q
  ·have a:=h3 (SetTable.below xs j) (Nat.le_refl _) (by omega)
   have b:=up_lt h q hi
   omega
  ·exact q
  ·have a:=h2 i q; omega
 rw [hp,← Array.getElem?_toList,List.getElem?_eq_getElem hi,e]
theorem up_put {xs:Array Nat} (h:Up xs.toList) {j:Nat} (hj:j∉xs.toList):Up (SetTable.insertAt xs (SetTable.below xs j) j).toList:=by
 rw [SetTable.toList_insertAt]
 obtain ⟨h1,h2,h3⟩:=qfv h j
 generalize SetTable.below xs j=p at h1 h2 h3
 have ht:∀ a∈xs.toList.take p,a < j:=by
  intro a ha
  obtain ⟨i,hi,e⟩:=List.getElem_of_mem ha
  have hi':i < p∧i < xs.toList.length:=by simp at hi ⊢; omega
  have:=h2 i hi'.1
  rw [List.getElem_take] at e
  rw [List.getD_eq_getElem?_getD,List.getElem?_eq_getElem hi'.2] at this
  simpa [← e] using this
 have hd:∀ a∈xs.toList.drop p,j < a:=by
  intro a ha
  have hm:a∈xs.toList:=List.mem_of_mem_drop ha
  obtain ⟨i,hi,e⟩:=List.getElem_of_mem ha
  have hi':p + i < xs.toList.length:=by simp at hi ⊢; omega
  have:=h3 (p + i) (by omega) hi'
  rw [List.getElem_drop] at e
  rw [List.getD_eq_getElem?_getD,List.getElem?_eq_getElem hi'] at this
  have hle:j≤a:=by simpa [← e] using this
  exact Nat.lt_of_le_of_ne hle fun q=>hj (q ▸ hm)
 refine List.pairwise_append.mpr ⟨h.sublist (List.take_sublist _ _),List.pairwise_cons.mpr ⟨hd,h.sublist (List.drop_sublist _ _)⟩,fun a ha b hb=>?_⟩
 rcases List.mem_cons.mp hb with rfl | hb
 ·exact ht a ha
 ·exact Nat.lt_trans (ht a ha) (hd b hb)
theorem pigeon:∀ (n:Nat) (l:List Nat),(∀ j,j < n→j∈l)→n≤l.length
 | 0,_,_=>Nat.zero_le _
 | n + 1,l,h=>by
  have hn:=h n (Nat.lt_succ_self _)
  have:=pigeon n (l.erase n) fun j hj=>(List.mem_erase_of_ne (by omega)).mpr (h j (by omega))
  rw [List.length_erase_of_mem hn] at this
  have:=List.length_pos_of_mem hn
  omega
def cov (mask:Nat):Nat→Nat→Nat→Nat→Nat→Nat→Bool
 | 0,_,_,_,_,_=>false
 | n + 1,j,more,i,q,acc =>
  if acc ||| (1 <<< j)=2 ^ (mask + 1) - 1 then true
  else if more > 0 then cov mask n (j + 1) (more - 1) i q (acc ||| (1 <<< j))
  else cov mask n ((i * 5 + 1 + q / 32) % (mask + 1)) (SetTable.runEnd mask ((i * 5 + 1 + q / 32) % (mask + 1)) - (i * 5 + 1 + q / 32) % (mask + 1)) ((i * 5 + 1 + q / 32) % (mask + 1)) (q / 32) (acc ||| (1 <<< j))
def covAll (mask:Nat):Bool:=(List.range 128).all fun h=>cov mask (10 * (mask + 15)) (h % (mask + 1)) (SetTable.runEnd mask (h % (mask + 1)) - h % (mask + 1)) (h % (mask + 1)) h 0
def covR (mask:Nat):Nat→Nat→Nat→Nat→Bool
 | 0,_,_,_=>false
 | n + 1,i,q,acc =>
  if acc ||| ((2 ^ (SetTable.runEnd mask i + 1 - i) - 1) <<< i)=2 ^ (mask + 1) - 1 then true
  else covR mask n ((i * 5 + 1 + q / 32) % (mask + 1)) (q / 32) (acc ||| ((2 ^ (SetTable.runEnd mask i + 1 - i) - 1) <<< i))
def covRAll (mask:Nat):Bool:=(List.range 128).all fun h=>covR mask (mask + 15) (h % (mask + 1)) h 0
theorem cov7:covAll 7=true:=by decide +kernel
theorem cov31:covAll 31=true:=by decide +kernel
theorem cov127:covAll 127=true:=by decide +kernel
theorem covR31:covRAll 31=true:=by decide +kernel
theorem covR127:covRAll 127=true:=by decide +kernel
end L2
namespace L2
open PySem
theorem qf0 (acc j k:Nat):(acc ||| (1 <<< j)).testBit k=(acc.testBit k || decide (k=j)):=by
 rw [Nat.testBit_or,Nat.one_shiftLeft,Nat.testBit_two_pow]
 by_cases h:j=k
 ·subst h; simp
 ·simp [h,Ne.symm h]
theorem cov_le {mask:Nat}:∀ n j more i q acc,cov mask n j more i q acc=true→∀ k,acc.testBit k=true→k≤mask
 | 0,_,_,_,_,_,h,_,_=>by cases h
 | n + 1,j,more,i,q,acc,h,k,hk=>by
  have hk':(acc ||| (1 <<< j)).testBit k=true:=by rw [qf0,hk]; rfl
  unfold cov at h
  split at h
  ·rename_i e
   rw [e,Nat.testBit_two_pow_sub_one] at hk'
   have:=of_decide_eq_true hk'; omega
  ·split at h
   ·exact cov_le _ _ _ _ _ _ h k hk'
   ·exact cov_le _ _ _ _ _ _ h k hk'
theorem qgd {t:SetTable} (hd:t.dummies=#[]) (j:Nat):t.slot j=.empty∨∃ i,t.slot j=.live i:=by
 unfold SetTable.slot
 dsimp only
 split
 ·exact .inr ⟨_,rfl⟩
 ·rw [hd]
  exact .inl rfl
theorem qgB {t:SetTable} {h:Int} (hd:t.dummies=#[]):∀ n (p:SetTable.Probe) acc fuel,cov t.mask n p.j p.more p.i p.perturb acc=true→p.dummy=none→n≤fuel →
  (∀ k,acc.testBit k=true→t.slot k≠.empty)→(∃ j,j≤t.mask∧t.slot j=.empty) →
  ∃ j,SetTable.probe.go t (fun _=>h + 1) h fuel p=some (.empty j none)∧t.slot j=.empty∧j≤t.mask
 | 0,_,_,_,h,_,_,_,_=>by simp [cov] at h
 | n + 1,p,acc,0,_,_,h,_,_=>by omega
 | n + 1,p,acc,fuel + 1,hc,hn,hf,ha,hj=>by
  have hle:p.j≤t.mask:=by
   have hk':(acc ||| (1 <<< p.j)).testBit p.j=true:=by rw [qf0]; simp
   unfold cov at hc
   split at hc
   ·rename_i e
    rw [e,Nat.testBit_two_pow_sub_one] at hk'
    have:=of_decide_eq_true hk'; omega
   ·split at hc
    ·exact cov_le _ _ _ _ _ _ hc _ hk'
    ·exact cov_le _ _ _ _ _ _ hc _ hk'
  unfold SetTable.probe.go
  rcases qgd hd p.j with e | ⟨i,e⟩
  ·rw [e]
   dsimp only
   exact ⟨p.j,by rw [hn],e,hle⟩
  ·rw [e]
   dsimp only
   have hne:(h + 1 == h)=false:=by simp; omega
   rw [hne]
   simp only [Bool.false_eq_true,if_false]
   have ha':∀ k,(acc ||| (1 <<< p.j)).testBit k=true→t.slot k≠.empty:=by
    intro k hk
    rw [qf0,Bool.or_eq_true,decide_eq_true_eq] at hk
    rcases hk with hk | rfl
    ·exact ha k hk
    ·rw [e]; intro q; cases q
   unfold cov at hc
   split at hc
   ·rename_i ef
    obtain ⟨j0,h0,e0⟩:=hj
    exact absurd e0 (ha' j0 (by rw [ef,Nat.testBit_two_pow_sub_one]; exact decide_eq_true (by omega)))
   ·split at hc
    ·rename_i hm
     have hadv:t.advance p={ p with j:=p.j + 1,more:=p.more - 1 }:=by unfold SetTable.advance; rw [if_pos hm]
     rw [hadv]
     exact qgB hd n _ _ fuel hc hn (by omega) ha' hj
    ·rename_i hm
     have hadv:t.advance p={ p with j:=(p.i * 5 + 1 + p.perturb / 32) % (t.mask + 1),more:=SetTable.runEnd t.mask ((p.i * 5 + 1 + p.perturb / 32) % (t.mask + 1)) - (p.i * 5 + 1 + p.perturb / 32) % (t.mask + 1),i:=(p.i * 5 + 1 + p.perturb / 32) % (t.mask + 1),perturb:=p.perturb / 32 }:=by
      unfold SetTable.advance; rw [if_neg hm]; rfl
     rw [hadv]
     exact qgB hd n _ _ fuel hc hn (by omega) ha' hj
theorem qg4 {n:Nat} (h:n < 128):SetTable.bits (n:Int)=n:=by
 unfold SetTable.bits
 have:((n:Int) % (2 ^ 64:Int))=n:=Int.emod_eq_of_lt (by omega) (by omega)
 rw [this]; rfl
def qfd (m:Nat):Prop:=m=7∨m=31∨m=127
theorem cov_of {m:Nat} (h:qfd m) {n:Nat} (hn:n < 128):cov m (10 * (m + 15)) (n % (m + 1)) (SetTable.runEnd m (n % (m + 1)) - n % (m + 1)) (n % (m + 1)) n 0=true:=by
 have:covAll m=true:=h.elim (fun e=>e ▸ cov7) fun h=>h.elim (fun e=>e ▸ cov31) fun e=>e ▸ cov127
 exact List.all_eq_true.mp this n (List.mem_range.mpr hn)
theorem free_slot {t:SetTable} {n:Nat} (hd:t.dummies=#[]) (hm:qfd t.mask) (hn:n < 128) (hs:t.place.toList.length≤t.mask) (hu:Up t.place.toList) :
  ∃ j,t.freeSlot (n:Int)=some (j,false)∧j∉t.place.toList∧j≤t.mask:=by
 have hmem:∀ j,t.slot j=.empty→j∉t.place.toList:=by
  intro j e hj
  unfold SetTable.slot at e
  dsimp only at e
  rw [qfw hu hj] at e
  simp at e
 have hemp:∀ j,j∉t.place.toList→t.slot j=.empty:=by
  intro j hj
  rcases qgd hd j with e | ⟨i,e⟩
  ·exact e
  ·unfold SetTable.slot at e
   dsimp only at e
   split at e
   ·rename_i q
    have:=eq_of_beq q
    rw [← Array.getElem?_toList] at this
    exact absurd (List.mem_of_getElem? this) hj
   ·split at e <;> cases e
 have hex:∃ j,j≤t.mask∧t.slot j=.empty:=by
  by_cases q:∃ j,j≤t.mask∧j∉t.place.toList
  ·obtain ⟨j,a,b⟩:=q; exact ⟨j,a,hemp j b⟩
  ·have:=pigeon (t.mask + 1) t.place.toList fun j hj=>Classical.byContradiction fun x=>q ⟨j,by omega,x⟩
   omega
 have hb:=qg4 hn
 obtain ⟨j,e,e1,e2⟩:=qgB (t:=t) (h:=(n:Int)) hd (10 * (t.mask + 15)) (t.probeStart n) 0 (10 * SetTable.turns t.mask)
  (by show cov _ _ (SetTable.bits n % _) (SetTable.runEnd t.mask (SetTable.bits n % (t.mask + 1)) - SetTable.bits n % (t.mask + 1)) (SetTable.bits n % _) (SetTable.bits n) _=true; rw [hb]; exact cov_of hm hn) rfl (Nat.le_refl _) (fun k hk=>by simp at hk) hex
 refine ⟨j,?_,hmem j e1,e2⟩
 unfold SetTable.freeSlot SetTable.probe
 rw [e]
 rfl
theorem run_bit (c i k:Nat):((2 ^ c - 1) <<< i).testBit k=decide (i≤k∧k < i + c):=by
 rw [Nat.testBit_shiftLeft,Nat.testBit_two_pow_sub_one]
 by_cases h:i≤k
 ·simp only [ge_iff_le,h,decide_true,Bool.true_and,true_and]
  exact decide_eq_decide.mpr (by omega)
 ·simp [h]
theorem qgv {mask:Nat} {owner:Array (Option Nat)}:∀ n i q acc fuel,covR mask n i q acc=true→n≤fuel→(∀ k,k≤mask→acc.testBit k=true→owner.getD k (some 0)≠none) →
  (∃ j,j≤mask∧owner.getD j (some 0)=none)→∃ j,SetTable.layClean.free mask owner fuel i q=some j∧owner.getD j (some 0)=none
 | 0,_,_,_,_,h,_,_,_=>by simp [covR] at h
 | n + 1,i,q,acc,0,_,h,_,_=>by omega
 | n + 1,i,q,acc,fuel + 1,hc,hf,ha,hj=>by
  unfold SetTable.layClean.free
  cases hr:(List.range (SetTable.runEnd mask i + 1 - i)).find? (fun k=>(owner.getD (i + k) (some 0)).isNone) with
  | some k =>
   dsimp only
   have:=List.find?_some hr
   exact ⟨i + k,rfl,by simpa using this⟩
  | none =>
   dsimp only
   have hno:=List.find?_eq_none.mp hr
   have ha':∀ k,k≤mask→(acc ||| ((2 ^ (SetTable.runEnd mask i + 1 - i) - 1) <<< i)).testBit k=true→owner.getD k (some 0)≠none:=by
    intro k hk hb
    rw [Nat.testBit_or,run_bit,Bool.or_eq_true,decide_eq_true_eq] at hb
    rcases hb with hb | hb
    ·exact ha k hk hb
    ·intro e
     have:=hno (k - i) (List.mem_range.mpr (by omega))
     rw [show i + (k - i)=k by omega,e] at this
     exact this rfl
   unfold covR at hc
   split at hc
   ·rename_i ef
    obtain ⟨j0,h0,e0⟩:=hj
    exact absurd e0 (ha' j0 h0 (by rw [ef,Nat.testBit_two_pow_sub_one]; exact decide_eq_true (by omega)))
   ·exact qgv n _ _ _ fuel hc (by omega) ha' hj
def qcz (m:Nat):Prop:=m=31∨m=127
theorem covR_of {m:Nat} (h:qcz m) {n:Nat} (hn:n < 128):covR m (m + 15) (n % (m + 1)) n 0=true:=by
 have:covRAll m=true:=h.elim (fun e=>e ▸ covR31) fun e=>e ▸ covR127
 exact List.all_eq_true.mp this n (List.mem_range.mpr hn)
theorem qgE:∀ (l:List (Option Nat)) (j k:Nat),j < l.length→l.getD j (some 0)=none→((l.set j (some k)).filterMap id).Perm (k :: l.filterMap id)
 | [],_,_,h,_=>absurd h (Nat.not_lt_zero _)
 | x :: l,0,k,_,e=>by
  have:x=none:=by simpa using e
  subst this
  simp
 | x :: l,j + 1,k,h,e=>by
  have ih:=qgE l j k (by simpa using h) (by simpa using e)
  rw [List.set_cons_succ]
  cases x with
  | none=>simpa using ih
  | some a =>
   simp only [List.filterMap_cons,id]
   exact (ih.cons a).trans (List.Perm.swap _ _ _)
theorem qfp:∀ (l:List (Option Nat)),(∀ j,j < l.length→l.getD j (some 0)≠none)→(l.filterMap id).length=l.length
 | [],_=>rfl
 | x :: l,h=>by
  cases x with
  | none=>exact absurd rfl (h 0 (by simp))
  | some a =>
   have:=qfp l fun j hj=>by simpa using h (j + 1) (by simpa using hj)
   simp [this]
def LayI (mask:Nat) (owner:Array (Option Nat)) (k:Nat):Prop:=owner.toList.length=mask + 1∧(owner.toList.filterMap id).Perm (List.range k)
theorem qbU (xs:Array (Option Nat)) (i:Nat) (d:Option Nat):xs.getD i d=xs.toList.getD i d:=by
 simp [Array.getD_eq_getD_getElem?,List.getD_eq_getElem?_getD]
theorem lay_step {mask:Nat} {owner:Array (Option Nat)} {k n:Nat} (hm:qcz mask) (hn:n < 128) (I:LayI mask owner k) (hk:k≤mask) :
  ∃ j,SetTable.layClean.free mask owner (SetTable.turns mask) (SetTable.bits n % (mask + 1)) (SetTable.bits n)=some j∧LayI mask (owner.setIfInBounds j (some k)) (k + 1):=by
 obtain ⟨h1,h2⟩:=I
 have hex:∃ j,j≤mask∧owner.getD j (some 0)=none:=by
  by_cases q:∃ j,j≤mask∧owner.getD j (some 0)=none
  ·exact q
  ·have:=qfp owner.toList fun j hj e=>q ⟨j,by omega,by rw [qbU]; exact e⟩
   have h3:=h2.length_eq
   rw [List.length_range] at h3
   omega
 obtain ⟨j,e,e1⟩:=qgv (mask + 15) _ _ 0 (SetTable.turns mask) (covR_of hm hn) (Nat.le_refl _) (fun k _ hb=>by simp at hb) hex
 refine ⟨j,by rw [qg4 hn]; exact e,by simpa using h1,?_⟩
 rw [qbU] at e1
 have hj:j < owner.toList.length:=by
  rcases Nat.lt_or_ge j owner.toList.length with q | q
  ·exact q
  ·rw [List.getD_eq_getElem?_getD,List.getElem?_eq_none q] at e1; cases e1
 rw [Array.toList_setIfInBounds]
 refine (qgE _ j k hj e1).trans ?_
 rw [List.range_succ]
 exact (h2.cons k).trans (List.perm_append_singleton k _).symm
theorem lay_all {mask:Nat} (hm:qcz mask):∀ (hs:List Int) (owner:Array (Option Nat)) (k:Nat),(∀ h∈hs,∃ n:Nat,h=n∧n < 128)→LayI mask owner k→k + hs.length≤mask →
  ∃ ow,hs.foldl (fun acc h=>(do
   let (owner,k) ← acc
   let j ← SetTable.layClean.free mask owner (SetTable.turns mask) (SetTable.bits h % (mask + 1)) (SetTable.bits h)
   pure (owner.setIfInBounds j (some k),k + 1):Option (Array (Option Nat)×Nat))) (some (owner,k))=some (ow,k + hs.length)∧LayI mask ow (k + hs.length)
 | [],owner,k,_,I,_=>⟨owner,rfl,I⟩
 | h :: hs,owner,k,hh,I,hl=>by
  obtain ⟨n,e,hn⟩:=hh h (.head _)
  subst e
  simp only [List.length_cons] at hl
  obtain ⟨j,e,I'⟩:=lay_step hm hn I (by omega)
  obtain ⟨ow,e',I''⟩:=lay_all hm hs _ (k + 1) (fun h x=>hh h (.tail _ x)) I' (by omega)
  refine ⟨ow,?_,by rw [List.length_cons,show k + (hs.length + 1)=k + 1 + hs.length by omega]; exact I''⟩
  rw [List.foldl_cons,List.length_cons,show k + (hs.length + 1)=k + 1 + hs.length by omega,← e']
  congr 1
  show (do let j ← SetTable.layClean.free mask owner (SetTable.turns mask) (SetTable.bits n % (mask + 1)) (SetTable.bits n); pure (owner.setIfInBounds j (some k),k + 1):Option (Array (Option Nat)×Nat))=_
  rw [e]
  rfl
theorem lay_clean {mask:Nat} (hm:qcz mask) (hs:Array Int) (hh:∀ h∈hs.toList,∃ n:Nat,h=n∧n < 128) (hl:hs.toList.length≤mask) :
  ∃ ow,SetTable.layClean mask hs=some ow∧LayI mask ow hs.toList.length:=by
 obtain ⟨ow,e,I⟩:=lay_all hm hs.toList (Array.replicate (mask + 1) none) 0 hh ⟨by simp,by simp⟩ (by omega)
 rw [Nat.zero_add] at e I
 refine ⟨ow,?_,I⟩
 unfold SetTable.layClean
 rw [← Array.foldl_toList]
 exact congrArg (Option.map (fun x:Array (Option Nat)×Nat=>x.1)) e
theorem qev (l:List (Option Nat)):(List.range l.length).filterMap (fun j=>l.getD j none)=l.filterMap id:=by
 have:l=(List.range l.length).map (fun j=>l.getD j none):=by
  apply List.ext_getElem
  ·simp
  ·intro i h1 h2
   simp [List.getD_eq_getElem?_getD,List.getElem?_eq_getElem h1]
 conv=>rhs; rw [this]
 rw [List.filterMap_map]
 rfl
theorem laid_ok {mask:Nat} (hm:qcz mask) (f mv:Nat) (led plain:Bool) (hs:Array Int) (hh:∀ h∈hs.toList,∃ n:Nat,h=n∧n < 128) (hl:hs.toList.length≤mask) :
  ∃ place order,SetTable.laid mask f mv led plain hs=some ({ mask:=mask,place:=place,dummies:=#[],finger:=f,led:=led,moves:=mv,plain:=plain },order)∧Up place.toList∧(∀ j∈place.toList,j≤mask)∧place.size=hs.size∧order.toList.Perm (List.range hs.size):=by
 obtain ⟨ow,e,h1,h2⟩:=lay_clean hm hs hh hl
 refine ⟨(((List.range (mask + 1)).filterMap fun j=>(ow.getD j none).map (j,·)).map (·.1)).toArray,(((List.range (mask + 1)).filterMap fun j=>(ow.getD j none).map (j,·)).map (·.2)).toArray,?_,?_,?_,?_,?_⟩
 ·unfold SetTable.laid
  rw [e]
  rfl
 ·show Up ((((List.range (mask + 1)).filterMap fun j=>(ow.getD j none).map (j,·)).map (·.1)).toArray).toList
  show List.Pairwise _ _
  rw [List.pairwise_map]
  refine List.Pairwise.filterMap _ (fun a a' hlt b hb b' hb'=>?_) List.pairwise_lt_range
  cases ha:ow.getD a none <;> rw [ha] at hb <;> simp at hb
  cases ha':ow.getD a' none <;> rw [ha'] at hb' <;> simp at hb'
  rw [← hb,← hb']
  exact hlt
 ·intro j hj
  simp only [List.mem_map,List.mem_filterMap,List.mem_range] at hj
  obtain ⟨⟨a,b⟩,⟨c,hc,hq⟩,rfl⟩:=hj
  cases ha:ow.getD c none <;> rw [ha] at hq <;> simp at hq
  obtain ⟨rfl,_⟩:=hq
  omega
 ·have:((List.range (mask + 1)).filterMap fun j=>(ow.getD j none).map (j,·)).length=(ow.toList.filterMap id).length:=by
   rw [← qev,h1,← List.length_map (f:=Prod.snd),List.map_filterMap]
   congr 1
   congr 1
   funext j
   rw [qbU]
   cases ow.toList.getD j none <;> rfl
  rw [List.size_toArray,List.length_map,this,h2.length_eq,List.length_range]
  simp
 ·show (((List.range (mask + 1)).filterMap fun j=>(ow.getD j none).map (j,·)).map (·.2)).Perm _
  have:(((List.range (mask + 1)).filterMap fun j=>(ow.getD j none).map (j,·)).map (·.2))=ow.toList.filterMap id:=by
   rw [← qev,h1,List.map_filterMap]
   congr 1
   funext j
   rw [qbU]
   cases ow.toList.getD j none <;> rfl
  rw [this]
  simpa using h2
end L2
namespace L2
open PySem
structure TblI (t:SetTable) (n:Nat):Prop where
 size:t.place.size=n
 up:Up t.place.toList
 le:∀ j∈t.place.toList,j≤t.mask
 dm:t.dummies=#[]
 mask:(t.mask=7∧n≤4)∨(t.mask=31∧n≤18)∨(t.mask=127∧n≤76)
 plain:t.plain=true
theorem TblI.fits {t:SetTable} {n:Nat} (h:TblI t n):t.fits n=true:=by
 have:=h.mask
 simp only [SetTable.fits,SetTable.fill,h.size,h.dm,Bool.and_eq_true,beq_self_eq_true,true_and,decide_eq_true_eq]
 simp only [List.size_toArray,List.length_nil]
 omega
theorem ti_fresh (led:Bool):TblI (.fresh 0 0 led) 0:=⟨rfl,.nil,fun j h=>by simp [SetTable.fresh] at h,rfl,.inl ⟨rfl,by omega⟩,rfl⟩
def HS (es:List (Int×Value)):Prop:=∀ e∈es,∃ n:Nat,e.1=n∧n < 128
theorem lay_new {t:SetTable} {es:Array (Int×Value)} {x:Value} {m:Nat} (I:TblI t es.size) (hm:m < 128) (hn:es.size < 64) :
  ∃ es1 t1,layNew t es (m:Int) x=(es1,t1,false,false)∧es1.size=es.size + 1∧t1.led=t.led∧t1.plain=true∧t1.place.size=es1.size∧Up t1.place.toList∧(∀ j∈t1.place.toList,j≤t1.mask)∧t1.dummies=#[]∧t1.mask=t.mask∧t1.fits es1.size=true:=by
 have hk:=I.mask
 have hok:qfd t.mask:=by unfold qfd; omega
 have hsz:=I.size
 obtain ⟨j,e,h1,h2⟩:=free_slot (t:=t) I.dm hok hm (by simp [hsz]; omega) I.up
 have hnd:(if SetTable.has t.dummies j then SetTable.eraseAt t.dummies (SetTable.below t.dummies j) else t.dummies)=#[]:=by
  rw [I.dm]; rfl
 have hs1:(SetTable.insertAt es (SetTable.below t.place j) ((m:Int),x)).size=es.size + 1:=by
  rw [← Array.length_toList,(SetTable.insertAt_perm ..).length_eq]; simp
 have hs2:(SetTable.insertAt t.place (SetTable.below t.place j) j).size=es.size + 1:=by
  rw [← Array.length_toList,(SetTable.insertAt_perm ..).length_eq]; simp [hsz]
 have hfit:(t.put j).1.fits (es.size + 1)=true:=by
  simp only [SetTable.put,SetTable.fits,SetTable.fill,hnd,hs2,Bool.and_eq_true,beq_self_eq_true,true_and,decide_eq_true_eq]
  simp only [List.size_toArray,List.length_nil]
  omega
 refine ⟨SetTable.insertAt es (SetTable.below t.place j) ((m:Int),x),(t.put j).1,?_,hs1,rfl,I.plain,?_,?_,?_,hnd,rfl,?_⟩
 ·unfold layNew
  rw [e]
  dsimp only
  have hp:(t.put j).2=SetTable.below t.place j:=rfl
  rw [hp,hs1]
  unfold SetTable.orStandIn
  rw [hfit]
  rfl
 ·rw [hs1]; exact hs2
 ·exact up_put I.up h1
 ·intro k hk'
  have:k∈(t.place.push j).toList:=(SetTable.insertAt_perm t.place (SetTable.below t.place j) j).mem_iff.mp hk'
  rw [Array.toList_push,List.mem_append,List.mem_singleton] at this
  rcases this with q | rfl
  ·exact I.le k q
  ·exact h2
 ·rw [hs1]; exact hfit
theorem relay_ok {t:SetTable} {es:Array (Int×Value)} (hp:t.plain=true) (hh:HS es.toList) (hm:(t.mask=7∧es.size=5)∨(t.mask=31∧es.size=19)) :
  ∃ es2 t2,relayAll t es (SetTable.grown es.size)=(es2,t2,false)∧es2.size=es.size∧TblI t2 es2.size∧t2.led=t.led:=by
 have hw:∃ m,SetTable.sizeAbove (SetTable.grown es.size) - 1=m∧((m=31∧es.size=5)∨(m=127∧es.size=19)):=by
  rcases hm with ⟨_,e⟩ | ⟨_,e⟩
  ·rw [e]; exact ⟨31,by decide,.inl ⟨rfl,rfl⟩⟩
  ·rw [e]; exact ⟨127,by decide,.inr ⟨rfl,rfl⟩⟩
 obtain ⟨m,ew,hq⟩:=hw
 have hs:(es.map (·.1)).toList=es.toList.map (·.1):=by simp
 obtain ⟨place,order,e,u1,u2,u3,u4⟩:=laid_ok (mask:=m) (by unfold qcz; omega) t.finger (t.movedTo m) t.led t.plain (es.map (·.1)) (fun h hx=>by
  rw [hs,List.mem_map] at hx
  obtain ⟨y,hy,rfl⟩:=hx
  exact hh y hy) (by rw [hs,List.length_map,Array.length_toList]; omega)
 rw [Array.size_map] at u3 u4
 have hes:(order.filterMap (es[·]?)).size=es.size:=by
  rw [← Array.length_toList,Array.toList_filterMap]
  exact ((u4.filterMap _).trans (by rw [filterMap_getElem?_range])).length_eq
 have hfit:SetTable.fits { mask:=m,place:=place,dummies:=#[],finger:=t.finger,led:=t.led,moves:=t.movedTo m,plain:=t.plain } es.size=true:=by
  simp only [SetTable.fits,SetTable.fill,u3,Bool.and_eq_true,beq_self_eq_true,true_and,decide_eq_true_eq]
  simp only [List.size_toArray,List.length_nil]
  omega
 refine ⟨order.filterMap (es[·]?),{ mask:=m,place:=place,dummies:=#[],finger:=t.finger,led:=t.led,moves:=t.movedTo m,plain:=t.plain },?_,hes,?_,?_⟩
 rotate_left
 ·rw [hes]
  exact ⟨u3,u1,u2,rfl,.inr (by show (m=31∧_)∨(m=127∧_); omega),hp⟩
 ·rfl
 ·unfold relayAll SetTable.relaid
  rw [ew,e]
  dsimp only
  rw [hes,hfit]
  have hc:coversAll order es.size=true:=by unfold coversAll; exact List.isPerm_iff.mpr u4
  rw [hc]
  rfl
theorem full_cases {t t1:SetTable} {n:Nat} (I:TblI t n) (hm:t1.mask=t.mask) (hs:t1.place.size=n + 1) (hd:t1.dummies=#[]) (hn:n < 64) :
  (t1.tooFull=true→(t1.mask=7∧n + 1=5)∨(t1.mask=31∧n + 1=19))∧(t1.tooFull=false→((t1.mask=7∧n + 1≤4)∨(t1.mask=31∧n + 1≤18)∨(t1.mask=127∧n + 1≤76))):=by
 have hk:=I.mask
 have hz:(#[]:Array Nat).size=0:=rfl
 simp only [SetTable.tooFull,SetTable.fill,hs,hd,hm,hz,decide_eq_true_eq,decide_eq_false_iff_not]
 omega
end L2
namespace L2
open PySem
theorem qfX {n:Nat} (h:n < 128):hashInt (n:Int)=n:=by
 have:((List.range 128).all fun n=>hashInt (n:Int) == (n:Int))=true:=by decide +kernel
 exact eq_of_beq (List.all_eq_true.mp this n (List.mem_range.mpr h))
def byTx (w:World):Bool:=w.params.followText "set-order"
def qdc (ns:List Nat) (x:Nat):List Nat:=if x∈ns then ns else ns ++ [x]
def Smalls (l:List (Int×Value)) (ns:List Nat):Prop:=(l.map (·.1)).Perm (ns.map fun n:Nat=>(n:Int))∧∀ e∈l,∃ (n:Nat) (tk:Tok),e=((n:Int),.int n tk)∧n < 128
def SetI (w:World) (h:Heap) (a:Addr) (ns:List Nat):Prop:=∃ o es ep t,h.get? a=some o∧o.ExactSet∧o.data=.set es ep t∧TblI t es.size∧t.led = !byTx w∧Smalls es.toList ns
theorem Smalls.hs {l:List (Int×Value)} {ns:List Nat} (h:Smalls l ns):HS l:=fun e he=>by
 obtain ⟨n,tk,rfl,hn⟩:=h.2 e he
 exact ⟨n,rfl,hn⟩
theorem Smalls.len {l:List (Int×Value)} {ns:List Nat} (h:Smalls l ns):l.length=ns.length:=by
 have:=h.1.length_eq; simpa using this
theorem Smalls.mem {l:List (Int×Value)} {ns:List Nat} (h:Smalls l ns) (n:Nat):n∈ns↔∃ e∈l,e.1=(n:Int):=by
 constructor
 ·intro hn
  have:(n:Int)∈l.map (·.1):=h.1.mem_iff.mpr (List.mem_map.mpr ⟨n,hn,rfl⟩)
  obtain ⟨e,he,q⟩:=List.mem_map.mp this
  exact ⟨e,he,q⟩
 ·rintro ⟨e,he,q⟩
  have:(n:Int)∈ns.map (fun n:Nat=>(n:Int)):=h.1.mem_iff.mp (List.mem_map.mpr ⟨e,he,q⟩)
  obtain ⟨m,hm,r⟩:=List.mem_map.mp this
  have:m=n:=by omega
  exact this ▸ hm
theorem Smalls.perm {l l':List (Int×Value)} {ns:List Nat} (h:Smalls l ns) (p:l'.Perm l):Smalls l' ns:=⟨(p.map _).trans h.1,fun e he=>h.2 e (p.mem_iff.mp he)⟩
theorem Smalls.push {l:List (Int×Value)} {ns:List Nat} (h:Smalls l ns) {m:Nat} (hm:m < 128) (tk:Tok):Smalls (l ++ [((m:Int),.int m tk)]) (ns ++ [m]):=by
 refine ⟨?_,fun e he=>?_⟩
 ·rw [List.map_append,List.map_append]
  exact h.1.append_right _
 ·rcases List.mem_append.mp he with he | he
  ·exact h.2 e he
  ·rw [List.mem_singleton] at he
   exact ⟨m,tk,he,hm⟩
section
variable {prog:Program} {w:World} {A:Around} {E:Value→Shared→Prop} {s:Shared}
theorem Smalls.els {l:List (Int×Value)} {ns:List Nat} (h:Smalls l ns):ElemsOf (intKind prog w) l:=fun e he=>by
 obtain ⟨n,tk,rfl,hn⟩:=h.2 e he
 exact ⟨⟨n,by simp [intKind,Value.isInt],(qfX hn).symm⟩,rfl⟩
theorem put_at {h:Heap} {a:Addr} {o:Obj} {es es':Array (Int×Value)} {ep:Nat} {t t':SetTable} (ho:h.get? a=some o) (hd:o.data=.set es ep t) :
  (h.update a (Obj.putSet es' t')).get? a=some { o with data:=.set es' (ep + 1) t' }:=by
 have:=Heap.get?_update_self (Obj.putSet es' t') ho (by rw [putSet_of es' t' hd]; rfl)
 rwa [putSet_of es' t' hd] at this
theorem set_add {a:Addr} {ns:List Nat} {m:Nat} {tk:Tok} {Q:Bool→Shared→Prop} (hm:m < 128) (hS:SetI w s.heap a ns) (hn:ns.length < 64)
  (h:∀ b h',Heap.SameBut a s.heap h'→SetI w h' a (qdc ns m)→Q b { s with heap:=h' }):wpAny (model prog w) A (setAddHashed a (.int m tk) (hashInt m)) Q E s:=by
 obtain ⟨o,es,ep,t,ho,hex,hd,hI,hl,hs⟩:=hS
 have hsz:es.size=ns.length:=by rw [← Array.length_toList]; exact hs.len
 have hel:ElemsOf (intKind prog w) es.toList:=hs.els
 have hkey:(intKind prog w).is (m:Int) (.int m tk)=true:=by simp [intKind,Value.isInt]
 unfold setAddHashed setAddHashedIn
 refine wpAny_holding (wpAny_bind (wpAny_setState_of ho hd hI.fits ?_))
 dsimp only
 rw [byScan_of (knd:=intKind prog w) rfl (by unfold scanBound; omega) hel]
 simp only [↓reduceIte]
 unfold setAddByScan
 refine wpAny_bind (wpAny_bind (wpAny_rule (wpAny_bind (wpAny_setScan_of (knd:=intKind prog w) hkey ho hd hI.fits hel ?_))))
 have hfind:∀ e∈es.toList,(intKind prog w).is (m:Int) e.2=true→e.1=(m:Int):=fun e he q=>by
  obtain ⟨n,tk',rfl,_⟩:=hs.2 e he
  obtain ⟨t',q⟩:=Value.isInt_shape (show Value.isInt (m:Int) (.int (n:Int) tk')=true from q)
  injection q
 cases hr:es.toList.findIdx? (fun e=>(intKind prog w).is (m:Int) e.2) with
 | some j =>
  dsimp only
  obtain ⟨hj,hpj,_⟩:=List.findIdx?_eq_some_iff_getElem.mp hr
  have hmem:m∈ns:=(hs.mem m).mpr ⟨_,List.getElem_mem hj,hfind _ (List.getElem_mem hj) hpj⟩
  refine wpAny_pure (wpAny_pure ?_)
  exact h false s.heap (Heap.SameBut.refl a s.heap) (by unfold qdc; rw [if_pos hmem]; exact ⟨o,es,ep,t,ho,hex,hd,hI,hl,hs⟩)
 | none =>
  dsimp only
  have hmem:m∉ns:=fun hq=>by
   obtain ⟨e,he,q⟩:=(hs.mem m).mp hq
   have:=List.findIdx?_eq_none_iff.mp hr e he
   obtain ⟨n,tk',rfl,_⟩:=hs.2 e he
   have e:n=m:=by dsimp only at q; omega
   subst e
   simp [intKind,Value.isInt] at this
  have hst:qdc ns m=ns ++ [m]:=by unfold qdc; rw [if_neg hmem]
  rw [hst] at h
  rw [qfX hm]
  have hperm:=layNew_perm t es (m:Int) (.int m tk)
  obtain ⟨es1,t1,e1,q1,q2,q3,q4,q5,q6,q7,q8,q9⟩:=lay_new (x:=.int m tk) hI hm (by omega)
  rw [e1] at hperm ⊢
  dsimp only at hperm ⊢
  rw [Array.toList_push] at hperm
  have hs1:Smalls es1.toList (ns ++ [m]):=(hs.push hm tk).perm hperm
  refine wpAny_bind (wpAny_pure ?_)
  rw [q3]
  simp only [↓reduceIte]
  refine wpAny_bind ?_
  rw [hashByValue_scannable 8 (x:=.int m tk) rfl]
  refine wpAny_pure ?_
  dsimp only [plainKind]
  simp only [↓reduceIte]
  refine wpAny_bind (wpAny_storeSet_of ho hd ?_ (fits_of_scanBound (by unfold scanBound; omega)))
  have ho1:=put_at (es':=es1) (t':=t1) ho hd
  have hsb:=Heap.SameBut.update s.heap a (Obj.putSet es1 t1)
  have hcs:=full_cases hI q8 (q4.trans q1) q7 (by omega)
  cases hf:t1.tooFull with
  | false =>
   simp only [Bool.not_false,Bool.and_false,Bool.false_eq_true,↓reduceIte]
   refine wpAny_pure (wpAny_pure (h true _ hsb ⟨_,es1,ep + 1,t1,ho1,hex,rfl,⟨q4,q5,q6,q7,?_,q3⟩,q2.trans hl,hs1⟩))
   rw [q1]; exact hcs.2 hf
  | true =>
   simp only [Bool.not_false,Bool.and_self,↓reduceIte]
   have hp2:=relayAll_perm t1 es1 (SetTable.grown es1.size)
   obtain ⟨es2,t2,e2,r1,r2,r3⟩:=relay_ok q3 hs1.hs (by rw [q1]; exact hcs.1 hf)
   rw [e2] at hp2 ⊢
   dsimp only at hp2 ⊢
   refine wpAny_bind (wpAny_pure ?_)
   refine wpAny_bind (wpAny_storeSet_of ho1 rfl ?_ (fits_of_scanBound (by unfold scanBound; omega)))
   exact wpAny_pure (wpAny_pure (h true _ (hsb.trans (Heap.SameBut.update _ a _)) ⟨_,es2,ep + 1 + 1,t2,put_at ho1 rfl,hex,rfl,r2,r3.trans (q2.trans hl),hs1.perm hp2⟩))
end
end L2
namespace L2
open PySem PySem.Spec PyProof.Rows
def qd5 (xs:List Nat):List Nat:=xs.foldl qdc []
theorem foldS_len:∀ (xs ns:List Nat),(xs.foldl qdc ns).length≤ns.length + xs.length
 | [],ns=>by simp
 | x :: xs,ns=>by
  have:=foldS_len xs (qdc ns x)
  have h:(qdc ns x).length≤ns.length + 1:=by unfold qdc; split <;> simp
  rw [List.foldl_cons,List.length_cons]; omega
theorem foldS_take {xs:List Nat} {i:Nat} (h:i < xs.length):qd5 (xs.take (i + 1))=qdc (qd5 (xs.take i)) xs[i]:=by
 unfold qd5
 rw [List.take_succ_eq_append_getElem h,List.foldl_append]
 rfl
theorem qfZ:∀ (xs ns:List Nat),ns.length≤(xs.foldl qdc ns).length
 | [],ns=>Nat.le_refl _
 | x :: xs,ns=>by
  have:=qfZ xs (qdc ns x)
  have h:ns.length≤(qdc ns x).length:=by unfold qdc; split <;> simp
  rw [List.foldl_cons]; omega
theorem foldS_part (xs:List Nat) (i:Nat):(qd5 (xs.take i)).length≤(qd5 xs).length:=by
 have:qd5 xs=(xs.drop i).foldl qdc (qd5 (xs.take i)):=by
  unfold qd5
  rw [← List.foldl_append,List.take_append_drop]
 rw [this]
 exact qfZ _ _
theorem SetI.at {w:World} {h h':Heap} {a:Addr} {ns:List Nat} (x:SetI w h a ns) (k:∀ o,h.get? a=some o→h'.get? a=some o):SetI w h' a ns :=
 let ⟨o,es,ep,t,ho,r⟩:=x; ⟨o,es,ep,t,k o ho,r⟩
section
variable {prog:Program} {w:World} {A:Around} {s:Shared} {E:Value→Shared→Prop}
theorem set_loop {R:Result→Shared→Prop} {I:Addr} {fp wr:List Addr} {G:Array GenState→Array GenState→Prop} {P:Nat→Value→Prop} {St:Nat→Shared→Prop} {xs:List Nat}
  (W:WalksS prog w A.in1 I fp wr G xs.length P St) (S:Addr) (hSf:S∉fp) (hval:∀ (i:Nat) v,(hi:i < xs.length)→P i v→∃ t,v=Value.int (xs[i]:Nat) t) (hx:∀ x∈xs,x < 128) (h64:(qd5 xs).length < 64) :
  ∀ (k i:Nat) (s:Shared),xs.length - i=k→i≤xs.length→St i s→SetI w s.heap S (qd5 (xs.take i)) →
   (∀ s',Moved (S :: wr) G s s'→SetI w s'.heap S (qd5 xs)→R (.ok (.ret .none)) s') →
   codeAny (model prog w) A (.builtin "set.update.loop" ⟨[.ref S,.ref I],[]⟩) R s:=by
 have hSw:S∉wr:=fun h=>hSf (W.sub _ h)
 have hup:∀ b∈wr,b∈S :: wr:=fun b hb=>.tail _ hb
 intro k
 induction k with
 | zero =>
  intro i s hk hi st hS hR
  cases (show i=xs.length by omega)
  refine codeAny_builtin F.entry_set_update_loop ?_
  rw [Around.under_plainId F.plain_set_update_loop _]
  show wpAny _ A.in1 (pyNext (.ref I) >>= _) _ _ s
  refine wpAny_bind (W.done s _ _ st fun s' hm=>?_)
  rw [List.take_length] at hS
  exact wpAny_pure (hR s' (hm.mono hup) (hS.at fun o e=>hm.heap S _ hSw e))
 | succ k ih =>
  intro i s hk hi st hS hR
  have hlt:i < xs.length:=by omega
  refine codeAny_builtin F.entry_set_update_loop ?_
  rw [Around.under_plainId F.plain_set_update_loop _]
  show wpAny _ A.in1 (pyNext (.ref I) >>= _) _ _ s
  refine wpAny_bind (W.item i s _ _ hlt st fun v s' hP st' hm=>?_)
  obtain ⟨t,rfl⟩:=hval i v hlt hP
  have hS':SetI w s'.heap S (qd5 (xs.take i)):=hS.at fun o e=>hm.heap S _ hSw e
  show wpAny _ A.in1 (holding [Value.int (xs[i]:Nat) t] (setAdd S (.int (xs[i]:Nat) t)) >>= _) _ _ s'
  refine wpAny_bind (wpAny_holding ?_)
  unfold setAdd
  refine wpAny_holding (wpAny_bind ((intKind prog w).pyHash (k:=(xs[i]:Nat)) (by simp [intKind,Value.isInt]) ?_))
  have hl:(qd5 (xs.take i)).length < 64:=Nat.lt_of_le_of_lt (foldS_part xs i) h64
  refine set_add (s:={ s' with toks:=s'.toks + 1 }) (hx _ (List.getElem_mem hlt)) hS' hl fun b h' hsb hS2=>?_
  rw [← foldS_take hlt] at hS2
  refine wpAny_pure ⟨plainId_quiet F.plain_set_update_loop _,ih (i + 1) _ (by omega) hlt (W.frame _ s' _ _ st' (Nat.le_succ _) fun b hb o e=>?_) hS2 fun s'' hm'' hS''=>?_⟩
  ·rw [hsb.2 b (fun q:b=S=>hSf (q ▸ hb))]; exact e
  ·refine hR s'' (Moved.trans W.gtrans ((hm.mono hup).then_heap (Nat.le_succ _) fun b o hb e=>?_) hm'') hS''
   rw [hsb.2 b (fun q:b=S=>hb (q ▸ .head _))]; exact e
def qaI (w:World):Obj:={ cls:=.type "set",dict:=none,data:=.set #[] 0 (.fresh 0 0 (!byTx w)) }
theorem empty_ok (w:World) {h:Heap} {a:Addr} (e:h.get? a=some (qaI w)):SetI w h a [] :=
 ⟨_,#[],0,_,e,⟨rfl,rfl,rfl⟩,rfl,ti_fresh _,rfl,.refl _,fun e he=>by cases he⟩
theorem qgf (a:Value) {Q₁:Value→Shared→Prop} (h:Q₁ (.ref s.heap.objs.size) { s with heap:=s.heap.push (qaI w) }) :
  codeAny (model prog w) A (.call (.builtin "set.__new__") ⟨[.type "set",a],[]⟩) (wants Q₁ E) s:=by
 refine codeAny_of_tree (show wpAny _ A.in1 (do checkBuiltinCall "set.__new__" ⟨[.type "set",a],[]⟩; again (.builtin "set.__new__" ⟨[.type "set",a],[]⟩)) _ _ s from ?_)
 refine wpAny_bind (wpAny_of_eq (PySem.F.newCall_set_1 a) (wpAny_pure ⟨plainId_quiet PySem.F.plain_set_new _,codeAny_builtin PySem.F.entry_set_new ?_⟩))
 rw [Around.under_plainId PySem.F.plain_set_new _]
 unfold Builtin.«set.__new__» Builtin.Frozenset.newClass
 have hsub:=sub_set_self
 obtain ⟨hp,g,d,tk,os⟩:=s
 dsimp only; wp_walk
 refine wpAny_askSetting (wpAny_pure ?_)
 dsimp only; simp only [newObj]
 exact wpAny_bind (wpAny_alloc (wpAny_pure (wpAny_pure h)))
set_option maxHeartbeats 3200000 in
theorem set_of {l:Addr} {items:Array Value} {xs:List Nat} {Q:Value→Shared→Prop} (hh:A.handled=none) (hl:s.heap.IsList l items) (hi:IntsAre items.toList (xs.map fun n:Nat=>(n:Int))) (hx:∀ x∈xs,x < 128) (h64:(qd5 xs).length < 64)
  (h:∀ (h':Heap) (tk:Nat),SetI w h' s.heap.objs.size (qd5 xs)→(∀ b o,b < s.heap.objs.size→s.heap.get? b=some o→h'.get? b=some o)→Q (.ref s.heap.objs.size) { s with heap:=h',toks:=tk }) :
  wpAny (model prog w) A (call (.type "set") [.ref l]) Q E s:=by
 obtain ⟨c,tl,hmro⟩:=PySem.F.called_set.mro
 have hmade:=PySem.F.called_set.made
 have hsub:=PySem.F.called_set.sub
 refine wpAny_call (codeAny_of_tree (show wpAny _ _ (callAny (.type "set") _) _ _ _ from ?_))
 refine wpAny_pure ⟨Code.quiet_builtin _ (by decide +kernel),codeAny_builtin PySem.F.entry_type_call ?_⟩
 rw [Around.under_plain (weight_type_call_type "set" [.ref l] []) rfl]
 have h1:=PySem.F.called_set.notType
 have h2:=PySem.F.called_set.canCreate
 have hct:=PySem.F.typeCall_set_1 (.ref l)
 repeat any_goals (first | assumption | wp_step)
 refine codeAny_mono (qgf (.ref l) (E:=E) (Q₁:=fun obj s₁=>obj=.ref s.heap.objs.size∧s₁={ s with heap:=s.heap.push (qaI w) }) ⟨rfl,rfl⟩) fun r s₁ hr=>?_
 cases r with
 | error e=>exact hr
 | ok fl =>
  cases fl with
  | ret obj =>
   obtain ⟨rfl,rfl⟩:=hr
   have hS:(s.heap.push (qaI w)).get? s.heap.objs.size=some (qaI w):=Heap.get?_push_size _ rfl
   have hT:Shared.TypeIs { s with heap:=s.heap.push (qaI w) } (.ref s.heap.objs.size) "set":=⟨_,hS,rfl⟩
   have hli:=PySem.F.called_set.init.lookup
   have hbi:=PySem.F.called_set.init.bind (.ref s.heap.objs.size)
   repeat any_goals (first | assumption | wp_step)
   refine codeAny_mono (codeAny_call_builtin (R:=wants (fun r s₂=>r=.none∧∃ h' tk,s₂={ s with heap:=h',toks:=tk }∧SetI w h' s.heap.objs.size (qd5 xs) ∧
     (∀ b o,b < s.heap.objs.size→s.heap.get? b=some o→h'.get? b=some o)) E) PySem.F.called_set.init.plain PySem.F.entry_set_init (check_set_init_1 hT ?_)) fun r₂ s₂ hr₂=>?_
   ·obtain ⟨ol,hol,hcl,nl,hdl⟩:=hl
    obtain ⟨ocls,odict,odata,oslots⟩:=ol
    simp only at hcl hdl
    subst hcl; subst hdl
    have hol':(s.heap.push (qaI w)).get? l=some { cls:=.type "list",dict:=odict,data:=.seq items nl,slots:=oslots }:=Heap.get?_push_of_some _ hol
    have hsls:=PySem.F.sub_list_set
    have hslf:=PySem.F.sub_list_frozenset
    have hne:(Value.type "list" == Value.type "dict")=false:=by decide
    have hl1:(s.heap.push (qaI w)).IsList l items:=⟨_,hol',rfl,nl,rfl⟩
    unfold qaI at hS hT hol' ⊢
    unfold Builtin.«set.__init__» noKeywords Builtin.Frozenset.updateFrom
    generalize hPI:pyIter=PI
    wp_walk
    subst hPI
    refine wpAny_pyIter_list hl1 (wpAny_bind (wpAny_runValue ?_))
    have hlS:l < s.heap.objs.size:=Heap.lt_size hol
    have hlen:items.size=xs.length:=by have:=hi.length; simpa using this
    have hneI:l≠(s.heap.push (qaI w)).objs.size:=by rw [Heap.size_push]; exact Nat.ne_of_lt (Nat.lt_succ_of_lt hlS)
    have hSf:s.heap.objs.size∉[(s.heap.push (qaI w)).objs.size,l]:=by
     rw [Heap.size_push]; simp only [List.mem_cons,List.not_mem_nil,or_false,not_or]; exact ⟨Nat.ne_of_lt (Nat.lt_succ_self _),Nat.ne_of_gt hlS⟩
    have W:=(Walks.list (prog:=prog) (w:=w) (A:=A.in1.in1.in1) (by simp [hh]) (s.heap.push (qaI w)).objs.size l hneI items).toS
    rw [hlen] at W
    refine set_loop (xs:=xs) W s.heap.objs.size hSf (fun i v hi' hv=>?_) hx h64 xs.length 0 _ (by omega) (Nat.zero_le _) ⟨⟨_,Heap.get?_push_size _ rfl,rfl,rfl⟩,hl1.push _⟩ (empty_ok w (Heap.get?_push_of_some _ hS)) fun s' hm hS'=>?_
    ·obtain ⟨t,e⟩:=IntsAre.int_at hi i v (by rw [Array.getElem?_toList]; exact hv)
     exact ⟨t,by rw [e]; simp [List.getD_eq_getElem?_getD,List.getElem?_eq_getElem hi']⟩
    ·obtain ⟨h',g',d',tk',os'⟩:=s'
     cases (show g'=s.gens from hm.gens)
     cases (show d'=s.drawn from hm.drawn)
     cases (show os'=s.os from hm.os)
     refine wpAny_pure (wpAny_pure ⟨rfl,h',tk',rfl,hS',fun b o hb e=>?_⟩)
     exact hm.heap b o (by rw [Heap.size_push]; simp only [List.mem_cons,List.not_mem_nil,or_false,not_or]; exact ⟨Nat.ne_of_lt hb,Nat.ne_of_lt (Nat.lt_succ_of_lt hb)⟩) (Heap.get?_push_of_some _ (Heap.get?_push_of_some _ e))
   ·cases r₂ with
    | error e=>exact hr₂
    | ok fl₂ =>
     cases fl₂ with
     | ret r =>
      obtain ⟨rfl,h',tk,rfl,hS',hk'⟩:=hr₂
      repeat any_goals (first | assumption | wp_step)
      exact h _ _ hS' hk'
     | _=>exact hr₂.elim
  | _=>exact hr.elim
end
end L2
namespace L2
open PySem PySem.Spec PyProof.Rows PySem.W
def insS (x:Nat):List Nat→List Nat
 | []=>[x]
 | y :: l=>if x < y then x :: y :: l else if x=y then y :: l else y :: insS x l
def qbv:List Nat→List Nat
 | []=>[]
 | x :: l=>insS x (qbv l)
theorem mem_insS {x y:Nat}:∀ {l:List Nat},y∈insS x l↔y=x∨y∈l
 | []=>by simp [insS]
 | z :: l=>by
  unfold insS
  split
  ·simp
  ·split
   ·rename_i h; subst h; simp
   ·simp only [List.mem_cons,mem_insS (l:=l)]
    constructor
    ·rintro (h | h | h) <;> simp [h]
    ·rintro (h | h | h) <;> simp [h]
theorem up_insS {x:Nat}:∀ {l:List Nat},Up l→Up (insS x l)
 | [],_=>by simp [insS]
 | z :: l,h=>by
  obtain ⟨h1,h2⟩:=List.pairwise_cons.mp h
  unfold insS
  split
  ·rename_i hx
   exact List.pairwise_cons.mpr ⟨fun b hb=>by
    rcases List.mem_cons.mp hb with rfl | hb
    ·exact hx
    ·exact Nat.lt_trans hx (h1 b hb),h⟩
  ·split
   ·exact h
   ·refine List.pairwise_cons.mpr ⟨fun b hb=>?_,up_insS h2⟩
    rcases mem_insS.mp hb with rfl | hb
    ·omega
    ·exact h1 b hb
theorem qeS:∀ l:List Nat,Up (qbv l)
 | []=>.nil
 | x :: l=>up_insS (qeS l)
theorem mem_ssort {y:Nat}:∀ {l:List Nat},y∈qbv l↔y∈l
 | []=>by simp [qbv]
 | x :: l=>by simp [qbv,mem_insS,mem_ssort (l:=l)]
theorem mem_stepS {ns:List Nat} {x y:Nat}:y∈qdc ns x↔y∈ns∨y=x:=by
 unfold qdc
 split
 ·rename_i h
  exact ⟨.inl,fun q=>q.elim id fun e=>e ▸ h⟩
 ·simp
theorem nd_stepS {ns:List Nat} {x:Nat} (h:ns.Nodup):(qdc ns x).Nodup:=by
 unfold qdc
 split
 ·exact h
 ·rename_i hx
  refine List.nodup_append.mpr ⟨h,by simp,fun a ha b hb=>?_⟩
  rw [List.mem_singleton] at hb
  subst hb
  exact fun e=>hx (e ▸ ha)
theorem mem_fold:∀ {xs ns:List Nat} {y:Nat},y∈xs.foldl qdc ns↔y∈ns∨y∈xs
 | [],ns,y=>by simp
 | x :: xs,ns,y=>by
  rw [List.foldl_cons,mem_fold,mem_stepS,List.mem_cons,or_assoc]
theorem nd_fold:∀ {xs ns:List Nat},ns.Nodup→(xs.foldl qdc ns).Nodup
 | [],_,h=>h
 | x :: xs,_,h=>nd_fold (xs:=xs) (nd_stepS h)
theorem nd_up:∀ {l:List Nat},Up l→l.Nodup:=fun {l} h=>h.imp fun {a b} h=>Nat.ne_of_lt h
theorem qer (xs:List Nat):(qbv xs).length=(qd5 xs).length:=by
 have hp:(qbv xs).Perm (qd5 xs):=by
  refine (List.perm_ext_iff_of_nodup (nd_up (qeS xs)) (nd_fold .nil)).mpr fun x=>?_
  rw [mem_ssort,mem_fold]
  simp
 exact hp.length_eq
section
variable {prog:Program} {w:World} {A:Around} {E:Value→Shared→Prop} {s:Shared}
end
end L2
namespace L2
open PySem PySem.Spec PyProof.Rows
abbrev nV (ns:List Nat):List V:=ns.map fun n:Nat=>V.int n
abbrev nD (ns:List Nat):List D:=ns.map fun n:Nat=>D.int n
def setQ (w:World) (a:Addr) (ns:List Nat):Heap→Prop:=fun h=>SetI w h a (qd5 ns)
theorem vals_IA:∀ {ns:List Nat} {us:List Value},Vals (nV ns) us→IntsAre us (ns.map fun n:Nat=>(n:Int))
 | [],_,.nil=>.nil
 | n :: ns,_,.cons ⟨t,e⟩ r=>by subst e; exact .cons _ _ (vals_IA r)
section
variable {X:Cx}
def rSetS (X:Cx):List V→Hp→VK→Prop:=fun xs H Q=>∃ a ns,xs=[.ref a]∧SqL X.K H a (nV ns)∧(qbv ns).length < 64∧(∀ x∈ns,x < 128)∧∀ p,H p=none→Q (.ref p) (upd H p (.ext (setQ X.w p ns)))
theorem cr_setS (hc:X.calm=true:=by rfl):qd1 X (.type "set") (rSetS X):=by
 intro pins s σ H xs us Q I rv h
 obtain ⟨a,ns,rfl,sq,hb,hx,q⟩:=h
 obtain ⟨u,rfl,ru⟩:=qg8 rv
 cases ru
 obtain ⟨its,ri,pl,hz⟩:=I.list sq
 refine set_of (xs:=ns) (I.ok.hd hc) pl.isList (by simpa using vals_IA ri) hx (by rw [← qer]; exact hb) fun h' tk hS kp=>?_
 have hf:H s.heap.objs.size=none:=I.hok.fresh (Nat.le_refl _)
 have hS2:=hS
 obtain ⟨o,es,ep,t,ho,_⟩:=hS2
 refine ⟨.ref s.heap.objs.size,upd H s.heap.objs.size (.ext (setQ X.w s.heap.objs.size ns)),I.laid (t':=tk) (fun b u e=>kp b u (Heap.lt_size e) e) (Nat.le_refl _) ?_,rfl,q _ hf⟩
 exact ⟨hS,⟨o,ho⟩,fun h1 h2 x k=>x.at k⟩
def rSortS (X:Cx):List V→Hp→VK→Prop:=fun xs H Q=>∃ a ns,xs=[.ref a]∧H a=some (.ext (setQ X.w a ns))∧(qbv ns).length < 64∧∀ p,H p=none→Q (.ref p) (upd H p (.lst (nV (qbv ns))))
def qeQ (l:List D):Option (List Nat):=match qez l with
 | some ns=>if ns.all (fun n=>decide (0≤n∧n < 128))=true∧(qbv (ns.map Int.toNat)).length < 64 then some (ns.map Int.toNat) else none
 | none=>none
theorem natsD_ok {l:List D} {ns:List Nat} (h:qeQ l=some ns):l=nD ns∧(qbv ns).length < 64∧∀ x∈ns,x < 128:=by
 unfold qeQ at h
 split at h
 ·rename_i zs hz
  split at h
  ·rename_i hc
   cases h
   refine ⟨?_,hc.2,fun x hx=>?_⟩
   ·rw [intsD_eq hz]
    unfold nD
    rw [List.map_map]
    refine List.map_congr_left fun z hq=>?_
    have:=of_decide_eq_true (List.all_eq_true.mp hc.1 z hq)
    show D.int z=D.int (z.toNat:Int)
    congr 1; omega
   ·obtain ⟨z,hq,rfl⟩:=List.mem_map.mp hx
    have:=of_decide_eq_true (List.all_eq_true.mp hc.1 z hq)
    omega
  ·cases h
 ·cases h
theorem natsD_nD {ns:List Nat} (h:(qbv ns).length < 64) (hx:∀ x∈ns,x < 128):qeQ (nD ns)=some ns:=by
 unfold qeQ
 have e:nD ns=(ns.map fun n:Nat=>(n:Int)).map D.int:=by simp [nD]
 rw [e,qek]
 dsimp only
 have e:(ns.map fun n:Nat=>(n:Int)).map Int.toNat=ns:=by
  rw [List.map_map]
  have:(Int.toNat ∘ fun n:Nat=>(n:Int))=id:=by funext n; simp
  rw [this,List.map_id]
 rw [e,if_pos ⟨List.all_eq_true.mpr fun z hz=>by
  obtain ⟨n,hn,rfl⟩:=List.mem_map.mp hz
  have:=hx n hn
  exact decide_eq_true (by omega),h⟩]
theorem rels_nD {K:PySem.W.Frag} {ρ:List Addr} {H:Hp} {ns:List Nat} {xs:List V} (h:Rels K ρ H (nD ns) xs):xs=nV ns:=by
 have e:nD ns=(ns.map fun n:Nat=>(n:Int)).map D.int:=by simp [nD]
 rw [e] at h
 rw [Rels.ints_inv h]
 simp [nV]
theorem noRefs_nD (ns:List Nat):qam (nD ns)=true:=by
 have e:nD ns=(ns.map fun n:Nat=>(n:Int)).map D.int:=by simp [nD]
 rw [e]; exact qco
def dSortSet (a:dS):yD:=fun e c=>(a e c).bind fun xs c=>match xs with
 | [x]=>match lstD c x with
  | some l=>match qeQ l with
   | some ns=>.ok (.lst (nD (qbv ns))) c
   | none=>.bad
  | none=>.bad
 | _=>.bad
def dSortSetM (a:dS):yD:=fun e c=>(a e c).bind fun xs c=>match xs with
 | [x]=>match lstD c x with
  | some l=>match qeQ l with
   | some ns=>.ok (.ref c.length) (c ++ [.lst (nD (qbv ns))])
   | none=>.bad
  | none=>.bad
 | _=>.bad
def sortF:List D→LC→R D:=fun xs c=>match xs with
 | [x]=>match lstD c x with
  | some l=>match qeQ l with
   | some ns=>.ok (.lst (nD (qbv ns))) c
   | none=>.bad
  | none=>.bad
 | _=>.bad
def sortFM:List D→LC→R D:=fun xs c=>match xs with
 | [x]=>match lstD c x with
  | some l=>match qeQ l with
   | some ns=>.ok (.ref c.length) (c ++ [.lst (nD (qbv ns))])
   | none=>.bad
  | none=>.bad
 | _=>.bad
end
section
variable (a:dS) (e:Ev) (c:LC)
@[simp] theorem x_sortset:dSortSet a e c=(a e c).bind fun xs c=>match xs with
 | [x]=>match lstD c x with
  | some l=>match qeQ l with
   | some ns=>.ok (.lst (nD (qbv ns))) c
   | none=>.bad
  | none=>.bad
 | _=>.bad:=rfl
@[simp] theorem x_sortsetM:dSortSetM a e c=(a e c).bind fun xs c=>match xs with
 | [x]=>match lstD c x with
  | some l=>match qeQ l with
   | some ns=>.ok (.ref c.length) (c ++ [.lst (nD (qbv ns))])
   | none=>.bad
  | none=>.bad
 | _=>.bad:=rfl
end
end L2
namespace L2
open PySem PySem.Spec PyProof.Rows
section
variable {prog:Program} {w:World} {A:Around} {E:Value→Shared→Prop} {s:Shared}
theorem nd_len:∀ {l m:List Nat},l.Nodup→(∀ x∈l,x∈m)→l.length≤m.length
 | [],m,_,_=>Nat.zero_le _
 | x :: l,m,h,hs=>by
  obtain ⟨h1,h2⟩:=List.nodup_cons.mp h
  have hx:=hs x (.head _)
  have:=nd_len (m:=m.erase x) h2 fun y hy=>(List.mem_erase_of_ne (fun e:y=x=>h1 (by rw [← e]; exact hy))).mpr (hs y (.tail _ hy))
  rw [List.length_erase_of_mem hx] at this
  have:=List.length_pos_of_mem hx
  rw [List.length_cons]; omega
def bothS (ns ms:List Nat):List Nat:=ns.filter fun x=>decide (x∈ms)
end
end L2
namespace L2
open PySem PySem.Spec PyProof.Rows
theorem qg9:isSubtype (.type "tuple") (.type "set")=pure false:=by rw [isSubtype_type]; kernel_rfl
theorem qdY:isSubtype (.type "tuple") (.type "frozenset")=pure false:=by rw [isSubtype_type]; kernel_rfl
section
variable {prog:Program} {w:World} {A:Around} {s:Shared} {E:Value→Shared→Prop}
set_option maxHeartbeats 3200000 in
theorem set_ofT {l:Addr} {items:Array Value} {xs:List Nat} {Q:Value→Shared→Prop} (hh:A.handled=none) (hl:s.heap.IsTuple l items) (hi:IntsAre items.toList (xs.map fun n:Nat=>(n:Int))) (hx:∀ x∈xs,x < 128) (h64:(qd5 xs).length < 64)
  (h:∀ (h':Heap) (tk:Nat),SetI w h' s.heap.objs.size (qd5 xs)→(∀ b o,b < s.heap.objs.size→s.heap.get? b=some o→h'.get? b=some o)→Q (.ref s.heap.objs.size) { s with heap:=h',toks:=tk }) :
  wpAny (model prog w) A (call (.type "set") [.ref l]) Q E s:=by
 obtain ⟨c,tl,hmro⟩:=PySem.F.called_set.mro
 have hmade:=PySem.F.called_set.made
 have hsub:=PySem.F.called_set.sub
 refine wpAny_call (codeAny_of_tree (show wpAny _ _ (callAny (.type "set") _) _ _ _ from ?_))
 refine wpAny_pure ⟨Code.quiet_builtin _ (by decide +kernel),codeAny_builtin PySem.F.entry_type_call ?_⟩
 rw [Around.under_plain (weight_type_call_type "set" [.ref l] []) rfl]
 have h1:=PySem.F.called_set.notType
 have h2:=PySem.F.called_set.canCreate
 have hct:=PySem.F.typeCall_set_1 (.ref l)
 repeat any_goals (first | assumption | wp_step)
 refine codeAny_mono (qgf (.ref l) (E:=E) (Q₁:=fun obj s₁=>obj=.ref s.heap.objs.size∧s₁={ s with heap:=s.heap.push (qaI w) }) ⟨rfl,rfl⟩) fun r s₁ hr=>?_
 cases r with
 | error e=>exact hr
 | ok fl =>
  cases fl with
  | ret obj =>
   obtain ⟨rfl,rfl⟩:=hr
   have hS:(s.heap.push (qaI w)).get? s.heap.objs.size=some (qaI w):=Heap.get?_push_size _ rfl
   have hT:Shared.TypeIs { s with heap:=s.heap.push (qaI w) } (.ref s.heap.objs.size) "set":=⟨_,hS,rfl⟩
   have hli:=PySem.F.called_set.init.lookup
   have hbi:=PySem.F.called_set.init.bind (.ref s.heap.objs.size)
   repeat any_goals (first | assumption | wp_step)
   refine codeAny_mono (codeAny_call_builtin (R:=wants (fun r s₂=>r=.none∧∃ h' tk,s₂={ s with heap:=h',toks:=tk }∧SetI w h' s.heap.objs.size (qd5 xs) ∧
     (∀ b o,b < s.heap.objs.size→s.heap.get? b=some o→h'.get? b=some o)) E) PySem.F.called_set.init.plain PySem.F.entry_set_init (check_set_init_1 hT ?_)) fun r₂ s₂ hr₂=>?_
   ·obtain ⟨ol,hol,hcl,nl,hdl⟩:=hl
    obtain ⟨ocls,odict,odata,oslots⟩:=ol
    simp only at hcl hdl
    subst hcl; subst hdl
    have hol':(s.heap.push (qaI w)).get? l=some { cls:=.type "tuple",dict:=odict,data:=.seq items nl,slots:=oslots }:=Heap.get?_push_of_some _ hol
    have hsls:=qg9
    have hslf:=qdY
    have hne:(Value.type "tuple" == Value.type "dict")=false:=by decide
    have hl1:(s.heap.push (qaI w)).IsTuple l items:=⟨_,hol',rfl,nl,rfl⟩
    unfold qaI at hS hT hol' ⊢
    unfold Builtin.«set.__init__» noKeywords Builtin.Frozenset.updateFrom
    generalize hPI:pyIter=PI
    wp_walk
    subst hPI
    refine wpAny_pyIter_tuple hl1 (wpAny_bind (wpAny_runValue ?_))
    have hlS:l < s.heap.objs.size:=Heap.lt_size hol
    have hlen:items.size=xs.length:=by have:=hi.length; simpa using this
    have hneI:l≠(s.heap.push (qaI w)).objs.size:=by rw [Heap.size_push]; exact Nat.ne_of_lt (Nat.lt_succ_of_lt hlS)
    have hSf:s.heap.objs.size∉[(s.heap.push (qaI w)).objs.size,l]:=by
     rw [Heap.size_push]; simp only [List.mem_cons,List.not_mem_nil,or_false,not_or]; exact ⟨Nat.ne_of_lt (Nat.lt_succ_self _),Nat.ne_of_gt hlS⟩
    have W:=(Walks.tuple (prog:=prog) (w:=w) (A:=A.in1.in1.in1) (by simp [hh]) (s.heap.push (qaI w)).objs.size l hneI items).toS
    rw [hlen] at W
    refine set_loop (xs:=xs) W s.heap.objs.size hSf (fun i v hi' hv=>?_) hx h64 xs.length 0 _ (by omega) (Nat.zero_le _) ⟨⟨_,Heap.get?_push_size _ rfl,rfl,rfl⟩,hl1.at fun o e=>Heap.get?_push_of_some _ e⟩ (empty_ok w (Heap.get?_push_of_some _ hS)) fun s' hm hS'=>?_
    ·obtain ⟨t,e⟩:=IntsAre.int_at hi i v (by rw [Array.getElem?_toList]; exact hv)
     exact ⟨t,by rw [e]; simp [List.getD_eq_getElem?_getD,List.getElem?_eq_getElem hi']⟩
    ·obtain ⟨h',g',d',tk',os'⟩:=s'
     cases (show g'=s.gens from hm.gens)
     cases (show d'=s.drawn from hm.drawn)
     cases (show os'=s.os from hm.os)
     refine wpAny_pure (wpAny_pure ⟨rfl,h',tk',rfl,hS',fun b o hb e=>?_⟩)
     exact hm.heap b o (by rw [Heap.size_push]; simp only [List.mem_cons,List.not_mem_nil,or_false,not_or]; exact ⟨Nat.ne_of_lt hb,Nat.ne_of_lt (Nat.lt_succ_of_lt hb)⟩) (Heap.get?_push_of_some _ (Heap.get?_push_of_some _ e))
   ·cases r₂ with
    | error e=>exact hr₂
    | ok fl₂ =>
     cases fl₂ with
     | ret r =>
      obtain ⟨rfl,h',tk,rfl,hS',hk'⟩:=hr₂
      repeat any_goals (first | assumption | wp_step)
      exact h _ _ hS' hk'
     | _=>exact hr₂.elim
  | _=>exact hr.elim
end
end L2
namespace L2
open PySem PySem.Spec PyProof.Rows
def setR (w:World) (a:Addr) (rs:List Nat):Heap→Prop:=fun h=>SetI w h a rs
def bothN (ns ms:List Nat):Nat:=((qbv ns).filter fun x=>decide (x∈ms)).length
section
variable {X:Cx}
def rSetB (X:Cx):List V→Hp→VK→Prop:=fun xs H Q=>∃ a ns,xs=[.ref a]∧(SqL X.K H a (nV ns)∨SqT X.K H a (nV ns))∧(qbv ns).length < 64∧(∀ x∈ns,x < 128)∧∀ p,H p=none→Q (.ref p) (upd H p (.ext (setQ X.w p ns)))
theorem cr_setB (hc:X.calm=true:=by rfl):qd1 X (.type "set") (rSetB X):=by
 intro pins s σ H xs us Q I rv h
 obtain ⟨a,ns,rfl,sq,hb,hx,q⟩:=h
 rcases sq with sq | sq
 ·exact cr_setS hc pins s σ H _ us Q I rv ⟨a,ns,rfl,sq,hb,hx,q⟩
 ·obtain ⟨u,rfl,ru⟩:=qg8 rv
  cases ru
  obtain ⟨its,ri,pl,hz⟩:=I.tuple sq
  refine set_ofT (xs:=ns) (I.ok.hd hc) (show s.heap.IsTuple a its.toArray from pl) (by simpa using vals_IA ri) hx (by rw [← qer]; exact hb) fun h' tk hS kp=>?_
  have hf:H s.heap.objs.size=none:=I.hok.fresh (Nat.le_refl _)
  have hS2:=hS
  obtain ⟨o,es,ep,t,ho,_⟩:=hS2
  refine ⟨.ref s.heap.objs.size,upd H s.heap.objs.size (.ext (setQ X.w s.heap.objs.size ns)),I.laid (t':=tk) (fun b u e=>kp b u (Heap.lt_size e) e) (Nat.le_refl _) ?_,rfl,q _ hf⟩
  exact ⟨hS,⟨o,ho⟩,fun h1 h2 x k=>x.at k⟩
def rAndS (X:Cx):R2:=fun x y H Q=>∃ a b ns ms,x=.ref a∧y=.ref b∧a≠b∧H a=some (.ext (setQ X.w a ns))∧H b=some (.ext (setQ X.w b ms))∧(qbv ns).length < 64∧(qbv ms).length < 64 ∧
 ∀ p rs,H p=none→rs.length=bothN ns ms→rs.length < 64→Q (.ref p) (upd H p (.ext (setR X.w p rs)))
def rLenR (X:Cx):List V→Hp→VK→Prop:=fun xs H Q=>∃ a rs,xs=[.ref a]∧H a=some (.ext (setR X.w a rs))∧rs.length < 64∧Q (.int (rs.length:Nat)) H
def qgq (c:LC):D→Option (List Nat)
 | .tup l=>qeQ l
 | x=>match lstD c x with
  | some l=>qeQ l
  | none=>none
theorem natsC_ok {K:PySem.W.Frag} {ρ:List Addr} {H:Hp} {c:LC} {x:D} {v:V} {ns:List Nat} (W:Wd K ρ H c) (r:Rel K ρ H x v) (h:qgq c x=some ns):∃ a,v=.ref a∧(SqL K H a (nV ns)∨SqT K H a (nV ns))∧(qbv ns).length < 64∧∀ x∈ns,x < 128:=by
 unfold qgq at h
 split at h
 ·obtain ⟨rfl,h64,hx⟩:=natsD_ok h
  obtain ⟨a,xs,rfl,ha,rl⟩:=r
  cases rels_nD rl
  exact ⟨a,rfl,.inr (SqT.of ha),h64,hx⟩
 ·split at h
  ·rename_i l hl
   obtain ⟨rfl,h64,hx⟩:=natsD_ok h
   obtain ⟨a,ys,rfl,ha,rl⟩:=qdF W r hl
   cases rels_nD rl
   exact ⟨a,rfl,.inl (SqL.of ha),h64,hx⟩
  ·cases h
def dLenAnd (a b:dS):yD:=fun e c=>(a e c).bind fun xs c=>match xs with
 | [x]=>match qgq c x with
  | some ns=>(b e c).bind fun ys c=>match ys with
   | [y]=>match qgq c y with
    | some ms=>.ok (.int (bothN ns ms:Nat)) c
    | none=>.bad
   | _=>.bad
  | none=>.bad
 | _=>.bad
end
@[simp] theorem x_lenand (a b:dS) (e:Ev) (c:LC):dLenAnd a b e c=(a e c).bind fun xs c=>match xs with
 | [x]=>match qgq c x with
  | some ns=>(b e c).bind fun ys c=>match ys with
   | [y]=>match qgq c y with
    | some ms=>.ok (.int (bothN ns ms:Nat)) c
    | none=>.bad
   | _=>.bad
  | none=>.bad
 | _=>.bad:=rfl
end L2
namespace L2
open PySem PySem.Spec PyProof.Rows
def pickG {α:Type} (xs:List α) (lo hi st:Option Int):List α:=(sliceRange (sliceBounds lo hi st xs.length).1 (sliceBounds lo hi st xs.length).2.1 (sliceBounds lo hi st xs.length).2.2).filterMap fun i=>xs[i]?
section
variable {X:Cx} {e sx:Expr} {te:TE} {lo hi:Option Expr} {tl th ts:TO} {pos p2:Pos}
def rSl3 (K:PySem.W.Frag):V→Option Int→Option Int→Option Int→Hp→VK→Prop:=fun x lo hi st H Q=>∃ a xs,x=.ref a∧SqL K H a xs∧st≠some 0∧∀ p,H p=none→Q (.ref p) (upd H p (.lst (pickG xs lo hi st)))
def tSl3 (K:PySem.W.Frag) (te:TE) (tl th ts:TO):TE:=fun σ H Q=>te σ H fun x H1=>tl σ H1 fun l H2=>th σ H2 fun u H3=>ts σ H3 fun k H4=>rSl3 K x l u k H4 Q
def dSl3 (a:yD) (l h k:Ev→LC→R (Option Int)):yD:=fun e c=>(a e c).bind fun x c=>(l e c).bind fun l c=>(h e c).bind fun u c=>(k e c).bind fun k c=>match lstD c x with
 | some xs=>if k≠some 0 then .ok (.lst (pickG xs l u k)) c else .bad
 | none=>.bad
def insI (x:Int):List Int→List Int
 | []=>[x]
 | y :: l=>if x≤y then x :: y :: l else y :: insI x l
def isort:List Int→List Int
 | []=>[]
 | x :: l=>insI x (isort l)
def rSortL (X:Cx):List V→Hp→VK→Prop:=fun xs H Q=>∃ a ns,xs=[.ref a]∧SqL X.K H a (ns.map V.int)∧ns.length < 64∧∀ p,H p=none→Q (.ref p) (upd H p (.lst ((isort ns).map V.int)))
def sortLD:List D→LC→R D:=fun xs c=>match xs with
 | [x]=>match lstD c x with
  | some l=>match qez l with
   | some ns=>if ns.length < 64 then .ok (.lst ((isort ns).map D.int)) c else .bad
   | none=>.bad
  | none=>.bad
 | _=>.bad
def rRng2:List V→Hp→VK→Prop:=fun xs H Q=>∃ i j,xs=[.int i,.int j]∧∀ p,H p=none→Q (.ref p) (upd H p (.rng i j))
def rngI (i j:Int):List Int:=(List.range (j - i).toNat).map fun k:Nat=>i + (k:Int)
def rLRng (X:Cx):List V→Hp→VK→Prop:=fun xs H Q=>∃ p i j,xs=[.ref p]∧H p=some (.rng i j)∧(0≤i∧i < j∧j < 1000)∧∀ l,H l=none→Q (.ref l) (upd H l (.lst ((rngI i j).map V.int)))
def dLRng (a:dS):yD:=fun e c=>(a e c).bind fun xs c=>match xs with
 | [.int i,.int j]=>if 0≤i∧i < j∧j < 1000 then .ok (.lst ((rngI i j).map D.int)) c else .bad
 | _=>.bad
end
section
variable (a:yD) (b:dS) (l h k:Ev→LC→R (Option Int)) (e:Ev) (c:LC)
@[simp] theorem x_sl3:dSl3 a l h k e c=(a e c).bind fun x c=>(l e c).bind fun l c=>(h e c).bind fun u c=>(k e c).bind fun k c=>match lstD c x with
 | some xs=>if k≠some 0 then .ok (.lst (pickG xs l u k)) c else .bad
 | none=>.bad:=rfl
@[simp] theorem x_lrng:dLRng b e c=(b e c).bind fun xs c=>match xs with
 | [.int i,.int j]=>if 0≤i∧i < j∧j < 1000 then .ok (.lst ((rngI i j).map D.int)) c else .bad
 | _=>.bad:=rfl
end
end L2
namespace L2
open PySem PySem.Spec PyProof.Rows PySem.SeqAt
open AutoSeq1 (wpAny_loadPart')
section
variable {X:Cx}
def rIndexT (K:PySem.W.Frag):V→List V→Hp→VK→Prop:=fun x vs H Q=>∃ l,∃ ns:List Int,∃ k:Int,∃ j,x=.ref l∧vs=[.int k]∧SqT K H l (ns.map V.int)∧ns.findIdx? (fun i=>i == k)=some j∧Q (.int (j:Nat)) H
def dIndexT (o a:yD):yD:=fun e c=>(o e c).bind fun x c=>match x with
 | .tup l=>(a e c).bind fun y c=>match y,qez l with
  | .int k,some ns=>match ns.findIdx? (fun i=>i == k) with
   | some j=>.ok (.int (j:Nat)) c
   | none=>.bad
  | _,_=>.bad
 | _=>.bad
def rSortT (X:Cx):List V→Hp→VK→Prop:=fun xs H Q=>∃ a ns,xs=[.ref a]∧SqT X.K H a (ns.map V.int)∧ns.length < 64∧∀ p,H p=none→Q (.ref p) (upd H p (.lst ((isort ns).map V.int)))
def sortTD:List D→LC→R D:=fun xs c=>match xs with
 | [.tup l]=>match qez l with
  | some ns=>if ns.length < 64 then .ok (.lst ((isort ns).map D.int)) c else .bad
  | none=>.bad
 | _=>.bad
def rRng1:List V→Hp→VK→Prop:=fun xs H Q=>∃ j,xs=[.int j]∧∀ p,H p=none→Q (.ref p) (upd H p (.rng 0 j))
def dLRng1 (a:dS):yD:=fun e c=>(a e c).bind fun xs c=>match xs with
 | [.int j]=>if 0 < j∧j < 1000 then .ok (.lst ((rngI 0 j).map D.int)) c else .bad
 | _=>.bad
def rTRng (X:Cx):List V→Hp→VK→Prop:=fun xs H Q=>∃ p i j,xs=[.ref p]∧H p=some (.rng i j)∧(0≤i∧i < j∧j < 1000)∧∀ l,H l=none→Q (.ref l) (upd H l (.tup ((rngI i j).map V.int)))
def dTRng1 (a:dS):yD:=fun e c=>(a e c).bind fun xs c=>match xs with
 | [.int j]=>if 0 < j∧j < 1000 then .ok (.tup ((rngI 0 j).map D.int)) c else .bad
 | _=>.bad
def isNotBD:D→D→LC→R D:=fun x y c=>match x,y with
 | .bl a,.bl b=>.ok (.bl (!decide (a=b))) c
 | _,_=>.bad
def rLenQ (X:Cx):List V→Hp→VK→Prop:=fun xs H Q=>∃ a ns,xs=[.ref a]∧H a=some (.ext (setQ X.w a ns))∧(qbv ns).length < 64∧Q (.int ((qbv ns).length:Nat)) H
theorem cr_lenQ:qd1 X (.builtin "len") (rLenQ X):=by
 intro pins s σ H xs us Q I rv h
 obtain ⟨a,ns,rfl,hH,hn,q⟩:=h
 obtain ⟨u,rfl,ru⟩:=qg8 rv
 cases ru
 obtain ⟨hS,_,_⟩:=I.hok a _ hH
 obtain ⟨o,es,ep,t,ho,hex,hd,hI,hl,hs⟩:=hS
 have he:es.size=(qbv ns).length:=by rw [← Array.length_toList,qer]; exact hs.len
 refine call_len_set ho hex hd hI.fits (by rw [he]; omega) ⟨.int ((qbv ns).length:Nat),H,I.tok _,⟨_,by rw [he]⟩,q⟩
def qdO (a:dS):yD:=fun e c=>(a e c).bind fun xs c=>match xs with
 | [x]=>match qgq c x with
  | some ns=>.ok (.int ((qbv ns).length:Nat)) c
  | none=>.bad
 | _=>.bad
theorem pd_lensetN {a:Expr} {da:dS} {p0 p1 q0 q1:Pos} (ha:PAd X [a] da) (hm:X.mg "len"=none) (hm2:X.mg "set"=none) (hg:Gl X "len":=by rfl) (hg2:Gl X "set":=by rfl) (hc:X.calm=true:=by rfl)
  (he:starEach [a] X.env=(false,eval a X.env) :: starEach [] X.env:=by exact qaQ rfl) :
  PEd X (.Call (.Name "len" p0) [.Call (.Name "set" p1) [a] [] q1] [] q0) (qdO da):=by
 have h1:PE X (.Call (.Name "set" p1) [a] [] q1) _:=qf5 (cr_setB hc) hg2 hm2 (by decide +kernel) ha (by decide) (by decide) he (by exact qbV rfl)
 refine (qgl cr_lenQ hg hm (by decide +kernel) (qe0 h1 pa_nil (qaQ rfl)) (by decide) (by decide) (by exact qaQ rfl) (by exact qbV rfl)).imp fun σ H Q h=>?_
 obtain ⟨ρ,e,c,W,V,p⟩:=h
 refine ⟨ρ,e,c,W,V,post.bind p fun xs c1 ρ1 H1 vs ex W1 X1 r1 p1=>?_⟩
 clear ex
 split at p1
 ·rename_i x
  obtain ⟨v,r,rfl,hx,hr⟩:=r1
  cases hr
  split at p1
  ·rename_i ns hn
   obtain ⟨ad,rfl,sq,h64,hx'⟩:=natsC_ok W1 hx hn
   refine ⟨ad,ns,rfl,sq,h64,hx',fun pa hpa=>⟨pa,ns,rfl,qbu,h64,?_⟩⟩
   exact (post.ext p1 (Ext.fresh W1 hpa)).here (W1.fresh hpa) rfl
  ·exact p1.elim
 ·exact p1.elim
end
section
variable (o a:yD) (b:dS) (e:Ev) (c:LC)
@[simp] theorem x_isNotB (a b:Bool):isNotBD (.bl a) (.bl b) c=.ok (.bl (!decide (a=b))) c:=rfl
@[simp] theorem x_lrng1:dLRng1 b e c=(b e c).bind fun xs c=>match xs with
 | [.int j]=>if 0 < j∧j < 1000 then .ok (.lst ((rngI 0 j).map D.int)) c else .bad
 | _=>.bad:=rfl
@[simp] theorem x_trng1:dTRng1 b e c=(b e c).bind fun xs c=>match xs with
 | [.int j]=>if 0 < j∧j < 1000 then .ok (.tup ((rngI 0 j).map D.int)) c else .bad
 | _=>.bad:=rfl
end
end L2
namespace L2
open PySem PySem.Spec PyProof.Rows
def lamD (d:yD):List D→LC→R D:=fun xs c=>d (xs.map some) c
section
variable {P:Program} {w:World} {K:PySem.W.Frag} {mg:Str→Option Value} {base:Heap}
end
def OnlyT (H:Hp) (ts:List Addr):Prop:=∀ b,H b=none∨(∃ o xs,H b=some (.frz o (.lst xs)))∨(b∈ts∧H b=some (.tbl #[]))
theorem law_callT {P:Program} {w:World} {K:PySem.W.Frag} {mg mb:Str→Option Value} {k:Nat} {fa a:Addr} {fd:FuncData} {x:Str} {sp:Sp} {s₁:Shared} {vs:List Value} {ns:List Int} {ts:List (Addr×Addr)}
  (KX:K.In s₁.heap) (hns:s₁.heap.Ns mainGlobals mg) (hb:s₁.heap.Ns builtinsNs mb) (hbb:∀ x:Str,x≠"__name__"→mb x=bootBuiltins x) (hlim:s₁.heap.NoLimit)
  (hbm:∃ bm ob,mg "__builtins__"=some (.ref bm)∧bm≠builtinsNs∧s₁.heap.get? bm=some ob∧ob.cls=.type "module"∧ob.dict=some builtinsNs∧ob.data=.plain) (hg:s₁.gens=#[])
  (ha:s₁.heap.get? a=some { cls:=.type "list",data:=.seq vs.toArray }) (hi:IntsAre vs ns) (hl:ns.length≤sizeLine) (hr:Room k callerA)
  (hTs:∀ q∈ts,PySem.W.codeHdIn K q.1 q.2=true∧s₁.heap.get? q.2=some (PySem.W.tabObj #[])) (hKt:PySem.W.noTabs K=true)
  (F:∀ base:Heap,K.In base→base.Ns mainGlobals mg→FnOk P w K mg base CX0 k fa fd [x] sp) (hbind:∀ (s:Shared) (u:Value),BindsTo s fd ⟨[u],[]⟩ [(x,u)])
  (hsp:∀ H:Hp,(∀ q∈ts,H q.2=some (.tbl #[]))→SqL K H a (ns.map V.int)→sp [.ref a] H (fun v _=>v=.bl true) fun _ _ _=>False) :
  codeAny (model P w) callerA (.call (.ref fa) ⟨[.ref a],[]⟩) (fun r s'=>r=.ok (.ret (.bool true))∧OldK s₁.heap s'.heap∧s'.os=s₁.os∧AllBare s'.gens) s₁:=by
 have rv:=vals_ints hi
 have lenV:=hi.length
 have hta:∀ b,b∈ts.map (·.2)→s₁.heap.get? b=some (PySem.W.tabObj #[]):=fun b h=>by
  obtain ⟨q,hq,rfl⟩:=List.mem_map.mp h
  exact (hTs q hq).2
 have nat:a∉ts.map (·.2):=fun h=>by have:=hta a h; rw [ha] at this; cases this
 have core:∀ H:Hp,OnlyT H (ts.map (·.2))→(∀ q∈ts,H q.2=some (.tbl #[]))→SqL K H a (ns.map V.int)→HOk P w H s₁.heap→(∀ b,H b≠none→b=a∨b∈ts.map (·.2))→(H a≠none→K.lookup a=none) →
   codeAny (model P w) callerA (.call (.ref fa) ⟨[.ref a],[]⟩) (fun r s'=>r=.ok (.ret (.bool true))∧OldK s₁.heap s'.heap∧s'.os=s₁.os∧AllBare s'.gens) s₁:=by
  intro H hO hT hS hok hA hK
  have base_of:∀ {b:Addr} {o:Obj},s₁.heap.get? b=some o→H b=none→(hidT s₁.heap H).get? b=some o:=fun e n=>hidT_get e n
  have noB:∀ {b:Addr} {o:Obj},s₁.heap.get? b=some o→o.cls≠.type "list"→o.cls≠.none→H b=none:=fun {b o} e d1 d2=>by
   cases q:H b with
   | none=>rfl
   | some u =>
    rcases hA b (by rw [q]; simp) with e' | e'
    ·subst e'
     rw [ha] at e; cases e
     exact absurd rfl d1
    ·rw [hta b e'] at e; cases e
     exact absurd rfl d2
  have noA:∀ {b:Addr} {o:Obj} {es:Array DictEntry} {ep:Nat},s₁.heap.get? b=some o→o.data=.dict es ep→H b=none:=fun {b o es ep} e d=>by
   cases q:H b with
   | none=>rfl
   | some u =>
    rcases hA b (by rw [q]; simp) with e' | e'
    ·subst e'
     rw [ha] at e; cases e
     have d':Data.seq vs.toArray _=Data.dict es ep:=d
     cases d'
    ·rw [hta b e'] at e; cases e
     have d':Data.fields #[]=Data.dict es ep:=d
     cases d'
  have nsK:∀ {b:Addr} {m:Str→Option Value},s₁.heap.Ns b m→(hidT s₁.heap H).Ns b m:=fun {b m} ⟨o,es,ep,e,d,r⟩=>⟨o,es,ep,base_of e (noA e d),d,r⟩
  have hKb:K.In (hidT s₁.heap H):=fun b o e=>base_of (KX b o e) (by
   cases q:H b with
   | none=>rfl
   | some u =>
    rcases hA b (by rw [q]; simp) with e' | e'
    ·subst e'
     rw [hK (by rw [q]; simp)] at e; cases e
    ·have h1:=KX b o e
     rw [hta b e'] at h1; cases h1
     have h2:=List.all_eq_true.mp hKt (b,_) (PySem.W.mem_of_lookupK e)
     exact absurd (show false=true from h2) Bool.false_ne_true)
  have hM:Mod K mg (hidT s₁.heap H):=⟨hKb,nsK hns,⟨mb,nsK hb,hbb⟩,let ⟨mc,h1,h2⟩:=hlim; ⟨mc,nsK h1,h2⟩,let ⟨bm,ob,b1,b2,b3,b4,b5⟩:=hbm; ⟨bm,ob,b1,b2,base_of b3 (noB b3 (by rw [b4]; simp) (by rw [b4]; simp)),b4,b5⟩⟩
  have e0:Env0 P w K mg (hidT s₁.heap H) callerA [] s₁ H:=⟨rfl,hM,fun b o e=>of_hidT e,Nat.le_of_eq (hidT_size _ _),trivial,fun b hb=>absurd (show b∈([]:List Addr) from hb) (by simp),hok,.of_eq hg⟩
  refine codeAny_mono ((F _ hKb (nsK hns)).run callerA [] s₁ H ⟨[.ref a],[]⟩ [.ref a] [.ref a] _ _ hr e0 (hbind s₁ (.ref a)) (.cons rfl .nil) (hsp H hT hS)) fun r s' h=>?_
  cases r with
  | error e=>exact False.elim h
  | ok fl =>
   cases fl with
   | next=>exact False.elim h
   | brk=>exact False.elim h
   | cont=>exact False.elim h
   | ret u =>
    obtain ⟨v,H',os,bare,un,hok',r',q⟩:=h
    have q':v=.bl true:=q
    subst q'
    obtain rfl:u=Value.bool true:=r'
    have main:∀ b o,s₁.heap.get? b=some o→s'.heap.get? b=some o∨(b∈ts.map (·.2)∧o=PySem.W.tabObj #[]∧∃ ps,s'.heap.get? b=some (PySem.W.tabObj ps)):=fun b o e=>by
     rcases hO b with z | ⟨ob,xs,z⟩ | ⟨hm,z⟩
     ·exact .inl (un.keep b o e z (by intro z; exact absurd (show b∈([]:List Addr) from z) (by simp)) (by simp))
     ·have z2:=un.frzs b ob _ z
      obtain ⟨e1,_⟩:=hok b _ z
      obtain ⟨e2,_⟩:=hok' b _ z2
      rw [e] at e1; cases e1
      exact .inl e2
     ·obtain ⟨more,z2⟩:=un.tbls b _ z
      have e2:s'.heap.get? b=some (PySem.W.tabObj (#[] ++ more)):=hok' b _ z2
      have e1:=hta b hm
      rw [e] at e1; cases e1
      exact .inr ⟨hm,rfl,_,e2⟩
    refine ⟨rfl,⟨fun b o e=>?_,fun b o e=>?_⟩,os,bare⟩
    ·rcases main b o e with z | ⟨hm,rfl,ps,z⟩
     ·exact .inl z
     ·obtain ⟨q,hq,rfl⟩:=List.mem_map.mp hm
      have hC:=PySem.W.codeHd_of_K KX (hTs q hq).1
      exact .inr (.inl ⟨(hC.tab (hTs q hq).2).isCodeTable,rfl,#[],ps,rfl,by rw [Array.empty_append]; exact z⟩)
    ·rcases main b o e with z | ⟨_,_,ps,z⟩
     ·exact ⟨o,z⟩
     ·exact ⟨_,z⟩
 have tabOk:∀ (H:Hp) b,H b=some (.tbl #[])→b∈ts.map (·.2)→ObjOk P w H s₁.heap b (.tbl #[]):=fun H b _ h=>hta b h
 cases hk:K.lookup a with
 | some o =>
  have e:=KX a o hk
  rw [ha] at e
  cases e
  let H:Hp:=fun b=>if b∈ts.map (·.2) then some (.tbl #[]) else none
  refine core H (fun b=>?_) (fun q hq=>if_pos (List.mem_map_of_mem hq)) (.inr ⟨_,vs.toArray,_,hk,rfl,rfl,rfl,by rw [List.size_toArray,lenV]; exact hl,by simpa using rv⟩) (fun b u z=>?_) (fun b z=>?_) fun z=>absurd (if_neg nat) z
  ·by_cases hb:b∈ts.map (·.2)
   ·exact .inr (.inr ⟨hb,if_pos hb⟩)
   ·exact .inl (if_neg hb)
  ·by_cases hb:b∈ts.map (·.2)
   ·have z':=(if_pos hb).symm.trans z
    cases z'
    exact hta b hb
   ·have z':=(if_neg hb).symm.trans z
    cases z'
  ·by_cases hb:b∈ts.map (·.2)
   ·exact .inr hb
   ·exact absurd (if_neg hb) z
 | none =>
  let H:Hp:=fun b=>if b∈ts.map (·.2) then some (.tbl #[]) else if b=a then some (.frz { cls:=.type "list",data:=.seq vs.toArray } (.lst (ns.map V.int))) else none
  have Ha:H a=some (.frz { cls:=.type "list",data:=.seq vs.toArray } (.lst (ns.map V.int))):=(if_neg nat).trans (if_pos rfl)
  refine core H (fun b=>?_) (fun q hq=>if_pos (List.mem_map_of_mem hq)) (.inl (.inr ⟨_,Ha⟩)) (fun b u z=>?_) (fun b z=>?_) fun _=>hk
  ·by_cases hb:b∈ts.map (·.2)
   ·exact .inr (.inr ⟨hb,if_pos hb⟩)
   ·by_cases hb2:b=a
    ·exact .inr (.inl ⟨_,_,(if_neg hb).trans (if_pos hb2)⟩)
    ·exact .inl ((if_neg hb).trans (if_neg hb2))
  ·by_cases hb:b∈ts.map (·.2)
   ·have z':=(if_pos hb).symm.trans z
    cases z'
    exact hta b hb
   ·by_cases hb2:b=a
    ·have z':=((if_neg hb).trans (if_pos hb2)).symm.trans z
     cases z'
     subst hb2
     exact ⟨ha,by rw [List.length_map]; exact hl,vs,_,rv,ha⟩
    ·have z':=((if_neg hb).trans (if_neg hb2)).symm.trans z
     cases z'
  ·by_cases hb:b∈ts.map (·.2)
   ·exact .inr hb
   ·by_cases hb2:b=a
    ·exact .inl hb2
    ·exact absurd ((if_neg hb).trans (if_neg hb2)) z
def tabsIn (K:PySem.W.Frag) (ts:List (Addr×Addr)):Bool:=lamNames.all fun x=>match PySem.W.tabIn K x with
 | some q=>decide (q∈ts)
 | none=>true
theorem tabOk_start {K:PySem.W.Frag} {H:Hp} {ts:List (Addr×Addr)} (h:tabsIn K ts=true) (hT:∀ q∈ts,H q.2=some (.tbl #[])):TabOk K H:=fun x hx c P e=>by
 have:=List.all_eq_true.mp h x hx
 rw [e] at this
 exact ⟨#[],hT (c,P) (of_decide_eq_true this),trivial,fun pos cv z=>by cases z⟩
theorem walk_ofT {l:PySem.W.OpenLaw} {n k:Nat} {q:Program} {loose:List Str} {XP:(Str→Option Value)→Heap→Prop} {YP:World→Heap→Prop} {d:DefRec} {K:Params→PySem.W.Frag} {x:Str} {m:List D→LC→R D} {ts:List (Addr×Addr)}
  (hn:l.most=some n) (hn2:n≤sizeLine) (hdf:d.params.defaults=[]) (hr:Room k callerA)
  (hY:∀ (w:World) (h:Heap),YP w h→(K w.params).In h∧∀ q∈ts,h.get? q.2=some (PySem.W.tabObj #[]))
  (hK:∀ p,(ts.all fun q=>PySem.W.codeHdIn (K p) q.1 q.2)=true∧PySem.W.noTabs (K p)=true∧tabsIn (K p) ts=true)
  (F:∀ (w:World) (mg:Str→Option Value) (fa:Addr) (h:Heap),(K w.params).In h→h.Ns mainGlobals mg→mg d.name=some (.ref fa) →
   ∃ fd:FuncData,(∀ (s:Shared) (u:Value),BindsTo s fd ⟨[u],[]⟩ [(x,u)]) ∧
    ∀ base:Heap,(K w.params).In base→base.Ns mainGlobals mg→FnOk l.prog w (K w.params) mg base CX0 k fa fd [x] (spD (K w.params) 1 m))
  (hm:∀ ns:List Int,ns.length≤n→∃ c,m [.scr ns] []=.ok (.bl true) c) :
  PySem.W.WalkO q loose XP YP l.row.toRowW d [] (fun f vs=>PySem.call f vs):=by
 refine Att.attach_call hn hdf fun w s₀ s₁ mg mb fa o pm cd doc a vs ns G Y ho hd hcd hmg hobj hints hlen hg=>?_
 obtain ⟨KX,hT⟩:=hY w _ Y
 obtain ⟨fd,hb,hF⟩:=F w mg fa _ KX G.T.g hmg
 obtain ⟨k1,k2,k3⟩:=hK w.params
 refine law_callT (ts:=ts) KX G.T.g G.T.b G.T.builtins G.T.nolimit G.T.bmain hg hobj hints (Nat.le_trans hlen hn2) hr (fun q hq=>⟨List.all_eq_true.mp k1 q hq,hT q hq⟩) k2 hF hb fun H h1 h2=>?_
 obtain ⟨c,hc⟩:=hm ns hlen
 refine ⟨[],[.scr ns],[],⟨.nil,rfl,fun k a cl e=>(by cases e),tabOk_start k3 h1⟩,⟨.ref a,[],rfl,⟨a,rfl,?_⟩,rfl⟩,rfl,?_⟩
 ·rcases h2 with hS | hS
  ·exact .inl ⟨hS,by simp⟩
  ·exact .inr (.inr hS)
 ·rw [hc]
  exact fun ρ' H' b _ _ r=>r
end L2
namespace L2
open PySem
abbrev Pb:=SetTable.Probe
def advM (m:Nat) (p:Pb):Pb:=if p.more > 0 then { p with j:=p.j + 1,more:=p.more - 1 } else { p with j:=(p.i * 5 + 1 + p.perturb / 32) % (m + 1),more:=SetTable.runEnd m ((p.i * 5 + 1 + p.perturb / 32) % (m + 1)) - (p.i * 5 + 1 + p.perturb / 32) % (m + 1),i:=(p.i * 5 + 1 + p.perturb / 32) % (m + 1),perturb:=p.perturb / 32 }
theorem adv_eq (t:SetTable) (p:Pb):t.advance p=advM t.mask p:=by
 unfold SetTable.advance advM
 split <;> rfl
def itr (m:Nat):Nat→Pb→Pb
 | 0,p=>p
 | n + 1,p=>itr m n (advM m p)
theorem qgx (m:Nat):∀ (a b:Nat) (p:Pb),itr m (a + b) p=itr m b (itr m a p)
 | 0,b,p=>by rw [Nat.zero_add]; rfl
 | a + 1,b,p=>by
  rw [show a + 1 + b=(a + b) + 1 by omega]
  exact qgx m a b (advM m p)
theorem adv_dummy (m:Nat) (p:Pb):(advM m p).dummy=p.dummy:=by unfold advM; split <;> rfl
theorem itr_dummy (m:Nat):∀ (n:Nat) (p:Pb),(itr m n p).dummy=p.dummy
 | 0,_=>rfl
 | n + 1,p=>(itr_dummy m n (advM m p)).trans (adv_dummy m p)
def pst (m i q:Nat):Pb:=⟨i,SetTable.runEnd m i - i,i,q,none⟩
def stP (m:Nat) (h:Int):Pb:=pst m (SetTable.bits h % (m + 1)) (SetTable.bits h)
def atP (m:Nat) (h:Int) (n:Nat):Nat:=(itr m n (stP m h)).j
def Reach (m:Nat) (P:Nat→Prop) (h:Int) (j:Nat):Prop:=∃ n,n < 10 * (m + 15)∧atP m h n=j∧∀ k,k < n→P (atP m h k)
theorem Reach.mono {m:Nat} {P Q:Nat→Prop} {h:Int} {j:Nat} (r:Reach m P h j) (i:∀ k,P k→Q k):Reach m Q h j :=
 let ⟨n,h1,h2,h3⟩:=r; ⟨n,h1,h2,fun k hk=>i _ (h3 k hk)⟩
theorem qf1 {t:SetTable} (hu:Up t.place.toList) {j:Nat} (hj:j∈t.place.toList):∃ i,t.slot j=.live i∧t.place[i]? = some j:=by
 refine ⟨SetTable.below t.place j,?_,qfw hu hj⟩
 unfold SetTable.slot
 dsimp only
 rw [qfw hu hj]
 simp
theorem slot_emp {t:SetTable} (hd:t.dummies=#[]) {j:Nat} (hj:j∉t.place.toList):t.slot j=.empty:=by
 rcases qgd hd j with e | ⟨i,e⟩
 ·exact e
 ·unfold SetTable.slot at e
  dsimp only at e
  split at e
  ·rename_i q
   have:=eq_of_beq q
   rw [← Array.getElem?_toList] at this
   exact absurd (List.mem_of_getElem? this) hj
  ·split at e <;> cases e
theorem go_skip {t:SetTable} {hashAt:Nat→Int} {h:Int}:∀ (n fuel:Nat) (p:Pb),n≤fuel→(∀ k,k < n→∃ i,t.slot (itr t.mask k p).j=.live i∧(hashAt i == h)=false) →
  SetTable.probe.go t hashAt h fuel p=SetTable.probe.go t hashAt h (fuel - n) (itr t.mask n p)
 | 0,fuel,p,_,_=>rfl
 | n + 1,0,p,hf,_=>absurd hf (by omega)
 | n + 1,fuel + 1,p,hf,hk=>by
  obtain ⟨i,e,hne⟩:=hk 0 (by omega)
  have e:t.slot p.j=.live i:=e
  have ih:=go_skip (t:=t) (hashAt:=hashAt) (h:=h) n fuel (advM t.mask p) (by omega) fun k hk'=>hk (k + 1) (by omega)
  rw [show fuel + 1 - (n + 1)=fuel - n by omega]
  show SetTable.probe.go t hashAt h (fuel + 1) p=SetTable.probe.go t hashAt h (fuel - n) (itr t.mask n (advM t.mask p))
  rw [← ih]
  conv=>lhs; unfold SetTable.probe.go
  rw [e]
  dsimp only
  rw [hne,adv_eq]
  simp only [Bool.false_eq_true,if_false]
theorem cov_hit {mask:Nat}:∀ (n:Nat) (p:Pb) (acc:Nat),cov mask n p.j p.more p.i p.perturb acc=true→∀ s,s≤mask→acc.testBit s=false→∃ k,k < n∧(itr mask k p).j=s
 | 0,_,_,h,_,_,_=>by cases h
 | n + 1,p,acc,hc,s,hs,ha=>by
  by_cases e:p.j=s
  ·exact ⟨0,by omega,e⟩
  ·have ha':(acc ||| (1 <<< p.j)).testBit s=false:=by
    rw [qf0,ha]
    simp
    exact fun q=>e q.symm
   unfold cov at hc
   split at hc
   ·rename_i ef
    rw [ef,Nat.testBit_two_pow_sub_one] at ha'
    have:=of_decide_eq_false ha'
    omega
   ·split at hc
    ·rename_i hm
     have hadv:advM mask p={ p with j:=p.j + 1,more:=p.more - 1 }:=by unfold advM; rw [if_pos hm]
     obtain ⟨k,hk,ek⟩:=cov_hit n (advM mask p) (acc ||| (1 <<< p.j)) (by rw [hadv]; exact hc) s hs ha'
     exact ⟨k + 1,by omega,ek⟩
    ·rename_i hm
     have hadv:advM mask p={ p with j:=(p.i * 5 + 1 + p.perturb / 32) % (mask + 1),more:=SetTable.runEnd mask ((p.i * 5 + 1 + p.perturb / 32) % (mask + 1)) - (p.i * 5 + 1 + p.perturb / 32) % (mask + 1),i:=(p.i * 5 + 1 + p.perturb / 32) % (mask + 1),perturb:=p.perturb / 32 }:=by
      unfold advM; rw [if_neg hm]
     obtain ⟨k,hk,ek⟩:=cov_hit n (advM mask p) (acc ||| (1 <<< p.j)) (by rw [hadv]; exact hc) s hs ha'
     exact ⟨k + 1,by omega,ek⟩
theorem least {P:Nat→Prop}:∀ (n:Nat),P n→∃ k,k≤n∧P k∧∀ i,i < k→¬ P i:=fun n=>by
 induction n using Nat.strongRecOn with
 | _ n ih =>
  intro h
  by_cases q:∃ i,i < n∧P i
  ·obtain ⟨i,hi,hp⟩:=q
   obtain ⟨k,h1,h2,h3⟩:=ih i hi hp
   exact ⟨k,by omega,h2,h3⟩
  ·exact ⟨n,Nat.le_refl _,h,fun i hi hp=>q ⟨i,hi,hp⟩⟩
structure CovH (h:Int):Prop where
 go:∀ m,qfd m→cov m (10 * (m + 15)) (SetTable.bits h % (m + 1)) (SetTable.runEnd m (SetTable.bits h % (m + 1)) - SetTable.bits h % (m + 1)) (SetTable.bits h % (m + 1)) (SetTable.bits h) 0=true
 lay:∀ m,qcz m→covR m (m + 15) (SetTable.bits h % (m + 1)) (SetTable.bits h) 0=true
def hAt (es:Array (Int×Value)) (i:Nat):Int:=(Option.map (fun x:Int×Value=>x.fst) es[i]?).getD 0
structure TblT (t:SetTable) (es:Array (Int×Value)):Prop where
 size:t.place.size=es.size
 up:Up t.place.toList
 le:∀ j∈t.place.toList,j≤t.mask
 dm:t.dummies=#[]
 mask:(t.mask=7∧es.size≤4)∨(t.mask=31∧es.size≤18)∨(t.mask=127∧es.size≤76)
 reach:∀ q∈t.place.toList.zip es.toList,Reach t.mask (·∈t.place.toList) q.2.1 q.1
theorem TblT.ok {t:SetTable} {es:Array (Int×Value)} (I:TblT t es):qfd t.mask:=by
 have:=I.mask
 unfold qfd; omega
theorem TblT.fits {t:SetTable} {es:Array (Int×Value)} (h:TblT t es):t.fits es.size=true:=by
 have:=h.mask
 simp only [SetTable.fits,SetTable.fill,h.size,h.dm,Bool.and_eq_true,beq_self_eq_true,true_and,decide_eq_true_eq]
 simp only [List.size_toArray,List.length_nil]
 omega
theorem zip_at {l:List Nat} {r:List (Int×Value)} {i j:Nat} {e:Int×Value} (h1:l[i]? = some j) (h2:r[i]? = some e):(j,e)∈l.zip r:=by
 have:(l.zip r)[i]? = some (j,e):=by rw [List.getElem?_zip_eq_some]; exact ⟨h1,h2⟩
 exact List.mem_of_getElem? this
theorem up_inj {l:List Nat} (h:Up l) {i k j:Nat} (h1:l[i]? = some j) (h2:l[k]? = some j):i=k:=by
 obtain ⟨a1,b1⟩:=List.getElem?_eq_some_iff.mp h1
 obtain ⟨a2,b2⟩:=List.getElem?_eq_some_iff.mp h2
 rcases Nat.lt_trichotomy i k with q | q | q
 ·have:=List.pairwise_iff_getElem.mp h i k a1 a2 q; omega
 ·exact q
 ·have:=List.pairwise_iff_getElem.mp h k i a2 a1 q; omega
theorem find_there {t:SetTable} {es:Array (Int×Value)} (I:TblT t es) {e:Int×Value} (he:e∈es.toList):∃ j i next e',t.probe (hAt es) e.1 (t.probeStart e.1)=some (.candidate j i next)∧es[i]? = some e'∧e'.1=e.1:=by
 obtain ⟨i0,hi0,ee⟩:=List.getElem_of_mem he
 have e1:es.toList[i0]? = some e:=by rw [List.getElem?_eq_getElem hi0,ee]
 have hsz:t.place.toList.length=es.toList.length:=by simp [I.size]
 obtain ⟨j0,hj0⟩:∃ j0,t.place.toList[i0]? = some j0:=⟨_,List.getElem?_eq_getElem (by omega)⟩
 obtain ⟨n0,hn0,ha0,hl0⟩:=I.reach (j0,e) (zip_at hj0 e1)
 have hm0:j0∈t.place.toList:=List.mem_of_getElem? hj0
 have hA:∀ i e',es[i]? = some e'→hAt es i=e'.1:=fun i e' q=>by unfold hAt; rw [q]; rfl
 have stop0:∃ i,t.slot (atP t.mask e.1 n0)=.live i∧hAt es i=e.1:=by
  rw [ha0]
  obtain ⟨i,s1,s2⟩:=qf1 I.up hm0
  rw [← Array.getElem?_toList] at s2
  have:=up_inj I.up s2 hj0
  subst this
  exact ⟨i,s1,hA i e (by rw [← Array.getElem?_toList]; exact e1)⟩
 obtain ⟨n,hn,⟨i,s1,s2⟩,hmin⟩:=least (P:=fun n=>∃ i,t.slot (atP t.mask e.1 n)=.live i∧hAt es i=e.1) n0 stop0
 have hlive:∀ k,k < n→∃ i,t.slot (itr t.mask k (stP t.mask e.1)).j=.live i∧(hAt es i == e.1)=false:=fun k hk=>by
  obtain ⟨i',q1,_⟩:=qf1 I.up (hl0 k (by omega))
  refine ⟨i',q1,?_⟩
  cases hb:hAt es i' == e.1 with
  | false=>rfl
  | true=>exact absurd ⟨i',q1,eq_of_beq hb⟩ (hmin k hk)
 have hsk:=go_skip (t:=t) (hashAt:=hAt es) (h:=e.1) n (10 * SetTable.turns t.mask) (stP t.mask e.1) (by unfold SetTable.turns; omega) hlive
 have hf:∃ f,10 * SetTable.turns t.mask - n=f + 1:=⟨10 * SetTable.turns t.mask - n - 1,by unfold SetTable.turns; omega⟩
 obtain ⟨f,hf⟩:=hf
 have hi:∃ e',es[i]? = some e'∧e'.1=e.1:=by
  have hpl:∃ j,t.place[i]? = some j:=by
   unfold SetTable.slot at s1
   dsimp only at s1
   split at s1
   ·rename_i q
    cases s1
    exact ⟨_,eq_of_beq q⟩
   ·split at s1 <;> cases s1
  obtain ⟨j,hj⟩:=hpl
  rw [← Array.getElem?_toList] at hj
  have hlt:=(List.getElem?_eq_some_iff.mp hj).1
  have hlt2:i < es.toList.length:=by omega
  refine ⟨es.toList[i],by rw [← Array.getElem?_toList,List.getElem?_eq_getElem hlt2],?_⟩
  rw [← s2,hA i es.toList[i] (by rw [← Array.getElem?_toList,List.getElem?_eq_getElem hlt2])]
 obtain ⟨e',h1,h2⟩:=hi
 refine ⟨atP t.mask e.1 n,i,t.advance (itr t.mask n (stP t.mask e.1)),e',?_,h1,h2⟩
 show SetTable.probe.go t (hAt es) e.1 (10 * SetTable.turns t.mask) (stP t.mask e.1)=_
 rw [hsk,hf]
 unfold SetTable.probe.go
 have s1:t.slot (itr t.mask n (stP t.mask e.1)).j=.live i:=s1
 rw [s1]
 dsimp only
 rw [s2]
 simp
 rfl
theorem adv_le {m:Nat} {p:Pb} (h:p.j + p.more≤m):(advM m p).j + (advM m p).more≤m:=by
 unfold advM
 split
 ·dsimp only; omega
 ·dsimp only
  have:(p.i * 5 + 1 + p.perturb / 32) % (m + 1) < m + 1:=Nat.mod_lt _ (by omega)
  generalize (p.i * 5 + 1 + p.perturb / 32) % (m + 1)=i at this
  unfold SetTable.runEnd
  split <;> omega
theorem itr_le {m:Nat}:∀ (n:Nat) {p:Pb},p.j + p.more≤m→(itr m n p).j + (itr m n p).more≤m
 | 0,_,h=>h
 | n + 1,_,h=>itr_le n (adv_le h)
theorem st_le (m:Nat) (h:Int):(stP m h).j + (stP m h).more≤m:=by
 have:SetTable.bits h % (m + 1) < m + 1:=Nat.mod_lt _ (by omega)
 unfold stP pst
 dsimp only
 generalize SetTable.bits h % (m + 1)=i at this
 unfold SetTable.runEnd
 split <;> omega
theorem atP_le (m:Nat) (h:Int) (n:Nat):atP m h n≤m:=by
 have:=itr_le n (st_le m h)
 unfold atP; omega
theorem find_free {t:SetTable} {es:Array (Int×Value)} (I:TblT t es) {h:Int} (hc:CovH h) (hno:∀ e∈es.toList,e.1≠h) :
  ∃ j,t.probe (hAt es) h (t.probeStart h)=some (.empty j none)∧j∉t.place.toList∧j≤t.mask∧Reach t.mask (·∈t.place.toList) h j:=by
 have hsz:t.place.toList.length=es.toList.length:=by simp [I.size]
 have hM:=I.mask
 have hes:es.toList.length=es.size:=by simp
 have hex:∃ j,j≤t.mask∧j∉t.place.toList:=Classical.byContradiction fun q=>by
  have:=pigeon (t.mask + 1) t.place.toList fun j hj=>Classical.byContradiction fun x=>q ⟨j,by omega,x⟩
  omega
 obtain ⟨js,hjs,hjn⟩:=hex
 obtain ⟨k0,hk0,ek0⟩:=cov_hit (10 * (t.mask + 15)) (stP t.mask h) 0 (hc.go t.mask I.ok) js hjs (by simp)
 obtain ⟨n,hn,hs,hmin⟩:=least (P:=fun n=>atP t.mask h n∉t.place.toList) k0 (by show (itr t.mask k0 (stP t.mask h)).j∉_; rw [ek0]; exact hjn)
 have hin:∀ k,k < n→atP t.mask h k∈t.place.toList:=fun k hk=>Classical.byContradiction fun x=>hmin k hk x
 have hA:∀ i e',es[i]? = some e'→hAt es i=e'.1:=fun i e' q=>by unfold hAt; rw [q]; rfl
 have hlive:∀ k,k < n→∃ i,t.slot (itr t.mask k (stP t.mask h)).j=.live i∧(hAt es i == h)=false:=fun k hk=>by
  obtain ⟨i,q1,q2⟩:=qf1 I.up (hin k hk)
  refine ⟨i,q1,?_⟩
  rw [← Array.getElem?_toList] at q2
  have hlt:=(List.getElem?_eq_some_iff.mp q2).1
  have hlt2:i < es.toList.length:=by omega
  have hq:es[i]? = some es.toList[i]:=by rw [← Array.getElem?_toList,List.getElem?_eq_getElem hlt2]
  rw [hA i _ hq]
  exact beq_false_of_ne (hno _ (List.getElem_mem hlt2))
 have hsk:=go_skip (t:=t) (hashAt:=hAt es) (h:=h) n (10 * SetTable.turns t.mask) (stP t.mask h) (by unfold SetTable.turns; omega) hlive
 obtain ⟨f,hf⟩:∃ f,10 * SetTable.turns t.mask - n=f + 1:=⟨10 * SetTable.turns t.mask - n - 1,by unfold SetTable.turns; omega⟩
 refine ⟨atP t.mask h n,?_,hs,?_,n,by omega,rfl,hin⟩
 ·show SetTable.probe.go t (hAt es) h (10 * SetTable.turns t.mask) (stP t.mask h)=_
  rw [hsk,hf]
  unfold SetTable.probe.go
  have s1:t.slot (itr t.mask n (stP t.mask h)).j=.empty:=slot_emp I.dm hs
  rw [s1]
  dsimp only
  rw [itr_dummy]
  rfl
 ·exact atP_le _ h n
end L2
namespace L2
open PySem
theorem zip_ins {l:Array Nat} {r:Array (Int×Value)} (hs:l.size=r.size) {p j:Nat} {e:Int×Value}:∀ q∈(SetTable.insertAt l p j).toList.zip (SetTable.insertAt r p e).toList,q=(j,e)∨q∈l.toList.zip r.toList:=by
 intro q hq
 rw [SetTable.toList_insertAt,SetTable.toList_insertAt] at hq
 have hl:(l.toList.take p).length=(r.toList.take p).length:=by simp [hs]
 rw [List.zip_append hl,List.zip_cons_cons,List.mem_append,List.mem_cons] at hq
 have hz:l.toList.zip r.toList=(l.toList.take p).zip (r.toList.take p) ++ (l.toList.drop p).zip (r.toList.drop p):=by
  rw [← List.zip_append hl,List.take_append_drop,List.take_append_drop]
 rw [hz,List.mem_append]
 rcases hq with q | q | q
 ·exact .inr (.inl q)
 ·exact .inl q
 ·exact .inr (.inr q)
theorem put_ok {t:SetTable} {es:Array (Int×Value)} (I:TblT t es) {h:Int} {x:Value} {j:Nat} (hj:j∉t.place.toList) (hle:j≤t.mask) (hr:Reach t.mask (·∈t.place.toList) h j) :
  (SetTable.insertAt es (SetTable.below t.place j) (h,x)).size=es.size + 1∧(t.put j).1.place.size=es.size + 1∧Up (t.put j).1.place.toList∧(∀ k∈(t.put j).1.place.toList,k≤t.mask)∧(t.put j).1.dummies=#[] ∧
   (∀ q∈(t.put j).1.place.toList.zip (SetTable.insertAt es (SetTable.below t.place j) (h,x)).toList,Reach t.mask (·∈(t.put j).1.place.toList) q.2.1 q.1):=by
 have hsz:=I.size
 have hnd:(if SetTable.has t.dummies j then SetTable.eraseAt t.dummies (SetTable.below t.dummies j) else t.dummies)=#[]:=by
  rw [I.dm]; rfl
 have hmem:∀ k,k∈(SetTable.insertAt t.place (SetTable.below t.place j) j).toList↔k∈t.place.toList∨k=j:=fun k=>by
  rw [(SetTable.insertAt_perm t.place (SetTable.below t.place j) j).mem_iff,Array.toList_push,List.mem_append,List.mem_singleton]
 refine ⟨?_,?_,up_put I.up hj,fun k hk=>?_,hnd,fun q hq=>?_⟩
 ·rw [← Array.length_toList,(SetTable.insertAt_perm ..).length_eq]; simp
 ·show (SetTable.insertAt t.place (SetTable.below t.place j) j).size=_
  rw [← Array.length_toList,(SetTable.insertAt_perm ..).length_eq]; simp [hsz]
 ·rcases (hmem k).mp hk with q | rfl
  ·exact I.le k q
  ·exact hle
 ·rcases zip_ins hsz q hq with rfl | q'
  ·exact hr.mono fun k hk=>(hmem k).mpr (.inl hk)
  ·exact (I.reach q q').mono fun k hk=>(hmem k).mpr (.inl hk)
theorem qf3 (m:Nat):∀ (k:Nat) (p:Pb),k≤p.more→itr m k p={ p with j:=p.j + k,more:=p.more - k }
 | 0,p,_=>rfl
 | k + 1,p,h=>by
  have ha:advM m p={ p with j:=p.j + 1,more:=p.more - 1 }:=by unfold advM; rw [if_pos (by omega)]
  show itr m k (advM m p)=_
  rw [ha,qf3 m k _ (by dsimp only; omega)]
  dsimp only
  congr 1 <;> omega
theorem leap_itr (m i q:Nat):itr m (SetTable.runEnd m i - i + 1) (pst m i q)=pst m ((i * 5 + 1 + q / 32) % (m + 1)) (q / 32):=by
 rw [qgx m _ 1,qf3 m (SetTable.runEnd m i - i) (pst m i q) (Nat.le_refl _)]
 show advM m _=_
 unfold advM pst
 dsimp only
 rw [if_neg (by omega)]
theorem run_nine (m i:Nat):SetTable.runEnd m i - i≤9:=by unfold SetTable.runEnd; split <;> omega
theorem run_ge (m i:Nat):i≤SetTable.runEnd m i:=by unfold SetTable.runEnd; split <;> omega
theorem free_way {mask:Nat} {owner:Array (Option Nat)}:∀ (fuel i q j:Nat),SetTable.layClean.free mask owner fuel i q=some j →
  ∃ n,n < 10 * fuel∧(itr mask n (pst mask i q)).j=j∧∀ k,k < n→owner.getD (itr mask k (pst mask i q)).j (some 0)≠none
 | 0,i,q,j,h=>by cases h
 | fuel + 1,i,q,j,h=>by
  have h9:=run_nine mask i
  have hg:=run_ge mask i
  unfold SetTable.layClean.free at h
  cases hr:(List.range (SetTable.runEnd mask i + 1 - i)).find? (fun k=>(owner.getD (i + k) (some 0)).isNone) with
  | some k =>
   rw [hr] at h
   dsimp only at h
   cases h
   have hk:=List.mem_range.mp (List.mem_of_find?_eq_some hr)
   refine ⟨k,by omega,?_,fun k' hk'=>?_⟩
   ·rw [qf3 mask k _ (by show k≤SetTable.runEnd mask i - i; omega)]
    rfl
   ·rw [qf3 mask k' _ (by show k'≤SetTable.runEnd mask i - i; omega)]
    show owner.getD (i + k') (some 0)≠none
    intro e
    have hb:=List.find?_eq_some_iff_getElem.mp hr
    obtain ⟨_,n,hn,en,hbefore⟩:=hb
    have en':n=k:=by simpa using en
    have:=hbefore k' (by omega)
    simp [e] at this
  | none =>
   rw [hr] at h
   dsimp only at h
   have h:SetTable.layClean.free mask owner fuel ((i * 5 + 1 + q / 32) % (mask + 1)) (q / 32)=some j:=h
   obtain ⟨n,hn,ej,hl⟩:=free_way fuel _ _ j h
   have hno:=List.find?_eq_none.mp hr
   refine ⟨SetTable.runEnd mask i - i + 1 + n,by omega,?_,fun k hk=>?_⟩
   ·rw [qgx,leap_itr]; exact ej
   ·by_cases hk2:k≤SetTable.runEnd mask i - i
    ·rw [qf3 mask k _ hk2]
     show owner.getD (i + k) (some 0)≠none
     intro e
     have:=hno k (List.mem_range.mpr (by omega))
     simp [e] at this
    ·rw [show k=SetTable.runEnd mask i - i + 1 + (k - (SetTable.runEnd mask i - i + 1)) by omega,qgx,leap_itr]
     exact hl _ (by omega)
structure LayT (mask:Nat) (owner:Array (Option Nat)) (hs:List Int) (k:Nat):Prop where
 lay:LayI mask owner k
 way:∀ j i,owner.toList.getD j none=some i→∃ h,hs[i]? = some h∧Reach mask (fun s=>owner.getD s (some 0)≠none) h j
theorem own_le {mask:Nat} {owner:Array (Option Nat)} {k:Nat} (I:LayI mask owner k) {s:Nat} (h:s≤mask):(owner.getD s (some 0)≠none)↔(owner.toList.getD s none≠none):=by
 have h1:=I.1
 rw [qbU]
 have hs:s < owner.toList.length:=by omega
 rw [List.getD_eq_getElem?_getD,List.getD_eq_getElem?_getD,List.getElem?_eq_getElem hs]
 rfl
theorem layT_step {mask:Nat} {owner:Array (Option Nat)} {hs:List Int} {k:Nat} {h:Int} (hm:qcz mask) (hc:CovH h) (I:LayT mask owner hs k) (hk:k≤mask) (hh:hs[k]? = some h) :
  ∃ j,SetTable.layClean.free mask owner (SetTable.turns mask) (SetTable.bits h % (mask + 1)) (SetTable.bits h)=some j∧LayT mask (owner.setIfInBounds j (some k)) hs (k + 1):=by
 obtain ⟨h1,h2⟩:=I.lay
 have hex:∃ j,j≤mask∧owner.getD j (some 0)=none:=by
  by_cases q:∃ j,j≤mask∧owner.getD j (some 0)=none
  ·exact q
  ·have:=qfp owner.toList fun j hj e=>q ⟨j,by omega,by rw [qbU]; exact e⟩
   have h3:=h2.length_eq
   rw [List.length_range] at h3
   omega
 obtain ⟨j,e,e1⟩:=qgv (mask + 15) _ _ 0 (SetTable.turns mask) (hc.lay mask hm) (Nat.le_refl _) (fun k _ hb=>by simp at hb) hex
 obtain ⟨n,hn,ej,hl⟩:=free_way _ _ _ _ e
 rw [qbU] at e1
 have hj:j < owner.toList.length:=by
  rcases Nat.lt_or_ge j owner.toList.length with q | q
  ·exact q
  ·rw [List.getD_eq_getElem?_getD,List.getElem?_eq_none q] at e1; cases e1
 have grow:∀ s,owner.getD s (some 0)≠none→(owner.setIfInBounds j (some k)).getD s (some 0)≠none:=fun s hs=>by
  rw [qbU,Array.toList_setIfInBounds,List.getD_eq_getElem?_getD,List.getElem?_set]
  split
  ·first | (split <;> simp) | simp
  ·rw [qbU,List.getD_eq_getElem?_getD] at hs
   exact hs
 refine ⟨j,e,⟨⟨by simpa using h1,?_⟩,fun s i hs=>?_⟩⟩
 ·rw [Array.toList_setIfInBounds]
  refine (qgE _ j k hj e1).trans ?_
  rw [List.range_succ]
  exact (h2.cons k).trans (List.perm_append_singleton k _).symm
 ·rw [Array.toList_setIfInBounds,List.getD_eq_getElem?_getD,List.getElem?_set] at hs
  by_cases q:j=s
  ·subst q
   rw [if_pos rfl,if_pos hj] at hs
   have:k=i:=by simpa using hs
   subst this
   exact ⟨h,hh,n,by unfold SetTable.turns at hn; exact hn,ej,fun k' hk'=>grow _ (hl k' hk')⟩
  ·rw [if_neg q] at hs
   obtain ⟨h',q1,q2⟩:=I.way s i (by rw [List.getD_eq_getElem?_getD]; exact hs)
   exact ⟨h',q1,q2.mono grow⟩
theorem layT_all {mask:Nat} (hm:qcz mask) (all:List Int):∀ (hs:List Int) (owner:Array (Option Nat)) (k:Nat),(∀ h∈hs,CovH h)→LayT mask owner all k→k + hs.length≤mask→(∀ i,hs[i]? = all[k + i]?∨hs.length≤i) →
  ∃ ow,hs.foldl (fun acc h=>(do
   let (owner,k) ← acc
   let j ← SetTable.layClean.free mask owner (SetTable.turns mask) (SetTable.bits h % (mask + 1)) (SetTable.bits h)
   pure (owner.setIfInBounds j (some k),k + 1):Option (Array (Option Nat)×Nat))) (some (owner,k))=some (ow,k + hs.length)∧LayT mask ow all (k + hs.length)
 | [],owner,k,_,I,_,_=>⟨owner,rfl,I⟩
 | h :: hs,owner,k,hh,I,hl,hat=>by
  simp only [List.length_cons] at hl
  have h0:all[k]? = some h:=by
   rcases hat 0 with q | q
   ·rw [Nat.add_zero] at q; rw [← q]; rfl
   ·simp at q
  obtain ⟨j,e,I'⟩:=layT_step hm (hh h (.head _)) I (by omega) h0
  obtain ⟨ow,e',I''⟩:=layT_all hm all hs _ (k + 1) (fun h x=>hh h (.tail _ x)) I' (by omega) fun i=>by
   rcases hat (i + 1) with q | q
   ·left; rw [show k + 1 + i=k + (i + 1) by omega,← q]; rfl
   ·right; simpa using q
  refine ⟨ow,?_,by rw [List.length_cons,show k + (hs.length + 1)=k + 1 + hs.length by omega]; exact I''⟩
  rw [List.foldl_cons,List.length_cons,show k + (hs.length + 1)=k + 1 + hs.length by omega,← e']
  congr 1
  show (do let j ← SetTable.layClean.free mask owner (SetTable.turns mask) (SetTable.bits h % (mask + 1)) (SetTable.bits h); pure (owner.setIfInBounds j (some k),k + 1):Option (Array (Option Nat)×Nat))=_
  rw [e]
  rfl
theorem layT_clean {mask:Nat} (hm:qcz mask) (hs:Array Int) (hh:∀ h∈hs.toList,CovH h) (hl:hs.toList.length≤mask) :
  ∃ ow,SetTable.layClean mask hs=some ow∧LayT mask ow hs.toList hs.toList.length:=by
 obtain ⟨ow,e,I⟩:=layT_all hm hs.toList hs.toList (Array.replicate (mask + 1) none) 0 hh ⟨⟨by simp,by simp⟩,fun j i h=>by
  rw [Array.toList_replicate,List.getD_eq_getElem?_getD,List.getElem?_replicate] at h
  split at h <;> cases h⟩ (by omega) fun i=>.inl (by rw [Nat.zero_add])
 rw [Nat.zero_add] at e I
 refine ⟨ow,?_,I⟩
 unfold SetTable.layClean
 rw [← Array.foldl_toList]
 exact congrArg (Option.map (fun x:Array (Option Nat)×Nat=>x.1)) e
theorem relayT {t:SetTable} {es:Array (Int×Value)} (hh:∀ e∈es.toList,CovH e.1) (hm:es.size=5∨es.size=19) :
  ∃ t2 order,t.relaid (es.map (·.1)) (SetTable.grown es.size)=some (t2,order)∧(order.filterMap (es[·]?)).size=es.size∧TblT t2 (order.filterMap (es[·]?))∧t2.led=t.led∧(order.filterMap (es[·]?)).toList.Perm es.toList:=by
 have hw:∃ m,SetTable.sizeAbove (SetTable.grown es.size) - 1=m∧((m=31∧es.size=5)∨(m=127∧es.size=19)):=by
  rcases hm with e | e
  ·rw [e]; exact ⟨31,by decide,.inl ⟨rfl,rfl⟩⟩
  ·rw [e]; exact ⟨127,by decide,.inr ⟨rfl,rfl⟩⟩
 obtain ⟨m,ew,hq⟩:=hw
 have hs:(es.map (·.1)).toList=es.toList.map (·.1):=by simp
 have hok:qcz m:=by unfold qcz; omega
 have hcv:∀ h∈(es.map (·.1)).toList,CovH h:=fun h hx=>by
  rw [hs,List.mem_map] at hx
  obtain ⟨y,hy,rfl⟩:=hx
  exact hh y hy
 have hln:(es.map (·.1)).toList.length≤m:=by rw [hs,List.length_map,Array.length_toList]; omega
 obtain ⟨ow,e,⟨h1,h2⟩,hway⟩:=layT_clean hok (es.map (·.1)) hcv hln
 rw [hs,List.length_map,Array.length_toList] at h2
 let live:List (Nat×Nat):=(List.range (m + 1)).filterMap fun j=>(ow.getD j none).map (j,·)
 have hlive:∀ q:Nat×Nat,q∈live↔q.1≤m∧ow.toList.getD q.1 none=some q.2:=fun q=>by
  simp only [live,List.mem_filterMap,List.mem_range]
  constructor
  ·rintro ⟨c,hc,e⟩
   cases ha:ow.getD c none <;> rw [ha] at e <;> simp at e
   subst e
   exact ⟨by show c≤m; omega,by rw [← qbU]; exact ha⟩
  ·rintro ⟨h1,h2⟩
   exact ⟨q.1,by omega,by rw [qbU,h2]; rfl⟩
 have hord:(live.map (·.2)).Perm (List.range es.size):=by
  have:live.map (·.2)=ow.toList.filterMap id:=by
   simp only [live]
   rw [← qev,h1,List.map_filterMap]
   congr 1
   funext j
   rw [qbU]
   cases ow.toList.getD j none <;> rfl
  rw [this]; exact h2
 have hup:Up (live.map (·.1)):=by
  show List.Pairwise _ _
  rw [List.pairwise_map]
  refine List.Pairwise.filterMap _ (fun a a' hlt b hb b' hb'=>?_) List.pairwise_lt_range
  cases ha:ow.getD a none <;> rw [ha] at hb <;> simp at hb
  cases ha':ow.getD a' none <;> rw [ha'] at hb' <;> simp at hb'
  rw [← hb,← hb']
  exact hlt
 have hlen:live.length=es.size:=by
  have:=hord.length_eq
  simpa using this
 have hes:(((live.map (·.2)).toArray).filterMap (es[·]?)).toList.Perm es.toList:=by
  rw [Array.toList_filterMap]
  exact (hord.filterMap _).trans (by rw [filterMap_getElem?_range])
 have hes2:(((live.map (·.2)).toArray).filterMap (es[·]?)).size=es.size:=by
  rw [← Array.length_toList,hes.length_eq,Array.length_toList]
 have hlt:∀ q∈live,q.2 < es.size:=fun q hq=>List.mem_range.mp (hord.mem_iff.mp (List.mem_map.mpr ⟨q,hq,rfl⟩))
 have hfm:∀ (l:List (Nat×Nat)),(∀ q∈l,q.2 < es.size)→(l.map (·.2)).filterMap (es[·]?)=l.map fun q=>es.toList.getD q.2 (0,.none):=by
  intro l
  induction l with
  | nil=>intro _; rfl
  | cons q l ih =>
   intro hq
   have hq0:q.2 < es.size:=hq q (.head _)
   rw [List.map_cons,List.filterMap_cons,List.map_cons,ih fun y hy=>hq y (.tail _ hy)]
   have:es[q.2]? = some (es.toList.getD q.2 (0,.none)):=by
    rw [← Array.getElem?_toList,List.getD_eq_getElem?_getD,List.getElem?_eq_getElem (by simpa using hq0)]
    rfl
   rw [this]
 refine ⟨{ mask:=m,place:=(live.map (·.1)).toArray,dummies:=#[],finger:=t.finger,led:=t.led,moves:=t.movedTo m,plain:=t.plain },(live.map (·.2)).toArray,?_,hes2,⟨?_,?_,?_,rfl,?_,?_⟩,rfl,hes⟩
 ·unfold SetTable.relaid SetTable.laid
  rw [ew,e]
  rfl
 ·show ((live.map (·.1)).toArray).size=_
  rw [hes2,List.size_toArray,List.length_map,hlen]
 ·exact hup
 ·intro j hj
  have hj:j∈live.map (·.1):=hj
  obtain ⟨q,hq,rfl⟩:=List.mem_map.mp hj
  exact ((hlive q).mp hq).1
 ·rw [hes2]
  exact .inr (by show (m=31∧_)∨(m=127∧_); omega)
 ·intro q hq
  have hq:q∈(live.map (·.1)).zip (((live.map (·.2)).toArray).filterMap (es[·]?)).toList:=hq
  rw [Array.toList_filterMap] at hq
  have hq:q∈(live.map (·.1)).zip ((live.map (·.2)).filterMap (es[·]?)):=hq
  rw [hfm live hlt,List.zip_map',List.mem_map] at hq
  obtain ⟨⟨j,i⟩,hji,rfl⟩:=hq
  obtain ⟨hjm,hjo⟩:=(hlive (j,i)).mp hji
  obtain ⟨h,hi,hr⟩:=hway j i hjo
  have hil:=hlt (j,i) hji
  have:h=(es.toList.getD i (0,.none)).1:=by
   rw [hs,List.getElem?_map,List.getElem?_eq_getElem (by simpa using hil)] at hi
   rw [List.getD_eq_getElem?_getD,List.getElem?_eq_getElem (by simpa using hil)]
   simpa using hi.symm
  subst this
  obtain ⟨n,hn,ej,hl⟩:=hr
  refine ⟨n,hn,ej,fun k hk=>?_⟩
  have hle:=atP_le m (es.toList.getD i (0,.none)).1 k
  have:=(own_le (k:=es.size) ⟨h1,h2⟩ hle).mp (hl k hk)
  show atP m _ k∈live.map (·.1)
  cases ho:ow.toList.getD (atP m (es.toList.getD i (0,.none)).1 k) none with
  | none=>exact absurd ho this
  | some i'=>exact List.mem_map.mpr ⟨(_,i'),(hlive (_,i')).mpr ⟨hle,ho⟩,rfl⟩
end L2
namespace L2
open PySem PySem.Spec PyProof.Rows
def hT (ks:List Int):Int:=reduceHash (Builtin.Tuple.tupleHashOf (ks.map hashInt))
def PrU (ks:List Int):Prop:=∃ i j:Nat,i < 8∧j < 8∧ks=[(i:Int),(j:Int)]
def hP (n:Nat):Int:=hT [((n / 8:Nat):Int),((n % 8:Nat):Int)]
def okH (h:Int):Bool:=([7,31,127].all fun m=>cov m (10 * (m + 15)) (SetTable.bits h % (m + 1)) (SetTable.runEnd m (SetTable.bits h % (m + 1)) - SetTable.bits h % (m + 1)) (SetTable.bits h % (m + 1)) (SetTable.bits h) 0) && [31,127].all fun m=>covR m (m + 15) (SetTable.bits h % (m + 1)) (SetTable.bits h) 0
theorem all_okH:((List.range 64).all fun n=>okH (hP n))=true:=by decide +kernel
def eqZ (a b:Int):Bool:=match a,b with
 | .ofNat x,.ofNat y=>Nat.beq x y
 | .negSucc x,.negSucc y=>Nat.beq x y
 | _,_=>false
def noEq (l:List Int):Bool:=match l with
 | []=>true
 | x :: r=>r.all (fun y=>!eqZ x y) && noEq r
theorem eqZ_self (a:Int):eqZ a a=true:=by cases a <;> exact Nat.beq_refl _
theorem all_apart:noEq ((List.range 64).map hP)=true:=by decide +kernel
theorem noEq_inj:∀ {l:List Int},noEq l=true→∀ {i k:Nat} {x:Int},l[i]? = some x→l[k]? = some x→i=k
 | [],_,i,k,x,h,_=>by simp at h
 | y :: r,h,i,k,x,h1,h2=>by
  unfold noEq at h
  rw [Bool.and_eq_true,List.all_eq_true] at h
  cases i with
  | zero =>
   cases k with
   | zero=>rfl
   | succ k =>
    have e:y=x:=by simpa using h1
    have:=h.1 x (List.mem_of_getElem? (by simpa using h2))
    rw [e,eqZ_self] at this
    cases this
  | succ i =>
   cases k with
   | zero =>
    have e:y=x:=by simpa using h2
    have:=h.1 x (List.mem_of_getElem? (by simpa using h1))
    rw [e,eqZ_self] at this
    cases this
   | succ k=>rw [noEq_inj h.2 (i:=i) (k:=k) (by simpa using h1) (by simpa using h2)]
theorem PrU.num {ks:List Int} (h:PrU ks):∃ n,n < 64∧ks=[((n / 8:Nat):Int),((n % 8:Nat):Int)]:=by
 obtain ⟨i,j,hi,hj,rfl⟩:=h
 refine ⟨8 * i + j,by omega,?_⟩
 rw [show (8 * i + j) / 8=i by omega,show (8 * i + j) % 8=j by omega]
theorem PrU.cov {ks:List Int} (h:PrU ks):CovH (hT ks):=by
 obtain ⟨n,hn,rfl⟩:=h.num
 have:=List.all_eq_true.mp all_okH n (List.mem_range.mpr hn)
 unfold okH at this
 rw [Bool.and_eq_true,List.all_eq_true,List.all_eq_true] at this
 refine ⟨fun m hm=>this.1 m ?_,fun m hm=>this.2 m ?_⟩
 ·rcases hm with rfl | rfl | rfl <;> decide
 ·rcases hm with rfl | rfl <;> decide
theorem PrU.inj {a b:List Int} (ha:PrU a) (hb:PrU b) (h:hT a=hT b):a=b:=by
 obtain ⟨n,hn,rfl⟩:=ha.num
 obtain ⟨k,hk,rfl⟩:=hb.num
 have h1:((List.range 64).map hP)[n]? = some (hP n):=by rw [List.getElem?_map,List.getElem?_range hn]; rfl
 have h2:((List.range 64).map hP)[k]? = some (hP n):=by
  rw [List.getElem?_map,List.getElem?_range hk]
  exact congrArg some h.symm
 rw [noEq_inj all_apart h1 h2]
section
variable {prog:Program} {w:World} {A:Around} {E:Value→Shared→Prop} {s:Shared}
theorem tup_two {h:Heap} {ks:List Int} {x:Addr} (hu:PrU ks) (hx:IsTupleKey (intKind prog w) h ks x):∃ o a b n,h.get? x=some o∧o.cls=.type "tuple"∧o.data=.seq #[a,b] n∧(∃ i t,a=.int i t)∧∃ i t,b=.int i t:=by
 obtain ⟨i,j,_,_,rfl⟩:=hu
 obtain ⟨o,items,n,h1,h2,h3,h4⟩:=hx
 cases hi:items.toList with
 | nil=>rw [hi] at h4; cases h4
 | cons a r =>
  rw [hi] at h4
  cases h4 with
  | cons q1 q2 =>
   cases r with
   | nil=>cases q2
   | cons b r2 =>
    cases q2 with
    | cons q3 q4 =>
     cases q4
     refine ⟨o,a,b,n,h1,h2,?_,?_,?_⟩
     ·rw [h3]; congr 1
      apply Array.toList_inj.mp
      rw [hi]
     ·obtain ⟨t,e⟩:=Value.isInt_shape q1; exact ⟨_,t,e⟩
     ·obtain ⟨t,e⟩:=Value.isInt_shape q3; exact ⟨_,t,e⟩
theorem by_val {ks:List Int} {x:Addr} {Q:Bool→Shared→Prop} (hu:PrU ks) (hx:IsTupleKey (intKind prog w) s.heap ks x) (h:∀ b,Q b s):wpAny (model prog w) A (hashByValue 8 (.ref x)) Q E s:=by
 obtain ⟨o,a,b,n,h1,h2,h3,⟨i,t,rfl⟩,j,u,rfl⟩:=tup_two hu hx
 rw [hashByValue.eq_12]
 refine wpAny_bind (wpAny_specialOf (T:="tuple") ⟨o,h1,h2⟩ F.slot_tuple_hash.lookup ?_)
 dsimp only
 refine wpAny_bind (wpAny_seqItems h1 h3 ?_)
 dsimp only [Option.getD]
 refine wpAny_bind ?_
 rw [← Array.forIn_toList]
 simp only [List.forIn_cons,List.forIn_nil]
 simp only [hashByValue_scannable 7 (x:=.int i t) rfl,hashByValue_scannable 7 (x:=.int j u) rfl,plainKind]
 refine wpAny_bind (wpAny_bind (wpAny_pure ?_))
 refine wpAny_pure ?_
 refine wpAny_bind (wpAny_bind (wpAny_pure ?_))
 refine wpAny_pure ?_
 exact wpAny_pure (wpAny_pure (h _))
theorem no_cls {ks:List Int} {x:Addr} {Q:Bool→Shared→Prop} (hu:PrU ks) (hx:IsTupleKey (intKind prog w) s.heap ks x) (h:Q false s):wpAny (model prog w) A (ofAClassStatement 8 (.ref x)) Q E s:=by
 obtain ⟨o,a,b,n,h1,h2,h3,⟨i,t,rfl⟩,j,u,rfl⟩:=tup_two hu hx
 rw [ofAClassStatement.eq_def]
 dsimp only
 refine wpAny_bind (wpAny_typeOf_ref h1 ?_)
 rw [h2]
 dsimp only
 simp only [beq_self_eq_true,if_true]
 refine wpAny_bind (wpAny_pure ?_)
 simp only [Bool.not_true,Bool.false_eq_true,if_false]
 refine wpAny_bind (wpAny_seqItems h1 h3 ?_)
 dsimp only
 refine wpAny_bind ?_
 rw [← Array.forIn_toList]
 simp only [List.forIn_cons,List.forIn_nil]
 have e1:ofAClassStatement 7 (.int i t)=pure false:=by rw [ofAClassStatement.eq_def]
 have e2:ofAClassStatement 7 (.int j u)=pure false:=by rw [ofAClassStatement.eq_def]
 rw [e1]
 refine wpAny_bind (wpAny_bind (wpAny_pure ?_))
 refine wpAny_pure ?_
 dsimp only
 rw [e2]
 refine wpAny_bind (wpAny_bind (wpAny_pure ?_))
 refine wpAny_pure ?_
 exact wpAny_pure (wpAny_pure h)
theorem not_seen {ks:List Int} {x:Addr} {Q:Bool→Shared→Prop} (hu:PrU ks) (hx:IsTupleKey (intKind prog w) s.heap ks x) (l:List Value) (hl:∀ v∈l,∃ k y,v=.ref y∧PrU k∧IsTupleKey (intKind prog w) s.heap k y) (h:Q false s):wpAny (model prog w) A (searchCouldBeSeen (.ref x) l) Q E s:=by
 unfold searchCouldBeSeen
 refine wpAny_bind ?_
 have go:∀ (l:List Value),(∀ v∈l,∃ k y,v=.ref y∧PrU k∧IsTupleKey (intKind prog w) s.heap k y)→∀ {R:Option Bool×Unit→Shared→Prop},R (none,()) s→wpAny (model prog w) A (forIn l (none,()) fun y __s =>
    have __r:=__s;
    have very :=
     match (Value.ref x),y with
     | Value.ref a,Value.ref b=>a == b
     | x,x_1=>false;
    if (very || carriedByValue (.ref x) && carriedByValue y)=true then pure (ForInStep.yield (none,()))
    else do
     let __do_lift ← eqIsQuiet 8 (.ref x)
     if (!__do_lift)=true then pure (ForInStep.done (some true,()))
      else do
       let __do_lift ← eqIsQuiet 8 y
       if (!__do_lift)=true then pure (ForInStep.done (some true,()))
        else do
         let __do_lift ← ofAClassStatement 8 (.ref x)
         if __do_lift=true then pure (ForInStep.done (some true,()))
          else do
           let __do_lift ← ofAClassStatement 8 y
           if __do_lift=true then pure (ForInStep.done (some true,()))
            else pure (ForInStep.yield (none,()))) R E s:=by
  intro l
  induction l with
  | nil=>intro _ R hR; exact wpAny_pure hR
  | cons v l ih =>
   intro hl R hR
   obtain ⟨k,y,rfl,ku,hy⟩:=hl _ (.head _)
   have ih:=ih (fun v hv=>hl v (.tail _ hv)) (R:=R)
   rw [List.forIn_cons]
   refine wpAny_bind ?_
   dsimp only
   by_cases q:(x == y || carriedByValue (.ref x) && carriedByValue (.ref y))=true
   ·rw [if_pos q]
    exact wpAny_pure (ih hR)
   ·rw [if_neg q]
    refine wpAny_bind ((tupleKind (intKind prog w)).quiet hx ?_)
    simp only [Bool.not_true,Bool.false_eq_true,if_false]
    refine wpAny_bind ((tupleKind (intKind prog w)).quiet hy ?_)
    simp only [Bool.not_true,Bool.false_eq_true,if_false]
    refine wpAny_bind (no_cls hu hx ?_)
    simp only [Bool.false_eq_true,if_false]
    refine wpAny_bind (no_cls ku hy ?_)
    simp only [Bool.false_eq_true,if_false]
    exact wpAny_pure (ih hR)
 exact go l hl (wpAny_pure h)
end
end L2
namespace L2
open PySem PySem.Spec PyProof.Rows
def qdZ (ks:List (List Int)) (k:List Int):List (List Int):=if k∈ks then ks else ks ++ [k]
abbrev entT (q:List Int×Addr):Int×Value:=(hT q.1,.ref q.2)
def SetPr (P:Program) (w:World) (Y:Addr→Prop) (h:Heap) (a:Addr) (ks:List (List Int)):Prop:=∃ o es ep t,∃ L:List (List Int×Addr),h.get? a=some o∧o.ExactSet∧o.data=.set es ep t∧TblT t es∧es.toList=L.map entT∧(∀ q∈L,PrU q.1∧IsTupleKey (intKind P w) h q.1 q.2)∧(L.map (·.1)).Perm ks∧∀ q∈L,Y q.2
theorem perm_of_map {α β:Type} {f:α→β}:∀ {l:List β} {r:List α},l.Perm (r.map f)→∃ l2:List α,l=l2.map f∧l2.Perm r:=by
 intro l r h
 generalize hm:r.map f=m at h
 induction h generalizing r with
 | nil =>
  cases r with
  | nil=>exact ⟨[],rfl,.refl _⟩
  | cons a r=>cases hm
 | cons x _ ih =>
  cases r with
  | nil=>cases hm
  | cons a r =>
   rw [List.map_cons] at hm
   injection hm with h1 h2
   obtain ⟨l2,e,p⟩:=ih h2
   exact ⟨a :: l2,by rw [List.map_cons,h1,e],p.cons a⟩
 | swap x y l =>
  cases r with
  | nil=>cases hm
  | cons a r =>
   cases r with
   | nil=>simp at hm
   | cons b r =>
    simp only [List.map_cons] at hm
    injection hm with h1 h2
    injection h2 with h3 h4
    exact ⟨b :: a :: r,by simp only [List.map_cons]; rw [h1,h3,h4],.swap a b r⟩
 | trans _ _ ih1 ih2 =>
  obtain ⟨l2,e,p⟩:=ih2 hm
  obtain ⟨l3,e3,p3⟩:=ih1 e.symm
  exact ⟨l3,e3,p3.trans p⟩
section
variable {prog:Program} {w:World} {A:Around} {E:Value→Shared→Prop} {s:Shared}
theorem key_but {h h':Heap} {a x:Addr} {k:List Int} {o:Obj} {es:Array (Int×Value)} {ep:Nat} {t:SetTable} (hx:IsTupleKey (intKind prog w) h k x) (ho:h.get? a=some o) (hd:o.data=.set es ep t) (sb:Heap.SameBut a h h'):IsTupleKey (intKind prog w) h' k x:=by
 obtain ⟨o',items,n,h1,h2,h3,h4⟩:=hx
 have hne:x≠a:=fun e=>by
  subst e
  rw [ho] at h1
  cases h1
  rw [hd] at h3
  cases h3
 exact ⟨o',items,n,by rw [sb.2 x hne]; exact h1,h2,h3,h4⟩
theorem gave_no {t:SetTable} {es:Array (Int×Value)} (I:TblT t es):t.gaveWay=false:=by
 unfold SetTable.gaveWay
 rcases I.ok with e | e | e <;> rw [e] <;> rfl
theorem find_key {ks:List (List Int)} {es:Array (Int×Value)} {L:List (List Int×Addr)} {k:List Int} {i:Nat} {e:Int×Value} (hL:es.toList=L.map entT) (hu:∀ q∈L,PrU q.1∧IsTupleKey (intKind prog w) s.heap q.1 q.2) (hk:PrU k) (h1:es[i]? = some e) (h2:e.1=hT k) :
  ∃ y,e=(hT k,.ref y)∧IsTupleKey (intKind prog w) s.heap k y∧k∈L.map (·.1):=by
 have:e∈L.map entT:=by rw [← hL]; exact List.mem_of_getElem? (by rw [Array.getElem?_toList]; exact h1)
 obtain ⟨q,hq,rfl⟩:=List.mem_map.mp this
 have e1:=(hu q hq).1.inj hk h2
 refine ⟨q.2,?_,?_,?_⟩
 ·show (hT q.1,_)=_; rw [e1]
 ·rw [← e1]; exact (hu q hq).2
 ·rw [← e1]; exact List.mem_map.mpr ⟨q,hq,rfl⟩
theorem set_addP {Y:Addr→Prop} {a x:Addr} {ks:List (List Int)} {k:List Int} {Q:Bool→Shared→Prop} (hr:A.units < cLine) (hk:PrU k) (hx:IsTupleKey (intKind prog w) s.heap k x) (hY:Y x) (hS:SetPr prog w Y s.heap a ks) (hn:ks.length < 64)
  (h:∀ b h',Heap.SameBut a s.heap h'→SetPr prog w Y h' a (qdZ ks k)→Q b { s with heap:=h' }):wpAny (model prog w) A (setAddHashed a (.ref x) (hT k)) Q E s:=by
 have hS0:=hS
 obtain ⟨o,es,ep,t,L,ho,hex,hd,I,hL,hu,hp,hyL⟩:=hS
 have hsz:es.size=ks.length:=by
  have:=congrArg List.length hL
  rw [List.length_map,Array.length_toList] at this
  rw [this,← hp.length_eq,List.length_map]
 unfold setAddHashed setAddHashedIn
 refine wpAny_holding (wpAny_bind (wpAny_setState_of ho hd I.fits ?_))
 dsimp only
 rw [show byScan (.ref x) es=false from rfl]
 simp only [Bool.false_eq_true,if_false]
 refine wpAny_bind ?_
 unfold setSearch setSearchFrom
 refine wpAny_bind (wpAny_setState_of ho hd I.fits ?_)
 dsimp only
 rw [gave_no I]
 simp only [Bool.false_eq_true,if_false]
 by_cases hk2:k∈ks
 ·have hkL:k∈L.map (·.1):=hp.mem_iff.mpr hk2
  obtain ⟨q,hq,rfl⟩:=List.mem_map.mp hkL
  have he:entT q∈es.toList:=by rw [hL]; exact List.mem_map.mpr ⟨q,hq,rfl⟩
  obtain ⟨j,i,next,e',hpr,h1,h2⟩:=find_there I he
  obtain ⟨y,rfl,hy,_⟩:=find_key (ks:=ks) hL hu hk h1 h2
  have hst:qdZ ks q.1=ks:=by unfold qdZ; rw [if_pos hk2]
  rw [hst] at h
  have fin:∀ (still:Unit),Q false s:=fun _=>h false s.heap (Heap.SameBut.refl a s.heap) hS0
  split
  ·rename_i met heq
   have hm:met=.candidate j i next:=by
    have:=heq.symm.trans hpr
    cases this; rfl
   subst hm
   dsimp only
   simp only [h1]
   have tail:∀ {R:SetFound→Shared→Prop} {F:Bool→(Array (Int×Value)×Nat×SetTable)→Sem SetFound},R (.there none) s→wpAny (model prog w) A (do
     let equal ← holding [Value.ref y] (eqBool (.ref y) (.ref x))
     let z ← setState a
     if (true && equal)=true then pure (SetFound.there none) else F equal z) R E s:=fun {R F} hR=>by
    refine wpAny_bind (wpAny_holding ((tupleKind (intKind prog w)).eqBool hr hy hx ?_))
    refine wpAny_bind (wpAny_setState_of ho hd I.fits ?_)
    rw [if_pos (by simp)]
    exact wpAny_pure hR
   cases hl:t.led with
   | false =>
    simp only [Bool.not_false,if_true]
    refine wpAny_bind (not_seen hk hx _ (fun v hv=>?_) ?_)
    ·obtain ⟨e,he,rfl⟩:=List.mem_map.mp hv
     have he:e∈es.toList:=by
      have:=Array.mem_filter.mp (Array.mem_toList_iff.mp he)
      exact Array.mem_toList_iff.mpr this.1
     rw [hL] at he
     obtain ⟨q',hq',rfl⟩:=List.mem_map.mp he
     exact ⟨q'.1,q'.2,rfl,hu q' hq'⟩
    ·simp only [Bool.false_eq_true,if_false]
     exact tail (wpAny_pure (fin ()))
   | true =>
    simp only [Bool.not_true,Bool.false_eq_true,if_false]
    exact tail (wpAny_pure (fin ()))
  ·rename_i hne
   exact absurd hpr (hne _)
 ·have hno:∀ e∈es.toList,e.1≠hT k:=fun e he z=>by
   rw [hL] at he
   obtain ⟨q,hq,rfl⟩:=List.mem_map.mp he
   have:=(hu q hq).1.inj hk z
   exact hk2 (hp.mem_iff.mp (List.mem_map.mpr ⟨q,hq,this⟩))
  obtain ⟨j,hpr,hj,hjm,hre⟩:=find_free I hk.cov hno
  have hst:qdZ ks k=ks ++ [k]:=by unfold qdZ; rw [if_neg hk2]
  rw [hst] at h
  split
  ·rename_i met heq
   have hm:met=.empty j none:=by
    have:=heq.symm.trans hpr
    cases this; rfl
   subst hm
   dsimp only
   refine wpAny_pure ?_
   dsimp only
   refine wpAny_bind (wpAny_setState_of ho hd I.fits ?_)
   dsimp only
   obtain ⟨p1,p2,p3,p4,p5,p6⟩:=put_ok I (x:=.ref x) hj hjm hre
   have tailT:∀ t1:SetTable,t1.mask=t.mask→t1.place=(t.put j).1.place→t1.dummies=(t.put j).1.dummies→wpAny (model prog w) A (do
     storeSet a (SetTable.insertAt es (t.put j).snd (hT k,Value.ref x)) t1
     if (!false && t1.tooFull)=true then do
      setRelay a (SetTable.grown (es.size + 1))
      pure true
     else pure true) Q E s:=fun t1 m1 m2 m3=>by
    have hsn:(t.put j).snd=SetTable.below t.place j:=rfl
    rw [hsn]
    generalize hes1:SetTable.insertAt es (SetTable.below t.place j) (hT k,Value.ref x)=es1 at p1 p6
    rw [← m2,← m1] at p6
    rw [← m2] at p2 p3 p4
    rw [← m1] at p4
    rw [← m3] at p5
    have hL1:es1.toList=(L.take (SetTable.below t.place j) ++ (k,x) :: L.drop (SetTable.below t.place j)).map entT:=by
     rw [← hes1,SetTable.toList_insertAt,hL,List.map_append,List.map_cons,List.map_take,List.map_drop]
    have hP1:((L.take (SetTable.below t.place j) ++ (k,x) :: L.drop (SetTable.below t.place j)).map (·.1)).Perm (ks ++ [k]):=by
     refine ((List.perm_middle (a:=(k,x)) (l₁:=L.take (SetTable.below t.place j)) (l₂:=L.drop (SetTable.below t.place j))).map (·.1)).trans ?_
     rw [List.take_append_drop,List.map_cons]
     exact (hp.cons k).trans (List.perm_append_singleton k ks).symm
    have hu1:∀ q∈(L.take (SetTable.below t.place j) ++ (k,x) :: L.drop (SetTable.below t.place j)),PrU q.1∧IsTupleKey (intKind prog w) s.heap q.1 q.2:=fun q hq=>by
     rw [List.mem_append,List.mem_cons] at hq
     rcases hq with q1 | rfl | q1
     ·exact hu q (List.mem_of_mem_take q1)
     ·exact ⟨hk,hx⟩
     ·exact hu q (List.mem_of_mem_drop q1)
    have hY1:∀ q∈(L.take (SetTable.below t.place j) ++ (k,x) :: L.drop (SetTable.below t.place j)),Y q.2:=fun q hq=>by
     rw [List.mem_append,List.mem_cons] at hq
     rcases hq with q1 | rfl | q1
     ·exact hyL q (List.mem_of_mem_take q1)
     ·exact hY
     ·exact hyL q (List.mem_of_mem_drop q1)
    generalize L.take (SetTable.below t.place j) ++ (k,x) :: L.drop (SetTable.below t.place j)=L1 at hL1 hP1 hu1 hY1
    have hM:=I.mask
    have hz0:(#[]:Array Nat).size=0:=rfl
    have hfit:t1.fits es1.size=true:=by
     simp only [SetTable.fits,SetTable.fill,p2,p5,p1,hz0,m1,Bool.and_eq_true,beq_self_eq_true,true_and,decide_eq_true_eq]
     omega
    have sl:100 < sizeLine:=by decide
    refine wpAny_bind (wpAny_storeSet_of ho hd ?_ (by omega))
    have ho1:=put_at (es':=es1) (t':=t1) ho hd
    have hsb:=Heap.SameBut.update s.heap a (Obj.putSet es1 t1)
    have hk1:∀ q∈L1,PrU q.1∧IsTupleKey (intKind prog w) (s.heap.update a (Obj.putSet es1 t1)) q.1 q.2:=fun q hq=>⟨(hu1 q hq).1,key_but (hu1 q hq).2 ho hd hsb⟩
    cases hf:t1.tooFull with
    | false =>
     simp only [Bool.not_false,Bool.and_false,Bool.false_eq_true,if_false]
     have hf2:((t1.mask=7∧es1.size≤4)∨(t1.mask=31∧es1.size≤18)∨(t1.mask=127∧es1.size≤76)):=by
      simp only [SetTable.tooFull,SetTable.fill,p2,p5,hz0,m1,decide_eq_false_iff_not] at hf
      rw [m1]
      omega
     exact wpAny_pure (h true _ hsb ⟨_,es1,ep + 1,t1,L1,ho1,hex,rfl,⟨by rw [p2,p1],p3,p4,p5,hf2,p6⟩,hL1,hk1,hP1,hY1⟩)
    | true =>
     simp only [Bool.not_false,Bool.and_self,if_true]
     have hf2:es1.size=5∨es1.size=19:=by
      simp only [SetTable.tooFull,SetTable.fill,p2,p5,hz0,m1,decide_eq_true_eq] at hf
      omega
     have hcv:∀ e∈es1.toList,CovH e.1:=fun e he=>by
      rw [hL1] at he
      obtain ⟨q,hq,rfl⟩:=List.mem_map.mp he
      exact (hu1 q hq).1.cov
     obtain ⟨t2,order,r1,r2,r3,r4,r5⟩:=relayT (t:=t1) hcv hf2
     generalize hes2:order.filterMap (es1[·]?)=es2 at r2 r3 r5
     refine wpAny_bind ?_
     unfold setRelay
     refine wpAny_bind (wpAny_setState_of ho1 rfl hfit ?_)
     dsimp only
     have hw:¬ SetTable.sizeAbove (SetTable.grown (es.size + 1)) > sizeLine:=by
      rw [← p1]
      rcases hf2 with e | e <;> rw [e] <;> decide
     rw [if_neg hw,← p1,r1]
     refine wpAny_bind (wpAny_of_eq (show _=pure (es2,t2) from ?_) ?_)
     ·show (if ((order.filterMap (es1[·]?)).size != es1.size)=true then (do let _ ← unsupported "internal:set-table-lost-an-element"; pure (order.filterMap (es1[·]?),t2)) else pure (order.filterMap (es1[·]?),t2))=_
      rw [hes2,r2]
      simp
     ·dsimp only
      refine wpAny_storeSet_of ho1 rfl ?_ (by omega)
      have hsb2:=Heap.SameBut.update (s.heap.update a (Obj.putSet es1 t1)) a (Obj.putSet es2 t2)
      have hsb3:=hsb.trans hsb2
      have ho2:=put_at (es':=es2) (t':=t2) ho1 rfl
      obtain ⟨L2,hL2,hLp⟩:∃ L2:List (List Int×Addr),es2.toList=L2.map entT∧L2.Perm L1:=by
       rw [hL1] at r5
       exact perm_of_map r5
      refine wpAny_pure (h true _ hsb3 ⟨_,es2,ep + 1 + 1,t2,L2,ho2,hex,rfl,r3,hL2,fun q hq=>?_,(hLp.map _).trans hP1,fun q hq=>hY1 q (hLp.mem_iff.mp hq)⟩)
      have hq1:=hLp.mem_iff.mp hq
      exact ⟨(hu1 q hq1).1,key_but (hu1 q hq1).2 ho hd hsb3⟩
   have mk:(t.put j).1.mask=t.mask:=rfl
   by_cases hpl:(t.put j).fst.plain=true
   ·rw [if_pos hpl]
    refine wpAny_bind (by_val hk hx fun b=>?_)
    cases b with
    | true=>exact tailT _ rfl rfl rfl
    | false=>exact tailT _ rfl rfl rfl
   ·rw [if_neg hpl]
    refine wpAny_bind (wpAny_pure ?_)
    exact tailT _ rfl rfl rfl
  ·rename_i hne
   exact absurd hpr (hne _)
end
end L2
namespace L2
open PySem PySem.Spec PyProof.Rows
def qcx (xs:List (List Int)):List (List Int):=xs.foldl qdZ []
theorem foldP_take {xs:List (List Int)} {i:Nat} (h:i < xs.length):qcx (xs.take (i + 1))=qdZ (qcx (xs.take i)) xs[i]:=by
 unfold qcx
 rw [List.take_succ_eq_append_getElem h,List.foldl_append]
 rfl
theorem qg0:∀ (xs ns:List (List Int)),ns.length≤(xs.foldl qdZ ns).length
 | [],ns=>Nat.le_refl _
 | x :: xs,ns=>by
  have:=qg0 xs (qdZ ns x)
  have h:ns.length≤(qdZ ns x).length:=by unfold qdZ; split <;> simp
  rw [List.foldl_cons]; omega
theorem foldP_part (xs:List (List Int)) (i:Nat):(qcx (xs.take i)).length≤(qcx xs).length:=by
 have:qcx xs=(xs.drop i).foldl qdZ (qcx (xs.take i)):=by
  unfold qcx
  rw [← List.foldl_append,List.take_append_drop]
 rw [this]
 exact qg0 _ _
section
variable {prog:Program} {w:World} {A:Around} {s:Shared} {E:Value→Shared→Prop}
theorem IsTupleKey.at {h h':Heap} {k:List Int} {y:Addr} (x:IsTupleKey (intKind prog w) h k y) (e:∀ o,h.get? y=some o→h'.get? y=some o):IsTupleKey (intKind prog w) h' k y :=
 let ⟨o,it,n,h1,r⟩:=x; ⟨o,it,n,e o h1,r⟩
theorem SetPr.at {Y:Addr→Prop} {h h':Heap} {a:Addr} {ks:List (List Int)} (x:SetPr prog w Y h a ks) (k:∀ b,(b=a∨Y b)→∀ o,h.get? b=some o→h'.get? b=some o):SetPr prog w Y h' a ks :=
 let ⟨o,es,ep,t,L,ho,h1,h2,h3,h4,h5,h6,h7⟩:=x
 ⟨o,es,ep,t,L,k a (.inl rfl) o ho,h1,h2,h3,h4,fun q hq=>⟨(h5 q hq).1,IsTupleKey.at (h5 q hq).2 (k q.2 (.inr (h7 q hq)))⟩,h6,h7⟩
theorem set_loopP {R:Result→Shared→Prop} {I:Addr} {fp wr:List Addr} {G:Array GenState→Array GenState→Prop} {P:Nat→Value→Prop} {St:Nat→Shared→Prop} {xs:List (List Int)} {ys:List Addr} (hys:ys.length=xs.length)
  (W:WalksS prog w A.in1 I fp wr G xs.length P St) (S:Addr) (hSf:S∉fp) (hval:∀ (i:Nat) v,(hi:i < xs.length)→P i v→v=Value.ref (ys[i]'(by omega))) (hx:∀ x∈xs,PrU x) (hyw:∀ y∈ys,y≠S∧y∉wr) (h64:(qcx xs).length < 64) (hr:A.in1.units < cLine) :
  ∀ (k i:Nat) (s:Shared),xs.length - i=k→i≤xs.length→St i s→SetPr prog w (·∈ys) s.heap S (qcx (xs.take i))→(∀ j,(hj:j < xs.length)→IsTupleKey (intKind prog w) s.heap xs[j] (ys[j]'(by omega))) →
   (∀ s',Moved (S :: wr) G s s'→SetPr prog w (·∈ys) s'.heap S (qcx xs)→R (.ok (.ret .none)) s') →
   codeAny (model prog w) A (.builtin "set.update.loop" ⟨[.ref S,.ref I],[]⟩) R s:=by
 have hSw:S∉wr:=fun h=>hSf (W.sub _ h)
 have hup:∀ b∈wr,b∈S :: wr:=fun b hb=>.tail _ hb
 have hYw:∀ b,(b=S∨b∈ys)→b∉wr:=fun b hb=>hb.elim (fun e=>e ▸ hSw) fun m=>(hyw b m).2
 intro k
 induction k with
 | zero =>
  intro i s hk hi st hS hK hR
  cases (show i=xs.length by omega)
  refine codeAny_builtin F.entry_set_update_loop ?_
  rw [Around.under_plainId F.plain_set_update_loop _]
  show wpAny _ A.in1 (pyNext (.ref I) >>= _) _ _ s
  refine wpAny_bind (W.done s _ _ st fun s' hm=>?_)
  rw [List.take_length] at hS
  exact wpAny_pure (hR s' (hm.mono hup) (hS.at fun b hb o e=>hm.heap b _ (hYw b hb) e))
 | succ k ih =>
  intro i s hk hi st hS hK hR
  have hlt:i < xs.length:=by omega
  have hlt2:i < ys.length:=by omega
  refine codeAny_builtin F.entry_set_update_loop ?_
  rw [Around.under_plainId F.plain_set_update_loop _]
  show wpAny _ A.in1 (pyNext (.ref I) >>= _) _ _ s
  refine wpAny_bind (W.item i s _ _ hlt st fun v s' hP st' hm=>?_)
  cases hval i v hlt hP
  have hS':SetPr prog w (·∈ys) s'.heap S (qcx (xs.take i)):=hS.at fun b hb o e=>hm.heap b _ (hYw b hb) e
  have hK':∀ j,(hj:j < xs.length)→IsTupleKey (intKind prog w) s'.heap xs[j] (ys[j]'(by omega)):=fun j hj=>IsTupleKey.at (hK j hj) fun o e=>hm.heap _ _ ((hyw _ (List.getElem_mem (by omega))).2) e
  show wpAny _ A.in1 (holding [Value.ref ys[i]] (setAdd S (.ref ys[i])) >>= _) _ _ s'
  refine wpAny_bind (wpAny_holding ?_)
  unfold setAdd
  refine wpAny_holding (wpAny_bind ((tupleKind (intKind prog w)).pyHash (k:=xs[i]) hr (hK' i hlt) ?_))
  have hl:(qcx (xs.take i)).length < 64:=Nat.lt_of_le_of_lt (foldP_part xs i) h64
  refine set_addP (Y:=(·∈ys)) (s:={ s' with toks:=s'.toks + (tupleKind (intKind prog w)).draws xs[i] }) (k:=xs[i]) hr (hx _ (List.getElem_mem hlt)) (hK' i hlt) (List.getElem_mem hlt2) hS' hl fun b h' hsb hS2=>?_
  rw [← foldP_take hlt] at hS2
  refine wpAny_pure ⟨plainId_quiet F.plain_set_update_loop _,ih (i + 1) _ (by omega) hlt (W.frame _ s' _ _ st' (Nat.le_add_right _ _) fun b hb o e=>?_) hS2 (fun j hj=>?_) fun s'' hm'' hS''=>?_⟩
  ·rw [hsb.2 b (fun q:b=S=>hSf (q ▸ hb))]; exact e
  ·exact IsTupleKey.at (hK' j hj) fun o e=>by
    show h'.get? _=some o
    rw [hsb.2 _ (hyw _ (List.getElem_mem (by omega))).1]; exact e
  ·refine hR s'' (Moved.trans W.gtrans ((hm.mono hup).then_heap (Nat.le_add_right _ _) fun b o hb e=>?_) hm'') hS''
   rw [hsb.2 b (fun q:b=S=>hb (q ▸ .head _))]; exact e
theorem emptyPr (Y:Addr→Prop) {h:Heap} {a:Addr} (e:h.get? a=some (qaI w)):SetPr prog w Y h a [] :=
 ⟨_,#[],0,_,[],e,⟨rfl,rfl,rfl⟩,rfl,⟨rfl,.nil,fun j h=>by simp [SetTable.fresh] at h,rfl,.inl ⟨rfl,by simp⟩,fun q hq=>by simp [SetTable.fresh] at hq⟩,rfl,fun q hq=>(by cases hq),.refl _,fun q hq=>(by cases hq)⟩
set_option maxHeartbeats 3200000 in
theorem set_ofP {l:Addr} {items:Array Value} {xs:List (List Int)} {ys:List Addr} {Q:Value→Shared→Prop} (hys:ys.length=xs.length) (hh:A.handled=none) (hl:s.heap.IsList l items) (hi:items.toList=ys.map Value.ref) (hK:∀ j,(hj:j < xs.length)→IsTupleKey (intKind prog w) s.heap xs[j] (ys[j]'(by omega))) (hx:∀ x∈xs,PrU x) (h64:(qcx xs).length < 64) (hr:A.in1.in1.in1.units < cLine)
  (h:∀ (h':Heap) (tk:Nat),SetPr prog w (·∈ys) h' s.heap.objs.size (qcx xs)→(∀ b o,b < s.heap.objs.size→s.heap.get? b=some o→h'.get? b=some o)→Q (.ref s.heap.objs.size) { s with heap:=h',toks:=tk }) :
  wpAny (model prog w) A (call (.type "set") [.ref l]) Q E s:=by
 obtain ⟨c,tl,hmro⟩:=PySem.F.called_set.mro
 have hmade:=PySem.F.called_set.made
 have hsub:=PySem.F.called_set.sub
 refine wpAny_call (codeAny_of_tree (show wpAny _ _ (callAny (.type "set") _) _ _ _ from ?_))
 refine wpAny_pure ⟨Code.quiet_builtin _ (by decide +kernel),codeAny_builtin PySem.F.entry_type_call ?_⟩
 rw [Around.under_plain (weight_type_call_type "set" [.ref l] []) rfl]
 have h1:=PySem.F.called_set.notType
 have h2:=PySem.F.called_set.canCreate
 have hct:=PySem.F.typeCall_set_1 (.ref l)
 repeat any_goals (first | assumption | wp_step)
 refine codeAny_mono (qgf (.ref l) (E:=E) (Q₁:=fun obj s₁=>obj=.ref s.heap.objs.size∧s₁={ s with heap:=s.heap.push (qaI w) }) ⟨rfl,rfl⟩) fun r s₁ hr=>?_
 cases r with
 | error e=>exact hr
 | ok fl =>
  cases fl with
  | ret obj =>
   obtain ⟨rfl,rfl⟩:=hr
   have hS:(s.heap.push (qaI w)).get? s.heap.objs.size=some (qaI w):=Heap.get?_push_size _ rfl
   have hT:Shared.TypeIs { s with heap:=s.heap.push (qaI w) } (.ref s.heap.objs.size) "set":=⟨_,hS,rfl⟩
   have hli:=PySem.F.called_set.init.lookup
   have hbi:=PySem.F.called_set.init.bind (.ref s.heap.objs.size)
   repeat any_goals (first | assumption | wp_step)
   refine codeAny_mono (codeAny_call_builtin (R:=wants (fun r s₂=>r=.none∧∃ h' tk,s₂={ s with heap:=h',toks:=tk }∧SetPr prog w (·∈ys) h' s.heap.objs.size (qcx xs) ∧
     (∀ b o,b < s.heap.objs.size→s.heap.get? b=some o→h'.get? b=some o)) E) PySem.F.called_set.init.plain PySem.F.entry_set_init (check_set_init_1 hT ?_)) fun r₂ s₂ hr₂=>?_
   ·obtain ⟨ol,hol,hcl,nl,hdl⟩:=hl
    obtain ⟨ocls,odict,odata,oslots⟩:=ol
    simp only at hcl hdl
    subst hcl; subst hdl
    have hol':(s.heap.push (qaI w)).get? l=some { cls:=.type "list",dict:=odict,data:=.seq items nl,slots:=oslots }:=Heap.get?_push_of_some _ hol
    have hsls:=PySem.F.sub_list_set
    have hslf:=PySem.F.sub_list_frozenset
    have hne:(Value.type "list" == Value.type "dict")=false:=by decide
    have hl1:(s.heap.push (qaI w)).IsList l items:=⟨_,hol',rfl,nl,rfl⟩
    unfold qaI at hS hT hol' ⊢
    unfold Builtin.«set.__init__» noKeywords Builtin.Frozenset.updateFrom
    generalize hPI:pyIter=PI
    wp_walk
    subst hPI
    refine wpAny_pyIter_list hl1 (wpAny_bind (wpAny_runValue ?_))
    have hlS:l < s.heap.objs.size:=Heap.lt_size hol
    have hlen:items.size=xs.length:=by
     have:=congrArg List.length hi
     rw [List.length_map,Array.length_toList] at this
     omega
    have hneI:l≠(s.heap.push (qaI w)).objs.size:=by rw [Heap.size_push]; exact Nat.ne_of_lt (Nat.lt_succ_of_lt hlS)
    have hSf:s.heap.objs.size∉[(s.heap.push (qaI w)).objs.size,l]:=by
     rw [Heap.size_push]; simp only [List.mem_cons,List.not_mem_nil,or_false,not_or]; exact ⟨Nat.ne_of_lt (Nat.lt_succ_self _),Nat.ne_of_gt hlS⟩
    have W:=(Walks.list (prog:=prog) (w:=w) (A:=A.in1.in1.in1) (by simp [hh]) (s.heap.push (qaI w)).objs.size l hneI items).toS
    rw [hlen] at W
    have hyo:∀ y∈ys,∃ k,IsTupleKey (intKind prog w) s.heap k y:=fun y hy=>by
     obtain ⟨j,hj,rfl⟩:=List.getElem_of_mem hy
     exact ⟨_,hK j (by omega)⟩
    have hyl:∀ y∈ys,y < s.heap.objs.size∧y≠l:=fun y hy=>by
     obtain ⟨k,o,it,n,q1,q2,q3,q4⟩:=hyo y hy
     refine ⟨Heap.lt_size q1,fun e=>?_⟩
     subst e
     rw [hol] at q1
     cases q1
     injection q2 with z
     exact absurd z (by decide)
    refine set_loopP (xs:=xs) (ys:=ys) hys W s.heap.objs.size hSf (fun i v hi' hv=>?_) hx (fun y hy=>?_) h64 hr xs.length 0 _ (by omega) (Nat.zero_le _) ⟨⟨_,Heap.get?_push_size _ rfl,rfl,rfl⟩,hl1.push _⟩ (emptyPr _ (Heap.get?_push_of_some _ hS)) (fun j hj=>IsTupleKey.at (hK j hj) fun o e=>Heap.get?_push_of_some _ (Heap.get?_push_of_some _ e)) fun s' hm hS'=>?_
    ·have hv:items[i]? = some v:=hv
     rw [← Array.getElem?_toList,hi,List.getElem?_map,List.getElem?_eq_getElem (by omega)] at hv
     simpa using hv.symm
    ·have:=hyl y hy
     rw [Heap.size_push]
     simp only [List.mem_cons,List.not_mem_nil,or_false]
     exact ⟨Nat.ne_of_lt this.1,fun z=>by first | exact absurd z (Nat.ne_of_lt (Nat.lt_succ_of_lt this.1)) | exact z.elim (fun z=>absurd z (Nat.ne_of_lt (Nat.lt_succ_of_lt this.1))) this.2⟩
    ·obtain ⟨h',g',d',tk',os'⟩:=s'
     cases (show g'=s.gens from hm.gens)
     cases (show d'=s.drawn from hm.drawn)
     cases (show os'=s.os from hm.os)
     refine wpAny_pure (wpAny_pure ⟨rfl,h',tk',rfl,hS',fun b o hb e=>?_⟩)
     exact hm.heap b o (by rw [Heap.size_push]; simp only [List.mem_cons,List.not_mem_nil,or_false,not_or]; exact ⟨Nat.ne_of_lt hb,Nat.ne_of_lt (Nat.lt_succ_of_lt hb)⟩) (Heap.get?_push_of_some _ (Heap.get?_push_of_some _ e))
   ·cases r₂ with
    | error e=>exact hr₂
    | ok fl₂ =>
     cases fl₂ with
     | ret r =>
      obtain ⟨rfl,h',tk,rfl,hS',hk'⟩:=hr₂
      repeat any_goals (first | assumption | wp_step)
      exact h _ _ hS' hk'
     | _=>exact hr₂.elim
  | _=>exact hr.elim
end
end L2
namespace L2
open PySem PySem.Spec PyProof.Rows
def setTP (P:Program) (w:World) (a:Addr) (n:Nat):Heap→Prop:=fun h=>∃ o es ep t,h.get? a=some o∧o.ExactSet∧o.data=.set es ep t∧t.fits es.size=true∧es.size=n
def prD:D→Option (List Int)
 | .tup [.int i,.int j]=>if 0≤i∧i < 8∧0≤j∧j < 8 then some [i,j] else none
 | _=>none
def prsD:List D→Option (List (List Int))
 | []=>some []
 | d :: l=>match prD d,prsD l with
  | some k,some r=>some (k :: r)
  | _,_=>none
theorem prD_u {d:D} {k:List Int} (h:prD d=some k):PrU k∧∃ i j,k=[i,j]∧d=.tup [.int i,.int j]:=by
 unfold prD at h
 split at h
 ·rename_i i j
  split at h
  ·rename_i hb
   cases h
   exact ⟨⟨i.toNat,j.toNat,by omega,by omega,by rw [show ((i.toNat:Nat):Int)=i by omega,show ((j.toNat:Nat):Int)=j by omega]⟩,i,j,rfl,rfl⟩
  ·cases h
 ·cases h
section
variable {X:Cx}
def rSetT (X:Cx):List V→Hp→VK→Prop:=fun xs H Q=>∃ a ys ks,xs=[.ref a]∧SqL X.K H a (ys.map V.ref)∧Paired (fun (y:Addr) (k:List Int)=>PrU k∧H y=some (.tup (k.map V.int))) ys ks∧(qcx ks).length < 64∧∀ p,H p=none→Q (.ref p) (upd H p (.ext (setTP X.prog X.w p (qcx ks).length)))
theorem qfQ {α β:Type} {R:α→β→Prop}:∀ {l:List α} {r:List β},Paired R l r→l.length=r.length
 | _,_,.nil=>rfl
 | _,_,.cons _ q=>congrArg (· + 1) (qfQ q)
theorem qf7 {α β:Type} {R:α→β→Prop}:∀ {l:List α} {r:List β},Paired R l r→∀ (j:Nat) (h1:j < l.length) (h2:j < r.length),R l[j] r[j]
 | _,_,.nil,_,h,_=>absurd h (Nat.not_lt_zero _)
 | _,_,.cons p q,0,_,_=>p
 | _,_,.cons p q,j + 1,h1,h2=>qf7 q j (by simpa using h1) (by simpa using h2)
theorem keyP_of {pins:List (Addr×Obj)} {σ:St} {H:Hp} {s:Shared} {y:Addr} {i j:Int} (I:Inv X pins σ H s) (h:H y=some (.tup [.int i,.int j])):IsTupleKey (intKind X.prog X.w) s.heap [i,j] y:=by
 obtain ⟨_,its,hv,o,h1,h2,⟨n,h3⟩,_⟩:=I.hok y _ h
 cases hv with
 | cons r1 r2 =>
  cases r2 with
  | cons r3 r4 =>
   cases r4
   obtain ⟨t1,rfl⟩:=r1
   obtain ⟨t2,rfl⟩:=r3
   exact ⟨o,_,n,h1,h2,h3,.cons (by simp [intKind,Value.isInt]) (.cons (by simp [intKind,Value.isInt]) .nil)⟩
theorem vals_refs:∀ {ys:List Addr} {us:List Value},Vals (ys.map V.ref) us→us=ys.map Value.ref
 | [],_,.nil=>rfl
 | y :: ys,_,.cons e r=>by cases e; rw [vals_refs r]; rfl
theorem cr_setT (hu:X.A.units + 64 < cLine) (hc:X.calm=true:=by rfl):qd1 X (.type "set") (rSetT X):=by
 intro pins s σ H xs us Q I rv h
 obtain ⟨a,ys,ks,rfl,sq,hp,h64,q⟩:=h
 obtain ⟨u,rfl,ru⟩:=qg8 rv
 cases ru
 obtain ⟨its,ri,pl,hz⟩:=I.list sq
 have hl:=qfQ hp
 refine set_ofP (xs:=ks) (ys:=ys) hl (I.ok.hd hc) pl.isList (by simpa using vals_refs ri) (fun j hj=>?_) (fun x hx=>?_) h64 (by show X.A.units + 1 + 1 + 1 < cLine; omega) fun h' tk hS kp=>?_
 ·obtain ⟨⟨i',j',_,_,e⟩,hH⟩:=qf7 hp j (by omega) hj
  rw [e] at hH ⊢
  exact keyP_of I hH
 ·obtain ⟨j,hj,rfl⟩:=List.getElem_of_mem hx
  exact (qf7 hp j (by omega) hj).1
 ·have hf:H s.heap.objs.size=none:=I.hok.fresh (Nat.le_refl _)
  obtain ⟨o,es,ep,t,L,ho,hex,hd,IT,hL,_,hperm,_⟩:=hS
  have hn:es.size=(qcx ks).length:=by
   have:=congrArg List.length hL
   rw [List.length_map,Array.length_toList] at this
   rw [this,← hperm.length_eq,List.length_map]
  refine ⟨.ref s.heap.objs.size,upd H s.heap.objs.size (.ext (setTP X.prog X.w s.heap.objs.size (qcx ks).length)),I.laid (t':=tk) (fun b u e=>kp b u (Heap.lt_size e) e) (Nat.le_refl _) ?_,rfl,q _ hf⟩
  exact ⟨⟨o,es,ep,t,ho,hex,hd,IT.fits,hn⟩,⟨o,ho⟩,fun h1 h2 ⟨o,es,ep,t,ho,r⟩ k=>⟨o,es,ep,t,k o ho,r⟩⟩
def rLenT (X:Cx):List V→Hp→VK→Prop:=fun xs H Q=>∃ a n,xs=[.ref a]∧H a=some (.ext (setTP X.prog X.w a n))∧(n:Int) < 2 ^ 63∧Q (.int (n:Nat)) H
theorem cr_lenT:qd1 X (.builtin "len") (rLenT X):=by
 intro pins s σ H xs us Q I rv h
 obtain ⟨a,n,rfl,hH,hn,q⟩:=h
 obtain ⟨u,rfl,ru⟩:=qg8 rv
 cases ru
 obtain ⟨⟨o,es,ep,t,ho,hex,hd,hf,he⟩,_,_⟩:=I.hok a _ hH
 subst he
 exact call_len_set ho hex hd hf hn ⟨.int _,H,I.tok _,⟨_,rfl⟩,q⟩
def qdN (a:dS):yD:=fun e c=>(a e c).bind fun xs c=>match xs with
 | [x]=>match lstD c x with
  | some l=>match prsD l with
   | some ks=>if (qcx ks).length < 64 then .ok (.int (qcx ks).length) c else .bad
   | none=>.bad
  | none=>.bad
 | _=>.bad
theorem prs_rel {K:PySem.W.Frag} {ρ:List Addr} {H:Hp}:∀ {l:List D} {vs:List V} {ks:List (List Int)},Rels K ρ H l vs→prsD l=some ks→∃ ys:List Addr,vs=ys.map V.ref∧Paired (fun (y:Addr) (k:List Int)=>PrU k∧H y=some (.tup (k.map V.int))) ys ks
 | [],vs,ks,r,h=>by
  cases h
  have:vs=[]:=by simpa [Rels] using r
  exact ⟨[],this,.nil⟩
 | d :: l,vs,ks,r,h=>by
  unfold prsD at h
  split at h
  ·rename_i k rk h1 h2
   cases h
   obtain ⟨v,vr,rfl,rd,rr⟩:=r
   obtain ⟨hu,i,j,rfl,rfl⟩:=prD_u h1
   obtain ⟨y,ws,rfl,hy,rw⟩:=rd
   obtain ⟨v1,r1,rfl,e1,rw⟩:=rw
   obtain ⟨v2,r2,rfl,e2,rw⟩:=rw
   cases rw
   cases e1
   cases e2
   obtain ⟨ys,rfl,p⟩:=prs_rel rr h2
   exact ⟨y :: ys,rfl,.cons ⟨hu,hy⟩ p⟩
  ·cases h
theorem pd_lensetT {e:Expr} {da:dS} {p1 p2 q1 q2:Pos} (hu:X.A.units + 64 < cLine) (ha:PAd X [e] da) (hm:X.mg "len"=none) (hm2:X.mg "set"=none) (hg:Gl X "len":=by rfl) (hg2:Gl X "set":=by rfl) (hc:X.calm=true:=by rfl)
  (he:starEach [e] X.env=(false,eval e X.env) :: starEach [] X.env:=by exact qaQ rfl):PEd X (.Call (.Name "len" p1) [.Call (.Name "set" p2) [e] [] q2] [] q1) (qdN da):=by
 have hset:PE X (.Call (.Name "set" p2) [e] [] q2) _:=qf5 (cr_setT hu hc) hg2 hm2 (by decide +kernel) ha (by decide) (by decide) he (by exact qbV rfl)
 refine (qgl cr_lenT hg hm (by decide +kernel) (qe0 hset pa_nil (qaQ rfl)) (by decide) (by decide) (by exact qaQ rfl) (by exact qbV rfl)).imp fun σ H Q h=>?_
 obtain ⟨ρ,e,c,W,V,p⟩:=h
 refine ⟨ρ,e,c,W,V,post.bind p fun xs c1 ρ1 H1 vs ex W1 X1 r1 p1=>?_⟩
 clear ex
 split at p1
 ·rename_i x
  obtain ⟨v,r,rfl,hx,hr⟩:=r1
  cases hr
  split at p1
  ·rename_i l hl
   split at p1
   ·rename_i ks hn
    split at p1
    ·rename_i hb
     obtain ⟨a,vs,rfl,ha',rl⟩:=qdF W1 hx hl
     obtain ⟨ys,rfl,hp⟩:=prs_rel rl hn
     refine ⟨a,ys,ks,rfl,SqL.of ha',hp,hb,fun q hq=>?_⟩
     refine ⟨q,(qcx ks).length,rfl,qbu,?_,?_⟩
     ·omega
     ·exact p1 ρ1 _ _ (W1.fresh hq) (Ext.fresh W1 hq) rfl
    ·exact p1.elim
   ·exact p1.elim
  ·exact p1.elim
 ·exact p1.elim
end
@[simp] theorem x_lensetT (a:dS) (e:Ev) (c:LC):qdN a e c=(a e c).bind fun xs c=>match xs with
 | [x]=>match lstD c x with
  | some l=>match prsD l with
   | some ks=>if (qcx ks).length < 64 then .ok (.int (qcx ks).length) c else .bad
   | none=>.bad
  | none=>.bad
 | _=>.bad:=rfl
end L2
namespace L2
open PySem PySem.Spec PyProof.Rows
def finM (l:List D) (c:LC):R D:=if qam l=true then .ok (.ref c.length) (c ++ [.lst l]) else .bad
def dCompM (s:Ev→LC→R Src) (pick:List (Option Nat)) (g:Gd) (t:dB) (el:yD):yD:=fun e c=>(s e c).bind fun s c =>
 if s.items.length < sizeLine then (qb4 s.stays g t el s.items (qd3 pick e) [] c).bind finM else .bad
section
variable {X:Cx} {N':List Str} {pick:List (Option Nat)} {scope:Scope} {tg elt iter:Expr} {ifs:List Expr} {pos:Pos} {ds:Ev→LC→R Src} {g:Gd} {dt:dB} {de:yD}
theorem compW_ofM {K:PySem.W.Frag} {ρ1:List Addr} {H1:Hp} {c1:LC} {e:Ev} {σ:St} {s:Src} {J:It} {Q:VK} (W1:Wd K ρ1 H1 c1) (V1:REnv K ρ1 H1 e σ) (j1:JS K ρ1 H1 s J) (hn:s.items.length < sizeLine)
  (p1:post K (Rel K) ((qb4 s.stays g dt de s.items e [] c1).bind finM) ρ1 H1 Q):CompW J (tGD K g) (tD K (fun _ _ a b=>a=b) dt) (tD K (Rel K) de) Q σ H1:=by
 refine ⟨fun i m σ ys H=>∃ ρ e acc c,Wd K ρ H c∧Ext ρ1 H1 ρ H∧REnv K ρ H e σ∧Rels K ρ H acc ys∧acc.length≤i∧i≤s.items.length∧m=s.items.length - i∧post K (Rel K) ((qb4 s.stays g dt de (s.items.drop i) e acc c).bind finM) ρ H Q,
  ⟨_,ρ1,e,[],c1,W1,Ext.refl,V1,rfl,Nat.le_refl _,Nat.zero_le _,rfl,p1⟩,?_⟩
 rintro i m σ2 ys H2 ⟨ρ2,e2,acc,c2,W2,X2,V2,r2,ha,hi2,rfl,p2⟩
 refine ⟨by rw [r2.length]; omega,?_⟩
 by_cases hl:i < s.items.length
 ·rw [List.drop_eq_getElem_cons hl] at p2
  unfold qb4 at p2
  split at p2
  ·rename_i hst
   obtain ⟨go,yl⟩:=(j1 ρ2 H2 c2 W2 X2 hst i).1 _ (List.getElem?_eq_getElem hl)
   refine .inr ⟨go,fun σ' ys' H'=>∃ ρ e acc c,Wd K ρ H' c∧Ext ρ1 H1 ρ H'∧REnv K ρ H' e σ'∧Rels K ρ H' acc ys'∧acc.length≤i + 1∧i + 1≤s.items.length∧post K (Rel K) ((qb4 s.stays g dt de (s.items.drop (i + 1)) e acc c).bind finM) ρ H' Q,?_,fun x H3 hy=>?_⟩
   ·rintro σ' ys' H' ⟨ρ,e,acc,c,w,x,v,r,a,l,q⟩
    exact ⟨s.items.length - (i + 1),by omega,ρ,e,acc,c,w,x,v,r,a,l,rfl,q⟩
   ·obtain ⟨W3,X3,r3⟩:=yl x H3 hy
    have assoc:∀ {α β γ:Type} (r:R α) (f:α→LC→R β) (g:β→LC→R γ),(r.bind f).bind g=r.bind fun a c=>(f a c).bind g:=fun r f g=>by cases r <;> rfl
    rw [assoc] at p2
    refine ⟨ρ2,_,e2,c2,W3,V2.mono W2 X3,r3,post.bind (post.ext p2 X3) fun e4 c4 ρ4 H4 σ4 _ W4 X4 V4 p4=>?_⟩
    rw [assoc] at p4
    refine ⟨ρ4,e4,c4,W4,V4,post.bind p4 fun k c5 ρ5 H5 b _ W5 X5 r5 p5=>?_⟩
    cases r5
    have X15:=((X2.trans X3).trans X4).trans X5
    have r25:=Rels.mono W2 ((X3.trans X4).trans X5) _ _ r2
    cases k with
    | true =>
     refine iteT ?_
     rw [if_pos rfl,assoc] at p5
     refine ⟨ρ5,e4,c5,W5,V4.mono W4 X5,post.bind p5 fun y c6 ρ6 H6 v _ W6 X6 r6 p6=>?_⟩
     refine ⟨ρ6,e4,acc ++ [y],c6,W6,X15.trans X6,(V4.mono W4 X5).mono W5 X6,(Rels.mono W5 X6 _ _ r25).append ⟨v,[],rfl,r6,rfl⟩,by simp; exact ha,hl,p6⟩
    | false =>
     refine iteF ?_
     rw [if_neg Bool.false_ne_true] at p5
     exact ⟨ρ5,e4,acc,c5,W5,X15,V4.mono W4 X5,r25,Nat.le_succ_of_le ha,hl,p5⟩
  ·exact p2.elim
 ·obtain rfl:i=s.items.length:=by omega
  rw [List.drop_eq_nil_of_le (Nat.le_refl _)] at p2
  unfold qb4 at p2
  split at p2
  ·rename_i hst
   have p2:post K (Rel K) (if qam acc=true then .ok (.ref c2.length) (c2 ++ [.lst acc]) else .bad) ρ2 H2 Q:=p2
   split at p2
   ·rename_i nr
    exact .inl ⟨(j1 ρ2 H2 c2 W2 X2 hst _).2 rfl,qgp W2 nr r2 p2⟩
   ·exact p2.elim
  ·exact p2.elim
theorem comp_TM {σ:St} {H:Hp} {Q:VK} {K:PySem.W.Frag} (h:tD K (Rel K) (dCompM ds pick g dt de) σ H Q):tComp (tID K ds) pick (tGD K g) (tD K (fun _ _ a b=>a=b) dt) (tD K (Rel K) de) σ H Q:=by
 obtain ⟨ρ,e,c,W,V,p⟩:=h
 refine ⟨ρ,e,c,W,V,post.bind p fun s c1 ρ1 H1 J _ W1 X1 j1 p1=>?_⟩
 split at p1
 ·rename_i hn
  exact compW_ofM W1 (V.mono W X1).picked j1 hn p1
 ·exact p1.elim
theorem pd_compM (S:CompScope X N' pick scope) (hit:PId X tg iter ds)
  (hg:∀ cl C s₀ H₀ ex pn,PGd (qbD X N' scope cl C s₀ H₀ ex pn) tg g) (hi:∀ cl C s₀ H₀ ex pn,PIfd (qbD X N' scope cl C s₀ H₀ ex pn) ifs dt) (he:∀ cl C s₀ H₀ ex pn,PEd (qbD X N' scope cl C s₀ H₀ ex pn) elt de)
  (hc:X.calm=true:=by rfl) (hs:∀ x,foldedSetIterable iter X.env x=pure x:=by intro _; rfl) :
  PEd X (.ListComp elt [⟨tg,iter,ifs,0⟩] scope pos) (dCompM ds pick g dt de):=(pe_comp S hc hit hg hi he hs).imp fun σ H Q h=>comp_TM h
end
@[simp] theorem x_compM (sr:Ev→LC→R Src) (pick:List (Option Nat)) (g:Gd) (ta:dB) (a:yD) (e:Ev) (c:LC):dCompM sr pick g ta a e c=(sr e c).bind fun q c =>
 if q.items.length < sizeLine then (qb4 q.stays g ta a q.items (qd3 pick e) [] c).bind finM else .bad:=rfl
end L2
namespace Ev
open PySem L2 PyProof.Rows
def top (i:Nat):Stmt:=PySem.Challenge.pw_evenwebs_k54_squares_of_fields.main.body.getD i (.Pass ⟨0,0,0,0⟩)
abbrev qcL:Stmt:=top 14
abbrev qaL:Stmt:=top 15
abbrev qcM:Stmt:=top 18
abbrev qbc:Stmt:=top 19
abbrev qaW:Stmt:=top 20
abbrev qdJ:Stmt:=top 21
abbrev qcg:Stmt:=top 22
abbrev qet:Stmt:=top 23
abbrev qbo:Stmt:=top 24
abbrev qbY:Stmt:=top 25
abbrev qaM:Stmt:=top 28
abbrev qcm:Stmt:=top 29
abbrev qck:Stmt:=top 30
abbrev qaX:Stmt:=top 31
abbrev qde:Stmt:=top 32
abbrev qbZ:Stmt:=top 33
abbrev qdK:Stmt:=top 34
abbrev qcl:Stmt:=top 35
abbrev qbp:Stmt:=top 36
abbrev qbd:Stmt:=top 37
abbrev qbI:Stmt:=top 39
abbrev qdh:Stmt:=top 40
abbrev qcI:Stmt:=top 41
abbrev qch:Stmt:=top 42
abbrev qcJ:Stmt:=top 43
abbrev qbH:Stmt:=top 44
abbrev qci:Stmt:=top 45
abbrev qc1:Stmt:=top 46
abbrev qdg:Stmt:=top 47
abbrev qc0:Stmt:=top 48
abbrev qaF:Stmt:=top 49
abbrev qcj:Stmt:=top 50
abbrev qcK:Stmt:=top 51
abbrev qbG:Stmt:=top 52
abbrev qdf:Stmt:=top 53
abbrev qaK:Stmt:=top 54
abbrev qaA:Stmt:=top 55
abbrev qcH:Stmt:=top 56
abbrev s_law:Stmt:=top 57
def qcb:List (Int×List Int):=[(2,[2,1,0]),(3,[3,1,0]),(4,[2,2,3]),(5,[5,1,0]),(7,[7,1,0]),(8,[2,3,3]),(9,[3,2,1]),(11,[11,1,0]),(13,[13,1,0]),(16,[2,4,3]),(17,[17,1,0]),(19,[19,1,0]),(23,[23,1,0]),(25,[5,2,2]),(27,[3,3,7]),(29,[29,1,0]),(31,[31,1,0]),(32,[2,5,5]),(37,[37,1,0]),(41,[41,1,0]),(43,[43,1,0]),(47,[47,1,0]),(49,[7,2,1])]
def xcls:List Str:=["NoWeb","NoText","NoNumbers","NoField","NoThing","NoSquare","NoPlaces","TooMany","NoName","NoDeed","NoRow"]
def qbg:dF :=
 (sRet (qen (dCB isiD (qa0 (dVar 0) (qa0 (dC (.ty "int")) dNil))) (dNotV (dCB isiD (qa0 (dVar 0) (qa0 (dC (.ty "bool")) dNil))))))
def qaY:List D→LC→R D:=fnD 1 false qbg
def qax:dF :=
 (sRet (qen (qa7 1 qaY (qa0 (dVar 0) dNil)) (qft leD leD (dVar 1) (dVar 0) (dVar 2))))
def qae:List D→LC→R D:=fnD 3 false qax
def qbO:dF :=
 (sRet (qen (qa7 1 qaY (qa0 (dVar 0) dNil)) (dBin (inF "FIELDS" qcb) (dVar 0) (dC (.fn "FIELDS" 0)))))
def qaC:List D→LC→R D:=fnD 1 false qbO
def qbf:dF :=
 (sIf (qca (dBl (qa7 1 qaC (qa0 (dVar 0) dNil)))) sBad qb5)
def qcc:List D→LC→R D:=fnD 1 false qbf
def qaZ:dF :=
 (sSeq (qc9 (qa7 1 qcc (qa0 (dVar 0) dNil))) (sFor (qem (dVar 1)) (qa5 2) (sIf (qca (dBl (qa7 3 qae (qa0 (dVar 2) (qa0 (dC (.int 0)) (qa0 (dBin subD (dVar 0) (dC (.int 1))) dNil)))))) sBad qb5)))
def qaH:List D→LC→R D:=fnD 3 false qaZ
def qdP:dF :=
 (sSeq (sSet 2 (dUn (fldD qcb 0) (dVar 0))) (sSeq (sSet 3 (qdV dNil)) (sSeq (sSet 4 (dVar 1)) (sSeq (sFor (qaD (qa0 (dUn (fldD qcb 1) (dVar 0)) dNil)) (qa5 5) (sSeq (qc9 (qbC (dVar 3) (dBin modD (dVar 4) (dVar 2)))) (sSet 4 (dBin divD (dVar 4) (dVar 2))))) (sRet (dVar 3))))))
def qbJ:List D→LC→R D:=fnD 6 false qdP
def qcq:dF :=
 (sSeq (sSet 2 (dUn (fldD qcb 0) (dVar 0))) (sSeq (sSet 3 (dC (.int 0))) (sSeq (sFor (dRev (qa0 (dVar 1) dNil)) (qa5 4) (sSet 3 (dBin addD (dBin mulD (dVar 3) (dVar 2)) (dBin modD (dVar 4) (dVar 2))))) (sRet (dVar 3)))))
def qbW:List D→LC→R D:=fnD 5 false qcq
def qeA:dF :=
 (sSeq (qc9 (qa7 2 qaH (qa0 (dVar 0) (qa0 (dTup (qa0 (dVar 1) (qa0 (dVar 2) dNil))) dNil)))) (sRet (qa7 2 qbW (qa0 (dVar 0) (qa0 (qaO (qfJ (qa0 (qa7 2 qbJ (qa0 (dVar 0) (qa0 (dVar 1) dNil))) (qa0 (qa7 2 qbJ (qa0 (dVar 0) (qa0 (dVar 2) dNil))) dNil))) [none,none] (qeR 2 (qc4 (qa5 0) (qc4 (qa5 1) qfm))) dYes (dBin addD (dVar 0) (dVar 1))) dNil)))))
def qey:List D→LC→R D:=fnD 3 false qeA
def qbt:dF :=
 (sSeq (sSet 2 (qa7 2 qbJ (qa0 (dVar 0) (qa0 (dUn (fldD qcb 2) (dVar 0)) dNil)))) (sRet (qaO (qfJ (qa0 (dBin catD (dLst (qa0 (dC (.int 0)) dNil)) (dVar 1)) (qa0 (dVar 2) dNil))) [none,none,some 1] (qeR 2 (qc4 (qa5 0) (qc4 (qa5 1) qfm))) dYes (dBin subD (dVar 0) (dBin mulD (dBin ixD (dVar 2) (dUn negD (dC (.int 1)))) (dVar 1))))))
def qbq:List D→LC→R D:=fnD 3 false qbt
def qc5:dF :=
 (sSeq (qc9 (qa7 2 qaH (qa0 (dVar 0) (qa0 (dTup (qa0 (dVar 1) (qa0 (dVar 2) dNil))) dNil)))) (sSeq (sSet 3 (qa7 2 qbJ (qa0 (dVar 0) (qa0 (dVar 2) dNil)))) (sSeq (sSet 4 (dBin repD (dLst (qa0 (dC (.int 0)) dNil)) (dCB lenD (qa0 (dVar 3) dNil)))) (sSeq (sFor (dRev (qa0 (qa7 2 qbJ (qa0 (dVar 0) (qa0 (dVar 1) dNil))) dNil)) (qa5 5) (sSet 4 (qaO (qfJ (qa0 (qa7 2 qbq (qa0 (dVar 0) (qa0 (dVar 4) dNil))) (qa0 (dVar 3) dNil))) [none,none,some 5] (qeR 2 (qc4 (qa5 0) (qc4 (qa5 1) qfm))) dYes (dBin addD (dVar 0) (dBin mulD (dVar 2) (dVar 1)))))) (sRet (qa7 2 qbW (qa0 (dVar 0) (qa0 (dVar 4) dNil))))))))
def qc2:List D→LC→R D:=fnD 6 false qc5
def qaP:dF :=
 (sSeq (sIf (dOrT (qca (dBl (dCB isiD (qa0 (dVar 0) (qa0 (dC (.ty "tuple")) dNil))))) (dBl (dBin neD (dCB lenD (qa0 (dVar 0) dNil)) (dVar 1)))) (sRet (dC (.bl false))) qb5) (sRet (qen (dCB allD (qa0 (qaO (qem (dVar 0)) [none,some 1] (qa5 0) dYes (qa7 3 qae (qa0 (dVar 0) (qa0 (dC (.int 0)) (qa0 (dBin subD (dVar 1) (dC (.int 1))) dNil))))) dNil)) (dBin eqD (qdO (qa0 (dVar 0) dNil)) (dVar 1)))))
def qa9:List D→LC→R D:=fnD 2 false qaP
def qct:dF :=
 (sRet (dCB qcu (qa0 (qaO (qem (dVar 0)) [none,some 1] (qa5 0) dYes (dBin ixD (dVar 0) (dVar 1))) dNil)))
def qb7:List D→LC→R D:=fnD 2 false qct
def qcs:dF :=
 (sSeq (sIf (dOrT (qca (dBl (dCB isiD (qa0 (dVar 0) (qa0 (dC (.ty "tuple")) dNil))))) (qca (dBl (qft leD leD (dC (.int 1)) (dCB lenD (qa0 (dVar 0) dNil)) (dC (.int 7)))))) (sRet (dC (.bl false))) qb5) (sSeq (sSet 1 (dCB lenD (qa0 (dVar 0) dNil))) (sSeq (sIf (qca (dBl (dCB allD (qa0 (qaO (qem (dVar 0)) [none,some 1] (qa5 0) dYes (qa7 2 qa9 (qa0 (dVar 0) (qa0 (dVar 1) dNil)))) dNil)))) (sRet (dC (.bl false))) qb5) (sRet (dCB allD (qa0 (qaO (qaD (qa0 (dVar 1) dNil)) [none,some 1,some 0] (qa5 0) dYes (qa7 2 qa9 (qa0 (qa7 2 qb7 (qa0 (dVar 2) (qa0 (dVar 0) dNil))) (qa0 (dVar 1) dNil)))) dNil))))))
def qcV:List D→LC→R D:=fnD 2 false qcs
def qb0:dF :=
 (sIf (qca (dBl (qa7 1 qcV (qa0 (dVar 0) dNil)))) sBad qb5)
def qan:List D→LC→R D:=fnD 1 false qb0
def qcZ:dF :=
 (sRet (dBin ixD (dBin ixD (dVar 0) (dBin divD (dVar 1) (dCB lenD (qa0 (dVar 0) dNil)))) (dBin modD (dVar 1) (dCB lenD (qa0 (dVar 0) dNil)))))
def qbm:List D→LC→R D:=fnD 2 false qcZ
def qbE:dF :=
 (sSeq (sSet 2 (dBin mulD (dCB lenD (qa0 (dVar 0) dNil)) (dCB lenD (qa0 (dVar 0) dNil)))) (sRet (dBin eqD (qdN (qa0 (qaO (qaD (qa0 (dVar 2) dNil)) [none,some 0,some 1] (qa5 0) dYes (dTup (qa0 (qa7 2 qbm (qa0 (dVar 1) (qa0 (dVar 0) dNil))) (qa0 (qa7 2 qbm (qa0 (dVar 2) (qa0 (dVar 0) dNil))) dNil)))) dNil)) (dVar 2))))
def qcv:List D→LC→R D:=fnD 3 false qbE
def qdv:dF :=
 (sSeq (qc9 (qa7 1 qan (qa0 (dVar 0) dNil))) (sSeq (qc9 (qa7 1 qan (qa0 (dVar 1) dNil))) (sSeq (sIf (dBl (dBin neD (dCB lenD (qa0 (dVar 0) dNil)) (dCB lenD (qa0 (dVar 1) dNil)))) sBad qb5) (sRet (qa7 2 qcv (qa0 (dVar 0) (qa0 (dVar 1) dNil)))))))
def qds:List D→LC→R D:=fnD 2 false qdv
def qbX:dF :=
 (sRet (dCB qcu (qa0 (qaO (qaD (qa0 (dVar 0) dNil)) [none,some 0,some 1,some 2] (qa5 0) dYes (qa7 3 qey (qa0 (dVar 1) (qa0 (qa7 3 qc2 (qa0 (dVar 1) (qa0 (dVar 2) (qa0 (dVar 3) dNil)))) (qa0 (dVar 0) dNil))))) dNil)))
def qdr:List D→LC→R D:=fnD 3 false qbX
def qb9:dF :=
 (sRet (dCB qcu (qa0 (qaO (qaD (qa0 (dVar 0) dNil)) [none,some 0,some 1] (qa5 0) dYes (qa7 3 qdr (qa0 (dVar 1) (qa0 (dVar 2) (qa0 (dVar 0) dNil))))) dNil)))
def qbs:List D→LC→R D:=fnD 2 false qb9
def qaz:dF :=
 (sSeq (sIf (dOrT (qca (dBl (qa7 1 qaC (qa0 (dVar 0) dNil)))) (dBl (dBin gtD (dVar 0) (dC (.int 7))))) sBad qb5) (sRet (dCompM (qfs (qa0 (dC (.int 1)) (qa0 (dVar 0) dNil))) [none,some 0] (qa5 0) dYes (qa7 2 qbs (qa0 (dVar 1) (qa0 (dVar 0) dNil))))))
def qaS:List D→LC→R D:=fnD 1 true qaz
def qbn:Xd :=
 (xIf (dOrT (qca (dBl (qa7 1 qaC (qa0 (dVar 0) dNil)))) (dBl (dBin gtD (dVar 0) (dC (.int 7))))) (xCls "NoField") xBad)
def qbw:List D→LC→R Str:=fnX 1 qbn
def qbk:dF :=
 (sSeq (sIf (dBl (dBin ltD (dVar 1) (dCB lenD (qa0 (dVar 0) dNil)))) (sRet (dBin ixD (dVar 0) (dVar 1))) qb5) (sRet (dC (.int 0))))
def qbL:List D→LC→R D:=fnD 2 false qbk
def qd0:dF :=
 (sSeq (sIf (dBl (dBin geD (dVar 0) (dBin powD (dC (.int 10)) (dC (.int 18))))) (sRet (qdV (qa0 (dBin subD (dVar 0) (dBin powD (dC (.int 10)) (dC (.int 18)))) dNil))) qb5) (sSeq (sSet 1 (dC (.int 0))) (sSeq (sFor (qaD (qa0 (dC (.int 64)) dNil)) (qa5 2) (sSeq (sSet 3 (dBin modD (dBin mulD (dBin addD (dBin addD (dBin modD (dVar 0) (dC (.int 2147483629))) (dBin mulD (dC (.int 7919)) (dVar 2))) (dC (.int 1))) (dC (.int 48271))) (dC (.int 2147483647)))) (sSeq (sSet 3 (dBin modD (dBin addD (dBin addD (dBin mulD (dVar 3) (dVar 3)) (dBin mulD (dC (.int 69621)) (dVar 2))) (dC (.int 7))) (dC (.int 2147483587)))) (sSet 1 (dBin addD (dBin mulD (dVar 1) (dC (.int 2147483587))) (dVar 3)))))) (sRet (qdV (qa0 (dVar 1) dNil))))))
def qdl:List D→LC→R D:=fnD 4 true qd0
def qcR:dF :=
 (sSeq (sSet 2 (dBin modD (dBin ixD (dVar 0) (dC (.int 0))) (dVar 1))) (sSeq (sAsg (dBin divD (dBin ixD (dVar 0) (dC (.int 0))) (dVar 1)) (qgD (dVar 0) (dC (.int 0)))) (sRet (dVar 2))))
def qc3:List D→LC→R D:=fnD 3 false qcR
def qb8:dF :=
 (sRet (qen (dCB isiD (qa0 (dVar 0) (qa0 (dC (.ty "int")) dNil))) (dNotV (dCB isiD (qa0 (dVar 0) (qa0 (dC (.ty "bool")) dNil))))))
def qar:List D→LC→R D:=fnD 1 false qb8
def qb1 (m:List D→LC→R D):dF :=
 (sSeq (sIf (dBl (dBin isD (dVar 1) (dC .non))) (sRet (dBin isD (dVar 0) (dC .non))) qb5) (sSeq (sIf (dBl (dCB isiD (qa0 (dVar 1) (qa0 (dC (.ty "bool")) dNil)))) (sRet (qen (dCB isiD (qa0 (dVar 0) (qa0 (dC (.ty "bool")) dNil))) (dBin eqD (dVar 0) (dVar 1)))) qb5) (sSeq (sIf (dBl (dCB isiD (qa0 (dVar 1) (qa0 (dC (.ty "int")) dNil)))) (sRet (qen (qa7 1 qar (qa0 (dVar 0) dNil)) (dBin eqD (dVar 0) (dVar 1)))) qb5) (sSeq (sIf (dBl (dCB isiD (qa0 (dVar 1) (qa0 (dC (.ty "str")) dNil)))) (sRet (qen (dCB isiD (qa0 (dVar 0) (qa0 (dC (.ty "str")) dNil))) (dBin eqD (dVar 0) (dVar 1)))) qb5) (sSeq (sIf (dOrT (dBl (dBin neD (dCB isiD (qa0 (dVar 1) (qa0 (dC (.ty "tuple")) dNil))) (dCB isiD (qa0 (dVar 0) (qa0 (dC (.ty "tuple")) dNil))))) (dBl (dBin neD (dCB isiD (qa0 (dVar 1) (qa0 (dC (.ty "list")) dNil))) (dCB isiD (qa0 (dVar 0) (qa0 (dC (.ty "list")) dNil)))))) (sRet (dC (.bl false))) qb5) (sRet (qen (dBin eqD (dCB lenD (qa0 (dVar 0) dNil)) (dCB lenD (qa0 (dVar 1) dNil))) (dCB allD (qa0 (qaO (qfJ (qa0 (dVar 0) (qa0 (dVar 1) dNil))) [none,none] (qeR 2 (qc4 (qa5 0) (qc4 (qa5 1) qfm))) dYes (qa7 2 m (qa0 (dVar 0) (qa0 (dVar 1) dNil)))) dNil)))))))))
def qad:Nat→List D→LC→R D
 | 0=>fun _ _=>.bad
 | k + 1=>fnD 2 false (qb1 (qad k))
def qbN:dF :=
 (sSeq (sSet 1 (dLst (qa0 (dCB (isxD xcls) (qa0 (dVar 0) (qa0 (dC (.fn "NoWeb" 0)) dNil))) (qa0 (dCB (isxD xcls) (qa0 (dVar 0) (qa0 (dC (.fn "NoText" 0)) dNil))) (qa0 (dCB (isxD xcls) (qa0 (dVar 0) (qa0 (dC (.fn "NoNumbers" 0)) dNil))) (qa0 (dCB (isxD xcls) (qa0 (dVar 0) (qa0 (dC (.fn "NoField" 0)) dNil))) dNil)))))) (sSeq (sSet 1 (dBin catD (dVar 1) (dLst (qa0 (dCB (isxD xcls) (qa0 (dVar 0) (qa0 (dC (.fn "NoThing" 0)) dNil))) (qa0 (dCB (isxD xcls) (qa0 (dVar 0) (qa0 (dC (.fn "NoSquare" 0)) dNil))) (qa0 (dCB (isxD xcls) (qa0 (dVar 0) (qa0 (dC (.fn "NoPlaces" 0)) dNil))) (qa0 (dCB (isxD xcls) (qa0 (dVar 0) (qa0 (dC (.fn "TooMany" 0)) dNil))) dNil))))))) (sSeq (sSet 1 (dBin catD (dVar 1) (dLst (qa0 (dCB (isxD xcls) (qa0 (dVar 0) (qa0 (dC (.fn "NoName" 0)) dNil))) (qa0 (dCB (isxD xcls) (qa0 (dVar 0) (qa0 (dC (.fn "NoDeed" 0)) dNil))) (qa0 (dCB (isxD xcls) (qa0 (dVar 0) (qa0 (dC (.fn "NoRow" 0)) dNil))) dNil)))))) (sSeq (sIf (dOrT (dBl (dBin neD (dCount (dVar 1) (dC (.bl true))) (dC (.int 1)))) (qca (dBl (dCB (isxD xcls) (qa0 (dVar 0) (qa0 (dC (.ty "ValueError")) dNil)))))) (sRet (dC (.str "other"))) qb5) (sSeq (sSet 2 (dLst (qa0 (dC (.str "web")) (qa0 (dC (.str "text")) (qa0 (dC (.str "numbers")) (qa0 (dC (.str "field")) (qa0 (dC (.str "thing")) (qa0 (dC (.str "square")) (qa0 (dC (.str "places")) (qa0 (dC (.str "many")) (qa0 (dC (.str "name")) (qa0 (dC (.str "deed")) (qa0 (dC (.str "row")) dNil))))))))))))) (sRet (dBin ixD (dVar 2) (dIndex (dVar 1) (dC (.bl true))))))))))
def qcF:List D→LC→R D:=fnD 3 false qbN
def qcr:dF :=
 (sRet (dBin ixD (qaO (dSeq (dLst (dInts [2,3,5,7,11,13,17,19,23,29,31,37,41,43,47]))) [none,some 0] (qa5 0) (dBl (dBin eqD (dBin modD (dVar 1) (dVar 0)) (dC (.int 0)))) (dVar 0)) (dC (.int 0))))
def qas:List D→LC→R D:=fnD 1 false qcr
def qc8:dF :=
 (sSeq (sSet 1 (dC (.int 0))) (sSeq (qcA (dBl (dBin gtD (dVar 0) (dC (.int 1)))) (sSeq (sSet 0 (dBin divD (dVar 0) (qa7 1 qas (qa0 (dVar 0) dNil)))) (sSet 1 (dBin addD (dVar 1) (dC (.int 1))))) 10) (sRet (dVar 1))))
def qaJ:List D→LC→R D:=fnD 2 false qc8
def qdq:dF :=
 (sSeq (sSet 3 (qdV dNil)) (sSeq (sFor (qaD (qa0 (dVar 2) dNil)) (qa5 4) (sSeq (qc9 (qbC (dVar 3) (dBin modD (dVar 0) (dVar 1)))) (sSet 0 (dBin divD (dVar 0) (dVar 1))))) (sRet (dVar 3))))
def qaw:List D→LC→R D:=fnD 5 false qdq
def qc7:dF :=
 (sSeq (sSet 2 (dC (.int 0))) (sSeq (sFor (qaD (qa0 (dCB lenD (qa0 (dVar 0) dNil)) dNil)) (qa5 3) (sSet 2 (dBin addD (dBin mulD (dVar 2) (dVar 1)) (dBin ixD (dVar 0) (dBin subD (dBin subD (dCB lenD (qa0 (dVar 0) dNil)) (dC (.int 1))) (dVar 3)))))) (sRet (dVar 2))))
def qbz:List D→LC→R D:=fnD 4 false qc7
def qaq:dF :=
 (sSeq (sSet 3 (dBin repM (dLst (qa0 (dC (.int 0)) dNil)) (dBin subD (dBin addD (dCB lenD (qa0 (dVar 0) dNil)) (dCB lenD (qa0 (dVar 1) dNil))) (dC (.int 1))))) (sSeq (sFor (qaD (qa0 (dCB lenD (qa0 (dVar 0) dNil)) dNil)) (qa5 4) (sFor (qaD (qa0 (dCB lenD (qa0 (dVar 1) dNil)) dNil)) (qa5 5) (sAsg (dBin modD (dBin addD (dBin ixD (dVar 3) (dBin addD (dVar 4) (dVar 5))) (dBin mulD (dBin ixD (dVar 0) (dVar 4)) (dBin ixD (dVar 1) (dVar 5)))) (dVar 2)) (qgD (dVar 3) (dBin addD (dVar 4) (dVar 5)))))) (sRet (dVar 3))))
def qap:List D→LC→R D:=fnD 6 false qaq
def qaB:List D→LC→R D:=fnD 6 true qaq
def qbF:dF :=
 (sSeq (sSet 2 (dLst (qa0 (dLst dNil) dNil))) (sSeq (sFor (qaD (qa0 (dVar 0) dNil)) (qa5 3) (sSeq (sSet 4 (qdV dNil)) (sSeq (sFor (dSeq (dVar 2)) (qa5 5) (qc9 (qdu (dVar 4) (qaO (qaD (qa0 (dVar 1) dNil)) [none,some 5] (qa5 0) dYes (dBin catD (dVar 1) (dLst (qa0 (dVar 0) dNil))))))) (sSet 2 (dVar 4))))) (sRet (qaO (dSeq (dVar 2)) [none] (qa5 0) dYes (dBin catD (dVar 0) (dLst (qa0 (dC (.int 1)) dNil)))))))
def qbA:List D→LC→R D:=fnD 6 false qbF
def qcS:dF :=
 (sSeq (sSet 1 (qa7 1 qas (qa0 (dVar 0) dNil))) (sSeq (sSet 2 (qa7 1 qaJ (qa0 (dVar 0) dNil))) (sSeq (sIf (dBl (dBin eqD (dVar 2) (dC (.int 1)))) (sRet (dLst (qa0 (dC (.int 0)) (qa0 (dC (.int 1)) dNil)))) qb5) (sSeq (sSet 3 (qdV dNil)) (sSeq (sFor (qfs (qa0 (dC (.int 1)) (qa0 (dBin addD (dBin divD (dVar 2) (dC (.int 2))) (dC (.int 1))) dNil))) (qa5 4) (sFor (dSeq (qa7 2 qbA (qa0 (dVar 4) (qa0 (dVar 1) dNil)))) (qa5 5) (qc9 (qdu (dVar 3) (qaO (dSeq (qa7 2 qbA (qa0 (dBin subD (dVar 2) (dVar 4)) (qa0 (dVar 1) dNil)))) [none,some 5,some 1] (qa5 0) dYes (qa7 3 qap (qa0 (dVar 1) (qa0 (dVar 0) (qa0 (dVar 2) dNil))))))))) (sSeq (sSet 6 (dC (.int 0))) (sSeq (qcA (dBl (dBin inD (dBin catD (qa7 3 qaw (qa0 (dVar 6) (qa0 (dVar 1) (qa0 (dVar 2) dNil)))) (dLst (qa0 (dC (.int 1)) dNil))) (dVar 3))) (sSet 6 (dBin addD (dVar 6) (dC (.int 1)))) 60) (sRet (dBin catD (qa7 3 qaw (qa0 (dVar 6) (qa0 (dVar 1) (qa0 (dVar 2) dNil)))) (dLst (qa0 (dC (.int 1)) dNil)))))))))))
def qcP:List D→LC→R D:=fnD 7 false qcS
def qbM:dF :=
 (sSeq (sSet 4 (qa7 1 qas (qa0 (dVar 0) dNil))) (sSeq (sSet 5 (dBin subD (dCB lenD (qa0 (dVar 1) dNil)) (dC (.int 1)))) (sSeq (sSet 6 (qa7 3 qaB (qa0 (qa7 3 qaw (qa0 (dVar 2) (qa0 (dVar 4) (qa0 (dVar 5) dNil)))) (qa0 (qa7 3 qaw (qa0 (dVar 3) (qa0 (dVar 4) (qa0 (dVar 5) dNil)))) (qa0 (dVar 4) dNil))))) (sSeq (sFor (dRng3 (qa0 (dBin subD (dCB lenD (qa0 (dVar 6) dNil)) (dC (.int 1))) (qa0 (dBin subD (dVar 5) (dC (.int 1))) (qa0 (dBin subD (dC (.int 0)) (dC (.int 1))) dNil)))) (qa5 7) (sSeq (sSet 8 (dBin ixD (dVar 6) (dVar 7))) (sFor (qaD (qa0 (dBin addD (dVar 5) (dC (.int 1))) dNil)) (qa5 9) (sSeq (sSet 10 (dBin addD (dBin subD (dVar 7) (dVar 5)) (dVar 9))) (sAsg (dBin modD (dBin subD (dBin ixD (dVar 6) (dVar 10)) (dBin mulD (dVar 8) (dBin ixD (dVar 1) (dVar 9)))) (dVar 4)) (qgD (dVar 6) (dVar 10))))))) (sRet (qa7 2 qbz (qa0 (dSl (dVar 6) dNoP (dPart (dVar 5))) (qa0 (dVar 4) dNil))))))))
def qbK:List D→LC→R D:=fnD 11 false qbM
def qdp:dF :=
 (sSeq (sSet 4 (qa7 1 qas (qa0 (dVar 0) dNil))) (sSeq (sSet 5 (qa7 1 qaJ (qa0 (dVar 0) dNil))) (sSeq (sSet 6 (dLst (qa0 (qa7 3 qaw (qa0 (dVar 1) (qa0 (dVar 4) (qa0 (dVar 5) dNil)))) (qa0 (qa7 3 qaw (qa0 (dVar 2) (qa0 (dVar 4) (qa0 (dVar 5) dNil)))) dNil)))) (sRet (qa7 2 qbz (qa0 (qaO (qaD (qa0 (dVar 5) dNil)) [none,some 4,some 3,some 6] (qa5 0) dYes (dBin modD (dBin addD (dBin ixD (dBin ixD (dVar 3) (dC (.int 0))) (dVar 0)) (dBin mulD (dVar 2) (dBin ixD (dBin ixD (dVar 3) (dC (.int 1))) (dVar 0)))) (dVar 1))) (qa0 (dVar 4) dNil)))))))
def qcw:List D→LC→R D:=fnD 7 false qdp
def qaE:dF :=
 (sSeq (sSet 1 (qa7 1 qcP (qa0 (dVar 0) dNil))) (sRet (qaO (qaD (qa0 (dVar 0) dNil)) [none,some 0,some 1] (qa5 0) dYes (qaO (qaD (qa0 (dVar 1) dNil)) [none,some 1,some 2,some 0] (qa5 0) dYes (qa7 4 qbK (qa0 (dVar 1) (qa0 (dVar 2) (qa0 (dVar 3) (qa0 (dVar 0) dNil)))))))))
def qaN:List D→LC→R D:=fnD 2 false qaE
def qau:dF :=
 (sSeq (sSet 1 (qa7 1 qaN (qa0 (dVar 0) dNil))) (sSeq (sSet 2 (qdV dNil)) (sSeq (sFor (qfs (qa0 (dC (.int 1)) (qa0 (dVar 0) dNil))) (qa5 3) (sSeq (sSet 4 (qdV dNil)) (sSeq (sFor (qaD (qa0 (dVar 0) dNil)) (qa5 5) (qc9 (qbC (dVar 4) (dCB qcu (qa0 (qaO (qaD (qa0 (dVar 0) dNil)) [none,some 0,some 5,some 1,some 3] (qa5 0) dYes (qa7 4 qcw (qa0 (dVar 1) (qa0 (dBin ixD (dBin ixD (dVar 3) (dVar 4)) (dVar 2)) (qa0 (dVar 0) (qa0 (dC (.int 1)) dNil)))))) dNil))))) (qc9 (qbC (dVar 2) (dCB qcu (qa0 (dVar 4) dNil))))))) (sRet (dVar 2)))))
def qaR:List D→LC→R D:=fnD 6 false qau
def qc6:dF :=
 (sTry xcls 1 2 (sRet (qa7 1 qaS (qa0 (dVar 0) dNil))) (xCall 1 qbw (qa0 (dVar 0) dNil)) (qa7 1 qcF (qa0 (dVar 1) dNil)))
def qbr:List D→LC→R D:=fnD 2 true qc6
def b_law:dF :=
 (sSeq (sFor (qaD (qa0 (dCB max2D (qa0 (dC (.int 1)) (qa0 (dCB min2D (qa0 (dCB lenD (qa0 (dVar 0) dNil)) (qa0 (dC (.int 8)) dNil))) dNil))) dNil)) (qa5 1) (sSeq (sSet 2 (qa7 1 qdl (qa0 (qa7 2 qbL (qa0 (dVar 0) (qa0 (dVar 1) dNil))) dNil))) (sSeq (sSet 3 (dBin ixD (dLst (qa0 (dC (.int 2)) (qa0 (dC (.int 3)) (qa0 (dC (.int 4)) (qa0 (dC (.int 5)) (qa0 (dC (.int 7)) (qa0 (qa7 2 qc3 (qa0 (dVar 2) (qa0 (dC (.int 14)) dNil))) (qa0 (dC (.int 16)) (qa0 (dC (.int 49)) (qa0 (dC (.bl true)) (qa0 (dC .non) (qa0 (dC (.str "4")) (qa0 (dTup (qa0 (dC (.int 3)) dNil)) (qa0 (dBin subD (dC (.int 0)) (dC (.int 3))) (qa0 (dBin powD (dC (.int 10)) (dC (.int 20))) dNil))))))))))))))) (qa7 2 qc3 (qa0 (dVar 2) (qa0 (dC (.int 14)) dNil))))) (sSeq (sSet 4 (dC (.str "field"))) (sSeq (sIf (dAndT (dBl (qa7 1 qar (qa0 (dVar 3) dNil))) (dBl (dBin inD (dVar 3) (dTup (qa0 (dC (.int 2)) (qa0 (dC (.int 3)) (qa0 (dC (.int 4)) (qa0 (dC (.int 5)) (qa0 (dC (.int 7)) dNil))))))))) (sSet 4 (qa7 1 qaR (qa0 (dVar 3) dNil))) qb5) (sSeq (sSet 5 (qa7 1 qbr (qa0 (dVar 3) dNil))) (sSeq (sIf (qca (dBl (qa7 2 (qad 4) (qa0 (dVar 5) (qa0 (dVar 4) dNil))))) (sRet (dC (.bl false))) qb5) (sIf (dBl (dBin nevD (dVar 4) (dC (.str "field")))) (sSeq (sFor (qaD (qa0 (dCB lenD (qa0 (dVar 5) dNil)) dNil)) (qa5 6) (sIf (qca (dBl (dCB allD (qa0 (qaO (qaD (qa0 (dVar 6) dNil)) [none,some 5,some 6] (qa5 0) dYes (qa7 2 qds (qa0 (dBin ixD (dVar 1) (dVar 2)) (qa0 (dBin ixD (dVar 1) (dVar 0)) dNil)))) dNil)))) (sRet (dC (.bl false))) qb5)) (sSeq (qc9 (qbC (dVar 5) (dTup dNil))) (sIf (qca (dBl (qa7 2 (qad 4) (qa0 (qa7 1 qbr (qa0 (dVar 3) dNil)) (qa0 (dVar 4) dNil))))) (sRet (dC (.bl false))) qb5))) qb5)))))))) (sRet (dC (.bl true))))
def m_law:List D→LC→R D:=fnD 7 false b_law
end Ev
namespace Ev
open PySem L2 PyProof.Rows
set_option genInjectivity false in
set_option genSizeOfSpec false in
structure Tx (K:PySem.W.Frag) (mg:Str→Option Value) where
 a_is_whole:Addr
 fd_is_whole:FuncData
 d_is_whole:Def K mg "is_whole" qcL ["thing"] a_is_whole fd_is_whole
 n_is_whole:PySem.W.nsIn K mainGlobals "is_whole"=some (some (.ref a_is_whole))
 a_is_whole_within:Addr
 fd_is_whole_within:FuncData
 d_is_whole_within:Def K mg "is_whole_within" qaL ["thing","least","most"] a_is_whole_within fd_is_whole_within
 n_is_whole_within:PySem.W.nsIn K mainGlobals "is_whole_within"=some (some (.ref a_is_whole_within))
 a_is_field:Addr
 fd_is_field:FuncData
 d_is_field:Def K mg "is_field" qcM ["thing"] a_is_field fd_is_field
 n_is_field:PySem.W.nsIn K mainGlobals "is_field"=some (some (.ref a_is_field))
 a_require_field:Addr
 fd_require_field:FuncData
 d_require_field:Def K mg "require_field" qbc ["thing"] a_require_field fd_require_field
 n_require_field:PySem.W.nsIn K mainGlobals "require_field"=some (some (.ref a_require_field))
 a_require_things:Addr
 fd_require_things:FuncData
 d_require_things:Def K mg "require_things" qaW ["q","things"] a_require_things fd_require_things
 n_require_things:PySem.W.nsIn K mainGlobals "require_things"=some (some (.ref a_require_things))
 a_row_of:Addr
 fd_row_of:FuncData
 d_row_of:Def K mg "row_of" qdJ ["q","number"] a_row_of fd_row_of
 n_row_of:PySem.W.nsIn K mainGlobals "row_of"=some (some (.ref a_row_of))
 a_number_of:Addr
 fd_number_of:FuncData
 d_number_of:Def K mg "number_of" qcg ["q","row"] a_number_of fd_number_of
 n_number_of:PySem.W.nsIn K mainGlobals "number_of"=some (some (.ref a_number_of))
 a_added:Addr
 fd_added:FuncData
 d_added:Def K mg "added" qet ["q","one","other"] a_added fd_added
 n_added:PySem.W.nsIn K mainGlobals "added"=some (some (.ref a_added))
 a_times_letter:Addr
 fd_times_letter:FuncData
 d_times_letter:Def K mg "times_letter" qbo ["q","row"] a_times_letter fd_times_letter
 n_times_letter:PySem.W.nsIn K mainGlobals "times_letter"=some (some (.ref a_times_letter))
 a_multiplied:Addr
 fd_multiplied:FuncData
 d_multiplied:Def K mg "multiplied" qbY ["q","one","other"] a_multiplied fd_multiplied
 n_multiplied:PySem.W.nsIn K mainGlobals "multiplied"=some (some (.ref a_multiplied))
 a_holds_each_once:Addr
 fd_holds_each_once:FuncData
 d_holds_each_once:Def K mg "holds_each_once" qaM ["thing","many"] a_holds_each_once fd_holds_each_once
 n_holds_each_once:PySem.W.nsIn K mainGlobals "holds_each_once"=some (some (.ref a_holds_each_once))
 a_column_of:Addr
 fd_column_of:FuncData
 d_column_of:Def K mg "column_of" qcm ["rows","y"] a_column_of fd_column_of
 n_column_of:PySem.W.nsIn K mainGlobals "column_of"=some (some (.ref a_column_of))
 a_is_square:Addr
 fd_is_square:FuncData
 d_is_square:Def K mg "is_square" qck ["thing"] a_is_square fd_is_square
 n_is_square:PySem.W.nsIn K mainGlobals "is_square"=some (some (.ref a_is_square))
 a_require_square:Addr
 fd_require_square:FuncData
 d_require_square:Def K mg "require_square" qaX ["thing"] a_require_square fd_require_square
 n_require_square:PySem.W.nsIn K mainGlobals "require_square"=some (some (.ref a_require_square))
 a_sign_in:Addr
 fd_sign_in:FuncData
 d_sign_in:Def K mg "sign_in" qde ["square","cell"] a_sign_in fd_sign_in
 n_sign_in:PySem.W.nsIn K mainGlobals "sign_in"=some (some (.ref a_sign_in))
 a_lie_across:Addr
 fd_lie_across:FuncData
 d_lie_across:Def K mg "lie_across" qbZ ["one","other"] a_lie_across fd_lie_across
 n_lie_across:PySem.W.nsIn K mainGlobals "lie_across"=some (some (.ref a_lie_across))
 a_across:Addr
 fd_across:FuncData
 d_across:Def K mg "across" qdK ["one","other"] a_across fd_across
 n_across:PySem.W.nsIn K mainGlobals "across"=some (some (.ref a_across))
 a_field_row:Addr
 fd_field_row:FuncData
 d_field_row:Def K mg "field_row" qcl ["q","factor","x"] a_field_row fd_field_row
 n_field_row:PySem.W.nsIn K mainGlobals "field_row"=some (some (.ref a_field_row))
 a_field_square:Addr
 fd_field_square:FuncData
 d_field_square:Def K mg "field_square" qbp ["q","factor"] a_field_square fd_field_square
 n_field_square:PySem.W.nsIn K mainGlobals "field_square"=some (some (.ref a_field_square))
 a_field_squares:Addr
 fd_field_squares:FuncData
 d_field_squares:Def K mg "field_squares" qbd ["q"] a_field_squares fd_field_squares
 n_field_squares:PySem.W.nsIn K mainGlobals "field_squares"=some (some (.ref a_field_squares))
 a_law_cell_at:Addr
 fd_law_cell_at:FuncData
 d_law_cell_at:Def K mg "_law_cell_at" qbI ["script","k"] a_law_cell_at fd_law_cell_at
 n_law_cell_at:PySem.W.nsIn K mainGlobals "_law_cell_at"=some (some (.ref a_law_cell_at))
 a_law_pot:Addr
 fd_law_pot:FuncData
 d_law_pot:Def K mg "_law_pot" qdh ["cell"] a_law_pot fd_law_pot
 n_law_pot:PySem.W.nsIn K mainGlobals "_law_pot"=some (some (.ref a_law_pot))
 a_law_take:Addr
 fd_law_take:FuncData
 d_law_take:Def K mg "_law_take" qcI ["pot","far"] a_law_take fd_law_take
 n_law_take:PySem.W.nsIn K mainGlobals "_law_take"=some (some (.ref a_law_take))
 a_law_whole:Addr
 fd_law_whole:FuncData
 d_law_whole:Def K mg "_law_whole" qch ["found"] a_law_whole fd_law_whole
 n_law_whole:PySem.W.nsIn K mainGlobals "_law_whole"=some (some (.ref a_law_whole))
 a_law_same:Addr
 fd_law_same:FuncData
 d_law_same:Def K mg "_law_same" qcJ ["found","due"] a_law_same fd_law_same
 n_law_same:PySem.W.nsIn K mainGlobals "_law_same"=some (some (.ref a_law_same))
 a_law_kind_of:Addr
 fd_law_kind_of:FuncData
 d_law_kind_of:Def K mg "_law_kind_of" qbH ["e"] a_law_kind_of fd_law_kind_of
 n_law_kind_of:PySem.W.nsIn K mainGlobals "_law_kind_of"=some (some (.ref a_law_kind_of))
 a_law_prime:Addr
 fd_law_prime:FuncData
 d_law_prime:Def K mg "_law_prime" qci ["q"] a_law_prime fd_law_prime
 n_law_prime:PySem.W.nsIn K mainGlobals "_law_prime"=some (some (.ref a_law_prime))
 a_law_degree:Addr
 fd_law_degree:FuncData
 d_law_degree:Def K mg "_law_degree" qc1 ["q"] a_law_degree fd_law_degree
 n_law_degree:PySem.W.nsIn K mainGlobals "_law_degree"=some (some (.ref a_law_degree))
 a_law_row:Addr
 fd_law_row:FuncData
 d_law_row:Def K mg "_law_row" qdg ["number","p","many"] a_law_row fd_law_row
 n_law_row:PySem.W.nsIn K mainGlobals "_law_row"=some (some (.ref a_law_row))
 a_law_number:Addr
 fd_law_number:FuncData
 d_law_number:Def K mg "_law_number" qc0 ["row","p"] a_law_number fd_law_number
 n_law_number:PySem.W.nsIn K mainGlobals "_law_number"=some (some (.ref a_law_number))
 a_law_sums_product:Addr
 fd_law_sums_product:FuncData
 d_law_sums_product:Def K mg "_law_sums_product" qaF ["one","other","p"] a_law_sums_product fd_law_sums_product
 n_law_sums_product:PySem.W.nsIn K mainGlobals "_law_sums_product"=some (some (.ref a_law_sums_product))
 a_law_heads:Addr
 fd_law_heads:FuncData
 d_law_heads:Def K mg "_law_heads" qcj ["many","p"] a_law_heads fd_law_heads
 n_law_heads:PySem.W.nsIn K mainGlobals "_law_heads"=some (some (.ref a_law_heads))
 a_law_form:Addr
 fd_law_form:FuncData
 d_law_form:Def K mg "_law_form" qcK ["q"] a_law_form fd_law_form
 n_law_form:PySem.W.nsIn K mainGlobals "_law_form"=some (some (.ref a_law_form))
 a_law_product:Addr
 fd_law_product:FuncData
 d_law_product:Def K mg "_law_product" qbG ["q","form","one","other"] a_law_product fd_law_product
 n_law_product:PySem.W.nsIn K mainGlobals "_law_product"=some (some (.ref a_law_product))
 a_law_sum:Addr
 fd_law_sum:FuncData
 d_law_sum:Def K mg "_law_sum" qdf ["q","one","other","sign"] a_law_sum fd_law_sum
 n_law_sum:PySem.W.nsIn K mainGlobals "_law_sum"=some (some (.ref a_law_sum))
 a_law_products_of:Addr
 fd_law_products_of:FuncData
 d_law_products_of:Def K mg "_law_products_of" qaK ["q"] a_law_products_of fd_law_products_of
 n_law_products_of:PySem.W.nsIn K mainGlobals "_law_products_of"=some (some (.ref a_law_products_of))
 a_law_field_squares:Addr
 fd_law_field_squares:FuncData
 d_law_field_squares:Def K mg "_law_field_squares" qaA ["q"] a_law_field_squares fd_law_field_squares
 n_law_field_squares:PySem.W.nsIn K mainGlobals "_law_field_squares"=some (some (.ref a_law_field_squares))
 a_law_told:Addr
 fd_law_told:FuncData
 d_law_told:Def K mg "_law_told" qcH ["q"] a_law_told fd_law_told
 n_law_told:PySem.W.nsIn K mainGlobals "_law_told"=some (some (.ref a_law_told))
 a_law:Addr
 fd_law:FuncData
 d_law:Def K mg "law" s_law ["script"] a_law fd_law
 n_law:PySem.W.nsIn K mainGlobals "law"=some (some (.ref a_law))
 nb_ValueError:mg "ValueError"=none
 nb_all:mg "all"=none
 nb_bool:mg "bool"=none
 nb_int:mg "int"=none
 nb_isinstance:mg "isinstance"=none
 nb_len:mg "len"=none
 nb_list:mg "list"=none
 nb_max:mg "max"=none
 nb_min:mg "min"=none
 nb_range:mg "range"=none
 nb_reversed:mg "reversed"=none
 nb_set:mg "set"=none
 nb_str:mg "str"=none
 nb_tuple:mg "tuple"=none
 nb_zip:mg "zip"=none
 tk_MOST_SIGNS:Tok
 g_MOST_SIGNS:mg "MOST_SIGNS"=some (.int 7 tk_MOST_SIGNS)
 ad_FIELDS:Addr
 g_FIELDS:mg "FIELDS"=some (.ref ad_FIELDS)
 n_FIELDS:PySem.W.nsIn K mainGlobals "FIELDS"=some (some (.ref ad_FIELDS))
 t_FIELDS:qfr K ad_FIELDS qcb=true
 c_NoWeb:Addr
 gc_NoWeb:mg "NoWeb"=some (.ref c_NoWeb)
 nc_NoWeb:PySem.W.nsIn K mainGlobals "NoWeb"=some (some (.ref c_NoWeb))
 c_NoText:Addr
 gc_NoText:mg "NoText"=some (.ref c_NoText)
 nc_NoText:PySem.W.nsIn K mainGlobals "NoText"=some (some (.ref c_NoText))
 c_NoNumbers:Addr
 gc_NoNumbers:mg "NoNumbers"=some (.ref c_NoNumbers)
 nc_NoNumbers:PySem.W.nsIn K mainGlobals "NoNumbers"=some (some (.ref c_NoNumbers))
 c_NoField:Addr
 gc_NoField:mg "NoField"=some (.ref c_NoField)
 nc_NoField:PySem.W.nsIn K mainGlobals "NoField"=some (some (.ref c_NoField))
 c_NoThing:Addr
 gc_NoThing:mg "NoThing"=some (.ref c_NoThing)
 nc_NoThing:PySem.W.nsIn K mainGlobals "NoThing"=some (some (.ref c_NoThing))
 c_NoSquare:Addr
 gc_NoSquare:mg "NoSquare"=some (.ref c_NoSquare)
 nc_NoSquare:PySem.W.nsIn K mainGlobals "NoSquare"=some (some (.ref c_NoSquare))
 c_NoPlaces:Addr
 gc_NoPlaces:mg "NoPlaces"=some (.ref c_NoPlaces)
 nc_NoPlaces:PySem.W.nsIn K mainGlobals "NoPlaces"=some (some (.ref c_NoPlaces))
 c_TooMany:Addr
 gc_TooMany:mg "TooMany"=some (.ref c_TooMany)
 nc_TooMany:PySem.W.nsIn K mainGlobals "TooMany"=some (some (.ref c_TooMany))
 c_NoName:Addr
 gc_NoName:mg "NoName"=some (.ref c_NoName)
 nc_NoName:PySem.W.nsIn K mainGlobals "NoName"=some (some (.ref c_NoName))
 c_NoDeed:Addr
 gc_NoDeed:mg "NoDeed"=some (.ref c_NoDeed)
 nc_NoDeed:PySem.W.nsIn K mainGlobals "NoDeed"=some (some (.ref c_NoDeed))
 c_NoRow:Addr
 gc_NoRow:mg "NoRow"=some (.ref c_NoRow)
 nc_NoRow:PySem.W.nsIn K mainGlobals "NoRow"=some (some (.ref c_NoRow))
 c_WebError:Addr
 gc_WebError:mg "WebError"=some (.ref c_WebError)
 nc_WebError:PySem.W.nsIn K mainGlobals "WebError"=some (some (.ref c_WebError))
 xc_NoField:XCls K mg "NoField" veMro "ValueError.__new__"
 xtab:XTab K xcls
 xw:xwIn K xcls c_WebError=true
section
variable {P:Program} {w:World} {K:PySem.W.Frag} {mg:Str→Option Value} {base:Heap}
theorem sc_is_whole:qag ["thing"] ["thing"] (qa4 qcL):=⟨rfl,rfl,rfl,by decide +kernel,rfl,by decide +kernel,by decide +kernel⟩
theorem qfb (T:Tx K mg):FnOk P w K mg base CX0 1 T.a_is_whole T.fd_is_whole ["thing"] (spD K 1 qaY) :=
 qbj (k:=0) T.d_is_whole.fn sc_is_whole rfl rfl fun cdv A outer s H E hr=>by
  show PSsd _ _ qbg
  unfold qbg
  exact (qaa (qal (qee (qa8 qcY T.nb_isinstance boot_isinstance (qa1 (qa2 0) (qa1 (qdR rfl T.nb_int boot_int) qa3))) (qed (pd_not (qa8 qcY T.nb_isinstance boot_isinstance (qa1 (qa2 0) (qa1 (qdR rfl T.nb_bool boot_bool) qa3))))))))
theorem qea:qag ["thing","least","most"] ["thing","least","most"] (qa4 qaL):=⟨rfl,rfl,rfl,by decide +kernel,rfl,by decide +kernel,by decide +kernel⟩
theorem qd8 (T:Tx K mg):FnOk P w K mg base CX0 2 T.a_is_whole_within T.fd_is_whole_within ["thing","least","most"] (spD K 3 qae) :=
 qbj (k:=1) T.d_is_whole_within.fn qea rfl rfl fun cdv A outer s H E hr=>by
  show PSsd _ _ qax
  unfold qax
  exact (qaa (qal (qee (qat T.d_is_whole (qfb T) (hr.mono (by decide)) (qa1 (qa2 0) qa3)) (qed (pd_chain od_le od_le (qa2 1) (qa2 0) (qa2 2))))))
theorem sc_is_field:qag ["thing"] ["thing"] (qa4 qcM):=⟨rfl,rfl,rfl,by decide +kernel,rfl,by decide +kernel,by decide +kernel⟩
theorem qe3 (T:Tx K mg):FnOk P w K mg base CX0 2 T.a_is_field T.fd_is_field ["thing"] (spD K 1 qaC) :=
 qbj (k:=1) T.d_is_field.fn sc_is_field rfl rfl fun cdv A outer s H E hr=>by
  show PSsd _ _ qbO
  unfold qbO
  exact (qaa (qal (qee (qat T.d_is_whole (qfb T) (hr.mono (by decide)) (qa1 (qa2 0) qa3)) (qed (qeF (od_inF T.n_FIELDS T.t_FIELDS) (qa2 0) (pd_gname T.g_FIELDS T.n_FIELDS))))))
theorem qeK:qag ["thing"] ["thing"] (qa4 qbc):=⟨rfl,rfl,rfl,by decide +kernel,rfl,by decide +kernel,by decide +kernel⟩
theorem qeN (T:Tx K mg):FnOk P w K mg base CX0 3 T.a_require_field T.fd_require_field ["thing"] (spD K 1 qcc) :=
 qbj (k:=2) T.d_require_field.fn qeK rfl rfl fun cdv A outer s H E hr=>by
  show PSsd _ _ qbf
  unfold qbf
  exact (qaa (qd2 (qcn (qbR (qat T.d_is_field (qe3 T) (hr.mono (by decide)) (qa1 (qa2 0) qa3)))) (qaa qe9) qbP))
theorem sc_require_things:qag ["q","things","thing"] ["q","things"] (qa4 qaW):=⟨rfl,rfl,rfl,by decide +kernel,rfl,by decide +kernel,by decide +kernel⟩
theorem qdi (T:Tx K mg):FnOk P w K mg base CX0 4 T.a_require_things T.fd_require_things ["q","things"] (spD K 2 qaH) :=
 qbj (k:=3) T.d_require_things.fn sc_require_things rfl rfl fun cdv A outer s H E hr=>by
  show PSsd _ _ qaZ
  unfold qaZ
  refine qa6 (qcy (qat T.d_require_field (qeN T) (hr.mono (by decide)) (qa1 (qa2 0) qa3))) ?_
  exact (qaa (qbS (id_tup (qa2 1)) (qai (i:=2) (hN:=sc_require_things.nd)) (qaa (qd2 (qcn (qbR (qat T.d_is_whole_within (qd8 T) (hr.mono (by decide)) (qa1 (qa2 2) (qa1 qac (qa1 (qab qcB (qa2 0) qac) qa3)))))) (qaa qe9) qbP))))
theorem sc_row_of:qag ["q","number","p","row","left","power"] ["q","number"] (qa4 qdJ):=⟨rfl,rfl,rfl,by decide +kernel,rfl,by decide +kernel,by decide +kernel⟩
theorem qdE (T:Tx K mg):FnOk P w K mg base CX0 1 T.a_row_of T.fd_row_of ["q","number"] (spD K 2 qbJ) :=
 qbj (k:=0) T.d_row_of.fn sc_row_of rfl rfl fun cdv A outer s H E hr=>by
  show PSsd _ _ qdP
  unfold qdP
  refine qa6 (qak (i:=2) (pd_fld T.g_FIELDS T.t_FIELDS (qa2 0)) (hN:=sc_row_of.nd)) ?_
  refine qa6 (qak (i:=3) (qdA qa3) (hN:=sc_row_of.nd)) ?_
  refine qa6 (qak (i:=4) (qa2 1) (hN:=sc_row_of.nd)) ?_
  refine qa6 (qbS (qaT (qa1 (pd_fld T.g_FIELDS T.t_FIELDS (qa2 0)) qa3) T.nb_range) (qai (i:=5) (hN:=sc_row_of.nd)) (qa6 (qcy (qdD (qa2 3) (qab qdk (qa2 4) (qa2 2)))) (qaa (qak (i:=4) (qab qfT (qa2 4) (qa2 2)) (hN:=sc_row_of.nd))))) ?_
  exact (qaa (qal (qa2 3)))
theorem sc_number_of:qag ["q","row","p","number","digit"] ["q","row"] (qa4 qcg):=⟨rfl,rfl,rfl,by decide +kernel,rfl,by decide +kernel,by decide +kernel⟩
theorem qeG (T:Tx K mg):FnOk P w K mg base CX0 1 T.a_number_of T.fd_number_of ["q","row"] (spD K 2 qbW) :=
 qbj (k:=0) T.d_number_of.fn sc_number_of rfl rfl fun cdv A outer s H E hr=>by
  show PSsd _ _ qcq
  unfold qcq
  refine qa6 (qak (i:=2) (pd_fld T.g_FIELDS T.t_FIELDS (qa2 0)) (hN:=sc_number_of.nd)) ?_
  refine qa6 (qak (i:=3) qac (hN:=sc_number_of.nd)) ?_
  refine qa6 (qbS (id_rev (qa1 (qa2 1) qa3) T.nb_reversed) (qai (i:=4) (hN:=sc_number_of.nd)) (qaa (qak (i:=3) (qab qby (qab qda (qa2 3) (qa2 2)) (qab qdk (qa2 4) (qa2 2))) (hN:=sc_number_of.nd)))) ?_
  exact (qaa (qal (qa2 3)))
theorem sc_added:qag ["q","one","other"] ["q","one","other"] (qa4 qet):=⟨rfl,rfl,rfl,by decide +kernel,rfl,by decide +kernel,by decide +kernel⟩
theorem ok_added (T:Tx K mg):FnOk P w K mg base CX0 5 T.a_added T.fd_added ["q","one","other"] (spD K 3 qey) :=
 qbj (k:=4) T.d_added.fn sc_added rfl rfl fun cdv A outer s H E hr=>by
  show PSsd _ _ qeA
  unfold qeA
  refine qa6 (qcy (qat T.d_require_things (qdi T) (hr.mono (by decide)) (qa1 (qa2 0) (qa1 (qfN (qa1 (qa2 1) (qa1 (qa2 2) qa3))) qa3)))) ?_
  exact (qaa (qal (qat T.d_number_of (qeG T) (hr.mono (by decide)) (qa1 (qa2 0) (qa1 (qbh (N':=["x","y"]) (pick:=[none,none]) (CompScope.of rfl rfl) (qgz (qa1 (qat T.d_row_of (qdE T) (hr.mono (by decide)) (qa1 (qa2 0) (qa1 (qa2 1) qa3))) (qa1 (qat T.d_row_of (qdE T) (hr.mono (by decide)) (qa1 (qa2 0) (qa1 (qa2 2) qa3))) qa3)) T.nb_zip) (fun _ _ _ _ _ _=>(gd_tup (n:=2) (qdb (qai (i:=0) (hN:=(by decide +kernel:List.Nodup (["x","y"]:List Str)))) (qdb (qai (i:=1) (hN:=(by decide +kernel:List.Nodup (["x","y"]:List Str)))) qgC)))) (fun _ _ _ _ _ _=>qaG) (fun _ _ _ _ _ _=>(qab qby (qa2 0) (qa2 1)))) qa3)))))
theorem sc_times_letter:qag ["q","row","low"] ["q","row"] (qa4 qbo):=⟨rfl,rfl,rfl,by decide +kernel,rfl,by decide +kernel,by decide +kernel⟩
theorem qf8 (T:Tx K mg):FnOk P w K mg base CX0 2 T.a_times_letter T.fd_times_letter ["q","row"] (spD K 2 qbq) :=
 qbj (k:=1) T.d_times_letter.fn sc_times_letter rfl rfl fun cdv A outer s H E hr=>by
  show PSsd _ _ qbt
  unfold qbt
  refine qa6 (qak (i:=2) (qat T.d_row_of (qdE T) (hr.mono (by decide)) (qa1 (qa2 0) (qa1 (pd_fld T.g_FIELDS T.t_FIELDS (qa2 0)) qa3))) (hN:=sc_times_letter.nd)) ?_
  exact (qaa (qal (qbh (N':=["below","digit","row"]) (pick:=[none,none,some 1]) (CompScope.of rfl rfl) (qgz (qa1 (qab qff (qcf (qa1 qac qa3)) (qa2 1)) (qa1 (qa2 2) qa3)) T.nb_zip) (fun _ _ _ _ _ _=>(gd_tup (n:=2) (qdb (qai (i:=0) (hN:=(by decide +kernel:List.Nodup (["below","digit","row"]:List Str)))) (qdb (qai (i:=1) (hN:=(by decide +kernel:List.Nodup (["below","digit","row"]:List Str)))) qgC)))) (fun _ _ _ _ _ _=>qaG) (fun _ _ _ _ _ _=>(qab qcB (qa2 0) (qab qda (qce qbb (qa2 2) (pd_un ud_neg qac)) (qa2 1)))))))
theorem sc_multiplied:qag ["q","one","other","row","product","digit"] ["q","one","other"] (qa4 qbY):=⟨rfl,rfl,rfl,by decide +kernel,rfl,by decide +kernel,by decide +kernel⟩
theorem qgn (T:Tx K mg):FnOk P w K mg base CX0 5 T.a_multiplied T.fd_multiplied ["q","one","other"] (spD K 3 qc2) :=
 qbj (k:=4) T.d_multiplied.fn sc_multiplied rfl rfl fun cdv A outer s H E hr=>by
  show PSsd _ _ qc5
  unfold qc5
  refine qa6 (qcy (qat T.d_require_things (qdi T) (hr.mono (by decide)) (qa1 (qa2 0) (qa1 (qfN (qa1 (qa2 1) (qa1 (qa2 2) qa3))) qa3)))) ?_
  refine qa6 (qak (i:=3) (qat T.d_row_of (qdE T) (hr.mono (by decide)) (qa1 (qa2 0) (qa1 (qa2 2) qa3))) (hN:=sc_multiplied.nd)) ?_
  refine qa6 (qak (i:=4) (qab od_rep (qcf (qa1 qac qa3)) (qa8 qbe T.nb_len boot_len (qa1 (qa2 3) qa3))) (hN:=sc_multiplied.nd)) ?_
  refine qa6 (qbS (id_rev (qa1 (qat T.d_row_of (qdE T) (hr.mono (by decide)) (qa1 (qa2 0) (qa1 (qa2 1) qa3))) qa3) T.nb_reversed) (qai (i:=5) (hN:=sc_multiplied.nd)) (qaa (sd_setComp (i:=4) (hN:=sc_multiplied.nd) (N':=["x","y","digit"]) (pick:=[none,none,some 5]) (CompScope.of rfl rfl) (qgz (qa1 (qat T.d_times_letter (qf8 T) (hr.mono (by decide)) (qa1 (qa2 0) (qa1 (qa2 4) qa3))) (qa1 (qa2 3) qa3)) T.nb_zip) (fun _ _ _ _ _ _=>(gd_tup (n:=2) (qdb (qai (i:=0) (hN:=(by decide +kernel:List.Nodup (["x","y","digit"]:List Str)))) (qdb (qai (i:=1) (hN:=(by decide +kernel:List.Nodup (["x","y","digit"]:List Str)))) qgC)))) (fun _ _ _ _ _ _=>qaG) (fun _ _ _ _ _ _=>(qab qby (qa2 0) (qab qda (qa2 2) (qa2 1))))))) ?_
  exact (qaa (qal (qat T.d_number_of (qeG T) (hr.mono (by decide)) (qa1 (qa2 0) (qa1 (qa2 4) qa3)))))
theorem qeb:qag ["thing","many"] ["thing","many"] (qa4 qaM):=⟨rfl,rfl,rfl,by decide +kernel,rfl,by decide +kernel,by decide +kernel⟩
theorem qd9 (T:Tx K mg):FnOk P w K mg base CX0 3 T.a_holds_each_once T.fd_holds_each_once ["thing","many"] (spD K 2 qa9) :=
 qbj (k:=2) T.d_holds_each_once.fn qeb rfl rfl fun cdv A outer s H E hr=>by
  show PSsd _ _ qaP
  unfold qaP
  refine qa6 (qd2 (PW.pt (qfO (qcn (qbR (qa8 qcY T.nb_isinstance boot_isinstance (qa1 (qa2 0) (qa1 (qdR rfl T.nb_tuple boot_tuple) qa3))))) (qfP (qbQ od_ne (qa8 qbe T.nb_len boot_len (qa1 (qa2 0) qa3)) (qa2 1))))) (qaa (qal qf6)) qbP) ?_
  exact (qaa (qal (qee (qa8 cd_all T.nb_all boot_all (qa1 (qbh (N':=["sign","many"]) (pick:=[none,some 1]) (CompScope.of rfl rfl) (id_tup (qa2 0)) (fun _ _ _ _ _ _=>(qai (i:=0) (hN:=(by decide +kernel:List.Nodup (["sign","many"]:List Str))))) (fun _ _ _ _ _ _=>qaG) (fun _ _ _ _ _ _=>(qat T.d_is_whole_within (qd8 T) (hr.mono (by decide)) (qa1 (qa2 0) (qa1 qac (qa1 (qab qcB (qa2 1) qac) qa3)))))) qa3)) (qed (qeF od_eq (pd_lensetN (qa1 (qa2 0) qa3) T.nb_len T.nb_set) (qa2 1))))))
theorem sc_column_of:qag ["rows","y"] ["rows","y"] (qa4 qcm):=⟨rfl,rfl,rfl,by decide +kernel,rfl,by decide +kernel,by decide +kernel⟩
theorem ok_column_of (T:Tx K mg):FnOk P w K mg base CX0 1 T.a_column_of T.fd_column_of ["rows","y"] (spD K 2 qb7) :=
 qbj (k:=0) T.d_column_of.fn sc_column_of rfl rfl fun cdv A outer s H E hr=>by
  show PSsd _ _ qct
  unfold qct
  exact (qaa (qal (qdC qep T.nb_tuple boot_tuple (qa1 (qbh (N':=["row","y"]) (pick:=[none,some 1]) (CompScope.of rfl rfl) (id_tup (qa2 0)) (fun _ _ _ _ _ _=>(qai (i:=0) (hN:=(by decide +kernel:List.Nodup (["row","y"]:List Str))))) (fun _ _ _ _ _ _=>qaG) (fun _ _ _ _ _ _=>(qce qbb (qa2 0) (qa2 1)))) qa3))))
theorem sc_is_square:qag ["thing","many"] ["thing"] (qa4 qck):=⟨rfl,rfl,rfl,by decide +kernel,rfl,by decide +kernel,by decide +kernel⟩
theorem ok_is_square (T:Tx K mg):FnOk P w K mg base CX0 4 T.a_is_square T.fd_is_square ["thing"] (spD K 1 qcV) :=
 qbj (k:=3) T.d_is_square.fn sc_is_square rfl rfl fun cdv A outer s H E hr=>by
  show PSsd _ _ qcs
  unfold qcs
  refine qa6 (qd2 (PW.pt (qfO (qcn (qbR (qa8 qcY T.nb_isinstance boot_isinstance (qa1 (qa2 0) (qa1 (qdR rfl T.nb_tuple boot_tuple) qa3))))) (qfP (qcn (pd_chainT od_le od_le qac (qa8 qbe T.nb_len boot_len (qa1 (qa2 0) qa3)) (pd_gint rfl T.g_MOST_SIGNS)))))) (qaa (qal qf6)) qbP) ?_
  refine qa6 (qak (i:=1) (qa8 qbe T.nb_len boot_len (qa1 (qa2 0) qa3)) (hN:=sc_is_square.nd)) ?_
  refine qa6 (qd2 (qcn (qbR (qa8 cd_all T.nb_all boot_all (qa1 (qbh (N':=["row","many"]) (pick:=[none,some 1]) (CompScope.of rfl rfl) (id_tup (qa2 0)) (fun _ _ _ _ _ _=>(qai (i:=0) (hN:=(by decide +kernel:List.Nodup (["row","many"]:List Str))))) (fun _ _ _ _ _ _=>qaG) (fun _ _ _ _ _ _=>(qat T.d_holds_each_once (qd9 T) (hr.mono (by decide)) (qa1 (qa2 0) (qa1 (qa2 1) qa3))))) qa3)))) (qaa (qal qf6)) qbP) ?_
  exact (qaa (qal (qa8 cd_all T.nb_all boot_all (qa1 (qbh (N':=["y","many","thing"]) (pick:=[none,some 1,some 0]) (CompScope.of rfl rfl) (qaT (qa1 (qa2 1) qa3) T.nb_range) (fun _ _ _ _ _ _=>(qai (i:=0) (hN:=(by decide +kernel:List.Nodup (["y","many","thing"]:List Str))))) (fun _ _ _ _ _ _=>qaG) (fun _ _ _ _ _ _=>(qat T.d_holds_each_once (qd9 T) (hr.mono (by decide)) (qa1 (qat T.d_column_of (ok_column_of T) (hr.mono (by decide)) (qa1 (qa2 2) (qa1 (qa2 0) qa3))) (qa1 (qa2 1) qa3))))) qa3))))
theorem qes:qag ["thing"] ["thing"] (qa4 qaX):=⟨rfl,rfl,rfl,by decide +kernel,rfl,by decide +kernel,by decide +kernel⟩
theorem qdj (T:Tx K mg):FnOk P w K mg base CX0 5 T.a_require_square T.fd_require_square ["thing"] (spD K 1 qan) :=
 qbj (k:=4) T.d_require_square.fn qes rfl rfl fun cdv A outer s H E hr=>by
  show PSsd _ _ qb0
  unfold qb0
  exact (qaa (qd2 (qcn (qbR (qat T.d_is_square (ok_is_square T) (hr.mono (by decide)) (qa1 (qa2 0) qa3)))) (qaa qe9) qbP))
theorem sc_sign_in:qag ["square","cell"] ["square","cell"] (qa4 qde):=⟨rfl,rfl,rfl,by decide +kernel,rfl,by decide +kernel,by decide +kernel⟩
theorem qfS (T:Tx K mg):FnOk P w K mg base CX0 1 T.a_sign_in T.fd_sign_in ["square","cell"] (spD K 2 qbm) :=
 qbj (k:=0) T.d_sign_in.fn sc_sign_in rfl rfl fun cdv A outer s H E hr=>by
  show PSsd _ _ qcZ
  unfold qcZ
  exact (qaa (qal (qce qbb (qce qbb (qa2 0) (qab qfT (qa2 1) (qa8 qbe T.nb_len boot_len (qa1 (qa2 0) qa3)))) (qab qdk (qa2 1) (qa8 qbe T.nb_len boot_len (qa1 (qa2 0) qa3))))))
theorem sc_lie_across:qag ["one","other","cells"] ["one","other"] (qa4 qbZ):=⟨rfl,rfl,rfl,by decide +kernel,rfl,by decide +kernel,by decide +kernel⟩
theorem qgo (T:Tx K mg):FnOk P w K mg base CX0 2 T.a_lie_across T.fd_lie_across ["one","other"] (spD K 2 qcv) :=
 qbj (k:=1) T.d_lie_across.fn sc_lie_across rfl rfl fun cdv A outer s H E hr=>by
  have hu:=Nat.lt_of_succ_lt (hu_of hr)
  show PSsd _ _ qbE
  unfold qbE
  refine qa6 (qak (i:=2) (qab qda (qa8 qbe T.nb_len boot_len (qa1 (qa2 0) qa3)) (qa8 qbe T.nb_len boot_len (qa1 (qa2 0) qa3))) (hN:=sc_lie_across.nd)) ?_
  exact (qaa (qal (qeF od_eq (pd_lensetT (hu64 hr) (qa1 (qbh (N':=["cell","one","other"]) (pick:=[none,some 0,some 1]) (CompScope.of rfl rfl) (qaT (qa1 (qa2 2) qa3) T.nb_range) (fun _ _ _ _ _ _=>(qai (i:=0) (hN:=(by decide +kernel:List.Nodup (["cell","one","other"]:List Str))))) (fun _ _ _ _ _ _=>qaG) (fun _ _ _ _ _ _=>(qfN (qa1 (qat T.d_sign_in (qfS T) (hr.mono (by decide)) (qa1 (qa2 1) (qa1 (qa2 0) qa3))) (qa1 (qat T.d_sign_in (qfS T) (hr.mono (by decide)) (qa1 (qa2 2) (qa1 (qa2 0) qa3))) qa3))))) qa3) T.nb_len T.nb_set) (qa2 2))))
theorem sc_across:qag ["one","other"] ["one","other"] (qa4 qdK):=⟨rfl,rfl,rfl,by decide +kernel,rfl,by decide +kernel,by decide +kernel⟩
theorem ok_across (T:Tx K mg):FnOk P w K mg base CX0 6 T.a_across T.fd_across ["one","other"] (spD K 2 qds) :=
 qbj (k:=5) T.d_across.fn sc_across rfl rfl fun cdv A outer s H E hr=>by
  show PSsd _ _ qdv
  unfold qdv
  refine qa6 (qcy (qat T.d_require_square (qdj T) (hr.mono (by decide)) (qa1 (qa2 0) qa3))) ?_
  refine qa6 (qcy (qat T.d_require_square (qdj T) (hr.mono (by decide)) (qa1 (qa2 1) qa3))) ?_
  refine qa6 (qd2 (qbQ od_ne (qa8 qbe T.nb_len boot_len (qa1 (qa2 0) qa3)) (qa8 qbe T.nb_len boot_len (qa1 (qa2 1) qa3))) (qaa qe9) qbP) ?_
  exact (qaa (qal (qat T.d_lie_across (qgo T) (hr.mono (by decide)) (qa1 (qa2 0) (qa1 (qa2 1) qa3)))))
theorem sc_field_row:qag ["q","factor","x"] ["q","factor","x"] (qa4 qcl):=⟨rfl,rfl,rfl,by decide +kernel,rfl,by decide +kernel,by decide +kernel⟩
theorem ok_field_row (T:Tx K mg):FnOk P w K mg base CX0 6 T.a_field_row T.fd_field_row ["q","factor","x"] (spD K 3 qdr) :=
 qbj (k:=5) T.d_field_row.fn sc_field_row rfl rfl fun cdv A outer s H E hr=>by
  show PSsd _ _ qbX
  unfold qbX
  exact (qaa (qal (qdC qep T.nb_tuple boot_tuple (qa1 (qbh (N':=["y","q","factor","x"]) (pick:=[none,some 0,some 1,some 2]) (CompScope.of rfl rfl) (qaT (qa1 (qa2 0) qa3) T.nb_range) (fun _ _ _ _ _ _=>(qai (i:=0) (hN:=(by decide +kernel:List.Nodup (["y","q","factor","x"]:List Str))))) (fun _ _ _ _ _ _=>qaG) (fun _ _ _ _ _ _=>(qat T.d_added (ok_added T) (hr.mono (by decide)) (qa1 (qa2 1) (qa1 (qat T.d_multiplied (qgn T) (hr.mono (by decide)) (qa1 (qa2 1) (qa1 (qa2 2) (qa1 (qa2 3) qa3)))) (qa1 (qa2 0) qa3)))))) qa3))))
theorem qf2:qag ["q","factor"] ["q","factor"] (qa4 qbp):=⟨rfl,rfl,rfl,by decide +kernel,rfl,by decide +kernel,by decide +kernel⟩
theorem qfc (T:Tx K mg):FnOk P w K mg base CX0 7 T.a_field_square T.fd_field_square ["q","factor"] (spD K 2 qbs) :=
 qbj (k:=6) T.d_field_square.fn qf2 rfl rfl fun cdv A outer s H E hr=>by
  show PSsd _ _ qb9
  unfold qb9
  exact (qaa (qal (qdC qep T.nb_tuple boot_tuple (qa1 (qbh (N':=["x","q","factor"]) (pick:=[none,some 0,some 1]) (CompScope.of rfl rfl) (qaT (qa1 (qa2 0) qa3) T.nb_range) (fun _ _ _ _ _ _=>(qai (i:=0) (hN:=(by decide +kernel:List.Nodup (["x","q","factor"]:List Str))))) (fun _ _ _ _ _ _=>qaG) (fun _ _ _ _ _ _=>(qat T.d_field_row (ok_field_row T) (hr.mono (by decide)) (qa1 (qa2 1) (qa1 (qa2 2) (qa1 (qa2 0) qa3)))))) qa3))))
theorem qdx:qag ["q"] ["q"] (qa4 qbd):=⟨rfl,rfl,rfl,by decide +kernel,rfl,by decide +kernel,by decide +kernel⟩
theorem qeO (T:Tx K mg):FnOk P w K mg base CX0 8 T.a_field_squares T.fd_field_squares ["q"] (spD K 1 qaS) :=
 qbj (k:=7) T.d_field_squares.fn qdx rfl rfl fun cdv A outer s H E hr=>by
  show PSsd _ _ qaz
  unfold qaz
  refine qa6 (qd2 (PW.pt (qfO (qcn (qbR (qat T.d_is_field (qe3 T) (hr.mono (by decide)) (qa1 (qa2 0) qa3)))) (qfP (qbQ od_gt (qa2 0) (pd_gint rfl T.g_MOST_SIGNS))))) (qaa qe9) qbP) ?_
  exact (qaa (qal (pd_compM (N':=["factor","q"]) (pick:=[none,some 0]) (CompScope.of rfl rfl) (id_rng2 (qa1 qac (qa1 (qa2 0) qa3)) T.nb_range) (fun _ _ _ _ _ _=>(qai (i:=0) (hN:=(by decide +kernel:List.Nodup (["factor","q"]:List Str))))) (fun _ _ _ _ _ _=>qaG) (fun _ _ _ _ _ _=>(qat T.d_field_square (qfc T) (hr.mono (by decide)) (qa1 (qa2 1) (qa1 (qa2 0) qa3)))))))
theorem qew (T:Tx K mg):FnOk P w K mg base (CXE P w K) 8 T.a_field_squares T.fd_field_squares ["q"] (spX K 1 qbw) :=
 fn_raises (k:=7) T.d_field_squares.fn qdx rfl rfl fun cdv A outer s H E hr=>by
  show PSsx _ _ _ qbn
  unfold qbn
  exact (xd_here (xd_if (PW.pt (qfO (qcn (qbR (qat T.d_is_field (qe3 T) (hr.mono (by decide)) (qa1 (qa2 0) qa3)))) (qfP (qbQ od_gt (qa2 0) (pd_gint rfl T.g_MOST_SIGNS))))) (xd_here (xd_raise T.xc_NoField F.excBase_ValueError)) xd_none))
theorem qfD:qag ["script","k"] ["script","k"] (qa4 qbI):=⟨rfl,rfl,rfl,by decide +kernel,rfl,by decide +kernel,by decide +kernel⟩
theorem qfF (T:Tx K mg):FnOk P w K mg base CX0 1 T.a_law_cell_at T.fd_law_cell_at ["script","k"] (spD K 2 qbL) :=
 qbj (k:=0) T.d_law_cell_at.fn qfD rfl rfl fun cdv A outer s H E hr=>by
  show PSsd _ _ qbk
  unfold qbk
  refine qa6 (qd2 (qbQ od_lt (qa2 1) (qa8 qbe T.nb_len boot_len (qa1 (qa2 0) qa3))) (qaa (qal (qce qbb (qa2 0) (qa2 1)))) qbP) ?_
  exact (qaa (qal qac))
theorem sc_law_pot:qag ["cell","number","j","more"] ["cell"] (qa4 qdh):=⟨rfl,rfl,rfl,by decide +kernel,rfl,by decide +kernel,by decide +kernel⟩
theorem ok_law_pot (T:Tx K mg):FnOk P w K mg base CX0 1 T.a_law_pot T.fd_law_pot ["cell"] (spD K 1 qdl) :=
 qbj (k:=0) T.d_law_pot.fn sc_law_pot rfl rfl fun cdv A outer s H E hr=>by
  show PSsd _ _ qd0
  unfold qd0
  refine qa6 (qd2 (qbQ od_ge (qa2 0) (qab od_pow qac qac)) (qaa (qal (qdA (qa1 (qab qcB (qa2 0) (qab od_pow qac qac)) qa3)))) qbP) ?_
  refine qa6 (qak (i:=1) qac (hN:=sc_law_pot.nd)) ?_
  refine qa6 (qbS (qaT (qa1 qac qa3) T.nb_range) (qai (i:=2) (hN:=sc_law_pot.nd)) (qa6 (qak (i:=3) (qab qdk (qab qda (qab qby (qab qby (qab qdk (qa2 0) qac) (qab qda qac (qa2 2))) qac) qac) qac) (hN:=sc_law_pot.nd)) (qa6 (qak (i:=3) (qab qdk (qab qby (qab qby (qab qda (qa2 3) (qa2 3)) (qab qda qac (qa2 2))) qac) qac) (hN:=sc_law_pot.nd)) (qaa (qak (i:=1) (qab qby (qab qda (qa2 1) qac) (qa2 3)) (hN:=sc_law_pot.nd)))))) ?_
  exact (qaa (qal (qdA (qa1 (qa2 1) qa3))))
theorem sc_law_take:qag ["pot","far","found"] ["pot","far"] (qa4 qcI):=⟨rfl,rfl,rfl,by decide +kernel,rfl,by decide +kernel,by decide +kernel⟩
theorem qfa (T:Tx K mg):FnOk P w K mg base CX0 1 T.a_law_take T.fd_law_take ["pot","far"] (spD K 2 qc3) :=
 qbj (k:=0) T.d_law_take.fn sc_law_take rfl rfl fun cdv A outer s H E hr=>by
  show PSsd _ _ qcR
  unfold qcR
  refine qa6 (qak (i:=2) (qab qdk (qce qbb (qa2 0) qac) (qa2 1)) (hN:=sc_law_take.nd)) ?_
  refine qa6 (sd_asg (qab qfT (qce qbb (qa2 0) qac) (qa2 1)) (gd_sub (qa2 0) qac)) ?_
  exact (qaa (qal (qa2 2)))
theorem sc_law_whole:qag ["found"] ["found"] (qa4 qch):=⟨rfl,rfl,rfl,by decide +kernel,rfl,by decide +kernel,by decide +kernel⟩
theorem qeH (T:Tx K mg):FnOk P w K mg base CX0 1 T.a_law_whole T.fd_law_whole ["found"] (spD K 1 qar) :=
 qbj (k:=0) T.d_law_whole.fn sc_law_whole rfl rfl fun cdv A outer s H E hr=>by
  show PSsd _ _ qb8
  unfold qb8
  exact (qaa (qal (qee (qa8 qcY T.nb_isinstance boot_isinstance (qa1 (qa2 0) (qa1 (qdR rfl T.nb_int boot_int) qa3))) (qed (pd_not (qa8 qcY T.nb_isinstance boot_isinstance (qa1 (qa2 0) (qa1 (qdR rfl T.nb_bool boot_bool) qa3))))))))
theorem sc_law_same:qag ["found","due"] ["found","due"] (qa4 qcJ):=⟨rfl,rfl,rfl,by decide +kernel,rfl,by decide +kernel,by decide +kernel⟩
theorem qe2 (T:Tx K mg):∀ j:Nat,FnOk P w K mg base CX0 (2 + j) T.a_law_same T.fd_law_same ["found","due"] (spD K 2 (qad j))
 | 0=>⟨fun vs H Q E h=>by obtain ⟨_,_,_,_,_,_,p⟩:=h; exact p.elim,fun A outer s H args us vs Q E hr he hb hv h=>by obtain ⟨_,_,_,_,_,_,p⟩:=h; exact p.elim⟩
 | j + 1=>qbj (k:=2 + j) T.d_law_same.fn sc_law_same rfl rfl fun cdv A outer s H E hr=>by
  have ih:FnOk P w K mg base CX0 (2 + j) T.a_law_same T.fd_law_same ["found","due"] (spD K 2 (qad j)):=qe2 T j
  show PSsd _ _ (qb1 (qad j))
  unfold qb1
  generalize qad j=m at ih ⊢
  refine qa6 (qd2 (qbQ od_is (qa2 1) pd_non) (qaa (qal (qeF od_is (qa2 0) pd_non))) qbP) ?_
  refine qa6 (qd2 (qbR (qa8 qcY T.nb_isinstance boot_isinstance (qa1 (qa2 1) (qa1 (qdR rfl T.nb_bool boot_bool) qa3)))) (qaa (qal (qee (qa8 qcY T.nb_isinstance boot_isinstance (qa1 (qa2 0) (qa1 (qdR rfl T.nb_bool boot_bool) qa3))) (qed (qeF od_eq (qa2 0) (qa2 1)))))) qbP) ?_
  refine qa6 (qd2 (qbR (qa8 qcY T.nb_isinstance boot_isinstance (qa1 (qa2 1) (qa1 (qdR rfl T.nb_int boot_int) qa3)))) (qaa (qal (qee (qat T.d_law_whole (qeH T) (hr.mono (by omega)) (qa1 (qa2 0) qa3)) (qed (qeF od_eq (qa2 0) (qa2 1)))))) qbP) ?_
  refine qa6 (qd2 (qbR (qa8 qcY T.nb_isinstance boot_isinstance (qa1 (qa2 1) (qa1 (qdR rfl T.nb_str boot_str) qa3)))) (qaa (qal (qee (qa8 qcY T.nb_isinstance boot_isinstance (qa1 (qa2 0) (qa1 (qdR rfl T.nb_str boot_str) qa3))) (qed (qeF od_eq (qa2 0) (qa2 1)))))) qbP) ?_
  refine qa6 (qd2 (PW.pt (qfO (qbQ od_ne (qa8 qcY T.nb_isinstance boot_isinstance (qa1 (qa2 1) (qa1 (qdR rfl T.nb_tuple boot_tuple) qa3))) (qa8 qcY T.nb_isinstance boot_isinstance (qa1 (qa2 0) (qa1 (qdR rfl T.nb_tuple boot_tuple) qa3)))) (qfP (qbQ od_ne (qa8 qcY T.nb_isinstance boot_isinstance (qa1 (qa2 1) (qa1 (qdR rfl T.nb_list boot_list) qa3))) (qa8 qcY T.nb_isinstance boot_isinstance (qa1 (qa2 0) (qa1 (qdR rfl T.nb_list boot_list) qa3))))))) (qaa (qal qf6)) qbP) ?_
  exact (qaa (qal (qee (qeF od_eq (qa8 qbe T.nb_len boot_len (qa1 (qa2 0) qa3)) (qa8 qbe T.nb_len boot_len (qa1 (qa2 1) qa3))) (qed (qa8 cd_all T.nb_all boot_all (qa1 (qbh (N':=["one","other"]) (pick:=[none,none]) (CompScope.of rfl rfl) (qgz (qa1 (qa2 0) (qa1 (qa2 1) qa3)) T.nb_zip) (fun _ _ _ _ _ _=>(gd_tup (n:=2) (qdb (qai (i:=0) (hN:=(by decide +kernel:List.Nodup (["one","other"]:List Str)))) (qdb (qai (i:=1) (hN:=(by decide +kernel:List.Nodup (["one","other"]:List Str)))) qgC)))) (fun _ _ _ _ _ _=>qaG) (fun _ _ _ _ _ _=>(qat T.d_law_same ih (hr.mono (by omega)) (qa1 (qa2 0) (qa1 (qa2 1) qa3))))) qa3))))))
theorem sc_law_kind_of:qag ["e","some","words"] ["e"] (qa4 qbH):=⟨rfl,rfl,rfl,by decide +kernel,rfl,by decide +kernel,by decide +kernel⟩
theorem qfe (T:Tx K mg):FnOkH P w K mg base 1 T.a_law_kind_of T.fd_law_kind_of ["e"] (spD K 1 qcF) :=
 fn_okH (k:=0) T.d_law_kind_of.fn sc_law_kind_of rfl rfl fun cdv A outer s H E hr=>by
  show PSsd _ _ qbN
  unfold qbN
  refine qa6 (qak (i:=1) (qcf (qa1 (qa8 (qdz T.xtab) T.nb_isinstance boot_isinstance (qa1 (qa2 0) (qa1 (qdB T.gc_NoWeb T.nc_NoWeb) qa3))) (qa1 (qa8 (qdz T.xtab) T.nb_isinstance boot_isinstance (qa1 (qa2 0) (qa1 (qdB T.gc_NoText T.nc_NoText) qa3))) (qa1 (qa8 (qdz T.xtab) T.nb_isinstance boot_isinstance (qa1 (qa2 0) (qa1 (qdB T.gc_NoNumbers T.nc_NoNumbers) qa3))) (qa1 (qa8 (qdz T.xtab) T.nb_isinstance boot_isinstance (qa1 (qa2 0) (qa1 (qdB T.gc_NoField T.nc_NoField) qa3))) qa3))))) (hN:=sc_law_kind_of.nd)) ?_
  refine qa6 (qak (i:=1) (qab qff (qa2 1) (qcf (qa1 (qa8 (qdz T.xtab) T.nb_isinstance boot_isinstance (qa1 (qa2 0) (qa1 (qdB T.gc_NoThing T.nc_NoThing) qa3))) (qa1 (qa8 (qdz T.xtab) T.nb_isinstance boot_isinstance (qa1 (qa2 0) (qa1 (qdB T.gc_NoSquare T.nc_NoSquare) qa3))) (qa1 (qa8 (qdz T.xtab) T.nb_isinstance boot_isinstance (qa1 (qa2 0) (qa1 (qdB T.gc_NoPlaces T.nc_NoPlaces) qa3))) (qa1 (qa8 (qdz T.xtab) T.nb_isinstance boot_isinstance (qa1 (qa2 0) (qa1 (qdB T.gc_TooMany T.nc_TooMany) qa3))) qa3)))))) (hN:=sc_law_kind_of.nd)) ?_
  refine qa6 (qak (i:=1) (qab qff (qa2 1) (qcf (qa1 (qa8 (qdz T.xtab) T.nb_isinstance boot_isinstance (qa1 (qa2 0) (qa1 (qdB T.gc_NoName T.nc_NoName) qa3))) (qa1 (qa8 (qdz T.xtab) T.nb_isinstance boot_isinstance (qa1 (qa2 0) (qa1 (qdB T.gc_NoDeed T.nc_NoDeed) qa3))) (qa1 (qa8 (qdz T.xtab) T.nb_isinstance boot_isinstance (qa1 (qa2 0) (qa1 (qdB T.gc_NoRow T.nc_NoRow) qa3))) qa3))))) (hN:=sc_law_kind_of.nd)) ?_
  refine qa6 (qd2 (PW.pt (qfO (qbQ od_ne (pd_count (qa2 1) qf6) qac) (qfP (qcn (qbR (qa8 (qdz T.xtab) T.nb_isinstance boot_isinstance (qa1 (qa2 0) (qa1 (qdR rfl T.nb_ValueError bootVE) qa3)))))))) (qaa (qal qcU)) qbP) ?_
  refine qa6 ?_ ?_
  ·with_reducible refine qak (i:=2) ?_ ?_ ?_ ?_ ?_ ?_
   ·with_reducible refine qcf ?_
    with_reducible refine qa1 ?_ ?_ ?_
    ·exact qcU
    ·skip
     with_reducible refine qa1 ?_ ?_ ?_
     ·exact qcU
     ·skip
      with_reducible refine qa1 ?_ ?_ ?_
      ·exact qcU
      ·skip
       with_reducible refine qa1 ?_ ?_ ?_
       ·exact qcU
       ·skip
        with_reducible refine qa1 ?_ ?_ ?_
        ·exact qcU
        ·skip
         with_reducible refine qa1 ?_ ?_ ?_
         ·exact qcU
         ·skip
          with_reducible refine qa1 ?_ ?_ ?_
          ·exact qcU
          ·skip
           with_reducible refine qa1 ?_ ?_ ?_
           ·exact qcU
           ·skip
            with_reducible refine qa1 ?_ ?_ ?_
            ·exact qcU
            ·skip
             with_reducible refine qa1 ?_ ?_ ?_
             ·exact qcU
             ·skip
              with_reducible refine qa1 ?_ ?_ ?_
              ·exact qcU
              ·skip
               with_reducible exact qa3
              ·exact qaQ rfl
             ·exact qaQ rfl
            ·exact qaQ rfl
           ·exact qaQ rfl
          ·exact qaQ rfl
         ·exact qaQ rfl
        ·exact qaQ rfl
       ·exact qaQ rfl
      ·exact qaQ rfl
     ·exact qaQ rfl
    ·exact qaQ rfl
   ·exact sc_law_kind_of.nd
   ·rfl
   ·first | exact Or.inl rfl | exact Or.inr rfl
   ·rfl
   ·first | exact .inl rfl | exact .inr rfl
  ·skip
   exact (qaa (qal (qce qbb (qa2 2) (pd_index (qa2 1) qf6))))
theorem sc_law_prime:qag ["q"] ["q"] (qa4 qci):=⟨rfl,rfl,rfl,by decide +kernel,rfl,by decide +kernel,by decide +kernel⟩
theorem qd7 (T:Tx K mg):FnOk P w K mg base CX0 1 T.a_law_prime T.fd_law_prime ["q"] (spD K 1 qas) :=
 qbj (k:=0) T.d_law_prime.fn sc_law_prime rfl rfl fun cdv A outer s H E hr=>by
  show PSsd _ _ qcr
  unfold qcr
  refine qaa ?_
  with_reducible refine qal ?_
  with_reducible refine qce qbb ?_ ?_ ?_
  ·with_reducible refine qbh (N':=["p","q"]) (pick:=[none,some 0]) ?_ ?_ ?_ ?_ ?_ ?_ ?_
   ·exact CompScope.of rfl rfl
   ·with_reducible refine qfl ?_
    with_reducible refine qcf ?_
    with_reducible refine pd_ints ?_
    kernel_rfl
   ·exact fun _ _ _ _ _ _=>(qai (i:=0) (hN:=(by decide +kernel:List.Nodup (["p","q"]:List Str))))
   ·exact fun _ _ _ _ _ _=>(pifd_one (qbQ od_eq (qab qdk (qa2 1) (qa2 0)) qac))
   ·exact fun _ _ _ _ _ _=>(qa2 0)
   ·rfl
   ·intro _; rfl
  ·exact qac
  ·exact fun _ _=>rfl
theorem sc_law_degree:qag ["q","found"] ["q"] (qa4 qc1):=⟨rfl,rfl,rfl,by decide +kernel,rfl,by decide +kernel,by decide +kernel⟩
theorem qeh (T:Tx K mg):FnOk P w K mg base CX0 2 T.a_law_degree T.fd_law_degree ["q"] (spD K 1 qaJ) :=
 qbj (k:=1) T.d_law_degree.fn sc_law_degree rfl rfl fun cdv A outer s H E hr=>by
  show PSsd _ _ qc8
  unfold qc8
  refine qa6 (qak (i:=1) qac (hN:=sc_law_degree.nd)) ?_
  refine qa6 (sd_while (n:=10) (qbQ od_gt (qa2 0) qac) (qa6 (qak (i:=0) (qab qfT (qa2 0) (qat T.d_law_prime (qd7 T) (hr.mono (by decide)) (qa1 (qa2 0) qa3))) (hN:=sc_law_degree.nd)) (qaa (qak (i:=1) (qab qby (qa2 1) qac) (hN:=sc_law_degree.nd))))) ?_
  exact (qaa (qal (qa2 1)))
theorem sc_law_row:qag ["number","p","many","found","k"] ["number","p","many"] (qa4 qdg):=⟨rfl,rfl,rfl,by decide +kernel,rfl,by decide +kernel,by decide +kernel⟩
theorem qcO (T:Tx K mg):FnOk P w K mg base CX0 1 T.a_law_row T.fd_law_row ["number","p","many"] (spD K 3 qaw) :=
 qbj (k:=0) T.d_law_row.fn sc_law_row rfl rfl fun cdv A outer s H E hr=>by
  show PSsd _ _ qdq
  unfold qdq
  refine qa6 (qak (i:=3) (qdA qa3) (hN:=sc_law_row.nd)) ?_
  refine qa6 (qbS (qaT (qa1 (qa2 2) qa3) T.nb_range) (qai (i:=4) (hN:=sc_law_row.nd)) (qa6 (qcy (qdD (qa2 3) (qab qdk (qa2 0) (qa2 1)))) (qaa (qak (i:=0) (qab qfT (qa2 0) (qa2 1)) (hN:=sc_law_row.nd))))) ?_
  exact (qaa (qal (qa2 3)))
theorem sc_law_number:qag ["row","p","found","k"] ["row","p"] (qa4 qc0):=⟨rfl,rfl,rfl,by decide +kernel,rfl,by decide +kernel,by decide +kernel⟩
theorem qeg (T:Tx K mg):FnOk P w K mg base CX0 1 T.a_law_number T.fd_law_number ["row","p"] (spD K 2 qbz) :=
 qbj (k:=0) T.d_law_number.fn sc_law_number rfl rfl fun cdv A outer s H E hr=>by
  show PSsd _ _ qc7
  unfold qc7
  refine qa6 (qak (i:=2) qac (hN:=sc_law_number.nd)) ?_
  refine qa6 (qbS (qaT (qa1 (qa8 qbe T.nb_len boot_len (qa1 (qa2 0) qa3)) qa3) T.nb_range) (qai (i:=3) (hN:=sc_law_number.nd)) (qaa (qak (i:=2) (qab qby (qab qda (qa2 2) (qa2 1)) (qce qbb (qa2 0) (qab qcB (qab qcB (qa8 qbe T.nb_len boot_len (qa1 (qa2 0) qa3)) qac) (qa2 3)))) (hN:=sc_law_number.nd)))) ?_
  exact (qaa (qal (qa2 2)))
theorem sc_law_sums_product:qag ["one","other","p","found","k","j"] ["one","other","p"] (qa4 qaF):=⟨rfl,rfl,rfl,by decide +kernel,rfl,by decide +kernel,by decide +kernel⟩
theorem qe1 (T:Tx K mg):FnOk P w K mg base CX0 1 T.a_law_sums_product T.fd_law_sums_product ["one","other","p"] (spD K 3 qap) :=
 qbj (k:=0) T.d_law_sums_product.fn sc_law_sums_product rfl rfl fun cdv A outer s H E hr=>by
  show PSsd _ _ qaq
  unfold qaq
  refine qa6 (qak (i:=3) (qab od_repM (qcf (qa1 qac qa3)) (qab qcB (qab qby (qa8 qbe T.nb_len boot_len (qa1 (qa2 0) qa3)) (qa8 qbe T.nb_len boot_len (qa1 (qa2 1) qa3))) qac)) (hN:=sc_law_sums_product.nd)) ?_
  refine qa6 (qbS (qaT (qa1 (qa8 qbe T.nb_len boot_len (qa1 (qa2 0) qa3)) qa3) T.nb_range) (qai (i:=4) (hN:=sc_law_sums_product.nd)) (qaa (qbS (qaT (qa1 (qa8 qbe T.nb_len boot_len (qa1 (qa2 1) qa3)) qa3) T.nb_range) (qai (i:=5) (hN:=sc_law_sums_product.nd)) (qaa (sd_asg (qab qdk (qab qby (qce qbb (qa2 3) (qab qby (qa2 4) (qa2 5))) (qab qda (qce qbb (qa2 0) (qa2 4)) (qce qbb (qa2 1) (qa2 5)))) (qa2 2)) (gd_sub (qa2 3) (qab qby (qa2 4) (qa2 5)))))))) ?_
  exact (qaa (qal (qa2 3)))
theorem qdS (T:Tx K mg):FnOk P w K mg base CX0 1 T.a_law_sums_product T.fd_law_sums_product ["one","other","p"] (spD K 3 qaB) :=
 qbj (k:=0) T.d_law_sums_product.fn sc_law_sums_product rfl rfl fun cdv A outer s H E hr=>by
  show PSsd _ _ qaq
  unfold qaq
  refine qa6 (qak (i:=3) (qab od_repM (qcf (qa1 qac qa3)) (qab qcB (qab qby (qa8 qbe T.nb_len boot_len (qa1 (qa2 0) qa3)) (qa8 qbe T.nb_len boot_len (qa1 (qa2 1) qa3))) qac)) (hN:=sc_law_sums_product.nd)) ?_
  refine qa6 (qbS (qaT (qa1 (qa8 qbe T.nb_len boot_len (qa1 (qa2 0) qa3)) qa3) T.nb_range) (qai (i:=4) (hN:=sc_law_sums_product.nd)) (qaa (qbS (qaT (qa1 (qa8 qbe T.nb_len boot_len (qa1 (qa2 1) qa3)) qa3) T.nb_range) (qai (i:=5) (hN:=sc_law_sums_product.nd)) (qaa (sd_asg (qab qdk (qab qby (qce qbb (qa2 3) (qab qby (qa2 4) (qa2 5))) (qab qda (qce qbb (qa2 0) (qa2 4)) (qce qbb (qa2 1) (qa2 5)))) (qa2 2)) (gd_sub (qa2 3) (qab qby (qa2 4) (qa2 5)))))))) ?_
  exact (qaa (qal (qa2 3)))
theorem sc_law_heads:qag ["many","p","found","k","longer","row"] ["many","p"] (qa4 qcj):=⟨rfl,rfl,rfl,by decide +kernel,rfl,by decide +kernel,by decide +kernel⟩
theorem qeI (T:Tx K mg):FnOk P w K mg base CX0 1 T.a_law_heads T.fd_law_heads ["many","p"] (spD K 2 qbA) :=
 qbj (k:=0) T.d_law_heads.fn sc_law_heads rfl rfl fun cdv A outer s H E hr=>by
  show PSsd _ _ qbF
  unfold qbF
  refine qa6 (qak (i:=2) (qcf (qa1 (qcf qa3) qa3)) (hN:=sc_law_heads.nd)) ?_
  refine qa6 (qbS (qaT (qa1 (qa2 0) qa3) T.nb_range) (qai (i:=3) (hN:=sc_law_heads.nd)) (qa6 (qak (i:=4) (qdA qa3) (hN:=sc_law_heads.nd)) (qa6 (qbS (qfl (qa2 2)) (qai (i:=5) (hN:=sc_law_heads.nd)) (qaa (qcy (pd_extend (qa2 4) (qbh (N':=["digit","row"]) (pick:=[none,some 5]) (CompScope.of rfl rfl) (qaT (qa1 (qa2 1) qa3) T.nb_range) (fun _ _ _ _ _ _=>(qai (i:=0) (hN:=(by decide +kernel:List.Nodup (["digit","row"]:List Str))))) (fun _ _ _ _ _ _=>qaG) (fun _ _ _ _ _ _=>(qab qff (qa2 1) (qcf (qa1 (qa2 0) qa3))))))))) (qaa (qak (i:=2) (qa2 4) (hN:=sc_law_heads.nd)))))) ?_
  exact (qaa (qal (qbh (N':=["row"]) (pick:=[none]) (CompScope.of rfl rfl) (qfl (qa2 2)) (fun _ _ _ _ _ _=>(qai (i:=0) (hN:=(by decide +kernel:List.Nodup (["row"]:List Str))))) (fun _ _ _ _ _ _=>qaG) (fun _ _ _ _ _ _=>(qab qff (qa2 0) (qcf (qa1 qac qa3)))))))
theorem sc_law_form:qag ["q","p","many","products","less","one","number"] ["q"] (qa4 qcK):=⟨rfl,rfl,rfl,by decide +kernel,rfl,by decide +kernel,by decide +kernel⟩
theorem ok_law_form (T:Tx K mg):FnOk P w K mg base CX0 3 T.a_law_form T.fd_law_form ["q"] (spD K 1 qcP) :=
 qbj (k:=2) T.d_law_form.fn sc_law_form rfl rfl fun cdv A outer s H E hr=>by
  show PSsd _ _ qcS
  unfold qcS
  refine qa6 (qak (i:=1) (qat T.d_law_prime (qd7 T) (hr.mono (by decide)) (qa1 (qa2 0) qa3)) (hN:=sc_law_form.nd)) ?_
  refine qa6 (qak (i:=2) (qat T.d_law_degree (qeh T) (hr.mono (by decide)) (qa1 (qa2 0) qa3)) (hN:=sc_law_form.nd)) ?_
  refine qa6 (qd2 (qbQ od_eq (qa2 2) qac) (qaa (qal (qcf (qa1 qac (qa1 qac qa3))))) qbP) ?_
  refine qa6 (qak (i:=3) (qdA qa3) (hN:=sc_law_form.nd)) ?_
  refine qa6 (qbS (id_rng2 (qa1 qac (qa1 (qab qby (qab qfT (qa2 2) qac) qac) qa3)) T.nb_range) (qai (i:=4) (hN:=sc_law_form.nd)) (qaa (qbS (qfl (qat T.d_law_heads (qeI T) (hr.mono (by decide)) (qa1 (qa2 4) (qa1 (qa2 1) qa3)))) (qai (i:=5) (hN:=sc_law_form.nd)) (qaa (qcy (pd_extend (qa2 3) (qbh (N':=["other","one","p"]) (pick:=[none,some 5,some 1]) (CompScope.of rfl rfl) (qfl (qat T.d_law_heads (qeI T) (hr.mono (by decide)) (qa1 (qab qcB (qa2 2) (qa2 4)) (qa1 (qa2 1) qa3)))) (fun _ _ _ _ _ _=>(qai (i:=0) (hN:=(by decide +kernel:List.Nodup (["other","one","p"]:List Str))))) (fun _ _ _ _ _ _=>qaG) (fun _ _ _ _ _ _=>(qat T.d_law_sums_product (qe1 T) (hr.mono (by decide)) (qa1 (qa2 1) (qa1 (qa2 0) (qa1 (qa2 2) qa3)))))))))))) ?_
  refine qa6 (qak (i:=6) qac (hN:=sc_law_form.nd)) ?_
  refine qa6 (sd_while (n:=60) (qbQ (od_in (hu64 hr)) (qab qff (qat T.d_law_row (qcO T) (hr.mono (by decide)) (qa1 (qa2 6) (qa1 (qa2 1) (qa1 (qa2 2) qa3)))) (qcf (qa1 qac qa3))) (qa2 3)) (qaa (qak (i:=6) (qab qby (qa2 6) qac) (hN:=sc_law_form.nd)))) ?_
  exact (qaa (qal (qab qff (qat T.d_law_row (qcO T) (hr.mono (by decide)) (qa1 (qa2 6) (qa1 (qa2 1) (qa1 (qa2 2) qa3)))) (qcf (qa1 qac qa3)))))
theorem sc_law_product:qag ["q","form","one","other","p","many","row","place","often","k","at"] ["q","form","one","other"] (qa4 qbG):=⟨rfl,rfl,rfl,by decide +kernel,rfl,by decide +kernel,by decide +kernel⟩
theorem qfE (T:Tx K mg):FnOk P w K mg base CX0 2 T.a_law_product T.fd_law_product ["q","form","one","other"] (spD K 4 qbK) :=
 qbj (k:=1) T.d_law_product.fn sc_law_product rfl rfl fun cdv A outer s H E hr=>by
  show PSsd _ _ qbM
  unfold qbM
  refine qa6 (qak (i:=4) (qat T.d_law_prime (qd7 T) (hr.mono (by decide)) (qa1 (qa2 0) qa3)) (hN:=sc_law_product.nd)) ?_
  refine qa6 (qak (i:=5) (qab qcB (qa8 qbe T.nb_len boot_len (qa1 (qa2 1) qa3)) qac) (hN:=sc_law_product.nd)) ?_
  refine qa6 (qak (i:=6) (qat T.d_law_sums_product (qdS T) (hr.mono (by decide)) (qa1 (qat T.d_law_row (qcO T) (hr.mono (by decide)) (qa1 (qa2 2) (qa1 (qa2 4) (qa1 (qa2 5) qa3)))) (qa1 (qat T.d_law_row (qcO T) (hr.mono (by decide)) (qa1 (qa2 3) (qa1 (qa2 4) (qa1 (qa2 5) qa3)))) (qa1 (qa2 4) qa3)))) (hN:=sc_law_product.nd)) ?_
  refine qa6 (qbS (id_rng3 (qa1 (qab qcB (qa8 qbe T.nb_len boot_len (qa1 (qa2 6) qa3)) qac) (qa1 (qab qcB (qa2 5) qac) (qa1 (qab qcB qac qac) qa3))) T.nb_range) (qai (i:=7) (hN:=sc_law_product.nd)) (qa6 (qak (i:=8) (qce qbb (qa2 6) (qa2 7)) (hN:=sc_law_product.nd)) (qaa (qbS (qaT (qa1 (qab qby (qa2 5) qac) qa3) T.nb_range) (qai (i:=9) (hN:=sc_law_product.nd)) (qa6 (qak (i:=10) (qab qby (qab qcB (qa2 7) (qa2 5)) (qa2 9)) (hN:=sc_law_product.nd)) (qaa (sd_asg (qab qdk (qab qcB (qce qbb (qa2 6) (qa2 10)) (qab qda (qa2 8) (qce qbb (qa2 1) (qa2 9)))) (qa2 4)) (gd_sub (qa2 6) (qa2 10))))))))) ?_
  exact (qaa (qal (qat T.d_law_number (qeg T) (hr.mono (by decide)) (qa1 (pd_sl (qa2 6) pod_none (pod_some (qa2 5))) (qa1 (qa2 4) qa3)))))
theorem sc_law_sum:qag ["q","one","other","sign","p","many","rows"] ["q","one","other","sign"] (qa4 qdf):=⟨rfl,rfl,rfl,by decide +kernel,rfl,by decide +kernel,by decide +kernel⟩
theorem ok_law_sum (T:Tx K mg):FnOk P w K mg base CX0 3 T.a_law_sum T.fd_law_sum ["q","one","other","sign"] (spD K 4 qcw) :=
 qbj (k:=2) T.d_law_sum.fn sc_law_sum rfl rfl fun cdv A outer s H E hr=>by
  show PSsd _ _ qdp
  unfold qdp
  refine qa6 (qak (i:=4) (qat T.d_law_prime (qd7 T) (hr.mono (by decide)) (qa1 (qa2 0) qa3)) (hN:=sc_law_sum.nd)) ?_
  refine qa6 (qak (i:=5) (qat T.d_law_degree (qeh T) (hr.mono (by decide)) (qa1 (qa2 0) qa3)) (hN:=sc_law_sum.nd)) ?_
  refine qa6 (qak (i:=6) (qcf (qa1 (qat T.d_law_row (qcO T) (hr.mono (by decide)) (qa1 (qa2 1) (qa1 (qa2 4) (qa1 (qa2 5) qa3)))) (qa1 (qat T.d_law_row (qcO T) (hr.mono (by decide)) (qa1 (qa2 2) (qa1 (qa2 4) (qa1 (qa2 5) qa3)))) qa3))) (hN:=sc_law_sum.nd)) ?_
  exact (qaa (qal (qat T.d_law_number (qeg T) (hr.mono (by decide)) (qa1 (qbh (N':=["k","p","sign","rows"]) (pick:=[none,some 4,some 3,some 6]) (CompScope.of rfl rfl) (qaT (qa1 (qa2 5) qa3) T.nb_range) (fun _ _ _ _ _ _=>(qai (i:=0) (hN:=(by decide +kernel:List.Nodup (["k","p","sign","rows"]:List Str))))) (fun _ _ _ _ _ _=>qaG) (fun _ _ _ _ _ _=>(qab qdk (qab qby (qce qbb (qce qbb (qa2 3) qac) (qa2 0)) (qab qda (qa2 2) (qce qbb (qce qbb (qa2 3) qac) (qa2 0)))) (qa2 1)))) (qa1 (qa2 4) qa3)))))
theorem sc_law_products_of:qag ["q","form"] ["q"] (qa4 qaK):=⟨rfl,rfl,rfl,by decide +kernel,rfl,by decide +kernel,by decide +kernel⟩
theorem qef (T:Tx K mg):FnOk P w K mg base CX0 4 T.a_law_products_of T.fd_law_products_of ["q"] (spD K 1 qaN) :=
 qbj (k:=3) T.d_law_products_of.fn sc_law_products_of rfl rfl fun cdv A outer s H E hr=>by
  show PSsd _ _ qaE
  unfold qaE
  refine qa6 (qak (i:=1) (qat T.d_law_form (ok_law_form T) (hr.mono (by decide)) (qa1 (qa2 0) qa3)) (hN:=sc_law_products_of.nd)) ?_
  exact (qaa (qal (qbh (N':=["one","q","form"]) (pick:=[none,some 0,some 1]) (CompScope.of rfl rfl) (qaT (qa1 (qa2 0) qa3) T.nb_range) (fun _ _ _ _ _ _=>(qai (i:=0) (hN:=(by decide +kernel:List.Nodup (["one","q","form"]:List Str))))) (fun _ _ _ _ _ _=>qaG) (fun _ _ _ _ _ _=>(qbh (N':=["other","q","form","one"]) (pick:=[none,some 1,some 2,some 0]) (CompScope.of rfl rfl) (qaT (qa1 (qa2 1) qa3) T.nb_range) (fun _ _ _ _ _ _=>(qai (i:=0) (hN:=(by decide +kernel:List.Nodup (["other","q","form","one"]:List Str))))) (fun _ _ _ _ _ _=>qaG) (fun _ _ _ _ _ _=>(qat T.d_law_product (qfE T) (hr.mono (by decide)) (qa1 (qa2 1) (qa1 (qa2 2) (qa1 (qa2 3) (qa1 (qa2 0) qa3)))))))))))
theorem sc_law_field_squares:qag ["q","products","found","often","rows","row"] ["q"] (qa4 qaA):=⟨rfl,rfl,rfl,by decide +kernel,rfl,by decide +kernel,by decide +kernel⟩
theorem qdT (T:Tx K mg):FnOk P w K mg base CX0 5 T.a_law_field_squares T.fd_law_field_squares ["q"] (spD K 1 qaR) :=
 qbj (k:=4) T.d_law_field_squares.fn sc_law_field_squares rfl rfl fun cdv A outer s H E hr=>by
  show PSsd _ _ qau
  unfold qau
  refine qa6 (qak (i:=1) (qat T.d_law_products_of (qef T) (hr.mono (by decide)) (qa1 (qa2 0) qa3)) (hN:=sc_law_field_squares.nd)) ?_
  refine qa6 (qak (i:=2) (qdA qa3) (hN:=sc_law_field_squares.nd)) ?_
  refine qa6 (qbS (id_rng2 (qa1 qac (qa1 (qa2 0) qa3)) T.nb_range) (qai (i:=3) (hN:=sc_law_field_squares.nd)) (qa6 (qak (i:=4) (qdA qa3) (hN:=sc_law_field_squares.nd)) (qa6 (qbS (qaT (qa1 (qa2 0) qa3) T.nb_range) (qai (i:=5) (hN:=sc_law_field_squares.nd)) (qaa (qcy (qdD (qa2 4) (qdC qep T.nb_tuple boot_tuple (qa1 (qbh (N':=["column","q","row","products","often"]) (pick:=[none,some 0,some 5,some 1,some 3]) (CompScope.of rfl rfl) (qaT (qa1 (qa2 0) qa3) T.nb_range) (fun _ _ _ _ _ _=>(qai (i:=0) (hN:=(by decide +kernel:List.Nodup (["column","q","row","products","often"]:List Str))))) (fun _ _ _ _ _ _=>qaG) (fun _ _ _ _ _ _=>(qat T.d_law_sum (ok_law_sum T) (hr.mono (by decide)) (qa1 (qa2 1) (qa1 (qce qbb (qce qbb (qa2 3) (qa2 4)) (qa2 2)) (qa1 (qa2 0) (qa1 qac qa3))))))) qa3)))))) (qaa (qcy (qdD (qa2 2) (qdC qep T.nb_tuple boot_tuple (qa1 (qa2 4) qa3)))))))) ?_
  exact (qaa (qal (qa2 2)))
theorem sc_law_told:qag ["q","e"] ["q"] (qa4 qcH):=⟨rfl,rfl,rfl,by decide +kernel,rfl,by decide +kernel,by decide +kernel⟩
theorem qf9 (T:Tx K mg):FnOk P w K mg base CX0 9 T.a_law_told T.fd_law_told ["q"] (spD K 1 qbr) :=
 qbj (k:=8) T.d_law_told.fn sc_law_told rfl rfl fun cdv A outer s H E hr=>by
  show PSsd _ _ qc6
  unfold qc6
  exact (qaa (sd_try (T:=xcls) (i:=1) (qaa (qal (qat T.d_field_squares (qeO T) (hr.mono (by decide)) (qa1 (qa2 0) qa3)))) (fun W pn=>(xd_here (xd_ret (xd_call T.d_field_squares (qew T) (hr.mono (by decide)) (qa1 (qa2 0) qa3))))) (fun ea=>(pd_fnH T.d_law_kind_of (qfe T) (RoomH.held (hr.mono (by decide))) (qa1 (qa2 1) qa3))) T.gc_WebError (xw_of T.xw) (hN:=sc_law_told.nd)))
theorem sc_law:qag ["script","k","pot","q","due","found","one"] ["script"] (qa4 s_law):=⟨rfl,rfl,rfl,by decide +kernel,rfl,by decide +kernel,by decide +kernel⟩
theorem ok_law (T:Tx K mg):FnOk P w K mg base CX0 10 T.a_law T.fd_law ["script"] (spD K 1 m_law) :=
 qbj (k:=9) T.d_law.fn sc_law rfl rfl fun cdv A outer s H E hr=>by
  show PSsd _ _ b_law
  unfold b_law
  refine qa6 (qbS (qaT (qa1 (qa8 cd_max2 T.nb_max boot_max (qa1 qac (qa1 (qa8 cd_min2 T.nb_min boot_min (qa1 (qa8 qbe T.nb_len boot_len (qa1 (qa2 0) qa3)) (qa1 qac qa3))) qa3))) qa3) T.nb_range) (qai (i:=1) (hN:=sc_law.nd)) ?_) ?_
  ·skip
   refine qa6 (qak (i:=2) (qat T.d_law_pot (ok_law_pot T) (hr.mono (by decide)) (qa1 (qat T.d_law_cell_at (qfF T) (hr.mono (by decide)) (qa1 (qa2 0) (qa1 (qa2 1) qa3))) qa3)) (hN:=sc_law.nd)) ?_
   refine qa6 ?_ ?_
   ·with_reducible refine qak (i:=3) ?_ ?_ ?_ ?_ ?_ ?_
    ·with_reducible refine qce qbb ?_ ?_ ?_
     ·with_reducible refine qcf ?_
      with_reducible refine qa1 ?_ ?_ ?_
      ·exact qac
      ·skip
       with_reducible refine qa1 ?_ ?_ ?_
       ·exact qac
       ·skip
        with_reducible refine qa1 ?_ ?_ ?_
        ·exact qac
        ·skip
         with_reducible refine qa1 ?_ ?_ ?_
         ·exact qac
         ·skip
          with_reducible refine qa1 ?_ ?_ ?_
          ·exact qac
          ·skip
           with_reducible refine qa1 ?_ ?_ ?_
           ·exact (qat T.d_law_take (qfa T) (hr.mono (by decide)) (qa1 (qa2 2) (qa1 qac qa3)))
           ·skip
            with_reducible refine qa1 ?_ ?_ ?_
            ·exact qac
            ·skip
             with_reducible refine qa1 ?_ ?_ ?_
             ·exact qac
             ·skip
              with_reducible refine qa1 ?_ ?_ ?_
              ·exact qf6
              ·skip
               with_reducible refine qa1 ?_ ?_ ?_
               ·exact pd_non
               ·skip
                with_reducible refine qa1 ?_ ?_ ?_
                ·exact qcU
                ·skip
                 with_reducible refine qa1 ?_ ?_ ?_
                 ·exact (qfN (qa1 qac qa3))
                 ·skip
                  with_reducible refine qa1 ?_ ?_ ?_
                  ·exact (qab qcB qac qac)
                  ·skip
                   with_reducible refine qa1 ?_ ?_ ?_
                   ·exact (qab od_pow qac qac)
                   ·skip
                    with_reducible exact qa3
                   ·exact qaQ rfl
                  ·exact qaQ rfl
                 ·exact qaQ rfl
                ·exact qaQ rfl
               ·exact qaQ rfl
              ·exact qaQ rfl
             ·exact qaQ rfl
            ·exact qaQ rfl
           ·exact qaQ rfl
          ·exact qaQ rfl
         ·exact qaQ rfl
        ·exact qaQ rfl
       ·exact qaQ rfl
      ·exact qaQ rfl
     ·exact (qat T.d_law_take (qfa T) (hr.mono (by decide)) (qa1 (qa2 2) (qa1 qac qa3)))
     ·exact fun _ _=>rfl
    ·exact sc_law.nd
    ·rfl
    ·first | exact Or.inl rfl | exact Or.inr rfl
    ·rfl
    ·first | exact .inl rfl | exact .inr rfl
   ·skip
    refine qa6 (qak (i:=4) qcU (hN:=sc_law.nd)) ?_
    refine qa6 (qd2 (PW.pt (pd_andT (qbR (qat T.d_law_whole (qeH T) (hr.mono (by decide)) (qa1 (qa2 3) qa3))) (pd_and1 (qbQ (od_in (hu64 hr)) (qa2 3) (qfN (qa1 qac (qa1 qac (qa1 qac (qa1 qac (qa1 qac qa3)))))))))) (qaa (qak (i:=4) (qat T.d_law_field_squares (qdT T) (hr.mono (by decide)) (qa1 (qa2 3) qa3)) (hN:=sc_law.nd))) qbP) ?_
    refine qa6 (qak (i:=5) (qat T.d_law_told (qf9 T) (hr.mono (by decide)) (qa1 (qa2 3) qa3)) (hN:=sc_law.nd)) ?_
    refine qa6 (qd2 (qcn (qbR (qat T.d_law_same (qe2 T 4) (hr.mono (by decide)) (qa1 (qa2 5) (qa1 (qa2 4) qa3))))) (qaa (qal qf6)) qbP) ?_
    exact (qaa (qd2 (qbQ (od_nev (hu64 hr)) (qa2 4) qcU) (qa6 (qbS (qaT (qa1 (qa8 qbe T.nb_len boot_len (qa1 (qa2 5) qa3)) qa3) T.nb_range) (qai (i:=6) (hN:=sc_law.nd)) (qaa (qd2 (qcn (qbR (qa8 cd_all T.nb_all boot_all (qa1 (qbh (N':=["other","found","one"]) (pick:=[none,some 5,some 6]) (CompScope.of rfl rfl) (qaT (qa1 (qa2 6) qa3) T.nb_range) (fun _ _ _ _ _ _=>(qai (i:=0) (hN:=(by decide +kernel:List.Nodup (["other","found","one"]:List Str))))) (fun _ _ _ _ _ _=>qaG) (fun _ _ _ _ _ _=>(qat T.d_across (ok_across T) (hr.mono (by decide)) (qa1 (qce qbb (qa2 1) (qa2 2)) (qa1 (qce qbb (qa2 1) (qa2 0)) qa3))))) qa3)))) (qaa (qal qf6)) qbP))) (qa6 (qcy (qdD (qa2 5) (qfN qa3))) (qaa (qd2 (qcn (qbR (qat T.d_law_same (qe2 T 4) (hr.mono (by decide)) (qa1 (qat T.d_law_told (qf9 T) (hr.mono (by decide)) (qa1 (qa2 3) qa3)) (qa1 (qa2 4) qa3))))) (qaa (qal qf6)) qbP)))) qbP))
  ·skip
   exact (qaa (qal qf6))
end
end Ev
namespace Fq
def rowF (p:Int):Nat→Int→List Int
 | 0,_=>[]
 | n + 1,x=>x % p :: rowF p n (x / p)
def numF (p:Int):List Int→Int
 | []=>0
 | d :: r=>numF p r * p + d % p
def qgw:List Int→Int
 | []=>0
 | [a]=>a
 | _ :: b :: r=>qgw (b :: r)
def tlF (low row:List Int):List Int:=List.zipWith (fun b d=>b - qgw row * d) (0 :: row) low
def mulR (low ry:List Int):List Int→List Int
 | []=>ry.map fun _=>0
 | d :: rx=>List.zipWith (fun a b=>a + d * b) (tlF low (mulR low ry rx)) ry
def addF (p:Int) (n:Nat) (x y:Int):Int:=numF p (List.zipWith (· + ·) (rowF p n x) (rowF p n y))
def subF (p:Int) (n:Nat) (x y:Int):Int:=numF p (List.zipWith (· - ·) (rowF p n x) (rowF p n y))
def mulF (p:Int) (n:Nat) (low x y:Int):Int:=numF p (mulR (rowF p n low) (rowF p n y) (rowF p n x))
theorem num_mod (p:Int):∀ r:List Int,numF p (r.map (· % p))=numF p r
 | []=>rfl
 | d :: r=>by simp only [List.map_cons,numF,num_mod p r,Int.emod_emod_of_dvd _ (Int.dvd_refl p)]
theorem num_nn {p:Int} (hp:0 < p):∀ r:List Int,0≤numF p r
 | []=>Int.le_refl 0
 | d :: r=>by
  have h1:=num_nn hp r
  have h2:=Int.emod_nonneg d (Int.ne_of_gt hp)
  have h3:=Int.mul_nonneg h1 (Int.le_of_lt hp)
  simp only [numF]
  omega
theorem num_lt {p:Int} (hp:0 < p):∀ r:List Int,numF p r < p ^ r.length
 | []=>by simp [numF]
 | d :: r=>by
  have h1:=num_lt hp r
  have h2:=Int.emod_lt_of_pos d hp
  simp only [numF,List.length_cons,Int.pow_succ]
  have h3:(numF p r + 1) * p≤p ^ r.length * p:=Int.mul_le_mul_of_nonneg_right (by omega) (Int.le_of_lt hp)
  have h4:(numF p r + 1) * p=numF p r * p + p:=by rw [Int.add_mul,Int.one_mul]
  omega
theorem qb6 (p:Int):∀ (n:Nat) (x:Int),(rowF p n x).length=n
 | 0,_=>rfl
 | n + 1,x=>by simp [rowF,qb6 p n]
theorem zip_len {f:Int→Int→Int} {p:Int} {n:Nat} {x y:Int}:(List.zipWith f (rowF p n x) (rowF p n y)).length=n:=by simp [qb6]
section
variable {p:Int} (hp:0 < p) {n:Nat}
include hp
theorem add_nn (x y:Int):0≤addF p n x y:=num_nn hp _
theorem add_lt (x y:Int):addF p n x y < p ^ n:=by
 have:=num_lt hp (List.zipWith (· + ·) (rowF p n x) (rowF p n y))
 rwa [zip_len] at this
end
structure Fd where
 q:Nat
 p:Nat
 n:Nat
 low:Nat
 g:Nat
 E:List Nat
 L:List Nat
def fds:List Fd:=[⟨2,2,1,0,1,[1],[0,0]⟩,
 ⟨3,3,1,0,2,[1,2],[0,0,1]⟩,
 ⟨4,2,2,3,2,[1,2,3],[0,0,1,2]⟩,
 ⟨5,5,1,0,2,[1,2,4,3],[0,0,1,3,2]⟩,
 ⟨7,7,1,0,3,[1,3,2,6,4,5],[0,0,2,1,4,5,3]⟩,
 ⟨8,2,3,3,2,[1,2,4,3,6,7,5],[0,0,1,3,2,6,4,5]⟩,
 ⟨9,3,2,1,4,[1,4,6,7,2,8,3,5],[0,0,4,6,1,7,2,3,5]⟩,
 ⟨11,11,1,0,2,[1,2,4,8,5,10,9,7,3,6],[0,0,1,8,2,4,9,7,3,6,5]⟩,
 ⟨13,13,1,0,2,[1,2,4,8,3,6,12,11,9,5,10,7],[0,0,1,4,2,9,5,11,3,8,10,7,6]⟩,
 ⟨16,2,4,3,2,[1,2,4,8,3,6,12,11,5,10,7,14,15,13,9],[0,0,1,4,2,8,5,10,3,14,9,7,6,13,11,12]⟩,
 ⟨17,17,1,0,3,[1,3,9,10,13,5,15,11,16,14,8,7,4,12,2,6],[0,0,14,1,12,5,15,11,10,2,3,7,13,4,9,6,8]⟩,
 ⟨19,19,1,0,2,[1,2,4,8,16,13,7,14,9,18,17,15,11,3,6,12,5,10],[0,0,1,13,2,16,14,6,3,8,17,12,15,5,7,11,4,10,9]⟩,
 ⟨23,23,1,0,5,[1,5,2,10,4,20,8,17,16,11,9,22,18,21,13,19,3,15,6,7,12,14],[0,0,2,16,4,1,18,19,6,10,3,9,20,14,21,17,8,7,12,15,5,13,11]⟩,
 ⟨25,5,2,2,6,[1,6,14,5,8,21,3,18,7,15,19,13,4,24,16,20,22,9,2,12,23,10,11,17],[0,0,18,6,12,3,1,8,4,17,21,22,19,11,2,9,14,23,7,10,15,5,16,20,13]⟩,
 ⟨27,3,3,7,3,[1,3,9,5,15,23,13,17,20,4,12,14,11,2,6,18,7,21,16,26,22,10,8,24,25,19],[0,0,13,1,9,3,14,16,22,2,21,12,10,6,11,4,18,7,15,25,8,17,20,5,23,24,19]⟩,
 ⟨29,29,1,0,2,[1,2,4,8,16,3,6,12,24,19,9,18,7,14,28,27,25,21,13,26,23,17,5,10,20,11,22,15],[0,0,1,5,2,22,6,12,3,10,23,25,7,18,13,27,4,21,11,9,24,17,26,20,8,16,19,15,14]⟩,
 ⟨31,31,1,0,3,[1,3,9,27,19,26,16,17,20,29,25,13,8,24,10,30,28,22,4,12,5,15,14,11,2,6,18,23,7,21],[0,0,24,1,18,20,25,28,12,2,14,23,19,11,22,21,6,7,26,4,8,29,17,27,13,10,5,3,16,9,15]⟩,
 ⟨32,2,5,5,2,[1,2,4,8,16,5,10,20,13,26,17,7,14,28,29,31,27,19,3,6,12,24,21,15,30,25,23,11,22,9,18],[0,0,1,18,2,5,19,11,3,29,6,27,20,8,12,23,4,10,30,17,7,22,28,26,21,25,9,16,13,14,24,15]⟩,
 ⟨37,37,1,0,2,[1,2,4,8,16,32,27,17,34,31,25,13,26,15,30,23,9,18,36,35,33,29,21,5,10,20,3,6,12,24,11,22,7,14,28,19],[0,0,1,26,2,23,27,32,3,16,24,30,28,11,33,13,4,7,17,35,25,22,31,15,29,10,12,6,34,21,14,9,5,20,8,19,18]⟩,
 ⟨41,41,1,0,6,[1,6,36,11,25,27,39,29,10,19,32,28,4,24,21,3,18,26,33,34,40,35,5,30,16,14,2,12,31,22,9,13,37,17,20,38,23,15,8,7],[0,0,26,15,12,22,1,39,38,30,8,3,27,31,25,37,24,33,16,9,34,14,29,36,13,4,17,5,11,7,23,28,10,18,19,21,2,32,35,6,20]⟩,
 ⟨43,43,1,0,3,[1,3,9,27,38,28,41,37,25,32,10,30,4,12,36,22,23,26,35,19,14,42,40,34,16,5,15,2,6,18,11,33,13,39,31,7,21,20,17,8,24,29],[0,0,27,1,12,25,28,35,39,2,10,30,13,32,20,26,24,38,29,19,37,36,15,16,40,8,17,3,5,41,11,34,9,31,23,18,14,7,4,33,22,6,21]⟩,
 ⟨47,47,1,0,5,[1,5,25,31,14,23,21,11,8,40,12,13,18,43,27,41,17,38,2,10,3,15,28,46,42,22,16,33,24,26,36,39,7,35,34,29,4,20,6,30,9,45,37,44,32,19],[0,0,18,20,36,1,38,32,8,40,19,7,10,11,4,21,26,16,12,45,37,6,25,5,28,2,29,14,22,35,39,3,44,27,34,33,30,42,17,31,9,15,24,13,43,41,23]⟩,
 ⟨49,7,2,1,9,[1,9,31,30,21,46,16,44,5,38,43,45,7,20,24,17,4,29,19,15,35,23,8,22,6,47,25,26,28,10,40,12,2,18,13,11,42,36,32,39,3,27,37,41,14,33,48,34],[0,0,32,40,16,8,24,12,22,1,29,35,31,34,44,19,6,15,33,18,13,4,23,21,14,26,27,41,28,17,3,2,38,45,47,20,37,42,9,39,30,43,36,10,7,11,5,25,46]⟩]
def nth:List Nat→Nat→Nat
 | [],_=>0
 | a :: _,0=>a
 | _ :: l,i + 1=>nth l i
def mI (f:Fd) (x y:Nat):Int:=mulF f.p f.n f.low x y
def aI (f:Fd) (x y:Nat):Int:=addF f.p f.n x y
def M (f:Fd) (x y:Nat):Nat:=if x=0∨y=0 then 0 else nth f.E ((nth f.L x + nth f.L y) % (f.q - 1))
def Mk (f:Fd) (x y:Nat):Nat:=cond (Nat.beq x 0 || Nat.beq y 0) 0 (nth f.E ((nth f.L x + nth f.L y) % (f.q - 1)))
theorem Mk_eq (f:Fd) (x y:Nat):Mk f x y=M f x y:=by
 unfold Mk M
 by_cases h:x=0∨y=0
 ·rw [if_pos h]
  rcases h with h | h <;> subst h <;> simp
 ·rw [if_neg h]
  rw [not_or] at h
  have h1:Nat.beq x 0=false:=by cases x with | zero=>exact absurd rfl h.1 | succ _=>rfl
  have h2:Nat.beq y 0=false:=by cases y with | zero=>exact absurd rfl h.2 | succ _=>rfl
  rw [h1,h2]; rfl
def isZ (i:Int) (k:Nat):Bool:=match i with
 | .ofNat m=>Nat.beq m k
 | .negSucc _=>false
theorem isZ_eq {i:Int} {k:Nat} (h:isZ i k=true):i=k:=by
 cases i with
 | ofNat m=>have:m=k:=Nat.eq_of_beq_eq_true h; subst this; rfl
 | negSucc _=>cases h
def chkM (f:Fd):Bool:=(List.range f.q).all fun x=>(List.range f.q).all fun y=>isZ (mI f x y) (Mk f x y)
def chkD (f:Fd):Bool:=(List.range f.q).all fun x=>(List.range f.q).all fun y=>Nat.beq (Mk f f.g (aI f x y).toNat) (aI f (Mk f f.g x) (Mk f f.g y)).toNat
def chkE (f:Fd):Bool:=(List.range (f.q - 1)).all fun i=>Nat.beq (nth f.L (nth f.E i)) i && !Nat.beq (nth f.E i) 0 && Nat.ble (nth f.E i + 1) f.q
def chkL (f:Fd):Bool:=(List.range f.q).all fun x=>Nat.beq x 0 || (Nat.beq (nth f.E (nth f.L x)) x && Nat.ble (nth f.L x + 1) (f.q - 1))
def chkO (f:Fd):Bool:=Nat.ble 2 f.q && Nat.beq (f.p ^ f.n) f.q && Nat.beq (nth f.E 0) 1 && Nat.ble 2 f.p && Nat.ble f.p 47 && Nat.ble 1 f.n && Nat.ble f.n 5 && Nat.beq (nth f.E (1 % (f.q - 1))) f.g && Nat.ble (f.low + 1) f.q && Nat.ble 1 f.g && Nat.ble (f.g + 1) f.q
theorem all_M:fds.all chkM=true:=by decide +kernel
theorem all_D:fds.all chkD=true:=by decide +kernel
theorem all_E:fds.all chkE=true:=by decide +kernel
theorem all_L:fds.all chkL=true:=by decide +kernel
theorem all_O:fds.all chkO=true:=by decide +kernel
end Fq
namespace Fq
theorem bl {a b:Nat} (h:Nat.ble a b=true):a≤b:=Nat.le_of_ble_eq_true h
theorem be {a b:Nat} (h:Nat.beq a b=true):a=b:=Nat.eq_of_beq_eq_true h
structure Is (f:Fd):Prop where
 q2:2≤f.q
 pn:f.p ^ f.n=f.q
 e0:nth f.E 0=1
 p2:2≤f.p
 p47:f.p≤47
 n1:1≤f.n
 n5:f.n≤5
 eg:nth f.E (1 % (f.q - 1))=f.g
 lo:f.low < f.q
 g1:1≤f.g
 gq:f.g < f.q
 le:∀ i,i < f.q - 1→nth f.L (nth f.E i)=i∧nth f.E i≠0∧nth f.E i < f.q
 el:∀ x,x < f.q→x≠0→nth f.E (nth f.L x)=x∧nth f.L x < f.q - 1
 mm:∀ x y,x < f.q→y < f.q→mI f x y=(M f x y:Nat)
 dd:∀ x y,x < f.q→y < f.q→M f f.g (aI f x y).toNat=(aI f (M f f.g x) (M f f.g y)).toNat
theorem qcW {f:Fd} (h:f∈fds):Is f:=by
 have hM:=List.all_eq_true.mp all_M f h
 have hD:=List.all_eq_true.mp all_D f h
 have hE:=List.all_eq_true.mp all_E f h
 have hL:=List.all_eq_true.mp all_L f h
 have hO:=List.all_eq_true.mp all_O f h
 simp only [chkO,Bool.and_eq_true] at hO
 obtain ⟨⟨⟨⟨⟨⟨⟨⟨⟨⟨o1,o2⟩,o3⟩,o4⟩,o5⟩,o6⟩,o7⟩,o8⟩,o9⟩,o10⟩,o11⟩:=hO
 refine ⟨bl o1,be o2,be o3,bl o4,bl o5,bl o6,bl o7,be o8,bl o9,bl o10,bl o11,fun i hi=>?_,fun x hx h0=>?_,fun x y hx hy=>?_,fun x y hx hy=>?_⟩
 ·have:=List.all_eq_true.mp hE i (List.mem_range.mpr hi)
  simp only [Bool.and_eq_true,Bool.not_eq_true'] at this
  exact ⟨be this.1.1,fun z=>by rw [z] at this; simp at this,bl this.2⟩
 ·have:=List.all_eq_true.mp hL x (List.mem_range.mpr hx)
  simp only [Bool.or_eq_true,Bool.and_eq_true] at this
  rcases this with this | this
  ·exact absurd (be this) h0
  ·exact ⟨be this.1,bl this.2⟩
 ·have:=List.all_eq_true.mp (List.all_eq_true.mp hM x (List.mem_range.mpr hx)) y (List.mem_range.mpr hy)
  rw [isZ_eq this,Mk_eq]
 ·have:=List.all_eq_true.mp (List.all_eq_true.mp hD x (List.mem_range.mpr hx)) y (List.mem_range.mpr hy)
  have:=be this
  rwa [Mk_eq,Mk_eq,Mk_eq] at this
section
variable {f:Fd} (I:Is f)
include I
theorem Is.pp:(0:Int) < f.p:=by have:=I.p2; omega
theorem Is.pw:((f.p:Int)) ^ f.n=(f.q:Int):=by rw [← I.pn]; simp
theorem M_lt (x y:Nat):M f x y < f.q:=by
 have:=I.q2
 unfold M
 split
 ·omega
 ·exact (I.le _ (Nat.mod_lt _ (by omega))).2.2
end
def P (f:Fd) (x:Nat):Nat→Nat
 | 0=>1
 | k + 1=>M f (P f x k) x
def Rz (f:Fd) (x k:Nat):Nat:=if x=0 then (if k=0 then 1 else 0) else P f x (k % (f.q - 1))
section
variable {f:Fd} (I:Is f)
include I
theorem aI_ok (x y:Nat):((aI f x y).toNat:Int)=aI f x y∧(aI f x y).toNat < f.q:=by
 have h1:=add_nn I.pp (n:=f.n) (x:Int) y
 have h2:=add_lt I.pp (n:=f.n) (x:Int) y
 rw [I.pw] at h2
 unfold aI
 omega
end
end Fq
namespace Ev
open PySem L2 Fq
theorem qe8 (i:Int) (c:LC):qaY [.int i] c=.ok (.bl true) c:=by simp [qaY,qbg]
theorem within_int (i lo hi:Int) (c:LC):qae [.int i,.int lo,.int hi] c=.ok (.bl (decide (lo≤i) && decide (i≤hi))) c:=by
 simp [qae,qax,qe8]
 by_cases q:lo≤i <;> simp [q]
theorem tabs_ok:(fds.all fun f=>decide (tabF qcb f.q=some [(f.p:Int),f.n,f.low]))=true:=by decide +kernel
theorem tab_at {f:Fd} (h:f∈fds):tabF qcb f.q=some [(f.p:Int),f.n,f.low]:=by
 have:=List.all_eq_true.mp tabs_ok f h
 simpa using this
theorem qfi {f:Fd} (h:f∈fds) (c:LC):qaC [.int f.q] c=.ok (.bl true) c:=by
 simp [qaC,qbO,qe8,tab_at h]
theorem qeL {f:Fd} (h:f∈fds) (c:LC):qcc [.int f.q] c=.ok .non c:=by
 simp [qcc,qbf,qfi h]
theorem things2 {f:Fd} (h:f∈fds) {x y:Int} (x0:0≤x) (x1:x < f.q) (y0:0≤y) (y1:y < f.q) (c:LC):qaH [.int f.q,.tup [.int x,.int y]] c=.ok .non c:=by
 have a1:x≤(f.q:Int) - 1:=by omega
 have a2:y≤(f.q:Int) - 1:=by omega
 simp [qaH,qaZ,qeL h,within_int,x0,y0,a1,a2]
def rowB:dF:=(sSeq (qc9 (qbC (dVar 3) (dBin modD (dVar 4) (dVar 2)))) (sSet 4 (dBin divD (dVar 4) (dVar 2))))
theorem row_step {c:LC} {a0 a1 v5:Option D} {p left:Int} {acc:List D} (hp:0 < p) (hp':p < 1000) (ha:acc.length < 1000):rowB [a0,a1,some (.int p),some (.ref c.length),some (.int left),v5] (c ++ [.lst acc]) =
  .ok (.nx [a0,a1,some (.int p),some (.ref c.length),some (.int (left / p)),v5]) (c ++ [.lst (acc ++ [.int (left % p)])]):=by
 have h:=qe6 (c:=c) (acc:=acc) (y:=.int (left % p)) (dO:=dVar 3) (da:=dBin modD (dVar 4) (dVar 2)) (e:=[a0,a1,some (.int p),some (.ref c.length),some (.int left),v5]) (by simp) (by simp (disch:=omega) [qfG]) rfl (by have:=qav (n:=1000) (by decide); omega)
 unfold rowB
 rw [qfy,qe7,h]
 simp (disch:=omega) [div_c]
theorem row_loop {c:LC} {a0 a1:Option D} {p:Int} (hp:0 < p) (hp':p < 1000):∀ (items:List D) (left:Int) (acc:List D) (v5:Option D),acc.length + items.length < 1000 →
  ∃ l' v5',forD (fun _=>True) (qa5 5) rowB items [a0,a1,some (.int p),some (.ref c.length),some (.int left),v5] (c ++ [.lst acc]) =
   .ok (.nx [a0,a1,some (.int p),some (.ref c.length),some (.int l'),v5']) (c ++ [.lst (acc ++ (rowF p items.length left).map D.int)])
 | [],left,acc,v5,_=>⟨left,v5,by simp [rowF]⟩
 | x :: xs,left,acc,v5,h=>by
  simp only [List.length_cons] at h
  obtain ⟨l',v',ih⟩:=row_loop hp hp' xs (left / p) (acc ++ [.int (left % p)]) (some x) (by simp; omega)
  refine ⟨l',v',?_⟩
  rw [qdt]
  simp only [qg6,List.set_cons_succ,List.set_cons_zero,R.bind_ok]
  rw [row_step hp hp' (by omega)]
  simp only [R.bind_ok]
  rw [ih]
  simp [rowF]
theorem row_gen {q p N low:Int} (ht:tabF qcb q=some [p,N,low]) (hp:0 < p) (hp':p < 1000) {n:Nat} (hl:(rngD 0 N).length=n) (hn:n < 1000) (b1:-4611686018427387904≤N∧N < 4611686018427387904) (x:Int) (c:LC) :
  qbJ [.int q,.int x] c=.ok (.lst ((rowF p n x).map D.int)) c:=by
 obtain ⟨l',v',hf⟩:=row_loop (c:=c) (a0:=some (.int q)) (a1:=some (.int x)) (p:=p) hp hp' (rngD 0 N) x [] none (by rw [hl,List.length_nil]; omega)
 rw [hl,List.nil_append] at hf
 unfold rowB at hf
 simp [qbJ,qdP,ht]
 rw [if_pos b1]
 simp only [R.bind_ok]
 rw [hf]
 simp [qcG,qco]
theorem row_ok {f:Fd} (h:f∈fds) (x:Int) (c:LC):qbJ [.int f.q,.int x] c=.ok (.lst ((rowF f.p f.n x).map D.int)) c:=by
 have I:=qcW h
 have p2:=I.p2
 have p47:=I.p47
 have n5:=I.n5
 exact row_gen (tab_at h) (by omega) (by omega) (by rw [qcT]; omega) (by omega) (by omega) x c
def numB:dF:=(sSet 3 (dBin addD (dBin mulD (dVar 3) (dVar 2)) (dBin modD (dVar 4) (dVar 2))))
theorem num_fold (p:Int):∀ r:List Int,r.foldr (fun d n=>n * p + d % p) 0=numF p r
 | []=>rfl
 | d :: r=>by simp only [List.foldr_cons,num_fold p r,numF]
theorem num_loop {c:LC} {a0 a1:Option D} {p:Int} (hp:0 < p) (hp':p < 1000):∀ (ds:List Int) (acc:Int) (v4:Option D),
  ∃ v',forD (fun _=>True) (qa5 4) numB (ds.map D.int) [a0,a1,some (.int p),some (.int acc),v4] c=.ok (.nx [a0,a1,some (.int p),some (.int (ds.foldl (fun n d=>n * p + d % p) acc)),v']) c
 | [],acc,v4=>⟨v4,by simp⟩
 | d :: ds,acc,v4=>by
  obtain ⟨v',ih⟩:=num_loop hp hp' ds (acc * p + d % p) (some (.int d))
  refine ⟨v',?_⟩
  rw [List.map_cons,qdt]
  simp only [qg6,List.set_cons_succ,List.set_cons_zero,R.bind_ok]
  have e:numB [a0,a1,some (.int p),some (.int acc),some (.int d)] c=.ok (.nx [a0,a1,some (.int p),some (.int (acc * p + d % p)),some (.int d)]) c:=by
   simp (disch:=omega) [numB,mul_r,qfG]
  rw [e]
  simp only [R.bind_ok]
  rw [ih]
  simp
theorem num_ok {f:Fd} (h:f∈fds) (r:List Int) (c:LC):qbW [.int f.q,.lst (r.map D.int)] c=.ok (.int (numF f.p r)) c:=by
 have I:=qcW h
 have p2:=I.p2
 have p47:=I.p47
 obtain ⟨v',hf⟩:=num_loop (c:=c) (a0:=some (.int f.q)) (a1:=some (.lst (r.map D.int))) (p:=f.p) (by omega) (by omega) r.reverse 0 none
 rw [List.foldl_reverse,num_fold,List.map_reverse] at hf
 unfold numB at hf
 simp [qbW,qcq,tab_at h]
 rw [hf]
 simp
theorem added_ok {f:Fd} (h:f∈fds) {x y:Int} (x0:0≤x) (x1:x < f.q) (y0:0≤y) (y1:y < f.q) (c:LC):qey [.int f.q,.int x,.int y] c=.ok (.int (addF f.p f.n x y)) c:=by
 have n5:=(qcW h).n5
 have hs:=qav (n:=1000) (by decide)
 have hz:f.n < sizeLine:=by omega
 have hc:=qeZ (st:=fun _=>True∧True) (c:=c) ⟨trivial,trivial⟩ (a:=dBin addD (dVar 0) (dVar 1)) (· + ·) [] (rowF f.p f.n x) (rowF f.p f.n y) none none [] (fun u _ v _=>by simp)
 have hn:=num_ok h (List.zipWith (· + ·) (rowF f.p f.n x) (rowF f.p f.n y)) c
 simp [qey,qeA,things2 h x0 x1 y0 y1,row_ok h,qfC,qb6,hz,qd3]
 simp at hc hn
 rw [hc]
 simp [hn,addF]
theorem at_last:∀ {r:List Int},r≠[]→atI (r.map D.int) (-1)=some (.int (qgw r)):=by
 have gen:∀ r:List Int,r≠[]→(r.map D.int)[r.length - 1]? = some (.int (qgw r)):=by
  intro r
  induction r with
  | nil=>intro h; exact absurd rfl h
  | cons a r ih =>
   intro _
   cases r with
   | nil=>rfl
   | cons b r =>
    have:=ih (by simp)
    simpa [qgw] using this
 intro r hr
 have hl:0 < r.length:=List.length_pos_iff.mpr hr
 have g:=gen r hr
 unfold atI ixN
 rw [List.length_map,if_neg (by decide),if_pos (by omega)]
 show (r.map D.int)[((-1:Int) + (r.length:Int)).toNat]? = _
 rw [show ((-1:Int) + (r.length:Int)).toNat=r.length - 1 by omega]
 exact g
theorem row_bd {p:Int} (hp:0 < p):∀ (n:Nat) (x:Int),∀ d∈rowF p n x,0≤d∧d < p
 | 0,x,d,h=>by cases h
 | n + 1,x,d,h=>by
  rcases List.mem_cons.mp h with rfl | h
  ·exact ⟨Int.emod_nonneg _ (by omega),Int.emod_lt_of_pos _ hp⟩
  ·exact row_bd hp n _ d h
theorem tl_ok {f:Fd} (h:f∈fds) {r:List Int} (hr:r.length=f.n) (c:LC):qbq [.int f.q,.lst (r.map D.int)] c=.ok (.lst ((tlF (rowF f.p f.n f.low) r).map D.int)) c:=by
 have I:=qcW h
 have n1:=I.n1
 have n5:=I.n5
 have p2:=I.p2
 have p47:=I.p47
 have hs:=qav (n:=1000) (by decide)
 have hz:f.n < sizeLine:=by omega
 have hz2:1 + r.length≤sizeLine:=by omega
 have hne:r≠[]:=by intro z; subst z; simp at hr; omega
 have hb:=row_bd (p:=f.p) (by omega) f.n f.low
 have hc:=qeZ (st:=fun _=>True∧True) (c:=c) ⟨trivial,trivial⟩ (a:=dBin subD (dVar 0) (dBin mulD (dBin ixD (dVar 2) (dUn negD (dC (.int 1)))) (dVar 1))) (fun b d=>b - qgw r * d) [some (.lst (r.map D.int))] (0 :: r) (rowF f.p f.n f.low) none none [] (fun u _ v hv=>by
  have:=hb v hv
  have e:mulD (.int (qgw r)) (.int v) c=.ok (.int (qgw r * v)) c:=mul_r c (by omega) (by omega)
  simp [at_last hne,e])
 simp [qbq,qbt,tab_at h,row_ok h,catD,qfC,qb6,hz,hz2,qd3]
 simp at hc
 rw [if_pos (by rw [hr]; omega)]
 rw [hc]
 have hr:=qco (l:=tlF (rowF f.p f.n f.low) r)
 simp [tlF] at hr
 simp [tlF,hr]
end Ev
namespace Ev
open PySem L2 Fq
def lrowB:dF:=(sSeq (qc9 (qbC (dVar 3) (dBin modD (dVar 0) (dVar 1)))) (sSet 0 (dBin divD (dVar 0) (dVar 1))))
theorem lrow_step {c:LC} {a2 v4:Option D} {p left:Int} {acc:List D} (hp:0 < p) (hp':p < 1000) (ha:acc.length < 1000):lrowB [some (.int left),some (.int p),a2,some (.ref c.length),v4] (c ++ [.lst acc]) =
  .ok (.nx [some (.int (left / p)),some (.int p),a2,some (.ref c.length),v4]) (c ++ [.lst (acc ++ [.int (left % p)])]):=by
 have h:=qe6 (c:=c) (acc:=acc) (y:=.int (left % p)) (dO:=dVar 3) (da:=dBin modD (dVar 0) (dVar 1)) (e:=[some (.int left),some (.int p),a2,some (.ref c.length),v4]) (by simp) (by simp (disch:=omega) [qfG]) rfl (by have:=qav (n:=1000) (by decide); omega)
 unfold lrowB
 rw [qfy,qe7,h]
 simp (disch:=omega) [div_c]
theorem lrow_loop {c:LC} {a2:Option D} {p:Int} (hp:0 < p) (hp':p < 1000):∀ (items:List D) (left:Int) (acc:List D) (v4:Option D),acc.length + items.length < 1000 →
  ∃ l' v',forD (fun _=>True) (qa5 4) lrowB items [some (.int left),some (.int p),a2,some (.ref c.length),v4] (c ++ [.lst acc]) =
   .ok (.nx [some (.int l'),some (.int p),a2,some (.ref c.length),v']) (c ++ [.lst (acc ++ (rowF p items.length left).map D.int)])
 | [],left,acc,v4,_=>⟨left,v4,by simp [rowF]⟩
 | x :: xs,left,acc,v4,h=>by
  simp only [List.length_cons] at h
  obtain ⟨l',v',ih⟩:=lrow_loop hp hp' xs (left / p) (acc ++ [.int (left % p)]) (some x) (by simp; omega)
  refine ⟨l',v',?_⟩
  rw [qdt]
  simp only [qg6,List.set_cons_succ,List.set_cons_zero,R.bind_ok]
  rw [lrow_step hp hp' (by omega)]
  simp only [R.bind_ok]
  rw [ih]
  simp [rowF]
theorem qgu {p N x:Int} (hp:0 < p) (hp':p < 1000) {n:Nat} (hl:(rngD 0 N).length=n) (hn:n < 1000) (b1:-4611686018427387904≤N∧N < 4611686018427387904) (c:LC) :
  qaw [.int x,.int p,.int N] c=.ok (.lst ((rowF p n x).map D.int)) c:=by
 obtain ⟨l',v',hf⟩:=lrow_loop (c:=c) (a2:=some (.int N)) (p:=p) hp hp' (rngD 0 N) x [] none (by rw [hl,List.length_nil]; omega)
 rw [hl,List.nil_append] at hf
 unfold lrowB at hf
 simp [qaw,qdq]
 rw [if_pos b1]
 simp only [R.bind_ok]
 rw [hf]
 simp [qcG,qco]
def dv (q p:Int):Bool:=decide (q % p=0)
def prs:List Int:=[2,3,5,7,11,13,17,19,23,29,31,37,41,43,47]
theorem find_head {α:Type} {P:α→Bool} {p:α}:∀ {l:List α},l.find? P=some p→∃ r,l.filter P=p :: r
 | [],h=>by cases h
 | a :: l,h=>by
  rw [List.find?_cons] at h
  rw [List.filter_cons]
  cases hP:P a with
  | true=>rw [hP] at h; cases h; exact ⟨_,if_pos rfl⟩
  | false =>
   rw [hP] at h
   obtain ⟨r,hr⟩:=find_head (l:=l) h
   exact ⟨r,by rw [if_neg Bool.false_ne_true]; exact hr⟩
def dvD (q:Int):D→Bool
 | .int p=>dv q p
 | _=>false
theorem dv_filter (q:Int):∀ l:List Int,((l.map D.int).filter (dvD q)).map id=(l.filter (dv q)).map D.int
 | []=>rfl
 | a :: l=>by
  have ih:=dv_filter q l
  have e:dvD q (.int a)=dv q a:=rfl
  rw [List.map_cons,List.filter_cons,List.filter_cons,e]
  cases dv q a with
  | true=>rw [if_pos rfl,if_pos rfl,List.map_cons,List.map_cons,ih]; rfl
  | false=>rw [if_neg Bool.false_ne_true,if_neg Bool.false_ne_true,ih]
theorem prime_gen {q:Int} {p:Int} (h:prs.find? (dv q)=some p) (c:LC):qas [.int q] c=.ok (.int p) c:=by
 have s15:(15:Nat)≤sizeLine:=by decide
 have t15:(15:Nat) < sizeLine:=by decide
 have hc:=qcX (c:=c) (g:=qa5 0) (t:=dBl (dBin eqD (dBin modD (dVar 1) (dVar 0)) (dC (.int 0)))) (a:=dVar 0) (fun e=>∃ v,e=[v,some (.int q)]) (dvD q) id
  (prs.map D.int) [none,some (.int q)] [] ⟨none,rfl⟩ (fun x hx e ⟨v,he⟩=>by
   subst he
   obtain ⟨i,hi,rfl⟩:=List.mem_map.mp hx
   have i0:0 < i:=by
    simp only [prs,List.mem_cons,List.not_mem_nil,or_false] at hi
    omega
   refine ⟨_,rfl,⟨_,rfl⟩,?_,fun _=>rfl⟩
   have e:modD (.int q) (.int i) c=.ok (.int (q % i)) c:=qfG c i0
   simp [e,dvD,dv])
 obtain ⟨r,hr⟩:=find_head h
 rw [dv_filter,hr] at hc
 simp only [List.map_cons,List.nil_append] at hc
 have hp:prs.map D.int=[D.int 2,.int 3,.int 5,.int 7,.int 11,.int 13,.int 17,.int 19,.int 23,.int 29,.int 31,.int 37,.int 41,.int 43,.int 47]:=rfl
 rw [hp] at hc
 simp [-qdn,qas,qcr,s15,t15,qd3]
 rw [hc]
 simp
theorem primes_all:(fds.all fun f=>(List.range f.n).all fun k=>prs.find? (dv ((f.p:Int) ^ (k + 1))) == some (f.p:Int))=true:=by decide +kernel
theorem prime_pow {f:Fd} (h:f∈fds) {k:Nat} (hk:k < f.n) (c:LC):qas [.int ((f.p:Int) ^ (k + 1))] c=.ok (.int f.p) c:=by
 refine prime_gen ?_ c
 have:=List.all_eq_true.mp (List.all_eq_true.mp primes_all f h) k (List.mem_range.mpr hk)
 simpa using this
theorem qgj {f:Fd} (h:f∈fds) (c:LC):qas [.int f.q] c=.ok (.int f.p) c:=by
 have I:=qcW h
 have n1:=I.n1
 have:=prime_pow h (k:=f.n - 1) (by omega) c
 rwa [show f.n - 1 + 1=f.n by omega,I.pw] at this
def degB:dF:=(sSeq (sSet 0 (dBin divD (dVar 0) (qa7 1 qas (qa0 (dVar 0) dNil)))) (sSet 1 (dBin addD (dVar 1) (dC (.int 1)))))
theorem deg_loop {f:Fd} (h:f∈fds) (c:LC):∀ (k fuel:Nat) (d:Int),k≤f.n→k < fuel→qcA (dBl (dBin gtD (dVar 0) (dC (.int 1)))) degB fuel [some (.int ((f.p:Int) ^ k)),some (.int d)] c=.ok (.nx [some (.int 1),some (.int (d + k))]) c
 | 0,fuel + 1,d,_,_=>by simp [qcA]
 | k + 1,fuel + 1,d,hk,hf=>by
  have I:=qcW h
  have p2:=I.p2
  have p47:=I.p47
  have ih:=deg_loop h c k fuel (d + 1) (by omega) (by omega)
  have hpos:∀ j:Nat,(1:Int)≤(f.p:Int) ^ j:=fun j=>by
   have:=Nat.one_le_pow j f.p (by omega)
   have e:((f.p ^ j:Nat):Int)=(f.p:Int) ^ j:=by simp
   omega
  have h1:(1:Int) < (f.p:Int) ^ (k + 1):=by
   rw [Int.pow_succ]
   have h2:=hpos k
   have h3:(f.p:Int) ^ k * 2≤(f.p:Int) ^ k * f.p:=Int.mul_le_mul_of_nonneg_left (by omega) (by omega)
   omega
  have hd:(f.p:Int) ^ (k + 1) / f.p=(f.p:Int) ^ k:=by
   rw [Int.pow_succ]; exact Int.mul_ediv_cancel _ (by omega)
  have e:degB [some (.int ((f.p:Int) ^ (k + 1))),some (.int d)] c=.ok (.nx [some (.int ((f.p:Int) ^ k)),some (.int (d + 1))]) c:=by
   have e1:divD (.int ((f.p:Int) ^ (k + 1))) (.int f.p) c=.ok (.int ((f.p:Int) ^ k)) c:=by rw [div_c c (by omega) (by omega),hd]
   simp [degB,prime_pow h (show k < f.n by omega),e1]
  have et:dBl (dBin gtD (dVar 0) (dC (.int 1))) [some (.int ((f.p:Int) ^ (k + 1))),some (.int d)] c=.ok true c:=by simp [h1]
  unfold qcA
  rw [et]
  simp only [R.bind_ok,if_pos]
  rw [e]
  simp only [R.bind_ok]
  rw [ih,show d + 1 + (k:Int)=d + ((k + 1:Nat):Int) by omega]
theorem degree_ok {f:Fd} (h:f∈fds) (c:LC):qaJ [.int f.q] c=.ok (.int f.n) c:=by
 have I:=qcW h
 have hl:=deg_loop h c f.n 10 0 (Nat.le_refl _) (by have:=I.n5; omega)
 rw [I.pw,Int.zero_add] at hl
 unfold degB at hl
 simp only [qaJ,qc8,x_fn,x_start,qfy,x_set,x_c,R.bind_ok,List.map_cons,List.map_nil,List.length_cons,List.length_nil]
 show R.bind (R.bind (qcA _ _ 10 [some (.int f.q),some (.int 0)] c) _) _=_
 rw [hl]
 simp
def numL (p:Int):List Int→Int
 | []=>0
 | d :: r=>numL p r * p + d
theorem numL_num {p:Int}:∀ {r:List Int},(∀ d∈r,0≤d∧d < p)→numL p r=numF p r
 | [],_=>rfl
 | d :: r,h=>by
  have:=h d List.mem_cons_self
  rw [numL,numF,numL_num fun x hx=>h x (List.mem_cons_of_mem _ hx),Int.emod_eq_of_lt this.1 this.2]
theorem numL_fold (p:Int) (r:List Int):r.reverse.foldl (fun n d=>n * p + d) 0=numL p r:=by
 rw [List.foldl_reverse]
 induction r with
 | nil=>rfl
 | cons d r ih=>rw [List.foldr_cons,ih]; rfl
def bNm (L:List D→LC→R D):dF:=(sSeq (sSet 2 (dC (.int 0))) (sSeq (sFor (qaD (qa0 (dCB L (qa0 (dVar 0) dNil)) dNil)) (qa5 3) (sSet 2 (dBin addD (dBin mulD (dVar 2) (dVar 1)) (dBin ixD (dVar 0) (dBin subD (dBin subD (dCB L (qa0 (dVar 0) dNil)) (dC (.int 1))) (dVar 3)))))) (sRet (dVar 2))))
theorem bNm_is:qc7=bNm lenD:=rfl
def lnumB (L:List D→LC→R D):dF:=(sSet 2 (dBin addD (dBin mulD (dVar 2) (dVar 1)) (dBin ixD (dVar 0) (dBin subD (dBin subD (dCB L (qa0 (dVar 0) dNil)) (dC (.int 1))) (dVar 3)))))
theorem lnum_gen {L:List D→LC→R D} {p N:Int} (hp:0 < p) (hp':p < 1000) (r:List Int) (hN:N=r.length) (b1:-4611686018427387904≤N∧N < 4611686018427387904) {c:LC} (hL:L [.lst (r.map D.int)] c=.ok (.int N) c):fnD 4 false (bNm L) [.lst (r.map D.int),.int p] c=.ok (.int (numL p r)) c:=by
 obtain ⟨v',hf⟩:=qe4 (g:=qa5 3) (s:=lnumB L) (fun _=>c) (fun i v=>[some (.lst (r.map D.int)),some (.int p),some (.int ((r.reverse.take i).foldl (fun n d=>n * p + d) 0)),v]) hN none (fun i hi v=>by
  refine ⟨_,rfl,some (.int i),?_⟩
  have hr:i < r.reverse.length:=by rw [List.length_reverse]; exact hi
  have ht:r.reverse.take (i + 1)=r.reverse.take i ++ [r.reverse[i]]:=List.take_succ_eq_append_getElem hr
  have hx:atI (r.map D.int) (N - 1 - i)=some (.int r.reverse[i]):=by
   have hg:(r.map D.int)[r.length - 1 - i]? = some (.int r.reverse[i]):=by
    rw [List.getElem?_map,List.getElem?_eq_getElem (by omega)]
    simp
   have:=qdw (xs:=r.map D.int) (j:=r.length - 1 - i) (v:=.int r.reverse[i]) hg
   rw [show ((r.length - 1 - i:Nat):Int)=N - 1 - i by omega] at this
   exact this
  rw [ht,List.foldl_append]
  generalize (r.reverse.take i).foldl (fun n d=>n * p + d) 0=w
  generalize r.reverse[i]=z at hx
  have hm:mulD (.int w) (.int p) c=.ok (.int (w * p)) c:=mul_r c (by omega) (by omega)
  simp [lnumB,hL,hm,hx])
 have e0:(r.reverse.take r.length).foldl (fun n d=>n * p + d) 0=numL p r:=by
  rw [List.take_of_length_le (by rw [List.length_reverse]; exact Nat.le_refl _),numL_fold]
 simp only [List.take_zero,List.foldl_nil] at hf
 rw [e0] at hf
 unfold lnumB at hf
 simp [bNm,hL]
 rw [if_pos b1]
 simp only [R.bind_ok]
 rw [hf]
 simp
theorem lnum_ok {p:Int} (hp:0 < p) (hp':p < 1000) (r:List Int) (hr:r.length < 1000) (c:LC):qbz [.lst (r.map D.int),.int p] c=.ok (.int (numL p r)) c:=by
 rw [qbz,bNm_is]
 exact lnum_gen hp hp' r rfl (by omega) (by rw [x_lenL,List.length_map])
end Ev
namespace Ev
open PySem L2 Fq
theorem qeq (i:Int) (c:LC):qar [.int i] c=.ok (.bl true) c:=by simp [qar,qb8]
@[simp] theorem lwhole_int (i:Int) (c:LC):qar [.int i] c=.ok (.bl true) c:=qeq i c
theorem all_bl (c:LC) (l:List D) (f:D→Bool):allD [.lst (l.map fun x=>.bl (f x))] c=.ok (.bl (l.all f)) c:=by
 have e:(l.map fun x=>D.bl (f x))=(l.map f).map D.bl:=by simp
 unfold allD quantD
 dsimp only
 rw [e,blsD_map]
 simp [List.all_map]
def Flat:D→Bool
 | .non=>true
 | .int _=>true
 | .str _=>true
 | _=>false
theorem same_flat {d:D} (h:Flat d=true) (k:Nat) (c:LC):qad (k + 1) [d,d] c=.ok (.bl true) c:=by
 cases d with
 | non=>simp [qad,qb1]
 | int i=>simp [qad,qb1]
 | str i=>simp [qad,qb1]
 | _=>cases h
def gJ (l:List Int) (i:Nat):Int:=l.getD i 0
theorem gJ_map {l:List Int} {i:Nat} (h:i < l.length):(l.map D.int)[i]? = some (.int (gJ l i)):=by
 rw [List.getElem?_map,List.getElem?_eq_getElem h]
 simp [gJ,List.getD,h]
theorem zip_range (f:Int→Int→Int) {a b:List Int} {n:Nat} (ha:a.length=n) (hb:b.length=n):List.zipWith f a b=(List.range n).map fun i=>f (gJ a i) (gJ b i):=by
 apply List.ext_getElem
 ·simp [ha,hb]
 ·intro i h1 h2
  simp only [List.getElem_zipWith,List.getElem_map,List.getElem_range]
  simp at h1
  have ia:i < a.length:=by omega
  have ib:i < b.length:=by omega
  simp [gJ,List.getD,ia,ib]
theorem comp_sum {a b:List Int} {p s N:Int} {n:Nat} (hN:N=n) (hp:0 < p) (ha:a.length=n) (hb:b.length=n) (hs:-1000 < s∧s < 1000) (c:LC) :
  qb4 (fun _=>True) (qa5 0) dYes (dBin modD (dBin addD (dBin ixD (dBin ixD (dVar 3) (dC (.int 0))) (dVar 0)) (dBin mulD (dVar 2) (dBin ixD (dBin ixD (dVar 3) (dC (.int 1))) (dVar 0)))) (dVar 1)) (rngD 0 N) [none,some (.int p),some (.int s),some (.lst [.lst (a.map D.int),.lst (b.map D.int)])] [] c =
   .ok ((List.zipWith (fun x y=>(x + s * y) % p) a b).map D.int) c:=by
 have:=qcX (c:=c) (g:=qa5 0) (t:=dYes) (a:=dBin modD (dBin addD (dBin ixD (dBin ixD (dVar 3) (dC (.int 0))) (dVar 0)) (dBin mulD (dVar 2) (dBin ixD (dBin ixD (dVar 3) (dC (.int 1))) (dVar 0)))) (dVar 1)) (fun e=>∃ v,e=[v,some (.int p),some (.int s),some (.lst [.lst (a.map D.int),.lst (b.map D.int)])]) (fun _=>true)
  (fun d=>match d with | .int i=>.int ((gJ a i.toNat + s * gJ b i.toNat) % p) | d=>d) (rngD 0 N) [none,some (.int p),some (.int s),some (.lst [.lst (a.map D.int),.lst (b.map D.int)])] [] ⟨none,rfl⟩ (fun x hx e ⟨v,he⟩=>by
   subst he
   obtain ⟨i,rfl,i0,i1⟩:=qgs hx
   obtain ⟨k,rfl⟩:∃ k:Nat,i=k:=⟨i.toNat,by omega⟩
   have h1:atI (a.map D.int) k=some (.int (gJ a k)):=qdw (gJ_map (by omega))
   have h2:atI (b.map D.int) k=some (.int (gJ b k)):=qdw (gJ_map (by omega))
   have h3:mulD (.int s) (.int (gJ b k)) c=.ok (.int (s * gJ b k)) c:=mul_l c (by omega) (by omega)
   have h4:modD (.int (gJ a k + s * gJ b k)) (.int p) c=.ok (.int ((gJ a k + s * gJ b k) % p)) c:=qfG c hp
   refine ⟨_,rfl,⟨_,rfl⟩,rfl,fun _=>?_⟩
   simp [h1,h2,h3,h4])
 rw [this,List.nil_append,List.filter_eq_self.mpr fun _ _=>rfl,zip_range _ ha hb]
 congr 1
 unfold rngD
 rw [List.map_map,List.map_map,show (N - 0).toNat=n by omega]
 apply List.map_congr_left
 intro i _
 simp
def bSm (L:List D→LC→R D):dF:=(sSeq (sSet 4 (qa7 1 qas (qa0 (dVar 0) dNil))) (sSeq (sSet 5 (qa7 1 qaJ (qa0 (dVar 0) dNil))) (sSeq (sSet 6 (dLst (qa0 (qa7 3 qaw (qa0 (dVar 1) (qa0 (dVar 4) (qa0 (dVar 5) dNil)))) (qa0 (qa7 3 qaw (qa0 (dVar 2) (qa0 (dVar 4) (qa0 (dVar 5) dNil)))) dNil)))) (sRet (qa7 2 L (qa0 (qaO (qaD (qa0 (dVar 5) dNil)) [none,some 4,some 3,some 6] (qa5 0) dYes (dBin modD (dBin addD (dBin ixD (dBin ixD (dVar 3) (dC (.int 0))) (dVar 0)) (dBin mulD (dVar 2) (dBin ixD (dBin ixD (dVar 3) (dC (.int 1))) (dVar 0)))) (dVar 1))) (qa0 (dVar 4) dNil)))))))
theorem bSm_is:qdp=bSm qbz:=rfl
theorem sum_gen {L:List D→LC→R D} {q x y s p N w:Int} {n:Nat} {a b:List Int} {c:LC} (h1:qas [.int q] c=.ok (.int p) c) (h2:qaJ [.int q] c=.ok (.int N) c) (h3:qaw [.int x,.int p,.int N] c=.ok (.lst (a.map D.int)) c) (h4:qaw [.int y,.int p,.int N] c=.ok (.lst (b.map D.int)) c)
  (hN:N=n) (hp:0 < p) (ha:a.length=n) (hb:b.length=n) (hs:-1000 < s∧s < 1000) (b1:-4611686018427387904≤N∧N < 4611686018427387904) (hl:(rngD 0 N).length < sizeLine) (hn:L [.lst ((List.zipWith (fun x y=>(x + s * y) % p) a b).map D.int),.int p] c=.ok (.int w) c):fnD 7 false (bSm L) [.int q,.int x,.int y,.int s] c=.ok (.int w) c:=by
 have hc:=comp_sum (a:=a) (b:=b) (p:=p) (s:=s) hN hp ha hb hs c
 have key:bSm L [some (.int q),some (.int x),some (.int y),some (.int s),none,none,none] c=.ok (.rt (.int w)) c:=by
  simp [bSm,h1,h2,h3,h4,qd3]
  rw [if_pos b1]
  simp only [R.bind_ok]
  rw [if_pos hl,hc]
  simp only [R.bind_ok,List.length_cons,List.length_nil,if_pos,hn]
 rw [x_fn]
 show R.bind (bSm L [some (.int q),some (.int x),some (.int y),some (.int s),none,none,none] c) _=_
 rw [key]
 simp
theorem zip_mod (f:Int→Int→Int) (p:Int):∀ a b:List Int,List.zipWith (fun x y=>f x y % p) a b=(List.zipWith f a b).map (· % p)
 | [],b=>by simp
 | a :: as,[]=>by simp
 | a :: as,b :: bs=>by rw [List.zipWith_cons_cons,List.zipWith_cons_cons,List.map_cons,zip_mod f p as bs]
theorem sum_ok {f:Fd} (h:f∈fds) (x y s:Int) (hs:-1000 < s∧s < 1000) (c:LC):qcw [.int f.q,.int x,.int y,.int s] c=.ok (.int (numF f.p (List.zipWith (fun a b=>a + s * b) (rowF f.p f.n x) (rowF f.p f.n y)))) c:=by
 have I:=qcW h
 have p2:=I.p2
 have p47:=I.p47
 have n5:=I.n5
 have hsz:=qav (n:=1000) (by decide)
 have h1:=fun z=>qgu (p:=f.p) (N:=f.n) (x:=z) (n:=f.n) (by omega) (by omega) (by rw [qcT]; omega) (by omega) (by omega) c
 have hn:=lnum_ok (p:=f.p) (by omega) (by omega) (List.zipWith (fun a b=>(a + s * b) % (f.p:Int)) (rowF f.p f.n x) (rowF f.p f.n y)) (by rw [zip_len]; omega) c
 have e:numL f.p (List.zipWith (fun a b=>(a + s * b) % (f.p:Int)) (rowF f.p f.n x) (rowF f.p f.n y))=numF f.p (List.zipWith (fun a b=>a + s * b) (rowF f.p f.n x) (rowF f.p f.n y)):=by
  rw [zip_mod,numL_num,num_mod]
  intro d hd
  obtain ⟨z,_,rfl⟩:=List.mem_map.mp hd
  exact ⟨Int.emod_nonneg _ (by omega),Int.emod_lt_of_pos _ (by omega)⟩
 rw [e] at hn
 rw [qcw,bSm_is]
 exact sum_gen (n:=f.n) (qgj h c) (degree_ok h c) (h1 x) (h1 y) rfl (by omega) (qb6 _ _ _) (qb6 _ _ _) hs (by omega) (by rw [qcT]; omega) hn
end Ev
namespace Ev
open PySem L2 Fq
def mulB':dF:=(sSet 4 (qaO (qfJ (qa0 (qa7 2 qbq (qa0 (dVar 0) (qa0 (dVar 4) dNil))) (qa0 (dVar 3) dNil))) [none,none,some 5] (qeR 2 (qc4 (qa5 0) (qc4 (qa5 1) qfm))) dYes (dBin addD (dVar 0) (dBin mulD (dVar 2) (dVar 1)))))
theorem tl_len {low r:List Int} {n:Nat} (hl:low.length=n) (hr:r.length=n):(tlF low r).length=n:=by
 simp [tlF,hl,hr]
theorem mul_step {f:Fd} (h:f∈fds) {ry r:List Int} (hy:ry.length=f.n) (hr:r.length=f.n) {d:Int} (d0:0≤d) (d1:d < 1000) (c:LC) (a1 a2:Option D) :
  mulB' [some (.int f.q),a1,a2,some (.lst (ry.map D.int)),some (.lst (r.map D.int)),some (.int d)] c =
   .ok (.nx [some (.int f.q),a1,a2,some (.lst (ry.map D.int)),some (.lst ((List.zipWith (fun a b=>a + d * b) (tlF (rowF f.p f.n f.low) r) ry).map D.int)),some (.int d)]) c:=by
 have n5:=(qcW h).n5
 have hs:=qav (n:=1000) (by decide)
 have hz:f.n < sizeLine:=by omega
 have ht:(tlF (rowF f.p f.n f.low) r).length=f.n:=tl_len (qb6 _ _ _) hr
 have hc:=qeZ (st:=fun _=>True∧True) (c:=c) ⟨trivial,trivial⟩ (a:=dBin addD (dVar 0) (dBin mulD (dVar 2) (dVar 1))) (fun a b=>a + d * b) [some (.int d)] (tlF (rowF f.p f.n f.low) r) ry none none [] (fun u _ v hv=>by
  have e:mulD (.int d) (.int v) c=.ok (.int (d * v)) c:=mul_l c (by omega) (by omega)
  simp [e])
 simp [mulB',tl_ok h hr,qfC,ht,hy,hz,qd3]
 simp at hc
 rw [hc]
 simp
theorem mul_loop {f:Fd} (h:f∈fds) {ry:List Int} (hy:ry.length=f.n) (c:LC) (a1 a2:Option D):∀ (ds r:List Int) (v5:Option D),r.length=f.n→(∀ d∈ds,0≤d∧d < 1000) →
  ∃ v',forD (fun _=>True) (qa5 5) mulB' (ds.map D.int) [some (.int f.q),a1,a2,some (.lst (ry.map D.int)),some (.lst (r.map D.int)),v5] c =
   .ok (.nx [some (.int f.q),a1,a2,some (.lst (ry.map D.int)),some (.lst ((ds.foldl (fun r d=>List.zipWith (fun a b=>a + d * b) (tlF (rowF f.p f.n f.low) r) ry) r).map D.int)),v']) c
 | [],r,v5,_,_=>⟨v5,by simp⟩
 | d :: ds,r,v5,hr,hd=>by
  have hd0:=hd d List.mem_cons_self
  have hl:(List.zipWith (fun a b=>a + d * b) (tlF (rowF f.p f.n f.low) r) ry).length=f.n:=by
   rw [List.length_zipWith,tl_len (qb6 _ _ _) hr,hy]; omega
  obtain ⟨v',ih⟩:=mul_loop h hy c a1 a2 ds (List.zipWith (fun a b=>a + d * b) (tlF (rowF f.p f.n f.low) r) ry) (some (.int d)) hl fun x hx=>hd x (List.mem_cons_of_mem _ hx)
  refine ⟨v',?_⟩
  rw [List.map_cons,qdt]
  simp only [qg6,List.set_cons_succ,List.set_cons_zero,R.bind_ok]
  rw [mul_step h hy hr hd0.1 hd0.2]
  simp only [R.bind_ok]
  rw [ih,List.foldl_cons]
theorem mulR_fold (low ry:List Int):∀ rx:List Int,rx.foldr (fun d r=>List.zipWith (fun a b=>a + d * b) (tlF low r) ry) (ry.map fun _=>0)=mulR low ry rx
 | []=>rfl
 | d :: rx=>by rw [List.foldr_cons,mulR_fold low ry rx]; rfl
theorem zeros (ry:List Int):(List.replicate ry.length [D.int 0]).flatten=(ry.map fun _=>(0:Int)).map D.int:=by
 induction ry with
 | nil=>rfl
 | cons a r ih=>rw [List.length_cons,List.replicate_succ,List.flatten_cons,ih]; rfl
theorem rep_gen {N:Int} {n:Nat} (hN:N.toNat=n) (b:-9223372036854775808≤N∧N < 9223372036854775808∧n≤sizeLine) (c:LC):repD (.lst [.int 0]) (.int N) c=.ok (.lst (List.replicate n [D.int 0]).flatten) c:=by
 rw [x_rep,hN,if_pos ⟨by omega,by omega,by simp only [List.length_cons,List.length_nil]; omega⟩]
def bM (L:List D→LC→R D) (Rp:D→D→LC→R D):dF:=(sSeq (qc9 (qa7 2 qaH (qa0 (dVar 0) (qa0 (dTup (qa0 (dVar 1) (qa0 (dVar 2) dNil))) dNil)))) (sSeq (sSet 3 (qa7 2 qbJ (qa0 (dVar 0) (qa0 (dVar 2) dNil)))) (sSeq (sSet 4 (dBin Rp (dLst (qa0 (dC (.int 0)) dNil)) (dCB L (qa0 (dVar 3) dNil)))) (sSeq (sFor (dRev (qa0 (qa7 2 qbJ (qa0 (dVar 0) (qa0 (dVar 1) dNil))) dNil)) (qa5 5) (sSet 4 (qaO (qfJ (qa0 (qa7 2 qbq (qa0 (dVar 0) (qa0 (dVar 4) dNil))) (qa0 (dVar 3) dNil))) [none,none,some 5] (qeR 2 (qc4 (qa5 0) (qc4 (qa5 1) qfm))) dYes (dBin addD (dVar 0) (dBin mulD (dVar 2) (dVar 1)))))) (sRet (qa7 2 qbW (qa0 (dVar 0) (qa0 (dVar 4) dNil))))))))
theorem bM_is:qc5=bM lenD repD:=rfl
theorem mul_gen {L:List D→LC→R D} {Rp:D→D→LC→R D} {q x y N w:Int} {rx ry Z Y:List D} {c:LC} {v':Option D} (h0:qaH [.int q,.tup [.int x,.int y]] c=.ok .non c) (h1:qbJ [.int q,.int y] c=.ok (.lst ry) c) (h2:qbJ [.int q,.int x] c=.ok (.lst rx) c) (hlen:L [.lst ry] c=.ok (.int N) c)
  (hrep:Rp (.lst [.int 0]) (.int N) c=.ok (.lst Z) c) (hf:forD (fun _=>True) (qa5 5) mulB' rx.reverse [some (.int q),some (.int x),some (.int y),some (.lst ry),some (.lst Z),none] c=.ok (.nx [some (.int q),some (.int x),some (.int y),some (.lst ry),some (.lst Y),v']) c)
  (hn:qbW [.int q,.lst Y] c=.ok (.int w) c):fnD 6 false (bM L Rp) [.int q,.int x,.int y] c=.ok (.int w) c:=by
 unfold mulB' at hf
 simp [bM,h0,h1,h2,hlen,hrep,hf,hn]
theorem mul_ok {f:Fd} (h:f∈fds) {x y:Int} (x0:0≤x) (x1:x < f.q) (y0:0≤y) (y1:y < f.q) (c:LC):qc2 [.int f.q,.int x,.int y] c=.ok (.int (mulF f.p f.n f.low x y)) c:=by
 have I:=qcW h
 have n5:=I.n5
 have p2:=I.p2
 have p47:=I.p47
 have hs:=qav (n:=1000) (by decide)
 have hb:=row_bd (p:=f.p) (by omega) f.n x
 obtain ⟨v',hf⟩:=mul_loop h (qb6 f.p f.n y) c (some (.int x)) (some (.int y)) (rowF f.p f.n x).reverse ((rowF f.p f.n y).map fun _=>0) none (by simp [qb6]) (fun d hd=>by
  have:=hb d (List.mem_reverse.mp hd); omega)
 rw [List.foldl_reverse,mulR_fold,List.map_reverse] at hf
 have z0:=zeros (rowF f.p f.n y)
 rw [qb6] at z0
 have hlen:lenD [.lst ((rowF f.p f.n y).map D.int)] c=.ok (.int (f.n:Int)) c:=by
  rw [x_lenL,List.length_map,qb6]
 have hrep:=rep_gen (N:=f.n) (n:=f.n) (by omega) (by omega) c
 rw [z0] at hrep
 rw [qc2,bM_is]
 exact mul_gen (things2 h x0 x1 y0 y1 c) (row_ok h y c) (row_ok h x c) hlen hrep hf (num_ok h (mulR (rowF f.p f.n f.low) (rowF f.p f.n y) (rowF f.p f.n x)) c)
theorem mul_M {f:Fd} (h:f∈fds) {x y:Nat} (hx:x < f.q) (hy:y < f.q) (c:LC):qc2 [.int f.q,.int x,.int y] c=.ok (.int (M f x y:Nat)) c:=by
 rw [mul_ok h (by omega) (by omega) (by omega) (by omega)]
 have:=(qcW h).mm x y hx hy
 unfold mI at this
 rw [this]
end Ev
namespace Ev
open PySem L2 Fq
def gI (l:List Int) (i:Nat):Int:=l.getD i 0
theorem qfY {l:List Int} {i:Nat} (h:i < l.length):(l.map D.int)[i]? = some (.int (gI l i)):=by
 rw [List.getElem?_map,List.getElem?_eq_getElem h]
 simp [gI,List.getD,h]
def inn (p a:Int) (b:List Int) (k:Nat) (F:List Int):Nat→List Int
 | 0=>F
 | j + 1=>(inn p a b k F j).set (k + j) ((gI (inn p a b k F j) (k + j) + a * gI b j) % p)
def outr (p:Int) (a b:List Int) (F:List Int):Nat→List Int
 | 0=>F
 | k + 1=>inn p (gI a k) b k (outr p a b F k) b.length
def qdQ (a b:List Int) (p:Int):List Int:=outr p a b (List.replicate (a.length + b.length - 1) 0) a.length
theorem qgy {p a:Int} {b:List Int} {k:Nat} {F:List Int}:∀ j,(inn p a b k F j).length=F.length
 | 0=>rfl
 | j + 1=>by rw [inn,List.length_set,qgy j]
theorem qeX {p:Int} {a b F:List Int}:∀ k,(outr p a b F k).length=F.length
 | 0=>rfl
 | k + 1=>by rw [outr,qgy,qeX k]
theorem map_set {l:List Int} {i:Nat} {x:Int}:(l.map D.int).set i (.int x)=(l.set i x).map D.int:=by rw [List.map_set]
def in1 (a p:Option D):Ev:=[a,p]
def spI:dF:=(sAsg (dBin modD (dBin addD (dBin ixD (dVar 3) (dBin addD (dVar 4) (dVar 5))) (dBin mulD (dBin ixD (dVar 0) (dVar 4)) (dBin ixD (dVar 1) (dVar 5)))) (dVar 2)) (qgD (dVar 3) (dBin addD (dVar 4) (dVar 5))))
theorem spI_ok {a b F:List Int} {p:Int} {c:LC} {k j:Nat} (hp:0 < p) (hk:k < a.length) (hj:j < b.length) (hF:k + j < F.length) (hs:∀ x∈a,0≤x∧x < 1000) :
  spI [some (.lst (a.map D.int)),some (.lst (b.map D.int)),some (.int p),some (.ref c.length),some (.int k),some (.int j)] (c ++ [.lst (F.map D.int)]) =
   .ok (.nx [some (.lst (a.map D.int)),some (.lst (b.map D.int)),some (.int p),some (.ref c.length),some (.int k),some (.int j)]) (c ++ [.lst ((F.set (k + j) ((gI F (k + j) + gI a k * gI b j) % p)).map D.int)]):=by
 have h1:=ix_end (c:=c) (l:=F.map D.int) (i:=(k:Int) + j) (j:=k + j) (d:=.int (gI F (k + j))) (by omega) (qfY hF)
 have h2:atI (a.map D.int) k=some (.int (gI a k)):=qdw (qfY hk)
 have h3:atI (b.map D.int) j=some (.int (gI b j)):=qdw (qfY hj)
 have hb:0≤gI a k∧gI a k < 1000:=hs _ (by simp [gI,List.getD,hk])
 have h4:∀ c,mulD (.int (gI a k)) (.int (gI b j)) c=.ok (.int (gI a k * gI b j)) c:=fun c=>mul_l c (by omega) (by omega)
 have h5:=fun x=>set_end (c:=c) (l:=F.map D.int) (i:=(k:Int) + j) (j:=k + j) (d:=.int x) (by omega) (by simpa using hF) rfl
 have h6:∀ x c,modD (.int x) (.int p) c=.ok (.int (x % p)) c:=fun x c=>qfG c hp
 simp only [spI,x_asg,qfA,qcC,gz,gs,R.bind_ok,x_add,x_ixL,h1,h2,h3,h4,h6,x_gsub,h5,map_set]
def spO (L:List D→LC→R D):dF:=(sFor (qaD (qa0 (dCB L (qa0 (dVar 1) dNil)) dNil)) (qa5 5) spI)
theorem spO_ok {L:List D→LC→R D} {a b F:List Int} {p N:Int} {c:LC} {k:Nat} (hp:0 < p) (hk:k < a.length) (hF:a.length + b.length - 1≤F.length) (hs:∀ x∈a,0≤x∧x < 1000) (hN:N=b.length) (b1:-4611686018427387904≤N∧N < 4611686018427387904) (hL:∀ c,L [.lst (b.map D.int)] c=.ok (.int N) c) (v5:Option D) :
  ∃ v',spO L [some (.lst (a.map D.int)),some (.lst (b.map D.int)),some (.int p),some (.ref c.length),some (.int k),v5] (c ++ [.lst (F.map D.int)]) =
   .ok (.nx [some (.lst (a.map D.int)),some (.lst (b.map D.int)),some (.int p),some (.ref c.length),some (.int k),v']) (c ++ [.lst ((inn p (gI a k) b k F b.length).map D.int)]):=by
 obtain ⟨v',hf⟩:=qe4 (g:=qa5 5) (s:=spI) (fun j=>c ++ [.lst ((inn p (gI a k) b k F j).map D.int)]) (fun _ v=>[some (.lst (a.map D.int)),some (.lst (b.map D.int)),some (.int p),some (.ref c.length),some (.int k),v]) hN v5 (fun j hj v=>by
  exact ⟨_,rfl,_,spI_ok hp hk hj (by rw [qgy]; omega) hs⟩)
 refine ⟨v',?_⟩
 simp only [spO,qfz,qfK,qba,x_cb,qcC,qcd,gz,gs,R.bind_ok,hL]
 rw [if_pos (by omega)]
 exact hf
def bSp (L:List D→LC→R D) (Rp:D→D→LC→R D):dF:=(sSeq (sSet 3 (dBin Rp (dLst (qa0 (dC (.int 0)) dNil)) (dBin subD (dBin addD (dCB L (qa0 (dVar 0) dNil)) (dCB L (qa0 (dVar 1) dNil))) (dC (.int 1))))) (sSeq (sFor (qaD (qa0 (dCB L (qa0 (dVar 0) dNil)) dNil)) (qa5 4) (sFor (qaD (qa0 (dCB L (qa0 (dVar 1) dNil)) dNil)) (qa5 5) (sAsg (dBin modD (dBin addD (dBin ixD (dVar 3) (dBin addD (dVar 4) (dVar 5))) (dBin mulD (dBin ixD (dVar 0) (dVar 4)) (dBin ixD (dVar 1) (dVar 5)))) (dVar 2)) (qgD (dVar 3) (dBin addD (dVar 4) (dVar 5)))))) (sRet (dVar 3))))
theorem bSp_is:qaq=bSp lenD repM:=rfl
theorem sp_gen {L:List D→LC→R D} {Rp:D→D→LC→R D} {a b:List Int} {p N M:Int} {c:LC} (hp:0 < p) (ha:a≠[]) (hs:∀ x∈a,0≤x∧x < 1000) (hN:N=b.length) (b1:-4611686018427387904≤N∧N < 4611686018427387904) (hL:∀ c,L [.lst (b.map D.int)] c=.ok (.int N) c)
  (hM:M=a.length) (b2:-4611686018427387904≤M∧M < 4611686018427387904) (hL2:∀ c,L [.lst (a.map D.int)] c=.ok (.int M) c) (hR:Rp (.lst [.int 0]) (.int (M + N - 1)) c=.ok (.ref c.length) (c ++ [.lst ((List.replicate (a.length + b.length - 1) (0:Int)).map D.int)])) :
  bSp L Rp [some (.lst (a.map D.int)),some (.lst (b.map D.int)),some (.int p),none,none,none] c=.ok (.rt (.ref c.length)) (c ++ [.lst ((qdQ a b p).map D.int)]):=by
 obtain ⟨v',hf⟩:=qe4 (α:=Option D×Option D) (g:=qa5 4) (s:=spO L) (fun k=>c ++ [.lst ((outr p a b (List.replicate (a.length + b.length - 1) 0) k).map D.int)]) (fun _ v=>[some (.lst (a.map D.int)),some (.lst (b.map D.int)),some (.int p),some (.ref c.length),v.1,v.2]) hM (none,none) (fun k hk v=>by
  obtain ⟨w,h⟩:=spO_ok (L:=L) (a:=a) (b:=b) (F:=outr p a b (List.replicate (a.length + b.length - 1) 0) k) (c:=c) (k:=k) hp hk (by rw [qeX,List.length_replicate]; exact Nat.le_refl _) hs hN b1 hL v.2
  exact ⟨_,rfl,(some (.int k),w),h⟩)
 simp only [bSp,qfy,x_set,qfA,x_lst,qba,x_c,qcd,R.bind_ok,x_cb,qcC,gz,gs,hL,hL2,x_add,x_sub]
 rw [if_pos (by decide)]
 simp only [R.bind_ok,hR,List.set_cons_succ,List.set_cons_zero,qfz,qfK,qba,x_cb,qcC,qcd,gz,gs,hL2]
 rw [if_pos (by omega)]
 simp only [R.bind_ok]
 unfold spO at hf
 unfold spI at hf
 simp only [outr] at hf
 rw [hf]
 rfl
theorem sp_rep {a b:List Int} (h:a.length + b.length < 1000) (ha:a≠[]) {M N:Int} (hM:M=a.length) (hN:N=b.length) (c:LC):repM (.lst [.int 0]) (.int (M + N - 1)) c=.ok (.ref c.length) (c ++ [.lst ((List.replicate (a.length + b.length - 1) (0:Int)).map D.int)]):=by
 have hl:0 < a.length:=List.length_pos_iff.mpr ha
 have hs:=qav (n:=1000) (by decide)
 have ht:(M + N - 1).toNat=a.length + b.length - 1:=by omega
 rw [x_repM,ht,if_pos ⟨by omega,by omega,by simp only [List.length_cons,List.length_nil]; omega,rfl⟩]
 congr 4
 generalize a.length + b.length - 1=n
 induction n with
 | zero=>rfl
 | succ n ih=>rw [List.replicate_succ,List.flatten_cons,ih]; rfl
theorem qei (l:List Int) (c:LC):lenD [.lst (l.map D.int)] c=.ok (.int l.length) c:=by rw [x_lenL,List.length_map]
theorem sp_ok {a b:List Int} {p:Int} (hp:0 < p) (ha:a≠[]) (hs:∀ x∈a,0≤x∧x < 1000) (h:a.length + b.length < 1000) (c:LC):qap [.lst (a.map D.int),.lst (b.map D.int),.int p] c=.ok (.lst ((qdQ a b p).map D.int)) c:=by
 have:=sp_gen (L:=lenD) (Rp:=repM) hp ha hs rfl (by omega) (qei b) rfl (by omega) (qei a) (sp_rep h ha rfl rfl c)
 rw [qap,bSp_is,x_fn]
 show R.bind (bSp lenD repM [some (.lst (a.map D.int)),some (.lst (b.map D.int)),some (.int p),none,none,none] c) _=_
 rw [this]
 simp [qcG]
theorem spo_ok {a b:List Int} {p:Int} (hp:0 < p) (ha:a≠[]) (hs:∀ x∈a,0≤x∧x < 1000) (h:a.length + b.length < 1000) (c:LC):qaB [.lst (a.map D.int),.lst (b.map D.int),.int p] c=.ok (.ref c.length) (c ++ [.lst ((qdQ a b p).map D.int)]):=by
 have:=sp_gen (L:=lenD) (Rp:=repM) hp ha hs rfl (by omega) (qei b) rfl (by omega) (qei a) (sp_rep h ha rfl rfl c)
 rw [qaB,bSp_is,x_fn]
 show R.bind (bSp lenD repM [some (.lst (a.map D.int)),some (.lst (b.map D.int)),some (.int p),none,none,none] c) _=_
 rw [this]
 simp [qcG]
end Ev
namespace Ev
open PySem L2 Fq
def more (p:Nat) (row:List Int):List (List Int):=(List.range p).map fun d:Nat=>row ++ [(d:Int)]
def qb3 (p:Nat):Nat→List (List Int)
 | 0=>[[]]
 | i + 1=>(qb3 p i).flatMap (more p)
theorem filt {l:List D}:(l.filter fun _=>true)=l:=List.filter_eq_self.mpr fun _ _=>rfl
def LD (L:List (List Int)):List D:=L.map fun r=>.lst (r.map D.int)
theorem LD_append (a b:List (List Int)):LD (a ++ b)=LD a ++ LD b:=by simp [LD]
theorem LD_ref (L:List (List Int)):qam (LD L)=true:=noRefs_iff.mpr fun d hd=>by
 obtain ⟨r,_,rfl⟩:=List.mem_map.mp hd
 rw [r_lst]; exact qco
theorem qdX (L:List (List Int)):(LD L).length=L.length:=by simp [LD]
theorem qgr (p:Nat) (r:List Int):(more p r).length=p:=by simp [more]
theorem qel (p:Nat):∀ i,(qb3 p i).length=p ^ i
 | 0=>rfl
 | i + 1=>by
  have:∀ L:List (List Int),(L.flatMap (more p)).length=L.length * p:=by
   intro L
   induction L with
   | nil=>simp
   | cons a L ih=>rw [List.flatMap_cons,List.length_append,ih,qgr,List.length_cons,Nat.succ_mul,Nat.add_comm]
  rw [qb3,this,qel p i,Nat.pow_succ]
theorem take_flat {α β:Type} (f:α→List β) {L:List α} {j:Nat} (h:j < L.length):(L.take (j + 1)).flatMap f=(L.take j).flatMap f ++ f L[j]:=by
 rw [List.take_succ_eq_append_getElem h,List.flatMap_append]
 simp
def hdI:dF:=(qc9 (qdu (dVar 4) (qaO (qaD (qa0 (dVar 1) dNil)) [none,some 5] (qa5 0) dYes (dBin catD (dVar 1) (dLst (qa0 (dVar 0) dNil))))))
def hdO:dF:=(sSeq (sSet 4 (qdV dNil)) (sSeq (sFor (dSeq (dVar 2)) (qa5 5) (qc9 (qdu (dVar 4) (qaO (qaD (qa0 (dVar 1) dNil)) [none,some 5] (qa5 0) dYes (dBin catD (dVar 1) (dLst (qa0 (dVar 0) dNil))))))) (sSet 2 (dVar 4))))
theorem comp_more {row:List Int} {P:Int} {p:Nat} (hP:P=p) (hr:row.length < 1000) (c:LC):qb4 (fun _=>True) (qa5 0) dYes (dBin catD (dVar 1) (dLst (qa0 (dVar 0) dNil))) (rngD 0 P) [none,some (.lst (row.map D.int))] [] c=.ok (LD (more p row)) c:=by
 have hs:=qav (n:=1000) (by decide)
 have hz:row.length + 1≤sizeLine:=by omega
 have:=qcX (c:=c) (g:=qa5 0) (t:=dYes) (a:=dBin catD (dVar 1) (dLst (qa0 (dVar 0) dNil))) (fun e=>∃ v,e=[v,some (.lst (row.map D.int))]) (fun _=>true) (fun d=>.lst (row.map D.int ++ [d]))
  (rngD 0 P) [none,some (.lst (row.map D.int))] [] ⟨none,rfl⟩ (fun x hx e ⟨v,he⟩=>by
   subst he
   refine ⟨_,rfl,⟨_,rfl⟩,rfl,fun _=>?_⟩
   simp [catD,hz])
 rw [this]
 subst hP
 congr 1
 unfold rngD LD more
 simp only [List.nil_append,filt,List.map_map]
 rw [show ((p:Int) - 0).toNat=p by omega]
 apply List.map_congr_left
 intro d _
 simp
theorem hdI_ok {C:LC} {acc:List D} {P many:Int} {p:Nat} {row:List Int} (hP:P=p) (bP:-4611686018427387904≤P∧P < 4611686018427387904) (hp:p < 1000) (hr:row.length < 1000) (ha:acc.length + p≤1000) (F v3:Option D) :
  hdI [some (.int many),some (.int P),F,v3,some (.ref C.length),some (.lst (row.map D.int))] (C ++ [.lst acc])=.ok (.nx [some (.int many),some (.int P),F,v3,some (.ref C.length),some (.lst (row.map D.int))]) (C ++ [.lst (acc ++ LD (more p row))]):=by
 have hs:=qav (n:=1000) (by decide)
 have hc:=comp_more (row:=row) hP hr (C ++ [.lst acc])
 have hl:(rngD 0 P).length < sizeLine:=by rw [qcT]; omega
 have hl2:acc.length + (LD (more p row)).length≤sizeLine∧qam (LD (more p row))=true:=⟨by rw [qdX,qgr]; omega,LD_ref _⟩
 simp only [hdI,qe7,qdu,qcC,gz,gs,R.bind_ok,qeC,qfK,qba,qcd]
 rw [if_pos (by omega)]
 simp only [R.bind_ok,qd3]
 rw [if_pos hl]
 show R.bind (R.bind (R.bind (qb4 (fun _=>True) (qa5 0) dYes (dBin catD (dVar 1) (dLst (qa0 (dVar 0) dNil))) (rngD 0 P) [none,some (.lst (row.map D.int))] [] (C ++ [.lst acc])) _) _) _=_
 rw [hc]
 simp only [R.bind_ok,List.getElem?_concat_length]
 rw [if_pos hl2]
 simp
def hC (c:LC) (p i:Nat):LC:=c ++ (List.range i).map fun t=>Cell.lst (LD (qb3 p (t + 1)))
def hF (c:LC) (p i:Nat):D:=match i with
 | 0=>.lst (LD (qb3 p 0))
 | i + 1=>.ref (c.length + i)
theorem hC_len (c:LC) (p i:Nat):(hC c p i).length=c.length + i:=by simp [hC]
theorem hC_succ (c:LC) (p i:Nat):hC c p (i + 1)=hC c p i ++ [.lst (LD (qb3 p (i + 1)))]:=by simp [hC,List.range_succ]
theorem hF_seq (c:LC) (p i:Nat) (more:LC) {e:Ev} {k:Nat} (he:e[k]? = some (some (hF c p i))):∃ st:LC→Prop,(∀ m,st (hC c p i ++ m))∧dSeq (dVar k) e (hC c p i ++ more)=.ok ⟨LD (qb3 p i),st⟩ (hC c p i ++ more):=by
 cases i with
 | zero=>exact ⟨fun _=>True,fun _=>trivial,by simp only [x_seqS,qcC,he]; rfl⟩
 | succ i =>
  have hg:∀ m:LC,(hC c p (i + 1) ++ m)[c.length + i]? = some (.lst (LD (qb3 p (i + 1)))):=fun m=>by
   rw [List.getElem?_append_left (by rw [hC_len]; omega),hC_succ,List.getElem?_append_right (by rw [hC_len]; exact Nat.le_refl _),hC_len,Nat.sub_self]
   rfl
  refine ⟨fun c'=>c'[c.length + i]? = some (.lst (LD (qb3 p (i + 1)))),hg,?_⟩
  simp only [x_seqS,qcC,he,hF,R.bind_ok,hg]
theorem hdO_ok {c:LC} {P many:Int} {p i:Nat} (hP:P=p) (bP:-4611686018427387904≤P∧P < 4611686018427387904) (hp:p < 1000) (hi:p ^ (i + 1)≤1000) (hrow:∀ r∈qb3 p i,r.length < 1000) (v3 v4 v5:Option D) :
  ∃ w4 w5,hdO [some (.int many),some (.int P),some (hF c p i),v3,v4,v5] (hC c p i)=.ok (.nx [some (.int many),some (.int P),some (hF c p (i + 1)),v3,w4,w5]) (hC c p (i + 1)):=by
 obtain ⟨st,hst,hseq⟩:=hF_seq c p i [.lst []] (e:=[some (.int many),some (.int P),some (hF c p i),v3,some (.ref (hC c p i).length),v5]) (k:=2) rfl
 have hlen:=qel p i
 obtain ⟨v',hf⟩:=qe5 (st:=st) (g:=qa5 5) (s:=hdI) (fun j=>hC c p i ++ [.lst (LD (((qb3 p i).take j).flatMap (more p)))]) (fun _ v=>[some (.int many),some (.int P),some (hF c p i),v3,some (.ref (hC c p i).length),v]) (LD (qb3 p i)) 0 v5
  (fun j _=>hst _) (fun j x hx v=>by
   rw [Nat.zero_add]
   have hj:j < (qb3 p i).length:=by
    have:=(List.getElem?_eq_some_iff.mp hx).1
    rwa [qdX] at this
   have hx':x=.lst ((qb3 p i)[j].map D.int):=by
    have:=(List.getElem?_eq_some_iff.mp hx).2
    rw [← this]
    simp [LD]
   subst hx'
   refine ⟨_,rfl,some (.lst ((qb3 p i)[j].map D.int)),?_⟩
   have hacc:(LD (((qb3 p i).take j).flatMap (more p))).length + p≤1000:=by
    rw [qdX]
    have:∀ L:List (List Int),(L.flatMap (more p)).length=L.length * p:=by
     intro L
     induction L with
     | nil=>simp
     | cons a L ih=>rw [List.flatMap_cons,List.length_append,ih,qgr,List.length_cons,Nat.succ_mul,Nat.add_comm]
    rw [this,List.length_take,Nat.min_eq_left (by omega)]
    have h2:(j + 1) * p≤p ^ i * p:=Nat.mul_le_mul_right p (by omega)
    have h3:p ^ i * p=p ^ (i + 1):=(Nat.pow_succ ..).symm
    rw [h3,Nat.succ_mul] at h2
    omega
   have:=hdI_ok (C:=hC c p i) (many:=many) (row:=(qb3 p i)[j]) hP bP hp (hrow _ (List.getElem_mem hj)) hacc (some (hF c p i)) v3
   rw [take_flat _ hj,LD_append]
   exact this)
 rw [qdX,Nat.zero_add,List.take_length,List.take_zero] at hf
 refine ⟨some (.ref (hC c p i).length),v',?_⟩
 have hF1:hF c p (i + 1)=.ref (hC c p i).length:=by rw [hC_len]; rfl
 rw [hC_succ,hF1]
 simp only [hdO,qfy,x_set,x_lstM,qcd,R.bind_ok]
 rw [if_pos ⟨by simp,by simp⟩]
 simp only [R.bind_ok,List.set_cons_succ,List.set_cons_zero,qfz]
 rw [hseq]
 simp only [R.bind_ok]
 unfold hdI at hf
 show R.bind (forD st (qa5 5) _ (LD (qb3 p i)) [some (.int many),some (.int P),some (hF c p i),v3,some (.ref (hC c p i).length),v5] (hC c p i ++ [.lst (LD ([].flatMap (more p)))])) _=_
 rw [hf]
 rfl
def qbB (p n:Nat):List (List Int):=(qb3 p n).map (· ++ [1])
theorem qeU (p:Nat):∀ i,∀ r∈qb3 p i,r.length=i
 | 0,r,h=>by
  rw [qb3,List.mem_singleton] at h
  subst h; rfl
 | i + 1,r,h=>by
  rw [qb3,List.mem_flatMap] at h
  obtain ⟨r',h1,h2⟩:=h
  obtain ⟨d,_,rfl⟩:=List.mem_map.mp h2
  rw [List.length_append,qeU p i r' h1]; rfl
theorem heads_ok {P many:Int} {p n:Nat} (hP:P=p) (hn:many=n) (bP:-4611686018427387904≤P∧P < 4611686018427387904) (bn:-4611686018427387904≤many∧many < 4611686018427387904) (hp:0 < p) (hp':p < 1000) (hpow:p ^ n < 1000) (hn':n < 100) (c:LC) :
  qbA [.int many,.int P] c=.ok (.lst (LD (qbB p n))) c:=by
 have hs:=qav (n:=1000) (by decide)
 obtain ⟨v',hf⟩:=qe4 (α:=Option D×Option D×Option D) (g:=qa5 3) (s:=hdO) (hC c p) (fun i v=>[some (.int many),some (.int P),some (hF c p i),v.1,v.2.1,v.2.2]) hn (none,none,none) (fun i hi v=>by
  obtain ⟨w4,w5,h⟩:=hdO_ok (c:=c) (many:=many) (p:=p) (i:=i) hP bP hp' (Nat.le_of_lt (Nat.lt_of_le_of_lt (Nat.pow_le_pow_right hp hi) hpow)) (fun r hr=>by rw [qeU p i r hr]; omega) (some (.int i)) v.2.1 v.2.2
  exact ⟨_,rfl,(some (.int i),w4,w5),h⟩)
 obtain ⟨st,hst,hseq⟩:=hF_seq c p n [] (e:=[some (.int many),some (.int P),some (hF c p n),v'.1,v'.2.1,v'.2.2]) (k:=2) rfl
 rw [List.append_nil] at hseq
 have hst0:st (hC c p n):=by have:=hst []; rwa [List.append_nil] at this
 have hcp:=qdm (c:=hC c p n) st hst0 (g:=qa5 0) (t:=dYes) (a:=dBin catD (dVar 0) (dLst (qa0 (dC (.int 1)) dNil))) (fun e=>∃ v,e=[v]) (fun _=>true) (fun d=>match d with | .lst l=>.lst (l ++ [.int 1]) | d=>d)
  (LD (qb3 p n)) [none] [] ⟨none,rfl⟩ (fun x hx e ⟨v,he⟩=>by
   subst he
   obtain ⟨r,hr,rfl⟩:=List.mem_map.mp hx
   have hz:r.length + 1≤sizeLine:=by rw [qeU p n r hr]; omega
   refine ⟨_,rfl,⟨_,rfl⟩,rfl,fun _=>?_⟩
   simp [catD,hz])
 have hit:(LD (qb3 p n)).length < sizeLine:=by rw [qdX,qel]; omega
 have hres:[] ++ ((LD (qb3 p n)).filter fun _=>true).map (fun d=>match d with | .lst l=>D.lst (l ++ [.int 1]) | d=>d)=LD (qbB p n):=by
  rw [List.nil_append,filt]
  unfold LD qbB
  rw [List.map_map,List.map_map]
  apply List.map_congr_left
  intro r _
  simp
 rw [hres] at hcp
 have hb:qbF=sSeq (sSet 2 (dLst (qa0 (dLst dNil) dNil))) (sSeq (sFor (qaD (qa0 (dVar 0) dNil)) (qa5 3) hdO) (sRet (qaO (dSeq (dVar 2)) [none] (qa5 0) dYes (dBin catD (dVar 0) (dLst (qa0 (dC (.int 1)) dNil)))))):=rfl
 have hC0:hC c p 0=c:=by simp [hC]
 rw [hC0] at hf
 have key:qbF [some (.int many),some (.int P),none,none,none,none] c=.ok (.rt (.lst (LD (qbB p n)))) (hC c p n):=by
  rw [hb]
  simp only [qfy,x_set,x_lst,qba,qcd,R.bind_ok]
  rw [if_pos (by decide)]
  simp only [R.bind_ok]
  rw [if_pos (by decide)]
  simp only [R.bind_ok,List.set_cons_succ,List.set_cons_zero,qfz,qfK,qba,qcC,qcd,gz]
  rw [if_pos (by omega)]
  simp only [R.bind_ok]
  show R.bind (forD (fun _=>True) (qa5 3) hdO (rngD 0 many) [some (.int many),some (.int P),some (hF c p 0),none,none,none] c) _=_
  rw [hf]
  simp only [R.bind_ok,x_ret,qeC]
  rw [hseq]
  simp only [R.bind_ok]
  rw [if_pos hit]
  show R.bind (R.bind (qb4 st (qa5 0) dYes (dBin catD (dVar 0) (dLst (qa0 (dC (.int 1)) dNil))) (LD (qb3 p n)) [none] [] (hC c p n)) _) _=_
  rw [hcp]
  rfl
 rw [qbA,x_fn]
 show R.bind (qbF [some (.int many),some (.int P),none,none,none,none] c) _=_
 rw [key]
 simp [LD_ref,hC]
end Ev
namespace Ev
open PySem L2 Fq
theorem eqv_ints:∀ a b:List Int,PyData.eqvAll (a.map PyData.int) (b.map PyData.int)=decide (a=b)
 | [],[]=>by simp [PyData.eqvAll]
 | [],b :: bs=>by simp [PyData.eqvAll]
 | a :: as,[]=>by simp [PyData.eqvAll]
 | a :: as,b :: bs=>by
  rw [List.map_cons,List.map_cons,PyData.eqvAll,eqv_ints as bs,PyData.eqv]
  by_cases h:a=b
  ·subst h; simp
  ·simp [h]
theorem depth_ints (a:List Int):PyData.depthAll (a.map PyData.int)=0:=by
 induction a with
 | nil=>simp [PyData.depthAll]
 | cons x a ih=>simp [PyData.depthAll,PyData.depth,ih]
theorem dats_LD (L:List (List Int)):qdU (LD L)=some (L.map fun r=>PyData.list (r.map PyData.int)):=by
 induction L with
 | nil=>simp [LD]
 | cons r L ih =>
  have ih:qdU (L.map fun r=>D.lst (r.map D.int))=some (L.map fun r=>PyData.list (r.map PyData.int)):=ih
  simp [LD,qdU,datD,dats_ints,ih]
theorem in_LD (r:List Int) (L:List (List Int)) (c:LC):inD (.lst (r.map D.int)) (.ref c.length) (c ++ [.lst (LD L)])=.ok (.bl (decide (r∈L))) (c ++ [.lst (LD L)]):=by
 unfold inD
 have h1:datC (c ++ [.lst (LD L)]) (.lst (r.map D.int))=some (.list (r.map PyData.int)):=by simp [datC,datD,dats_ints]
 have h2:datC (c ++ [.lst (LD L)]) (.ref c.length)=some (.list (L.map fun r=>PyData.list (r.map PyData.int))):=by simp [datC,dats_LD]
 rw [h1,h2]
 simp only
 rw [if_pos (by simp [PyData.depth,depth_ints])]
 congr 2
 clear h1 h2
 induction L with
 | nil=>simp
 | cons a L ih =>
  rw [List.map_cons,List.any_cons,ih,PyData.eqv,eqv_ints]
  by_cases h:a=r
  ·subst h; simp
  ·have:¬ r=a:=fun z=>h z.symm
   simp [h,this]
def qdy (p n l:Nat) (one:List Int):List (List Int):=(qbB p (n - l)).map fun other=>qdQ one other p
def qeE (p n l:Nat):List (List Int):=(qbB p l).flatMap (qdy p n l)
def qfM (p n:Nat):List (List Int):=(List.range (n / 2)).flatMap fun l=>qeE p n (l + 1)
def fmI:dF:=(qc9 (qdu (dVar 3) (qaO (dSeq (qa7 2 qbA (qa0 (dBin subD (dVar 2) (dVar 4)) (qa0 (dVar 1) dNil)))) [none,some 5,some 1] (qa5 0) dYes (qa7 3 qap (qa0 (dVar 1) (qa0 (dVar 0) (qa0 (dVar 2) dNil)))))))
def fmO:dF:=(sFor (dSeq (qa7 2 qbA (qa0 (dVar 4) (qa0 (dVar 1) dNil)))) (qa5 5) (qc9 (qdu (dVar 3) (qaO (dSeq (qa7 2 qbA (qa0 (dBin subD (dVar 2) (dVar 4)) (qa0 (dVar 1) dNil)))) [none,some 5,some 1] (qa5 0) dYes (qa7 3 qap (qa0 (dVar 1) (qa0 (dVar 0) (qa0 (dVar 2) dNil))))))))
theorem head_bd {p n:Nat} (hp:p < 1000) {r:List Int} (h:r∈qbB p n):r.length=n + 1∧r≠[]∧∀ x∈r,0≤x∧x < 1000:=by
 obtain ⟨t,ht,rfl⟩:=List.mem_map.mp h
 refine ⟨by rw [List.length_append,qeU p n t ht]; rfl,by simp,fun x hx=>?_⟩
 have gen:∀ i,∀ r∈qb3 p i,∀ x∈r,0≤x∧x < 1000:=by
  intro i
  induction i with
  | zero=>intro r hr x hx; rw [qb3,List.mem_singleton] at hr; subst hr; cases hx
  | succ i ih =>
   intro r hr x hx
   rw [qb3,List.mem_flatMap] at hr
   obtain ⟨r',h1,h2⟩:=hr
   obtain ⟨d,hd,rfl⟩:=List.mem_map.mp h2
   rcases List.mem_append.mp hx with hx | hx
   ·exact ih r' h1 x hx
   ·rw [List.mem_singleton] at hx
    subst hx
    have:=List.mem_range.mp hd
    omega
 rcases List.mem_append.mp hx with hx | hx
 ·exact gen n t ht x hx
 ·rw [List.mem_singleton] at hx; subst hx; omega
theorem comp_prods {p k:Nat} {one:List Int} {P:Int} (hP:P=p) (hp:0 < p) (hp':p < 1000) (hk:k < 100) (h1:one≠[]) (h2:∀ x∈one,0≤x∧x < 1000) (h3:one.length < 500) (c:LC) :
  qb4 (fun _=>True) (qa5 0) dYes (qa7 3 qap (qa0 (dVar 1) (qa0 (dVar 0) (qa0 (dVar 2) dNil)))) (LD (qbB p k)) [none,some (.lst (one.map D.int)),some (.int P)] [] c=.ok (LD ((qbB p k).map fun other=>qdQ one other p)) c:=by
 have:=qcX (c:=c) (g:=qa5 0) (t:=dYes) (a:=qa7 3 qap (qa0 (dVar 1) (qa0 (dVar 0) (qa0 (dVar 2) dNil)))) (fun e=>∃ v,e=[v,some (.lst (one.map D.int)),some (.int P)]) (fun _=>true)
  (fun d=>match d with | .lst l=>.lst ((qdQ one ((qez l).getD []) p).map D.int) | d=>d) (LD (qbB p k)) [none,some (.lst (one.map D.int)),some (.int P)] [] ⟨none,rfl⟩ (fun x hx e ⟨v,he⟩=>by
   subst he
   obtain ⟨r,hr,rfl⟩:=List.mem_map.mp hx
   have hb:=head_bd hp' hr
   refine ⟨_,rfl,⟨_,rfl⟩,rfl,fun _=>?_⟩
   have hsp:=sp_ok (a:=one) (b:=r) (p:=P) (by omega) h1 h2 (by omega) c
   subst hP
   simp [hsp,qek])
 rw [this,List.nil_append,filt]
 congr 1
 unfold LD
 rw [List.map_map,List.map_map]
 apply List.map_congr_left
 intro r _
 simp [qek]
structure FmB (p n:Nat):Prop where
 p0:0 < p
 p1:p < 1000
 n1:1 < n
 n2:n < 100
 pw:∀ i,i≤n→p ^ i < 1000
theorem qeY {α β:Type} (f:α→List β) (k:Nat):∀ L:List α,(∀ x∈L,(f x).length=k)→(L.flatMap f).length=L.length * k
 | [],_=>by simp
 | a :: L,h=>by
  rw [List.flatMap_cons,List.length_append,qeY f k L fun x hx=>h x (List.mem_cons_of_mem _ hx),h a List.mem_cons_self,List.length_cons,Nat.succ_mul,Nat.add_comm]
theorem qcQ (p n:Nat):(qbB p n).length=p ^ n:=by rw [qbB,List.length_map,qel]
theorem fmI_ok {p n l:Nat} (B:FmB p n) {P N l':Int} (hP:P=p) (hN:N=n) (hl:l'=l) (l1:1≤l) (l2:l≤n) {c:LC} {acc:List (List Int)} {one:List Int} (h1:one≠[]) (h2:∀ x∈one,0≤x∧x < 1000) (h3:one.length < 500) (ha:acc.length + p ^ (n - l)≤1000) (q v6:Option D) :
  fmI [q,some (.int P),some (.int N),some (.ref c.length),some (.int l'),some (.lst (one.map D.int)),v6] (c ++ [.lst (LD acc)]) =
   .ok (.nx [q,some (.int P),some (.int N),some (.ref c.length),some (.int l'),some (.lst (one.map D.int)),v6]) (c ++ [.lst (LD (acc ++ qdy p n l one))]):=by
 obtain ⟨p0,p1,n1,n2,pw⟩:=B
 have hs:=qav (n:=1000) (by decide)
 have hpl:=pw (n - l) (by omega)
 have hh:=heads_ok (many:=N - l') (P:=P) (p:=p) (n:=n - l) hP (by omega) (by omega) (by omega) p0 p1 hpl (by omega) (c ++ [.lst (LD acc)])
 have hc:=comp_prods (p:=p) (k:=n - l) (one:=one) hP p0 p1 (by omega) h1 h2 h3 (c ++ [.lst (LD acc)])
 have hit:(LD (qbB p (n - l))).length < sizeLine:=by rw [qdX,qcQ]; omega
 have hl2:(LD acc).length + (LD (qdy p n l one)).length≤sizeLine∧qam (LD (qdy p n l one))=true:=⟨by
  rw [qdX,qdX,qdy,List.length_map,qcQ]; omega,LD_ref _⟩
 have hsub:∀ c:LC,subD (.int N) (.int l') c=.ok (.int (N - l')) c:=fun _=>rfl
 simp only [fmI,qe7,qdu,qcC,gz,gs,R.bind_ok,qeC,x_seqS,qeD,qba,qfA,hsub,qcd,List.length_cons,List.length_nil,if_pos,hh]
 rw [if_pos hit]
 show R.bind (R.bind (R.bind (qb4 (fun _=>True) (qa5 0) dYes (qa7 3 qap (qa0 (dVar 1) (qa0 (dVar 0) (qa0 (dVar 2) dNil)))) (LD (qbB p (n - l))) [none,some (.lst (one.map D.int)),some (.int P)] [] (c ++ [.lst (LD acc)])) _) _) _=_
 rw [hc]
 simp only [R.bind_ok,List.getElem?_concat_length]
 rw [if_pos (show (LD acc).length + (LD ((qbB p (n - l)).map fun other=>qdQ one other p)).length≤sizeLine∧qam (LD ((qbB p (n - l)).map fun other=>qdQ one other p))=true from hl2)]
 rw [LD_append]
 simp [qdy]
theorem fmO_ok {p n l:Nat} (B:FmB p n) {P N l':Int} (hP:P=p) (hN:N=n) (hl:l'=l) (l1:1≤l) (l2:l≤n) {c:LC} {acc:List (List Int)} (ha:acc.length + p ^ n≤1000) (q v5 v6:Option D) :
  ∃ w5,fmO [q,some (.int P),some (.int N),some (.ref c.length),some (.int l'),v5,v6] (c ++ [.lst (LD acc)])=.ok (.nx [q,some (.int P),some (.int N),some (.ref c.length),some (.int l'),w5,v6]) (c ++ [.lst (LD (acc ++ qeE p n l))]):=by
 obtain ⟨p0,p1,n1,n2,pw⟩:=id B
 have hh:=heads_ok (many:=l') (P:=P) (p:=p) (n:=l) hP hl (by omega) (by omega) p0 p1 (pw l l2) (by omega) (c ++ [.lst (LD acc)])
 obtain ⟨v',hf⟩:=qe5 (st:=fun _=>True) (g:=qa5 5) (s:=fmI) (fun j=>c ++ [.lst (LD (acc ++ ((qbB p l).take j).flatMap (qdy p n l)))]) (fun _ v=>[q,some (.int P),some (.int N),some (.ref c.length),some (.int l'),v,v6]) (LD (qbB p l)) 0 v5
  (fun _ _=>trivial) (fun j x hx v=>by
   rw [Nat.zero_add]
   have hj:j < (qbB p l).length:=by
    have:=(List.getElem?_eq_some_iff.mp hx).1
    rwa [qdX] at this
   have hx':x=.lst ((qbB p l)[j].map D.int):=by
    have:=(List.getElem?_eq_some_iff.mp hx).2
    rw [← this]
    simp [LD]
   subst hx'
   have hb:=head_bd p1 (List.getElem_mem hj)
   refine ⟨_,rfl,some (.lst ((qbB p l)[j].map D.int)),?_⟩
   have hfl:=qeY (qdy p n l) (p ^ (n - l)) ((qbB p l).take j) (fun y _=>by rw [qdy,List.length_map,qcQ])
   rw [List.length_take,Nat.min_eq_left (by omega)] at hfl
   have hacc:(acc ++ ((qbB p l).take j).flatMap (qdy p n l)).length + p ^ (n - l)≤1000:=by
    rw [List.length_append,hfl]
    rw [qcQ] at hj
    have h2:(j + 1) * p ^ (n - l)≤p ^ l * p ^ (n - l):=Nat.mul_le_mul_right _ hj
    rw [← Nat.pow_add,show l + (n - l)=n by omega,Nat.succ_mul] at h2
    omega
   have:=fmI_ok (l:=l) B hP hN hl l1 l2 (c:=c) hb.2.1 hb.2.2 (by omega) hacc q v6
   rw [take_flat _ hj,← List.append_assoc]
   exact this)
 rw [qdX,Nat.zero_add,List.take_length] at hf
 refine ⟨v',?_⟩
 simp only [fmO,qfz,x_seqS,qeD,qba,qcC,gz,gs,R.bind_ok,qcd,List.length_cons,List.length_nil,if_pos,hh]
 unfold fmI at hf
 have e0:acc ++ ([]:List (List Int)).flatMap (qdy p n l)=acc:=by simp
 rw [List.take_zero,e0] at hf
 exact hf
theorem prods_len (p n:Nat) (h:∀ l,1≤l→l≤n→(qeE p n l).length=p ^ n):∀ i,i≤n→((List.range i).flatMap fun l=>qeE p n (l + 1)).length=i * p ^ n:=fun i hi=>by
 rw [qeY _ (p ^ n) (List.range i) fun x hx=>h (x + 1) (by omega) (by have:=List.mem_range.mp hx; omega),List.length_range]
theorem prodsO_len (p n l:Nat) (h:l≤n):(qeE p n l).length=p ^ n:=by
 rw [qeE,qeY _ (p ^ (n - l)) _ fun x _=>by rw [qdy,List.length_map,qcQ],qcQ,← Nat.pow_add,show l + (n - l)=n by omega]
theorem fm_loop {p n:Nat} (B:FmB p n) (hb:(n / 2) * p ^ n≤1000) {P N:Int} (hP:P=p) (hN:N=n) (c:LC) (q v6:Option D) :
  ∃ w4 w5,forD (fun _=>True) (qa5 4) fmO (rngD 1 (N / 2 + 1)) [q,some (.int P),some (.int N),some (.ref c.length),none,none,v6] (c ++ [.lst []])=.ok (.nx [q,some (.int P),some (.int N),some (.ref c.length),w4,w5,v6]) (c ++ [.lst (LD (qfM p n))]):=by
 have n1:=B.n1
 have hl:(rngD 1 (N / 2 + 1)).length=n / 2:=by rw [qcT]; omega
 obtain ⟨v',hf⟩:=qe5 (α:=Option D×Option D) (st:=fun _=>True) (g:=qa5 4) (s:=fmO) (fun i=>c ++ [.lst (LD ((List.range i).flatMap fun l=>qeE p n (l + 1)))]) (fun _ v=>[q,some (.int P),some (.int N),some (.ref c.length),v.1,v.2,v6]) (rngD 1 (N / 2 + 1)) 0 (none,none)
  (fun _ _=>trivial) (fun i x hx v=>by
   rw [Nat.zero_add]
   obtain ⟨h1,rfl⟩:=rng_get hx
   have hi:i < n / 2:=by omega
   have hacc:((List.range i).flatMap fun l=>qeE p n (l + 1)).length + p ^ n≤1000:=by
    rw [prods_len p n (fun l _ h=>prodsO_len p n l h) i (by omega)]
    have h2:(i + 1) * p ^ n≤(n / 2) * p ^ n:=Nat.mul_le_mul_right _ hi
    rw [Nat.succ_mul] at h2
    omega
   obtain ⟨w,h⟩:=fmO_ok (l:=i + 1) (l':=1 + (i:Int)) B hP hN (by omega) (by omega) (by omega) (c:=c) hacc q v.2 v6
   refine ⟨_,rfl,(some (.int (1 + (i:Int))),w),?_⟩
   rw [List.range_succ,List.flatMap_append]
   simpa using h)
 rw [hl,Nat.zero_add] at hf
 exact ⟨v'.1,v'.2,hf⟩
def fmT:dB:=(dBl (dBin inD (dBin catD (qa7 3 qaw (qa0 (dVar 6) (qa0 (dVar 1) (qa0 (dVar 2) dNil)))) (dLst (qa0 (dC (.int 1)) dNil))) (dVar 3)))
theorem fm_test {p n:Nat} {P N:Int} (hP:P=p) (hN:N=n) (hp:0 < p) (hp':p < 1000) (hn:n < 100) {t:Int} {c:LC} {L:List (List Int)} (q v4 v5:Option D) :
  fmT [q,some (.int P),some (.int N),some (.ref c.length),v4,v5,some (.int t)] (c ++ [.lst (LD L)])=.ok (decide (rowF P n t ++ [1]∈L)) (c ++ [.lst (LD L)]):=by
 have hs:=qav (n:=1000) (by decide)
 have hr:=qgu (p:=P) (N:=N) (x:=t) (n:=n) (by omega) (by omega) (by rw [qcT]; omega) (by omega) (by omega) (c ++ [.lst (LD L)])
 have hz:(rowF P n t).length + 1≤sizeLine:=by rw [qb6]; omega
 have hi:=in_LD (rowF P n t ++ [1]) L c
 rw [List.map_append] at hi
 simp [fmT,hr,catD,hz]
 simp at hi
 rw [hi]
 rfl
theorem fm_while {p n:Nat} {P N:Int} (hP:P=p) (hN:N=n) (hp:0 < p) (hp':p < 1000) (hn:n < 100) {c:LC} {L:List (List Int)} {low:Nat} (h1:∀ t,t < low→rowF P n t ++ [1]∈L) (h2:rowF P n low ++ [1]∉L) (q v4 v5:Option D):∀ (k fuel t:Nat),t + k=low→k < fuel →
  qcA fmT (sSet 6 (dBin addD (dVar 6) (dC (.int 1)))) fuel [q,some (.int P),some (.int N),some (.ref c.length),v4,v5,some (.int t)] (c ++ [.lst (LD L)])=.ok (.nx [q,some (.int P),some (.int N),some (.ref c.length),v4,v5,some (.int low)]) (c ++ [.lst (LD L)])
 | 0,fuel + 1,t,e,_=>by
  have e:t=low:=by omega
  subst e
  unfold qcA
  rw [fm_test hP hN hp hp' hn,decide_eq_false h2]
  rfl
 | k + 1,fuel + 1,t,e,hf=>by
  have ih:=fm_while (c:=c) hP hN hp hp' hn h1 h2 q v4 v5 k fuel (t + 1) (by omega) (by omega)
  unfold qcA
  rw [fm_test hP hN hp hp' hn,decide_eq_true (h1 t (by omega))]
  simp only [R.bind_ok,if_pos]
  have es:(sSet 6 (dBin addD (dVar 6) (dC (.int 1)))) [q,some (.int P),some (.int N),some (.ref c.length),v4,v5,some (.int t)] (c ++ [.lst (LD L)])=.ok (.nx [q,some (.int P),some (.int N),some (.ref c.length),v4,v5,some (.int ((t + 1:Nat):Int))]) (c ++ [.lst (LD L)]):=by simp
  rw [es]
  exact ih
def qd4 (f:Fd):List Int:=if f.n=1 then [0,1] else rowF f.p f.n f.low ++ [1]
def chkF (f:Fd):Bool:=Nat.beq f.n 1 || ((List.range f.low).all fun t=>(qfM f.p f.n).any fun r=>decide (r=rowF f.p f.n t ++ [1])) && ((qfM f.p f.n).all fun r=>decide (¬ r=rowF f.p f.n f.low ++ [1])) && Nat.ble ((f.n / 2) * f.p ^ f.n) 1000 && Nat.ble (f.low + 1) 60
theorem all_F:fds.all chkF=true:=by decide +kernel
end Ev
namespace Ev
open PySem L2 Fq
def bF (G W:dF):dF:=(sSeq (sSet 1 (qa7 1 qas (qa0 (dVar 0) dNil))) (sSeq (sSet 2 (qa7 1 qaJ (qa0 (dVar 0) dNil))) (sSeq (sIf (dBl (dBin eqD (dVar 2) (dC (.int 1)))) (sRet (dLst (qa0 (dC (.int 0)) (qa0 (dC (.int 1)) dNil)))) qb5) (sSeq (sSet 3 (qdV dNil)) (sSeq (sFor (qfs (qa0 (dC (.int 1)) (qa0 (dBin addD (dBin divD (dVar 2) (dC (.int 2))) (dC (.int 1))) dNil))) (qa5 4) G) (sSeq (sSet 6 (dC (.int 0))) (sSeq W (sRet (dBin catD (qa7 3 qaw (qa0 (dVar 6) (qa0 (dVar 1) (qa0 (dVar 2) dNil)))) (dLst (qa0 (dC (.int 1)) dNil)))))))))))
theorem bF_is:qcS=bF fmO (qcA fmT (sSet 6 (dBin addD (dVar 6) (dC (.int 1)))) 60):=rfl
theorem form_gen {G W:dF} {q P N low:Int} {w4 w5:Option D} {c:LC} {C:LC} {row:List D} {form:List Int} (hq:-4611686018427387904≤N / 2 + 1∧N / 2 + 1 < 4611686018427387904) (hn1:¬ N=1) (hp:qas [.int q] c=.ok (.int P) c) (hd:qaJ [.int q] c=.ok (.int N) c) (hrl:row.length + 1 < 1000)
  (hl:forD (fun _=>True) (qa5 4) G (rngD 1 (N / 2 + 1)) [some (.int q),some (.int P),some (.int N),some (.ref c.length),none,none,none] (c ++ [.lst []])=.ok (.nx [some (.int q),some (.int P),some (.int N),some (.ref c.length),w4,w5,none]) (c ++ C))
  (hw:W [some (.int q),some (.int P),some (.int N),some (.ref c.length),w4,w5,some (.int 0)] (c ++ C)=.ok (.nx [some (.int q),some (.int P),some (.int N),some (.ref c.length),w4,w5,some (.int low)]) (c ++ C))
  (hr:qaw [.int low,.int P,.int N] (c ++ C)=.ok (.lst row) (c ++ C)) (he:form.map D.int=row ++ [.int 1]):fnD 7 false (bF G W) [.int q] c=.ok (.lst (form.map D.int)) c:=by
 have hs:=qav (n:=1000) (by decide)
 have hdv:divD (.int N) (.int 2) (c ++ [.lst []])=.ok (.int (N / 2)) (c ++ [.lst []]):=div_c _ (by decide) (by decide)
 have hz:row.length + 1≤sizeLine:=by omega
 have href:qam (row ++ [.int 1])=true:=by rw [← he]; exact qco
 have key:bF G W [some (.int q),none,none,none,none,none,none] c=.ok (.rt (.lst (row ++ [.int 1]))) (c ++ C):=by
  simp [bF,hp,hd,hn1,hdv]
  rw [if_pos (by omega)]
  simp only [R.bind_ok]
  rw [hl]
  simp [hw,hr,catD,hz]
 rw [x_fn]
 show R.bind (bF G W [some (.int q),none,none,none,none,none,none] c) _=_
 rw [key,he]
 simp [href]
theorem form_one {G W:dF} {q P:Int} {c:LC} (hp:qas [.int q] c=.ok (.int P) c) (hd:qaJ [.int q] c=.ok (.int 1) c):fnD 7 false (bF G W) [.int q] c=.ok (.lst [.int 0,.int 1]) c:=by
 simp [bF,hp,hd]
theorem form_ok {f:Fd} (h:f∈fds) (c:LC):qcP [.int f.q] c=.ok (.lst ((qd4 f).map D.int)) c:=by
 have I:=qcW h
 have p2:=I.p2
 have p47:=I.p47
 have n1:=I.n1
 have n5:=I.n5
 have hF:=List.all_eq_true.mp all_F f h
 have hp:=qgj h c
 have hd:=degree_ok h c
 rw [qcP,bF_is]
 by_cases hn:f.n=1
 ·have e:qd4 f=[0,1]:=if_pos hn
  rw [e]
  exact form_one hp (by rw [hd,hn]; rfl)
 ·have e:qd4 f=rowF f.p f.n f.low ++ [1]:=if_neg hn
  have hn0:Nat.beq f.n 1=false:=by
   cases hq:Nat.beq f.n 1 with
   | false=>rfl
   | true=>exact absurd (be hq) hn
  simp only [chkF,hn0,Bool.false_or,Bool.and_eq_true] at hF
  obtain ⟨⟨⟨f1,f2⟩,f3⟩,f4⟩:=hF
  have g1:∀ t,t < f.low→rowF (f.p:Int) f.n t ++ [1]∈qfM f.p f.n:=fun t ht=>by
   have:=List.all_eq_true.mp f1 t (List.mem_range.mpr ht)
   obtain ⟨r,hr,he⟩:=List.any_eq_true.mp this
   rw [← of_decide_eq_true he]
   exact hr
  have g2:rowF (f.p:Int) f.n f.low ++ [1]∉qfM f.p f.n:=fun hm=>by
   have:=List.all_eq_true.mp f2 _ hm
   simp at this
  have hq:f.q < 1000:=by
   have:(fds.all fun f=>decide (f.q < 1000))=true:=by decide +kernel
   simpa using List.all_eq_true.mp this f h
  have B:FmB f.p f.n:=⟨by omega,by omega,by omega,by omega,fun i hi=>by
   have:=Nat.pow_le_pow_right (n:=f.p) (by omega) hi
   rw [I.pn] at this
   omega⟩
  obtain ⟨w4,w5,hl⟩:=fm_loop (P:=f.p) (N:=f.n) B (bl f3) rfl rfl c (some (.int f.q)) none
  have hw:=fm_while (P:=f.p) (N:=f.n) (p:=f.p) (n:=f.n) rfl rfl (by omega) (by omega) (by omega) (c:=c) g1 g2 (some (.int f.q)) w4 w5 f.low 60 0 (by omega) (bl f4)
  have hr:=qgu (p:=f.p) (N:=f.n) (x:=f.low) (n:=f.n) (by omega) (by omega) (by rw [qcT]; omega) (by omega) (by omega) (c ++ [.lst (LD (qfM f.p f.n))])
  exact form_gen (by omega) (by omega) hp hd (by rw [List.length_map,qb6]; omega) hl hw hr (by rw [e,List.map_append]; rfl)
end Ev
namespace Ev
open PySem L2 Fq
def redI (p often:Int) (form:List Int) (base:Nat) (F:List Int):Nat→List Int
 | 0=>F
 | k + 1=>(redI p often form base F k).set (base + k) ((gI (redI p often form base F k) (base + k) - often * gI form k) % p)
def redO (p:Int) (form:List Int) (n:Nat) (F:List Int):Nat→List Int
 | 0=>F
 | i + 1=>redI p (gI (redO p form n F i) (2 * n - 2 - i)) form (2 * n - 2 - i - n) (redO p form n F i) (n + 1)
def prodL (p:Int) (n:Nat) (form:List Int) (x y:Int):Int:=numL p ((redO p form n (qdQ (rowF p n x) (rowF p n y) p) (n - 1)).take n)
theorem qeW {p often:Int} {form:List Int} {base:Nat} {F:List Int}:∀ k,(redI p often form base F k).length=F.length
 | 0=>rfl
 | k + 1=>by rw [redI,List.length_set,qeW k]
theorem qeV {p:Int} {form:List Int} {n:Nat} {F:List Int}:∀ i,(redO p form n F i).length=F.length
 | 0=>rfl
 | i + 1=>by rw [redO,qeW,qeV i]
theorem sumsP_len (a b:List Int) (p:Int):(qdQ a b p).length=a.length + b.length - 1:=by rw [qdQ,qeX,List.length_replicate]
def pdI:dF:=(sSeq (sSet 10 (dBin addD (dBin subD (dVar 7) (dVar 5)) (dVar 9))) (sAsg (dBin modD (dBin subD (dBin ixD (dVar 6) (dVar 10)) (dBin mulD (dVar 8) (dBin ixD (dVar 1) (dVar 9)))) (dVar 4)) (qgD (dVar 6) (dVar 10))))
theorem pdI_ok {form F:List Int} {p often N place:Int} {c:LC} {base k n:Nat} (hp:0 < p) (hN:N=n) (hpl:place=(base:Int) + n) (hk:k < form.length) (hF:base + k < F.length) (hs:∀ x∈form,0≤x∧x < 1000) (q a2 a3 v10:Option D) :
  pdI [q,some (.lst (form.map D.int)),a2,a3,some (.int p),some (.int N),some (.ref c.length),some (.int place),some (.int often),some (.int k),v10] (c ++ [.lst (F.map D.int)]) =
   .ok (.nx [q,some (.lst (form.map D.int)),a2,a3,some (.int p),some (.int N),some (.ref c.length),some (.int place),some (.int often),some (.int k),some (.int (place - N + k))]) (c ++ [.lst ((F.set (base + k) ((gI F (base + k) - often * gI form k) % p)).map D.int)]):=by
 have h1:=ix_end (c:=c) (l:=F.map D.int) (i:=place - N + k) (j:=base + k) (d:=.int (gI F (base + k))) (by omega) (qfY hF)
 have h2:atI (form.map D.int) k=some (.int (gI form k)):=qdw (qfY hk)
 have hb:0≤gI form k∧gI form k < 1000:=hs _ (by simp [gI,List.getD,hk])
 have h4:∀ c,mulD (.int often) (.int (gI form k)) c=.ok (.int (often * gI form k)) c:=fun c=>mul_r c (by omega) (by omega)
 have h5:=fun x=>set_end (c:=c) (l:=F.map D.int) (i:=place - N + k) (j:=base + k) (d:=.int x) (by omega) (by simpa using hF) rfl
 have h6:∀ x c,modD (.int x) (.int p) c=.ok (.int (x % p)) c:=fun x c=>qfG c hp
 simp only [pdI,qfy,x_set,x_asg,qfA,qcC,gz,gs,R.bind_ok,x_add,x_sub,List.set_cons_succ,List.set_cons_zero,x_ixL,h1,h2,h4,h6,x_gsub,h5,map_set]
def pdO:dF:=(sSeq (sSet 8 (dBin ixD (dVar 6) (dVar 7))) (sFor (qaD (qa0 (dBin addD (dVar 5) (dC (.int 1))) dNil)) (qa5 9) (sSeq (sSet 10 (dBin addD (dBin subD (dVar 7) (dVar 5)) (dVar 9))) (sAsg (dBin modD (dBin subD (dBin ixD (dVar 6) (dVar 10)) (dBin mulD (dVar 8) (dBin ixD (dVar 1) (dVar 9)))) (dVar 4)) (qgD (dVar 6) (dVar 10))))))
theorem pdO_ok {form F:List Int} {p N place:Int} {c:LC} {base n:Nat} (hp:0 < p) (hN:N=n) (b1:-4611686018427387904≤N + 1∧N + 1 < 4611686018427387904) (hpl:place=(base:Int) + n) (hk:form.length=n + 1) (hF:base + n < F.length) (hs:∀ x∈form,0≤x∧x < 1000) (q a2 a3 v8 v9 v10:Option D) :
  ∃ w8 w9 w10,pdO [q,some (.lst (form.map D.int)),a2,a3,some (.int p),some (.int N),some (.ref c.length),some (.int place),v8,v9,v10] (c ++ [.lst (F.map D.int)]) =
   .ok (.nx [q,some (.lst (form.map D.int)),a2,a3,some (.int p),some (.int N),some (.ref c.length),some (.int place),w8,w9,w10]) (c ++ [.lst ((redI p (gI F (base + n)) form base F (n + 1)).map D.int)]):=by
 have h1:=ix_end (c:=c) (l:=F.map D.int) (i:=place) (j:=base + n) (d:=.int (gI F (base + n))) (by omega) (qfY hF)
 obtain ⟨v',hf⟩:=qe4 (α:=Option D×Option D) (g:=qa5 9) (s:=pdI) (N:=N + 1) (n:=n + 1) (fun k=>c ++ [.lst ((redI p (gI F (base + n)) form base F k).map D.int)]) (fun _ v=>[q,some (.lst (form.map D.int)),a2,a3,some (.int p),some (.int N),some (.ref c.length),some (.int place),some (.int (gI F (base + n))),v.1,v.2]) (by omega) (v9,v10) (fun k hk' v=>by
  exact ⟨_,rfl,(some (.int k),_),pdI_ok hp hN hpl (by omega) (by rw [qeW]; omega) hs q a2 a3 v.2⟩)
 refine ⟨some (.int (gI F (base + n))),v'.1,v'.2,?_⟩
 simp only [pdO,qfy,x_set,qfA,qcC,gz,gs,R.bind_ok,h1,List.set_cons_succ,List.set_cons_zero,qfz,qfK,qba,x_c,x_add,qcd]
 rw [if_pos (by omega)]
 unfold pdI at hf
 exact hf
theorem len_ref (l:List Int) (c:LC):lenD [.ref c.length] (c ++ [.lst (l.map D.int)])=.ok (.int l.length) (c ++ [.lst (l.map D.int)]):=by
 unfold lenD
 simp [seqD]
def bPd (L:List D→LC→R D) (S:Ev→LC→R Src) (Rt:dF) (G:dF):dF:=(sSeq (sSet 4 (qa7 1 qas (qa0 (dVar 0) dNil))) (sSeq (sSet 5 (dBin subD (dCB L (qa0 (dVar 1) dNil)) (dC (.int 1)))) (sSeq (sSet 6 (qa7 3 qaB (qa0 (qa7 3 qaw (qa0 (dVar 2) (qa0 (dVar 4) (qa0 (dVar 5) dNil)))) (qa0 (qa7 3 qaw (qa0 (dVar 3) (qa0 (dVar 4) (qa0 (dVar 5) dNil)))) (qa0 (dVar 4) dNil))))) (sSeq (sFor S (qa5 7) G) Rt))))
theorem bPd_is:qbM=bPd lenD (dRng3 (qa0 (dBin subD (dCB lenD (qa0 (dVar 6) dNil)) (dC (.int 1))) (qa0 (dBin subD (dVar 5) (dC (.int 1))) (qa0 (dBin subD (dC (.int 0)) (dC (.int 1))) dNil)))) (sRet (qa7 2 qbz (qa0 (dSl (dVar 6) dNoP (dPart (dVar 5))) (qa0 (dVar 4) dNil)))) pdO:=rfl
theorem rng3_gen {L:List D→LC→R D} {M N:Int} {e:Ev} {c:LC} {d:D} (h6:e[6]? = some (some d)) (h5:e[5]? = some (some (.int N))) (hM:L [d] c=.ok (.int M) c) (b1:-4611686018427387904≤M - 1∧M - 1 < 4611686018427387904∧-4611686018427387904≤N - 1∧N - 1 < 4611686018427387904) :
  (dRng3 (qa0 (dBin subD (dCB L (qa0 (dVar 6) dNil)) (dC (.int 1))) (qa0 (dBin subD (dVar 5) (dC (.int 1))) (qa0 (dBin subD (dC (.int 0)) (dC (.int 1))) dNil)))) e c=.ok ⟨dnD (M - 1) (N - 1),fun _=>True⟩ c:=by
 simp only [dRng3,qba,qfA,x_cb,qcC,x_c,qcd,h6,h5,R.bind_ok,hM,x_sub]
 rw [if_pos ⟨by decide,by omega,by omega,by omega,by omega⟩]
theorem cut_take {l:List D} {n:Nat} {N:Int} (hN:N=n) (h:n≤l.length):cutD l none (some N)=l.take n:=by
 subst hN
 have:HT.sIx l.length l.length (some (n:Int))=n:=by rw [HT.sIx_nat]; omega
 show (l.drop 0).take (HT.sIx l.length l.length (some (n:Int)) - 0)=_
 rw [this]; simp
theorem sl_gen {e:Ev} {N:Int} {n:Nat} {F:List Int} {c:LC} (h6:e[6]? = some (some (.ref c.length))) (h5:e[5]? = some (some (.int N))) (hcut:cutD (F.map D.int) none (some N)=(F.take n).map D.int):dSl (dVar 6) dNoP (dPart (dVar 5)) e (c ++ [.lst (F.map D.int)])=.ok (.lst ((F.take n).map D.int)) (c ++ [.lst (F.map D.int)]):=by
 have hlst:lstD (c ++ [.lst (F.map D.int)]) (.ref c.length)=some (F.map D.int):=by simp [lstD]
 rw [x_sl,qcC,h6,R.bind_ok,x_nop,R.bind_ok,x_part,qcC,h5,R.bind_ok,R.bind_ok,hlst]
 show R.ok (D.lst (cutD (F.map D.int) none (some N))) _=_
 rw [hcut]
theorem rt_gen {m:List D→LC→R D} {Sl:yD} {e:Ev} {c:LC} {p w:Int} {l:List D} (hS:Sl e c=.ok (.lst l) c) (h4:e[4]? = some (some (.int p))) (hn:m [.lst l,.int p] c=.ok (.int w) c):sRet (qa7 2 m (qa0 Sl (qa0 (dVar 4) dNil))) e c=.ok (.rt (.int w)) c:=by
 rw [x_ret,qeD,qba,hS,R.bind_ok,qba,qcC,h4,R.bind_ok,qcd,R.bind_ok,R.bind_ok,R.bind_ok,if_pos (show [D.lst l,D.int p].length=2 from rfl),hn,R.bind_ok]
theorem pd_gen {L:List D→LC→R D} {S:Ev→LC→R Src} {Rt:dF} {its:List D} {G:dF} {q x y p N w:Int} {form:List Int} {rx ry:List D} {F F':List Int} {c:LC} {w7 w8 w9 w10:Option D} (hp:qas [.int q] c=.ok (.int p) c) (hL:L [.lst (form.map D.int)] c=.ok (.int (N + 1)) c)
  (h1:qaw [.int x,.int p,.int N] c=.ok (.lst rx) c) (h2:qaw [.int y,.int p,.int N] c=.ok (.lst ry) c) (h3:qaB [.lst rx,.lst ry,.int p] c=.ok (.ref c.length) (c ++ [.lst (F.map D.int)]))
  (hS:S [some (.int q),some (.lst (form.map D.int)),some (.int x),some (.int y),some (.int p),some (.int N),some (.ref c.length),none,none,none,none] (c ++ [.lst (F.map D.int)])=.ok ⟨its,fun _=>True⟩ (c ++ [.lst (F.map D.int)]))
  (hf:forD (fun _=>True) (qa5 7) G its [some (.int q),some (.lst (form.map D.int)),some (.int x),some (.int y),some (.int p),some (.int N),some (.ref c.length),none,none,none,none] (c ++ [.lst (F.map D.int)])=.ok (.nx [some (.int q),some (.lst (form.map D.int)),some (.int x),some (.int y),some (.int p),some (.int N),some (.ref c.length),w7,w8,w9,w10]) (c ++ [.lst (F'.map D.int)]))
  (hRt:Rt [some (.int q),some (.lst (form.map D.int)),some (.int x),some (.int y),some (.int p),some (.int N),some (.ref c.length),w7,w8,w9,w10] (c ++ [.lst (F'.map D.int)])=.ok (.rt (.int w)) (c ++ [.lst (F'.map D.int)])):fnD 11 false (bPd L S Rt G) [.int q,.lst (form.map D.int),.int x,.int y] c=.ok (.int w) c:=by
 have key:bPd L S Rt G [some (.int q),some (.lst (form.map D.int)),some (.int x),some (.int y),none,none,none,none,none,none,none] c=.ok (.rt (.int w)) (c ++ [.lst (F'.map D.int)]):=by
  simp [bPd,hp,hL,h1,h2,h3,hS]
  rw [hf]
  simp only [R.bind_ok]
  rw [hRt]
 rw [x_fn]
 show R.bind (bPd L S Rt G [some (.int q),some (.lst (form.map D.int)),some (.int x),some (.int y),none,none,none,none,none,none,none] c) _=_
 rw [key]
 simp
theorem form_len {f:Fd} (h:f∈fds):(qd4 f).length=f.n + 1∧∀ x∈qd4 f,0≤x∧x < 1000:=by
 have I:=qcW h
 have p2:=I.p2
 have p47:=I.p47
 unfold qd4
 split
 ·rename_i e
  rw [e]
  exact ⟨rfl,fun x hx=>by simp at hx; omega⟩
 ·refine ⟨by rw [List.length_append,qb6]; rfl,fun x hx=>?_⟩
  rcases List.mem_append.mp hx with hx | hx
  ·have:=row_bd (p:=f.p) (by omega) f.n f.low x hx; omega
  ·rw [List.mem_singleton] at hx; omega
theorem prod_ok {f:Fd} (h:f∈fds) (x y:Int) (c:LC):qbK [.int f.q,.lst ((qd4 f).map D.int),.int x,.int y] c=.ok (.int (prodL f.p f.n (qd4 f) x y)) c:=by
 have I:=qcW h
 have p2:=I.p2
 have p47:=I.p47
 have n1:=I.n1
 have n5:=I.n5
 obtain ⟨fl,fb⟩:=form_len h
 have rl:∀ z,(rowF (f.p:Int) f.n z).length=f.n:=qb6 _ _
 have rb:=fun z=>row_bd (p:=f.p) (by omega) f.n z
 have h1:=fun z=>qgu (p:=f.p) (N:=f.n) (x:=z) (n:=f.n) (by omega) (by omega) (by rw [qcT]; omega) (by omega) (by omega) c
 have h3:=spo_ok (a:=rowF f.p f.n x) (b:=rowF f.p f.n y) (p:=f.p) (by omega) (fun z=>by have:=rl x; rw [z] at this; simp at this; omega) (fun d hd=>by have:=rb x d hd; omega) (by rw [rl,rl]; omega) c
 have hFl:(qdQ (rowF f.p f.n x) (rowF f.p f.n y) f.p).length=2 * f.n - 1:=by rw [sumsP_len,rl,rl]; omega
 generalize hF:qdQ (rowF (f.p:Int) f.n x) (rowF f.p f.n y) f.p=F at h3 hFl
 have hdl:(dnD (((2 * f.n - 1:Nat):Int) - 1) ((f.n:Int) - 1)).length=f.n - 1:=by simp [dnD]; omega
 obtain ⟨v',hf⟩:=qe5 (α:=Option D×Option D×Option D×Option D) (st:=fun _=>True) (g:=qa5 7) (s:=pdO) (fun i=>c ++ [.lst ((redO f.p (qd4 f) f.n F i).map D.int)]) (fun _ v=>[some (.int f.q),some (.lst ((qd4 f).map D.int)),some (.int x),some (.int y),some (.int f.p),some (.int f.n),some (.ref c.length),v.1,v.2.1,v.2.2.1,v.2.2.2])
  (dnD (((2 * f.n - 1:Nat):Int) - 1) ((f.n:Int) - 1)) 0 (none,none,none,none) (fun _ _=>trivial) (fun i z hz v=>by
   rw [Nat.zero_add]
   have hi:i < f.n - 1:=by
    have:=(List.getElem?_eq_some_iff.mp hz).1
    omega
   have hz':z=.int ((((2 * f.n - 1:Nat):Int) - 1) - i):=by
    unfold dnD at hz
    rw [List.getElem?_map] at hz
    cases hq:(List.range ((((2 * f.n - 1:Nat):Int) - 1) - ((f.n:Int) - 1)).toNat)[i]? with
    | none=>rw [hq] at hz; cases hz
    | some u =>
     rw [hq] at hz
     have:=(List.getElem?_eq_some_iff.mp hq).2
     rw [List.getElem_range] at this
     subst this
     cases hz
     rfl
   subst hz'
   obtain ⟨w8,w9,w10,hb⟩:=pdO_ok (form:=qd4 f) (F:=redO f.p (qd4 f) f.n F i) (p:=f.p) (N:=f.n) (place:=(((2 * f.n - 1:Nat):Int) - 1) - i) (c:=c) (base:=2 * f.n - 2 - i - f.n) (n:=f.n) (by omega) rfl (by omega) (by omega) fl (by rw [qeV]; omega) fb (some (.int f.q)) (some (.int x)) (some (.int y)) v.2.1 v.2.2.1 v.2.2.2
   refine ⟨_,rfl,(some (.int ((((2 * f.n - 1:Nat):Int) - 1) - i)),w8,w9,w10),?_⟩
   rw [show 2 * f.n - 2 - i - f.n + f.n=2 * f.n - 2 - i by omega] at hb
   exact hb)
 rw [hdl,Nat.zero_add] at hf
 have hcut:cutD ((redO f.p (qd4 f) f.n F (f.n - 1)).map D.int) none (some (f.n:Int))=((redO f.p (qd4 f) f.n F (f.n - 1)).take f.n).map D.int:=by
  rw [cut_take rfl (by rw [List.length_map,qeV]; omega),List.map_take]
 have hn:=lnum_ok (p:=f.p) (by omega) (by omega) ((redO f.p (qd4 f) f.n F (f.n - 1)).take f.n) (by rw [List.length_take]; omega) (c ++ [.lst ((redO f.p (qd4 f) f.n F (f.n - 1)).map D.int)])
 rw [qbK,bPd_is,prodL,hF]
 exact pd_gen (qgj h c) (by rw [qei,fl]; rfl) (h1 x) (h1 y) h3 (rng3_gen (M:=((2 * f.n - 1:Nat):Int)) rfl rfl (by rw [len_ref,hFl]) (by omega)) hf (rt_gen (sl_gen rfl rfl hcut) rfl hn)
def mdf:List Int→Nat→(Int→Int)→List Int
 | [],_,_=>[]
 | x :: l,0,f=>f x :: l
 | x :: l,i + 1,f=>x :: mdf l i f
theorem mdf_eq:∀ (l:List Int) (i:Nat) (f:Int→Int),i < l.length→l.set i (f (gI l i))=mdf l i f
 | [],i,f,h=>by cases h
 | x :: l,0,f,h=>rfl
 | x :: l,i + 1,f,h=>by
  have:=mdf_eq l i f (by simpa using h)
  simp only [List.set_cons_succ,mdf]
  rw [← this]; rfl
def innQ (p a:Int) (b:List Int) (k:Nat) (F:List Int):Nat→List Int
 | 0=>F
 | j + 1=>mdf (innQ p a b k F j) (k + j) fun v=>(v + a * gI b j) % p
theorem inn_Q {p a:Int} {b:List Int} {k:Nat} {F:List Int}:∀ j,k + j≤F.length→inn p a b k F j=innQ p a b k F j
 | 0,_=>rfl
 | j + 1,h=>by rw [inn,innQ,inn_Q j (by omega),mdf_eq _ _ (fun v=>(v + a * gI b j) % p) (by rw [← inn_Q j (by omega),qgy]; omega)]
def outQ (p:Int) (a b F:List Int):Nat→List Int
 | 0=>F
 | k + 1=>innQ p (gI a k) b k (outQ p a b F k) b.length
theorem out_Q {p:Int} {a b F:List Int}:∀ k,k + b.length≤F.length + 1→outr p a b F k=outQ p a b F k
 | 0,_=>rfl
 | k + 1,h=>by rw [outr,outQ,← out_Q k (by omega),inn_Q _ (by rw [qeX]; omega)]
def frc {α:Type} (i:Int) (g:Int→α):α:=match i with
 | .ofNat n=>(match n with | 0=>g (.ofNat 0) | m + 1=>g (.ofNat (m + 1)))
 | .negSucc n=>g (.negSucc n)
theorem frc_eq {α:Type} (i:Int) (g:Int→α):frc i g=g i:=by
 cases i with
 | ofNat n=>cases n <;> rfl
 | negSucc n=>rfl
def redQ (p often:Int) (form:List Int) (base:Nat) (F:List Int):Nat→List Int
 | 0=>F
 | k + 1=>mdf (redQ p often form base F k) (base + k) fun v=>(v - often * gI form k) % p
theorem red_Q {p often:Int} {form:List Int} {base:Nat} {F:List Int}:∀ k,base + k≤F.length→redI p often form base F k=redQ p often form base F k
 | 0,_=>rfl
 | k + 1,h=>by rw [redI,redQ,red_Q k (by omega),mdf_eq _ _ (fun v=>(v - often * gI form k) % p) (by rw [← red_Q k (by omega),qeW]; omega)]
def rouQ (p:Int) (form:List Int) (n:Nat) (F:List Int):Nat→List Int
 | 0=>F
 | i + 1=>frc (gI (rouQ p form n F i) (2 * n - 2 - i)) fun z=>redQ p z form (2 * n - 2 - i - n) (rouQ p form n F i) (n + 1)
theorem rou_Q {p:Int} {form:List Int} {n:Nat} {F:List Int} (hn:1≤n) (hF:F.length=2 * n - 1):∀ i,i≤n - 1→redO p form n F i=rouQ p form n F i
 | 0,_=>rfl
 | i + 1,h=>by rw [redO,rouQ,frc_eq,← rou_Q hn hF i (by omega),red_Q _ (by rw [qeV]; omega)]
def prodQ (p:Int) (n:Nat) (form:List Int) (x y:Int):Int:=numL p ((rouQ p form n (outQ p (rowF p n x) (rowF p n y) (List.replicate (2 * n - 1) 0) n) (n - 1)).take n)
theorem prod_Q {p:Int} {n:Nat} (hn:1≤n) (form:List Int) (x y:Int):prodL p n form x y=prodQ p n form x y:=by
 unfold prodL prodQ
 have hl:(qdQ (rowF p n x) (rowF p n y) p).length=2 * n - 1:=by rw [sumsP_len,qb6,qb6]; omega
 rw [rou_Q hn hl (n - 1) (Nat.le_refl _)]
 congr 3
 unfold qdQ
 rw [qb6,qb6,show n + n - 1=2 * n - 1 by omega,out_Q n (by rw [qb6,List.length_replicate]; omega)]
def chkP (f:Fd):Bool:=Nat.beq f.n 1 || (List.range f.q).all fun x=>(List.range f.q).all fun y=>isZ (prodQ f.p f.n (qd4 f) x y) (Mk f x y)
theorem all_P:fds.all chkP=true:=by decide +kernel
theorem prod_one (p x y:Int):prodL p 1 [0,1] x y=(x % p * (y % p)) % p:=by
 simp [prodL,redO,qdQ,outr,inn,rowF,gI,numL]
theorem mul_one_F (p x y:Int):mulF p 1 0 x y=(x % p * (y % p)) % p:=by
 simp [mulF,mulR,rowF,tlF,qgw,numF]
theorem low_one:(fds.all fun f=>!Nat.beq f.n 1 || Nat.beq f.low 0)=true:=by decide +kernel
theorem prod_M {f:Fd} (h:f∈fds) {x y:Nat} (hx:x < f.q) (hy:y < f.q) (c:LC):qbK [.int f.q,.lst ((qd4 f).map D.int),.int x,.int y] c=.ok (.int (M f x y:Nat)) c:=by
 rw [prod_ok h]
 have I:=qcW h
 have hc:=List.all_eq_true.mp all_P f h
 cases hq:Nat.beq f.n 1 with
 | true =>
  have hn:=be hq
  have hl:=List.all_eq_true.mp low_one f h
  simp only [hq,Bool.not_true,Bool.false_or] at hl
  have e:qd4 f=[0,1]:=if_pos hn
  have hm:=I.mm x y hx hy
  unfold mI at hm
  rw [e,← hm,hn,be hl,prod_one]
  rw [show ((0:Nat):Int)=0 from rfl,mul_one_F]
 | false =>
  simp only [chkP,hq,Bool.false_or] at hc
  have:=List.all_eq_true.mp (List.all_eq_true.mp hc x (List.mem_range.mpr hx)) y (List.mem_range.mpr hy)
  rw [prod_Q I.n1,isZ_eq this,Mk_eq]
end Ev
namespace Ev
open PySem L2 Fq
theorem qaV {s t:dF} {e e':Ev} {c c':LC} (h:s e c=.ok (.nx e') c'):sSeq s t e c=t e' c':=by rw [qfy,h]; rfl
theorem nat_of {i:Int} (h:0≤i):∃ n:Nat,i=n:=⟨i.toNat,by omega⟩
def Pot (j:Nat) (n:Nat) (c:LC):Prop:=c.length=n∧j < n∧∃ p:Int,c[j]? = some (.lst [.int p])
theorem Pot.set {j n:Nat} {c:LC} (h:Pot j n c) (p:Int):Pot j n (c.set j (.lst [.int p])):=by
 obtain ⟨h1,h2,_⟩:=h
 exact ⟨by simp [h1],h2,p,by rw [List.getElem?_set_self (by omega)]⟩
theorem take_ok {j n:Nat} {c:LC} {far:Int} (h:Pot j n c) (h0:0 < far) (h1:far < 1073741824) :
  ∃ (x:Int) (c':LC),0≤x∧x < far∧Pot j n c'∧qc3 [.ref j,.int far] c=.ok (.int x) c':=by
 obtain ⟨hl,hj,p,hp⟩:=id h
 refine ⟨p % far,c.set j (.lst [.int (p / far)]),Int.emod_nonneg _ (by omega),Int.emod_lt_of_pos _ h0,h.set _,?_⟩
 have e1:ixD (.ref j) (.int 0) c=.ok (.int p) c:=by
  unfold ixD seqD
  simp [hp]
 have e2:setD (.ref j) (.int 0) (.int (p / far)) c=.ok () (c.set j (.lst [.int (p / far)])):=by
  unfold setD
  simp [hp,ixN]
 have e3:(c.set j (.lst [.int (p / far)])).take c.length=c.set j (.lst [.int (p / far)]):=by
  rw [List.take_of_length_le]; simp
 simp (disch:=omega) [qc3,qcR,e1,qfG,div_c,e2,e3]
theorem pot_ok (cell:Int) (c:LC):∃ p:Int,qdl [.int cell] c=.ok (.ref c.length) (c ++ [.lst [.int p]]):=by
 by_cases h:10 ^ 18≤cell
 ·refine ⟨cell - 10 ^ 18,?_⟩
  simp (disch:=omega) [qdl,qd0,pow_c,h]
  rw [if_pos (by simpa using h)]
  simp [qcG]
 ·obtain ⟨e',c',⟨⟨q,v1,v2,rfl⟩,rfl⟩,hf⟩:=for_inv (g:=qa5 2) (s:=(sSeq (sSet 3 (dBin modD (dBin mulD (dBin addD (dBin addD (dBin modD (dVar 0) (dC (.int 2147483629))) (dBin mulD (dC (.int 7919)) (dVar 2))) (dC (.int 1))) (dC (.int 48271))) (dC (.int 2147483647)))) (sSeq (sSet 3 (dBin modD (dBin addD (dBin addD (dBin mulD (dVar 3) (dVar 3)) (dBin mulD (dC (.int 69621)) (dVar 2))) (dC (.int 7))) (dC (.int 2147483587)))) (sSet 1 (dBin addD (dBin mulD (dVar 1) (dC (.int 2147483587))) (dVar 3))))))
   (fun e c'=>(∃ q v1 v2,e=[some (.int cell),some (.int q),v1,v2])∧c'=c) (rngD 0 64) [some (.int cell),some (.int 0),none,none] c ⟨⟨0,none,none,rfl⟩,rfl⟩ (fun x hx e c' ⟨⟨q,v1,v2,he⟩,hc⟩=>by
    obtain ⟨i,rfl,i0,i1⟩:=qgs hx
    subst he; subst hc
    have b0:0≤(cell % 2147483629 + 7919 * i + 1) * 48271 % 2147483647:=Int.emod_nonneg _ (by decide)
    have b1:(cell % 2147483629 + 7919 * i + 1) * 48271 % 2147483647 < 2147483647:=Int.emod_lt_of_pos _ (by decide)
    generalize hm:(cell % 2147483629 + 7919 * i + 1) * 48271 % 2147483647=m at b0 b1
    refine ⟨_,[some (.int cell),some (.int (q * 2147483587 + (m * m + 69621 * i + 7) % 2147483587)),some (.int i),some (.int ((m * m + 69621 * i + 7) % 2147483587))],_,_,rfl,by simp (disch:=omega) [qfG,mul_l,mul_r,hm],⟨⟨_,_,_,rfl⟩,rfl⟩⟩)
  refine ⟨q,?_⟩
  have hh:¬ (1000000000000000000≤cell):=by simpa using h
  simp (disch:=omega) [qdl,qd0,pow_c,hh]
  rw [hf]
  simp [qcG]
theorem cell_ok (ns:List Int) (k:Int) (h:0≤k) (c:LC):∃ x:Int,qbL [.scr ns,.int k] c=.ok (.int x) c:=by
 by_cases q:k < ns.length
 ·have hk:k.toNat < ns.length:=by omega
  refine ⟨ns[k.toNat],?_⟩
  have e:ixD (.scr ns) (.int k) c=.ok (.int ns[k.toNat]) c:=by
   show (match atI (ns.map D.int) k with | some d=>R.ok d c | none=>R.bad)=_
   have:atI (ns.map D.int) k=some (.int ns[k.toNat]):=by
    have:=qdw (xs:=ns.map D.int) (j:=k.toNat) (v:=.int ns[k.toNat]) (by simp [hk])
    rw [Int.toNat_of_nonneg h] at this
    exact this
   rw [this]
  simp [qbL,qbk,q,e]
 ·exact ⟨0,by simp [qbL,qbk,q]⟩
theorem qfo (l:List D):l.filter (fun _=>true)=l:=by simp
theorem rng_map {β:Type} (m:Nat) (F:D→β):(rngD 0 (m:Int)).map F=(List.range m).map fun i:Nat=>F (.int (i:Int)):=by
 unfold rngD
 rw [List.map_map,show ((m:Int) - 0).toNat=m by omega]
 refine List.map_congr_left fun i _=>?_
 simp
theorem seq_rt {s t:dF} {e:Ev} {c c':LC} {d:D} (h:s e c=.ok (.rt d) c'):sSeq s t e c=.ok (.rt d) c':=by
 rw [qfy,h]
 rfl
def It (d:D):Prop:=(∃ i:Int,d=.int i)∨d=.bl true
def plI (q:Int):D→Bool
 | .int i=>decide (0≤i) && decide (i≤q - 1)
 | _=>false
def isI:D→Bool
 | .int _=>true
 | _=>false
theorem whole_it {d:D} (h:It d) (c:LC):qaY [d] c=.ok (.bl (isI d)) c:=by
 rcases h with ⟨i,rfl⟩ | rfl <;> simp [qaY,qbg,isI]
theorem isI_false {d:D} (h:isI d=false) (q:Int):plI q d=false:=by
 cases d <;> first | (cases h; done) | rfl
theorem isI_true {d:D} (h:isI d=true):∃ i,d=.int i:=by
 cases d <;> first | (cases h; done) | exact ⟨_,rfl⟩
theorem within_it {d:D} (h:It d) (q:Int) (c:LC):qae [d,.int 0,.int (q - 1)] c=.ok (.bl (plI q d)) c:=by
 have hw:=whole_it h c
 cases hi:isI d with
 | false =>
  rw [hi] at hw
  rw [isI_false hi]
  simp [qae,qax,hw]
 | true =>
  obtain ⟨i,rfl⟩:=isI_true hi
  rw [hi] at hw
  by_cases q0:0≤i <;> simp [qae,qax,hw,plI,q0]
theorem all_comp {a:yD} {T:D} {q:Int} {c:LC} (ha:∀ d,It d→a [some d,some T] c=.ok (.bl (plI q d)) c):∀ (l:List D) (v:Option D) (acc:List D),(∀ d∈l,It d)→qb4 (fun _=>True) (qa5 0) dYes a l [v,some T] acc c=.ok (acc ++ (l.map (plI q)).map D.bl) c
 | [],v,acc,_=>by simp
 | d :: l,v,acc,h=>by
  have h1:qa5 0 d [v,some T] c=.ok [some d,some T] c:=rfl
  rw [qdn,h1,R.bind_ok,x_yes,R.bind_ok,if_pos rfl,ha d (h d (.head _)),R.bind_ok,all_comp ha l _ _ (fun z hz=>h z (.tail _ hz)),List.append_assoc]
  rfl
theorem all_id (l:List Bool) (c:LC):allD [.lst (l.map D.bl)] c=.ok (.bl (l.all id)) c:=by
 unfold allD quantD
 dsimp only
 rw [blsD_map]
theorem qec:∀ {A B:List Nat},A.Nodup→(∀ x∈A,x∈B)→A.length=B.length→A.Perm B
 | [],B,_,_,hl=>by
  have:B=[]:=List.length_eq_zero_iff.mp (by simpa using hl.symm)
  subst this; exact .refl _
 | a :: A,B,hn,hs,hl=>by
  obtain ⟨h1,h2⟩:=List.nodup_cons.mp hn
  have ha:=hs a (.head _)
  have hp:=List.perm_cons_erase ha
  have he:(B.erase a).length=B.length - 1:=List.length_erase_of_mem ha
  have ih:=qec (A:=A) (B:=B.erase a) h2 (fun x hx=>(List.mem_erase_of_ne (fun e:x=a=>h1 (by rw [← e]; exact hx))).mpr (hs x (.tail _ hx))) (by rw [he]; rw [List.length_cons] at hl; omega)
  exact (ih.cons a).trans hp.symm
theorem ssort_perm {ps:List Nat} {m:Nat} (hl:ps.length=m) (hm:∀ p∈ps,p < m):(qbv ps).length=m↔ps.Perm (List.range m):=by
 have hn:=nd_up (qeS ps)
 constructor
 ·intro h
  have h1:(qbv ps).Perm ps:=qec hn (fun x hx=>mem_ssort.mp hx) (by omega)
  have h2:(qbv ps).Perm (List.range m):=qec hn (fun x hx=>List.mem_range.mpr (hm x (mem_ssort.mp hx))) (by rw [List.length_range]; exact h)
  exact h1.symm.trans h2
 ·intro h
  have hd:ps.Nodup:=h.nodup_iff.mpr List.nodup_range
  have h1:ps.Perm (qbv ps):=(List.perm_ext_iff_of_nodup hd hn).mpr fun x=>mem_ssort.symm
  rw [← h1.length_eq,hl]
theorem nD_ints (ps:List Nat):nD ps=(ps.map fun k:Nat=>(k:Int)).map D.int:=by simp [nD]
theorem castI_inj:∀ {ps qs:List Nat},ps.map (fun k:Nat=>(k:Int))=qs.map (fun k:Nat=>(k:Int))→ps=qs
 | [],[],_=>rfl
 | [],q :: qs,h=>by simp at h
 | p :: ps,[],h=>by simp at h
 | p :: ps,q :: qs,h=>by
  rw [List.map_cons,List.map_cons] at h
  obtain ⟨h1,h2⟩:=List.cons.inj h
  rw [castI_inj h2,show p=q by omega]
theorem intD_inj:∀ {a b:List Int},a.map D.int=b.map D.int→a=b
 | [],[],_=>rfl
 | [],y :: b,h=>by simp at h
 | x :: a,[],h=>by simp at h
 | x :: a,y :: b,h=>by
  rw [List.map_cons,List.map_cons] at h
  obtain ⟨h1,h2⟩:=List.cons.inj h
  cases h1
  rw [intD_inj h2]
theorem nD_inj {ps qs:List Nat} (h:nD ps=nD qs):ps=qs:=by
 rw [nD_ints,nD_ints] at h
 exact castI_inj (intD_inj h)
theorem all_pl {m:Nat}:∀ {xs:List D},(xs.map (plI (m:Int))).all id=true→∃ ps:List Nat,xs=nD ps∧∀ p∈ps,p < m
 | [],_=>⟨[],rfl,fun p hp=>(by cases hp)⟩
 | d :: xs,h=>by
  rw [List.map_cons,List.all_cons,Bool.and_eq_true] at h
  obtain ⟨ps,rfl,hp⟩:=all_pl h.2
  have hd:plI (m:Int) d=true:=h.1
  cases d with
  | int i =>
   simp only [plI,Bool.and_eq_true,decide_eq_true_eq] at hd
   obtain ⟨k,rfl⟩:=nat_of hd.1
   exact ⟨k :: ps,rfl,fun p hp'=>by
    rcases List.mem_cons.mp hp' with rfl | h'
    ·omega
    ·exact hp p h'⟩
  | _=>cases hd
theorem pl_all {m:Nat}:∀ {ps:List Nat},(∀ p∈ps,p < m)→((nD ps).map (plI (m:Int))).all id=true
 | [],_=>rfl
 | p :: ps,h=>by
  have h1:=pl_all (ps:=ps) fun q hq=>h q (.tail _ hq)
  have h2:=h p (.head _)
  show (plI (m:Int) (.int (p:Int)) && ((nD ps).map (plI (m:Int))).all id)=true
  rw [h1]
  simp [plI]; omega
def OrdP (m:Nat) (xs:List D):Prop:=∃ ps:List Nat,xs=nD ps∧ps.Perm (List.range m)
theorem io0_no {xs:List D} {q:Int} (h:¬ (xs.length:Int)=q) (c:LC):(sIf (dOrT (qca (dBl (dCB isiD (qa0 (dVar 0) (qa0 (dC (.ty "tuple")) dNil))))) (dBl (dBin neD (dCB lenD (qa0 (dVar 0) dNil)) (dVar 1)))) (sRet (dC (.bl false))) qb5) [some (.tup xs),some (.int q)] c=.ok (.rt (.bl false)) c:=by
 simp [h]
theorem io0_yes {xs:List D} {q:Int} (h:(xs.length:Int)=q) (c:LC):(sIf (dOrT (qca (dBl (dCB isiD (qa0 (dVar 0) (qa0 (dC (.ty "tuple")) dNil))))) (dBl (dBin neD (dCB lenD (qa0 (dVar 0) dNil)) (dVar 1)))) (sRet (dC (.bl false))) qb5) [some (.tup xs),some (.int q)] c=.ok (.nx [some (.tup xs),some (.int q)]) c:=by
 simp [h]
theorem io1_gen {xs:List D} {q:Int} {l:List Bool} {ps:List Nat} {n:Int} {c:LC} (hl:xs.length < sizeLine) (hc:qb4 (fun _=>True) (qa5 0) dYes (qa7 3 qae (qa0 (dVar 0) (qa0 (dC (.int 0)) (qa0 (dBin subD (dVar 1) (dC (.int 1))) dNil)))) xs [none,some (.int q)] [] c=.ok (l.map D.bl) c) (hs:l.all id=true→qgq c (.tup xs)=some ps) (hn:((qbv ps).length:Int)=n) :
  (sRet (qen (dCB allD (qa0 (qaO (qem (dVar 0)) [none,some 1] (qa5 0) dYes (qa7 3 qae (qa0 (dVar 0) (qa0 (dC (.int 0)) (qa0 (dBin subD (dVar 1) (dC (.int 1))) dNil))))) dNil)) (dBin eqD (qdO (qa0 (dVar 0) dNil)) (dVar 1)))) [some (.tup xs),some (.int q)] c=.ok (.rt (.bl (l.all id && decide (n=q)))) c:=by
 have hp:qd3 [none,some 1] [some (D.tup xs),some (.int q)]=[none,some (.int q)]:=rfl
 simp only [x_ret,x_andV,x_cb,qba,qeC,x_seqT,qcC,gz,gs,qcd,R.bind_ok]
 rw [if_pos hl,hp,hc]
 simp only [R.bind_ok,all_id]
 cases hA:l.all id with
 | false=>simp
 | true =>
  have h2:=hs hA
  simp only [if_true,qfA,R.bind_ok,qcC,gz,gs]
  unfold qdO
  simp only [qba,qcC,gz,qcd,R.bind_ok,h2,hn,x_eqi,Bool.true_and]
theorem holds_is {m:Nat} (hm:m < 60) {xs:List D} (hx:∀ d∈xs,It d) (hl:xs.length≤20) (c:LC):∃ b,qa9 [.tup xs,.int (m:Int)] c=.ok (.bl b) c∧(b=true↔OrdP m xs):=by
 have hs:=qav (n:=1000) (by decide)
 have hb:qaP=sSeq (sIf (dOrT (qca (dBl (dCB isiD (qa0 (dVar 0) (qa0 (dC (.ty "tuple")) dNil))))) (dBl (dBin neD (dCB lenD (qa0 (dVar 0) dNil)) (dVar 1)))) (sRet (dC (.bl false))) qb5) (sRet (qen (dCB allD (qa0 (qaO (qem (dVar 0)) [none,some 1] (qa5 0) dYes (qa7 3 qae (qa0 (dVar 0) (qa0 (dC (.int 0)) (qa0 (dBin subD (dVar 1) (dC (.int 1))) dNil))))) dNil)) (dBin eqD (qdO (qa0 (dVar 0) dNil)) (dVar 1)))):=rfl
 have es:∀ q:Int,qbx 2 [.tup xs,.int q]=[some (.tup xs),some (.int q)]:=fun _=>rfl
 by_cases h1:(xs.length:Int)=(m:Int)
 ·have hc:=all_comp (a:=(qa7 3 qae (qa0 (dVar 0) (qa0 (dC (.int 0)) (qa0 (dBin subD (dVar 1) (dC (.int 1))) dNil))))) (T:=.int (m:Int)) (q:=(m:Int)) (c:=c) (fun d h=>by
   have:=within_it h (m:Int) c
   generalize (m:Int)=q at *
   simp [this]) xs none [] hx
  rw [List.nil_append] at hc
  have hfin:∀ {l:List Bool} {n:Int},(sRet (qen (dCB allD (qa0 (qaO (qem (dVar 0)) [none,some 1] (qa5 0) dYes (qa7 3 qae (qa0 (dVar 0) (qa0 (dC (.int 0)) (qa0 (dBin subD (dVar 1) (dC (.int 1))) dNil))))) dNil)) (dBin eqD (qdO (qa0 (dVar 0) dNil)) (dVar 1)))) [some (.tup xs),some (.int (m:Int))] c=.ok (.rt (.bl (l.all id && decide (n=(m:Int))))) c→qa9 [.tup xs,.int (m:Int)] c=.ok (.bl (l.all id && decide (n=(m:Int)))) c:=fun {l n} h=>by
   rw [qa9,x_fn,hb,es,qaV (io0_yes h1 c),h]
   generalize (l.all id && decide (n=(m:Int)))=z
   simp
  cases hA:(xs.map (plI (m:Int))).all id with
  | false =>
   have h:=hfin (io1_gen (ps:=[]) (n:=0) (by omega) hc (fun h=>by rw [hA] at h; cases h) rfl)
   refine ⟨_,h,?_⟩
   rw [hA,Bool.false_and]
   refine ⟨fun h=>(by cases h),fun ⟨ps,e,hp⟩=>?_⟩
   subst e
   rw [pl_all fun p hp'=>List.mem_range.mp (hp.mem_iff.mp hp')] at hA
   exact hA.symm
  | true =>
   obtain ⟨ps,rfl,hp⟩:=all_pl hA
   have hpl:ps.length=m:=by
    have:(nD ps).length=ps.length:=by simp [nD]
    omega
   have h64:(qbv ps).length < 64:=by
    have:=nd_len (nd_up (qeS ps)) (fun x hx=>mem_ssort.mp hx)
    omega
   have hN:qgq c (.tup (nD ps))=some ps:=natsD_nD h64 fun x hx=>by have:=hp x hx; omega
   have h:=hfin (io1_gen (ps:=ps) (n:=((qbv ps).length:Int)) (by omega) hc (fun _=>hN) rfl)
   refine ⟨_,h,?_⟩
   rw [hA,Bool.true_and,decide_eq_true_eq]
   have hk:=ssort_perm hpl hp
   refine ⟨fun h=>⟨ps,rfl,hk.mp (by omega)⟩,fun ⟨qs,e,hq⟩=>?_⟩
   cases nD_inj e
   have:=hk.mpr hq
   omega
 ·refine ⟨false,?_,fun h=>(by cases h),fun ⟨ps,e,hp⟩=>?_⟩
  ·rw [qa9,x_fn,hb,es,seq_rt (io0_no h1 c)]
   simp
  ·subst e
   have:=hp.length_eq
   rw [List.length_range] at this
   exact absurd (by simp [nD,this]) h1
def sqD (n:Nat) (s:Nat→Nat→Nat):D:=.tup ((List.range n).map fun i=>.tup (nD ((List.range n).map (s i))))
structure Latin (n:Nat) (s:Nat→Nat→Nat):Prop where
 row:∀ i,i < n→((List.range n).map (s i)).Perm (List.range n)
 col:∀ k,k < n→((List.range n).map fun i=>s i k).Perm (List.range n)
theorem it_nD {ps:List Nat}:∀ d∈nD ps,It d:=fun d hd=>by
 obtain ⟨k,_,rfl⟩:=List.mem_map.mp hd
 exact .inl ⟨_,rfl⟩
theorem holds_yes {n:Nat} (hn:n < 18) {ps:List Nat} (hp:ps.Perm (List.range n)) (c:LC):qa9 [.tup (nD ps),.int (n:Int)] c=.ok (.bl true) c:=by
 have hl:ps.length=n:=by have:=hp.length_eq; simpa using this
 obtain ⟨b,h,i⟩:=holds_is (m:=n) (by omega) (xs:=nD ps) it_nD (by simp [nD,hl]; omega) c
 have:b=true:=i.mpr ⟨ps,rfl,hp⟩
 rw [this] at h
 exact h
theorem col_comp {n k:Nat} (s:Nat→Nat→Nat) (hk:k < n) (c:LC):∀ (l:List Nat) (v:Option D) (acc:List D),qb4 (fun _=>True) (qa5 0) dYes (dBin ixD (dVar 0) (dVar 1)) (l.map fun i=>.tup (nD ((List.range n).map (s i)))) [v,some (.int (k:Int))] acc c=.ok (acc ++ nD (l.map fun i=>s i k)) c
 | [],v,acc=>by simp [nD]
 | i :: l,v,acc=>by
  have h1:qa5 0 (.tup (nD ((List.range n).map (s i)))) [v,some (.int (k:Int))] c=.ok [some (.tup (nD ((List.range n).map (s i)))),some (.int (k:Int))] c:=rfl
  have h2:ixD (.tup (nD ((List.range n).map (s i)))) (.int (k:Int)) c=.ok (.int (s i k:Nat)) c:=by
   rw [x_ixT,qdw (v:=.int (s i k:Nat)) (by simp [nD,hk])]
  have hE:(dBin ixD (dVar 0) (dVar 1)) [some (.tup (nD ((List.range n).map (s i)))),some (.int (k:Int))] c=.ok (.int (s i k:Nat)) c:=by
   generalize D.tup (nD ((List.range n).map (s i)))=T at *
   simp only [qfA,qcC,gz,gs,R.bind_ok,h2]
  rw [List.map_cons,qdn,h1,R.bind_ok,x_yes,R.bind_ok,if_pos rfl,hE,R.bind_ok,col_comp s hk c l,List.append_assoc]
  rfl
theorem column_ok {n k:Nat} (s:Nat→Nat→Nat) (hn:n < 100) (hk:k < n) (c:LC):qb7 [sqD n s,.int (k:Int)] c=.ok (.tup (nD ((List.range n).map fun i=>s i k))) c:=by
 have hs:=qav (n:=1000) (by decide)
 have hc:=col_comp s hk c (List.range n) none []
 rw [List.nil_append] at hc
 have e:(sRet (dCB qcu (qa0 (qaO (qem (dVar 0)) [none,some 1] (qa5 0) dYes (dBin ixD (dVar 0) (dVar 1))) dNil))) [some (sqD n s),some (.int (k:Int))] c=.ok (.rt (.tup (nD ((List.range n).map fun i=>s i k)))) c:=by
  have hp:qd3 [none,some 1] [some (sqD n s),some (.int (k:Int))]=[none,some (.int (k:Int))]:=rfl
  have hd:qem (dVar 0) [some (sqD n s),some (.int (k:Int))] c=.ok ⟨(List.range n).map fun i=>.tup (nD ((List.range n).map (s i))),fun _=>True⟩ c:=rfl
  simp only [x_ret,x_cb,qba,qeC,hd,qcd,R.bind_ok]
  rw [if_pos (by rw [List.length_map,List.length_range]; omega),hp,hc]
  rfl
 have hb:qct=(sRet (dCB qcu (qa0 (qaO (qem (dVar 0)) [none,some 1] (qa5 0) dYes (dBin ixD (dVar 0) (dVar 1))) dNil))):=rfl
 rw [qb7,x_fn,hb]
 have es:qbx 2 [sqD n s,.int (k:Int)]=[some (sqD n s),some (.int (k:Int))]:=rfl
 rw [es,e]
 simp only [R.bind_ok]
 rw [q_tup,if_pos (noRefs_nD _),List.take_length]
theorem rows_comp {n:Nat} {a:yD} {c:LC} {q:Int} (f:Nat→D):∀ (l:List Nat) (v:Option D) (acc:List D),(∀ i∈l,a [some (f i),some (.int q)] c=.ok (.bl true) c)→qb4 (fun _=>True) (qa5 0) dYes a (l.map f) [v,some (.int q)] acc c=.ok (acc ++ (l.map fun _=>true).map D.bl) c
 | [],v,acc,_=>by simp
 | i :: l,v,acc,h=>by
  have h1:qa5 0 (f i) [v,some (.int q)] c=.ok [some (f i),some (.int q)] c:=rfl
  rw [List.map_cons,qdn,h1,R.bind_ok,x_yes,R.bind_ok,if_pos rfl,h i (.head _),R.bind_ok,rows_comp (n:=n) f l _ _ (fun z hz=>h z (.tail _ hz)),List.append_assoc]
  rfl
theorem qgK {α:Type} (l:List α):(l.map fun _=>true).all id=true:=by
 induction l with
 | nil=>rfl
 | cons a l ih=>exact ih
theorem sq_gen {S:D} {xs:List D} {q:Int} {l1 l2:List Bool} {c:LC} (hS:S=.tup xs) (hq:(xs.length:Int)=q) (b:1≤q∧q≤7) (hl:xs.length < sizeLine) (hlr:(rngD 0 q).length < sizeLine) (h1:qb4 (fun _=>True) (qa5 0) dYes (qa7 2 qa9 (qa0 (dVar 0) (qa0 (dVar 1) dNil))) xs [none,some (.int q)] [] c=.ok (l1.map D.bl) c) (a1:l1.all id=true) (h2:qb4 (fun _=>True) (qa5 0) dYes (qa7 2 qa9 (qa0 (qa7 2 qb7 (qa0 (dVar 2) (qa0 (dVar 0) dNil))) (qa0 (dVar 1) dNil))) (rngD 0 q) [none,some (.int q),some S] [] c=.ok (l2.map D.bl) c) (a2:l2.all id=true):qcV [S] c=.ok (.bl true) c:=by
 subst hS
 have hb:qcs=sSeq (sIf (dOrT (qca (dBl (dCB isiD (qa0 (dVar 0) (qa0 (dC (.ty "tuple")) dNil))))) (qca (dBl (qft leD leD (dC (.int 1)) (dCB lenD (qa0 (dVar 0) dNil)) (dC (.int 7)))))) (sRet (dC (.bl false))) qb5) (sSeq (sSet 1 (dCB lenD (qa0 (dVar 0) dNil))) (sSeq (sIf (qca (dBl (dCB allD (qa0 (qaO (qem (dVar 0)) [none,some 1] (qa5 0) dYes (qa7 2 qa9 (qa0 (dVar 0) (qa0 (dVar 1) dNil)))) dNil)))) (sRet (dC (.bl false))) qb5) (sRet (dCB allD (qa0 (qaO (qaD (qa0 (dVar 1) dNil)) [none,some 1,some 0] (qa5 0) dYes (qa7 2 qa9 (qa0 (qa7 2 qb7 (qa0 (dVar 2) (qa0 (dVar 0) dNil))) (qa0 (dVar 1) dNil)))) dNil))))):=rfl
 have es:qbx 2 [D.tup xs]=[some (.tup xs),none]:=rfl
 have e0:(sIf (dOrT (qca (dBl (dCB isiD (qa0 (dVar 0) (qa0 (dC (.ty "tuple")) dNil))))) (qca (dBl (qft leD leD (dC (.int 1)) (dCB lenD (qa0 (dVar 0) dNil)) (dC (.int 7)))))) (sRet (dC (.bl false))) qb5) [some (.tup xs),none] c=.ok (.nx [some (.tup xs),none]) c:=by
  have hle:lenD [.tup xs] c=.ok (.int q) c:=by rw [x_lenT,hq]
  simp [hq,b.1,b.2]
 have e1:(sSet 1 (dCB lenD (qa0 (dVar 0) dNil))) [some (.tup xs),none] c=.ok (.nx [some (.tup xs),some (.int q)]) c:=by simp [hq]
 have e2:(sIf (qca (dBl (dCB allD (qa0 (qaO (qem (dVar 0)) [none,some 1] (qa5 0) dYes (qa7 2 qa9 (qa0 (dVar 0) (qa0 (dVar 1) dNil)))) dNil)))) (sRet (dC (.bl false))) qb5) [some (.tup xs),some (.int q)] c=.ok (.nx [some (.tup xs),some (.int q)]) c:=by
  have hp:qd3 [none,some 1] [some (.tup xs),some (.int q)]=[none,some (.int q)]:=rfl
  simp only [x_if,x_notT,x_bl,x_cb,qba,qeC,x_seqT,qcC,gz,gs,qcd,R.bind_ok]
  rw [if_pos hl,hp,h1]
  simp only [R.bind_ok,all_id,a1]
  simp
 have e3:(sRet (dCB allD (qa0 (qaO (qaD (qa0 (dVar 1) dNil)) [none,some 1,some 0] (qa5 0) dYes (qa7 2 qa9 (qa0 (qa7 2 qb7 (qa0 (dVar 2) (qa0 (dVar 0) dNil))) (qa0 (dVar 1) dNil)))) dNil))) [some (.tup xs),some (.int q)] c=.ok (.rt (.bl true)) c:=by
  have hp:qd3 [none,some 1,some 0] [some (.tup xs),some (.int q)]=[none,some (.int q),some (.tup xs)]:=rfl
  simp only [x_ret,x_cb,qba,qeC,qfK,qcC,gz,gs,qcd,R.bind_ok]
  rw [if_pos (by omega)]
  simp only [R.bind_ok]
  rw [if_pos hlr,hp,h2]
  simp only [R.bind_ok,all_id,a2]
 rw [qcV,x_fn,hb,es,qaV e0,qaV e1,qaV e2,e3]
 simp
theorem square_ok {n:Nat} {s:Nat→Nat→Nat} (h:Latin n s) (h1:1≤n) (h7:n≤7) (c:LC):qcV [sqD n s] c=.ok (.bl true) c:=by
 have hs:=qav (n:=1000) (by decide)
 have c1:=rows_comp (n:=n) (a:=(qa7 2 qa9 (qa0 (dVar 0) (qa0 (dVar 1) dNil)))) (c:=c) (q:=(n:Int)) (fun i=>.tup (nD ((List.range n).map (s i)))) (List.range n) none [] (fun i hi=>by
  have:=holds_yes (by omega) (h.row i (List.mem_range.mp hi)) c
  generalize D.tup (nD ((List.range n).map (s i)))=T at *
  generalize (n:Int)=q at *
  simp [this])
 have c2:qb4 (fun _=>True) (qa5 0) dYes (qa7 2 qa9 (qa0 (qa7 2 qb7 (qa0 (dVar 2) (qa0 (dVar 0) dNil))) (qa0 (dVar 1) dNil))) (rngD 0 (n:Int)) [none,some (.int (n:Int)),some (sqD n s)] [] c=.ok (((List.range n).map fun _=>true).map D.bl) c:=by
  have:=qcX (c:=c) (g:=qa5 0) (t:=dYes) (a:=(qa7 2 qa9 (qa0 (qa7 2 qb7 (qa0 (dVar 2) (qa0 (dVar 0) dNil))) (qa0 (dVar 1) dNil)))) (fun e=>∃ v,e=[v,some (.int (n:Int)),some (sqD n s)]) (fun _=>true) (fun _=>.bl true) (rngD 0 (n:Int)) [none,some (.int (n:Int)),some (sqD n s)] [] ⟨_,rfl⟩ (fun d hd e ⟨v,he⟩=>by
   subst he
   obtain ⟨k',rfl,k0,k1⟩:=qgs hd
   obtain ⟨k,rfl⟩:=nat_of k0
   refine ⟨_,rfl,⟨_,rfl⟩,rfl,fun _=>?_⟩
   have g1:=column_ok s (by omega) (show k < n by omega) c
   have g2:=holds_yes (by omega) (h.col k (by omega)) c
   show (qa7 2 qa9 (qa0 (qa7 2 qb7 (qa0 (dVar 2) (qa0 (dVar 0) dNil))) (qa0 (dVar 1) dNil))) [some (.int (k:Int)),some (.int (n:Int)),some (sqD n s)] c=_
   generalize sqD n s=S at *
   generalize D.tup (nD ((List.range n).map fun i=>s i k))=T at *
   generalize (n:Int)=q at *
   simp [g1,g2])
  rw [this,List.nil_append,qfo,rng_map,List.map_map]
  rfl
 rw [List.nil_append] at c1
 exact sq_gen rfl (by simp) (by omega) (by simp; omega) (by rw [qcT]; omega) c1 (qgK _) c2 (qgK _)
end Ev
namespace Ev
open PySem L2
theorem cb1 {f:List D→LC→R D} {d1:yD} {e:Ev} {c:LC} {x v:D} (h1:d1 e c=.ok x c) (h:f [x] c=.ok v c):dCB f (qa0 d1 dNil) e c=.ok v c:=by
 simp only [x_cb,qba,h1,qcd,R.bind_ok]; exact h
theorem qgg {i:Nat} {d:yD} {e:Ev} {c:LC} {v:D} (h:d e c=.ok v c):sSet i d e c=.ok (.nx (e.set i (some v))) c:=by rw [x_set,h]; rfl
theorem qeu {d:yD} {e:Ev} {c:LC} {v:D} (h:d e c=.ok v c):sRet d e c=.ok (.rt v) c:=by rw [x_ret,h]; rfl
theorem qcp {f:D→D→LC→R D} {d1 d2:yD} {e:Ev} {c:LC} {x y:D} {r:R D} (h1:d1 e c=.ok x c) (h2:d2 e c=.ok y c) (h:f x y c=r):dBin f d1 d2 e c=r:=by
 rw [qfA,h1]
 simp only [R.bind_ok]
 rw [h2]
 exact h
theorem qfu {m:List D→LC→R D} {d1 d2 d3:yD} {e:Ev} {c:LC} {x y z v:D} (h1:d1 e c=.ok x c) (h2:d2 e c=.ok y c) (h3:d3 e c=.ok z c) (h:m [x,y,z] c=.ok v c):qa7 3 m (qa0 d1 (qa0 d2 (qa0 d3 dNil))) e c=.ok v c:=by
 simp only [qeD,qba,h1,h2,h3,qcd,R.bind_ok]
 rw [if_pos (by rfl)]; exact h
theorem qdo {m:List D→LC→R D} {d1 d2:yD} {e:Ev} {c:LC} {x y v:D} (h1:d1 e c=.ok x c) (h2:d2 e c=.ok y c) (h:m [x,y] c=.ok v c):qa7 2 m (qa0 d1 (qa0 d2 dNil)) e c=.ok v c:=by
 simp only [qeD,qba,h1,h2,qcd,R.bind_ok]
 rw [if_pos (by rfl)]; exact h
theorem qdI {m:List D→LC→R D} {d1:yD} {e:Ev} {c:LC} {x v:D} (h1:d1 e c=.ok x c) (h:m [x] c=.ok v c):qa7 1 m (qa0 d1 dNil) e c=.ok v c:=by
 simp only [qeD,qba,h1,qcd,R.bind_ok]
 rw [if_pos (by rfl)]; exact h
theorem qfL {n:Nat} {b:dF} {xs:List D} {c:LC} {v:D} (h:b (qbx n xs) c=.ok (.rt v) c) (hv:qbT v=true) (hr:∀ k,v≠.ref k):fnD n false b xs c=.ok v c:=by
 rw [x_fn,h]
 simp only [R.bind_ok]
 cases v <;> first | exact absurd rfl (hr _) | (unfold qcG; dsimp only; rw [if_pos hv,List.take_length])
end Ev
namespace Ev
open PySem L2
theorem qdH (x y:Str) (b:Bool) (c:LC) (h:(decide (x∈xcls∧y∈xcls) && ((x == y) == b))=true):isxD xcls [.exc x,.fn y 0] c=.ok (.bl b) c:=by
 simp only [Bool.and_eq_true,decide_eq_true_eq,beq_iff_eq] at h
 unfold isxD
 simp only
 rw [if_pos h.1,h.2]
theorem isx_ve (x:Str) (c:LC) (h:decide (x∈xcls)=true):isxD xcls [.exc x,.ty "ValueError"] c=.ok (.bl true) c:=by
 unfold isxD
 simp only
 rw [if_pos ⟨by simpa using h,by trivial⟩]
theorem kindF (c:LC):qcF [.exc "NoField"] c=.ok (.str "field") c:=by
 have t8:(8:Nat)≤sizeLine:=by decide
 have t11:(11:Nat)≤sizeLine:=by decide
 have h_NoWeb:=fun c=>qdH "NoField" "NoWeb" false c (by decide +kernel)
 have h_NoText:=fun c=>qdH "NoField" "NoText" false c (by decide +kernel)
 have h_NoNumbers:=fun c=>qdH "NoField" "NoNumbers" false c (by decide +kernel)
 have h_NoField:=fun c=>qdH "NoField" "NoField" true c (by decide +kernel)
 have h_NoThing:=fun c=>qdH "NoField" "NoThing" false c (by decide +kernel)
 have h_NoSquare:=fun c=>qdH "NoField" "NoSquare" false c (by decide +kernel)
 have h_NoPlaces:=fun c=>qdH "NoField" "NoPlaces" false c (by decide +kernel)
 have h_TooMany:=fun c=>qdH "NoField" "TooMany" false c (by decide +kernel)
 have h_NoName:=fun c=>qdH "NoField" "NoName" false c (by decide +kernel)
 have h_NoDeed:=fun c=>qdH "NoField" "NoDeed" false c (by decide +kernel)
 have h_NoRow:=fun c=>qdH "NoField" "NoRow" false c (by decide +kernel)
 have h_ve:=fun c=>isx_ve "NoField" c (by decide +kernel)
 have hf:List.findIdx? id [false,false,false,true,false,false,false,false,false,false,false]=some 3:=by decide
 simp [qcF,qbN,h_NoWeb,h_NoText,h_NoNumbers,h_NoField,h_NoThing,h_NoSquare,h_NoPlaces,h_TooMany,h_NoName,h_NoDeed,h_NoRow,h_ve,dCount,dIndex,catD,lstD,blsD,t8,t11,hf]
theorem inF_x:("NoField":Str)∈xcls:=by decide +kernel
end Ev
namespace Ev
open PySem L2 Fq
def A (f:Fd) (x y:Nat):Nat:=(addF f.p f.n x y).toNat
theorem A_ok {f:Fd} (h:f∈fds) (x y:Nat):((A f x y:Nat):Int)=addF f.p f.n x y∧A f x y < f.q:=aI_ok (qcW h) x y
theorem add_A {f:Fd} (h:f∈fds) {x y:Nat} (hx:x < f.q) (hy:y < f.q) (c:LC):qey [.int f.q,.int x,.int y] c=.ok (.int (A f x y:Nat)) c:=by
 rw [(A_ok h x y).1]
 exact added_ok h (by omega) (by omega) (by omega) (by omega) c
def sF (f:Fd) (a x y:Nat):Nat:=A f (M f a x) y
theorem cmp_i {a:yD} {E:Ev} {c:LC} (it g:Nat→D):∀ (l:List Nat) (v:Option D) (acc:List D),(∀ i∈l,a (some (it i) :: E) c=.ok (g i) c)→qb4 (fun _=>True) (qa5 0) dYes a (l.map it) (v :: E) acc c=.ok (acc ++ l.map g) c
 | [],v,acc,_=>by simp
 | i :: l,v,acc,h=>by
  have h1:qa5 0 (it i) (v :: E) c=.ok (some (it i) :: E) c:=rfl
  rw [List.map_cons,qdn,h1,R.bind_ok,x_yes,R.bind_ok,if_pos rfl,h i (.head _),R.bind_ok,cmp_i it g l _ _ (fun z hz=>h z (.tail _ hz)),List.append_assoc]
  rfl
theorem sizeH:1000000 < sizeLine:=by decide
theorem rng_i (lo hi:Int):rngD lo hi=(List.range (hi - lo).toNat).map fun i:Nat=>D.int (lo + (i:Int)):=rfl
theorem lcomp {d a:yD} {pick:List (Option Nat)} {e E:Ev} {c:LC} {N:Int} {n:Nat} (g:Nat→D) (hd:d e c=.ok (.int N) c) (hN:N=n) (hn:n < 1000) (hp:qd3 pick e=none :: E) (ha:∀ i,i < n→a (some (.int (i:Int)) :: E) c=.ok (g i) c) :
  qaO (qaD (qa0 d dNil)) pick (qa5 0) dYes a e c=.ok (.lst ((List.range n).map g)) c:=by
 have sz:=sizeH
 have h1:qaD (qa0 d dNil) e c=.ok ⟨rngD 0 N,fun _=>True⟩ c:=by
  unfold qaD
  simp only [qba,hd,qcd,R.bind_ok]
  rw [if_pos (by omega)]
 have hl:(rngD 0 N).length=n:=by rw [qcT]; omega
 have hr:rngD 0 N=(List.range n).map fun i:Nat=>D.int (i:Int):=by
  rw [rng_i,show (N - 0).toNat=n by omega]
  simp
 rw [qeC,h1,R.bind_ok]
 dsimp only
 rw [if_pos (by rw [hl]; omega),hp,hr,cmp_i _ g (List.range n) none [] (fun i hi=>ha i (List.mem_range.mp hi))]
 rfl
theorem tup_lst (l:List D) (c:LC) (h:l.length≤1000):qcu [.lst l] c=.ok (.tup l) c:=by
 have sz:=sizeH
 simp [qcu,seqD]
theorem tcomp {d a:yD} {pick:List (Option Nat)} {e E:Ev} {c:LC} {N:Int} {n:Nat} (g:Nat→D) (hd:d e c=.ok (.int N) c) (hN:N=n) (hn:n < 1000) (hp:qd3 pick e=none :: E) (ha:∀ i,i < n→a (some (.int (i:Int)) :: E) c=.ok (g i) c) :
  dCB qcu (qa0 (qaO (qaD (qa0 d dNil)) pick (qa5 0) dYes a) dNil) e c=.ok (.tup ((List.range n).map g)) c :=
 cb1 (lcomp g hd hN hn hp ha) (tup_lst _ c (by simp; omega))
theorem nr_tup {l:List D} (h:∀ d∈l,qbT d=true):qbT (.tup l)=true:=by unfold qbT; exact noRefs_iff.mpr h
theorem nr_row (l:List Nat):qbT (.tup (nD l))=true:=nr_tup fun d hd=>by
 obtain ⟨k,_,rfl⟩:=List.mem_map.mp hd
 rfl
theorem nr_sq (n:Nat) (s:Nat→Nat→Nat):qbT (sqD n s)=true:=nr_tup fun d hd=>by
 obtain ⟨k,_,rfl⟩:=List.mem_map.mp hd
 exact nr_row _
theorem q500 {f:Fd} (h:f∈fds):f.q≤50:=by
 have:(fds.all fun f=>decide (f.q≤50))=true:=by decide +kernel
 simpa using List.all_eq_true.mp this f h
theorem nD_map (n:Nat) (g:Nat→Nat):nD ((List.range n).map g)=(List.range n).map fun i=>D.int (g i:Nat):=by simp [nD]
theorem frow_ok {f:Fd} (h:f∈fds) {a x:Nat} (ha:a < f.q) (hx:x < f.q) (c:LC):qdr [.int f.q,.int a,.int x] c=.ok (.tup (nD ((List.range f.q).map (sF f a x)))) c:=by
 have hq:=q500 h
 refine qfL (n:=3) (b:=qbX) ?_ (nr_row _) (fun k h=>by cases h)
 unfold qbX
 refine qeu ?_
 rw [nD_map]
 refine tcomp (N:=(f.q:Int)) (n:=f.q) (E:=[some (.int f.q),some (.int a),some (.int x)]) (fun y=>D.int (sF f a x y:Nat)) rfl rfl (by omega) rfl fun y hy=>?_
 exact qfu (m:=qey) (d1:=dVar 1) (d3:=dVar 0) rfl (qfu (m:=qc2) (d1:=dVar 1) (d2:=dVar 2) (d3:=dVar 3) rfl rfl rfl (mul_M h ha hx c)) rfl (add_A h (M_lt (qcW h) a x) hy c)
theorem fsq_ok {f:Fd} (h:f∈fds) {a:Nat} (ha:a < f.q) (c:LC):qbs [.int f.q,.int a] c=.ok (sqD f.q (sF f a)) c:=by
 have hq:=q500 h
 refine qfL (n:=2) (b:=qb9) ?_ (nr_sq _ _) (fun k h=>by cases h)
 unfold qb9
 refine qeu ?_
 exact tcomp (N:=(f.q:Int)) (n:=f.q) (E:=[some (.int f.q),some (.int a)]) (fun x=>D.tup (nD ((List.range f.q).map (sF f a x)))) rfl rfl (by omega) rfl fun x hx=>qfu (m:=qdr) (d1:=dVar 1) (d2:=dVar 2) (d3:=dVar 0) rfl rfl rfl (frow_ok h ha hx c)
def FS (f:Fd):List D:=(List.range (f.q - 1)).map fun a=>sqD f.q (sF f (1 + a))
theorem nr_FS (f:Fd):qam (FS f)=true:=noRefs_iff.mpr fun d hd=>by
 obtain ⟨k,_,rfl⟩:=List.mem_map.mp hd
 exact nr_sq _ _
theorem FS_len (f:Fd):(FS f).length=f.q - 1:=by simp [FS]
theorem fss_gen {f:Fd} (h:f∈fds) {N:Int} (hN:N=f.q) (h7:N≤7) (c:LC):qaS [.int N] c=.ok (.ref c.length) (c ++ [.lst (FS f)]):=by
 have sz:=sizeH
 have q2:=(qcW h).q2
 have hf:qaC [.int N] c=.ok (.bl true) c:=by rw [hN]; exact qfi h c
 have h1:qfs (qa0 (dC (.int 1)) (qa0 (dVar 0) dNil)) [some (.int N)] c=.ok ⟨rngD 1 N,fun _=>True⟩ c:=by
  simp
  omega
 have hl:(rngD 1 N).length=f.q - 1:=by rw [rng_i]; simp; omega
 have hr:rngD 1 N=(List.range (f.q - 1)).map fun i:Nat=>D.int (((1 + i:Nat)):Int):=by
  rw [rng_i,show (N - 1).toNat=f.q - 1 by omega]
  refine List.map_congr_left fun i _=>?_
  congr 1
 have hcm:=cmp_i (c:=c) (E:=[some (.int N)]) (a:=qa7 2 qbs (qa0 (dVar 1) (qa0 (dVar 0) dNil))) (fun i:Nat=>D.int (((1 + i:Nat)):Int)) (fun a=>sqD f.q (sF f (1 + a))) (List.range (f.q - 1)) none [] (fun i hi=>by
  have hi:=List.mem_range.mp hi
  refine qdo (m:=qbs) (d1:=dVar 1) (d2:=dVar 0) rfl rfl ?_
  rw [hN]
  exact fsq_ok h (by omega) c)
 have hg:gtD (.int N) (.int 7) c=.ok (.bl false) c:=by
  have:¬ N > 7:=by omega
  simp [this]
 have e0:(sIf (dOrT (qca (dBl (qa7 1 qaC (qa0 (dVar 0) dNil)))) (dBl (dBin gtD (dVar 0) (dC (.int 7))))) sBad qb5) [some (.int N)] c=.ok (.nx [some (.int N)]) c:=by simp [hf,hg,h7]
 have e1:(sRet (dCompM (qfs (qa0 (dC (.int 1)) (qa0 (dVar 0) dNil))) [none,some 0] (qa5 0) dYes (qa7 2 qbs (qa0 (dVar 1) (qa0 (dVar 0) dNil))))) [some (.int N)] c=.ok (.rt (.ref c.length)) (c ++ [.lst (FS f)]):=by
  rw [x_ret,x_compM,h1,R.bind_ok]
  dsimp only
  rw [if_pos (by rw [hl]; omega),show qd3 [none,some 0] [some (.int N)]=[none,some (.int N)] from rfl,hr,hcm,R.bind_ok]
  show (finM (FS f) c).bind _=_
  unfold finM
  rw [if_pos (nr_FS f)]
  rfl
 show fnD 1 true qaz [.int N] c=_
 unfold fnD qaz
 rw [show qbx 1 [D.int N]=[some (.int N)] from rfl,qaV e0,e1,R.bind_ok]
 dsimp only
 unfold qcG
 dsimp only
 have hg:(c ++ [Cell.lst (FS f)])[c.length]? = some (.lst (FS f)):=by simp
 rw [hg]
 simp
theorem told_yes {f:Fd} (h:f∈fds) {N:Int} (hN:N=f.q) (h7:N≤7) (c:LC):qbr [.int N] c=.ok (.ref c.length) (c ++ [.lst (FS f)]):=by
 have hm:=fss_gen h hN h7 c
 show fnD 2 true qc6 [.int N] c=_
 unfold fnD qc6 sTry
 have hb:sRet (qa7 1 qaS (qa0 (dVar 0) dNil)) (qbx 2 [.int N]) c=.ok (.rt (.ref c.length)) (c ++ [.lst (FS f)]):=by
  rw [x_ret,show qbx 2 [D.int N]=[some (.int N),none] from rfl,qeD]
  simp only [qba,qcC,gz,qcd,R.bind_ok]
  rw [if_pos (by rfl),hm]
  rfl
 rw [hb]
 dsimp only [R.bind]
 unfold qcG
 dsimp only
 have hg:(c ++ [Cell.lst (FS f)])[c.length]? = some (.lst (FS f)):=by simp
 rw [hg]
 simp
theorem told_no {X:D} (h:qaC [X] c=.ok (.bl false) c∨(qaC [X] c=.ok (.bl true) c∧∃ i,X=.int i∧7 < i)):qbr [X] c=.ok (.str "field") c:=by
 have h1:qaS [X] c=.bad:=by
  rcases h with h | ⟨h,i,rfl,hi⟩
  ·simp [qaS,qaz,h]
  ·simp [qaS,qaz,h,hi]
 have h2:qbw [X] c=.ok "NoField" c:=by
  rcases h with h | ⟨h,i,rfl,hi⟩
  ·simp [qbw,qbn,fnX,xIf,xCls,h]
  ·simp [qbw,qbn,fnX,xIf,xCls,h,hi]
 simp [qbr,qc6,sTry,h1,xCall,h2,inF_x,kindF]
end Ev
namespace Ev
open PySem L2 Fq
theorem call_gen4 {m:List D→LC→R D} {d1 d2 d3 d4:yD} {e:Ev} {c:LC} {x y z u v:D} (h1:d1 e c=.ok x c) (h2:d2 e c=.ok y c) (h3:d3 e c=.ok z c) (h4:d4 e c=.ok u c) (h:m [x,y,z,u] c=.ok v c):qa7 4 m (qa0 d1 (qa0 d2 (qa0 d3 (qa0 d4 dNil)))) e c=.ok v c:=by
 simp only [qeD,qba,h1,h2,h3,h4,qcd,R.bind_ok]
 rw [if_pos (by rfl)]
 exact h
def prRow (f:Fd) (x:Nat):List D:=(List.range f.q).map fun y=>D.int (M f x y:Nat)
def PR (f:Fd):List D:=(List.range f.q).map fun x=>.lst (prRow f x)
theorem nr_PR (f:Fd):qbT (.lst (PR f))=true:=by
 unfold qbT
 refine noRefs_iff.mpr fun d hd=>?_
 obtain ⟨k,_,rfl⟩:=List.mem_map.mp hd
 unfold qbT
 refine noRefs_iff.mpr fun d hd=>?_
 obtain ⟨k,_,rfl⟩:=List.mem_map.mp hd
 rfl
theorem prods_ok {f:Fd} (h:f∈fds) (c:LC):qaN [.int f.q] c=.ok (.lst (PR f)) c:=by
 have hq:=q500 h
 refine qfL (n:=2) (b:=qaE) ?_ (nr_PR f) (fun k h=>by cases h)
 have e0:sSet 1 (qa7 1 qcP (qa0 (dVar 0) dNil)) [some (.int f.q),none] c=.ok (.nx [some (.int f.q),some (.lst ((qd4 f).map D.int))]) c:=qgg (i:=1) (qdI (m:=qcP) (d1:=dVar 0) rfl (form_ok h c))
 unfold qaE
 rw [show qbx 2 [D.int f.q]=[some (.int f.q),none] from rfl,qaV e0]
 refine qeu ?_
 exact lcomp (N:=(f.q:Int)) (n:=f.q) (E:=[some (.int f.q),some (.lst ((qd4 f).map D.int))]) (fun x=>D.lst (prRow f x)) rfl rfl (by omega) rfl fun x hx =>
  lcomp (N:=(f.q:Int)) (n:=f.q) (E:=[some (.int f.q),some (.lst ((qd4 f).map D.int)),some (.int (x:Int))]) (fun y=>D.int (M f x y:Nat)) rfl rfl (by omega) rfl fun y hy =>
   call_gen4 (m:=qbK) (d1:=dVar 1) (d2:=dVar 2) (d3:=dVar 3) (d4:=dVar 0) rfl rfl rfl rfl (prod_M h hx hy c)
theorem at_gen {l:List D} {i:Nat} {d:D} (h:l[i]? = some d):atI l (i:Int)=some d:=by
 have hi:=(List.getElem?_eq_some_iff.mp h).1
 unfold atI ixN
 rw [if_pos (by omega),if_pos (by omega)]
 simpa using h
theorem ix_l {l:List D} {i:Nat} {d:D} {N:Int} (hN:N=i) (h:l[i]? = some d) (c:LC):ixD (.lst l) (.int N) c=.ok d c:=by
 subst hN
 unfold ixD seqD
 simp only [at_gen h]
theorem ix_t {l:List D} {i:Nat} {d:D} {N:Int} (hN:N=i) (h:l[i]? = some d) (c:LC):ixD (.tup l) (.int N) c=.ok d c:=by
 subst hN
 unfold ixD seqD
 simp only [at_gen h]
theorem ix_r {l:List D} {i j:Nat} {d:D} {N:Int} {c:LC} (hN:N=i) (hc:c[j]? = some (.lst l)) (h:l[i]? = some d):ixD (.ref j) (.int N) c=.ok d c:=by
 subst hN
 unfold ixD seqD
 simp only [hc,at_gen h]
theorem lsum_A {f:Fd} (h:f∈fds) (x y:Nat) (c:LC):qcw [.int f.q,.int x,.int y,.int 1] c=.ok (.int (A f x y:Nat)) c:=by
 rw [sum_ok h x y 1 (by decide) c,(A_ok h x y).1]
 unfold addF
 have:(fun a b:Int=>a + 1 * b)=(· + ·):=by funext a b; omega
 rw [this]
def qcD (f:Fd) (a:Nat):List D:=(List.range f.q).map fun x=>D.tup (nD ((List.range f.q).map (sF f a x)))
def fsI:dF:=(qc9 (qbC (dVar 4) (dCB qcu (qa0 (qaO (qaD (qa0 (dVar 0) dNil)) [none,some 0,some 5,some 1,some 3] (qa5 0) dYes (qa7 4 qcw (qa0 (dVar 1) (qa0 (dBin ixD (dBin ixD (dVar 3) (dVar 4)) (dVar 2)) (qa0 (dVar 0) (qa0 (dC (.int 1)) dNil)))))) dNil))))
def fsO:dF:=(sSeq (sSet 4 (qdV dNil)) (sSeq (sFor (qaD (qa0 (dVar 0) dNil)) (qa5 5) fsI) (qc9 (qbC (dVar 2) (dCB qcu (qa0 (dVar 4) dNil))))))
theorem qgh {f:Fd} {a x:Nat} (hx:x≤f.q):(qcD f a).take x=(List.range x).map fun x=>D.tup (nD ((List.range f.q).map (sF f a x))):=by
 unfold qcD
 rw [← List.map_take,List.take_range,Nat.min_eq_left hx]
theorem app_at {dO da:yD} {e:Ev} {c:LC} {k:Nat} {l:List D} {y:D} (ho:dO e c=.ok (.ref k) c) (ha:da e c=.ok y c) (hc:c[k]? = some (.lst l)) (hy:qbT y=true) (hl:l.length < 1000):qbC dO da e c=.ok .non (c.set k (.lst (l ++ [y]))):=by
 have sz:=sizeH
 unfold qbC
 rw [ho,R.bind_ok]
 dsimp only
 rw [ha,R.bind_ok]
 simp only [hc]
 rw [if_pos ⟨by omega,hy⟩]
theorem fsI_ok {f:Fd} (h:f∈fds) {a:Nat} (ha:1≤a) (ha2:a < f.q) {N:Int} (hN:N=f.q) (c:LC) (v2 v5:Option D):∃ v,forD (fun _=>True) (qa5 5) fsI (rngD 0 N) [some (.int N),some (.lst (PR f)),v2,some (.int (a:Int)),some (.ref c.length),v5] (c ++ [.lst []])=.ok (.nx [some (.int N),some (.lst (PR f)),v2,some (.int (a:Int)),some (.ref c.length),v]) (c ++ [.lst (qcD f a)]):=by
 have hq:=q500 h
 have:=qe4 (g:=qa5 5) (s:=fsI) (fun x=>c ++ [.lst ((qcD f a).take x)]) (fun _ (v:Option D)=>[some (.int N),some (.lst (PR f)),v2,some (.int (a:Int)),some (.ref c.length),v]) hN v5 (fun x hx v=>by
  refine ⟨[some (.int N),some (.lst (PR f)),v2,some (.int (a:Int)),some (.ref c.length),some (.int (x:Nat))],rfl,some (.int (x:Nat)),?_⟩
  have hval:(dCB qcu (qa0 (qaO (qaD (qa0 (dVar 0) dNil)) [none,some 0,some 5,some 1,some 3] (qa5 0) dYes (qa7 4 qcw (qa0 (dVar 1) (qa0 (dBin ixD (dBin ixD (dVar 3) (dVar 4)) (dVar 2)) (qa0 (dVar 0) (qa0 (dC (.int 1)) dNil)))))) dNil)) [some (.int N),some (.lst (PR f)),v2,some (.int (a:Int)),some (.ref c.length),some (.int (x:Nat))] (c ++ [.lst ((qcD f a).take x)])=.ok (.tup ((List.range f.q).map fun y=>D.int (sF f a x y:Nat))) (c ++ [.lst ((qcD f a).take x)]):=by
   refine tcomp (N:=N) (n:=f.q) (E:=[some (.int N),some (.int (x:Nat)),some (.lst (PR f)),some (.int (a:Int))]) (fun y=>D.int (sF f a x y:Nat)) rfl hN (by omega) rfl fun y hy=>?_
   have r1:(PR f)[a]? = some (.lst (prRow f a)):=by unfold PR; rw [List.getElem?_map,List.getElem?_range ha2]; rfl
   have r2:(prRow f a)[x]? = some (.int (M f a x:Nat)):=by unfold prRow; rw [List.getElem?_map,List.getElem?_range hx]; rfl
   have i1:=ix_l (N:=(a:Int)) rfl r1 (c ++ [.lst ((qcD f a).take x)])
   have i2:=ix_l (N:=(x:Int)) rfl r2 (c ++ [.lst ((qcD f a).take x)])
   have hs:=lsum_A h (M f a x) y (c ++ [.lst ((qcD f a).take x)])
   rw [← hN] at hs
   exact call_gen4 (m:=qcw) (d1:=dVar 1) (d3:=dVar 0) (d4:=dC (.int 1)) rfl (qcp (f:=ixD) (qcp (f:=ixD) (d1:=dVar 3) (d2:=dVar 4) rfl rfl i1) (d2:=dVar 2) rfl i2) rfl rfl hs
  have hap:=qe6 (c:=c) (acc:=(qcD f a).take x) (dO:=dVar 4) (e:=[some (.int N),some (.lst (PR f)),v2,some (.int (a:Int)),some (.ref c.length),some (.int (x:Nat))]) rfl hval (by rw [← nD_map]; exact nr_row _) (by rw [qgh (by omega)]; simp; omega)
  unfold fsI
  rw [qe7,hap,R.bind_ok]
  have ht:(qcD f a).take x ++ [D.tup ((List.range f.q).map fun y=>D.int (sF f a x y:Nat))]=(qcD f a).take (x + 1):=by
   rw [qgh (by omega),qgh (by omega),List.range_succ,List.map_append,← nD_map]
   rfl
  rw [ht])
 have hz:(qcD f a).take 0=[]:=rfl
 have hw:(qcD f a).take f.q=qcD f a:=List.take_of_length_le (by unfold qcD; simp)
 rw [hz,hw] at this
 exact this
def junk (f:Fd) (k:Nat):LC:=(List.range k).map fun a=>Cell.lst (qcD f (1 + a))
def fsC (f:Fd) (c:LC) (k:Nat):LC:=c ++ .lst ((List.range k).map fun a=>sqD f.q (sF f (1 + a))) :: junk f k
theorem fsO_ok {f:Fd} (h:f∈fds) {N:Int} (hN:N=f.q) (c:LC) (v3 v4 v5:Option D):∃ w,forD (fun _=>True) (qa5 3) fsO (rngD 1 N) [some (.int N),some (.lst (PR f)),some (.ref c.length),v3,v4,v5] (c ++ [.lst []])=.ok (.nx ([some (.int N),some (.lst (PR f)),some (.ref c.length)] ++ w)) (fsC f c (f.q - 1)):=by
 have hq:=q500 h
 have q2:=(qcW h).q2
 have hl:(rngD 1 N).length=f.q - 1:=by rw [rng_i]; simp; omega
 have:=qe5 (st:=fun _=>True) (g:=qa5 3) (s:=fsO) (fsC f c) (fun _ (w:Option D×Option D×Option D)=>[some (.int N),some (.lst (PR f)),some (.ref c.length),w.1,w.2.1,w.2.2]) (rngD 1 N) 0 (v3,v4,v5) (fun _ _=>trivial) (fun k x hx w=>by
  have hk:k < f.q - 1:=by rw [← hl]; exact (List.getElem?_eq_some_iff.mp hx).1
  have hx':x=.int (((1 + k:Nat)):Int):=by
   rw [rng_i,List.getElem?_map,List.getElem?_range (by omega)] at hx
   have:D.int (1 + (k:Int))=x:=by simpa using hx
   rw [← this]
   congr 1
  subst hx'
  refine ⟨[some (.int N),some (.lst (PR f)),some (.ref c.length),some (.int (((1 + k:Nat)):Int)),w.2.1,w.2.2],rfl,?_⟩
  have e0:sSet 4 (qdV dNil) [some (.int N),some (.lst (PR f)),some (.ref c.length),some (.int (((1 + k:Nat)):Int)),w.2.1,w.2.2] (fsC f c k)=.ok (.nx [some (.int N),some (.lst (PR f)),some (.ref c.length),some (.int (((1 + k:Nat)):Int)),some (.ref (fsC f c k).length),w.2.2]) (fsC f c k ++ [.lst []]):=by
   simp [qam]
  obtain ⟨v,e1⟩:=fsI_ok h (a:=1 + k) (by omega) (by omega) hN (fsC f c k) (some (.ref c.length)) w.2.2
  have h1:qaD (qa0 (dVar 0) dNil) [some (.int N),some (.lst (PR f)),some (.ref c.length),some (.int (((1 + k:Nat)):Int)),some (.ref (fsC f c k).length),w.2.2] (fsC f c k ++ [.lst []])=.ok ⟨rngD 0 N,fun _=>True⟩ (fsC f c k ++ [.lst []]):=by
   unfold qaD
   simp only [qba,qcC,gz,qcd,R.bind_ok]
   rw [if_pos (by omega)]
  have e1':sFor (qaD (qa0 (dVar 0) dNil)) (qa5 5) fsI [some (.int N),some (.lst (PR f)),some (.ref c.length),some (.int (((1 + k:Nat)):Int)),some (.ref (fsC f c k).length),w.2.2] (fsC f c k ++ [.lst []])=.ok (.nx [some (.int N),some (.lst (PR f)),some (.ref c.length),some (.int (((1 + k:Nat)):Int)),some (.ref (fsC f c k).length),v]) (fsC f c k ++ [.lst (qcD f (1 + k))]):=by
   rw [qfz,h1,R.bind_ok]
   exact e1
  have hrow:(fsC f c k ++ [Cell.lst (qcD f (1 + k))])[(fsC f c k).length]? = some (.lst (qcD f (1 + k))):=by simp
  have htup:dCB qcu (qa0 (dVar 4) dNil) [some (.int N),some (.lst (PR f)),some (.ref c.length),some (.int (((1 + k:Nat)):Int)),some (.ref (fsC f c k).length),v] (fsC f c k ++ [.lst (qcD f (1 + k))])=.ok (sqD f.q (sF f (1 + k))) (fsC f c k ++ [.lst (qcD f (1 + k))]):=by
   refine cb1 (d1:=dVar 4) (x:=.ref (fsC f c k).length) rfl ?_
   unfold qcu seqD
   simp only [hrow]
   rfl
  have hfnd:(fsC f c k ++ [Cell.lst (qcD f (1 + k))])[c.length]? = some (.lst ((List.range k).map fun a=>sqD f.q (sF f (1 + a)))):=by
   unfold fsC
   simp
  have hap:=app_at (dO:=dVar 2) (e:=[some (.int N),some (.lst (PR f)),some (.ref c.length),some (.int (((1 + k:Nat)):Int)),some (.ref (fsC f c k).length),v]) rfl htup hfnd (nr_sq _ _) (by simp; omega)
  have hset:(fsC f c k ++ [Cell.lst (qcD f (1 + k))]).set c.length (.lst (((List.range k).map fun a=>sqD f.q (sF f (1 + a))) ++ [sqD f.q (sF f (1 + k))]))=fsC f c (k + 1):=by
   unfold fsC junk
   rw [List.append_assoc,List.set_append_right _ _ (Nat.le_refl _),Nat.sub_self,List.range_succ,List.map_append,List.map_append]
   rfl
  rw [hset] at hap
  refine ⟨(some (.int (((1 + k:Nat)):Int)),some (.ref (fsC f c k).length),v),?_⟩
  unfold fsO
  rw [Nat.zero_add]
  rw [qaV e0,qaV e1',qe7,hap]
  rfl)
 obtain ⟨w,hw⟩:=this
 refine ⟨[w.1,w.2.1,w.2.2],?_⟩
 rw [Nat.zero_add,hl] at hw
 exact hw
theorem lfs_ok {f:Fd} (h:f∈fds) {N:Int} (hN:N=f.q) (h7:N≤7) (c:LC):qaR [.int N] c=.ok (.lst (FS f)) c:=by
 obtain ⟨w,hf⟩:=fsO_ok h hN c none none none
 have hp:=prods_ok h c
 rw [← hN] at hp
 have e0:sSet 1 (qa7 1 qaN (qa0 (dVar 0) dNil)) [some (.int N),none,none,none,none,none] c=.ok (.nx [some (.int N),some (.lst (PR f)),none,none,none,none]) c:=qgg (i:=1) (qdI (m:=qaN) (d1:=dVar 0) rfl hp)
 have e1:sSet 2 (qdV dNil) [some (.int N),some (.lst (PR f)),none,none,none,none] c=.ok (.nx [some (.int N),some (.lst (PR f)),some (.ref c.length),none,none,none]) (c ++ [.lst []]):=by simp [qam]
 have h1:qfs (qa0 (dC (.int 1)) (qa0 (dVar 0) dNil)) [some (.int N),some (.lst (PR f)),some (.ref c.length),none,none,none] (c ++ [.lst []])=.ok ⟨rngD 1 N,fun _=>True⟩ (c ++ [.lst []]):=by
  have q2:=(qcW h).q2
  simp
  omega
 have e2:sFor (qfs (qa0 (dC (.int 1)) (qa0 (dVar 0) dNil))) (qa5 3) fsO [some (.int N),some (.lst (PR f)),some (.ref c.length),none,none,none] (c ++ [.lst []])=.ok (.nx ([some (.int N),some (.lst (PR f)),some (.ref c.length)] ++ w)) (fsC f c (f.q - 1)):=by
  rw [qfz,h1,R.bind_ok]
  exact hf
 have hb:qau=sSeq (sSet 1 (qa7 1 qaN (qa0 (dVar 0) dNil))) (sSeq (sSet 2 (qdV dNil)) (sSeq (sFor (qfs (qa0 (dC (.int 1)) (qa0 (dVar 0) dNil))) (qa5 3) fsO) (sRet (dVar 2)))):=rfl
 show fnD 6 false qau [.int N] c=_
 unfold fnD
 rw [show qbx 6 [D.int N]=[some (.int N),none,none,none,none,none] from rfl,hb,qaV e0,qaV e1,qaV e2]
 have e3:sRet (dVar 2) ([some (.int N),some (.lst (PR f)),some (.ref c.length)] ++ w) (fsC f c (f.q - 1))=.ok (.rt (.ref c.length)) (fsC f c (f.q - 1)):=rfl
 rw [e3,R.bind_ok]
 dsimp only
 unfold qcG
 dsimp only
 have hg:(fsC f c (f.q - 1))[c.length]? = some (.lst (FS f)):=by unfold fsC FS; simp
 have ht:(fsC f c (f.q - 1)).take c.length=c:=by unfold fsC; simp
 rw [hg]
 dsimp only
 rw [if_pos (Nat.le_refl _),if_neg (by decide),ht]
end Ev
namespace Ev
open PySem L2 Fq
theorem qg5:∀ l:List D,List.zipWith (fun x y=>D.tup [x,y]) l l=l.map fun a=>.tup [a,a]
 | []=>rfl
 | a :: l=>by rw [List.zipWith_cons_cons,qg5 l,List.map_cons]
theorem same_refG {n k:Nat} {c:LC} {l:List D} (hc:c[k]? = some (.lst l)) (h:∀ d∈l,qad n [d,d] c=.ok (.bl true) c) (hl:l.length < sizeLine):qad (n + 1) [.ref k,.lst l] c=.ok (.bl true) c:=by
 have hlst:lstD c (.ref k)=some l:=by unfold lstD; dsimp only; rw [hc]
 have hseq:seqD c (.ref k)=some l:=by unfold seqD; dsimp only; rw [hc]
 have hc':=qdm (c:=c) (g:=qeR 2 (qc4 (qa5 0) (qc4 (qa5 1) qfm))) (t:=dYes) (a:=qa7 2 (qad n) (qa0 (dVar 0) (qa0 (dVar 1) dNil))) (fun c'=>qfC c (.ref k) c'∧qfC c (.lst l) c') ⟨rfl,trivial⟩
  (fun e=>∃ v w,e=[v,w]) (fun _=>true) (fun _=>.bl true) (l.map fun a=>.tup [a,a]) [none,none] [] ⟨_,_,rfl⟩ (fun x hx e ⟨v,w,he⟩=>by
   obtain ⟨d,hd,rfl⟩:=List.mem_map.mp hx
   subst he
   refine ⟨[some d,some d],by simp,⟨_,_,rfl⟩,rfl,fun _=>?_⟩
   simp [h d hd])
 rw [qfo,List.nil_append] at hc'
 have ha:=all_bl c (l.map fun a=>D.tup [a,a]) (fun _=>true)
 have hlen:lenD [.ref k] c=.ok (.int l.length) c:=by unfold lenD; simp [hseq]
 have i1:isiD [.ref k,.ty "tuple"] c=.ok (.bl false) c:=by simp [isiD,tyD,subT]
 have i2:isiD [.ref k,.ty "list"] c=.ok (.bl true) c:=by simp [isiD,tyD,subT]
 show fnD 2 false (qb1 (qad n)) [.ref k,.lst l] c=_
 simp [qb1,qd3,hl,hlst,qg5,hlen,i1,i2]
 rw [hc']
 simp only [R.bind_ok]
 rw [ha]
 simp
theorem same_tupG {n:Nat} {c:LC} {l:List D} (h:∀ d∈l,qad n [d,d] c=.ok (.bl true) c) (hl:l.length < sizeLine):qad (n + 1) [.tup l,.tup l] c=.ok (.bl true) c:=by
 have hc':=qdm (c:=c) (g:=qeR 2 (qc4 (qa5 0) (qc4 (qa5 1) qfm))) (t:=dYes) (a:=qa7 2 (qad n) (qa0 (dVar 0) (qa0 (dVar 1) dNil))) (fun _=>True) trivial
  (fun e=>∃ v w,e=[v,w]) (fun _=>true) (fun _=>.bl true) (l.map fun a=>.tup [a,a]) [none,none] [] ⟨_,_,rfl⟩ (fun x hx e ⟨v,w,he⟩=>by
   obtain ⟨d,hd,rfl⟩:=List.mem_map.mp hx
   subst he
   refine ⟨[some d,some d],by simp,⟨_,_,rfl⟩,rfl,fun _=>?_⟩
   simp [h d hd])
 rw [qfo,List.nil_append] at hc'
 have ha:=all_bl c (l.map fun a=>D.tup [a,a]) (fun _=>true)
 show fnD 2 false (qb1 (qad n)) [.tup l,.tup l] c=_
 simp [qb1,qd3,hl,qg5]
 rw [hc']
 simp only [R.bind_ok]
 rw [ha]
 simp
theorem same_sq {n:Nat} {s:Nat→Nat→Nat} (hn:n≤100) (c:LC):qad 3 [sqD n s,sqD n s] c=.ok (.bl true) c:=by
 have sz:=sizeH
 refine same_tupG (fun d hd=>?_) (by simp; omega)
 obtain ⟨i,_,rfl⟩:=List.mem_map.mp hd
 refine same_tupG (fun d hd=>?_) (by simp [nD]; omega)
 obtain ⟨j,_,rfl⟩:=List.mem_map.mp hd
 exact same_flat rfl 0 c
theorem same_FS {f:Fd} (h:f∈fds) {k:Nat} {c:LC} (hc:c[k]? = some (.lst (FS f))):qad 4 [.ref k,.lst (FS f)] c=.ok (.bl true) c:=by
 have sz:=sizeH
 have hq:=q500 h
 refine same_refG hc (fun d hd=>?_) (by rw [FS_len]; omega)
 obtain ⟨i,_,rfl⟩:=List.mem_map.mp hd
 exact same_sq (by omega) c
theorem len_sq (n:Nat) (s:Nat→Nat→Nat) (c:LC):lenD [sqD n s] c=.ok (.int (n:Int)) c:=by
 unfold sqD
 simp
theorem sign_ok {n i:Nat} (s:Nat→Nat→Nat) (h1:1≤n) (h7:n≤7) (hi:i < n * n) {I:Int} (hI:I=i) (c:LC):qbm [sqD n s,.int I] c=.ok (.int (s (i / n) (i % n):Nat)) c:=by
 have hd:i / n < n:=Nat.div_lt_of_lt_mul hi
 have hm:i % n < n:=Nat.mod_lt _ (by omega)
 refine qfL (n:=2) (b:=qcZ) ?_ rfl (fun k h=>by cases h)
 unfold qcZ
 refine qeu ?_
 have e:qbx 2 [sqD n s,.int I]=[some (sqD n s),some (.int I)]:=rfl
 rw [e]
 have hl:dCB lenD (qa0 (dVar 0) dNil) [some (sqD n s),some (.int I)] c=.ok (.int (n:Int)) c:=cb1 (d1:=dVar 0) rfl (len_sq n s c)
 have hdv:divD (.int I) (.int (n:Int)) c=.ok (.int (((i / n:Nat)):Int)) c:=by
  rw [div_c c (by omega) (by omega),hI]
  rfl
 have hmd:modD (.int I) (.int (n:Int)) c=.ok (.int (((i % n:Nat)):Int)) c:=by
  rw [qfG c (by omega),hI]
  rfl
 have r1:((List.range n).map fun i=>D.tup (nD ((List.range n).map (s i))))[i / n]? = some (.tup (nD ((List.range n).map (s (i / n))))):=by rw [List.getElem?_map,List.getElem?_range hd]; rfl
 have r2:(nD ((List.range n).map (s (i / n))))[i % n]? = some (.int (s (i / n) (i % n):Nat)):=by rw [nD_map,List.getElem?_map,List.getElem?_range hm]; rfl
 exact qcp (f:=ixD) (qcp (f:=ixD) (d1:=dVar 0) rfl (qcp (f:=divD) (d1:=dVar 1) rfl hl hdv) (ix_t rfl r1 c)) (qcp (f:=modD) (d1:=dVar 1) rfl hl hmd) (ix_t rfl r2 c)
theorem qfn:∀ (l r:List (List Int)),(r ++ l).Nodup→l.foldl qdZ r=r ++ l
 | [],r,_=>by simp
 | k :: l,r,h=>by
  have hk:k∉r:=fun hm=>by
   rw [List.nodup_append] at h
   exact h.2.2 k hm k (.head _) rfl
  rw [List.foldl_cons,show qdZ r k=r ++ [k] by unfold qdZ; rw [if_neg hk],qfn l (r ++ [k]) (by rw [List.append_assoc]; exact h),List.append_assoc]
  rfl
def prK (n:Nat) (s s':Nat→Nat→Nat) (i:Nat):List Int:=[((s (i / n) (i % n):Nat):Int),((s' (i / n) (i % n):Nat):Int)]
def prV (n:Nat) (s s':Nat→Nat→Nat) (i:Nat):D:=.tup [.int (s (i / n) (i % n):Nat),.int (s' (i / n) (i % n):Nat)]
structure Acr (n:Nat) (s s':Nat→Nat→Nat):Prop where
 one:∀ x y,x < n→y < n→s x y < 8
 two:∀ x y,x < n→y < n→s' x y < 8
 nd:((List.range (n * n)).map (prK n s s')).Nodup
theorem prs_map {n:Nat} {s s':Nat→Nat→Nat} (A:Acr n s s'):∀ l:List Nat,(∀ i∈l,i < n * n)→prsD (l.map (prV n s s'))=some (l.map (prK n s s'))
 | [],_=>rfl
 | i :: l,h=>by
  have hi:=h i (.head _)
  have h0:0 < n:=by rcases Nat.eq_zero_or_pos n with e | e; (subst e; simp at hi); exact e
  have a1:=A.one (i / n) (i % n) (Nat.div_lt_of_lt_mul hi) (Nat.mod_lt _ h0)
  have a2:=A.two (i / n) (i % n) (Nat.div_lt_of_lt_mul hi) (Nat.mod_lt _ h0)
  have hp:prD (prV n s s' i)=some (prK n s s' i):=by
   unfold prD prV prK
   dsimp only
   rw [if_pos (by omega)]
  rw [List.map_cons,List.map_cons]
  unfold prsD
  rw [hp,prs_map A l fun j hj=>h j (.tail _ hj)]
theorem mul_small {m q:Int} (h0:0≤m) (h1:m < 1000) (hq:q=m * m) (c:LC):mulD (.int m) (.int m) c=.ok (.int q) c:=by
 unfold mulD
 dsimp only
 rw [if_pos (by omega),hq]
theorem ne_self (N:Int) (c:LC):neD (.int N) (.int N) c=.ok (.bl false) c:=by simp
theorem eq_self (N:Int) (c:LC):eqD (.int N) (.int N) c=.ok (.bl true) c:=by simp
theorem lie_ok {n:Nat} {s s':Nat→Nat→Nat} (h1:1≤n) (h7:n≤7) (A:Acr n s s') (c:LC):qcv [sqD n s,sqD n s'] c=.ok (.bl true) c:=by
 have hnn:n * n≤49:=Nat.mul_le_mul h7 h7
 refine qfL (n:=3) (b:=qbE) ?_ rfl (fun k h=>by cases h)
 obtain ⟨Q,hQ⟩:∃ Q:Int,Q=((n * n:Nat):Int):=⟨_,rfl⟩
 have hml:mulD (.int (n:Int)) (.int (n:Int)) c=.ok (.int Q) c:=by
  rw [hQ]
  exact mul_small (m:=(n:Int)) (by omega) (by omega) (by simp) c
 have e0:sSet 2 (dBin mulD (dCB lenD (qa0 (dVar 0) dNil)) (dCB lenD (qa0 (dVar 0) dNil))) [some (sqD n s),some (sqD n s'),none] c=.ok (.nx [some (sqD n s),some (sqD n s'),some (.int Q)]) c:=qgg (i:=2) (qcp (f:=mulD) (cb1 (d1:=dVar 0) rfl (len_sq n s c)) (cb1 (d1:=dVar 0) rfl (len_sq n s c)) hml)
 have t2:(2:Nat)≤sizeLine:=by decide
 have hc:=lcomp (d:=dVar 2) (a:=dTup (qa0 (qa7 2 qbm (qa0 (dVar 1) (qa0 (dVar 0) dNil))) (qa0 (qa7 2 qbm (qa0 (dVar 2) (qa0 (dVar 0) dNil))) dNil))) (pick:=[none,some 0,some 1]) (e:=[some (sqD n s),some (sqD n s'),some (.int Q)]) (E:=[some (sqD n s),some (sqD n s')]) (c:=c) (N:=Q) (n:=n * n) (prV n s s') rfl hQ (by omega) rfl (fun i hi=>by
  have g1:=qdo (m:=qbm) (d1:=dVar 1) (d2:=dVar 0) (e:=[some (.int (i:Int)),some (sqD n s),some (sqD n s')]) rfl rfl (sign_ok s h1 h7 hi rfl c)
  have g2:=qdo (m:=qbm) (d1:=dVar 2) (d2:=dVar 0) (e:=[some (.int (i:Int)),some (sqD n s),some (sqD n s')]) rfl rfl (sign_ok s' h1 h7 hi rfl c)
  simp only [x_tup,qba,g1,g2,qcd,R.bind_ok]
  rw [if_pos (by exact t2)]
  rfl)
 have hp:=prs_map A (List.range (n * n)) fun i hi=>List.mem_range.mp hi
 have hf:qcx ((List.range (n * n)).map (prK n s s'))=(List.range (n * n)).map (prK n s s'):=qfn _ [] (by simpa using A.nd)
 have hs:qdN (qa0 (qaO (qaD (qa0 (dVar 2) dNil)) [none,some 0,some 1] (qa5 0) dYes (dTup (qa0 (qa7 2 qbm (qa0 (dVar 1) (qa0 (dVar 0) dNil))) (qa0 (qa7 2 qbm (qa0 (dVar 2) (qa0 (dVar 0) dNil))) dNil)))) dNil) [some (sqD n s),some (sqD n s'),some (.int Q)] c=.ok (.int Q) c:=by
  unfold qdN
  simp only [qba,hc,qcd,R.bind_ok,lstD,hp,hf,List.length_map,List.length_range]
  rw [if_pos (by omega),hQ]
 have hb:qbE=sSeq (sSet 2 (dBin mulD (dCB lenD (qa0 (dVar 0) dNil)) (dCB lenD (qa0 (dVar 0) dNil)))) (sRet (dBin eqD (qdN (qa0 (qaO (qaD (qa0 (dVar 2) dNil)) [none,some 0,some 1] (qa5 0) dYes (dTup (qa0 (qa7 2 qbm (qa0 (dVar 1) (qa0 (dVar 0) dNil))) (qa0 (qa7 2 qbm (qa0 (dVar 2) (qa0 (dVar 0) dNil))) dNil)))) dNil)) (dVar 2))):=rfl
 rw [show qbx 3 [sqD n s,sqD n s']=[some (sqD n s),some (sqD n s'),none] from rfl,hb,qaV e0]
 exact qeu (qcp (f:=eqD) hs (d2:=dVar 2) (y:=.int Q) rfl (eq_self Q c))
theorem acr_ok {n:Nat} {s s':Nat→Nat→Nat} (h1:1≤n) (h7:n≤7) (L:Latin n s) (L':Latin n s') (A:Acr n s s') (c:LC):qds [sqD n s,sqD n s'] c=.ok (.bl true) c:=by
 have r1:∀ {s:Nat→Nat→Nat},Latin n s→qan [sqD n s] c=.ok .non c:=fun L=>by simp [qan,qb0,square_ok L h1 h7 c]
 refine qfL (n:=2) (b:=qdv) ?_ rfl (fun k h=>by cases h)
 have e0:qc9 (qa7 1 qan (qa0 (dVar 0) dNil)) [some (sqD n s),some (sqD n s')] c=.ok (.nx [some (sqD n s),some (sqD n s')]) c:=by
  rw [qe7,qdI (m:=qan) (d1:=dVar 0) rfl (r1 L)]; rfl
 have e1:qc9 (qa7 1 qan (qa0 (dVar 1) dNil)) [some (sqD n s),some (sqD n s')] c=.ok (.nx [some (sqD n s),some (sqD n s')]) c:=by
  rw [qe7,qdI (m:=qan) (d1:=dVar 1) rfl (r1 L')]; rfl
 have e2:sIf (dBl (dBin neD (dCB lenD (qa0 (dVar 0) dNil)) (dCB lenD (qa0 (dVar 1) dNil)))) sBad qb5 [some (sqD n s),some (sqD n s')] c=.ok (.nx [some (sqD n s),some (sqD n s')]) c:=by
  rw [x_if,x_bl,qcp (f:=neD) (cb1 (d1:=dVar 0) rfl (len_sq n s c)) (cb1 (d1:=dVar 1) rfl (len_sq n s' c)) (ne_self _ c)]
  rfl
 have hb:qdv=sSeq (qc9 (qa7 1 qan (qa0 (dVar 0) dNil))) (sSeq (qc9 (qa7 1 qan (qa0 (dVar 1) dNil))) (sSeq (sIf (dBl (dBin neD (dCB lenD (qa0 (dVar 0) dNil)) (dCB lenD (qa0 (dVar 1) dNil)))) sBad qb5) (sRet (qa7 2 qcv (qa0 (dVar 0) (qa0 (dVar 1) dNil)))))):=rfl
 rw [show qbx 2 [sqD n s,sqD n s']=[some (sqD n s),some (sqD n s')] from rfl,hb,qaV e0,qaV e1,qaV e2]
 exact qeu (qdo (m:=qcv) (d1:=dVar 0) (d2:=dVar 1) rfl rfl (lie_ok h1 h7 A c))
def ltn (n:Nat) (s:Nat→Nat→Nat):Bool:=(List.range n).all fun i=>decide (((List.range n).map (s i)).Nodup) && decide (((List.range n).map fun j=>s j i).Nodup) && (List.range n).all fun j=>Nat.blt (s i j) n
def cde (n:Nat) (s s':Nat→Nat→Nat) (i:Nat):Nat:=8 * s (i / n) (i % n) + s' (i / n) (i % n)
def okF (f:Fd):Bool:=(List.range (f.q - 1)).all fun a=>ltn f.q (sF f (1 + a)) && (List.range a).all fun b=>decide (((List.range (f.q * f.q)).map (cde f.q (sF f (1 + a)) (sF f (1 + b)))).Nodup)
theorem all_okF:((fds.filter fun f=>Nat.ble f.q 7).all okF)=true:=by decide +kernel
theorem okF_of {f:Fd} (h:f∈fds) (h7:f.q≤7):okF f=true:=List.all_eq_true.mp all_okF f (List.mem_filter.mpr ⟨h,Nat.ble_eq_true_of_le h7⟩)
theorem ltn_latin {n:Nat} {s:Nat→Nat→Nat} (h:ltn n s=true):Latin n s∧∀ x y,x < n→y < n→s x y < n:=by
 have h:=List.all_eq_true.mp h
 have hb:∀ x y,x < n→y < n→s x y < n:=fun x y hx hy=>by
  have:=h x (List.mem_range.mpr hx)
  simp only [Bool.and_eq_true,List.all_eq_true] at this
  have h3:=this.2 y (List.mem_range.mpr hy)
  exact Nat.lt_of_lt_of_le (Nat.lt_succ_self _) (Nat.le_of_ble_eq_true h3)
 refine ⟨⟨fun i hi=>?_,fun i hi=>?_⟩,hb⟩
 ·have:=h i (List.mem_range.mpr hi)
  simp only [Bool.and_eq_true,decide_eq_true_eq] at this
  exact qec this.1.1 (fun x hx=>by
   obtain ⟨j,hj,rfl⟩:=List.mem_map.mp hx
   exact List.mem_range.mpr (hb i j hi (List.mem_range.mp hj))) (by simp)
 ·have:=h i (List.mem_range.mpr hi)
  simp only [Bool.and_eq_true,decide_eq_true_eq] at this
  exact qec this.1.2 (fun x hx=>by
   obtain ⟨j,hj,rfl⟩:=List.mem_map.mp hx
   exact List.mem_range.mpr (hb j i (List.mem_range.mp hj) hi)) (by simp)
theorem fields_acr {f:Fd} (h:f∈fds) (h7:f.q≤7) {a b:Nat} (ha:a < f.q - 1) (hb:b < a) (c:LC):qds [sqD f.q (sF f (1 + a)),sqD f.q (sF f (1 + b))] c=.ok (.bl true) c:=by
 have q2:=(qcW h).q2
 have ho:=List.all_eq_true.mp (okF_of h h7)
 have oa:=ho a (List.mem_range.mpr ha)
 have ob:=ho b (List.mem_range.mpr (by omega))
 rw [Bool.and_eq_true] at oa ob
 obtain ⟨la,ba⟩:=ltn_latin oa.1
 obtain ⟨lb,bb⟩:=ltn_latin ob.1
 have hn:=of_decide_eq_true (List.all_eq_true.mp oa.2 b (List.mem_range.mpr hb))
 refine acr_ok (by omega) h7 la lb ⟨fun x y hx hy=>by have:=ba x y hx hy; omega,fun x y hx hy=>by have:=bb x y hx hy; omega,?_⟩ c
 refine List.pairwise_map.mpr ((List.pairwise_map.mp hn).imp fun {i j} hne e=>hne ?_)
 unfold prK at e
 unfold cde
 injection e with e1 e2
 injection e2 with e2 _
 have e1:sF f (1 + a) (i / f.q) (i % f.q)=sF f (1 + a) (j / f.q) (j % f.q):=by omega
 have e2:sF f (1 + b) (i / f.q) (i % f.q)=sF f (1 + b) (j / f.q) (j % f.q):=by omega
 rw [e1,e2]
end Ev
namespace Ev
open PySem L2 Fq
def five:D:=.tup [.int 2,.int 3,.int 4,.int 5,.int 7]
theorem in_five (i:Int) (c:LC):inD (.int i) five c=.ok (.bl (decide (i∈[2,3,4,5,7]))) c:=by
 have h1:datC c (.int i)=some (.int i):=rfl
 have h2:datC c five=some (.tuple [.int 2,.int 3,.int 4,.int 5,.int 7]):=rfl
 unfold inD
 rw [h1,h2]
 dsimp only
 rw [if_pos (by simp [PyData.depth])]
 congr 2
 simp [PyData.eqv,eq_comm]
 by_cases e2:i=2 <;> by_cases e3:i=3 <;> by_cases e4:i=4 <;> by_cases e5:i=5 <;> by_cases e7:i=7 <;> simp [e2,e3,e4,e5,e7] <;> omega
structure NotF (X:D):Prop where
 no:∀ c,qaC [X] c=.ok (.bl false) c∨(qaC [X] c=.ok (.bl true) c∧∃ i,X=.int i∧7 < i)
 out:∀ c,qar [X] c=.ok (.bl false) c∨(qar [X] c=.ok (.bl true) c∧inD X five c=.ok (.bl false) c)
def IsF (X:D):Prop:=∃ f∈fds,f.q≤7∧X=.int (f.q:Int)∧(f.q:Int)∈[(2:Int),3,4,5,7]
def chkI (i:Int):Bool:=if decide (i∈[(2:Int),3,4,5,7]) then fds.any (fun f=>decide ((f.q:Int)=i)) else match tabF qcb i with
 | none=>true
 | some _=>decide (7 < i)
theorem qdd {i:Int} (h:chkI i=true):IsF (.int i)∨NotF (.int i):=by
 unfold chkI at h
 split at h
 ·rename_i hm
  obtain ⟨f,hf,e⟩:=List.any_eq_true.mp h
  have e:=of_decide_eq_true e
  have hm:=of_decide_eq_true hm
  refine .inl ⟨f,hf,?_,by rw [e],by rw [e]; exact hm⟩
  rw [← e] at hm
  simp only [List.mem_cons,List.not_mem_nil,or_false] at hm
  omega
 ·rename_i hm
  have hm:decide (i∈[(2:Int),3,4,5,7])=false:=by simpa using hm
  refine .inr ⟨fun c=>?_,fun c=>.inr ⟨qeq i c,by rw [in_five,hm]⟩⟩
  split at h
  ·rename_i ht
   exact .inl (by simp [qaC,qbO,qe8,ht])
  ·rename_i ht
   exact .inr ⟨by simp [qaC,qbO,qe8,ht],i,rfl,of_decide_eq_true h⟩
theorem qgm {X:D} (h1:∀ c,qaY [X] c=.ok (.bl false) c) (h2:∀ c,qar [X] c=.ok (.bl false) c):NotF X :=
 ⟨fun c=>.inl (by simp [qaC,qbO,h1]),fun c=>.inl (h2 c)⟩
def l14 (x:Int):List D:=[.int 2,.int 3,.int 4,.int 5,.int 7,.int x,.int 16,.int 49,.bl true,.non,.str "4",.tup [.int 3],.int (-3),.int (10 ^ 20)]
theorem l14_cls {x:Int} (x0:0≤x) (x1:x < 14):∀ X∈l14 x,IsF X∨NotF X:=by
 intro X hX
 simp only [l14,List.mem_cons,List.not_mem_nil,or_false] at hX
 rcases hX with rfl | rfl | rfl | rfl | rfl | rfl | rfl | rfl | rfl | rfl | rfl | rfl | rfl | rfl
 ·exact qdd (by decide +kernel)
 ·exact qdd (by decide +kernel)
 ·exact qdd (by decide +kernel)
 ·exact qdd (by decide +kernel)
 ·exact qdd (by decide +kernel)
 ·have hx:x=0∨x=1∨x=2∨x=3∨x=4∨x=5∨x=6∨x=7∨x=8∨x=9∨x=10∨x=11∨x=12∨x=13:=by omega
  rcases hx with rfl | rfl | rfl | rfl | rfl | rfl | rfl | rfl | rfl | rfl | rfl | rfl | rfl | rfl <;> exact qdd (by decide +kernel)
 ·exact qdd (by decide +kernel)
 ·exact qdd (by decide +kernel)
 ·exact .inr (qgm (fun c=>by simp [qaY,qbg]) (fun c=>by simp [qar,qb8]))
 ·exact .inr (qgm (fun c=>by simp [qaY,qbg]) (fun c=>by simp [qar,qb8]))
 ·exact .inr (qgm (fun c=>by simp [qaY,qbg]) (fun c=>by simp [qar,qb8]))
 ·have tu:∀ c l,isiD [.tup l,.ty "int"] c=.ok (.bl false) c:=fun _ _=>rfl
  exact .inr (qgm (fun c=>by simp [qaY,qbg,tu]) (fun c=>by simp [qar,qb8,tu]))
 ·exact qdd (by decide +kernel)
 ·exact qdd (by decide +kernel)
def DatOk (k:Nat) (d:D):Prop:=∃ p,datD d=some p∧p.depth≤k
theorem dats_ok {k:Nat}:∀ {l:List D},(∀ d∈l,DatOk k d)→∃ r,qdU l=some r∧PyData.depthAll r≤k
 | [],_=>⟨[],rfl,by simp [PyData.depthAll]⟩
 | d :: l,h=>by
  obtain ⟨p,e,hp⟩:=h d (.head _)
  obtain ⟨r,e2,hr⟩:=dats_ok fun d hd=>h d (.tail _ hd)
  refine ⟨p :: r,?_,?_⟩
  ·unfold qdU; rw [e,e2]
  ·unfold PyData.depthAll; omega
theorem dat_tup {k:Nat} {l:List D} (h:∀ d∈l,DatOk k d):DatOk (k + 1) (.tup l):=by
 obtain ⟨r,e,hr⟩:=dats_ok h
 refine ⟨.tuple r,?_,?_⟩
 ·unfold datD; rw [e]
 ·unfold PyData.depth; omega
theorem dat_FS (f:Fd):∀ d∈FS f,DatOk 2 d:=fun d hd=>by
 obtain ⟨k,_,rfl⟩:=List.mem_map.mp hd
 refine dat_tup fun d hd=>?_
 obtain ⟨k,_,rfl⟩:=List.mem_map.mp hd
 refine dat_tup fun d hd=>?_
 obtain ⟨k,_,rfl⟩:=List.mem_map.mp hd
 exact ⟨_,rfl,by simp [PyData.depth]⟩
theorem nev_FS (f:Fd) (c:LC):nevD (.lst (FS f)) (.str "field") c=.ok (.bl true) c:=by
 obtain ⟨r,e,hr⟩:=dats_ok (dat_FS f)
 have hs:PyData.strOk "field"=true:=by decide +kernel
 have h1:datC c (.lst (FS f))=some (.list r):=by
  show (match qdU (FS f) with | some r=>some (PyData.list r) | none=>none)=_
  rw [e]
 have h2:datC c (.str "field")=some (.str "field"):=by
  show (if PyData.strOk "field"=true then some (PyData.str "field") else none)=_
  rw [if_pos hs]
 unfold nevD
 rw [h1,h2]
 dsimp only
 rw [if_pos ⟨by unfold PyData.depth; omega,by simp [PyData.depth]⟩]
 simp [PyData.eqv]
theorem nev_ff (c:LC):nevD (.str "field") (.str "field") c=.ok (.bl false) c:=by
 have hs:PyData.strOk "field"=true:=by decide +kernel
 simp [nevD,datC,datD,PyData.depth,PyData.eqv,hs]
def oq0:dF:=(sSet 2 (qa7 1 qdl (qa0 (qa7 2 qbL (qa0 (dVar 0) (qa0 (dVar 1) dNil))) dNil)))
def oq1:dF:=(sSet 3 (dBin ixD (dLst (qa0 (dC (.int 2)) (qa0 (dC (.int 3)) (qa0 (dC (.int 4)) (qa0 (dC (.int 5)) (qa0 (dC (.int 7)) (qa0 (qa7 2 qc3 (qa0 (dVar 2) (qa0 (dC (.int 14)) dNil))) (qa0 (dC (.int 16)) (qa0 (dC (.int 49)) (qa0 (dC (.bl true)) (qa0 (dC .non) (qa0 (dC (.str "4")) (qa0 (dTup (qa0 (dC (.int 3)) dNil)) (qa0 (dBin subD (dC (.int 0)) (dC (.int 3))) (qa0 (dBin powD (dC (.int 10)) (dC (.int 20))) dNil))))))))))))))) (qa7 2 qc3 (qa0 (dVar 2) (qa0 (dC (.int 14)) dNil)))))
def oq2:dF:=(sSet 4 (dC (.str "field")))
def oq3:dF:=(sIf (dAndT (dBl (qa7 1 qar (qa0 (dVar 3) dNil))) (dBl (dBin inD (dVar 3) (dTup (qa0 (dC (.int 2)) (qa0 (dC (.int 3)) (qa0 (dC (.int 4)) (qa0 (dC (.int 5)) (qa0 (dC (.int 7)) dNil))))))))) (sSet 4 (qa7 1 qaR (qa0 (dVar 3) dNil))) qb5)
def oq4:dF:=(sSet 5 (qa7 1 qbr (qa0 (dVar 3) dNil)))
def oq5:dF:=(sIf (qca (dBl (qa7 2 (qad 4) (qa0 (dVar 5) (qa0 (dVar 4) dNil))))) (sRet (dC (.bl false))) qb5)
def fbB:dF:=(sIf (qca (dBl (dCB allD (qa0 (qaO (qaD (qa0 (dVar 6) dNil)) [none,some 5,some 6] (qa5 0) dYes (qa7 2 qds (qa0 (dBin ixD (dVar 1) (dVar 2)) (qa0 (dBin ixD (dVar 1) (dVar 0)) dNil)))) dNil)))) (sRet (dC (.bl false))) qb5)
def oq6:dF:=(sIf (dBl (dBin nevD (dVar 4) (dC (.str "field")))) (sSeq (sFor (qaD (qa0 (dCB lenD (qa0 (dVar 5) dNil)) dNil)) (qa5 6) fbB) (sSeq (qc9 (qbC (dVar 5) (dTup dNil))) (sIf (qca (dBl (qa7 2 (qad 4) (qa0 (qa7 1 qbr (qa0 (dVar 3) dNil)) (qa0 (dVar 4) dNil))))) (sRet (dC (.bl false))) qb5))) qb5)
def qfR:dF:=sSeq oq0 (sSeq oq1 (sSeq oq2 (sSeq oq3 (sSeq oq4 (sSeq oq5 oq6)))))
theorem at_mem {l:List D} {x:Int} (h0:0≤x) (h1:x < l.length):∃ X∈l,∀ c,ixD (.lst l) (.int x) c=.ok X c:=by
 obtain ⟨q,rfl⟩:∃ q:Nat,x=q:=⟨x.toNat,by omega⟩
 have hq:q < l.length:=by omega
 exact ⟨l[q],List.getElem_mem hq,fun c=>ix_l rfl (List.getElem?_eq_getElem hq) c⟩
theorem s1 {j n:Nat} {c:LC} (h:Pot j n c) (a0 a1 v3 v4 v5 v6:Option D):∃ X c',(IsF X∨NotF X)∧Pot j n c'∧oq1 [a0,a1,some (.ref j),v3,v4,v5,v6] c=.ok (.nx [a0,a1,some (.ref j),some X,v4,v5,v6]) c':=by
 have sz:=sizeH
 obtain ⟨x,c1,x0,x1,P1,t1⟩:=take_ok (far:=14) h (by decide) (by decide)
 obtain ⟨y,c2,y0,y1,P2,t2⟩:=take_ok (far:=14) P1 (by decide) (by decide)
 obtain ⟨X,hX,hx⟩:=at_mem (l:=l14 x) y0 (by show y < 14; omega)
 refine ⟨X,c2,l14_cls x0 x1 X hX,P2,?_⟩
 have hl:(dLst (qa0 (dC (.int 2)) (qa0 (dC (.int 3)) (qa0 (dC (.int 4)) (qa0 (dC (.int 5)) (qa0 (dC (.int 7)) (qa0 (qa7 2 qc3 (qa0 (dVar 2) (qa0 (dC (.int 14)) dNil))) (qa0 (dC (.int 16)) (qa0 (dC (.int 49)) (qa0 (dC (.bl true)) (qa0 (dC .non) (qa0 (dC (.str "4")) (qa0 (dTup (qa0 (dC (.int 3)) dNil)) (qa0 (dBin subD (dC (.int 0)) (dC (.int 3))) (qa0 (dBin powD (dC (.int 10)) (dC (.int 20))) dNil))))))))))))))) [a0,a1,some (.ref j),v3,v4,v5,v6] c=.ok (.lst (l14 x)) c1:=by
  have hpw:∀ c,powD (.int 10) (.int 20) c=.ok (.int (10 ^ 20)) c:=fun _=>rfl
  have t14:(14:Nat)≤sizeLine:=by decide
  have tt:(1:Nat)≤sizeLine:=by decide
  simp [l14,hpw,t14,tt,t1]
 unfold oq1
 rw [x_set,qfA,hl,R.bind_ok]
 simp [t2,hx]
theorem fb_loop {f:Fd} (h:f∈fds) (h7:f.q≤7) {r:Nat} {c:LC} (hc:c[r]? = some (.lst (FS f))) {N:Int} (hN:N=((f.q - 1:Nat):Int)) (a0 a1 a2 a3 a4 v6:Option D):∃ v,forD (fun _=>True) (qa5 6) fbB (rngD 0 N) [a0,a1,a2,a3,a4,some (.ref r),v6] c=.ok (.nx [a0,a1,a2,a3,a4,some (.ref r),v]) c:=by
 have q2:=(qcW h).q2
 have:=qe4 (g:=qa5 6) (s:=fbB) (fun _=>c) (fun _ (v:Option D)=>[a0,a1,a2,a3,a4,some (.ref r),v]) hN v6 (fun a ha v=>by
  refine ⟨[a0,a1,a2,a3,a4,some (.ref r),some (.int (a:Nat))],rfl,some (.int (a:Nat)),?_⟩
  have hat:∀ b,b < f.q - 1→(FS f)[b]? = some (sqD f.q (sF f (1 + b))):=fun b hb=>by unfold FS; rw [List.getElem?_map,List.getElem?_range hb]; rfl
  have hcm:=lcomp (d:=dVar 6) (a:=qa7 2 qds (qa0 (dBin ixD (dVar 1) (dVar 2)) (qa0 (dBin ixD (dVar 1) (dVar 0)) dNil))) (pick:=[none,some 5,some 6]) (e:=[a0,a1,a2,a3,a4,some (.ref r),some (.int (a:Nat))]) (E:=[some (.ref r),some (.int (a:Nat))]) (c:=c) (N:=(a:Int)) (n:=a) (fun _=>D.bl true) rfl rfl (by omega) rfl (fun b hb=>by
   refine qdo (m:=qds) (qcp (f:=ixD) (d1:=dVar 1) (d2:=dVar 2) rfl rfl (ix_r rfl hc (hat a ha))) (qcp (f:=ixD) (d1:=dVar 1) (d2:=dVar 0) rfl rfl (ix_r rfl hc (hat b (by omega)))) (fields_acr h h7 ha hb c))
  have hal:allD [.lst ((List.range a).map fun _=>D.bl true)] c=.ok (.bl true) c:=by
   have:=all_id ((List.range a).map fun _=>true) c
   rw [List.map_map,qgK] at this
   exact this
  unfold fbB
  rw [x_if,x_notT,x_bl,cb1 hcm hal]
  rfl)
 exact this
theorem rng_len1 {N:Int} {e:Ev} {c:LC} {d:yD} (hd:d e c=.ok (.int N) c) (h:0≤N∧N < 1000):qaD (qa0 d dNil) e c=.ok ⟨rngD 0 N,fun _=>True⟩ c:=by
 unfold qaD
 simp only [qba,hd,qcd,R.bind_ok]
 rw [if_pos (by omega)]
theorem len_r {k:Nat} {c:LC} {l:List D} (hc:c[k]? = some (.lst l)) {N:Int} (hN:N=l.length):lenD [.ref k] c=.ok (.int N) c:=by
 have hseq:seqD c (.ref k)=some l:=by unfold seqD; dsimp only; rw [hc]
 unfold lenD
 simp [hseq,hN]
theorem test_in {X:D} {b:Bool} {c:LC} (h:(qar [X] c=.ok (.bl false) c∧b=false)∨(qar [X] c=.ok (.bl true) c∧inD X five c=.ok (.bl b) c)) (a0 a1 a2 a4 a5 a6:Option D) :
  (dAndT (dBl (qa7 1 qar (qa0 (dVar 3) dNil))) (dBl (dBin inD (dVar 3) (dTup (qa0 (dC (.int 2)) (qa0 (dC (.int 3)) (qa0 (dC (.int 4)) (qa0 (dC (.int 5)) (qa0 (dC (.int 7)) dNil))))))))) [a0,a1,a2,some X,a4,a5,a6] c=.ok b c:=by
 have t5:(5:Nat)≤sizeLine:=by decide
 rcases h with ⟨h,rfl⟩ | ⟨h,hi⟩
 ·simp [h]
 ·unfold five at hi
  simp [h,t5,hi]
theorem outer_ok {ns:List Int} {i:Int} (hi:0≤i) (c:LC) (v2 v3 v4 v5 v6:Option D) :
  ∃ e' c',(∃ w1 w2 w3 w4 w5 w6,e'=[some (.scr ns),w1,w2,w3,w4,w5,w6])∧qfR [some (.scr ns),some (.int i),v2,v3,v4,v5,v6] c=.ok (.nx e') c':=by
 obtain ⟨x,hx⟩:=cell_ok ns i hi c
 obtain ⟨p0,hp⟩:=pot_ok x c
 have P0:Pot c.length (c.length + 1) (c ++ [.lst [.int p0]]):=⟨by simp,by omega,p0,by simp⟩
 have e0:oq0 [some (.scr ns),some (.int i),v2,v3,v4,v5,v6] c=.ok (.nx [some (.scr ns),some (.int i),some (.ref c.length),v3,v4,v5,v6]) (c ++ [.lst [.int p0]]):=by simp [oq0,hx,hp]
 obtain ⟨X,c1,hX,P1,e1⟩:=s1 P0 (some (.scr ns)) (some (.int i)) v3 v4 v5 v6
 have e2:oq2 [some (.scr ns),some (.int i),some (.ref c.length),some X,v4,v5,v6] c1=.ok (.nx [some (.scr ns),some (.int i),some (.ref c.length),some X,some (.str "field"),v5,v6]) c1:=rfl
 rcases hX with ⟨f,hf,h7,rfl,hm⟩ | hN
 ·have q2:=(qcW hf).q2
  obtain ⟨N,hN⟩:∃ N:Int,N=(f.q:Int):=⟨_,rfl⟩
  rw [← hN] at e1 e2 hm
  have hin:inD (.int N) five c1=.ok (.bl true) c1:=by rw [in_five,decide_eq_true hm]
  have e3:oq3 [some (.scr ns),some (.int i),some (.ref c.length),some (.int N),some (.str "field"),v5,v6] c1=.ok (.nx [some (.scr ns),some (.int i),some (.ref c.length),some (.int N),some (.lst (FS f)),v5,v6]) c1:=by
   unfold oq3
   rw [x_if,test_in (.inr ⟨qeq N c1,hin⟩),R.bind_ok,if_pos rfl]
   exact qgg (i:=4) (qdI (m:=qaR) (d1:=dVar 3) rfl (lfs_ok hf hN (by omega) c1))
  have ht:=told_yes hf hN (by omega) c1
  have e4:oq4 [some (.scr ns),some (.int i),some (.ref c.length),some (.int N),some (.lst (FS f)),v5,v6] c1=.ok (.nx [some (.scr ns),some (.int i),some (.ref c.length),some (.int N),some (.lst (FS f)),some (.ref c1.length),v6]) (c1 ++ [.lst (FS f)]):=by
   simp [oq4,ht]
  have hc2:(c1 ++ [Cell.lst (FS f)])[c1.length]? = some (.lst (FS f)):=by simp
  have e5:oq5 [some (.scr ns),some (.int i),some (.ref c.length),some (.int N),some (.lst (FS f)),some (.ref c1.length),v6] (c1 ++ [.lst (FS f)])=.ok (.nx [some (.scr ns),some (.int i),some (.ref c.length),some (.int N),some (.lst (FS f)),some (.ref c1.length),v6]) (c1 ++ [.lst (FS f)]):=by
   unfold oq5
   rw [x_if,x_notT,x_bl,qdo (m:=qad 4) (d1:=dVar 5) (d2:=dVar 4) rfl rfl (same_FS hf hc2)]
   rfl
  obtain ⟨M,hM⟩:∃ M:Int,M=((f.q - 1:Nat):Int):=⟨_,rfl⟩
  obtain ⟨v,hfor⟩:=fb_loop hf h7 hc2 hM (some (.scr ns)) (some (.int i)) (some (.ref c.length)) (some (.int N)) (some (.lst (FS f))) v6
  have hln:=rng_len1 (N:=M) (d:=dCB lenD (qa0 (dVar 5) dNil)) (e:=[some (.scr ns),some (.int i),some (.ref c.length),some (.int N),some (.lst (FS f)),some (.ref c1.length),v6]) (cb1 (d1:=dVar 5) rfl (len_r hc2 (by rw [hM,FS_len]))) (by omega)
  have g0:sFor (qaD (qa0 (dCB lenD (qa0 (dVar 5) dNil)) dNil)) (qa5 6) fbB [some (.scr ns),some (.int i),some (.ref c.length),some (.int N),some (.lst (FS f)),some (.ref c1.length),v6] (c1 ++ [.lst (FS f)])=.ok (.nx [some (.scr ns),some (.int i),some (.ref c.length),some (.int N),some (.lst (FS f)),some (.ref c1.length),v]) (c1 ++ [.lst (FS f)]):=by
   rw [qfz,hln,R.bind_ok]
   exact hfor
  have htn:dTup dNil [some (.scr ns),some (.int i),some (.ref c.length),some (.int N),some (.lst (FS f)),some (.ref c1.length),v] (c1 ++ [.lst (FS f)])=.ok (.tup []) (c1 ++ [.lst (FS f)]):=by simp
  have hap:=app_at (dO:=dVar 5) (e:=[some (.scr ns),some (.int i),some (.ref c.length),some (.int N),some (.lst (FS f)),some (.ref c1.length),v]) rfl htn hc2 rfl (by rw [FS_len]; omega)
  generalize (c1 ++ [Cell.lst (FS f)]).set c1.length (.lst (FS f ++ [.tup []]))=c3 at hap
  have g1:qc9 (qbC (dVar 5) (dTup dNil)) [some (.scr ns),some (.int i),some (.ref c.length),some (.int N),some (.lst (FS f)),some (.ref c1.length),v] (c1 ++ [.lst (FS f)])=.ok (.nx [some (.scr ns),some (.int i),some (.ref c.length),some (.int N),some (.lst (FS f)),some (.ref c1.length),v]) c3:=by
   rw [qe7,hap]; rfl
  have ht3:=told_yes hf hN (by omega) c3
  have hc4:(c3 ++ [Cell.lst (FS f)])[c3.length]? = some (.lst (FS f)):=by simp
  have hsm:=same_FS hf hc4
  have g2:sIf (qca (dBl (qa7 2 (qad 4) (qa0 (qa7 1 qbr (qa0 (dVar 3) dNil)) (qa0 (dVar 4) dNil))))) (sRet (dC (.bl false))) qb5 [some (.scr ns),some (.int i),some (.ref c.length),some (.int N),some (.lst (FS f)),some (.ref c1.length),v] c3=.ok (.nx [some (.scr ns),some (.int i),some (.ref c.length),some (.int N),some (.lst (FS f)),some (.ref c1.length),v]) (c3 ++ [.lst (FS f)]):=by
   simp [ht3,hsm]
  have e6:oq6 [some (.scr ns),some (.int i),some (.ref c.length),some (.int N),some (.lst (FS f)),some (.ref c1.length),v6] (c1 ++ [.lst (FS f)])=.ok (.nx [some (.scr ns),some (.int i),some (.ref c.length),some (.int N),some (.lst (FS f)),some (.ref c1.length),v]) (c3 ++ [.lst (FS f)]):=by
   have hb:oq6=sIf (dBl (dBin nevD (dVar 4) (dC (.str "field")))) (sSeq (sFor (qaD (qa0 (dCB lenD (qa0 (dVar 5) dNil)) dNil)) (qa5 6) fbB) (sSeq (qc9 (qbC (dVar 5) (dTup dNil))) (sIf (qca (dBl (qa7 2 (qad 4) (qa0 (qa7 1 qbr (qa0 (dVar 3) dNil)) (qa0 (dVar 4) dNil))))) (sRet (dC (.bl false))) qb5))) qb5:=rfl
   rw [hb,x_if,x_bl,qcp (f:=nevD) (d1:=dVar 4) (d2:=dC (.str "field")) rfl rfl (nev_FS f _)]
   dsimp only [R.bind]
   rw [if_pos rfl,qaV g0,qaV g1,g2]
  refine ⟨_,c3 ++ [.lst (FS f)],⟨some (.int i),some (.ref c.length),some (.int N),some (.lst (FS f)),some (.ref c1.length),v,rfl⟩,?_⟩
  ·unfold qfR
   rw [qaV e0,qaV e1,qaV e2,qaV e3,qaV e4,qaV e5,e6]
 ·have e3:oq3 [some (.scr ns),some (.int i),some (.ref c.length),some X,some (.str "field"),v5,v6] c1=.ok (.nx [some (.scr ns),some (.int i),some (.ref c.length),some X,some (.str "field"),v5,v6]) c1:=by
   unfold oq3
   rw [x_if,test_in (b:=false) ((hN.out c1).imp (fun h=>⟨h,rfl⟩) id),R.bind_ok]
   rfl
  have ht:=told_no (hN.no c1)
  have e4:oq4 [some (.scr ns),some (.int i),some (.ref c.length),some X,some (.str "field"),v5,v6] c1=.ok (.nx [some (.scr ns),some (.int i),some (.ref c.length),some X,some (.str "field"),some (.str "field"),v6]) c1:=by simp [oq4,ht]
  have hsm:qad 4 [.str "field",.str "field"] c1=.ok (.bl true) c1:=same_flat rfl 3 c1
  have e5:oq5 [some (.scr ns),some (.int i),some (.ref c.length),some X,some (.str "field"),some (.str "field"),v6] c1=.ok (.nx [some (.scr ns),some (.int i),some (.ref c.length),some X,some (.str "field"),some (.str "field"),v6]) c1:=by simp [oq5,hsm]
  have e6:oq6 [some (.scr ns),some (.int i),some (.ref c.length),some X,some (.str "field"),some (.str "field"),v6] c1=.ok (.nx [some (.scr ns),some (.int i),some (.ref c.length),some X,some (.str "field"),some (.str "field"),v6]) c1:=by
   unfold oq6
   rw [x_if,x_bl,qcp (f:=nevD) (d1:=dVar 4) (d2:=dC (.str "field")) rfl rfl (nev_ff c1)]
   rfl
  refine ⟨_,c1,⟨some (.int i),some (.ref c.length),some X,some (.str "field"),some (.str "field"),v6,rfl⟩,?_⟩
  ·unfold qfR
   rw [qaV e0,qaV e1,qaV e2,qaV e3,qaV e4,qaV e5,e6]
theorem law_main (ns:List Int) (hl:ns.length≤63):∃ c,m_law [.scr ns] []=.ok (.bl true) c:=by
 generalize hm:(if (if (8:Int) < ns.length then (8:Int) else ns.length) > 1 then (if (8:Int) < ns.length then (8:Int) else ns.length) else 1)=m
 have hb:-4611686018427387904≤m∧m < 4611686018427387904:=by
  rw [← hm]
  split <;> (try split) <;> omega
 obtain ⟨e',c',⟨w1,w2,w3,w4,w5,w6,rfl⟩,hf⟩:=for_any (g:=qa5 1) (s:=qfR)
  (fun e=>∃ w1 w2 w3 w4 w5 w6,e=[some (.scr ns),w1,w2,w3,w4,w5,w6]) (rngD 0 m) [some (.scr ns),none,none,none,none,none,none] [] ⟨_,_,_,_,_,_,rfl⟩ (fun t ht e c ⟨w1,w2,w3,w4,w5,w6,he⟩=>by
   subst he
   obtain ⟨i,rfl,i0,i1⟩:=qgs ht
   obtain ⟨e',c',ie,ho⟩:=outer_ok (ns:=ns) i0 c w2 w3 w4 w5 w6
   exact ⟨_,e',_,c',rfl,ho,ie⟩)
 have hb2:b_law=sSeq (sFor (qaD (qa0 (dCB max2D (qa0 (dC (.int 1)) (qa0 (dCB min2D (qa0 (dCB lenD (qa0 (dVar 0) dNil)) (qa0 (dC (.int 8)) dNil))) dNil))) dNil)) (qa5 1) qfR) (sRet (dC (.bl true))):=rfl
 have hsr:(qaD (qa0 (dCB max2D (qa0 (dC (.int 1)) (qa0 (dCB min2D (qa0 (dCB lenD (qa0 (dVar 0) dNil)) (qa0 (dC (.int 8)) dNil))) dNil))) dNil)) [some (.scr ns),none,none,none,none,none,none] []=.ok ⟨rngD 0 m,fun _=>True⟩ []:=by
  simp
  simp only [gt_iff_lt] at hm
  rw [hm,if_pos (by omega)]
 have e1:sFor (qaD (qa0 (dCB max2D (qa0 (dC (.int 1)) (qa0 (dCB min2D (qa0 (dCB lenD (qa0 (dVar 0) dNil)) (qa0 (dC (.int 8)) dNil))) dNil))) dNil)) (qa5 1) qfR [some (.scr ns),none,none,none,none,none,none] []=.ok (.nx [some (.scr ns),w1,w2,w3,w4,w5,w6]) c':=by
  rw [qfz,hsr,R.bind_ok]
  exact hf
 refine ⟨c'.take 0,?_⟩
 unfold m_law fnD
 rw [show qbx 7 [D.scr ns]=[some (.scr ns),none,none,none,none,none,none] from rfl,hb2,qaV e1]
 rfl
end Ev
namespace Ev
open PySem L2 PyProof.Rows
theorem all_mk {l:PySem.W.OpenLaw} {w:World} {K:PySem.W.Frag} {h:Heap} {mg:Str→Option Value} {fa:Addr} {f_is_whole f_is_whole_within f_is_field f_require_field f_require_things f_row_of f_number_of f_added f_times_letter f_multiplied f_holds_each_once f_column_of f_is_square f_require_square f_sign_in f_lie_across f_across f_field_row f_field_square f_field_squares f_law_cell_at f_law_pot f_law_take f_law_whole f_law_same f_law_kind_of f_law_prime f_law_degree f_law_row f_law_number f_law_sums_product f_law_heads f_law_form f_law_product f_law_sum f_law_products_of f_law_field_squares f_law_told f_law:Addr} (X:K.In h) (G:h.Ns mainGlobals mg) (hfa:mg "law"=some (.ref fa))
  {od_is_whole an_is_whole od_is_whole_within an_is_whole_within od_is_field an_is_field od_require_field an_require_field od_require_things an_require_things od_row_of an_row_of od_number_of an_number_of od_added an_added od_times_letter an_times_letter od_multiplied an_multiplied od_holds_each_once an_holds_each_once od_column_of an_column_of od_is_square an_is_square od_require_square an_require_square od_sign_in an_sign_in od_lie_across an_lie_across od_across an_across od_field_row an_field_row od_field_square an_field_square od_field_squares an_field_squares od_law_cell_at an_law_cell_at od_law_pot an_law_pot od_law_take an_law_take od_law_whole an_law_whole od_law_same an_law_same od_law_kind_of an_law_kind_of od_law_prime an_law_prime od_law_degree an_law_degree od_law_row an_law_row od_law_number an_law_number od_law_sums_product an_law_sums_product od_law_heads an_law_heads od_law_form an_law_form od_law_product an_law_product od_law_sum an_law_sum od_law_products_of an_law_products_of od_law_field_squares an_law_field_squares od_law_told an_law_told od_law an_law:Option Addr} {sl_is_whole sl_is_whole_within sl_is_field sl_require_field sl_require_things sl_row_of sl_number_of sl_added sl_times_letter sl_multiplied sl_holds_each_once sl_column_of sl_is_square sl_require_square sl_sign_in sl_lie_across sl_across sl_field_row sl_field_square sl_field_squares sl_law_cell_at sl_law_pot sl_law_take sl_law_whole sl_law_same sl_law_kind_of sl_law_prime sl_law_degree sl_law_row sl_law_number sl_law_sums_product sl_law_heads sl_law_form sl_law_product sl_law_sum sl_law_products_of sl_law_field_squares sl_law_told sl_law:Array (Option Value)} {oc_is_whole kV_is_whole dc_is_whole pm_is_whole cd_is_whole ct_is_whole oc_is_whole_within kV_is_whole_within dc_is_whole_within pm_is_whole_within cd_is_whole_within ct_is_whole_within oc_is_field kV_is_field dc_is_field pm_is_field cd_is_field ct_is_field oc_require_field kV_require_field dc_require_field pm_require_field cd_require_field ct_require_field oc_require_things kV_require_things dc_require_things pm_require_things cd_require_things ct_require_things oc_row_of kV_row_of dc_row_of pm_row_of cd_row_of ct_row_of oc_number_of kV_number_of dc_number_of pm_number_of cd_number_of ct_number_of oc_added kV_added dc_added pm_added cd_added ct_added oc_times_letter kV_times_letter dc_times_letter pm_times_letter cd_times_letter ct_times_letter oc_multiplied kV_multiplied dc_multiplied pm_multiplied cd_multiplied ct_multiplied oc_holds_each_once kV_holds_each_once dc_holds_each_once pm_holds_each_once cd_holds_each_once ct_holds_each_once oc_column_of kV_column_of dc_column_of pm_column_of cd_column_of ct_column_of oc_is_square kV_is_square dc_is_square pm_is_square cd_is_square ct_is_square oc_require_square kV_require_square dc_require_square pm_require_square cd_require_square ct_require_square oc_sign_in kV_sign_in dc_sign_in pm_sign_in cd_sign_in ct_sign_in oc_lie_across kV_lie_across dc_lie_across pm_lie_across cd_lie_across ct_lie_across oc_across kV_across dc_across pm_across cd_across ct_across oc_field_row kV_field_row dc_field_row pm_field_row cd_field_row ct_field_row oc_field_square kV_field_square dc_field_square pm_field_square cd_field_square ct_field_square oc_field_squares kV_field_squares dc_field_squares pm_field_squares cd_field_squares ct_field_squares oc_law_cell_at kV_law_cell_at dc_law_cell_at pm_law_cell_at cd_law_cell_at ct_law_cell_at oc_law_pot kV_law_pot dc_law_pot pm_law_pot cd_law_pot ct_law_pot oc_law_take kV_law_take dc_law_take pm_law_take cd_law_take ct_law_take oc_law_whole kV_law_whole dc_law_whole pm_law_whole cd_law_whole ct_law_whole oc_law_same kV_law_same dc_law_same pm_law_same cd_law_same ct_law_same oc_law_kind_of kV_law_kind_of dc_law_kind_of pm_law_kind_of cd_law_kind_of ct_law_kind_of oc_law_prime kV_law_prime dc_law_prime pm_law_prime cd_law_prime ct_law_prime oc_law_degree kV_law_degree dc_law_degree pm_law_degree cd_law_degree ct_law_degree oc_law_row kV_law_row dc_law_row pm_law_row cd_law_row ct_law_row oc_law_number kV_law_number dc_law_number pm_law_number cd_law_number ct_law_number oc_law_sums_product kV_law_sums_product dc_law_sums_product pm_law_sums_product cd_law_sums_product ct_law_sums_product oc_law_heads kV_law_heads dc_law_heads pm_law_heads cd_law_heads ct_law_heads oc_law_form kV_law_form dc_law_form pm_law_form cd_law_form ct_law_form oc_law_product kV_law_product dc_law_product pm_law_product cd_law_product ct_law_product oc_law_sum kV_law_sum dc_law_sum pm_law_sum cd_law_sum ct_law_sum oc_law_products_of kV_law_products_of dc_law_products_of pm_law_products_of cd_law_products_of ct_law_products_of oc_law_field_squares kV_law_field_squares dc_law_field_squares pm_law_field_squares cd_law_field_squares ct_law_field_squares oc_law_told kV_law_told dc_law_told pm_law_told cd_law_told ct_law_told oc_law kV_law dc_law pm_law cd_law ct_law:Value}
  (a_is_whole:PySem.W.nsIn K mainGlobals "is_whole"=some (some (.ref f_is_whole))) (l_is_whole:K.lookup f_is_whole=some ⟨oc_is_whole,od_is_whole,.func (PySem.W.fnOf "is_whole" "is_whole" (qaj qcL) (qaf qcL) (qa4 qcL) .none kV_is_whole dc_is_whole pm_is_whole an_is_whole cd_is_whole ct_is_whole),sl_is_whole⟩) (c_is_whole:PySem.W.codeIn K cd_is_whole "is_whole"=true) (k_is_whole:PySem.W.keepIn K (.ref f_is_whole)=true)
  (a_is_whole_within:PySem.W.nsIn K mainGlobals "is_whole_within"=some (some (.ref f_is_whole_within))) (l_is_whole_within:K.lookup f_is_whole_within=some ⟨oc_is_whole_within,od_is_whole_within,.func (PySem.W.fnOf "is_whole_within" "is_whole_within" (qaj qaL) (qaf qaL) (qa4 qaL) .none kV_is_whole_within dc_is_whole_within pm_is_whole_within an_is_whole_within cd_is_whole_within ct_is_whole_within),sl_is_whole_within⟩) (c_is_whole_within:PySem.W.codeIn K cd_is_whole_within "is_whole_within"=true) (k_is_whole_within:PySem.W.keepIn K (.ref f_is_whole_within)=true)
  (a_is_field:PySem.W.nsIn K mainGlobals "is_field"=some (some (.ref f_is_field))) (l_is_field:K.lookup f_is_field=some ⟨oc_is_field,od_is_field,.func (PySem.W.fnOf "is_field" "is_field" (qaj qcM) (qaf qcM) (qa4 qcM) .none kV_is_field dc_is_field pm_is_field an_is_field cd_is_field ct_is_field),sl_is_field⟩) (c_is_field:PySem.W.codeIn K cd_is_field "is_field"=true) (k_is_field:PySem.W.keepIn K (.ref f_is_field)=true)
  (a_require_field:PySem.W.nsIn K mainGlobals "require_field"=some (some (.ref f_require_field))) (l_require_field:K.lookup f_require_field=some ⟨oc_require_field,od_require_field,.func (PySem.W.fnOf "require_field" "require_field" (qaj qbc) (qaf qbc) (qa4 qbc) .none kV_require_field dc_require_field pm_require_field an_require_field cd_require_field ct_require_field),sl_require_field⟩) (c_require_field:PySem.W.codeIn K cd_require_field "require_field"=true) (k_require_field:PySem.W.keepIn K (.ref f_require_field)=true)
  (a_require_things:PySem.W.nsIn K mainGlobals "require_things"=some (some (.ref f_require_things))) (l_require_things:K.lookup f_require_things=some ⟨oc_require_things,od_require_things,.func (PySem.W.fnOf "require_things" "require_things" (qaj qaW) (qaf qaW) (qa4 qaW) .none kV_require_things dc_require_things pm_require_things an_require_things cd_require_things ct_require_things),sl_require_things⟩) (c_require_things:PySem.W.codeIn K cd_require_things "require_things"=true) (k_require_things:PySem.W.keepIn K (.ref f_require_things)=true)
  (a_row_of:PySem.W.nsIn K mainGlobals "row_of"=some (some (.ref f_row_of))) (l_row_of:K.lookup f_row_of=some ⟨oc_row_of,od_row_of,.func (PySem.W.fnOf "row_of" "row_of" (qaj qdJ) (qaf qdJ) (qa4 qdJ) .none kV_row_of dc_row_of pm_row_of an_row_of cd_row_of ct_row_of),sl_row_of⟩) (c_row_of:PySem.W.codeIn K cd_row_of "row_of"=true) (k_row_of:PySem.W.keepIn K (.ref f_row_of)=true)
  (a_number_of:PySem.W.nsIn K mainGlobals "number_of"=some (some (.ref f_number_of))) (l_number_of:K.lookup f_number_of=some ⟨oc_number_of,od_number_of,.func (PySem.W.fnOf "number_of" "number_of" (qaj qcg) (qaf qcg) (qa4 qcg) .none kV_number_of dc_number_of pm_number_of an_number_of cd_number_of ct_number_of),sl_number_of⟩) (c_number_of:PySem.W.codeIn K cd_number_of "number_of"=true) (k_number_of:PySem.W.keepIn K (.ref f_number_of)=true)
  (a_added:PySem.W.nsIn K mainGlobals "added"=some (some (.ref f_added))) (l_added:K.lookup f_added=some ⟨oc_added,od_added,.func (PySem.W.fnOf "added" "added" (qaj qet) (qaf qet) (qa4 qet) .none kV_added dc_added pm_added an_added cd_added ct_added),sl_added⟩) (c_added:PySem.W.codeIn K cd_added "added"=true) (k_added:PySem.W.keepIn K (.ref f_added)=true)
  (a_times_letter:PySem.W.nsIn K mainGlobals "times_letter"=some (some (.ref f_times_letter))) (l_times_letter:K.lookup f_times_letter=some ⟨oc_times_letter,od_times_letter,.func (PySem.W.fnOf "times_letter" "times_letter" (qaj qbo) (qaf qbo) (qa4 qbo) .none kV_times_letter dc_times_letter pm_times_letter an_times_letter cd_times_letter ct_times_letter),sl_times_letter⟩) (c_times_letter:PySem.W.codeIn K cd_times_letter "times_letter"=true) (k_times_letter:PySem.W.keepIn K (.ref f_times_letter)=true)
  (a_multiplied:PySem.W.nsIn K mainGlobals "multiplied"=some (some (.ref f_multiplied))) (l_multiplied:K.lookup f_multiplied=some ⟨oc_multiplied,od_multiplied,.func (PySem.W.fnOf "multiplied" "multiplied" (qaj qbY) (qaf qbY) (qa4 qbY) .none kV_multiplied dc_multiplied pm_multiplied an_multiplied cd_multiplied ct_multiplied),sl_multiplied⟩) (c_multiplied:PySem.W.codeIn K cd_multiplied "multiplied"=true) (k_multiplied:PySem.W.keepIn K (.ref f_multiplied)=true)
  (a_holds_each_once:PySem.W.nsIn K mainGlobals "holds_each_once"=some (some (.ref f_holds_each_once))) (l_holds_each_once:K.lookup f_holds_each_once=some ⟨oc_holds_each_once,od_holds_each_once,.func (PySem.W.fnOf "holds_each_once" "holds_each_once" (qaj qaM) (qaf qaM) (qa4 qaM) .none kV_holds_each_once dc_holds_each_once pm_holds_each_once an_holds_each_once cd_holds_each_once ct_holds_each_once),sl_holds_each_once⟩) (c_holds_each_once:PySem.W.codeIn K cd_holds_each_once "holds_each_once"=true) (k_holds_each_once:PySem.W.keepIn K (.ref f_holds_each_once)=true)
  (a_column_of:PySem.W.nsIn K mainGlobals "column_of"=some (some (.ref f_column_of))) (l_column_of:K.lookup f_column_of=some ⟨oc_column_of,od_column_of,.func (PySem.W.fnOf "column_of" "column_of" (qaj qcm) (qaf qcm) (qa4 qcm) .none kV_column_of dc_column_of pm_column_of an_column_of cd_column_of ct_column_of),sl_column_of⟩) (c_column_of:PySem.W.codeIn K cd_column_of "column_of"=true) (k_column_of:PySem.W.keepIn K (.ref f_column_of)=true)
  (a_is_square:PySem.W.nsIn K mainGlobals "is_square"=some (some (.ref f_is_square))) (l_is_square:K.lookup f_is_square=some ⟨oc_is_square,od_is_square,.func (PySem.W.fnOf "is_square" "is_square" (qaj qck) (qaf qck) (qa4 qck) .none kV_is_square dc_is_square pm_is_square an_is_square cd_is_square ct_is_square),sl_is_square⟩) (c_is_square:PySem.W.codeIn K cd_is_square "is_square"=true) (k_is_square:PySem.W.keepIn K (.ref f_is_square)=true)
  (a_require_square:PySem.W.nsIn K mainGlobals "require_square"=some (some (.ref f_require_square))) (l_require_square:K.lookup f_require_square=some ⟨oc_require_square,od_require_square,.func (PySem.W.fnOf "require_square" "require_square" (qaj qaX) (qaf qaX) (qa4 qaX) .none kV_require_square dc_require_square pm_require_square an_require_square cd_require_square ct_require_square),sl_require_square⟩) (c_require_square:PySem.W.codeIn K cd_require_square "require_square"=true) (k_require_square:PySem.W.keepIn K (.ref f_require_square)=true)
  (a_sign_in:PySem.W.nsIn K mainGlobals "sign_in"=some (some (.ref f_sign_in))) (l_sign_in:K.lookup f_sign_in=some ⟨oc_sign_in,od_sign_in,.func (PySem.W.fnOf "sign_in" "sign_in" (qaj qde) (qaf qde) (qa4 qde) .none kV_sign_in dc_sign_in pm_sign_in an_sign_in cd_sign_in ct_sign_in),sl_sign_in⟩) (c_sign_in:PySem.W.codeIn K cd_sign_in "sign_in"=true) (k_sign_in:PySem.W.keepIn K (.ref f_sign_in)=true)
  (a_lie_across:PySem.W.nsIn K mainGlobals "lie_across"=some (some (.ref f_lie_across))) (l_lie_across:K.lookup f_lie_across=some ⟨oc_lie_across,od_lie_across,.func (PySem.W.fnOf "lie_across" "lie_across" (qaj qbZ) (qaf qbZ) (qa4 qbZ) .none kV_lie_across dc_lie_across pm_lie_across an_lie_across cd_lie_across ct_lie_across),sl_lie_across⟩) (c_lie_across:PySem.W.codeIn K cd_lie_across "lie_across"=true) (k_lie_across:PySem.W.keepIn K (.ref f_lie_across)=true)
  (a_across:PySem.W.nsIn K mainGlobals "across"=some (some (.ref f_across))) (l_across:K.lookup f_across=some ⟨oc_across,od_across,.func (PySem.W.fnOf "across" "across" (qaj qdK) (qaf qdK) (qa4 qdK) .none kV_across dc_across pm_across an_across cd_across ct_across),sl_across⟩) (c_across:PySem.W.codeIn K cd_across "across"=true) (k_across:PySem.W.keepIn K (.ref f_across)=true)
  (a_field_row:PySem.W.nsIn K mainGlobals "field_row"=some (some (.ref f_field_row))) (l_field_row:K.lookup f_field_row=some ⟨oc_field_row,od_field_row,.func (PySem.W.fnOf "field_row" "field_row" (qaj qcl) (qaf qcl) (qa4 qcl) .none kV_field_row dc_field_row pm_field_row an_field_row cd_field_row ct_field_row),sl_field_row⟩) (c_field_row:PySem.W.codeIn K cd_field_row "field_row"=true) (k_field_row:PySem.W.keepIn K (.ref f_field_row)=true)
  (a_field_square:PySem.W.nsIn K mainGlobals "field_square"=some (some (.ref f_field_square))) (l_field_square:K.lookup f_field_square=some ⟨oc_field_square,od_field_square,.func (PySem.W.fnOf "field_square" "field_square" (qaj qbp) (qaf qbp) (qa4 qbp) .none kV_field_square dc_field_square pm_field_square an_field_square cd_field_square ct_field_square),sl_field_square⟩) (c_field_square:PySem.W.codeIn K cd_field_square "field_square"=true) (k_field_square:PySem.W.keepIn K (.ref f_field_square)=true)
  (a_field_squares:PySem.W.nsIn K mainGlobals "field_squares"=some (some (.ref f_field_squares))) (l_field_squares:K.lookup f_field_squares=some ⟨oc_field_squares,od_field_squares,.func (PySem.W.fnOf "field_squares" "field_squares" (qaj qbd) (qaf qbd) (qa4 qbd) .none kV_field_squares dc_field_squares pm_field_squares an_field_squares cd_field_squares ct_field_squares),sl_field_squares⟩) (c_field_squares:PySem.W.codeIn K cd_field_squares "field_squares"=true) (k_field_squares:PySem.W.keepIn K (.ref f_field_squares)=true)
  (a_law_cell_at:PySem.W.nsIn K mainGlobals "_law_cell_at"=some (some (.ref f_law_cell_at))) (l_law_cell_at:K.lookup f_law_cell_at=some ⟨oc_law_cell_at,od_law_cell_at,.func (PySem.W.fnOf "_law_cell_at" "_law_cell_at" (qaj qbI) (qaf qbI) (qa4 qbI) .none kV_law_cell_at dc_law_cell_at pm_law_cell_at an_law_cell_at cd_law_cell_at ct_law_cell_at),sl_law_cell_at⟩) (c_law_cell_at:PySem.W.codeIn K cd_law_cell_at "_law_cell_at"=true) (k_law_cell_at:PySem.W.keepIn K (.ref f_law_cell_at)=true)
  (a_law_pot:PySem.W.nsIn K mainGlobals "_law_pot"=some (some (.ref f_law_pot))) (l_law_pot:K.lookup f_law_pot=some ⟨oc_law_pot,od_law_pot,.func (PySem.W.fnOf "_law_pot" "_law_pot" (qaj qdh) (qaf qdh) (qa4 qdh) .none kV_law_pot dc_law_pot pm_law_pot an_law_pot cd_law_pot ct_law_pot),sl_law_pot⟩) (c_law_pot:PySem.W.codeIn K cd_law_pot "_law_pot"=true) (k_law_pot:PySem.W.keepIn K (.ref f_law_pot)=true)
  (a_law_take:PySem.W.nsIn K mainGlobals "_law_take"=some (some (.ref f_law_take))) (l_law_take:K.lookup f_law_take=some ⟨oc_law_take,od_law_take,.func (PySem.W.fnOf "_law_take" "_law_take" (qaj qcI) (qaf qcI) (qa4 qcI) .none kV_law_take dc_law_take pm_law_take an_law_take cd_law_take ct_law_take),sl_law_take⟩) (c_law_take:PySem.W.codeIn K cd_law_take "_law_take"=true) (k_law_take:PySem.W.keepIn K (.ref f_law_take)=true)
  (a_law_whole:PySem.W.nsIn K mainGlobals "_law_whole"=some (some (.ref f_law_whole))) (l_law_whole:K.lookup f_law_whole=some ⟨oc_law_whole,od_law_whole,.func (PySem.W.fnOf "_law_whole" "_law_whole" (qaj qch) (qaf qch) (qa4 qch) .none kV_law_whole dc_law_whole pm_law_whole an_law_whole cd_law_whole ct_law_whole),sl_law_whole⟩) (c_law_whole:PySem.W.codeIn K cd_law_whole "_law_whole"=true) (k_law_whole:PySem.W.keepIn K (.ref f_law_whole)=true)
  (a_law_same:PySem.W.nsIn K mainGlobals "_law_same"=some (some (.ref f_law_same))) (l_law_same:K.lookup f_law_same=some ⟨oc_law_same,od_law_same,.func (PySem.W.fnOf "_law_same" "_law_same" (qaj qcJ) (qaf qcJ) (qa4 qcJ) .none kV_law_same dc_law_same pm_law_same an_law_same cd_law_same ct_law_same),sl_law_same⟩) (c_law_same:PySem.W.codeIn K cd_law_same "_law_same"=true) (k_law_same:PySem.W.keepIn K (.ref f_law_same)=true)
  (a_law_kind_of:PySem.W.nsIn K mainGlobals "_law_kind_of"=some (some (.ref f_law_kind_of))) (l_law_kind_of:K.lookup f_law_kind_of=some ⟨oc_law_kind_of,od_law_kind_of,.func (PySem.W.fnOf "_law_kind_of" "_law_kind_of" (qaj qbH) (qaf qbH) (qa4 qbH) .none kV_law_kind_of dc_law_kind_of pm_law_kind_of an_law_kind_of cd_law_kind_of ct_law_kind_of),sl_law_kind_of⟩) (c_law_kind_of:PySem.W.codeIn K cd_law_kind_of "_law_kind_of"=true) (k_law_kind_of:PySem.W.keepIn K (.ref f_law_kind_of)=true)
  (a_law_prime:PySem.W.nsIn K mainGlobals "_law_prime"=some (some (.ref f_law_prime))) (l_law_prime:K.lookup f_law_prime=some ⟨oc_law_prime,od_law_prime,.func (PySem.W.fnOf "_law_prime" "_law_prime" (qaj qci) (qaf qci) (qa4 qci) .none kV_law_prime dc_law_prime pm_law_prime an_law_prime cd_law_prime ct_law_prime),sl_law_prime⟩) (c_law_prime:PySem.W.codeIn K cd_law_prime "_law_prime"=true) (k_law_prime:PySem.W.keepIn K (.ref f_law_prime)=true)
  (a_law_degree:PySem.W.nsIn K mainGlobals "_law_degree"=some (some (.ref f_law_degree))) (l_law_degree:K.lookup f_law_degree=some ⟨oc_law_degree,od_law_degree,.func (PySem.W.fnOf "_law_degree" "_law_degree" (qaj qc1) (qaf qc1) (qa4 qc1) .none kV_law_degree dc_law_degree pm_law_degree an_law_degree cd_law_degree ct_law_degree),sl_law_degree⟩) (c_law_degree:PySem.W.codeIn K cd_law_degree "_law_degree"=true) (k_law_degree:PySem.W.keepIn K (.ref f_law_degree)=true)
  (a_law_row:PySem.W.nsIn K mainGlobals "_law_row"=some (some (.ref f_law_row))) (l_law_row:K.lookup f_law_row=some ⟨oc_law_row,od_law_row,.func (PySem.W.fnOf "_law_row" "_law_row" (qaj qdg) (qaf qdg) (qa4 qdg) .none kV_law_row dc_law_row pm_law_row an_law_row cd_law_row ct_law_row),sl_law_row⟩) (c_law_row:PySem.W.codeIn K cd_law_row "_law_row"=true) (k_law_row:PySem.W.keepIn K (.ref f_law_row)=true)
  (a_law_number:PySem.W.nsIn K mainGlobals "_law_number"=some (some (.ref f_law_number))) (l_law_number:K.lookup f_law_number=some ⟨oc_law_number,od_law_number,.func (PySem.W.fnOf "_law_number" "_law_number" (qaj qc0) (qaf qc0) (qa4 qc0) .none kV_law_number dc_law_number pm_law_number an_law_number cd_law_number ct_law_number),sl_law_number⟩) (c_law_number:PySem.W.codeIn K cd_law_number "_law_number"=true) (k_law_number:PySem.W.keepIn K (.ref f_law_number)=true)
  (a_law_sums_product:PySem.W.nsIn K mainGlobals "_law_sums_product"=some (some (.ref f_law_sums_product))) (l_law_sums_product:K.lookup f_law_sums_product=some ⟨oc_law_sums_product,od_law_sums_product,.func (PySem.W.fnOf "_law_sums_product" "_law_sums_product" (qaj qaF) (qaf qaF) (qa4 qaF) .none kV_law_sums_product dc_law_sums_product pm_law_sums_product an_law_sums_product cd_law_sums_product ct_law_sums_product),sl_law_sums_product⟩) (c_law_sums_product:PySem.W.codeIn K cd_law_sums_product "_law_sums_product"=true) (k_law_sums_product:PySem.W.keepIn K (.ref f_law_sums_product)=true)
  (a_law_heads:PySem.W.nsIn K mainGlobals "_law_heads"=some (some (.ref f_law_heads))) (l_law_heads:K.lookup f_law_heads=some ⟨oc_law_heads,od_law_heads,.func (PySem.W.fnOf "_law_heads" "_law_heads" (qaj qcj) (qaf qcj) (qa4 qcj) .none kV_law_heads dc_law_heads pm_law_heads an_law_heads cd_law_heads ct_law_heads),sl_law_heads⟩) (c_law_heads:PySem.W.codeIn K cd_law_heads "_law_heads"=true) (k_law_heads:PySem.W.keepIn K (.ref f_law_heads)=true)
  (a_law_form:PySem.W.nsIn K mainGlobals "_law_form"=some (some (.ref f_law_form))) (l_law_form:K.lookup f_law_form=some ⟨oc_law_form,od_law_form,.func (PySem.W.fnOf "_law_form" "_law_form" (qaj qcK) (qaf qcK) (qa4 qcK) .none kV_law_form dc_law_form pm_law_form an_law_form cd_law_form ct_law_form),sl_law_form⟩) (c_law_form:PySem.W.codeIn K cd_law_form "_law_form"=true) (k_law_form:PySem.W.keepIn K (.ref f_law_form)=true)
  (a_law_product:PySem.W.nsIn K mainGlobals "_law_product"=some (some (.ref f_law_product))) (l_law_product:K.lookup f_law_product=some ⟨oc_law_product,od_law_product,.func (PySem.W.fnOf "_law_product" "_law_product" (qaj qbG) (qaf qbG) (qa4 qbG) .none kV_law_product dc_law_product pm_law_product an_law_product cd_law_product ct_law_product),sl_law_product⟩) (c_law_product:PySem.W.codeIn K cd_law_product "_law_product"=true) (k_law_product:PySem.W.keepIn K (.ref f_law_product)=true)
  (a_law_sum:PySem.W.nsIn K mainGlobals "_law_sum"=some (some (.ref f_law_sum))) (l_law_sum:K.lookup f_law_sum=some ⟨oc_law_sum,od_law_sum,.func (PySem.W.fnOf "_law_sum" "_law_sum" (qaj qdf) (qaf qdf) (qa4 qdf) .none kV_law_sum dc_law_sum pm_law_sum an_law_sum cd_law_sum ct_law_sum),sl_law_sum⟩) (c_law_sum:PySem.W.codeIn K cd_law_sum "_law_sum"=true) (k_law_sum:PySem.W.keepIn K (.ref f_law_sum)=true)
  (a_law_products_of:PySem.W.nsIn K mainGlobals "_law_products_of"=some (some (.ref f_law_products_of))) (l_law_products_of:K.lookup f_law_products_of=some ⟨oc_law_products_of,od_law_products_of,.func (PySem.W.fnOf "_law_products_of" "_law_products_of" (qaj qaK) (qaf qaK) (qa4 qaK) .none kV_law_products_of dc_law_products_of pm_law_products_of an_law_products_of cd_law_products_of ct_law_products_of),sl_law_products_of⟩) (c_law_products_of:PySem.W.codeIn K cd_law_products_of "_law_products_of"=true) (k_law_products_of:PySem.W.keepIn K (.ref f_law_products_of)=true)
  (a_law_field_squares:PySem.W.nsIn K mainGlobals "_law_field_squares"=some (some (.ref f_law_field_squares))) (l_law_field_squares:K.lookup f_law_field_squares=some ⟨oc_law_field_squares,od_law_field_squares,.func (PySem.W.fnOf "_law_field_squares" "_law_field_squares" (qaj qaA) (qaf qaA) (qa4 qaA) .none kV_law_field_squares dc_law_field_squares pm_law_field_squares an_law_field_squares cd_law_field_squares ct_law_field_squares),sl_law_field_squares⟩) (c_law_field_squares:PySem.W.codeIn K cd_law_field_squares "_law_field_squares"=true) (k_law_field_squares:PySem.W.keepIn K (.ref f_law_field_squares)=true)
  (a_law_told:PySem.W.nsIn K mainGlobals "_law_told"=some (some (.ref f_law_told))) (l_law_told:K.lookup f_law_told=some ⟨oc_law_told,od_law_told,.func (PySem.W.fnOf "_law_told" "_law_told" (qaj qcH) (qaf qcH) (qa4 qcH) .none kV_law_told dc_law_told pm_law_told an_law_told cd_law_told ct_law_told),sl_law_told⟩) (c_law_told:PySem.W.codeIn K cd_law_told "_law_told"=true) (k_law_told:PySem.W.keepIn K (.ref f_law_told)=true)
  (a_law:PySem.W.nsIn K mainGlobals "law"=some (some (.ref f_law))) (l_law:K.lookup f_law=some ⟨oc_law,od_law,.func (PySem.W.fnOf "law" "law" (qaj s_law) (qaf s_law) (qa4 s_law) .none kV_law dc_law pm_law an_law cd_law ct_law),sl_law⟩) (c_law:PySem.W.codeIn K cd_law "law"=true) (k_law:PySem.W.keepIn K (.ref f_law)=true)
  (z_ValueError:PySem.W.nsIn K mainGlobals "ValueError"=some none)
  (z_all:PySem.W.nsIn K mainGlobals "all"=some none)
  (z_bool:PySem.W.nsIn K mainGlobals "bool"=some none)
  (z_int:PySem.W.nsIn K mainGlobals "int"=some none)
  (z_isinstance:PySem.W.nsIn K mainGlobals "isinstance"=some none)
  (z_len:PySem.W.nsIn K mainGlobals "len"=some none)
  (z_list:PySem.W.nsIn K mainGlobals "list"=some none)
  (z_max:PySem.W.nsIn K mainGlobals "max"=some none)
  (z_min:PySem.W.nsIn K mainGlobals "min"=some none)
  (z_range:PySem.W.nsIn K mainGlobals "range"=some none)
  (z_reversed:PySem.W.nsIn K mainGlobals "reversed"=some none)
  (z_set:PySem.W.nsIn K mainGlobals "set"=some none)
  (z_str:PySem.W.nsIn K mainGlobals "str"=some none)
  (z_tuple:PySem.W.nsIn K mainGlobals "tuple"=some none)
  (z_zip:PySem.W.nsIn K mainGlobals "zip"=some none)
  {tk_MOST_SIGNS:Tok} (y_MOST_SIGNS:PySem.W.nsIn K mainGlobals "MOST_SIGNS"=some (some (.int 7 tk_MOST_SIGNS)))
  {ad_FIELDS:Addr} (y_FIELDS:PySem.W.nsIn K mainGlobals "FIELDS"=some (some (.ref ad_FIELDS))) (u_FIELDS:qfr K ad_FIELDS qcb=true)
  {c_NoWeb:Addr} (p_NoWeb:PySem.W.nsIn K mainGlobals "NoWeb"=some (some (.ref c_NoWeb)))
  {c_NoText:Addr} (p_NoText:PySem.W.nsIn K mainGlobals "NoText"=some (some (.ref c_NoText)))
  {c_NoNumbers:Addr} (p_NoNumbers:PySem.W.nsIn K mainGlobals "NoNumbers"=some (some (.ref c_NoNumbers)))
  {c_NoField:Addr} (p_NoField:PySem.W.nsIn K mainGlobals "NoField"=some (some (.ref c_NoField)))
  {c_NoThing:Addr} (p_NoThing:PySem.W.nsIn K mainGlobals "NoThing"=some (some (.ref c_NoThing)))
  {c_NoSquare:Addr} (p_NoSquare:PySem.W.nsIn K mainGlobals "NoSquare"=some (some (.ref c_NoSquare)))
  {c_NoPlaces:Addr} (p_NoPlaces:PySem.W.nsIn K mainGlobals "NoPlaces"=some (some (.ref c_NoPlaces)))
  {c_TooMany:Addr} (p_TooMany:PySem.W.nsIn K mainGlobals "TooMany"=some (some (.ref c_TooMany)))
  {c_NoName:Addr} (p_NoName:PySem.W.nsIn K mainGlobals "NoName"=some (some (.ref c_NoName)))
  {c_NoDeed:Addr} (p_NoDeed:PySem.W.nsIn K mainGlobals "NoDeed"=some (some (.ref c_NoDeed)))
  {c_NoRow:Addr} (p_NoRow:PySem.W.nsIn K mainGlobals "NoRow"=some (some (.ref c_NoRow)))
  {c_WebError:Addr} (p_WebError:PySem.W.nsIn K mainGlobals "WebError"=some (some (.ref c_WebError)))
  (e_NoField:PySem.W.excIn K c_NoField veMro "ValueError.__new__"=true)
  (xtab:xtabIn K xcls=true) (xw:xwIn K xcls c_WebError=true)
  : ∃ fd:FuncData,(∀ (s:Shared) (v:Value),BindsTo s fd ⟨[v],[]⟩ [("script",v)])∧∀ base:Heap,K.In base→base.Ns mainGlobals mg→FnOk l.prog w K mg base CX0 10 fa fd ["script"] (spD K 1 m_law):=by
 have e:=hfa.symm.trans (PySem.W.mg_of X G a_law)
 cases e
 have F_is_whole:=qay (st:=qcL) l_is_whole c_is_whole k_is_whole
 have qbg:=F_is_whole.binds (ps:=["thing"]) fun _ _ _ _ _ _ us hl=>match us,hl with | [_],_=>rfl
 have F_is_whole_within:=qay (st:=qaL) l_is_whole_within c_is_whole_within k_is_whole_within
 have qax:=F_is_whole_within.binds (ps:=["thing","least","most"]) fun _ _ _ _ _ _ us hl=>match us,hl with | [_,_,_],_=>rfl
 have F_is_field:=qay (st:=qcM) l_is_field c_is_field k_is_field
 have qbO:=F_is_field.binds (ps:=["thing"]) fun _ _ _ _ _ _ us hl=>match us,hl with | [_],_=>rfl
 have F_require_field:=qay (st:=qbc) l_require_field c_require_field k_require_field
 have qbf:=F_require_field.binds (ps:=["thing"]) fun _ _ _ _ _ _ us hl=>match us,hl with | [_],_=>rfl
 have F_require_things:=qay (st:=qaW) l_require_things c_require_things k_require_things
 have qaZ:=F_require_things.binds (ps:=["q","things"]) fun _ _ _ _ _ _ us hl=>match us,hl with | [_,_],_=>rfl
 have F_row_of:=qay (st:=qdJ) l_row_of c_row_of k_row_of
 have qdP:=F_row_of.binds (ps:=["q","number"]) fun _ _ _ _ _ _ us hl=>match us,hl with | [_,_],_=>rfl
 have F_number_of:=qay (st:=qcg) l_number_of c_number_of k_number_of
 have qcq:=F_number_of.binds (ps:=["q","row"]) fun _ _ _ _ _ _ us hl=>match us,hl with | [_,_],_=>rfl
 have F_added:=qay (st:=qet) l_added c_added k_added
 have qeA:=F_added.binds (ps:=["q","one","other"]) fun _ _ _ _ _ _ us hl=>match us,hl with | [_,_,_],_=>rfl
 have F_times_letter:=qay (st:=qbo) l_times_letter c_times_letter k_times_letter
 have qbt:=F_times_letter.binds (ps:=["q","row"]) fun _ _ _ _ _ _ us hl=>match us,hl with | [_,_],_=>rfl
 have F_multiplied:=qay (st:=qbY) l_multiplied c_multiplied k_multiplied
 have qc5:=F_multiplied.binds (ps:=["q","one","other"]) fun _ _ _ _ _ _ us hl=>match us,hl with | [_,_,_],_=>rfl
 have F_holds_each_once:=qay (st:=qaM) l_holds_each_once c_holds_each_once k_holds_each_once
 have qaP:=F_holds_each_once.binds (ps:=["thing","many"]) fun _ _ _ _ _ _ us hl=>match us,hl with | [_,_],_=>rfl
 have F_column_of:=qay (st:=qcm) l_column_of c_column_of k_column_of
 have qct:=F_column_of.binds (ps:=["rows","y"]) fun _ _ _ _ _ _ us hl=>match us,hl with | [_,_],_=>rfl
 have F_is_square:=qay (st:=qck) l_is_square c_is_square k_is_square
 have qcs:=F_is_square.binds (ps:=["thing"]) fun _ _ _ _ _ _ us hl=>match us,hl with | [_],_=>rfl
 have F_require_square:=qay (st:=qaX) l_require_square c_require_square k_require_square
 have qb0:=F_require_square.binds (ps:=["thing"]) fun _ _ _ _ _ _ us hl=>match us,hl with | [_],_=>rfl
 have F_sign_in:=qay (st:=qde) l_sign_in c_sign_in k_sign_in
 have qcZ:=F_sign_in.binds (ps:=["square","cell"]) fun _ _ _ _ _ _ us hl=>match us,hl with | [_,_],_=>rfl
 have F_lie_across:=qay (st:=qbZ) l_lie_across c_lie_across k_lie_across
 have qbE:=F_lie_across.binds (ps:=["one","other"]) fun _ _ _ _ _ _ us hl=>match us,hl with | [_,_],_=>rfl
 have F_across:=qay (st:=qdK) l_across c_across k_across
 have qdv:=F_across.binds (ps:=["one","other"]) fun _ _ _ _ _ _ us hl=>match us,hl with | [_,_],_=>rfl
 have F_field_row:=qay (st:=qcl) l_field_row c_field_row k_field_row
 have qbX:=F_field_row.binds (ps:=["q","factor","x"]) fun _ _ _ _ _ _ us hl=>match us,hl with | [_,_,_],_=>rfl
 have F_field_square:=qay (st:=qbp) l_field_square c_field_square k_field_square
 have qb9:=F_field_square.binds (ps:=["q","factor"]) fun _ _ _ _ _ _ us hl=>match us,hl with | [_,_],_=>rfl
 have F_field_squares:=qay (st:=qbd) l_field_squares c_field_squares k_field_squares
 have qaz:=F_field_squares.binds (ps:=["q"]) fun _ _ _ _ _ _ us hl=>match us,hl with | [_],_=>rfl
 have F_law_cell_at:=qay (st:=qbI) l_law_cell_at c_law_cell_at k_law_cell_at
 have qbk:=F_law_cell_at.binds (ps:=["script","k"]) fun _ _ _ _ _ _ us hl=>match us,hl with | [_,_],_=>rfl
 have F_law_pot:=qay (st:=qdh) l_law_pot c_law_pot k_law_pot
 have qd0:=F_law_pot.binds (ps:=["cell"]) fun _ _ _ _ _ _ us hl=>match us,hl with | [_],_=>rfl
 have F_law_take:=qay (st:=qcI) l_law_take c_law_take k_law_take
 have qcR:=F_law_take.binds (ps:=["pot","far"]) fun _ _ _ _ _ _ us hl=>match us,hl with | [_,_],_=>rfl
 have F_law_whole:=qay (st:=qch) l_law_whole c_law_whole k_law_whole
 have qb8:=F_law_whole.binds (ps:=["found"]) fun _ _ _ _ _ _ us hl=>match us,hl with | [_],_=>rfl
 have F_law_same:=qay (st:=qcJ) l_law_same c_law_same k_law_same
 have qb1:=F_law_same.binds (ps:=["found","due"]) fun _ _ _ _ _ _ us hl=>match us,hl with | [_,_],_=>rfl
 have F_law_kind_of:=qay (st:=qbH) l_law_kind_of c_law_kind_of k_law_kind_of
 have qbN:=F_law_kind_of.binds (ps:=["e"]) fun _ _ _ _ _ _ us hl=>match us,hl with | [_],_=>rfl
 have F_law_prime:=qay (st:=qci) l_law_prime c_law_prime k_law_prime
 have qcr:=F_law_prime.binds (ps:=["q"]) fun _ _ _ _ _ _ us hl=>match us,hl with | [_],_=>rfl
 have F_law_degree:=qay (st:=qc1) l_law_degree c_law_degree k_law_degree
 have qc8:=F_law_degree.binds (ps:=["q"]) fun _ _ _ _ _ _ us hl=>match us,hl with | [_],_=>rfl
 have F_law_row:=qay (st:=qdg) l_law_row c_law_row k_law_row
 have qdq:=F_law_row.binds (ps:=["number","p","many"]) fun _ _ _ _ _ _ us hl=>match us,hl with | [_,_,_],_=>rfl
 have F_law_number:=qay (st:=qc0) l_law_number c_law_number k_law_number
 have qc7:=F_law_number.binds (ps:=["row","p"]) fun _ _ _ _ _ _ us hl=>match us,hl with | [_,_],_=>rfl
 have F_law_sums_product:=qay (st:=qaF) l_law_sums_product c_law_sums_product k_law_sums_product
 have qaq:=F_law_sums_product.binds (ps:=["one","other","p"]) fun _ _ _ _ _ _ us hl=>match us,hl with | [_,_,_],_=>rfl
 have F_law_heads:=qay (st:=qcj) l_law_heads c_law_heads k_law_heads
 have qbF:=F_law_heads.binds (ps:=["many","p"]) fun _ _ _ _ _ _ us hl=>match us,hl with | [_,_],_=>rfl
 have F_law_form:=qay (st:=qcK) l_law_form c_law_form k_law_form
 have qcS:=F_law_form.binds (ps:=["q"]) fun _ _ _ _ _ _ us hl=>match us,hl with | [_],_=>rfl
 have F_law_product:=qay (st:=qbG) l_law_product c_law_product k_law_product
 have qbM:=F_law_product.binds (ps:=["q","form","one","other"]) fun _ _ _ _ _ _ us hl=>match us,hl with | [_,_,_,_],_=>rfl
 have F_law_sum:=qay (st:=qdf) l_law_sum c_law_sum k_law_sum
 have qdp:=F_law_sum.binds (ps:=["q","one","other","sign"]) fun _ _ _ _ _ _ us hl=>match us,hl with | [_,_,_,_],_=>rfl
 have F_law_products_of:=qay (st:=qaK) l_law_products_of c_law_products_of k_law_products_of
 have qaE:=F_law_products_of.binds (ps:=["q"]) fun _ _ _ _ _ _ us hl=>match us,hl with | [_],_=>rfl
 have F_law_field_squares:=qay (st:=qaA) l_law_field_squares c_law_field_squares k_law_field_squares
 have qau:=F_law_field_squares.binds (ps:=["q"]) fun _ _ _ _ _ _ us hl=>match us,hl with | [_],_=>rfl
 have F_law_told:=qay (st:=qcH) l_law_told c_law_told k_law_told
 have qc6:=F_law_told.binds (ps:=["q"]) fun _ _ _ _ _ _ us hl=>match us,hl with | [_],_=>rfl
 have F_law:=qay (st:=s_law) l_law c_law k_law
 have b_law:=F_law.binds (ps:=["script"]) fun _ _ _ _ _ _ us hl=>match us,hl with | [_],_=>rfl
 let T:Tx K mg:={
  a_is_whole:=f_is_whole,fd_is_whole:=_,d_is_whole:=⟨F_is_whole,PySem.W.mg_of X G a_is_whole,qbg⟩,n_is_whole:=a_is_whole,
  a_is_whole_within:=f_is_whole_within,fd_is_whole_within:=_,d_is_whole_within:=⟨F_is_whole_within,PySem.W.mg_of X G a_is_whole_within,qax⟩,n_is_whole_within:=a_is_whole_within,
  a_is_field:=f_is_field,fd_is_field:=_,d_is_field:=⟨F_is_field,PySem.W.mg_of X G a_is_field,qbO⟩,n_is_field:=a_is_field,
  a_require_field:=f_require_field,fd_require_field:=_,d_require_field:=⟨F_require_field,PySem.W.mg_of X G a_require_field,qbf⟩,n_require_field:=a_require_field,
  a_require_things:=f_require_things,fd_require_things:=_,d_require_things:=⟨F_require_things,PySem.W.mg_of X G a_require_things,qaZ⟩,n_require_things:=a_require_things,
  a_row_of:=f_row_of,fd_row_of:=_,d_row_of:=⟨F_row_of,PySem.W.mg_of X G a_row_of,qdP⟩,n_row_of:=a_row_of,
  a_number_of:=f_number_of,fd_number_of:=_,d_number_of:=⟨F_number_of,PySem.W.mg_of X G a_number_of,qcq⟩,n_number_of:=a_number_of,
  a_added:=f_added,fd_added:=_,d_added:=⟨F_added,PySem.W.mg_of X G a_added,qeA⟩,n_added:=a_added,
  a_times_letter:=f_times_letter,fd_times_letter:=_,d_times_letter:=⟨F_times_letter,PySem.W.mg_of X G a_times_letter,qbt⟩,n_times_letter:=a_times_letter,
  a_multiplied:=f_multiplied,fd_multiplied:=_,d_multiplied:=⟨F_multiplied,PySem.W.mg_of X G a_multiplied,qc5⟩,n_multiplied:=a_multiplied,
  a_holds_each_once:=f_holds_each_once,fd_holds_each_once:=_,d_holds_each_once:=⟨F_holds_each_once,PySem.W.mg_of X G a_holds_each_once,qaP⟩,n_holds_each_once:=a_holds_each_once,
  a_column_of:=f_column_of,fd_column_of:=_,d_column_of:=⟨F_column_of,PySem.W.mg_of X G a_column_of,qct⟩,n_column_of:=a_column_of,
  a_is_square:=f_is_square,fd_is_square:=_,d_is_square:=⟨F_is_square,PySem.W.mg_of X G a_is_square,qcs⟩,n_is_square:=a_is_square,
  a_require_square:=f_require_square,fd_require_square:=_,d_require_square:=⟨F_require_square,PySem.W.mg_of X G a_require_square,qb0⟩,n_require_square:=a_require_square,
  a_sign_in:=f_sign_in,fd_sign_in:=_,d_sign_in:=⟨F_sign_in,PySem.W.mg_of X G a_sign_in,qcZ⟩,n_sign_in:=a_sign_in,
  a_lie_across:=f_lie_across,fd_lie_across:=_,d_lie_across:=⟨F_lie_across,PySem.W.mg_of X G a_lie_across,qbE⟩,n_lie_across:=a_lie_across,
  a_across:=f_across,fd_across:=_,d_across:=⟨F_across,PySem.W.mg_of X G a_across,qdv⟩,n_across:=a_across,
  a_field_row:=f_field_row,fd_field_row:=_,d_field_row:=⟨F_field_row,PySem.W.mg_of X G a_field_row,qbX⟩,n_field_row:=a_field_row,
  a_field_square:=f_field_square,fd_field_square:=_,d_field_square:=⟨F_field_square,PySem.W.mg_of X G a_field_square,qb9⟩,n_field_square:=a_field_square,
  a_field_squares:=f_field_squares,fd_field_squares:=_,d_field_squares:=⟨F_field_squares,PySem.W.mg_of X G a_field_squares,qaz⟩,n_field_squares:=a_field_squares,
  a_law_cell_at:=f_law_cell_at,fd_law_cell_at:=_,d_law_cell_at:=⟨F_law_cell_at,PySem.W.mg_of X G a_law_cell_at,qbk⟩,n_law_cell_at:=a_law_cell_at,
  a_law_pot:=f_law_pot,fd_law_pot:=_,d_law_pot:=⟨F_law_pot,PySem.W.mg_of X G a_law_pot,qd0⟩,n_law_pot:=a_law_pot,
  a_law_take:=f_law_take,fd_law_take:=_,d_law_take:=⟨F_law_take,PySem.W.mg_of X G a_law_take,qcR⟩,n_law_take:=a_law_take,
  a_law_whole:=f_law_whole,fd_law_whole:=_,d_law_whole:=⟨F_law_whole,PySem.W.mg_of X G a_law_whole,qb8⟩,n_law_whole:=a_law_whole,
  a_law_same:=f_law_same,fd_law_same:=_,d_law_same:=⟨F_law_same,PySem.W.mg_of X G a_law_same,qb1⟩,n_law_same:=a_law_same,
  a_law_kind_of:=f_law_kind_of,fd_law_kind_of:=_,d_law_kind_of:=⟨F_law_kind_of,PySem.W.mg_of X G a_law_kind_of,qbN⟩,n_law_kind_of:=a_law_kind_of,
  a_law_prime:=f_law_prime,fd_law_prime:=_,d_law_prime:=⟨F_law_prime,PySem.W.mg_of X G a_law_prime,qcr⟩,n_law_prime:=a_law_prime,
  a_law_degree:=f_law_degree,fd_law_degree:=_,d_law_degree:=⟨F_law_degree,PySem.W.mg_of X G a_law_degree,qc8⟩,n_law_degree:=a_law_degree,
  a_law_row:=f_law_row,fd_law_row:=_,d_law_row:=⟨F_law_row,PySem.W.mg_of X G a_law_row,qdq⟩,n_law_row:=a_law_row,
  a_law_number:=f_law_number,fd_law_number:=_,d_law_number:=⟨F_law_number,PySem.W.mg_of X G a_law_number,qc7⟩,n_law_number:=a_law_number,
  a_law_sums_product:=f_law_sums_product,fd_law_sums_product:=_,d_law_sums_product:=⟨F_law_sums_product,PySem.W.mg_of X G a_law_sums_product,qaq⟩,n_law_sums_product:=a_law_sums_product,
  a_law_heads:=f_law_heads,fd_law_heads:=_,d_law_heads:=⟨F_law_heads,PySem.W.mg_of X G a_law_heads,qbF⟩,n_law_heads:=a_law_heads,
  a_law_form:=f_law_form,fd_law_form:=_,d_law_form:=⟨F_law_form,PySem.W.mg_of X G a_law_form,qcS⟩,n_law_form:=a_law_form,
  a_law_product:=f_law_product,fd_law_product:=_,d_law_product:=⟨F_law_product,PySem.W.mg_of X G a_law_product,qbM⟩,n_law_product:=a_law_product,
  a_law_sum:=f_law_sum,fd_law_sum:=_,d_law_sum:=⟨F_law_sum,PySem.W.mg_of X G a_law_sum,qdp⟩,n_law_sum:=a_law_sum,
  a_law_products_of:=f_law_products_of,fd_law_products_of:=_,d_law_products_of:=⟨F_law_products_of,PySem.W.mg_of X G a_law_products_of,qaE⟩,n_law_products_of:=a_law_products_of,
  a_law_field_squares:=f_law_field_squares,fd_law_field_squares:=_,d_law_field_squares:=⟨F_law_field_squares,PySem.W.mg_of X G a_law_field_squares,qau⟩,n_law_field_squares:=a_law_field_squares,
  a_law_told:=f_law_told,fd_law_told:=_,d_law_told:=⟨F_law_told,PySem.W.mg_of X G a_law_told,qc6⟩,n_law_told:=a_law_told,
  a_law:=fa,fd_law:=_,d_law:=⟨F_law,PySem.W.mg_of X G a_law,b_law⟩,n_law:=a_law,
  nb_ValueError:=PySem.W.mg_none_of X G z_ValueError,
  nb_all:=PySem.W.mg_none_of X G z_all,
  nb_bool:=PySem.W.mg_none_of X G z_bool,
  nb_int:=PySem.W.mg_none_of X G z_int,
  nb_isinstance:=PySem.W.mg_none_of X G z_isinstance,
  nb_len:=PySem.W.mg_none_of X G z_len,
  nb_list:=PySem.W.mg_none_of X G z_list,
  nb_max:=PySem.W.mg_none_of X G z_max,
  nb_min:=PySem.W.mg_none_of X G z_min,
  nb_range:=PySem.W.mg_none_of X G z_range,
  nb_reversed:=PySem.W.mg_none_of X G z_reversed,
  nb_set:=PySem.W.mg_none_of X G z_set,
  nb_str:=PySem.W.mg_none_of X G z_str,
  nb_tuple:=PySem.W.mg_none_of X G z_tuple,
  nb_zip:=PySem.W.mg_none_of X G z_zip,
  tk_MOST_SIGNS:=tk_MOST_SIGNS,g_MOST_SIGNS:=PySem.W.mg_of X G y_MOST_SIGNS,
  ad_FIELDS:=ad_FIELDS,g_FIELDS:=PySem.W.mg_of X G y_FIELDS,n_FIELDS:=y_FIELDS,t_FIELDS:=u_FIELDS,
  c_NoWeb:=c_NoWeb,gc_NoWeb:=PySem.W.mg_of X G p_NoWeb,nc_NoWeb:=p_NoWeb,
  c_NoText:=c_NoText,gc_NoText:=PySem.W.mg_of X G p_NoText,nc_NoText:=p_NoText,
  c_NoNumbers:=c_NoNumbers,gc_NoNumbers:=PySem.W.mg_of X G p_NoNumbers,nc_NoNumbers:=p_NoNumbers,
  c_NoField:=c_NoField,gc_NoField:=PySem.W.mg_of X G p_NoField,nc_NoField:=p_NoField,
  c_NoThing:=c_NoThing,gc_NoThing:=PySem.W.mg_of X G p_NoThing,nc_NoThing:=p_NoThing,
  c_NoSquare:=c_NoSquare,gc_NoSquare:=PySem.W.mg_of X G p_NoSquare,nc_NoSquare:=p_NoSquare,
  c_NoPlaces:=c_NoPlaces,gc_NoPlaces:=PySem.W.mg_of X G p_NoPlaces,nc_NoPlaces:=p_NoPlaces,
  c_TooMany:=c_TooMany,gc_TooMany:=PySem.W.mg_of X G p_TooMany,nc_TooMany:=p_TooMany,
  c_NoName:=c_NoName,gc_NoName:=PySem.W.mg_of X G p_NoName,nc_NoName:=p_NoName,
  c_NoDeed:=c_NoDeed,gc_NoDeed:=PySem.W.mg_of X G p_NoDeed,nc_NoDeed:=p_NoDeed,
  c_NoRow:=c_NoRow,gc_NoRow:=PySem.W.mg_of X G p_NoRow,nc_NoRow:=p_NoRow,
  c_WebError:=c_WebError,gc_WebError:=PySem.W.mg_of X G p_WebError,nc_WebError:=p_WebError,
  xc_NoField:=XCls.of p_NoField (PySem.W.mg_of X G p_NoField) e_NoField,
  xtab:=XTab.of xtab,xw:=xw }
 exact ⟨_,fun s v=>.of_eq rfl,fun base _ _=>ok_law T⟩
theorem walk {l:PySem.W.OpenLaw} {q:Program} {loose:List Str} {XP:(Str→Option Value)→Heap→Prop} {YP:World→Heap→Prop} {d:DefRec} {K:Params→PySem.W.Frag} (hn:l.most=some 63) (hdf:d.params.defaults=[])
  (hY:∀ (w:World) (h:Heap),YP w h→(K w.params).In h) (hK:∀ p,PySem.W.noTabs (K p)=true∧tabsIn (K p) []=true)
  (F:∀ (w:World) (mg:Str→Option Value) (fa:Addr) (h:Heap),(K w.params).In h→h.Ns mainGlobals mg→mg d.name=some (.ref fa) →
   ∃ fd:FuncData,(∀ (s:Shared) (u:Value),BindsTo s fd ⟨[u],[]⟩ [("script",u)])∧∀ base:Heap,(K w.params).In base→base.Ns mainGlobals mg→FnOk l.prog w (K w.params) mg base CX0 10 fa fd ["script"] (spD (K w.params) 1 m_law)) :
  PySem.W.WalkO q loose XP YP l.row.toRowW d [] (fun f vs=>PySem.call f vs) :=
 L2.walk_ofT (ts:=[]) (n:=63) (k:=10) (x:="script") hn (by decide) hdf ⟨rfl,by decide,by decide⟩ (fun w h Y=>⟨hY w h Y,fun _ h=>nomatch h⟩) (fun p=>⟨rfl,(hK p).1,(hK p).2⟩) F law_main
end Ev
def PySem.W.Fast.tw2652922122240456910:Nat:=0
def PySem.W.Fast.tw3304250245648327035:Nat:=0
def PySem.W.Fast.tw15428341318809070925:Nat:=0
def PySem.W.Fast.tw8986297436623408871:Nat:=0
def PySem.W.Fast.tw11635086118094904240:Nat:=0
def PySem.W.Fast.tw11013132979216012296:Nat:=0
def PySem.W.Fast.tw15161950592688543257:Nat:=0
def PySem.W.Fast.tw5955806313763750424:Nat:=0
def PySem.W.Fast.tw7890554509087829197:Nat:=0
def PySem.W.Fast.tw10466551628257935165:Nat:=0
def PySem.W.Fast.tw7744693341105760471:Nat:=0
def PySem.W.Fast.tw8090716089637615601:Nat:=0
def PySem.W.Fast.tw1306961162615406119:Nat:=0
def PySem.W.Fast.tw4406641887508757934:Nat:=0
def PySem.W.Fast.tw15965274164950430369:Nat:=0
def PySem.W.Fast.tw13512657972894480631:Nat:=0
def PySem.W.Fast.tw17820466309142773647:Nat:=0
def PySem.W.Fast.tw2725542958727003691:Nat:=0
def PySem.W.Fast.tw8455517504832074203:Nat:=0
def PySem.W.Fast.tw2503862927775953475:Nat:=0
def PySem.W.Fast.tw16307167444578606269:Nat:=0
def PySem.W.Fast.tw10695579233957755081:Nat:=0
def PySem.W.Fast.tw10817326369526094265:Nat:=0
def PySem.W.Fast.tw11966574355539631469:Nat:=0
def PySem.W.Fast.tw12052256137969242187:Nat:=0
def PySem.W.Fast.tw17917287862925632173:Nat:=0
def PySem.W.Fast.tw14709534916200572645:Nat:=0
def PySem.W.Fast.tw5880906216377893589:Nat:=0
def PySem.W.Fast.tw5995674944670099112:Nat:=0
def PySem.W.Fast.tw13259362556876898121:Nat:=0
def PySem.W.Fast.tw17467102156640768815:Nat:=0
def PySem.W.Fast.tw7239872525347434840:Nat:=0
def PySem.W.Fast.tw18402277600146290710:Nat:=0
def PySem.W.Fast.tw17239700810950153621:Nat:=0
def PySem.W.Fast.tw17309641848811199997:Nat:=0
def PySem.W.Fast.tw230011967153523878:Nat:=0
def PySem.W.Fast.tw7687464902208536582:Nat:=0
def PySem.W.Fast.tw12667666240183463207:Nat:=0
def PySem.W.Fast.tw17371027498340233921:Nat:=0
def PySem.W.Fast.tw2260026731015305214:Nat:=0
def PySem.W.Fast.tw17261090435345875515:Nat:=0
def PySem.W.Fast.tw3081421191403957304:Nat:=0
def PySem.W.Fast.tw2490182156070974650:Nat:=0
def PySem.W.Fast.tw17367367550683085748:Nat:=0
def PySem.W.Fast.tw11700503173674613910:Nat:=0
def PySem.W.Fast.tw5502315047688923596:Nat:=0
def PySem.W.Fast.tw3321940212156940596:Nat:=0
def PySem.W.Fast.tw6591642478381337861:Nat:=0
open PySem PySem.W PyProof.Rows
set_option maxRecDepth 100000 in
set_option maxHeartbeats 0 in
theorem PySem.Challenge.cw_evenwebs_k54_squares_of_fields_holds : PySem.Challenge.rw_evenwebs_k54_squares_of_fields.Holds := by
  w_on; o_law; k_head; (case hw => w_witness2)
  k_fill
  refine Ev.walk (l := PySem.Challenge.rw_evenwebs_k54_squares_of_fields) rfl rfl (fun w h Y => PySem.W.kIn_of Y) (fun p => ⟨by kernel_rfl, by kernel_rfl⟩) ?F
  case F =>
    intro w mg fa h KX G hmg
    refine' Ev.all_mk KX G hmg ?a_is_whole ?l_is_whole ?c_is_whole ?k_is_whole ?a_is_whole_within ?l_is_whole_within ?c_is_whole_within ?k_is_whole_within ?a_is_field ?l_is_field ?c_is_field ?k_is_field ?a_require_field ?l_require_field ?c_require_field ?k_require_field ?a_require_things ?l_require_things ?c_require_things ?k_require_things ?a_row_of ?l_row_of ?c_row_of ?k_row_of ?a_number_of ?l_number_of ?c_number_of ?k_number_of ?a_added ?l_added ?c_added ?k_added ?a_times_letter ?l_times_letter ?c_times_letter ?k_times_letter ?a_multiplied ?l_multiplied ?c_multiplied ?k_multiplied ?a_holds_each_once ?l_holds_each_once ?c_holds_each_once ?k_holds_each_once ?a_column_of ?l_column_of ?c_column_of ?k_column_of ?a_is_square ?l_is_square ?c_is_square ?k_is_square ?a_require_square ?l_require_square ?c_require_square ?k_require_square ?a_sign_in ?l_sign_in ?c_sign_in ?k_sign_in ?a_lie_across ?l_lie_across ?c_lie_across ?k_lie_across ?a_across ?l_across ?c_across ?k_across ?a_field_row ?l_field_row ?c_field_row ?k_field_row ?a_field_square ?l_field_square ?c_field_square ?k_field_square ?a_field_squares ?l_field_squares ?c_field_squares ?k_field_squares ?a_law_cell_at ?l_law_cell_at ?c_law_cell_at ?k_law_cell_at ?a_law_pot ?l_law_pot ?c_law_pot ?k_law_pot ?a_law_take ?l_law_take ?c_law_take ?k_law_take ?a_law_whole ?l_law_whole ?c_law_whole ?k_law_whole ?a_law_same ?l_law_same ?c_law_same ?k_law_same ?a_law_kind_of ?l_law_kind_of ?c_law_kind_of ?k_law_kind_of ?a_law_prime ?l_law_prime ?c_law_prime ?k_law_prime ?a_law_degree ?l_law_degree ?c_law_degree ?k_law_degree ?a_law_row ?l_law_row ?c_law_row ?k_law_row ?a_law_number ?l_law_number ?c_law_number ?k_law_number ?a_law_sums_product ?l_law_sums_product ?c_law_sums_product ?k_law_sums_product ?a_law_heads ?l_law_heads ?c_law_heads ?k_law_heads ?a_law_form ?l_law_form ?c_law_form ?k_law_form ?a_law_product ?l_law_product ?c_law_product ?k_law_product ?a_law_sum ?l_law_sum ?c_law_sum ?k_law_sum ?a_law_products_of ?l_law_products_of ?c_law_products_of ?k_law_products_of ?a_law_field_squares ?l_law_field_squares ?c_law_field_squares ?k_law_field_squares ?a_law_told ?l_law_told ?c_law_told ?k_law_told ?a_law ?l_law ?c_law ?k_law ?z_ValueError ?z_all ?z_bool ?z_int ?z_isinstance ?z_len ?z_list ?z_max ?z_min ?z_range ?z_reversed ?z_set ?z_str ?z_tuple ?z_zip ?y_MOST_SIGNS ?y_FIELDS ?u_FIELDS ?p_NoWeb ?p_NoText ?p_NoNumbers ?p_NoField ?p_NoThing ?p_NoSquare ?p_NoPlaces ?p_TooMany ?p_NoName ?p_NoDeed ?p_NoRow ?p_WebError ?e_NoField ?xtab ?xw
    (case a_is_whole => k_is)
    (case l_is_whole => k_is)
    (case c_is_whole => k_is)
    (case k_is_whole => k_is)
    (case a_is_whole_within => k_is)
    (case l_is_whole_within => k_is)
    (case c_is_whole_within => k_is)
    (case k_is_whole_within => k_is)
    (case a_is_field => k_is)
    (case l_is_field => k_is)
    (case c_is_field => k_is)
    (case k_is_field => k_is)
    (case a_require_field => k_is)
    (case l_require_field => k_is)
    (case c_require_field => k_is)
    (case k_require_field => k_is)
    (case a_require_things => k_is)
    (case l_require_things => k_is)
    (case c_require_things => k_is)
    (case k_require_things => k_is)
    (case a_row_of => k_is)
    (case l_row_of => k_is)
    (case c_row_of => k_is)
    (case k_row_of => k_is)
    (case a_number_of => k_is)
    (case l_number_of => k_is)
    (case c_number_of => k_is)
    (case k_number_of => k_is)
    (case a_added => k_is)
    (case l_added => k_is)
    (case c_added => k_is)
    (case k_added => k_is)
    (case a_times_letter => k_is)
    (case l_times_letter => k_is)
    (case c_times_letter => k_is)
    (case k_times_letter => k_is)
    (case a_multiplied => k_is)
    (case l_multiplied => k_is)
    (case c_multiplied => k_is)
    (case k_multiplied => k_is)
    (case a_holds_each_once => k_is)
    (case l_holds_each_once => k_is)
    (case c_holds_each_once => k_is)
    (case k_holds_each_once => k_is)
    (case a_column_of => k_is)
    (case l_column_of => k_is)
    (case c_column_of => k_is)
    (case k_column_of => k_is)
    (case a_is_square => k_is)
    (case l_is_square => k_is)
    (case c_is_square => k_is)
    (case k_is_square => k_is)
    (case a_require_square => k_is)
    (case l_require_square => k_is)
    (case c_require_square => k_is)
    (case k_require_square => k_is)
    (case a_sign_in => k_is)
    (case l_sign_in => k_is)
    (case c_sign_in => k_is)
    (case k_sign_in => k_is)
    (case a_lie_across => k_is)
    (case l_lie_across => k_is)
    (case c_lie_across => k_is)
    (case k_lie_across => k_is)
    (case a_across => k_is)
    (case l_across => k_is)
    (case c_across => k_is)
    (case k_across => k_is)
    (case a_field_row => k_is)
    (case l_field_row => k_is)
    (case c_field_row => k_is)
    (case k_field_row => k_is)
    (case a_field_square => k_is)
    (case l_field_square => k_is)
    (case c_field_square => k_is)
    (case k_field_square => k_is)
    (case a_field_squares => k_is)
    (case l_field_squares => k_is)
    (case c_field_squares => k_is)
    (case k_field_squares => k_is)
    (case a_law_cell_at => k_is)
    (case l_law_cell_at => k_is)
    (case c_law_cell_at => k_is)
    (case k_law_cell_at => k_is)
    (case a_law_pot => k_is)
    (case l_law_pot => k_is)
    (case c_law_pot => k_is)
    (case k_law_pot => k_is)
    (case a_law_take => k_is)
    (case l_law_take => k_is)
    (case c_law_take => k_is)
    (case k_law_take => k_is)
    (case a_law_whole => k_is)
    (case l_law_whole => k_is)
    (case c_law_whole => k_is)
    (case k_law_whole => k_is)
    (case a_law_same => k_is)
    (case l_law_same => k_is)
    (case c_law_same => k_is)
    (case k_law_same => k_is)
    (case a_law_kind_of => k_is)
    (case l_law_kind_of => k_is)
    (case c_law_kind_of => k_is)
    (case k_law_kind_of => k_is)
    (case a_law_prime => k_is)
    (case l_law_prime => k_is)
    (case c_law_prime => k_is)
    (case k_law_prime => k_is)
    (case a_law_degree => k_is)
    (case l_law_degree => k_is)
    (case c_law_degree => k_is)
    (case k_law_degree => k_is)
    (case a_law_row => k_is)
    (case l_law_row => k_is)
    (case c_law_row => k_is)
    (case k_law_row => k_is)
    (case a_law_number => k_is)
    (case l_law_number => k_is)
    (case c_law_number => k_is)
    (case k_law_number => k_is)
    (case a_law_sums_product => k_is)
    (case l_law_sums_product => k_is)
    (case c_law_sums_product => k_is)
    (case k_law_sums_product => k_is)
    (case a_law_heads => k_is)
    (case l_law_heads => k_is)
    (case c_law_heads => k_is)
    (case k_law_heads => k_is)
    (case a_law_form => k_is)
    (case l_law_form => k_is)
    (case c_law_form => k_is)
    (case k_law_form => k_is)
    (case a_law_product => k_is)
    (case l_law_product => k_is)
    (case c_law_product => k_is)
    (case k_law_product => k_is)
    (case a_law_sum => k_is)
    (case l_law_sum => k_is)
    (case c_law_sum => k_is)
    (case k_law_sum => k_is)
    (case a_law_products_of => k_is)
    (case l_law_products_of => k_is)
    (case c_law_products_of => k_is)
    (case k_law_products_of => k_is)
    (case a_law_field_squares => k_is)
    (case l_law_field_squares => k_is)
    (case c_law_field_squares => k_is)
    (case k_law_field_squares => k_is)
    (case a_law_told => k_is)
    (case l_law_told => k_is)
    (case c_law_told => k_is)
    (case k_law_told => k_is)
    (case a_law => k_is)
    (case l_law => k_is)
    (case c_law => k_is)
    (case k_law => k_is)
    (case z_ValueError => k_is)
    (case z_all => k_is)
    (case z_bool => k_is)
    (case z_int => k_is)
    (case z_isinstance => k_is)
    (case z_len => k_is)
    (case z_list => k_is)
    (case z_max => k_is)
    (case z_min => k_is)
    (case z_range => k_is)
    (case z_reversed => k_is)
    (case z_set => k_is)
    (case z_str => k_is)
    (case z_tuple => k_is)
    (case z_zip => k_is)
    (case y_MOST_SIGNS => k_is)
    (case y_FIELDS => k_is)
    (case u_FIELDS => kernel_rfl)
    (case p_NoWeb => k_is)
    (case p_NoText => k_is)
    (case p_NoNumbers => k_is)
    (case p_NoField => k_is)
    (case p_NoThing => k_is)
    (case p_NoSquare => k_is)
    (case p_NoPlaces => k_is)
    (case p_TooMany => k_is)
    (case p_NoName => k_is)
    (case p_NoDeed => k_is)
    (case p_NoRow => k_is)
    (case p_WebError => k_is)
    (case e_NoField => k_exc)
    (case xtab => kernel_rfl)
    (case xw => kernel_rfl)
